import PyProof.Rows.All
import Wide.All
import OpenK.AllK
import Wide.FinOn
import Lean
import PyProof.EqAt
import PyProof.EqKinds
import PyProof.TupleCall
import PyProof.ExcBaseAll.ValueError
import PyProof.EnumMake
import PyProof.Rows.EnumRows
import PyProof.TupleIter
import PyProof.DictValues
import PyProof.CollectStr
import PySem.Builtin.Int.W1All
import PyProof.DictRoadsH
import PyProof.DictKinds
import PyProof.FactsAll.NoneType
import KE.KRevIter
import PyProof.FactsAll.list_3
import KE.KDictList
import PyProof.DictIter
import PyProof.DictWalks
import PyProof.ListRange
import PyProof.DictItems
import KE.KPairComp
import PyProof.FactsAll.dict_3
import PyProof.CollectIter
import PyProof.TupleOfGen
import PyProof.TupleOfSeq
import PyProof.FactsAll.subtypes_4
import PyProof.ZipIter
import KE.KDictLaws
import KE.KSortTup
import PyProof.FactsAll.tuple_2
import PyProof.FactsAll.tuple_3
import PySem.Challenge.RW_wormyard_k25_whole_made_tables
set_option compiler.extract_closed false
set_option Elab.async false
set_option linter.all false
set_option maxRecDepth 100000
set_option maxHeartbeats 4000000
theorem η0(h:1=1:=by rfl):1=1:=h
def η:=η0._auto_1
theorem θ0(h:1=1:=by decide):1=1:=h
def θ:=θ0._auto_1
theorem ζ0(h:1=1:=by first | exact .inl rfl | exact .inr rfl | assumption):1=1:=h
def ζ:=ζ0._auto_1
theorem ξ0(h:1=1:=by decide +kernel):1=1:=h
def ξ:=ξ0._auto_1
theorem ψ0(h:1=1:=by intro _;rfl):1=1:=h
def ψ:=ψ0._auto_1
open PySem.W (Frag keepIn findIn fnOf codeIn nsIn mg_of isFn kitOne hasDictIn mg_none_of plainGet plainOver makesIn)
open List (getElem?_eq_getElem getElem?_map getElem?_append_left find?_cons getElem?_set_ne getElem?_concat_length getElem?_append_right all_cons all_eq_true all_map any_cons append_assoc append_nil drop_eq_getElem_cons drop_eq_nil_iff drop_sublist drop_zero extract_eq_drop_take filterMap_cons filter_append filter_congr filter_cons_of_neg filter_cons_of_pos flatMap_append foldl_append foldl_cons getD_eq_getElem?_getD getElem_drop getElem_idxOf getElem_inj getElem_map getElem_mem getElem_of_mem getElem_take idxOf_lt_length_of_mem isEmpty_iff length_append length_cons length_drop length_filter_le length_map length_nil length_pos_iff length_range length_replicate length_reverse length_set length_singleton length_take length_take_le lookup_cons map_append map_congr_left map_cons map_id map_map map_nil mem_append mem_append_left mem_append_right mem_cons mem_cons_of_mem mem_cons_self mem_filter mem_flatMap mem_map mem_of_getElem? mem_of_mem_drop mem_of_mem_take mem_range mem_singleton nil_append nodup_append nodup_cons nodup_nil not_mem_nil of_mem_zip pairwise_append pairwise_cons pairwise_iff_getElem pairwise_lt_range pairwise_map pairwise_singleton perm_append_comm range_succ size_toArray take_append_drop take_length take_of_length_le take_sublist take_succ take_zero)
open Nat (add_le_add_left add_zero eq_of_testBit_eq le_of_eq le_succ le_trans lt_irrefl lt_of_le_of_lt lt_of_lt_of_le lt_of_not_le lt_or_ge lt_succ_of_lt lt_succ_self max_eq_right min_eq_left ne_of_gt ne_of_lt not_lt_zero pow_le_pow_right succ_mul testBit_lt_two_pow testBit_or testBit_two_pow two_pow_pos zero_le zero_testBit)
open Int (emod_eq_of_lt emod_lt_of_pos emod_nonneg fdiv_eq_ediv_of_nonneg natCast_add natCast_nonneg natCast_pow ofNat_lt one_mul toNat_natCast toNat_of_nonneg)
open PySem.F (entry_dict_get plainAttrs_dict plainAttrs_list slot_dict_get)
open PySem.Heap (lt_size size_push size_update)
noncomputable section
abbrev L2.zQ0:PySem.Scope:={kind:=.function,names:=[],isGenerator:=false,isCoroutine:=false}
theorem L2.gQ0 {α:Type}{l:List α}{i:Nat}{a:α}(h:l[i]?=some a):i<l.length:=(List.getElem?_eq_some_iff.mp h).1
namespace L2
theorem lqq {α:Type}{n:Nat}{l:List α}(h:l.length=n + 1):∃ a t,l=a :: t/\t.length=n:=by
 cases l with
 | nil=>cases h
 | cons a t=>exact⟨a,t,rfl,Nat.succ.inj h⟩
open PySem PySem.Spec PyProof.Rows
abbrev Key:=Sum Int Str
noncomputable def k6:Key->Value->Bool
 | .inl k,v=>Value.isInt k v
 | .inr x,v=>Value.isStrOf x v
noncomputable def N2 (w:World):Key->Int
 | .inl k=>hashInt k
 | .inr x=>hashStr w x
theorem b7:∀ {k:Key}{v:Value},k6 k v=true->(∃ i t,k=Sum.inl i/\v=Value.int i t)∨(∃ x t,k=Sum.inr x/\v=Value.str x t)
 | .inl i,v,h=>by
  obtain⟨t,e⟩:=Value.isInt_shape (k:=i) (v:=v) h
  exact .inl ⟨i,t,rfl,e⟩
 | .inr x,v,h=>by
  obtain⟨t,e⟩:=Value.isStrOf_shape (x:=x) (v:=v) h
  exact .inr ⟨x,t,rfl,e⟩
theorem tO (i:Int)(t:Tok):k6 (.inl i) (.int i t)=true:=by simp[k6,Value.isInt]
theorem tN (x:Str)(t:Tok):k6 (.inr x) (.str x t)=true:=by simp[k6,Value.isStrOf]
theorem Af (a b:Int):decide ((Sum.inl a:Key)=Sum.inl b)=(a == b):=by
 by_cases e:a=b
 ·subst e;simp
 ·have h:¬ (Sum.inl a:Key)=Sum.inl b:=fun q=>e (Sum.inl.inj q)
  rw[decide_eq_false h]
  exact(beq_eq_false_iff_ne.mpr e).symm
theorem Ac (a b:Str):decide ((Sum.inr a:Key)=Sum.inr b)=decide (a=b):=by
 by_cases e:a=b
 ·subst e;simp
 ·have h:¬ (Sum.inr a:Key)=Sum.inr b:=fun q=>e (Sum.inr.inj q)
  rw[decide_eq_false h,decide_eq_false e]
theorem Ae (a:Int)(b:Str):decide ((Sum.inl a:Key)=Sum.inr b)=false:=decide_eq_false (fun q=>nomatch q)
theorem Ad (a:Str)(b:Int):decide ((Sum.inr a:Key)=Sum.inl b)=false:=decide_eq_false (fun q=>nomatch q)
noncomputable def aO (prog:Program)(w:World):PySem.KeyKind prog w Key where
 is:=k6
 hash:=N2 w
 inj:=fun v a b ha hb=>by
  rcases b7 ha with ⟨i,t,rfl,rfl⟩ | ⟨x,t,rfl,rfl⟩
  ·rcases b7 hb with ⟨j,u,rfl,e⟩ | ⟨y,u,rfl,e⟩
   ·injection e with e1 _;rw[e1]
   ·exact nomatch e
  ·rcases b7 hb with ⟨j,u,rfl,e⟩ | ⟨y,u,rfl,e⟩
   ·exact nomatch e
   ·injection e with e1 _;rw[e1]
 byValue:=fun k v h=>by
  rcases b7 h with ⟨i,t,rfl,rfl⟩ | ⟨x,t,rfl,rfl⟩<;>rfl
 pyHash:=fun hv h=>by
  rcases b7 hv with ⟨i,t,rfl,rfl⟩ | ⟨x,t,rfl,rfl⟩
  ·exact wpAny_pyHash_int h
  ·exact wpAny_pyHash_str h
 eqBool:=fun hu hv h=>by
  rcases b7 hu with ⟨i,t,rfl,rfl⟩ | ⟨x,t,rfl,rfl⟩
  ·rcases b7 hv with ⟨j,u,rfl,rfl⟩ | ⟨y,u,rfl,rfl⟩
   ·rw[Af]at h;exact wpAny_eqBool_int h
   ·rw[Ae]at h;exact SeqAt.EqAt.int_str i t y u _ _ _ _ h
  ·rcases b7 hv with ⟨j,u,rfl,rfl⟩ | ⟨y,u,rfl,rfl⟩
   ·rw[Ad]at h;exact SeqAt.EqAt.str_int x t j u _ _ _ _ h
   ·rw[Ac]at h;exact wpAny_eqBool_str h
 «strs»:=fun k x t v h=>by
  rcases b7 h with ⟨i,u,rfl,e⟩ | ⟨y,u,rfl,e⟩
  ·exact nomatch e
  ·injection e with e1 _
   subst e1
   cases v<;>rfl
theorem oT (prog:Program)(w:World)(i:Int)(t:Tok):(aO prog w).is (.inl i) (.int i t)=true:=tO i t
theorem oS (prog:Program)(w:World)(x:Str)(t:Tok):(aO prog w).is (.inr x) (.str x t)=true:=tN x t
open PySem.Spec PyProof.Rows
inductive V where
 | AZ | bl (b:Bool) | int (i:Int) | str (x:Str) | DU (b:Array UInt8) | GL (b:UInt64) | ref (a:Addr) | ty (n:String)
 deriving DecidableEq
noncomputable def RelV:V->Value->Prop
 | .AZ,u=>u=Value.none
 | .bl b,u=>u=Value.bool b
 | .int i,u=>∃ t,u=Value.int i t
 | .str x,u=>∃ t,u=Value.str x t
 | .DU b,u=>∃ t,u=Value.bytes b t
 | .GL b,u=>∃ t,u=Value.float b t
 | .ref a,u=>u=Value.ref a
 | .ty n,u=>u=Value.type n
abbrev Vals:List V->List Value->Prop:=Paired RelV
theorem Vals.length {xs:List V}{us:List Value}(r:Vals xs us):xs.length=us.length:=Paired.length r
theorem Vals.get:∀ {xs:List V}{us:List Value}{i:Nat}{x:V},Vals xs us->xs[i]? = some x->∃ u,us[i]? = some u/\RelV x u
 | _,_,_,_, .nil,e=>by simp at e
 | _,_,0,_, .cons r _,e=>by simp at e;subst e;exact⟨_,rfl,r⟩
 | _,_,i + 1,x, .cons _ t,e=>by
  obtain⟨u,h1,h2⟩:=Vals.get (i:=i) (x:=x) t (by simpa using e)
  exact⟨u,by simpa using h1,h2⟩
theorem Vals.set {x:V}{u:Value}(r:RelV x u):∀ {xs:List V}{us:List Value}(i:Nat),Vals xs us->Vals (xs.set i x) (us.set i u)
 | _,_,_, .nil => .nil
 | _,_,0, .cons _ t => .cons r t
 | _,_,i + 1, .cons q t => .cons q (Vals.set r i t)
theorem Vals.append:∀ {xs ys:List V}{us ws:List Value},Vals xs us->Vals ys ws->Vals (xs ++ ys) (us ++ ws)
 | _,_,_,_, .nil,s=>s
 | _,_,_,_, .cons r t,s => .cons r (Vals.append t s)
theorem Vals.take:∀ {xs:List V}{us:List Value}(n:Nat),Vals xs us->Vals (xs.take n) (us.take n)
 | _,_,0,_ => .nil
 | _,_,_ + 1, .nil => .nil
 | _,_,n + 1, .cons r t => .cons r (Vals.take n t)
theorem Vals.drop:∀ {xs:List V}{us:List Value}(n:Nat),Vals xs us->Vals (xs.drop n) (us.drop n)
 | _,_,0,r=>r
 | _,_,_ + 1, .nil => .nil
 | _,_,n + 1, .cons _ t=>Vals.drop n t
theorem Vals.none_of:∀ {xs:List V}{us:List Value}{i:Nat},Vals xs us->xs[i]? = none->us[i]? = none:=fun {xs us i} r e=>by
 have h1:=r.length
 have h2:xs.length <= i:=List.getElem?_eq_none_iff.mp e
 exact List.getElem?_eq_none_iff.mpr (by omega)
noncomputable def Bw:Option V->Option Value->Prop
 | some v,some u=>RelV v u
 | none,none=>True
 | _,_=>False
noncomputable def KV {κ:Type}:List (κ × V)->List (κ × Value)->Prop:=Paired fun (p:κ × V)(q:κ × Value)=>p.1=q.1/\RelV p.2 q.2
noncomputable def kV:Key->V
 | .inl i => .int i
 | .inr x => .str x
inductive HO where
  | lst (xs:List V)
  | tup (xs:List V)
  | dK (kvs:List (Key × V)) | dT (kvs:List (List Key × V))
  | set (S:Int->Bool) (n:Nat)
  | ins (C dx:Addr) (fs:List (Str × V))
  | own (x:Addr)
  | xd (fs:List (Str × V))
  | met (f x:Addr)
  | N3 (lo hi:Int)
  | B2 (o:Obj) (u:HO)
  | GN (ps:Array Value)
  | ext (φ:Heap->Prop)
abbrev Hp:=Addr->Option HO
noncomputable def aw (H:Hp)(a:Addr)(o:HO):Hp:=fun b=>if b=a then some o else H b
theorem ad {H:Hp}{a:Addr}{o:HO}:aw H a o a=some o:=by unfold aw;rw[if_pos rfl]
theorem ai {H:Hp}{a b:Addr}{o:HO}(h:b ≠ a):aw H a o b=H b:=by unfold aw;rw[if_neg h]
theorem wW {H:Hp}{a:Addr}{o u:HO}:aw (aw H a o) a u=aw H a u:=by
 funext b;unfold aw;split<;>rfl
theorem fB {H:Hp}{a b:Addr}{o u:HO}(h:H a=some o)(h':H b=some u)(d:o ≠ u):a ≠ b:=by
 intro e;subst e;rw[h]at h';exact d (Option.some.inj h')
theorem ah {H:Hp}{a b:Addr}{o:HO}(h:H a=some o)(h':H b=none):a ≠ b:=by
 intro e;subst e;rw[h]at h';cases h'
noncomputable def B7 (h:Heap)(a:Addr)(items:Array Value):Prop:=∃ o,h.get? a=some o/\(o.cls = .type "tuple"/\∃ n,o.data = .seq items n)/\o.dict=none
theorem B7.isTup {h:Heap}{a:Addr}{items:Array Value}:B7 h a items->IsTup h a items:=fun AL=>by obtain⟨o,e,c,_⟩:=AL;exact⟨o,e,c⟩
theorem B7.new (h:Heap)(items:Array Value):B7 (h.push { cls := .type "tuple",data := .seq items }) h.objs.size items:=⟨_,Heap.get?_push_size _ rfl,⟨rfl,_,rfl⟩,rfl⟩
section
variable (P:Program)(w:World)
noncomputable def Be (H:Hp)(h:Heap)(a:Addr):HO->Prop
 | .lst xs=>xs.length <= sizeLine/\∃ (AM:List Value)(n:Nat),Vals xs AM/\h.get? a=some { cls := .type "list",data := .seq AM.toArray n }
 | .tup xs=>xs.length <= sizeLine/\∃ AM:List Value,Vals xs AM/\B7 h a AM.toArray
 | .dK kvs=>kvs.length <= sizeLine/\(a == sysModules)=false/\∃ vs,KV kvs vs/\h.DictOf (aO P w) a vs
 | .dT kvs=>kvs.length <= sizeLine/\(a == sysModules)=false/\∃ xs:List (List Key × Addr × Value),
   Paired (fun (p:List Key × V)(q:List Key × Addr × Value)=>p.1=q.1/\H q.2.1=some (.tup (p.1.map kV))/\RelV p.2 q.2.2) kvs xs /\
   ∃ o es ep,h.get? a=some o/\o.ExactDict/\o.data = .dict es ep/\es.toList=xs.map (entryOfKey (tupleKind (aO P w)))/\(xs.map (·.1)).Nodup
 | .set S n=>h.SetOf (intKind P w) a S n
 | .ins C dx fs=>H dx=some (.own a)/\fs.length <= 1000/\dx ≠ a/\h.get? a=some (PySem.W.instObj C dx) /\
   ∃ mA,h.Ns1 dx mA/\(∀ f,Bw (fs.lookup f) (mA f))/\PySem.Within mA (fs.map (·.1))
 | .own _=>∃ o,h.get? a=some o
 | .xd fs=>∃ mA,h.Ns1 a mA/\∀ f,Bw (fs.lookup f) (mA f)
 | .N3 lo hi=>∃ t u v,h.get? a=some { cls := .type "range",data := .fields #[.int lo t, .int hi u, .int 1 v] }
 | .B2 o u=>h.get? a=some o/\Be H h a u
 | .GN ps=>h.get? a=some { cls := .none,data := .fields ps }
 | .met f x=>h.get? a=some (PySem.W.methodObj (.ref f) (.ref x))
 | .ext φ=>φ h/\(∃ o,h.get? a=some o)/\∀ h1 h2:Heap,φ h1->(∀ o,h1.get? a=some o->h2.get? a=some o)->φ h2
noncomputable def B8 (H:Hp)(h:Heap):Prop:=∀ a o,H a=some o->Be P w H h a o
end
section
variable {P:Program}{w:World}{H H':Hp}{h h':Heap}{a:Addr}{o:HO}
theorem Be.lt (x:Be P w H h a o):a < h.objs.size:=by
 cases o with
 | lst xs=>obtain⟨_,_,_,_,e⟩:=x;exact lt_size e
 | tup xs=>obtain⟨_,_,_,p⟩:=x;exact p.isTup.lt
 | dK kvs=>obtain⟨_,_,_,_,o,_,_,e,_⟩:=x;exact lt_size e
 | dT kvs=>obtain⟨_,_,_,_,o,_,_,e,_⟩:=x;exact lt_size e
 | set S n=>obtain⟨o,_,_,_,e,_⟩:=x;exact lt_size e
 | ins C dx fs=>obtain⟨_,_,_,e,_⟩:=x;exact lt_size e
 | own y=>obtain⟨_,e⟩:=x;exact lt_size e
 | xd fs=>obtain⟨_,⟨_,_,_,e,_⟩,_⟩:=x;exact lt_size e
 | N3 lo hi=>obtain⟨_,_,_,e⟩:=x;exact lt_size e
 | B2 ob u=>obtain⟨e,_⟩:=x;exact lt_size e
 | GN ps=>exact lt_size (show h.get? a=some _ from x)
 | met f y=>exact lt_size (show h.get? a=some _ from x)
 | ext φ=>obtain⟨_,⟨_,e⟩,_⟩:=x;exact lt_size e
theorem Paired.GO {α β:Type}{F G:α->β->Prop}:∀ {l₁:List α}{l₂:List β},Paired F l₁ l₂->(∀ a b,F a b->G a b)->Paired G l₁ l₂
 | _,_, .nil,_ => .nil
 | _,_, .cons r t,f => .cons (f _ _ r) (Paired.GO t f)
theorem Be.B9 (x:Be P w H h a o)(k:∀ b u,(b=a∨H b=some (.own a))->h.get? b=some u->h'.get? b=some u)
  (ho:∀ b,H b=some (.own a)->H' b=some (.own a)) (ht:∀ b xs,H b=some (.tup xs)->H' b=some (.tup xs)):Be P w H' h' a o:=by
 induction o with
 | lst xs=>obtain⟨z,AM,n,r,e⟩:=x;exact⟨z,AM,n,r,k _ _ (.inl rfl) e⟩
 | tup xs=>obtain⟨z,AM,r,ob,e,c⟩:=x;exact⟨z,AM,r,ob,k _ _ (.inl rfl) e,c⟩
 | dK kvs=>obtain⟨z,y,vs,r,ob,es,ep,e,c⟩:=x;exact⟨z,y,vs,r,ob,es,ep,k _ _ (.inl rfl) e,c⟩
 | dT kvs =>
  obtain⟨z,y,xs,r,ob,es,ep,e,c⟩:=x
  exact⟨z,y,xs,Paired.GO r fun p q z=>⟨z.1,ht _ _ z.2.1,z.2.2⟩,ob,es,ep,k _ _ (.inl rfl) e,c⟩
 | set S n=>obtain⟨ob,es,ep,t,e,c⟩:=x;exact⟨ob,es,ep,t,k _ _ (.inl rfl) e,c⟩
 | ins C dx fs =>
  obtain⟨d,z,ne,e,mA,⟨od,es,ep,e2,c⟩,r⟩:=x
  exact⟨ho _ d,z,ne,k _ _ (.inl rfl) e,mA,⟨od,es,ep,k _ _ (.inr d) e2,c⟩,r⟩
 | own y=>obtain⟨ob,e⟩:=x;exact⟨ob,k _ _ (.inl rfl) e⟩
 | xd fs=>obtain⟨mA,⟨od,es,ep,e,c⟩,r⟩:=x;exact⟨mA,⟨od,es,ep,k _ _ (.inl rfl) e,c⟩,r⟩
 | N3 lo hi=>obtain⟨t,u,v,e⟩:=x;exact⟨t,u,v,k _ _ (.inl rfl) e⟩
 | B2 ob u ih=>obtain⟨e,q⟩:=x;exact⟨k _ _ (.inl rfl) e,ih q⟩
 | GN ps =>
  have e:h.get? a=some { cls := .none,data := .fields ps }:=x
  show h'.get? a=some { cls := .none,data := .fields ps }
  exact k a _ (.inl rfl) e
 | met f y =>
  have e:h.get? a=some (PySem.W.methodObj (.ref f) (.ref y)):=x
  show h'.get? a=some (PySem.W.methodObj (.ref f) (.ref y))
  exact k a _ (.inl rfl) e
 | ext φ=>obtain⟨p,⟨o,e⟩,st⟩:=x;exact⟨st _ _ p fun o q=>k _ _ (.inl rfl) q,⟨o,k _ _ (.inl rfl) e⟩,st⟩
theorem B8.lt (x:B8 P w H h)(e:H a=some o):a < h.objs.size:=(x a o e).lt
theorem B8.fresh (x:B8 P w H h)(e:h.objs.size <= a):H a=none:=by
 cases q:H a with
 | none=>rfl
 | some u=>exact absurd (lt_of_lt_of_le (x.lt q) e) (lt_irrefl _)
theorem B8.kept (x:B8 P w H h)(k:∀ b u,h.get? b=some u->h'.get? b=some u):B8 P w H h':=fun a o e =>
 (x a o e).B9 (fun b u _ q=>k b u q) (fun _ q=>q) fun _ _ q=>q
theorem B8.laid (x:B8 P w H h)(k:∀ b u,h.get? b=some u->h'.get? b=some u)(hp:h.objs.size <= a)(new:Be P w (aw H a o) h' a o):B8 P w (aw H a o) h':=fun b u e=>by
 have hn:=x.fresh hp
 by_cases hb:b=a
 ·subst hb;rw[ad]at e;cases e;exact new
 ·rw[ai hb]at e
  exact(x b u e).B9 (fun c v _ q=>k c v q) (fun c q=>by rw[ai (ah q hn)];exact q) fun c xs q=>by rw[ai (ah q hn)];exact q
end
noncomputable def Rd (H:Hp)(a:Addr)(u:HO):Prop:=H a=some u∨∃ o,H a=some (.B2 o u)
theorem Rd.ok {P:Program}{w:World}{H:Hp}{h:Heap}{a:Addr}{u:HO}(r:Rd H a u)(x:B8 P w H h):Be P w H h a u:=by
 rcases r with r | ⟨o,r⟩
 ·exact x a u r
 ·obtain⟨_,q⟩:=x a _ r
  exact q
noncomputable def Iq:Option HO->Prop
 | some (.lst _)=>True
 | some (.dK _)=>True
 | some (.dT _)=>True
 | some (.set _ _)=>True
 | some (.ins _ _ _)=>True
 | some (.ext _)=>True
 | _=>False
section
variable {P:Program}{w:World}{H:Hp}{h h':Heap}{x e:Addr}{o':HO}
theorem B8.write (ok:B8 P w H h)(mu:Iq (H x))(he:e=x∨H e=some (.own x))(k:∀ b u,b ≠ e->h.get? b=some u->h'.get? b=some u)(HN:∃ u,h'.get? e=some u)
  (new:Be P w (aw H x o') h' x o'):B8 P w (aw H x o') h':=fun b u q=>by
 have Ir:∀ c y,H c=some (.own y)->c ≠ x:=fun c y r z=>by subst z;rw[r]at mu;exact mu
 have N4:∀ c xs,H c=some (.tup xs)->c ≠ x:=fun c xs r z=>by subst z;rw[r]at mu;exact mu
 by_cases hb:b=x
 ·subst hb;rw[ad]at q;cases q;exact new
 ·rw[ai hb]at q
  by_cases GP:b=e
  ·have q':H b=some (.own x):=by
    rcases he with z | z
    ·exact absurd (GP.trans z) hb
    ·rw[GP];exact z
   rw[q]at q';cases q'
   obtain⟨v,hv⟩:=HN
   exact⟨v,by rw[GP];exact hv⟩
  ·refine(ok b u q).B9 (fun c v hc r=>k c v ?_ r) (fun c r=>by rw[ai (Ir c b r)];exact r) fun c xs r=>by rw[ai (N4 c xs r)];exact r
   rcases hc with rfl | hc
   ·exact GP
   ·rintro rfl
    rcases he with z | z
    ·exact Ir c b hc z
    ·rw[hc]at z;cases z;exact hb rfl
end
structure Un (fs ex:List Addr)(H H':Hp)(h h':Heap):Prop where
 keep:∀ b o,h.get? b=some o->H b=none->b ∉ fs->b ∉ ex->h'.get? b=some o
 slot:∀ b o,h.get? b=some o->H b=none->b ∈ fs->b ∉ ex->∃ sl,h'.get? b=some { o with slots:=sl }
 free:∀ b o,h.get? b=some o->H b=none->b ∉ ex->H' b=none
 there:∀ b o,h.get? b=some o->b ∉ ex->∃ o',h'.get? b=some o'
 C3:∀ b xs,H b=some (.tup xs)->H' b=some (.tup xs)
 Cr:∀ b o u,H b=some (.B2 o u)->H' b=some (.B2 o u)
 C4:∀ b ps,H b=some (.GN ps)->∃ more,H' b=some (.GN (ps ++ more))
section
variable {fs Bh ex ex':List Addr}{H H1 H2:Hp}{h h1 h2 h':Heap}{a x e:Addr}{o:HO}
theorem Un.any (u:Un fs ex H H1 h h1){b:Addr}{ob:Obj}(q:h.get? b=some ob)(n:H b=none)(hx:b ∉ ex):∃ sl,h1.get? b=some { ob with slots:=sl }:=by
 by_cases hb:b ∈ fs
 ·exact u.slot b ob q n hb hx
 ·exact⟨ob.slots,u.keep b ob q n hb hx⟩
theorem Un.kept (k:∀ b u,h.get? b=some u->h'.get? b=some u):Un fs ex H H h h' :=
 ⟨fun b ob q _ _ _=>k b ob q,fun b ob q _ _ _=>⟨ob.slots,k b ob q⟩,fun _ _ _ n _=>n,fun b ob q _=>⟨ob,k b ob q⟩,fun _ _ q=>q,fun _ _ _ q=>q,fun _ ps q=>⟨#[],by rw[q];simp⟩⟩
theorem Un.refl:Un fs ex H H h h:=Un.kept fun _ _ q=>q
theorem Un.laid (k:∀ b u,h.get? b=some u->h'.get? b=some u)(hp:h.objs.size <= a)(hn:H a=none):Un fs ex H (aw H a o) h h' where
 keep:=fun b u q _ _ _=>k b u q
 slot:=fun b u q _ _ _=>⟨u.slots,k b u q⟩
 free:=fun b u q n _=>by rw[ai (ne_of_lt (lt_of_lt_of_le (lt_size q) hp))];exact n
 there:=fun b u q _=>⟨u,k b u q⟩
 C3:=fun b xs q=>by rw[ai (ah q hn)];exact q
 Cr:=fun b u xs q=>by rw[ai (ah q hn)];exact q
 C4:=fun b ps q=>⟨#[],by rw[ai (ah q hn),q];simp⟩
theorem Un.write (mu:Iq (H x))(he:e=x∨H e=some (.own x))(k:∀ b u,b ≠ e->h.get? b=some u->h'.get? b=some u)(HN:∃ u,h'.get? e=some u):Un fs ex H (aw H x o) h h':=by
 have hx:∀ b,H b=none->b ≠ x:=fun b n z=>by subst z;rw[n]at mu;exact mu
 have hb:∀ b,H b=none->b ≠ e:=fun b n z=>by
  subst z
  rcases he with r | r
  ·exact hx b n r
  ·rw[n]at r;cases r
 have hm:∀ b u,H b=some u->¬ Iq (some u)->b ≠ x:=fun b u q nm z=>by subst z;rw[q]at mu;exact nm mu
 refine⟨fun b u q n _ _=>k b u (hb b n) q,fun b u q n _ _=>⟨u.slots,k b u (hb b n) q⟩,fun b u q n _=>by rw[ai (hx b n)];exact n,fun b u q _=>?_,
  fun b xs q=>by rw[ai (hm b _ q fun z=>z)];exact q,fun b u xs q=>by rw[ai (hm b _ q fun z=>z)];exact q,fun b ps q=>⟨#[],by rw[ai (hm b _ q fun z=>z),q];simp⟩⟩
 by_cases GP:b=e
 ·subst GP;exact HN
 ·exact⟨u,k b u GP q⟩
end
noncomputable def LN (h:Heap)(H:Hp):List Addr:=(List.range h.objs.size).filter fun a=>(H a).isSome
noncomputable def nv (h:Heap)(H:Hp):Heap:=PySem.W.hideAll h (LN h H)
theorem tS (h:Heap)(H:Hp):(nv h H).objs.size=h.objs.size:=PySem.W.hideAll_size _ _
theorem wo {h:Heap}{H:Hp}{b:Addr}{o:Obj}(e:h.get? b=some o)(n:H b=none):(nv h H).get? b=some o :=
 PySem.W.hideAll_get _ e fun hm=>by
  have q:(H b).isSome=true:=(mem_filter.mp hm).2
  rw[n]at q;simp at q
theorem xR {h:Heap}{H:Hp}{b:Addr}{o:Obj}(e:(nv h H).get? b=some o):h.get? b=some o/\H b=none:=by
 have e':h.get? b=some o:=PySem.W.of_hideAll (LN h H) e
 refine⟨e',?_⟩
 cases q:H b with
 | none=>rfl
 | some x =>
  have hm:b ∈ LN h H:=mem_filter.mpr ⟨mem_range.mpr (lt_size e'),by simp[q]⟩
  have z:(nv h H).get? b=none:=PySem.W.hideAll_none (LN h H) hm
  rw[z]at e;cases e
structure Mod (K:Frag)(mg:Str->Option Value)(base:Heap):Prop where
 HP:K.In base
 glob:base.Ns mainGlobals mg
 blt:∃ mb,base.Ns builtinsNs mb/\∀ x:Str,x ≠ "__name__"->mb x=bootBuiltins x
 nolimit:base.NoLimit
structure Cx where
 prog:Program
 w:World
 K:Frag
 mg:Str->Option Value
 base:Heap
 A:Around
 N:List Str
 s₀:Shared
 H₀:Hp
 env:Env
 outer:List Env
 stack:List Env
 ex:List Addr
 fn:Str->Bool
 calm:Bool
 pn:List (Addr × Obj)
 xe:Value->Shared->Prop
noncomputable def sC (l:List Env):List Addr:=l.filterMap (·.frame)
abbrev Cx.fs (X:Cx):List Addr:=sC X.outer
noncomputable def LO (sc:Scope)(x:Str):Prop:=sc.names.lookup x=some .local∨sc.names.lookup x=some .cell∨sc.names.lookup x=some .free
noncomputable def Loc (sc:Scope)(x:Str):Prop:=sc.names.lookup x=some .local∨sc.names.lookup x=some .cell
noncomputable def Look (env:Env)(h:Heap)(m:Str->Option Value)(x:Str)(u:Value):Prop :=
 (env.kindOf x=some .local/\m x=some u)∨((env.kindOf x=some .cell∨env.kindOf x=some .free)/\∃ c,env.cells.lookup x=some c/\h.IsCell c (some u))
structure Cx.Ok (X:Cx):Prop where
 mod:Mod X.K X.mg X.base
 kind:X.env.scope.kind = .function
 glob:X.env.globals=mainGlobals
 blt:X.env.builtins=builtinsNs
 above:X.s₀.heap.objs.size <= X.env.locals
 inj:∀ x y c,X.env.cells.lookup x=some c->X.env.cells.lookup y=some c->x=y
 has:∀ x,(X.env.kindOf x=some .cell∨X.env.kindOf x=some .free)->∃ c,X.env.cells.lookup x=some c
 Iu:∀ x c,X.fn x=true->X.env.cells.lookup x=some c->X.s₀.heap.objs.size <= c
 hd:X.calm=true->X.A.handled=none
 frames:X.A.frames=some X.stack
 LP:X.stack=X.outer∨(X.stack=X.env :: X.outer/\X.env.frame=some X.env.locals)
 Ry:∀ b ∈ X.ex,b ≠ X.env.locals/\∀ x c,X.env.cells.lookup x=some c->c ≠ b
 bs:∀ b o,X.base.get? b=some o->X.s₀.heap.get? b=some o/\X.H₀ b=none
 Ft:X.base.objs.size <= X.s₀.heap.objs.size
 EG:∀ b o,X.base.get? b=some o->b ∉ X.ex
 Fu:∀ b ∈ X.ex,b ∉ X.fs
 Ck:X.s₀.heap.FunFrames X.base X.outer
 GQ:∀ b ∈ X.fs,X.H₀ b=none
structure Inv (X:Cx)(pins:List (Addr × Obj))(σ:List (Option V))(H:Hp)(s:Shared):Prop where
 ok:X.Ok
 os:s.os=X.s₀.os
 bare:AllBare s.gens
 base:Un X.fs X.ex X.H₀ H X.s₀.heap s.heap
 loc:∃ m,s.heap.Ns X.env.locals m/\∀ (i:Nat)(x:Str)(v:V),X.N[i]? = some x->σ[i]? = some (some v)->LO X.env.scope x->∃ u,RelV v u/\Look X.env s.heap m x u
 cell:∀ x c,X.env.cells.lookup x=some c->∃ v,s.heap.IsCell c v
 free:H X.env.locals=none
 Bp:∀ x c,X.env.cells.lookup x=some c->H c=none
 pin:∀ p ∈ X.pn ++ pins,s.heap.get? p.1=some p.2/\H p.1=none/\p.1 ≠ X.env.locals/\p.1 ∉ X.fs/\∀ v,p.2.data ≠ .cell v
 AR:B8 X.prog X.w H s.heap
 len:σ.length=X.N.length
section
variable {X:Cx}{pins:List (Addr × Obj)}{σ:List (Option V)}{H H':Hp}{s:Shared}{h':Heap}
theorem Cx.Ok.N5 (ok:X.Ok){b:Addr}{o:Obj}(e:X.base.get? b=some o):b ∉ X.fs:=fun hb=>by
 have:=(ok.Ck.mem hb).1
 rw[e]at this;cases this
theorem Inv.bs (I:Inv X pins σ H s):∀ b o,X.base.get? b=some o->s.heap.get? b=some o/\H b=none:=fun b o e =>
 ⟨I.base.keep b o (I.ok.bs b o e).1 (I.ok.bs b o e).2 (I.ok.N5 e) (I.ok.EG b o e),I.base.free b o (I.ok.bs b o e).1 (I.ok.bs b o e).2 (I.ok.EG b o e)⟩
theorem Inv.bk (I:Inv X pins σ H s):∀ b o,X.base.get? b=some o->s.heap.get? b=some o:=fun b o e=>(I.bs b o e).1
theorem Inv.mod (I:Inv X pins σ H s):Mod X.K X.mg X.base:=I.ok.mod
theorem Inv.BX (I:Inv X pins σ H s):X.K.In s.heap:=I.ok.mod.HP.keeps I.bk
theorem Inv.lt (I:Inv X pins σ H s):X.env.locals < s.heap.objs.size:=let ⟨_,hn,_⟩:=I.loc;hn.lt
theorem Inv.sz (I:Inv X pins σ H s):X.s₀.heap.objs.size <= s.heap.objs.size:=le_trans I.ok.above (Nat.le_of_lt I.lt)
theorem Inv.N6 (I:Inv X pins σ H s){a:Addr}(h:s.heap.objs.size <= a):a ∉ X.fs:=fun hb=>by
 obtain⟨_,o,ho,_⟩:=I.ok.Ck.mem hb
 exact absurd (lt_of_lt_of_le (lt_size ho) (le_trans I.sz h)) (lt_irrefl _)
theorem Inv.GR (I:Inv X pins σ H s):∀ x c,X.env.cells.lookup x=some c->c ≠ X.env.locals:=fun x c e z=>by
 obtain⟨v,o,ho,hd⟩:=I.cell x c e
 obtain⟨m,⟨o',es,ep,C5,CM,_⟩,_⟩:=I.loc
 rw[z,C5]at ho;cases ho;rw[CM]at hd;cases hd
theorem Inv.Ck (I:Inv X pins σ H s):s.heap.FunFrames X.base X.outer:=by
 have all:∀ (l:List Env),(∀ b ∈ sC l,b ∈ X.fs)->X.s₀.heap.FunFrames X.base l->s.heap.FunFrames X.base l:=by
  intro l
  induction l with
  | nil=>intro _ _;trivial
  | cons env r ih =>
   intro hs hl
   obtain⟨hk,⟨L,o,hf,hn,ho,hd⟩,hr⟩:=hl
   have hL:L ∈ X.fs:=hs L (by unfold sC;rw[filterMap_cons,hf];exact mem_cons_self)
   obtain⟨sl,e⟩:=I.base.slot L o ho (I.ok.GQ L hL) hL fun z=>I.ok.Fu L z hL
   exact⟨hk,⟨L,_,hf,hn,e,hd⟩,ih (fun b hb=>hs b (by unfold sC;rw[filterMap_cons,hf];exact mem_cons_of_mem _ hb)) hr⟩
 exact all X.outer (fun _ hb=>hb) I.ok.Ck
theorem Inv.stack (I:Inv X pins σ H s):s.heap.FunFrames X.base X.stack:=by
 rcases I.ok.LP with e | ⟨e,hf⟩
 ·rw[e];exact I.Ck
 ·rw[e]
  obtain⟨m,hn,_⟩:=I.loc
  refine .cons (by rw[I.ok.kind];decide) hf hn ?_ I.Ck
  exact Heap.get?_none_of_le (le_trans I.ok.Ft I.ok.above)
theorem Inv.CN (I:Inv X pins σ H s):∀ b ∈ sC X.stack,b ∈ X.env.locals :: X.fs:=fun b hb=>by
 rcases I.ok.LP with e | ⟨e,hf⟩
 ·rw[e]at hb;exact mem_cons_of_mem _ hb
 ·rw[e]at hb
  unfold sC at hb
  rw[filterMap_cons,hf]at hb
  exact hb
theorem Inv.DV (I:Inv X pins σ H s):∀ b ∈ sC X.stack,H b=none:=fun b hb=>by
 rcases mem_cons.mp (I.CN b hb) with e | hb
 ·rw[e];exact I.free
 ·obtain⟨_,o,ho,_⟩:=I.ok.Ck.mem hb
  exact I.base.free b o ho (I.ok.GQ b hb) fun z=>I.ok.Fu b z hb
theorem Inv.step {g':Array GenState}{t':Nat}{d':Drawn}{ch:List Addr}(I:Inv X pins σ H s)
  (CW:∀ b ∈ ch,(b ∈ X.ex∨X.s₀.heap.objs.size <= b)/\b ≠ X.env.locals/\(∀ x c,X.env.cells.lookup x=some c->c ≠ b)/\∀ p ∈ X.pn ++ pins,p.1 ≠ b)
  (keep:∀ b o,b ≠ X.env.locals->b ∉ X.fs->b ∉ ch->s.heap.get? b=some o->H b=none->h'.get? b=some o)
  (slot:∀ b o,b ≠ X.env.locals->b ∈ X.fs->b ∉ ch->s.heap.get? b=some o->H b=none->∃ sl,h'.get? b=some { o with slots:=sl }) (free:∀ b o,b ∉ ch->s.heap.get? b=some o->H b=none->H' b=none)
  (there:∀ b o,b ∉ ch->s.heap.get? b=some o->∃ o',h'.get? b=some o')
  (C3:∀ b xs,H b=some (.tup xs)->H' b=some (.tup xs)) (Cr:∀ b o u,H b=some (.B2 o u)->H' b=some (.B2 o u)) (C4:∀ b ps,H b=some (.GN ps)->∃ more,H' b=some (.GN (ps ++ more)))
  (ns:∀ m,s.heap.Ns X.env.locals m->h'.Ns X.env.locals m) (AR:B8 X.prog X.w H' h') (hg:AllBare g') :
  Inv X pins σ H' { s with heap:=h',gens:=g',drawn:=d',toks:=t' }:=by
 have Rz:∀ b o,X.s₀.heap.get? b=some o->b ≠ X.env.locals:=fun b o e=>ne_of_lt (lt_of_lt_of_le (lt_size e) I.ok.above)
 have LQ:∀ b o,X.s₀.heap.get? b=some o->b ∉ X.ex->b ∉ ch:=fun b o e hx hb=>by
  rcases (CW b hb).1 with z | z
  ·exact hx z
  ·exact absurd (lt_of_lt_of_le (lt_size e) z) (lt_irrefl _)
 have cellK:∀ x c,X.env.cells.lookup x=some c->∀ v,s.heap.IsCell c v->h'.IsCell c v:=fun x c e v ⟨o,ho,hd⟩=>by
  have Iv:c ∉ ch:=fun z=>(CW c z).2.2.1 x c e rfl
  by_cases hc:c ∈ X.fs
  ·obtain⟨sl,q⟩:=slot c o (I.GR x c e) hc Iv ho (I.Bp x c e)
   exact⟨_,q,hd⟩
  ·exact⟨o,keep c o (I.GR x c e) hc Iv ho (I.Bp x c e),hd⟩
 refine⟨I.ok,I.os,hg,⟨fun b o e n hb hx=>?_,fun b o e n hb hx=>?_,fun b o e n hx=>?_,fun b o e hx=>?_,fun b xs e=>C3 b xs (I.base.C3 b xs e),fun b o xs e=>Cr b o xs (I.base.Cr b o xs e),fun b ps e=>?_⟩,?_,fun x c e=>?_,?_,fun x c e=>?_,fun p hp=>?_,AR,I.len⟩
 ·exact keep b o (Rz b o e) hb (LQ b o e hx) (I.base.keep b o e n hb hx) (I.base.free b o e n hx)
 ·obtain⟨sl,e1⟩:=I.base.slot b o e n hb hx
  obtain⟨sl',e2⟩:=slot b _ (Rz b o e) hb (LQ b o e hx) e1 (I.base.free b o e n hx)
  exact⟨sl',e2⟩
 ·obtain⟨o',e1⟩:=I.base.there b o e hx
  exact free b o' (LQ b o e hx) e1 (I.base.free b o e n hx)
 ·obtain⟨o',e1⟩:=I.base.there b o e hx
  exact there b o' (LQ b o e hx) e1
 ·obtain⟨m1,e1⟩:=I.base.C4 b ps e
  obtain⟨m2,e2⟩:=C4 b _ e1
  exact⟨m1 ++ m2,by rw[e2,Array.append_assoc]⟩
 ·obtain⟨m,hn,hl⟩:=I.loc
  refine⟨m,ns m hn,fun i x v e1 e2 e3=>?_⟩
  obtain⟨u,r,l⟩:=hl i x v e1 e2 e3
  refine⟨u,r,?_⟩
  rcases l with l | ⟨k,c,e,z⟩
  ·exact .inl l
  ·exact .inr ⟨k,c,e,cellK x c e _ z⟩
 ·obtain⟨v,z⟩:=I.cell x c e
  exact⟨v,cellK x c e v z⟩
 ·obtain⟨m,⟨o,_,_,ho,_⟩,_⟩:=I.loc
  exact free _ o (fun z=>(CW _ z).2.1 rfl) ho I.free
 ·obtain⟨v,o,ho,hd⟩:=I.cell x c e
  exact free c o (fun z=>(CW c z).2.2.1 x c e rfl) ho (I.Bp x c e)
 ·obtain⟨e,n,ne,nf,d⟩:=I.pin p hp
  have Iv:p.1 ∉ ch:=fun z=>(CW p.1 z).2.2.2 p hp rfl
  exact⟨keep p.1 p.2 ne nf Iv e n,free p.1 p.2 Iv e n,ne,nf,d⟩
theorem Inv.un {t':Nat}(I:Inv X pins σ H s)(u:Un X.fs [] H H' s.heap h')(AR:B8 X.prog X.w H' h'):Inv X pins σ H' { s with heap:=h',toks:=t' }:=by
 obtain⟨m,⟨o,es,ep,ho,r⟩,_⟩:=id I.loc
 obtain⟨sl,hL⟩:=u.any ho I.free (by simp)
 exact I.step (g':=s.gens) (d':=s.drawn) (ch:=[]) (fun _ z=>nomatch z) (fun b o _ hb _ e n=>u.keep b o e n hb (by simp)) (fun b o _ hb _ e n=>u.slot b o e n hb (by simp)) (fun b o _ e n=>u.free b o e n (by simp)) (fun b o _ e=>u.there b o e (by simp)) u.C3 u.Cr u.C4 (fun m' hm=>by
  obtain⟨o',N7,N8,C5,r'⟩:=hm
  rw[ho]at C5;cases C5
  exact⟨_,N7,N8,hL,r'⟩) AR I.bare
theorem Inv.call {g':Array GenState}{t':Nat}{d':Drawn}{ch:List Addr}(I:Inv X pins σ H s)(u:Un (sC X.stack) ch H H' s.heap h')(AR:B8 X.prog X.w H' h')(hg:AllBare g')
  (CW:∀ b ∈ ch,(b ∈ X.ex∨X.s₀.heap.objs.size <= b)/\b ≠ X.env.locals/\(∀ x c,X.env.cells.lookup x=some c->c ≠ b)/\∀ p ∈ X.pn ++ pins,p.1 ≠ b) :
  Inv X pins σ H' { s with heap:=h',gens:=g',drawn:=d',toks:=t' }:=by
 obtain⟨m,⟨o,es,ep,ho,r⟩,_⟩:=id I.loc
 obtain⟨sl,hL⟩:=u.any ho I.free fun z=>(CW _ z).2.1 rfl
 exact I.step (ch:=ch) CW (fun b o hL hb hc e n=>u.keep b o e n (fun z=>(mem_cons.mp (I.CN b z)).elim hL hb) hc) (fun b o _ _ hc e n=>u.any e n hc) (fun b o hc e n=>u.free b o e n hc) (fun b o hc e=>u.there b o e hc) u.C3 u.Cr u.C4 (fun m' hm=>by
  obtain⟨o',N7,N8,C5,r'⟩:=hm
  rw[ho]at C5;cases C5
  exact⟨_,N7,N8,hL,r'⟩) AR hg
theorem Inv.turned {t':Nat}{it:Addr}(I:Inv X pins σ H s)(k:∀ b o,b ≠ it->s.heap.get? b=some o->h'.get? b=some o)(hn:H it=none)(hL:it ≠ X.env.locals)
  (h1:it ∈ X.ex∨X.s₀.heap.objs.size <= it) (h2:∀ x c,X.env.cells.lookup x=some c->c ≠ it) (h3:∀ p ∈ X.pn ++ pins,p.1 ≠ it):Inv X pins σ H { s with heap:=h',toks:=t' }:=by
 have R0:∀ b u,H b=some u->b ≠ it:=fun b u e z=>by rw[z,hn]at e;cases e
 refine I.step (g':=s.gens) (d':=s.drawn) (ch:=[it]) (fun b hb=>?_) (fun b o _ _ hc e _=>k b o (fun z=>hc (by simp[z])) e) (fun b o _ _ hc e _=>⟨o.slots,k b o (fun z=>hc (by simp[z])) e⟩) (fun _ _ _ _ n=>n)
  (fun b o hc e=>⟨o,k b o (fun z=>hc (by simp[z])) e⟩) (fun _ _ e=>e) (fun _ _ _ e=>e) (fun b ps e=>⟨#[],by rw[e];simp⟩) (fun m hm=>?_) (fun b u e=>?_) I.bare
 ·have e:b=it:=by simpa using hb
  subst e
  exact⟨h1,hL,h2,h3⟩
 ·obtain⟨o,es,ep,ho,r⟩:=hm
  exact⟨o,es,ep,k _ o (Ne.symm hL) ho,r⟩
 ·refine(I.AR b u e).B9 (fun c v hc q=>k c v ?_ q) (fun _ q=>q) fun _ _ q=>q
  rcases hc with z | z
  ·rw[z];exact R0 b u e
  ·exact R0 c _ z
theorem Inv.tok (I:Inv X pins σ H s)(t:Nat):Inv X pins σ H { s with toks:=t }:=I.un (h':=s.heap) (t':=t) Un.refl I.AR
theorem Inv.kept {t':Nat}(I:Inv X pins σ H s)(k:∀ b u,s.heap.get? b=some u->h'.get? b=some u):Inv X pins σ H { s with heap:=h',toks:=t' }:=I.un (Un.kept k) (I.AR.kept k)
theorem Inv.laid {a:Addr}{o:HO}{t':Nat}(I:Inv X pins σ H s)(k:∀ b u,s.heap.get? b=some u->h'.get? b=some u)(hp:s.heap.objs.size <= a)(new:Be X.prog X.w (aw H a o) h' a o) :
  Inv X pins σ (aw H a o) { s with heap:=h',toks:=t' }:=I.un (Un.laid k hp (I.AR.fresh hp)) (I.AR.laid k hp new)
theorem Inv.write {x e:Addr}{o:HO}{t':Nat}(I:Inv X pins σ H s)(mu:Iq (H x))(he:e=x∨H e=some (.own x))(k:∀ b u,b ≠ e->s.heap.get? b=some u->h'.get? b=some u)(HN:∃ u,h'.get? e=some u)
  (new:Be X.prog X.w (aw H x o) h' x o):Inv X pins σ (aw H x o) { s with heap:=h',toks:=t' }:=I.un (Un.write mu he k HN) (I.AR.write mu he k HN new)
theorem Inv.BG {Dc:List (Addr × Obj)}(I:Inv X pins σ H s)(h:∀ p ∈ Dc,s.heap.get? p.1=some p.2/\H p.1=none/\p.1 ≠ X.env.locals/\p.1 ∉ X.fs/\∀ v,p.2.data ≠ .cell v):Inv X Dc σ H s :=
 ⟨I.ok,I.os,I.bare,I.base,I.loc,I.cell,I.free,I.Bp,fun p hp=>(mem_append.mp hp).elim (fun z=>I.pin p (mem_append_left _ z)) (h p),I.AR,I.len⟩
theorem oQ {N:List Str}(hN:N.Nodup){i j:Nat}{x:Str}(a:N[i]? = some x)(b:N[j]? = some x):i=j:=by
 obtain⟨h1,e1⟩:=List.getElem?_eq_some_iff.mp a
 obtain⟨h2,e2⟩:=List.getElem?_eq_some_iff.mp b
 exact(getElem_inj hN).mp (e1.trans e2.symm)
theorem lu {M:Model}{A:Around}{E:Value->Shared->Prop}{i:Nat}{x:Str}{v:V}{u:Value}{Q:Unit->Shared->Prop}(I:Inv X pins σ H s)(hN:X.N.Nodup)(hi:X.N[i]? = some x)(hx:Loc X.env.scope x)(r:RelV v u)
  (h:∀ s',Inv X pins (σ.set i (some v)) H s'->(∃ a,Heap.SameBut a s.heap s'.heap/\(a=X.env.locals∨X.env.cells.lookup x=some a))->Q () s') (hf:autoParam (X.fn x=true∨X.env.scope.names.lookup x=some .local) ζ):wpAny M A (storeName X.env x u) Q E s:=by
 obtain⟨m,hn,hl⟩:=id I.loc
 have N9:(X.env.scope.kind == .class || (X.env.scope.kind == .module && X.env.locals != X.env.globals))=false:=by rw[I.ok.kind];rfl
 have Iw:i < σ.length:=by rw[I.len];exact(gQ0 hi)
 have GR:=I.GR
 have tracked:∀ {a:Addr}{h':Heap},(∃ o,s.heap.get? a=some o/\H a=none)->Heap.SameBut a s.heap h'->B8 X.prog X.w H h':=fun {a h'} ha hs b ob e=>by
  obtain⟨_,_,Gp⟩:=ha
  refine(I.AR b ob e).B9 (fun c w' hc q=>(hs.2 c ?_).trans q) (fun _ q=>q) fun _ _ q=>q
  rintro rfl
  rcases hc with rfl | hc
  ·rw[Gp]at e;cases e
  ·rw[Gp]at hc;cases hc
 rcases hx with hk | hk
 ·refine wpAny_storeName_local hk hn (fun h' hn' hs=>?_) N9
  obtain⟨oL,_,_,Iy,_⟩:=id hn
  refine h _ ⟨I.ok,I.os,I.bare,⟨fun b o e n hb hx=>?_,fun b o e n hb hx=>?_,I.base.free,fun b o e hx=>?_,I.base.C3,I.base.Cr,I.base.C4⟩,⟨_,hn',fun j y v' e1 e2 e3=>?_⟩,fun y c e=>?_,I.free,I.Bp,fun p hp=>?_,tracked ⟨oL,Iy,I.free⟩ hs,by simpa using I.len⟩ ⟨_,hs, .inl rfl⟩
  ·exact(hs.2 b (ne_of_lt (lt_of_lt_of_le (lt_size e) I.ok.above))).trans (I.base.keep b o e n hb hx)
  ·obtain⟨sl,e1⟩:=I.base.slot b o e n hb hx
   exact⟨sl,(hs.2 b (ne_of_lt (lt_of_lt_of_le (lt_size e) I.ok.above))).trans e1⟩
  ·obtain⟨o',e1⟩:=I.base.there b o e hx
   exact⟨o',(hs.2 b (ne_of_lt (lt_of_lt_of_le (lt_size e) I.ok.above))).trans e1⟩
  ·by_cases hj:j=i
   ·subst hj
    rw[hi]at e1;cases e1
    rw[List.getElem?_set_self Iw]at e2
    cases e2
    exact⟨u,r, .inl ⟨hk,by simp⟩⟩
   ·rw[getElem?_set_ne (Ne.symm hj)]at e2
    obtain⟨u',r',q⟩:=hl j y v' e1 e2 e3
    refine⟨u',r',?_⟩
    rcases q with ⟨k,e⟩ | ⟨k,c,e,z⟩
    ·refine .inl ⟨k,?_⟩
     have:y ≠ x:=fun e=>hj (oQ hN e1 (e ▸ hi))
     simp[this,e]
    ·exact .inr ⟨k,c,e,z.sameBut hs (GR y c e)⟩
  ·obtain⟨w',z⟩:=I.cell y c e
   exact⟨w',z.sameBut hs (GR y c e)⟩
  ·obtain⟨e,n,ne,nf,d⟩:=I.pin p hp
   exact⟨(hs.2 p.1 ne).trans e,n,ne,nf,d⟩
 ·have Iz:X.fn x=true:=by
   rcases hf with z | z
   ·exact z
   ·rw[z]at hk;cases hk
  obtain⟨c,hc⟩:=I.ok.has x (.inl hk)
  obtain⟨w',z⟩:=I.cell x c hc
  refine wpAny_storeName_cell I.ok.kind hk hc z (fun h' Dz hs=>?_)
  obtain⟨oc,R1,NA⟩:=id z
  refine h { s with heap:=h' } ⟨I.ok,I.os,I.bare,⟨fun b o e n hb hx=>?_,fun b o e n hb hx=>?_,I.base.free,fun b o e hx=>?_,I.base.C3,I.base.Cr,I.base.C4⟩,⟨m,hn.sameBut hs (Ne.symm (GR x c hc)),fun j y v' e1 e2 e3=>?_⟩,fun y c' e=>?_,I.free,I.Bp,fun p hp=>?_,tracked ⟨oc,R1,I.Bp x c hc⟩ hs,by simpa using I.len⟩ ⟨c,hs, .inr hc⟩
  ·exact(hs.2 b (ne_of_lt (lt_of_lt_of_le (lt_size e) (I.ok.Iu x c Iz hc)))).trans (I.base.keep b o e n hb hx)
  ·obtain⟨sl,e1⟩:=I.base.slot b o e n hb hx
   exact⟨sl,(hs.2 b (ne_of_lt (lt_of_lt_of_le (lt_size e) (I.ok.Iu x c Iz hc)))).trans e1⟩
  ·obtain⟨o',e1⟩:=I.base.there b o e hx
   exact⟨o',(hs.2 b (ne_of_lt (lt_of_lt_of_le (lt_size e) (I.ok.Iu x c Iz hc)))).trans e1⟩
  ·by_cases hj:j=i
   ·subst hj
    rw[hi]at e1;cases e1
    rw[List.getElem?_set_self Iw]at e2
    cases e2
    exact⟨u,r, .inr ⟨.inl hk,c,hc,Dz⟩⟩
   ·rw[getElem?_set_ne (Ne.symm hj)]at e2
    obtain⟨u',r',q⟩:=hl j y v' e1 e2 e3
    refine⟨u',r',?_⟩
    rcases q with q | ⟨k,c',e,z'⟩
    ·exact .inl q
    ·refine .inr ⟨k,c',e,z'.sameBut hs ?_⟩
     rintro rfl
     exact hj (oQ hN e1 (I.ok.inj _ _ _ e hc ▸ hi))
  ·by_cases R3:c' = c
   ·subst R3;exact⟨_,Dz⟩
   ·obtain⟨w2,z2⟩:=I.cell y c' e
    exact⟨w2,z2.sameBut hs R3⟩
  ·obtain⟨e,n,ne,nf,d⟩:=I.pin p hp
   refine⟨(hs.2 p.1 ?_).trans e,n,ne,nf,d⟩
   intro q
   rw[q,R1]at e
   have q':oc=p.2:=Option.some.inj e
   exact d w' (by rw[← q'];exact NA)
theorem j6 {M:Model}{A:Around}{E:Value->Shared->Prop}{i:Nat}{x:Str}{v:V}{u:Value}{Q:Unit->Shared->Prop}(I:Inv X pins σ H s)(hN:X.N.Nodup)(hi:X.N[i]? = some x)(hx:Loc X.env.scope x)(r:RelV v u)
  (h:∀ s',Inv X pins (σ.set i (some v)) H s'->Q () s') (hf:autoParam (X.fn x=true∨X.env.scope.names.lookup x=some .local) ζ):wpAny M A (storeName X.env x u) Q E s :=
 lu I hN hi hx r (fun s' I' _=>h s' I') hf
theorem Inv.I0 {s':Shared}{ch:List Addr}(I:Inv X pins σ H s)(ho:s'.os=s.os)(u:Un (sC X.stack) ch H H' s.heap s'.heap)(AR:B8 X.prog X.w H' s'.heap)(hg:AllBare s'.gens)
  (CW:∀ b ∈ ch,(b ∈ X.ex∨X.s₀.heap.objs.size <= b)/\b ≠ X.env.locals/\(∀ x c,X.env.cells.lookup x=some c->c ≠ b)/\∀ p ∈ X.pn ++ pins,p.1 ≠ b):Inv X pins σ H' s':=by
 obtain⟨h',g',d',t',o'⟩:=s'
 have e:o' = s.os:=ho
 subst e
 exact I.call (g':=g') (t':=t') (d':=d') u AR hg CW
end
abbrev XK:=Value->Option Addr->Hp->Prop
abbrev St:=List (Option V)
abbrev VK:=V->Hp->Prop
abbrev TE:=St->Hp->VK->Prop
abbrev TT:=St->Hp->(Bool->Hp->Prop)->Prop
abbrev TA:=St->Hp->(List V->Hp->Prop)->Prop
structure lj where
 nx:St->Hp->Prop
 rt:VK
 bk:St->Hp->Prop:=fun _ _=>False
 ct:St->Hp->Prop:=fun _ _=>False
abbrev TS:=lj->St->Hp->Prop
noncomputable def EP (X:Cx)(pins:List (Addr × Obj))(σ:St)(Q:VK)(u:Value)(s':Shared):Prop:=∃ v H',Inv X pins σ H' s'/\RelV v u/\Q v H'
noncomputable def TP (X:Cx)(pins:List (Addr × Obj))(σ:St)(Q:Bool->Hp->Prop)(b:Bool)(s':Shared):Prop:=∃ H',Inv X pins σ H' s'/\Q b H'
noncomputable def AP (X:Cx)(pins:List (Addr × Obj))(σ:St)(Q:List V->Hp->Prop)(us:List Value)(s':Shared):Prop:=∃ vs H',Inv X pins σ H' s'/\Vals vs us/\Q vs H'
noncomputable def SP (X:Cx)(pins:List (Addr × Obj))(D:lj)(f:Flow)(s':Shared):Prop :=
 match f with
 | .next=>∃ σ' H',Inv X pins σ' H' s'/\D.nx σ' H'
 | .brk=>∃ σ' H',Inv X pins σ' H' s'/\D.bk σ' H'
 | .cont=>∃ σ' H',Inv X pins σ' H' s'/\D.ct σ' H'
 | .ret u=>∃ v σ' H',Inv X pins σ' H' s'/\RelV v u/\D.rt v H'
noncomputable def PE (X:Cx)(e:Expr)(t:TE):Prop :=
 ∀ (pins:List (Addr × Obj))(s:Shared)(σ:St)(H:Hp)(Q:VK),Inv X pins σ H s->t σ H Q->wpAny (model X.prog X.w) X.A (eval e X.env) (EP X pins σ Q) X.xe s
noncomputable def PT (X:Cx)(e:Expr)(t:TT):Prop :=
 ∀ (pins:List (Addr × Obj))(s:Shared)(σ:St)(H:Hp)(Q:Bool->Hp->Prop),Inv X pins σ H s->t σ H Q->wpAny (model X.prog X.w) X.A (isTrue e X.env (eval e X.env)) (TP X pins σ Q) X.xe s
noncomputable def PW (X:Cx)(e:Expr)(t:TT):Prop :=
 ∀ (whole:Sem Value)(pins:List (Addr × Obj))(s:Shared)(σ:St)(H:Hp)(Q:Bool->Hp->Prop),Inv X pins σ H s->t σ H Q->wpAny (model X.prog X.w) X.A (isTrue e X.env whole) (TP X pins σ Q) X.xe s
theorem PW.pt {X:Cx}{e:Expr}{t:TT}(h:PW X e t):PT X e t:=h _
noncomputable def PA (X:Cx)(es:List Expr)(t:TA):Prop :=
 ∀ (pos:Pos)(pins:List (Addr × Obj))(s:Shared)(σ:St)(H:Hp)(Q:List V->Hp->Prop),Inv X pins σ H s->t σ H Q->wpAny (model X.prog X.w) X.A (spliced (backTo pos (starEach es X.env))) (AP X pins σ Q) X.xe s
noncomputable def PS (X:Cx)(st:Stmt)(t:TS):Prop :=
 ∀ (pins:List (Addr × Obj))(s:Shared)(σ:St)(H:Hp)(D:lj),Inv X pins σ H s->t D σ H->wpAny (model X.prog X.w) X.A (exec st X.env) (SP X pins D) X.xe s
noncomputable def Em (X:Cx)(st:List Stmt)(t:TS):Prop :=
 ∀ (pins:List (Addr × Obj))(s:Shared)(σ:St)(H:Hp)(D:lj),Inv X pins σ H s->t D σ H->wpAny (model X.prog X.w) X.A (execs st X.env) (SP X pins D) X.xe s
theorem aW {α:Type}{t:Sem α}{Q Q':α->Shared->Prop}{M:Model}{A:Around}{E:Value->Shared->Prop}{s:Shared}(h:wpAny M A t Q E s)(hQ:∀ a s,Q a s->Q' a s):wpAny M A t Q' E s:=wpAny_mono h hQ fun _ _ x=>x
section
variable {X:Cx}
noncomputable def yG (i:Nat):TE:=fun σ H Q=>∃ v,σ[i]? = some (some v)/\Q v H
noncomputable def tC (v:V):TE:=fun _ H Q=>Q v H
theorem zw {i:Nat}{x:Str}{pos:Pos}(hN:X.N[i]? = some x)(hv:LO X.env.scope x)(hd:autoParam ((x == ("__debug__":Str))=false) θ)(EH:autoParam ((x == ("__classdict__":Str))=false) θ):PE X (.Name x pos) (yG i):=by
 intro pins s σ H Q I h
 obtain⟨v,e,h⟩:=h
 obtain⟨m,hn,hl⟩:=I.loc
 obtain⟨u,r,l⟩:=hl i x v hN e hv
 have fin:EP X pins σ Q u s:=⟨v,H,I,r,h⟩
 rcases l with ⟨hk,hm⟩ | ⟨hk,c,hc,DW⟩
 ·exact wpAny_Name (wpAny_loadName_local I.ok.kind hk hn hm fin) hd
 ·rcases hk with hk | hk
  ·exact wpAny_Name (wpAny_loadName_cell I.ok.kind hk hc DW fin) hd
  ·exact wpAny_Name (wpAny_loadName_free I.ok.kind hk hc DW fin EH) hd
theorem am {i j pos}:PE X (.Constant (.int i) j pos) (tC (.int i)):=fun _ _ _ H _ I h=>wpAny_Constant_int ⟨.int i,H,I.tok _,⟨_,rfl⟩,h⟩
theorem jU {b j pos}:PE X (.Constant (.bool b) j pos) (tC (.bl b)):=fun _ _ _ H _ I h=>Constant_bool ⟨.bl b,H,I,rfl,h⟩
theorem bE {j pos}:PE X (.Constant .none j pos) (tC .AZ):=fun _ _ _ H _ I h=>Constant_none ⟨.AZ,H,I,rfl,h⟩
theorem dq {x j pos}:PE X (.Constant (.str x) j pos) (tC (.str x)):=fun _ _ _ H _ I h=>Calls.Constant_str ⟨.str x,H,I.tok _,⟨_,rfl⟩,h⟩
noncomputable def Gl (X:Cx)(x:Str):Prop:=X.env.kindOf x=some .globalImplicit
theorem jv {E:Value->Shared->Prop}{pins:List (Addr × Obj)}{s:Shared}{σ:St}{H:Hp}{x:Str}{u:Value}{pos:Pos}{Q:Value->Shared->Prop}(I:Inv X pins σ H s)(hg:Gl X x)(hm:X.mg x=some u)(h:Q u s)
  (hd:autoParam ((x == ("__debug__":Str))=false) θ):wpAny (model X.prog X.w) X.A (eval (.Name x pos) X.env) Q E s :=
 Calls.Name_function_global I.ok.kind hg (Calls.loadGlobal_global (by rw[I.ok.glob];exact I.mod.glob.keeps I.bk) hm h) hd
theorem dW {E:Value->Shared->Prop}{pins:List (Addr × Obj)}{s:Shared}{σ:St}{H:Hp}{x:Str}{u:Value}{pos:Pos}{Q:Value->Shared->Prop}(I:Inv X pins σ H s)(hg:Gl X x)(hm:X.mg x=none)(hv:bootBuiltins x=some u)(h:Q u s)
  (hn:autoParam (x ≠ "__name__") θ) (hd:autoParam ((x == ("__debug__":Str))=false) θ):wpAny (model X.prog X.w) X.A (eval (.Name x pos) X.env) Q E s:=by
 obtain⟨mb,h1,h2⟩:=I.mod.blt
 exact Calls.Name_function_global I.ok.kind hg (Calls.loadGlobal_builtin (by rw[I.ok.glob];exact I.mod.glob.keeps I.bk) hm (by rw[I.ok.blt];exact h1.keeps I.bk) ((h2 x hn).trans hv) h) hd
theorem cC {x:Str}{v:V}{u:Value}{pos:Pos}(hg:Gl X x)(hm:X.mg x=some u)(r:RelV v u)(hd:autoParam ((x == ("__debug__":Str))=false) θ):PE X (.Name x pos) (tC v) :=
 fun _ _ _ H _ I h=>jv I hg hm ⟨v,H,I,r,h⟩ hd
theorem gY {x:Str}{v:V}{u:Value}{pos:Pos}(hg:Gl X x)(hm:X.mg x=none)(hv:bootBuiltins x=some u)(r:RelV v u)(hn:autoParam (x ≠ "__name__") θ)(hd:autoParam ((x == ("__debug__":Str))=false) θ):PE X (.Name x pos) (tC v) :=
 fun _ _ _ H _ I h=>dW I hg hm hv ⟨v,H,I,r,h⟩ hn hd
variable {a b:Expr}{ta tb:TE}{pos:Pos}
noncomputable def PC (X:Cx)(op:CmpOp)(a b:Expr)(t:TE):Prop :=
 ∀ (pins:List (Addr × Obj))(s:Shared)(σ:St)(H:Hp)(Q:VK),Inv X pins σ H s->t σ H Q ->
  wpAny (model X.prog X.w) X.A (eval a X.env) (fun v s₁=>wpAny (model X.prog X.w) X.A (eval b X.env) (fun u s₂=>wpAny (model X.prog X.w) X.A (compareOp op v u) (EP X pins σ Q) X.xe s₂) X.xe s₁) X.xe s
noncomputable def tB (t:TE):TT:=fun σ H Q=>t σ H fun x H1=>∃ c,x = .bl c/\Q c H1
theorem zx {op:CmpOp}{t:TE}(h:PC X op a b t)(h1:behindInMarks op b=false:=by first | exact EI _ (by decide) (by decide) | rfl):PE X (.Compare a [op] [b] pos) t:=fun pins s σ H Q I hw=>wpAny_Compare1 (h pins s σ H Q I hw) h1
theorem jP {op:CmpOp}{t:TE}(h:PC X op a b t)(h1:behindInMarks op b=false:=by first | exact EI _ (by decide) (by decide) | rfl):PT X (.Compare a [op] [b] pos) (tB t):=by
 intro pins s σ H Q I hw
 refine wpAny_isTrue_Compare1 (aW (h pins s σ H _ I hw) fun v s1 h1=>aW h1 fun u s2 h2=>aW h2 fun c s3 AL=>?_) h1
 obtain⟨x,H1,I1,r1,q1⟩:=AL
 obtain⟨d,rfl,q⟩:=q1
 cases r1
 exact wpAny_truthy_bool ⟨H1,I1,q⟩
theorem cz {e:Expr}{t:TE}(h:PE X e t)(he:autoParam (∀ whole,isTrue e X.env whole=(do let v ← whole;standAt e.pos;holding [v] (truthy v))) ψ):PT X e (tB t):=by
 intro pins s σ H Q I hw
 refine isTrue_plain (aW (h pins s σ H _ I hw) fun v s1 AL=>?_) (he _)
 obtain⟨x,H1,I1,r1,q1⟩:=AL
 obtain⟨d,rfl,q⟩:=q1
 cases r1
 exact wpAny_truthy_bool ⟨H1,I1,q⟩
variable {tA LR:TT}{rest:List Expr}
noncomputable def NB (t u:TT):TT:=fun σ H Q=>t σ H fun c H1=>if c=true then u σ H1 Q else Q false H1
noncomputable def tOr (t u:TT):TT:=fun σ H Q=>t σ H fun c H1=>if c=true then Q true H1 else u σ H1 Q
noncomputable def NC (t:TT):TT:=fun σ H Q=>t σ H fun c H1=>Q (!c) H1
theorem gP (ha:PT X a tA):PW X (.BoolOp .And [a] pos) tA:=by
 intro wh pins s σ H Q I h
 refine isTrue_and (aW (ha pins s σ H Q I h) fun c s1 e=>?_)
 cases c with
 | true=>exact isTrue_and_nil e
 | false=>exact e
theorem jK (ha:PT X a tA):PW X (.BoolOp .Or [a] pos) tA:=by
 intro wh pins s σ H Q I h
 refine isTrue_or (aW (ha pins s σ H Q I h) fun c s1 e=>?_)
 cases c with
 | false=>exact isTrue_or_nil e
 | true=>exact e
theorem jM (ha:PT X a tA)(hb:PW X (.BoolOp .And (b :: rest) pos) LR):PW X (.BoolOp .And (a :: b :: rest) pos) (NB tA LR):=by
 intro wh pins s σ H Q I h
 refine isTrue_and (aW (ha pins s σ H _ I h) fun c s1 AL=>?_)
 obtain⟨H1,I1,q1⟩:=AL
 cases c with
 | true=>exact hb wh pins s1 σ H1 Q I1 q1
 | false=>exact⟨H1,I1,q1⟩
theorem jL (ha:PT X a tA)(hb:PW X (.BoolOp .Or (b :: rest) pos) LR):PW X (.BoolOp .Or (a :: b :: rest) pos) (tOr tA LR):=by
 intro wh pins s σ H Q I h
 refine isTrue_or (aW (ha pins s σ H _ I h) fun c s1 AL=>?_)
 obtain⟨H1,I1,q1⟩:=AL
 cases c with
 | true=>exact⟨H1,I1,q1⟩
 | false=>exact hb wh pins s1 σ H1 Q I1 q1
theorem dj (ha:PT X a tA):PT X (.UnaryOp .Not a pos) (NC tA):=by
 intro pins s σ H Q I h
 exact isTrue_not (ha pins s σ H (fun c H1=>Q (!c) H1) I h)
noncomputable def IA (ta tb:TE):TE:=fun σ H Q=>ta σ H fun x H1=>∃ c,x = .bl c/\if c=true then tb σ H1 Q else Q (.bl false) H1
noncomputable def IB (ta:TE):TE:=fun σ H Q=>ta σ H fun x H1=>∃ c,x = .bl c/\Q (.bl (!c)) H1
theorem dR {op} {t:TE} (h:PE X a t):PE X (.BoolOp op [a] pos) t:=fun pins s σ H Q I hw=>BoolOp_one (h pins s σ H Q I hw)
theorem ck (ha:PE X a ta)(hb:PE X (.BoolOp .And (b :: rest) pos) tb):PE X (.BoolOp .And (a :: b :: rest) pos) (IA ta tb):=by
 intro pins s σ H Q I h
 refine BoolOp_and (aW (ha pins s σ H _ I h) fun v s1 AL=>?_)
 obtain⟨x,H1,I1,r1,q1⟩:=AL
 obtain⟨c,rfl,q1⟩:=q1
 cases r1
 refine wpAny_truthy_bool ?_
 cases c with
 | true=>exact hb pins s1 σ H1 Q I1 q1
 | false=>exact⟨.bl false,H1,I1,rfl,q1⟩
theorem vi (ha:PE X a ta):PE X (.UnaryOp .Not a pos) (IB ta):=by
 intro pins s σ H Q I h
 refine UnaryOp_ (aW (ha pins s σ H _ I h) fun v s1 AL=>?_)
 obtain⟨x,H1,I1,r1,q1⟩:=AL
 obtain⟨c,rfl,q1⟩:=q1
 cases r1
 exact not_of (wpAny_truthy_bool ⟨.bl (!c),H1,I1,rfl,q1⟩)
noncomputable def tIf (t:TT)(ta tb:TE):TE:=fun σ H Q=>t σ H fun c H1=>if c=true then ta σ H1 Q else tb σ H1 Q
theorem jS {c:Expr}(hc:PT X c tA)(ha:PE X a ta)(hb:PE X b tb):PE X (.IfExp c a b pos) (tIf tA ta tb):=by
 intro pins s σ H Q I h
 refine wpAny_IfExp (aW (hc pins s σ H _ I h) fun d s1 AL=>?_)
 obtain⟨H1,I1,q1⟩:=AL
 cases d with
 | true=>exact ha pins s1 σ H1 Q I1 q1
 | false=>exact hb pins s1 σ H1 Q I1 q1
end
noncomputable def AQ (K:Frag)(H:Hp)(a:Addr)(xs:List V):Prop :=
 Rd H a (.lst xs) ∨
  ∃ (o:Obj)(AM:Array Value)(n:Nat),K.lookup a=some o/\o.cls = .type "list"/\o.dict=none/\o.data = .seq AM n/\AM.size <= sizeLine/\Vals xs AM.toList
noncomputable def Ba (K:Frag)(H:Hp)(a:Addr)(xs:List V):Prop :=
 Rd H a (.tup xs) ∨
  ∃ (o:Obj)(AM:Array Value)(n:Nat),K.lookup a=some o/\o.cls = .type "tuple"/\o.data = .seq AM n/\AM.size <= sizeLine/\Vals xs AM.toList
noncomputable def ND:Value->Option V
 | .none=>some .AZ
 | .bool b=>some (.bl b)
 | .int i _=>some (.int i)
 | .str x _=>some (.str x)
 | .bytes b _=>some (.DU b)
 | .float b _=>some (.GL b)
 | .ref a=>some (.ref a)
 | .type n=>some (.ty n)
 | _=>none
theorem RelV.abs {x:V}{u:Value}(r:RelV x u):ND u=some x:=by
 cases x with
 | AZ=>cases r;rfl
 | bl _=>cases r;rfl
 | int _=>obtain⟨t,rfl⟩:=r;rfl
 | str _=>obtain⟨t,rfl⟩:=r;rfl
 | DU _=>obtain⟨t,rfl⟩:=r;rfl
 | GL _=>obtain⟨t,rfl⟩:=r;rfl
 | ref _=>cases r;rfl
 | ty _=>cases r;rfl
theorem RelV.inj {x y:V}{u:Value}(r:RelV x u)(q:RelV y u):x=y:=Option.some.inj (r.abs.symm.trans q.abs)
theorem Vals.inj:∀ {xs ys:List V}{us:List Value},Vals xs us->Vals ys us->xs=ys
 | _,_,_, .nil, .nil=>rfl
 | _,_,_, .cons r t, .cons r' t'=>by rw[r.inj r',Vals.inj t t']
section
variable {X:Cx}{pins:List (Addr × Obj)}{σ:St}{H:Hp}{s:Shared}{a:Addr}{xs ys:List V}
theorem AQ.of {K:Frag}(h:H a=some (.lst xs)):AQ K H a xs := .inl (.inl h)
theorem Ba.of {K:Frag}(h:H a=some (.tup xs)):Ba K H a xs := .inl (.inl h)
theorem Inv.list (I:Inv X pins σ H s)(h:AQ X.K H a xs):∃ AM:List Value,Vals xs AM/\PlainL s.heap a AM.toArray/\xs.length <= sizeLine:=by
 rcases h with h | ⟨o,AM,n,hk,hc,hd,hs,hz,r⟩
 ·obtain⟨z,AM,n,r,e⟩:=h.ok I.AR
  exact⟨AM,r,⟨_,n,e,rfl,rfl,rfl⟩,z⟩
 ·refine⟨AM.toList,r,⟨o,n,I.BX a o hk,hc,hd,by simpa using hs⟩,?_⟩
  have e:=r.length
  simp only[Array.length_toList]at e
  omega
theorem Inv.tuple (I:Inv X pins σ H s)(h:Ba X.K H a xs):∃ AM:List Value,Vals xs AM/\IsTup s.heap a AM.toArray/\xs.length <= sizeLine:=by
 rcases h with h | ⟨o,AM,n,hk,hc,hs,hz,r⟩
 ·obtain⟨z,AM,r,p⟩:=h.ok I.AR
  exact⟨AM,r,p.isTup,z⟩
 ·refine⟨AM.toList,r,⟨o,I.BX a o hk,hc,n,by simpa using hs⟩,?_⟩
  have e:=r.length
  simp only[Array.length_toList]at e
  omega
theorem Inv.BP (I:Inv X pins σ H s)(h:AQ X.K H a xs)(h':AQ X.K H a ys):xs=ys:=by
 obtain⟨AM,r,⟨o,n,e,_,_,d⟩,_⟩:=I.list h
 obtain⟨its',r',⟨o',n',e',_,_,d'⟩,_⟩:=I.list h'
 rw[e]at e';cases e'
 rw[d]at d'
 injection d' with d1 _
 have:AM=its':=by simpa using congrArg Array.toList d1
 subst this
 exact r.inj r'
theorem Inv.CF (I:Inv X pins σ H s)(h:Ba X.K H a xs)(h':Ba X.K H a ys):xs=ys:=by
 obtain⟨AM,r,⟨o,e,_,n,d⟩,_⟩:=I.tuple h
 obtain⟨its',r',⟨o',e',_,n',d'⟩,_⟩:=I.tuple h'
 rw[e]at e';cases e'
 rw[d]at d'
 injection d' with d1 _
 have:AM=its':=by simpa using congrArg Array.toList d1
 subst this
 exact r.inj r'
end
abbrev Cx.C6 (X:Cx)(E:Value->Shared->Prop):Cx:={ X with xe:=E }
abbrev Cx.LS (X:Cx):Cx:=X.C6 fun _ _=>False
theorem Cx.Ok.C6 {X:Cx}(ok:X.Ok)(E:Value->Shared->Prop):(X.C6 E).Ok :=
 ⟨ok.mod,ok.kind,ok.glob,ok.blt,ok.above,ok.inj,ok.has,ok.Iu,ok.hd,ok.frames,ok.LP,ok.Ry,ok.bs,ok.Ft,ok.EG,ok.Fu,ok.Ck,ok.GQ⟩
theorem Cx.Ok.BA {X:Cx}{E:Value->Shared->Prop}(ok:(X.C6 E).Ok):X.Ok :=
 ⟨ok.mod,ok.kind,ok.glob,ok.blt,ok.above,ok.inj,ok.has,ok.Iu,ok.hd,ok.frames,ok.LP,ok.Ry,ok.bs,ok.Ft,ok.EG,ok.Fu,ok.Ck,ok.GQ⟩
section
variable {X:Cx}{pins:List (Addr × Obj)}{σ:St}{H:Hp}{s:Shared}{E:Value->Shared->Prop}
theorem Inv.C6 (I:Inv X pins σ H s)(E:Value->Shared->Prop):Inv (X.C6 E) pins σ H s:=⟨I.ok.C6 E,I.os,I.bare,I.base,I.loc,I.cell,I.free,I.Bp,I.pin,I.AR,I.len⟩
theorem Inv.BA (I:Inv (X.C6 E) pins σ H s):Inv X pins σ H s:=⟨I.ok.BA,I.os,I.bare,I.base,I.loc,I.cell,I.free,I.Bp,I.pin,I.AR,I.len⟩
theorem SP.BA {D:lj}{f:Flow}{s':Shared}(h:SP (X.C6 E) pins D f s'):SP X pins D f s':=by
 cases f with
 | next=>obtain⟨σ',H',I,q⟩:=h;exact⟨σ',H',I.BA,q⟩
 | brk=>obtain⟨σ',H',I,q⟩:=h;exact⟨σ',H',I.BA,q⟩
 | cont=>obtain⟨σ',H',I,q⟩:=h;exact⟨σ',H',I.BA,q⟩
 | ret u=>obtain⟨v,σ',H',I,r,q⟩:=h;exact⟨v,σ',H',I.BA,r,q⟩
theorem Em.LS {st:List Stmt}{t:TS}(h:Em X.LS st t):Em X st t:=fun pins s σ H D I hw =>
 wpAny_mono (h pins s σ H D (I.C6 _) hw) (fun _ _ q=>q.BA) fun _ _ z=>False.elim z
end
section
variable {X:Cx}{st:Stmt}{rest:List Stmt}{t u:TS}{e:Expr}{te:TE}{pos:Pos}
noncomputable def IC:TS:=fun D σ H=>D.nx σ H
noncomputable def NF (t u:TS):TS:=fun D σ H=>t { D with nx:=u D } σ H
theorem aA:Em X [] IC:=fun _ _ σ H _ I h=>wpAny_execs_nil ⟨σ,H,I,h⟩
theorem af (h1:PS X st t)(h2:Em X rest u):Em X (st :: rest) (NF t u):=by
 intro pins s σ H D I h
 refine wpAny_execs_cons (aW (h1 pins s σ H { D with nx:=u D } I h) fun f s1 q=>?_)
 cases f with
 | next =>
  obtain⟨σ',H',I',q⟩:=q
  exact h2 pins s1 σ' H' D I' q
 | ret v=>exact q
 | brk=>exact q
 | cont=>exact q
theorem ag (h1:PS X st t):Em X [st] t:=by
 intro pins s σ H D I h
 refine wpAny_execs_cons (aW (h1 pins s σ H D I h) fun f s1 q=>?_)
 cases f with
 | next=>exact wpAny_execs_nil q
 | ret v=>exact q
 | brk=>exact q
 | cont=>exact q
theorem Inv.quiet {pins:List (Addr × Obj)}{σ:St}{H:Hp}{s:Shared}(I:Inv X pins σ H s):interactive X.env=false:=by simp[interactive,I.ok.kind]
noncomputable def ID (te:TE):TS:=fun D σ H=>te σ H fun _ H1=>D.nx σ H1
theorem aT (he:PE X e te)(hs:autoParam (swapsWith e none pos.line X.env=pure false) η):PS X (.Expr e pos) (ID te):=by
 intro pins s σ H D I h
 exact wpAny_Expr_any (aW (he pins s σ H _ I h) fun v s1 AL=>by obtain⟨x,H1,I1,r1,q1⟩:=AL;exact⟨σ,H1,I1,q1⟩) I.quiet hs
noncomputable def NG (te:TE):TS:=fun D σ H=>te σ H D.rt
theorem ap (he:PE X e te):PS X (.Return (some e) pos) (NG te):=by
 intro pins s σ H D I h
 exact wpAny_Return_some (aW (he pins s σ H _ I h) fun v s1 AL=>by obtain⟨x,H1,I1,r1,q1⟩:=AL;exact⟨x,σ,H1,I1,r1,q1⟩)
noncomputable def NJ (c:TT)(t u:TS):TS:=fun D σ H=>c σ H fun b H1=>if b=true then t D σ H1 else u D σ H1
theorem aL {c:Expr}{a b:List Stmt}{tc:TT}(hc:PT X c tc)(ha:Em X a t)(hb:Em X b u):PS X (.If c a b pos) (NJ tc t u):=by
 intro pins s σ H D I h
 refine wpAny_If (aW (hc pins s σ H _ I h) fun d s1 AL=>?_)
 obtain⟨H1,I1,q1⟩:=AL
 cases d with
 | true=>exact ha pins s1 σ H1 D I1 q1
 | false=>exact hb pins s1 σ H1 D I1 q1
noncomputable def yI:TS:=fun _ _ _=>False
theorem eu:PS X st yI:=fun _ _ _ _ _ _ h=>h.elim
end
abbrev TG:=V->St->Hp->(St->Hp->Prop)->Prop
abbrev A8:=List V->St->Hp->(St->Hp->Prop)->Prop
noncomputable def PG (X:Cx)(target:Expr)(t:TG):Prop :=
 ∀ (pins:List (Addr × Obj))(s:Shared)(σ:St)(H:Hp)(v:V)(u:Value)(Q:St->Hp->Prop),Inv X pins σ H s->RelV v u->t v σ H Q ->
  wpAny (model X.prog X.w) X.A (assign target X.env u) (fun _ s'=>∃ σ' H',Inv X pins σ' H' s'/\Q σ' H') X.xe s
noncomputable def LU (X:Cx)(ts:List Expr)(t:A8):Prop :=
 ∀ (pins:List (Addr × Obj))(s:Shared)(σ:St)(H:Hp)(vs:List V)(us:List Value)(Q:St->Hp->Prop),Inv X pins σ H s->Vals vs us->t vs σ H Q ->
  wpAny (model X.prog X.w) X.A (assignInOrder ((assignEach ts X.env).map (·.2)) us) (fun _ s'=>∃ σ' H',Inv X pins σ' H' s'/\Q σ' H') X.xe s
abbrev A7:=V->V->V->Hp->(Hp->Prop)->Prop
noncomputable def IE (X:Cx)(t:A7):Prop :=
 ∀ (pins:List (Addr × Obj))(s:Shared)(σ:St)(H:Hp)(o i v:V)(ov iv u:Value)(Q:Hp->Prop),Inv X pins σ H s->RelV o ov->RelV i iv->RelV v u->t o i v H Q ->
  wpAny (model X.prog X.w) X.A (setItem ov iv u) (fun _ s'=>∃ H',Inv X pins σ H' s'/\Q H') X.xe s
abbrev LV:=V->V->Hp->VK->Prop
noncomputable def R4 (X:Cx)(op:Operator)(t:LV):Prop :=
 ∀ (pins:List (Addr × Obj))(s:Shared)(σ:St)(H:Hp)(x y:V)(v u:Value)(Q:VK),Inv X pins σ H s->RelV x v->RelV y u->t x y H Q ->
  wpAny (model X.prog X.w) X.A (inplaceOp op v u) (EP X pins σ Q) X.xe s
section
variable {X:Cx}{pos:Pos}
noncomputable def ip (i:Nat):TG:=fun v σ H Q=>Q (σ.set i (some v)) H
theorem ao {i:Nat}{x:Str}(hN:X.N.Nodup)(hi:X.N[i]? = some x)(hx:Loc X.env.scope x)(hf:autoParam (X.fn x=true∨X.env.scope.names.lookup x=some .local) ζ):PG X (.Name x pos) (ip i):=by
 intro pins s σ H v u Q I r h
 exact wpAny_assign_Name (j6 I hN hi hx r (fun s' I'=>⟨_,H,I',h⟩) hf)
noncomputable def NK:A8:=fun vs σ H Q=>vs=[]/\Q σ H
noncomputable def IF (t:TG)(u:A8):A8:=fun vs σ H Q=>∃ v r,vs=v :: r/\t v σ H fun σ' H'=>u r σ' H' Q
theorem bW:LU X [] NK:=by
 intro pins s σ H vs us Q I r h
 obtain⟨e,h⟩:=h
 subst e
 cases r
 exact assignInOrder_nil ⟨σ,H,I,h⟩
theorem aG {e:Expr}{es:List Expr}{t:TG}{u:A8}(h1:PG X e t)(h2:LU X es u)
  (hs:autoParam ((assignEach (e :: es) X.env).map (·.2)=assign e X.env :: (assignEach es X.env).map (·.2)) η):LU X (e :: es) (IF t u):=by
 intro pins s σ H vs us Q I r h
 obtain⟨v,vr,e1,h⟩:=h
 subst e1
 cases r with
 | cons r rr =>
  rw[hs]
  refine assignInOrder_cons (aW (h1 pins s σ H _ _ _ I r h) fun _ s1 AL=>?_)
  obtain⟨σ1,H1,I1,q1⟩:=AL
  exact h2 pins s1 σ1 H1 _ _ Q I1 rr q1
noncomputable def wu (K:Frag)(n:Nat)(t:A8):TG:=fun v σ H Q=>∃ a xs,v = .ref a/\Ba K H a xs/\xs.length=n/\t xs σ H Q
theorem c7 {es:List Expr}{k:Nat}{t:A8}{n:Nat}(hc:X.calm=true)(h:LU X es t)
  (hn:autoParam ((assignEach es X.env).length=n) η) (CY:autoParam ((assignEach es X.env).findIdx? (·.1)=none) η):PG X (.Tuple es k pos) (wu X.K n t):=by
 intro pins s σ H v u Q I r hw
 obtain⟨a,xs,e1,hq,hl,hw⟩:=hw
 subst e1
 cases r
 obtain⟨AM,rv,ht,hz⟩:=I.tuple hq
 refine assign_Tuple_tuple (I.ok.hd hc) ht (by simp[hn,← hl,rv.length]) CY fun h' hx=>?_
 have I1:Inv X pins σ H { s with heap:=h' }:=I.kept (t':=s.toks) fun b o e=>hx b o (ne_of_lt (lt_size e)) e
 exact h pins _ σ H xs _ Q I1 (by simpa using rv) hw
noncomputable def NL (to ti:TE)(t:A7):TG:=fun v σ H Q=>to σ H fun o H1=>ti σ H1 fun i H2=>t o i v H2 fun H3=>Q σ H3
theorem zt {o i:Expr}{to ti:TE}{t:A7}(ho:PE X o to)(hi:PE X i ti)(hs:IE X t)
  (ha:∀ v,assign (.Subscript o i pos) X.env v=(do
   let ov ← holding [v] (eval o X.env)
   let iv ← holding [v,ov] (eval i X.env)
   standAt pos
   holding [v,ov,iv] (setItem ov iv v)
   release [v,ov,iv] []):=by intro _;rfl):PG X (.Subscript o i pos) (NL to ti t):=by
 intro pins s σ H v u Q I r h
 rw[ha]
 refine wpAny_bind (wpAny_holding (aW (ho pins s σ H _ I h) fun ov s1 AL=>?_))
 obtain⟨x,H1,I1,r1,q1⟩:=AL
 refine wpAny_bind (wpAny_holding (aW (hi pins s1 σ H1 _ I1 q1) fun iv s2 AL=>?_))
 obtain⟨y,H2,I2,r2,q2⟩:=AL
 refine wpAny_bind (wpAny_standAt (wpAny_bind (wpAny_holding (aW (hs pins s2 σ H2 x y v ov iv u _ I2 r1 r2 r q2) fun _ s3 AL=>?_))))
 obtain⟨H3,I3,q3⟩:=AL
 exact wpAny_release ⟨σ,H3,I3,q3⟩
noncomputable def yN (te:TE)(g:TG):TS:=fun D σ H=>te σ H fun x H1=>g x σ H1 D.nx
theorem qG {tg e:Expr}{te:TE}{g:TG}(he:PE X e te)(hg:PG X tg g)(hs:autoParam (swapsWithSole [tg] e pos.line X.env=pure false) η)(hw:autoParam (swappedStores [tg] e X.env=pure none) η)
  (h1:autoParam ((assignEach [tg] X.env).map (·.2)=[assign tg X.env]) η):PS X (.Assign [tg] e pos) (yN te g):=by
 intro pins s σ H D I h
 refine wpAny_Assign_stores (aW (he pins s σ H _ I h) fun v s1 AL=>?_) hs hw
 obtain⟨x,H1,I1,r1,q1⟩:=AL
 rw[h1]
 exact aW (hg pins s1 σ H1 x v _ I1 r1 q1) fun _ s2 q=>q
theorem au {i:Nat}{x:Str}{e:Expr}{te:TE}{pos':Pos}(hN:X.N.Nodup)(hi:X.N[i]? = some x)(hx:Loc X.env.scope x)(he:PE X e te)(hs:autoParam (swapsWith e (some (.Name x pos')) pos.line X.env=pure false) η)(hf:autoParam (X.fn x=true∨X.env.scope.names.lookup x=some .local) ζ) :
  PS X (.Assign [.Name x pos'] e pos) (yN te (ip i)):=by
 intro pins s σ H D I h
 refine wpAny_Assign_Name (aW (he pins s σ H _ I h) fun v s1 AL=>?_) hs
 obtain⟨y,H1,I1,r1,q1⟩:=AL
 exact j6 I1 hN hi hx r1 (fun s2 I2=>⟨_,H1,I2,q1⟩) hf
noncomputable def NM (i:Nat)(te:TE)(ti:LV):TS:=fun D σ H=>∃ x,σ[i]? = some (some x)/\te σ H fun y H1=>ti x y H1 fun z H2=>D.nx (σ.set i (some z)) H2
theorem mT {i:Nat}{x:Str}{e:Expr}{te:TE}{op:Operator}{ti:LV}{pos':Pos}(hN:X.N.Nodup)(hi:X.N[i]? = some x)(hx:Loc X.env.scope x)(he:PE X e te)(ho:R4 X op ti)(hf:autoParam (X.fn x=true∨X.env.scope.names.lookup x=some .local) ζ) :
  PS X (.AugAssign (.Name x pos') op e pos) (NM i te ti):=by
 intro pins s σ H D I h
 obtain⟨v,e1,h⟩:=h
 obtain⟨m,hn,hl⟩:=I.loc
 have vis:LO X.env.scope x:=by rcases hx with k | k;exact .inl k;exact .inr (.inl k)
 obtain⟨u,r,l⟩:=hl i x v hi e1 vis
 refine wpAny_AugAssign_Name ?_
 have go:wpAny (model X.prog X.w) X.A (eval e X.env) (fun w s₂=>wpAny (model X.prog X.w) X.A (inplaceOp op u w) (fun r s₃=>wpAny (model X.prog X.w) X.A (storeName X.env x r) (fun _=>SP X pins D .next) X.xe s₃) X.xe s₂) X.xe s:=by
  refine aW (he pins s σ H _ I h) fun w s1 AL=>?_
  obtain⟨y,H1,I1,r1,q1⟩:=AL
  refine aW (ho pins s1 σ H1 v y u w _ I1 r r1 q1) fun z s2 AL=>?_
  obtain⟨zv,H2,I2,r2,q2⟩:=AL
  exact j6 I2 hN hi hx r2 (fun s3 I3=>⟨_,H2,I3,q2⟩) hf
 rcases l with ⟨hk,hm⟩ | ⟨hk,c,hc,DW⟩
 ·exact wpAny_loadName_local I.ok.kind hk hn hm go
 ·rcases hk with hk | hk
  ·exact wpAny_loadName_cell I.ok.kind hk hc DW go
  ·rcases hx with k | k
   ·have:X.env.scope.names.lookup x=some .free:=hk
    rw[k]at this;cases this
   ·have:X.env.scope.names.lookup x=some .free:=hk
    rw[k]at this;cases this
noncomputable def ipI (f:Int->Int->Int):LV:=fun x y H Q=>∃ i j,x = .int i/\y = .int j/\Q (.int (f i j)) H
theorem nq:R4 X .Add (ipI fun i j=>i + j):=by
 intro pins s σ H x y v u Q I r1 r2 h
 obtain⟨i,j,e1,e2,q⟩:=h
 subst e1;subst e2
 obtain⟨t,rfl⟩:=r1
 obtain⟨t',rfl⟩:=r2
 exact iadd_int ⟨.int _,H,I.tok _,⟨_,rfl⟩,q⟩
end
section
variable {X:Cx}{pos:Pos}
noncomputable def yF (c:TT)(tb:TS):TS:=fun D σ H=>∃ W:Nat->St->Hp->Prop,(∃ m,W m σ H)/\∀ m σ H,W m σ H ->
 c σ H fun b H1=>if b=true then ∃ N:St->Hp->Prop,(∀ σ' H',N σ' H'->∃ m',m' < m/\W m' σ' H')/\tb { D with nx:=N,ct:=N,bk:=D.nx } σ H1 else D.nx σ H1
theorem eh {c:Expr}{body:List Stmt}{tc:TT}{tb:TS}(hp:PassesOwn (model X.prog X.w) X.A X.env X.xe)(hc:PT X c tc)(hb:Em X body tb):PS X (.While c body [] pos) (yF tc tb):=by
 intro pins s σ H D I h
 obtain⟨W,⟨m0,w0⟩,turn⟩:=h
 refine wpAny_While (codeAny_whileLoop (fun n s'=>∃ σ' H',Inv X pins σ' H' s'/\W n σ' H') ?_ m0 ⟨σ,H,I,w0⟩)
 rintro n s1 ⟨σ1,H1,I1,w1⟩
 refine wpAny_passesOwn hp (aW (hc pins s1 σ1 H1 _ I1 (turn n σ1 H1 w1)) fun b s2 AL=>?_)
 obtain⟨H2,I2,q2⟩:=AL
 cases b with
 | true =>
  obtain⟨N,hN,q2⟩:=q2
  rw[if_pos rfl]
  refine wpAny_passesOwn hp (aW (hb pins s2 σ1 H2 _ I2 q2) fun f s3 q3=>?_)
  cases f with
  | next =>
   obtain⟨σ3,H3,I3,n3⟩:=q3
   obtain⟨m',hm,w3⟩:=hN σ3 H3 n3
   exact⟨m',hm,σ3,H3,I3,w3⟩
  | cont =>
   obtain⟨σ3,H3,I3,n3⟩:=q3
   obtain⟨m',hm,w3⟩:=hN σ3 H3 n3
   exact⟨m',hm,σ3,H3,I3,w3⟩
  | brk=>exact q3
  | ret v=>exact q3
 | false =>
  rw[if_neg Bool.false_ne_true]
  exact wpAny_execs_nil ⟨σ1,H2,I2,q2⟩
end
structure It where
 go:Nat->Hp->Prop
 Fd:Nat->Hp->V->Hp->Prop
 stop:Nat->Hp->Prop
noncomputable def eY (X:Cx)(pins:List (Addr × Obj))(H:Hp)(b:Addr):Prop :=
 H b=none/\b ≠ X.env.locals/\b ∉ X.fs/\(b ∈ X.ex∨X.s₀.heap.objs.size <= b)/\(∀ x c,X.env.cells.lookup x=some c->c ≠ b)/\∀ p ∈ X.pn ++ pins,p.1 ≠ b
theorem Inv.D1 {X:Cx}{pins:List (Addr × Obj)}{σ:St}{H H':Hp}{s:Shared}{b:Addr}(I:Inv X pins σ H s)(hb:s.heap.objs.size <= b)(hn:H' b=none):eY X pins H' b:=by
 refine⟨hn,ne_of_gt (lt_of_lt_of_le I.lt hb),I.N6 hb, .inr (le_trans I.sz hb),fun x c e z=>?_,fun p hp z=>?_⟩
 ·obtain⟨v,q⟩:=I.cell x c e
  exact absurd (lt_of_lt_of_le q.lt (by rw[z];exact hb)) (lt_irrefl _)
 ·exact absurd (lt_of_lt_of_le (lt_size (I.pin p hp).1) (by rw[z];exact hb)) (lt_irrefl _)
structure nJ (P:Program)(w:World)(K:Frag)(tg:Expr)(J:It)(fp:List Addr)(it:Addr)(tn:Nat->Heap->Prop):Prop where
 mem:it ∈ fp
 obj:∀ i h,tn i h->∀ b ∈ fp,∃ o,h.get? b=some o/\∀ v,o.data ≠ .cell v
 keep:∀ i h h',tn i h->(∀ b ∈ fp,∀ o,h.get? b=some o->h'.get? b=some o)->tn i h'
 item:∀ (X:Cx),X.prog=P->X.w=w->X.K=K->X.calm=true->∀ (i:Nat)(pins:List (Addr × Obj))(s:Shared)(σ:St)(H:Hp)(E:Value->Shared->Prop),Inv X pins σ H s->(∀ b ∈ fp,eY X pins H b)->tn i s.heap->J.go i H ->
  wpAny (model P w) X.A (pyNext (.ref it)) (fun r s1=>∃ u,r=some u /\
   wpAny (model P w) X.A (letOwnedTupleGo tg (.ref it) u) (fun _ s2=>∃ x H',Inv X pins σ H' s2/\RelV x u/\J.Fd i H x H'/\tn (i + 1) s2.heap/\∀ b ∈ fp,H' b=none) E s1) E s
 done:∀ (X:Cx),X.prog=P->X.w=w->X.K=K->X.calm=true->∀ (i:Nat)(pins:List (Addr × Obj))(s:Shared)(σ:St)(H:Hp)(E:Value->Shared->Prop),Inv X pins σ H s->(∀ b ∈ fp,eY X pins H b)->tn i s.heap->J.stop i H ->
  wpAny (model P w) X.A (pyNext (.ref it)) (fun r s1=>r=none/\Inv X pins σ H s1) E s
 self:∀ (A:Around)(i:Nat)(s:Shared)(Q:Value->Shared->Prop)(E:Value->Shared->Prop),tn i s.heap->Q (.ref it) s->wpAny (model P w) A (pyIter (.ref it)) Q E s
abbrev TI:=St->Hp->(It->Hp->Prop)->Prop
noncomputable def R5 (X:Cx)(pins:List (Addr × Obj))(σ:St)(tg:Expr)(R:It->Hp->Prop)(LW:Value)(s2:Shared):Prop :=
 ∃ (it:Addr)(fp:List Addr)(tn:Nat->Heap->Prop)(J:It)(H':Hp),LW = .ref it/\Inv X pins σ H' s2/\nJ X.prog X.w X.K tg J fp it tn/\tn 0 s2.heap/\(∀ b ∈ fp,eY X pins H' b)/\R J H'
noncomputable def PI (X:Cx)(tg iter:Expr)(wi:TI):Prop :=
 ∀ (pins:List (Addr × Obj))(s:Shared)(σ:St)(H:Hp)(R:It->Hp->Prop),Inv X pins σ H s->wi σ H R ->
  wpAny (model X.prog X.w) X.A (eval iter X.env) (fun v s1=>wpAny (model X.prog X.w) X.A (pyIter v) (R5 X pins σ tg R) X.xe s1) X.xe s
theorem sA {M:Model}{A:Around}{E:Value->Shared->Prop}{s:Shared}{tg:Expr}{it:Addr}{u:Value}{o:Obj}{n:String}{vs:Array Value}{Q:Unit->Shared->Prop}(ho:s.heap.get? it=some o)(hc:o.cls = .type n)(hd:o.data = .fields vs)
  (hn:["enumerate", "zip", "dict_itemiterator", "dict_reverseitemiterator", "odict_iterator", "itertools.zip_longest", "itertools.pairwise"].contains n=false) (hQ:Q () s):wpAny M A (letOwnedTupleGo tg (.ref it) u) Q E s:=by
 unfold letOwnedTupleGo
 cases tg<;>first
  | exact wpAny_pure hQ
  | (cases u<;>first
    | exact wpAny_pure hQ
    | (refine wpAny_bind (wpAny_load ho ?_)
       rw[hc,hd]
       show wpAny M A (if (["enumerate", "zip", "dict_itemiterator", "dict_reverseitemiterator", "odict_iterator", "itertools.zip_longest", "itertools.pairwise"].contains n && vs[0]? == some (rawInt _))=true then _ else _) Q E s
       rw[if_neg (by intro h;rw[hn,Bool.false_and]at h;cases h)]
       exact wpAny_pure hQ))
noncomputable def HQ (K:Frag)(a:Addr):It :=
 ⟨fun i H=>∃ xs x,AQ K H a xs/\xs[i]? = some x,fun i H x H'=>H' = H/\∀ xs,AQ K H a xs->xs[i]? = some x,fun i H=>∃ xs,AQ K H a xs/\xs.length <= i⟩
noncomputable def IG (K:Frag)(a:Addr):It :=
 ⟨fun i H=>∃ xs x,Ba K H a xs/\xs[i]? = some x,fun i H x H'=>H' = H/\∀ xs,Ba K H a xs->xs[i]? = some x,fun i H=>∃ xs,Ba K H a xs/\xs.length <= i⟩
noncomputable def yD (lo:Int)(n:Nat):It:=⟨fun i _=>i < n,fun i H x H'=>H' = H/\x = .int (lo + i),fun i _=>n <= i⟩
theorem sP {P:Program}{w:World}{K:Frag}{tg:Expr}(a it:Addr):nJ P w K tg (HQ K a) [it] it (fun i h=>h.IsListIter it a i) where
 mem:=by simp
 obj:=fun i h st b hb=>by
  have e:b=it:=by simpa using hb
  subst e
  obtain⟨o,e,c,d⟩:=st
  exact⟨o,e,fun v z=>by rw[d]at z;cases z⟩
 keep:=fun i h h' st k=>st.at fun o e=>k it (by simp) o e
 item:=by
  intro X hP hw hK hc i pins s σ H E I hf st hg
  subst hP hw hK
  obtain⟨xs,x,hq,hx⟩:=hg
  obtain⟨AM,rv,p,hz⟩:=I.list hq
  obtain⟨u,hu,ru⟩:=rv.get hx
  obtain⟨f0,f1,f2,f3,f4,f5⟩:=hf it (by simp)
  refine wpAny_pyNext_list_item st p.isList (x:=u) (by simpa using hu) fun h' AO sb=>?_
  have I1:Inv X pins σ H { s with heap:=h' }:=I.turned (t':=s.toks) (fun b o hb e=>(sb.2 b hb).trans e) f0 f1 f3 f4 f5
  obtain⟨o,e,c,d⟩:=id AO
  exact⟨u,rfl,sA (s:={ s with heap:=h' }) e c d (by decide) ⟨x,H,I1,ru,⟨rfl,fun ys hy=>by rw[I.BP hy hq];exact hx⟩,AO,fun b hb=>(hf b hb).1⟩⟩
 done:=by
  intro X hP hw hK hc i pins s σ H E I hf st hg
  subst hP hw hK
  obtain⟨xs,hq,hx⟩:=hg
  obtain⟨AM,rv,p,hz⟩:=I.list hq
  obtain⟨f0,f1,f2,f3,f4,f5⟩:=hf it (by simp)
  have hl:=rv.length
  exact wpAny_pyNext_list_end (I.ok.hd hc) st p.isList (by simp;omega) fun h' eb=>⟨rfl,I.turned (t':=s.toks) (fun b o hb e=>eb b o hb e) f0 f1 f3 f4 f5⟩
 self:=fun _ _ _ _ _ st h=>wpAny_pyIter_listiter st h
theorem pU {P:Program}{w:World}{K:Frag}{tg:Expr}(a it:Addr):nJ P w K tg (IG K a) [it] it (fun i h=>h.IsTupleIter it a i) where
 mem:=by simp
 obj:=fun i h st b hb=>by
  have e:b=it:=by simpa using hb
  subst e
  obtain⟨o,e,c,d⟩:=st
  exact⟨o,e,fun v z=>by rw[d]at z;cases z⟩
 keep:=fun i h h' st k=>st.at fun o e=>k it (by simp) o e
 item:=by
  intro X hP hw hK hc i pins s σ H E I hf st hg
  subst hP hw hK
  obtain⟨xs,x,hq,hx⟩:=hg
  obtain⟨AM,rv,p,hz⟩:=I.tuple hq
  obtain⟨u,hu,ru⟩:=rv.get hx
  obtain⟨f0,f1,f2,f3,f4,f5⟩:=hf it (by simp)
  refine wpAny_pyNext_tuple_item st (show s.heap.IsTuple a AM.toArray from p) (x:=u) (by simpa using hu) fun h' AO sb=>?_
  have I1:Inv X pins σ H { s with heap:=h' }:=I.turned (t':=s.toks) (fun b o hb e=>(sb.2 b hb).trans e) f0 f1 f3 f4 f5
  obtain⟨o,e,c,d⟩:=id AO
  exact⟨u,rfl,sA (s:={ s with heap:=h' }) e c d (by decide) ⟨x,H,I1,ru,⟨rfl,fun ys hy=>by rw[I.CF hy hq];exact hx⟩,AO,fun b hb=>(hf b hb).1⟩⟩
 done:=by
  intro X hP hw hK hc i pins s σ H E I hf st hg
  subst hP hw hK
  obtain⟨xs,hq,hx⟩:=hg
  obtain⟨AM,rv,p,hz⟩:=I.tuple hq
  obtain⟨f0,f1,f2,f3,f4,f5⟩:=hf it (by simp)
  have hl:=rv.length
  exact wpAny_pyNext_tuple_end (I.ok.hd hc) st (show s.heap.IsTuple a AM.toArray from p) (by simp;omega) fun h' eb=>⟨rfl,I.turned (t':=s.toks) (fun b o hb e=>eb b o hb e) f0 f1 f3 f4 f5⟩
 self:=fun _ _ _ _ _ st h=>wpAny_pyIter_tupleiter st h
theorem pV {P:Program}{w:World}{K:Frag}{tg:Expr}(it:Addr)(lo:Int)(n:Nat):nJ P w K tg (yD lo n) [it] it (fun i h=>IsRangeIter h it (lo + (i:Nat) * 1) ((n:Int) - (i:Nat)) 1) where
 mem:=by simp
 obj:=fun i h st b hb=>by
  have e:b=it:=by simpa using hb
  subst e
  exact⟨_,st,fun v z=>by
   have z':Data.fields _=Data.cell v:=z
   cases z'⟩
 keep:=fun i h h' st k=>k it (by simp) _ st
 item:=by
  intro X hP hw hK hc i pins s σ H E I hf st hg
  subst hP hw hK
  obtain⟨f0,f1,f2,f3,f4,f5⟩:=hf it (by simp)
  have W:=Walks.range (prog:=X.prog) (w:=X.w) (I.ok.hd hc) it lo 1 n
  refine W.item i s _ _ hg st fun v h' tk hv AO kk=>?_
  obtain⟨t,rfl⟩:=hv
  have I1:Inv X pins σ H { s with heap:=h',toks:=tk }:=I.turned (fun b o hb e=>kk b o (by simpa using hb) e) f0 f1 f3 f4 f5
  refine⟨_,rfl,sA (s:={ s with heap:=h',toks:=tk }) (n := "range_iterator") AO rfl rfl (by decide) ⟨.int (lo + i),H,I1,⟨t,?_⟩,⟨rfl,rfl⟩,AO,fun b hb=>(hf b hb).1⟩⟩
  rw[Int.mul_one]
 done:=by
  intro X hP hw hK hc i pins s σ H E I hf st hg
  subst hP hw hK
  obtain⟨f0,f1,f2,f3,f4,f5⟩:=hf it (by simp)
  exact wpAny_pyNext_range_end (I.ok.hd hc) st (by have:n <= i:=hg;omega) fun h' eb=>⟨rfl,I.turned (t':=s.toks) (fun b o hb e=>eb b o hb e) f0 f1 f3 f4 f5⟩
 self:=fun _ _ _ _ _ st h=>wpAny_pyIter_rangeiter st h
section
variable {X:Cx}{tg:Expr}
noncomputable def IH (K:Frag)(tl:TE):TI:=fun σ H R=>tl σ H fun x H1=>∃ a,x = .ref a/\(∃ xs,AQ K H1 a xs)/\R (HQ K a) H1
noncomputable def NN (K:Frag)(tl:TE):TI:=fun σ H R=>tl σ H fun x H1=>∃ a,x = .ref a/\(∃ xs,Ba K H1 a xs)/\R (IG K a) H1
theorem bB {l:Expr}{tl:TE}(hl:PE X l tl):PI X tg l (IH X.K tl):=by
 intro pins s σ H R I h
 refine aW (hl pins s σ H _ I h) fun v s1 AL=>?_
 obtain⟨x,H1,I1,r1,q1⟩:=AL
 obtain⟨a,e,⟨xs,hq⟩,q⟩:=q1
 subst e
 cases r1
 obtain⟨AM,rv,p,hz⟩:=I1.list hq
 refine wpAny_pyIter_list p.isList ?_
 refine⟨s1.heap.objs.size,[s1.heap.objs.size],_,_,H1,rfl,I1.kept (t':=s1.toks) fun b o e=>Heap.get?_push_of_some _ e,sP a _,⟨_,Heap.get?_push_size _ rfl,rfl,rfl⟩,fun b hb=>?_,q⟩
 have e:b=s1.heap.objs.size:=by simpa using hb
 subst e
 exact I1.D1 (Nat.le_refl _) (I1.AR.fresh (Nat.le_refl _))
theorem mW {l:Expr}{tl:TE}(hl:PE X l tl):PI X tg l (NN X.K tl):=by
 intro pins s σ H R I h
 refine aW (hl pins s σ H _ I h) fun v s1 AL=>?_
 obtain⟨x,H1,I1,r1,q1⟩:=AL
 obtain⟨a,e,⟨xs,hq⟩,q⟩:=q1
 subst e
 cases r1
 obtain⟨AM,rv,p,hz⟩:=I1.tuple hq
 refine wpAny_pyIter_tuple (show s1.heap.IsTuple a AM.toArray from p) ?_
 refine⟨s1.heap.objs.size,[s1.heap.objs.size],_,_,H1,rfl,I1.kept (t':=s1.toks) fun b o e=>Heap.get?_push_of_some _ e,pU a _,⟨_,Heap.get?_push_size _ rfl,rfl,rfl⟩,fun b hb=>?_,q⟩
 have e:b=s1.heap.objs.size:=by simpa using hb
 subst e
 exact I1.D1 (Nat.le_refl _) (I1.AR.fresh (Nat.le_refl _))
theorem oK {pins:List (Addr × Obj)}{σ:St}{H:Hp}{s:Shared}{R:It->Hp->Prop}{E:Value->Shared->Prop}{lo hi:Int}{t u v:Tok}{tk:Nat}(I:Inv X pins σ H s)(h1:-(2 ^ 62) <= lo)(h2:lo < 2 ^ 62)(h3:-(2 ^ 62) <= hi)(h4:hi < 2 ^ 62)
  (q:R (yD lo (hi - lo).toNat) H):wpAny (model X.prog X.w) X.A (pyIter (.ref s.heap.objs.size)) (R5 X pins σ tg R) E { s with heap:=s.heap.push { cls := .type "range",data := .fields #[.int lo t, .int hi u, .int 1 v] },toks:=tk }:=by
 refine wpAny_pyIter_range (IsRange.new ..) (small_one h1 h2 h3 h4) ?_
 have I1:Inv X pins σ H { s with heap:=s.heap.push { cls := .type "range",data := .fields #[.int lo t, .int hi u, .int 1 v] },toks:=tk }:=I.kept fun b o e=>Heap.get?_push_of_some _ e
 refine⟨(s.heap.push { cls := .type "range",data := .fields #[.int lo t, .int hi u, .int 1 v] }).objs.size,[(s.heap.push { cls := .type "range",data := .fields #[.int lo t, .int hi u, .int 1 v] }).objs.size],_,_,H,rfl,
  I1.kept (t':=tk) fun b o e=>Heap.get?_push_of_some _ e,pV _ lo (hi - lo).toNat,?_,fun b hb=>?_,q⟩
 ·have e1:lo + ((0:Nat):Int) * 1=lo:=by simp
  have e2:(((hi - lo).toNat:Nat):Int) - ((0:Nat):Int)=Builtin.Range.rangeSize lo hi 1:=by rw[rangeSize_one];split<;>omega
  show IsRangeIter _ _ (lo + ((0:Nat):Int) * 1) ((((hi - lo).toNat:Nat):Int) - ((0:Nat):Int)) 1
  rw[e1,e2]
  exact Heap.get?_push_size _ rfl
 ·have e:b=(s.heap.push { cls := .type "range",data := .fields #[.int lo t, .int hi u, .int 1 v] }).objs.size:=by simpa using hb
  subst e
  exact I1.D1 (Nat.le_refl _) (I1.AR.fresh (Nat.le_refl _))
noncomputable def II (ta:TA):TI:=fun σ H R=>ta σ H fun vs H1=>∃ j:Int,vs=[.int j]/\-(2 ^ 62) <= j/\j < 2 ^ 62/\R (yD 0 j.toNat) H1
noncomputable def IJ (ta:TA):TI:=fun σ H R=>ta σ H fun vs H1=>∃ i j:Int,vs=[.int i, .int j]/\(-(2 ^ 62) <= i/\i < 2 ^ 62/\-(2 ^ 62) <= j/\j < 2 ^ 62)/\R (yD i (j - i).toNat) H1
theorem aR {a:Expr}{ta:TA}{p pos:Pos}(hg:Gl X "range")(hm:X.mg "range" = none)(ha:PA X [a] ta)(hs:autoParam (starEach [a] X.env=[(false,eval a X.env)]) η):PI X tg (.Call (.Name "range" p) [a] [] pos) (II ta):=by
 intro pins s σ H R I h
 refine Call_ (dW I hg hm boot_range (PyProof.Rows.callWith_type1 (aW (ha pos pins s σ H _ I h) fun us s1 AL=>?_) hs rfl))
 obtain⟨vs,H1,I1,r1,q1⟩:=AL
 obtain⟨j,e,q1,q2,q⟩:=q1
 subst e
 cases r1 with
 | cons r rr =>
  cases rr
  obtain⟨t,rfl⟩:=r
  exact call_range_1 (oK I1 (by omega) (by omega) q1 q2 (by simpa using q))
theorem iC {a b:Expr}{ta:TA}{p pos:Pos}(hg:Gl X "range")(hm:X.mg "range" = none)(ha:PA X [a,b] ta)(hs:autoParam (starEach [a,b] X.env=[(false,eval a X.env),(false,eval b X.env)]) η)(C7:autoParam (starEach [b] X.env=[(false,eval b X.env)]) η) :
  PI X tg (.Call (.Name "range" p) [a,b] [] pos) (IJ ta):=by
 intro pins s σ H R I h
 refine Call_ (dW I hg hm boot_range (PyProof.Rows.callWith_type1 (aW (ha pos pins s σ H _ I h) fun us s1 AL=>?_) (by rw[hs,C7]) (by rw[C7];rfl)))
 obtain⟨vs,H1,I1,r1,q1⟩:=AL
 obtain⟨i,j,e,⟨q1,q2,q3,q4⟩,q⟩:=q1
 subst e
 cases r1 with
 | cons r rr =>
  cases rr with
  | cons r' rr =>
   cases rr
   obtain⟨t,rfl⟩:=r
   obtain⟨t',rfl⟩:=r'
   exact call_range_2 (oK I1 q1 q2 q3 q4 q)
noncomputable def NO (wi:TI)(g:TG)(tb:TS):TS:=fun D σ H=>wi σ H fun J H1=>∃ W:Nat->Nat->St->Hp->Prop,(∃ m,W 0 m σ H1)/\∀ i m σ H,W i m σ H ->
 (J.stop i H/\D.nx σ H)∨(J.go i H/\∃ N:St->Hp->Prop,(∀ σ' H',N σ' H'->∃ m',m' < m/\W (i + 1) m' σ' H')/\∀ x H',J.Fd i H x H'->g x σ H' fun σ2 H2=>tb { D with nx:=N,ct:=N,bk:=D.nx } σ2 H2)
noncomputable def eM (fp:List Addr)(h:Heap):List (Addr × Obj):=fp.filterMap fun b=>(h.get? b).map fun o=>(b,o)
theorem eP {fp:List Addr}{h:Heap}{b:Addr}{o:Obj}(hb:b ∈ fp)(e:h.get? b=some o):(b,o) ∈ eM fp h:=List.mem_filterMap.mpr ⟨b,hb,by rw[e];rfl⟩
theorem lC {fp:List Addr}{h:Heap}{p:Addr × Obj}(hp:p ∈ eM fp h):p.1 ∈ fp/\h.get? p.1=some p.2:=by
 obtain⟨b,hb,e⟩:=List.mem_filterMap.mp hp
 cases q:h.get? b with
 | none=>rw[q]at e;cases e
 | some o =>
  rw[q]at e
  have e':(b,o)=p:=Option.some.inj e
  subst e'
  exact⟨hb,q⟩
theorem Inv.pinned {pins:List (Addr × Obj)}{σ:St}{H:Hp}{s:Shared}{fp:List Addr}(I:Inv X pins σ H s)(hf:∀ b ∈ fp,eY X pins H b)(ho:∀ b ∈ fp,∃ o,s.heap.get? b=some o/\∀ v,o.data ≠ .cell v):Inv X (pins ++ eM fp s.heap) σ H s :=
 I.BG fun p hp=>(mem_append.mp hp).elim (fun z=>I.pin p (mem_append_right _ z)) fun z=>by
  obtain⟨hb,e⟩:=lC z
  obtain⟨f0,f1,f2,_⟩:=hf p.1 hb
  obtain⟨o,e',d⟩:=ho p.1 hb
  rw[e]at e';cases e'
  exact⟨e,f0,f1,f2,d⟩
theorem Inv.BQ {pins pl:List (Addr × Obj)}{σ:St}{H:Hp}{s:Shared}(I:Inv X (pins ++ pl) σ H s):Inv X pins σ H s:=I.BG fun p hp=>I.pin p (mem_append_right _ (mem_append_left _ hp))
theorem aK {iter:Expr}{body:List Stmt}{wi:TI}{g:TG}{tb:TS}{pos:Pos}(hp:PassesOwn (model X.prog X.w) X.A X.env X.xe)(hc:X.calm=true)(hi:PI X tg iter wi)(hg:PG X tg g)(hb:Em X body tb)
  (hs:autoParam (∀ x,foldedSetIterable iter X.env x=pure x) ψ):PS X (.For tg iter body [] pos) (NO wi g tb):=by
 intro pins s σ H D I h
 refine wpAny_For (aW (hi pins s σ H _ I h) fun v s1 h1=>aW h1 fun LW s2 h2=>?_) hs
 obtain⟨it,fp,tn,J,H2,e,I2,T,Bs,f2,W,⟨m0,w0⟩,turn⟩:=h2
 subst e
 have stat:∀ {H':Hp},(∀ b ∈ fp,H' b=none)->∀ b ∈ fp,eY X pins H' b:=fun hn b hb=>⟨hn b hb,(f2 b hb).2⟩
 refine codeAny_forLoop_any (fun n s'=>∃ i σ' H',Inv X pins σ' H' s'/\tn i s'.heap/\(∀ b ∈ fp,H' b=none)/\W i n σ' H') ?_ m0 ⟨0,σ,H2,I2,Bs,fun b hb=>(f2 b hb).1,w0⟩
 rintro n s3 ⟨i,σ3,H3,I3,Co,R6,w3⟩
 rcases turn i n σ3 H3 w3 with ⟨stop,qn⟩ | ⟨go,N,hN,step⟩
 ·refine wpAny_passesOwn hp (aW (T.done X rfl rfl rfl hc i pins s3 σ3 H3 X.xe I3 (stat R6) Co stop) fun r s4 AL=>?_)
  obtain⟨hr,I4⟩:=AL
  subst hr
  exact wpAny_execs_nil ⟨σ3,H3,I4,qn⟩
 ·refine wpAny_passesOwn hp (aW (T.item X rfl rfl rfl hc i pins s3 σ3 H3 X.xe I3 (stat R6) Co go) fun r s4 AL=>?_)
  obtain⟨u,hr,h4⟩:=AL
  subst hr
  refine wpAny_passesOwn hp (aW h4 fun _ s5 AL=>?_)
  obtain⟨x,H5,I5,r5,y5,GS,LX⟩:=AL
  have I5':=I5.pinned (stat LX) (T.obj _ _ GS)
  refine wpAny_passesOwn hp (aW (hg _ s5 σ3 H5 x u _ I5' r5 (step x H5 y5)) fun _ s6 AL=>?_)
  obtain⟨σ6,H6,I6,q6⟩:=AL
  refine wpAny_passesOwn hp (aW (hb _ s6 σ6 H6 _ I6 q6) fun f s7 q7=>?_)
  have again:∀ {σ7:St}{H7:Hp},Inv X (pins ++ eM fp s5.heap) σ7 H7 s7->N σ7 H7->∃ m,m < n/\∃ i σ' H',Inv X pins σ' H' s7/\tn i s7.heap/\(∀ b ∈ fp,H' b=none)/\W i m σ' H':=fun {σ7 H7} I7 n7=>by
   obtain⟨m',hm,w7⟩:=hN σ7 H7 n7
   refine⟨m',hm,i + 1,σ7,H7,I7.BQ,T.keep _ _ _ GS fun b hb o e=>(I7.pin (b,o) (mem_append_right _ (mem_append_right _ (eP hb e)))).1,fun b hb=>?_,w7⟩
   obtain⟨o,e,d⟩:=T.obj _ _ GS b hb
   exact(I7.pin (b,o) (mem_append_right _ (mem_append_right _ (eP hb e)))).2.1
  cases f with
  | next=>obtain⟨σ7,H7,I7,n7⟩:=q7;exact again I7 n7
  | cont=>obtain⟨σ7,H7,I7,n7⟩:=q7;exact again I7 n7
  | brk=>obtain⟨σ7,H7,I7,q7⟩:=q7;exact⟨σ7,H7,I7.BQ,q7⟩
  | ret v=>obtain⟨x7,σ7,H7,I7,r7,q7⟩:=q7;exact⟨x7,σ7,H7,I7.BQ,r7,q7⟩
end
theorem bH {K:Frag}{a:Addr}{xs:List V}{g:TG}{tb:TS}{D:lj}{σ:St}{H:Hp}(Pv:Nat->St->Hp->Prop)(h0:Pv 0 σ H)(hl:∀ i σ H,i <= xs.length->Pv i σ H->AQ K H a xs)
  (hs:∀ i x σ H,xs[i]? = some x->Pv i σ H->g x σ H fun σ2 H2=>tb { D with nx:=Pv (i + 1),ct:=Pv (i + 1),bk:=D.nx } σ2 H2) (hd:∀ σ H,Pv xs.length σ H->D.nx σ H) :
  ∃ W:Nat->Nat->St->Hp->Prop,(∃ m,W 0 m σ H)/\∀ i m σ H,W i m σ H ->
   ((HQ K a).stop i H/\D.nx σ H)∨((HQ K a).go i H/\∃ N:St->Hp->Prop,(∀ σ' H',N σ' H'->∃ m',m' < m/\W (i + 1) m' σ' H')/\∀ x H',(HQ K a).Fd i H x H'->g x σ H' fun σ2 H2=>tb { D with nx:=N,ct:=N,bk:=D.nx } σ2 H2):=by
 refine⟨fun i m σ H=>m=xs.length - i/\i <= xs.length/\Pv i σ H,⟨xs.length,by simp,zero_le _,h0⟩,?_⟩
 rintro i m σ H ⟨rfl,hi,p⟩
 have q:=hl i σ H hi p
 by_cases AV:i < xs.length
 ·refine .inr ⟨⟨xs,xs[i],q,by simp[AV]⟩,Pv (i + 1),fun σ' H' p'=>⟨xs.length - (i + 1),by omega,rfl,AV,p'⟩,fun x H' y=>?_⟩
  obtain⟨e,y⟩:=y
  subst e
  exact hs i x σ _ (y xs q) p
 ·have e:i=xs.length:=by omega
  subst e
  exact .inl ⟨⟨xs,q,Nat.le_refl _⟩,hd σ H p⟩
theorem yd {K:Frag}{a:Addr}{xs:List V}{g:TG}{tb:TS}{D:lj}{σ:St}{H:Hp}(Pv:Nat->St->Hp->Prop)(h0:Pv 0 σ H)(hl:∀ i σ H,i <= xs.length->Pv i σ H->Ba K H a xs)
  (hs:∀ i x σ H,xs[i]? = some x->Pv i σ H->g x σ H fun σ2 H2=>tb { D with nx:=Pv (i + 1),ct:=Pv (i + 1),bk:=D.nx } σ2 H2) (hd:∀ σ H,Pv xs.length σ H->D.nx σ H) :
  ∃ W:Nat->Nat->St->Hp->Prop,(∃ m,W 0 m σ H)/\∀ i m σ H,W i m σ H ->
   ((IG K a).stop i H/\D.nx σ H)∨((IG K a).go i H/\∃ N:St->Hp->Prop,(∀ σ' H',N σ' H'->∃ m',m' < m/\W (i + 1) m' σ' H')/\∀ x H',(IG K a).Fd i H x H'->g x σ H' fun σ2 H2=>tb { D with nx:=N,ct:=N,bk:=D.nx } σ2 H2):=by
 refine⟨fun i m σ H=>m=xs.length - i/\i <= xs.length/\Pv i σ H,⟨xs.length,by simp,zero_le _,h0⟩,?_⟩
 rintro i m σ H ⟨rfl,hi,p⟩
 have q:=hl i σ H hi p
 by_cases AV:i < xs.length
 ·refine .inr ⟨⟨xs,xs[i],q,by simp[AV]⟩,Pv (i + 1),fun σ' H' p'=>⟨xs.length - (i + 1),by omega,rfl,AV,p'⟩,fun x H' y=>?_⟩
  obtain⟨e,y⟩:=y
  subst e
  exact hs i x σ _ (y xs q) p
 ·have e:i=xs.length:=by omega
  subst e
  exact .inl ⟨⟨xs,q,Nat.le_refl _⟩,hd σ H p⟩
theorem aZ {lo:Int}{n:Nat}{g:TG}{tb:TS}{D:lj}{σ:St}{H:Hp}(Pv:Nat->St->Hp->Prop)(h0:Pv 0 σ H)
  (hs:∀ i σ H,i < n->Pv i σ H->g (.int (lo + i)) σ H fun σ2 H2=>tb { D with nx:=Pv (i + 1),ct:=Pv (i + 1),bk:=D.nx } σ2 H2) (hd:∀ σ H,Pv n σ H->D.nx σ H) :
  ∃ W:Nat->Nat->St->Hp->Prop,(∃ m,W 0 m σ H)/\∀ i m σ H,W i m σ H ->
   ((yD lo n).stop i H/\D.nx σ H)∨((yD lo n).go i H/\∃ N:St->Hp->Prop,(∀ σ' H',N σ' H'->∃ m',m' < m/\W (i + 1) m' σ' H')/\∀ x H',(yD lo n).Fd i H x H'->g x σ H' fun σ2 H2=>tb { D with nx:=N,ct:=N,bk:=D.nx } σ2 H2):=by
 refine⟨fun i m σ H=>m=n - i/\i <= n/\Pv i σ H,⟨n,by simp,zero_le _,h0⟩,?_⟩
 rintro i m σ H ⟨rfl,hi,p⟩
 by_cases AV:i < n
 ·refine .inr ⟨AV,Pv (i + 1),fun σ' H' p'=>⟨n - (i + 1),by omega,rfl,AV,p'⟩,fun x H' y=>?_⟩
  obtain⟨e,y⟩:=y
  subst e y
  exact hs i σ _ AV p
 ·have e:i=n:=by omega
  subst e
  exact .inl ⟨Nat.le_refl _,hd σ H p⟩
abbrev R2:=V->V->Hp->VK->Prop
noncomputable def fU (X:Cx)(f:Value->Value->Sem Value)(r:R2):Prop :=
 ∀ (pins:List (Addr × Obj))(s:Shared)(σ:St)(H:Hp)(x y:V)(v u:Value)(Q:VK),Inv X pins σ H s->RelV x v->RelV y u->r x y H Q ->
  wpAny (model X.prog X.w) X.A (f v u) (EP X pins σ Q) X.xe s
noncomputable def eF (X:Cx)(f:Value)(r:List V->Hp->VK->Prop):Prop :=
 ∀ (pins:List (Addr × Obj))(s:Shared)(σ:St)(H:Hp)(xs:List V)(us:List Value)(Q:VK),Inv X pins σ H s->Vals xs us->r xs H Q ->
  wpAny (model X.prog X.w) X.A (call f us) (EP X pins σ Q) X.xe s
noncomputable def NP (X:Cx)(r:V->Hp->(Bool->Hp->Prop)->Prop):Prop :=
 ∀ (pins:List (Addr × Obj))(s:Shared)(σ:St)(H:Hp)(x:V)(v:Value)(Q:Bool->Hp->Prop),Inv X pins σ H s->RelV x v->r x H Q ->
  wpAny (model X.prog X.w) X.A (truthy v) (TP X pins σ Q) X.xe s
noncomputable def LY (r:R2)(ta tb:TE):TE:=fun σ H Q=>ta σ H fun x H1=>tb σ H1 fun y H2=>r x y H2 Q
noncomputable def rI (C:Int->Int->Prop)(g:Int->Int->V):R2:=fun x y H Q=>∃ i j,x = .int i/\y = .int j/\C i j/\Q (g i j) H
noncomputable def wR (g:Int->Int->V):R2:=fun x y H Q=>∃ i j,x = .int i/\y = .int j/\Q (g i j) H
section
variable {X:Cx}{a b c:Expr}{ta tb tc:TE}{pos:Pos}
theorem Ax (ha:PE X a ta)(hb:PE X b tb){pins:List (Addr × Obj)}{s:Shared}{σ:St}{H:Hp}{R:V->V->Hp->Prop}(I:Inv X pins σ H s)
  (h:ta σ H fun x H1=>tb σ H1 fun y H2=>R x y H2) {Q:Value->Shared->Prop} {f:Value->Value->Sem Value}
  (hf:∀ v u s2 x y H2,Inv X pins σ H2 s2->RelV x v->RelV y u->R x y H2->wpAny (model X.prog X.w) X.A (f v u) Q X.xe s2) :
  wpAny (model X.prog X.w) X.A (eval a X.env) (fun v s₁=>wpAny (model X.prog X.w) X.A (eval b X.env) (fun u s₂=>wpAny (model X.prog X.w) X.A (f v u) Q X.xe s₂) X.xe s₁) X.xe s:=by
 refine aW (ha pins s σ H _ I h) fun v s1 AL=>?_
 obtain⟨x,H1,I1,r1,q1⟩:=AL
 refine aW (hb pins s1 σ H1 _ I1 q1) fun u s2 AL=>?_
 obtain⟨y,H2,I2,r2,q2⟩:=AL
 exact hf v u s2 x y H2 I2 r1 r2 q2
theorem az {op:Operator}{r:R2}(ho:fU X (binaryOp op) r)(ha:PE X a ta)(hb:PE X b tb):PE X (.BinOp a op b pos) (LY r ta tb):=by
 intro pins s σ H Q I h
 exact wpAny_BinOp (Ax ha hb I h fun v u s2 x y H2 I2 rx ry q=>ho pins s2 σ H2 x y v u Q I2 rx ry q)
theorem zG {f:Value->Value->Sem Value}{C:Int->Int->Prop}{g:Int->Int->Int}
  (rule:∀ (i j:Int)(t u:Tok)(s:Shared)(Q:Value->Shared->Prop)(E:Value->Shared->Prop),C i j->Q (.int (g i j) s.toks) { s with toks:=s.toks + 1 }->wpAny (model X.prog X.w) X.A (f (.int i t) (.int j u)) Q E s) :
  fU X f (rI C fun i j => .int (g i j)):=by
 intro pins s σ H x y v u Q I rx ry h
 obtain⟨i,j,rfl,rfl,hc,q⟩:=h
 obtain⟨t,rfl⟩:=rx
 obtain⟨t',rfl⟩:=ry
 exact rule i j t t' s _ _ hc ⟨.int (g i j),H,I.tok _,⟨_,rfl⟩,q⟩
theorem xz {f:Value->Value->Sem Value}{g:Int->Int->Int}
  (rule:∀ (i j:Int)(t u:Tok)(s:Shared)(Q:Value->Shared->Prop)(E:Value->Shared->Prop),Q (.int (g i j) s.toks) { s with toks:=s.toks + 1 }->wpAny (model X.prog X.w) X.A (f (.int i t) (.int j u)) Q E s) :
  fU X f (wR fun i j => .int (g i j)):=by
 intro pins s σ H x y v u Q I rx ry h
 obtain⟨i,j,rfl,rfl,q⟩:=h
 obtain⟨t,rfl⟩:=rx
 obtain⟨t',rfl⟩:=ry
 exact rule i j t t' s _ _ ⟨.int (g i j),H,I.tok _,⟨_,rfl⟩,q⟩
theorem x5 {f:Value->Value->Sem Value}{g:Int->Int->Bool}
  (rule:∀ (i j:Int)(t u:Tok)(s:Shared)(Q:Value->Shared->Prop)(E:Value->Shared->Prop),Q (.bool (g i j)) s->wpAny (model X.prog X.w) X.A (f (.int i t) (.int j u)) Q E s) :
  fU X f (wR fun i j => .bl (g i j)):=by
 intro pins s σ H x y v u Q I rx ry h
 obtain⟨i,j,rfl,rfl,q⟩:=h
 obtain⟨t,rfl⟩:=rx
 obtain⟨t',rfl⟩:=ry
 exact rule i j t t' s _ _ ⟨.bl (g i j),H,I,rfl,q⟩
noncomputable def NQ (i j:Int):Prop:=0 < j/\j < 1073741824
noncomputable def IK (i j:Int):Prop:=0 <= j/\j <= 1000000/\i.natAbs < 2 ^ 64
noncomputable def EJ (i j:Int):Prop:=(-(2 ^ 64) < i/\i < 2 ^ 64)∨(-(2 ^ 64) < j/\j < 2 ^ 64)
theorem EJ.ok {i j:Int}(h:EJ i j):IntMulOk i j:=by
 rcases h with ⟨h1,h2⟩ | ⟨h1,h2⟩
 ·exact .of_left (intBits_le_64 h1 h2)
 ·exact .of_right (intBits_le_64 h1 h2)
theorem pT (k:Nat):(0:Int) <= 2 ^ k:=by
 rw[two_pow_cast]
 exact natCast_nonneg _
theorem bA:fU X (binaryOp .Add) (wR fun i j => .int (i + j)):=xz fun _ _ _ _ _ _ _ q=>add_int q
theorem c8:fU X (binaryOp .Sub) (wR fun i j => .int (i - j)):=xz fun _ _ _ _ _ _ _ q=>sub_int q
theorem dv:fU X (binaryOp .Mult) (rI EJ fun i j => .int (i * j)):=zG fun _ _ _ _ _ _ _ hc q=>mul_int q hc.ok
theorem fS:fU X (binaryOp .FloorDiv) (rI NQ fun i j => .int (i / j)):=zG fun i j _ _ _ _ _ hc q=>by
 have h1:(0:Int) < j:=hc.1
 have h2:j < 1073741824:=hc.2
 exact floordiv_int (by omega) (by rw[fdiv_eq_ediv_of_nonneg i (by omega)];exact q) (.inl (PyProof.noPylong_small (by omega)))
theorem bF:fU X (binaryOp .Mod) (rI (fun _ j=>0 < j) fun i j => .int (i % j)):=zG fun i j _ _ _ _ _ hc q=>by
 have h1:(0:Int) < j:=hc
 exact mod_int' (by omega) (by rw[Int.fmod_eq_emod_of_nonneg i (by omega)];exact q)
theorem zD:fU X (binaryOp .Pow) (rI IK fun i j => .int (i ^ j.toNat)):=zG fun _ _ _ _ _ _ _ hc q=>pow_int_small hc.1 hc.2.1 hc.2.2 q
theorem qK:fU X (binaryOp .LShift) (rI IK fun i j => .int (i * 2 ^ j.toNat)):=zG fun _ _ _ _ _ _ _ hc q=>lshift_int_small hc.1 hc.2.1 hc.2.2 q
theorem vq:fU X (binaryOp .RShift) (rI (fun _ j=>0 <= j) fun i j => .int (i / 2 ^ j.toNat)):=zG fun i j _ _ _ _ _ hc q =>
 rshift_int hc (by rw[fdiv_eq_ediv_of_nonneg i (pT _)];exact q)
theorem vy:fU X (binaryOp .BitAnd) (wR fun i j => .int (Builtin.bitAnd i j)):=xz fun _ _ _ _ _ _ _ q=>and_int q
theorem y6:fU X (binaryOp .BitOr) (wR fun i j => .int (Builtin.bitOr i j)):=xz fun _ _ _ _ _ _ _ q=>or_int q
end
noncomputable def IL:V->V->Bool
 | .AZ, .AZ=>true | .AZ, .int _=>true | .int _, .AZ=>true | .AZ, .bl _=>true | .bl _, .AZ=>true | .AZ, .str _=>true | .str _, .AZ=>true
 | .int _, .int _=>true | .bl _, .bl _=>true | .str _, .str _=>true | .DU _, .DU _=>true
 | .int _, .str _=>true | .str _, .int _=>true | .bl _, .str _=>true | .str _, .bl _=>true
 | _,_=>false
noncomputable def rEq:R2:=fun x y H Q=>IL x y=true/\Q (.bl (decide (x=y))) H
noncomputable def rNe:R2:=fun x y H Q=>IL x y=true/\Q (.bl (!decide (x=y))) H
theorem sJ {i j:Int}:decide (V.int i=V.int j)=(i == j):=by
 rw[Bool.eq_iff_iff]
 simp
theorem wA {i j:Bool}:decide (V.bl i=V.bl j)=(i == j):=by
 rw[Bool.eq_iff_iff]
 simp
theorem sI {i j:Str}:decide (V.str i=V.str j)=(i == j):=by
 rw[Bool.eq_iff_iff]
 simp
theorem sK {i j:Array UInt8}:decide (V.DU i=V.DU j)=(i.toList == j.toList):=by
 rw[Bool.eq_iff_iff]
 cases i
 cases j
 simp
section
variable {X:Cx}{a b c:Expr}{ta tb tc:TE}{pos:Pos}
theorem aQ {pins:List (Addr × Obj)}{σ:St}{H:Hp}{s:Shared}{Q:VK}{k k':Bool}(I:Inv X pins σ H s)(q:Q (.bl k) H)(e:k=k'):EP X pins σ Q (.bool k') s:=by
 subst e
 exact⟨.bl k,H,I,rfl,q⟩
theorem cH:fU X (compareOp .Eq) rEq:=by
 intro pins s σ H x y v u Q I rx ry h
 obtain⟨hs,q⟩:=h
 cases x with
 | AZ =>
  cases rx
  cases y with
  | AZ=>cases ry;exact PySem.EqNone.eq_none_none (aQ I q (by simp))
  | bl j=>cases ry;exact PySem.EqNone.eq_none_bool (aQ I q (by simp))
  | int j=>obtain⟨t',rfl⟩:=ry;exact PySem.EqNone.eq_none_int (aQ I q (by simp))
  | str j=>obtain⟨t',rfl⟩:=ry;exact PySem.EqNone.eq_none_str (aQ I q (by simp))
  | _=>exact absurd (show false=true from hs) Bool.false_ne_true
 | bl i =>
  cases rx
  cases y with
  | AZ=>cases ry;exact PySem.EqNone.eq_bool_none (aQ I q (by simp))
  | bl j=>cases ry;exact eq_bool (aQ I q wA)
  | str j=>obtain⟨t',rfl⟩:=ry;exact PySem.EqMixed.eq_bool_str (aQ I q (by simp))
  | _=>exact absurd (show false=true from hs) Bool.false_ne_true
 | int i =>
  obtain⟨t,rfl⟩:=rx
  cases y with
  | AZ=>cases ry;exact PySem.EqNone.eq_int_none (aQ I q (by simp))
  | int j=>obtain⟨t',rfl⟩:=ry;exact eq_int (aQ I q sJ)
  | str j=>obtain⟨t',rfl⟩:=ry;exact PySem.EqMixed.eq_int_str (aQ I q (by simp))
  | _=>exact absurd (show false=true from hs) Bool.false_ne_true
 | str i =>
  obtain⟨t,rfl⟩:=rx
  cases y with
  | AZ=>cases ry;exact PySem.EqNone.eq_str_none (aQ I q (by simp))
  | bl j=>cases ry;exact PySem.EqMixed.eq_str_bool (aQ I q (by simp))
  | int j=>obtain⟨t',rfl⟩:=ry;exact PySem.EqMixed.eq_str_int (aQ I q (by simp))
  | str j=>obtain⟨t',rfl⟩:=ry;exact eq_str (aQ I q sI)
  | _=>exact absurd (show false=true from hs) Bool.false_ne_true
 | DU i =>
  obtain⟨t,rfl⟩:=rx
  cases y with
  | DU j=>obtain⟨t',rfl⟩:=ry;exact PySem.W.eq_bytes (aQ I q sK)
  | _=>exact absurd (show false=true from hs) Bool.false_ne_true
 | _=>cases y<;>exact absurd (show false=true from hs) Bool.false_ne_true
theorem eV:fU X (compareOp .NotEq) rNe:=by
 intro pins s σ H x y v u Q I rx ry h
 obtain⟨hs,q⟩:=h
 cases x with
 | AZ =>
  cases rx
  cases y with
  | AZ=>cases ry;exact PySem.EqNone.ne_none_none (aQ I q (by simp))
  | bl j=>cases ry;exact PySem.EqNone.ne_none_bool (aQ I q (by simp))
  | int j=>obtain⟨t',rfl⟩:=ry;exact PySem.EqNone.ne_none_int (aQ I q (by simp))
  | str j=>obtain⟨t',rfl⟩:=ry;exact PySem.EqNone.ne_none_str (aQ I q (by simp))
  | _=>exact absurd (show false=true from hs) Bool.false_ne_true
 | bl i =>
  cases rx
  cases y with
  | AZ=>cases ry;exact PySem.EqNone.ne_bool_none (aQ I q (by simp))
  | bl j=>cases ry;exact ne_bool (aQ I q (congrArg not wA))
  | str j=>obtain⟨t',rfl⟩:=ry;exact PySem.EqMixed.ne_bool_str (aQ I q (by simp))
  | _=>exact absurd (show false=true from hs) Bool.false_ne_true
 | int i =>
  obtain⟨t,rfl⟩:=rx
  cases y with
  | AZ=>cases ry;exact PySem.EqNone.ne_int_none (aQ I q (by simp))
  | int j=>obtain⟨t',rfl⟩:=ry;exact ne_int (aQ I q (congrArg not sJ))
  | str j=>obtain⟨t',rfl⟩:=ry;exact PySem.EqMixed.ne_int_str (aQ I q (by simp))
  | _=>exact absurd (show false=true from hs) Bool.false_ne_true
 | str i =>
  obtain⟨t,rfl⟩:=rx
  cases y with
  | AZ=>cases ry;exact PySem.EqNone.ne_str_none (aQ I q (by simp))
  | bl j=>cases ry;exact PySem.EqMixed.ne_str_bool (aQ I q (by simp))
  | int j=>obtain⟨t',rfl⟩:=ry;exact PySem.EqMixed.ne_str_int (aQ I q (by simp))
  | str j=>obtain⟨t',rfl⟩:=ry;exact ne_str (aQ I q (congrArg not sI))
  | _=>exact absurd (show false=true from hs) Bool.false_ne_true
 | DU i =>
  obtain⟨t,rfl⟩:=rx
  cases y with
  | DU j=>obtain⟨t',rfl⟩:=ry;exact PySem.W.ne_bytes (aQ I q (congrArg not sK))
  | _=>exact absurd (show false=true from hs) Bool.false_ne_true
 | _=>cases y<;>exact absurd (show false=true from hs) Bool.false_ne_true
theorem gb:fU X (compareOp .Lt) (wR fun i j => .bl (decide (i < j))):=x5 fun _ _ _ _ _ _ _ q=>lt_int q
theorem jY:fU X (compareOp .LtE) (wR fun i j => .bl (decide (i <= j))):=x5 fun _ _ _ _ _ _ _ q=>le_int q
theorem vt:fU X (compareOp .Gt) (wR fun i j => .bl (decide (j < i))):=x5 fun _ _ _ _ _ _ _ q=>gt_int q
theorem oN:fU X (compareOp .GtE) (wR fun i j => .bl (decide (j <= i))):=x5 fun _ _ _ _ _ _ _ q=>ge_int q
theorem qL:fU X (compareOp .Is) (fun x y H Q=>y = .AZ/\Q (.bl (decide (x = .AZ))) H):=by
 intro pins s σ H x y v u Q I rx ry h
 obtain⟨rfl,q⟩:=h
 cases ry
 refine is_none_gen (aQ I q ?_)
 cases x<;>first
  | (cases rx;rfl)
  | (obtain⟨t,rfl⟩:=rx;rfl)
theorem fR:fU X (compareOp .IsNot) (fun x y H Q=>y = .AZ/\Q (.bl (!decide (x = .AZ))) H):=by
 intro pins s σ H x y v u Q I rx ry h
 obtain⟨rfl,q⟩:=h
 cases ry
 refine isnot_none_gen (aQ I q ?_)
 cases x<;>first
  | (cases rx;rfl)
  | (obtain⟨t,rfl⟩:=rx;rfl)
theorem a9 (b:Expr){op:CmpOp}(h:autoParam (op ≠ .In) θ)(h2:autoParam (op ≠ .NotIn) θ):behindInMarks op b=false:=by
 have e1:(op == CmpOp.In)=false:=by cases op<;>first | rfl | exact absurd rfl h
 have e2:(op == CmpOp.NotIn)=false:=by cases op<;>first | rfl | exact absurd rfl h2
 cases b<;>simp[behindInMarks,e1,e2]
theorem bY {op:CmpOp}{r:R2}(ho:fU X (compareOp op) r)(ha:PE X a ta)(hb:PE X b tb)(hm:behindInMarks op b=false):PE X (.Compare a [op] [b] pos) (LY r ta tb):=by
 intro pins s σ H Q I h
 exact wpAny_Compare1 (Ax ha hb I h fun v u s2 x y H2 I2 rx ry q=>ho pins s2 σ H2 x y v u Q I2 rx ry q) hm
noncomputable def IM (t:TE):TT:=fun σ H Q=>t σ H fun x H'=>∃ k,x = .bl k/\Q k H'
theorem ay {op:CmpOp}{r:R2}(ho:fU X (compareOp op) r)(ha:PE X a ta)(hb:PE X b tb)(hm:behindInMarks op b=false):PT X (.Compare a [op] [b] pos) (IM (LY r ta tb)):=by
 intro pins s σ H Q I h
 refine wpAny_isTrue_Compare1 (aW (ha pins s σ H _ I h) fun v s1 ⟨x,H1,I1,r1,q1⟩=>aW (hb pins s1 σ H1 _ I1 q1) fun u s2 ⟨y,H2,I2,r2,q2⟩ =>
  aW (ho pins s2 σ H2 x y v u _ I2 r1 r2 q2) fun c s3 ⟨z,H3,I3,r3,k,e,q3⟩=>?_) hm
 subst e
 cases r3
 exact wpAny_truthy_bool ⟨H3,I3,q3⟩
noncomputable def yL (r r':R2)(ta tb tc:TE):TE:=fun σ H Q=>ta σ H fun x H1=>tb σ H1 fun y H2=>r x y H2 fun z H3=>∃ k,z = .bl k /\
 (if k=true then tc σ H3 fun w' H4=>r' y w' H4 Q else Q (.bl false) H3)
theorem oM {op NR:CmpOp}{r r':R2}(ho:fU X (compareOp op) r)(C5:fU X (compareOp NR) r')(ha:PE X a ta)(hb:PE X b tb)(hc:PE X c tc)
  (hm:lastMarks [op,NR] [b,c]=false:=by with_unfolding_all rfl):PE X (.Compare a [op,NR] [b,c] pos) (yL r r' ta tb tc):=by
 intro pins s σ H Q I h
 refine Compare_chain (aW (ha pins s σ H _ I h) fun v s1 ⟨x,H1,I1,r1,q1⟩=>chain_link (aW (hb pins s1 σ H1 _ I1 q1) fun u s2 ⟨y,H2,I2,r2,q2⟩ =>
  aW (ho pins s2 σ H2 x y v u _ I2 r1 r2 q2) fun d s3 ⟨z,H3,I3,r3,k,e,q3⟩=>?_)) hm
 subst e
 cases r3
 refine wpAny_truthy_bool ?_
 cases k with
 | false=>exact ite_ff ⟨.bl false,H3,I3,rfl,q3⟩
 | true=>exact ite_tt (chain_last (aW (hc pins s3 σ H3 _ I3 q3) fun w' s4 AL=>by obtain⟨z',H4,I4,r4,q4⟩:=AL;exact C5 pins s4 σ H4 y z' u w' Q I4 r2 r4 q4))
noncomputable def A4 (K:Frag)(x:V)(H:Hp)(k:Bool):Prop :=
 match x with
 | .AZ=>k=false
 | .bl b=>k=b
 | .int i=>k=(i != 0)
 | .str y=>y.length <= sizeLine/\k=((y.length:Int) != 0)
 | .DU y=>y.size <= sizeLine/\k=((y.size:Int) != 0)
 | .ref p=>(∃ xs,AQ K H p xs/\k = !xs.isEmpty)∨(∃ xs,Ba K H p xs/\k = !xs.isEmpty)∨∃ kvs,H p=some (.dK kvs)/\k = !kvs.isEmpty
 | _=>False
theorem ra {κ:Type} {kvs:List (κ × V)} {vs:List (κ × Value)} (r:KV kvs vs):(!vs.isEmpty) = !kvs.isEmpty:=by
 cases r<;>rfl
theorem kA {xs:List V}{AM:List Value}(r:Vals xs AM):(!AM.toArray.isEmpty) = !xs.isEmpty:=by
 cases r<;>simp
theorem iF:(sizeLine:Nat) < 2 ^ 63:=by rw[sizeLine_eq];decide
theorem u5:NP X (fun x H Q=>∃ k,A4 X.K x H k/\Q k H):=by
 intro pins s σ H x v Q I rx h
 obtain⟨k,e,q⟩:=h
 have hl:=iF
 have hs:sizeLine=16777216:=sizeLine_eq
 cases x with
 | AZ =>
  cases rx
  have e':k=false:=e
  subst e'
  exact truthy_none ⟨H,I,q⟩
 | bl b =>
  cases rx
  have e':k=b:=e
  subst e'
  exact wpAny_truthy_bool ⟨H,I,q⟩
 | int i =>
  obtain⟨t,rfl⟩:=rx
  have e':k=(i != 0):=e
  subst e'
  exact PySem.P.truthy_int ⟨H,I,q⟩
 | str y =>
  obtain⟨t,rfl⟩:=rx
  obtain⟨hy,e'⟩:y.length <= sizeLine/\k=((y.length:Int) != 0):=e
  subst e'
  exact PySem.P.truthy_str (by omega) ⟨H,I.tok _,q⟩
 | DU y =>
  obtain⟨t,rfl⟩:=rx
  obtain⟨hy,e'⟩:y.size <= sizeLine/\k=((y.size:Int) != 0):=e
  subst e'
  exact PySem.W.truthy_bytes (by omega) ⟨H,I.tok _,q⟩
 | ref p =>
  cases rx
  have e':(∃ xs,AQ X.K H p xs/\k = !xs.isEmpty)∨(∃ xs,Ba X.K H p xs/\k = !xs.isEmpty)∨∃ kvs,H p=some (.dK kvs)/\k = !kvs.isEmpty:=e
  rcases e' with ⟨xs,hx,e'⟩ | ⟨xs,hx,e'⟩ | ⟨kvs,hx,e'⟩
  ·subst e'
   obtain⟨AM,r,pl,hz⟩:=I.list hx
   have hlen:=r.length
   exact wpAny_truthy_list pl.isList (by simp only[size_toArray];omega) ⟨H,I.tok _,by rw[kA r];exact q⟩
  ·subst e'
   obtain⟨AM,r,pl,hz⟩:=I.tuple hx
   have hlen:=r.length
   exact truthy_tuple pl (by simp only[size_toArray];omega) ⟨H,I.tok _,by rw[kA r];exact q⟩
  ·subst e'
   obtain⟨hz,hS,vs,r,m⟩:kvs.length <= sizeLine/\(p == sysModules)=false/\∃ vs,KV kvs vs/\s.heap.DictOf (aO X.prog X.w) p vs:=I.AR p _ hx
   have hlen:kvs.length=vs.length:=Paired.length r
   exact wpAny_truthy_dict hS m (by omega) ⟨H,I.tok _,by rw[ra r];exact q⟩
 | _=>exact(show False from e).elim
theorem jO (ha:PE X a ta)(he:∀ whole,isTrue a X.env whole=(do let v ← whole;standAt a.pos;holding [v] (truthy v))) :
  PT X a (fun σ H Q=>ta σ H fun x H'=>∃ k,A4 X.K x H' k/\Q k H'):=by
 intro pins s σ H Q I h
 exact isTrue_plain (aW (ha pins s σ H _ I h) fun v s1 AL=>by obtain⟨x,H1,I1,r1,q1⟩:=AL;exact u5 pins s1 σ H1 x v Q I1 r1 q1) (he _)
theorem nW {x:V}{us:List Value}(r:Vals [x] us):∃ u,us=[u]/\RelV x u:=by
 cases r with
 | cons r1 r2=>cases r2;exact⟨_,rfl,r1⟩
theorem vals2 {x y:V}{us:List Value}(r:Vals [x,y] us):∃ u w',us=[u,w']/\RelV x u/\RelV y w':=by
 cases r with
 | cons r1 r2 =>
  cases r2 with
  | cons r3 r4=>cases r4;exact⟨_,_,rfl,r1,r3⟩
theorem uf (hc:X.calm=true):eF X (.builtin "min") (fun xs H Q=>∃ i j,xs=[.int i, .int j]/\Q (.int (if j < i then j else i)) H):=by
 intro pins s σ H xs us Q I r h
 obtain⟨i,j,rfl,q⟩:=h
 obtain⟨u,w',rfl,⟨t,rfl⟩,⟨t',rfl⟩⟩:=vals2 r
 refine min_two_ints (I.ok.hd hc) fun h' tk k=>⟨_,H,I.kept k,?_,q⟩
 by_cases hj:j < i
 ·rw[if_pos hj,if_pos hj];exact⟨_,rfl⟩
 ·rw[if_neg hj,if_neg hj];exact⟨_,rfl⟩
end
structure D5 (h:Heap)(x dx C:Addr)(mA:Str->Option Value):Prop where
 obj:h.get? x=some (PySem.W.instObj C dx)
 ns:h.Ns1 dx mA
 ne:dx ≠ x
theorem tL {h:Heap}{dx:Addr}{mA:Str->Option Value}(n:h.Ns1 dx mA):∃ od,h.get? dx=some od/\∀ name,PySem.W.lookIn name od=some (mA name):=by
 obtain⟨o,es,ep,ho,hd,hk,_,hm⟩:=n
 refine⟨o,ho,fun name=>?_⟩
 have e:=hm name
 unfold nsFind findBy at e
 rw[← Array.find?_toList]at e
 unfold PySem.W.lookIn
 rw[hd]
 dsimp only
 split
 ·rename_i y q
  rw[q]at e
  exact congrArg some e
 ·rename_i q
  rw[q]at e
  have a:es.toList.any (·.refKey)=false:=by
   rw[List.any_eq_false]
   intro y hy
   obtain⟨z,t,NS⟩:=hk y (Array.mem_toList_iff.mp hy)
   simp[DictEntry.refKey,NS]
  have a':¬ es.toList.any (·.refKey)=true:=by rw[a];exact Bool.false_ne_true
  rw[if_neg a']
  exact congrArg some e
theorem D5.look {h:Heap}{x dx C:Addr}{mA:Str->Option Value}(I:D5 h x dx C mA):∃ od,PySem.W.InstAt h x (PySem.W.instObj C dx) C (some od)/\∀ name,PySem.W.lookIn name od=some (mA name) :=
 let ⟨od,ho,hl⟩:=tL I.ns
 ⟨od,⟨I.obj,rfl,rfl,ho⟩,hl⟩
section
variable {prog:Program}{w:World}{A:Around}{E:Value->Shared->Prop}{s:Shared}{K:Frag}{x dx C f:Addr}{mA:Str->Option Value}{name:Str}{v:Value}
theorem yc {expr:Bool}{Q:Value->Shared->Prop}(X:K.In s.heap)(I:D5 s.heap x dx C mA)(hg:plainGet K C name=true)(hh:hasDictIn K C=true)
  (ha:findIn K (.ref C) name=some none) (hv:mA name=some v) (B5:PySem.W.handedIn v=true) (h:Q v { s with toks:=s.toks + 1 }) :
  wpAny (model prog w) A (getAttr (.ref x) name expr) Q E s:=by
 obtain⟨od,J,hl⟩:=I.look
 exact PySem.W.get_value X J (PySem.W.plainGet_of hg).1 (PySem.W.findObj_own hh ha rfl (by rw[hl,hv])) B5 h
theorem wt {pl:Sem Bool}{Q:Value × List Value->Shared->Prop}(X:K.In s.heap)(I:D5 s.heap x dx C mA)(hg:plainGet K C name=true)
  (hf:findIn K (.ref C) name=some (some (.ref f))) (ht:isFn K (.ref f)=true) (hv:mA name=none) (h:Q (.ref f,[.ref x]) s) :
  wpAny (model prog w) A (getMethod (.ref x) name pl) Q E s:=by
 obtain⟨od,J,hl⟩:=I.look
 exact PySem.W.method_fn X J (PySem.W.plainGet_of hg).1 (PySem.W.plainGet_of hg).2 hf (beq_iff_eq.mp ht) (by show(PySem.W.lookIn name od).map (·.isSome)=some false;rw[hl,hv];rfl) h
theorem xh {ns:List Str}{Q:Unit->Shared->Prop}(X:K.In s.heap)(I:D5 s.heap x dx C mA)
  (hs:findIn K (.ref C) "__setattr__" = some (some (.builtin "object.__setattr__"))) (hp:plainOver K C=true) (ht:PySem.W.takerIn K C name=some none) (hh:hasDictIn K C=true)
  (hw:PySem.Within mA ns) (hsz:ns.length <= sizeLine)
  (h:∀ h',D5 h' x dx C (fun y=>if y=name then some v else mA y)->Heap.SameBut dx s.heap h'->Q () { s with heap:=h',toks:=s.toks + 2 }) :
  wpAny (model prog w) A (setAttr (.ref x) name v) Q E s:=by
 obtain⟨od,J,hl⟩:=I.look
 refine PySem.W.set_plain X J hs (PySem.W.osa_open (s:={ s with toks:=s.toks + 1 }) (r:=none) X J hp ht fun b=>?_)
 obtain⟨cd,hc,CM⟩:=PySem.W.any_some hh
 have hx:s.heap.get? x=some ⟨.ref C,some dx, .plain,#[]⟩:=I.obj
 refine wpAny_bind (wpAny_pure (wpAny_bind (wpAny_bind (wpAny_loadPart hx (wpAny_bind (PySem.W.Looks.here (s:={ s with toks:=s.toks + 1 }) (PySem.W.looks_clsIn X hc) ?_))))))
 rw[CM]
 refine wpAny_pure (a:=some dx) (wpAny_bind (wpAny_pure (wpAny_bind ?_)))
 refine wpAny_nsSet1 (s:={ s with toks:=s.toks + 1 }) I.ns fun h' HR C7=>?_
 obtain⟨oD,esD,epD,hoD,hdD,hcD⟩:=HR.count (PySem.Within.cons name v hw)
 refine wpAny_bind (wpAny_lookBehind hoD (by rw[hdD];exact pastItsLine_dict (le_trans hcD (by rw[length_cons];omega))) ?_)
 exact wpAny_pure (h _ ⟨(C7.2 _ (Ne.symm I.ne)).trans I.obj,HR,I.ne⟩ C7)
theorem vW {R:Result->Shared->Prop}{vs:List Value}{kw:List (Str × Value)}(X:K.In s.heap)(hm:makesIn K C=true)
  (hi:findIn K (.ref C) "__init__" = some (some (.ref f))) (hf:PySem.W.typeIn K (.ref f)=some (.type "function"))
  (h:codeAny (model prog w) (A.under (.builtin "type.__call__" ⟨.ref C :: vs,kw⟩)) (.call (.ref f) ⟨.ref (s.heap.objs.size + 1) :: vs,kw⟩) (PySem.W.InitBack (s.heap.objs.size + 1) R)
   { s with heap:=(s.heap.push PySem.W.emptyDict).push (PySem.W.instObj C s.heap.objs.size) }) :
  codeAny (model prog w) A (.call (.ref C) ⟨vs,kw⟩) R s:=by
 obtain⟨hh,g,d,t,os⟩:=s
 exact PySem.W.make_core (PySem.W.makes_of X hm) (PySem.W.looks_findIn X hi) (fun self=>PySem.W.bind_fn X self hf) (.inl rfl) h
end
noncomputable def dQ (f:Str)(v:V):List (Str × V)->List (Str × V)
 | []=>[(f,v)]
 | (g,x) :: r=>if g=f then (g,v) :: r else (g,x) :: dQ f v r
theorem jd (f g:Str)(v:V):∀ fs:List (Str × V),(dQ f v fs).lookup g=if g=f then some v else fs.lookup g
 | []=>by
  show List.lookup g [(f,v)]=_
  by_cases h:g=f
  ·have hb:(g == f)=true:=beq_iff_eq.mpr h
   simp only[List.lookup,hb,if_pos h]
  ·have hb:(g == f)=false:=beq_eq_false_iff_ne.mpr h
   simp only[List.lookup,hb,if_neg h]
 | (k,x) :: r=>by
  have ih:=jd f g v r
  rw[show dQ f v ((k,x) :: r)=(if k=f then (k,v) :: r else (k,x) :: dQ f v r) from rfl]
  by_cases hk:k=f
  ·rw[if_pos hk]
   by_cases h:g=k
   ·have hb:(g == k)=true:=beq_iff_eq.mpr h
    simp only[List.lookup,hb,if_pos (h.trans hk)]
   ·have hb:(g == k)=false:=beq_eq_false_iff_ne.mpr h
    simp only[List.lookup,hb,if_neg (fun e:g=f=>h (e.trans hk.symm))]
  ·rw[if_neg hk]
   by_cases h:g=k
   ·have hb:(g == k)=true:=beq_iff_eq.mpr h
    simp only[List.lookup,hb,if_neg (fun e:g=f=>hk (h.symm.trans e))]
   ·have hb:(g == k)=false:=beq_eq_false_iff_ne.mpr h
    simp only[List.lookup,hb]
    exact ih
theorem iH (f:Str)(v:V):∀ fs:List (Str × V),f ∈ (dQ f v fs).map (·.1)/\∀ g,g ∈ fs.map (·.1)->g ∈ (dQ f v fs).map (·.1)
 | []=>⟨by simp[dQ],fun g h=>by simp at h⟩
 | (k,x) :: r=>by
  obtain⟨i1,i2⟩:=iH f v r
  rw[show dQ f v ((k,x) :: r)=(if k=f then (k,v) :: r else (k,x) :: dQ f v r) from rfl]
  by_cases hk:k=f
  ·rw[if_pos hk]
   subst hk
   exact⟨by simp,fun g h=>by simpa using h⟩
  ·rw[if_neg hk]
   refine⟨?_,fun g h=>?_⟩
   ·rw[map_cons]
    exact mem_cons_of_mem _ i1
   ·rw[map_cons]at h ⊢
    rcases mem_cons.mp h with e | e
    ·exact mem_cons.mpr (.inl e)
    ·exact mem_cons_of_mem _ (i2 g e)
theorem je (f:Str)(v:V):∀ fs:List (Str × V),(dQ f v fs).length <= fs.length + 1
 | []=>by simp[dQ]
 | (k,x) :: r=>by
  have ih:=je f v r
  rw[show dQ f v ((k,x) :: r)=(if k=f then (k,v) :: r else (k,x) :: dQ f v r) from rfl]
  by_cases hk:k=f
  ·rw[if_pos hk,length_cons,length_cons];omega
  ·rw[if_neg hk,length_cons,length_cons];omega
theorem Bw.some_of {v:V}{o:Option Value}(r:Bw (some v) o):∃ u,o=some u/\RelV v u:=by
 cases o with
 | none=>exact(show False from r).elim
 | some u=>exact⟨u,rfl,r⟩
theorem Bw.none_of {o:Option Value}(r:Bw none o):o=none:=by
 cases o with
 | none=>rfl
 | some u=>exact(show False from r).elim
theorem tU {v:V}{u:Value}(r:RelV v u):PySem.W.handedIn u=true:=by
 cases v with
 | AZ=>cases (show u=Value.none from r);rfl
 | bl b=>cases (show u=Value.bool b from r);rfl
 | int i=>obtain⟨t,e⟩:=(show ∃ t,u=Value.int i t from r);cases e;rfl
 | str x=>obtain⟨t,e⟩:=(show ∃ t,u=Value.str x t from r);cases e;rfl
 | DU b=>obtain⟨t,e⟩:=(show ∃ t,u=Value.bytes b t from r);cases e;rfl
 | GL b=>obtain⟨t,e⟩:=(show ∃ t,u=Value.float b t from r);cases e;rfl
 | ref a=>cases (show u=Value.ref a from r);rfl
 | ty n=>cases (show u=Value.type n from r);rfl
section
variable {P:Program}{w:World}{H H':Hp}{h h':Heap}{a C dx:Addr}{fs Bh:List (Str × V)}
theorem jx (AR:B8 P w H h)(e:H a=some (.ins C dx fs)):∃ mA,D5 h a dx C mA/\(∀ f,Bw (fs.lookup f) (mA f))/\PySem.Within mA (fs.map (·.1))/\fs.length <= 1000/\H dx=some (.own a):=by
 obtain⟨d,z,ne,ob,mA,n,r,q⟩:=(show Be P w H h a (.ins C dx fs) from AR a _ e)
 exact⟨mA,⟨ob,n,ne⟩,r,q,z,d⟩
end
structure C8 (K:Frag)(C:Addr):Prop where
 pg:plainGet K C Str.empty=true
 hd:hasDictIn K C=true
 po:plainOver K C=true
 sa:findIn K (.ref C) "__setattr__" = some (some (.builtin "object.__setattr__"))
theorem C8.get {K:Frag}{C:Addr}(c:C8 K C)(f:Str):plainGet K C f=true:=c.pg
noncomputable def AW (K:Frag)(C:Addr)(f:Str):Prop:=findIn K (.ref C) f=some none
theorem AW.IP {K:Frag}{C:Addr}{f:Str}(n:AW K C f):PySem.W.takerIn K C f=some none:=by
 unfold PySem.W.takerIn
 rw[show findIn K (.ref C) f=some none from n]
 rfl
structure g8 (K:Frag)(C:Addr)(m:Str)(f:Addr):Prop where
 at_:findIn K (.ref C) m=some (some (.ref f))
 fn:isFn K (.ref f)=true
 kp:keepIn K (.ref f)=true
section
variable {X:Cx}{pins:List (Addr × Obj)}{σ:St}{H:Hp}{s:Shared}{a C dx:Addr}{fs:List (Str × V)}{f:Str}{v:V}{A:Around}{E:Value->Shared->Prop}
theorem re {b:Bool}{Q:Value->Shared->Prop}(I:Inv X pins σ H s)(e:H a=some (.ins C dx fs))(c:C8 X.K C)(n:AW X.K C f)(l:fs.lookup f=some v)
  (h:∀ u s',Inv X pins σ H s'->RelV v u->Q u s'):wpAny (model X.prog X.w) A (getAttr (.ref a) f b) Q E s:=by
 obtain⟨mA,O,r,_,_,_⟩:=jx I.AR e
 obtain⟨u,hu,ru⟩:=Bw.some_of (v:=v) (o:=mA f) (by rw[← l];exact r f)
 exact yc I.BX O (c.get f) c.hd n hu (tU ru) (h u _ (I.tok _) ru)
theorem rb {m:Str}{g:Addr}{pl:Sem Bool}{Q:Value × List Value->Shared->Prop}(I:Inv X pins σ H s)(e:H a=some (.ins C dx fs))(c:C8 X.K C)(k:g8 X.K C m g)(l:fs.lookup m=none)
  (h:Q (.ref g,[.ref a]) s):wpAny (model X.prog X.w) A (getMethod (.ref a) m pl) Q E s:=by
 obtain⟨mA,O,r,_,_,_⟩:=jx I.AR e
 have hn:mA m=none:=Bw.none_of (by rw[← l];exact r m)
 exact wt I.BX O (c.get m) k.at_ k.fn hn h
theorem qp {y:V}{u:Value}{Q:Unit->Shared->Prop}(I:Inv X pins σ H s)(e:H a=some (.ins C dx fs))(c:C8 X.K C)(n:AW X.K C f)(hl:fs.length < 1000)(ry:RelV y u)
  (h:∀ s',Inv X pins σ (aw H a (.ins C dx (dQ f y fs))) s'->Q () s'):wpAny (model X.prog X.w) A (setAttr (.ref a) f u) Q E s:=by
 obtain⟨mA,O,r,wi,_,ho⟩:=jx I.AR e
 have hz:(fs.map (·.1)).length <= sizeLine:=by rw[length_map,sizeLine_eq];omega
 refine xh I.BX O c.sa c.po n.IP c.hd wi hz fun h' O' sb=>h _ ?_
 have hd:∃ o,h'.get? dx=some o:=let ⟨o,_,_,e',_⟩:=O'.ns; ⟨o,e'⟩
 refine I.write (x:=a) (e:=dx) (by rw[e];exact True.intro) (.inr ho) (fun b q hb z=>(sb.2 b hb).trans z) hd ?_
 refine⟨by rw[ai O.ne];exact ho,?_,O.ne,O'.obj,_,O'.ns,fun g=>?_,fun g hg=>?_⟩
 ·have:=je f y fs;omega
 ·show Bw ((dQ f y fs).lookup g) (if g=f then some u else mA g)
  rw[jd]
  by_cases q:g=f
  ·rw[if_pos q,if_pos q];exact ry
  ·rw[if_neg q,if_neg q];exact r g
 ·by_cases q:g=f
  ·rw[q];exact(iH f y fs).1
  ·refine(iH f y fs).2 g (wi g fun z=>hg ?_)
   show(if g=f then some u else mA g)=none
   rw[if_neg q];exact z
theorem Inv.made (I:Inv X pins σ H s):Inv X pins σ (aw (aw H s.heap.objs.size (.own (s.heap.objs.size + 1))) (s.heap.objs.size + 1) (.ins C s.heap.objs.size []))
  { s with heap:=(s.heap.push PySem.W.emptyDict).push (PySem.W.instObj C s.heap.objs.size) }:=by
 have e1:(s.heap.push PySem.W.emptyDict).get? s.heap.objs.size=some PySem.W.emptyDict:=Heap.get?_push_size s.heap rfl
 have e2:((s.heap.push PySem.W.emptyDict).push (PySem.W.instObj C s.heap.objs.size)).get? (s.heap.objs.size + 1)=some (PySem.W.instObj C s.heap.objs.size):=by
  have:=Heap.get?_push_size (s.heap.push PySem.W.emptyDict) (o:=PySem.W.instObj C s.heap.objs.size) rfl
  rwa [size_push]at this
 have e3:(s.heap.push PySem.W.emptyDict).Ns s.heap.objs.size (fun _=>none):=⟨PySem.W.emptyDict,#[],_,e1,rfl,(fun e he=>absurd he (by simp)),fun _=>rfl⟩
 have I1:=I.laid (a:=s.heap.objs.size) (o := .own (s.heap.objs.size + 1)) (h':=s.heap.push PySem.W.emptyDict) (t':=s.toks) (fun b u q=>Heap.get?_push_of_some _ q) (Nat.le_refl _) ⟨_,e1⟩
 refine I1.laid (a:=s.heap.objs.size + 1) (o := .ins C s.heap.objs.size []) (t':=s.toks) (fun b u q=>Heap.get?_push_of_some _ q) (le_of_eq (size_push _ _)) ?_
 have ne:s.heap.objs.size ≠ s.heap.objs.size + 1:=ne_of_lt (lt_succ_self _)
 refine⟨by rw[ai ne,ad],zero_le _,ne,e2,fun _=>none,(Heap.Ns1.of_empty e3).at fun o q=>Heap.get?_push_of_some _ q,fun _=>True.intro,fun y hy=>absurd rfl hy⟩
theorem yo {prog:Program}{w:World}{env:Env}{e:Expr}{f:Str}{pos:Pos}{s:Shared}{Q:Value->Shared->Prop}(hb:attributeBase e f env (eval e env)=eval e env)
  (h:wpAny (model prog w) A (eval e env) (fun o s₁=>wpAny (model prog w) A (getAttr o f true) Q E s₁) E s):wpAny (model prog w) A (eval (.Attribute e f pos) env) Q E s :=
 Attribute_any_ h (by rw[arm_eval_Attribute,hb])
end
noncomputable def IQ (K:Frag)(ta:TE)(f:Str):TE:=fun σ H Q=>ta σ H fun x H1=>∃ a C dx fs v,x = .ref a/\H1 a=some (.ins C dx fs)/\C8 K C/\AW K C f/\fs.lookup f=some v/\Q v H1
noncomputable def NT (K:Frag)(ta tv:TE)(f:Str):TS:=fun D σ H=>tv σ H fun y H1=>ta σ H1 fun x H2=>∃ a C dx fs,x = .ref a/\H2 a=some (.ins C dx fs)/\C8 K C/\AW K C f/\fs.length < 1000 /\
 D.nx σ (aw H2 a (.ins C dx (dQ f y fs)))
section
variable {X:Cx}{o e value:Expr}{f:Str}{pos pos' Dd:Pos}{ta tv:TE}
theorem aF (he:PE X e ta)(hb:attributeBase e f X.env (eval e X.env)=eval e X.env):PE X (.Attribute e f pos) (IQ X.K ta f):=by
 intro pins s σ H Q I h
 refine yo hb (aW (he pins s σ H _ I h) fun u s1 AL=>?_)
 obtain⟨x,H1,I1,rx,a,C,dx,fs,v,ex,ea,c,n,l,q⟩:=AL
 subst ex
 obtain rfl:u=Value.ref a:=rx
 exact re I1 ea c n l fun u' s2 I2 ru=>⟨v,H1,I2,ru,q⟩
theorem gr (ha:PE X o ta)(hv:PE X value tv)(hs:swapsWith value (some (.Attribute o f pos')) pos.line X.env=pure false):PS X (.Assign [.Attribute o f pos'] value pos) (NT X.K ta tv f):=by
 intro pins s σ H D I h
 refine plainObj_wpAny_Assign_Attribute (aW (hv pins s σ H _ I h) fun u s1 ⟨y,H1,I1,ry,q⟩=>aW (ha pins s1 σ H1 _ I1 q) fun ov s2 AL=>?_) hs
 obtain⟨x,H2,I2,rx,a,C,dx,fs,ex,ea,c,n,l,q2⟩:=AL
 subst ex
 obtain rfl:ov=Value.ref a:=rx
 exact qp I2 ea c n l ry fun s3 I3=>⟨σ,_,I3,q2⟩
end
section
variable {X:Cx}{pins:List (Addr × Obj)}{σ:St}{H:Hp}{s:Shared}{A:Around}{E:Value->Shared->Prop}{Q:Value->Shared->Prop}{c:Value}{b:Bool}
inductive i8 (K:Frag)(H:Hp):V->Value->Prop where
 | AZ:i8 K H .AZ (.type "NoneType")
 | bl (x:Bool):i8 K H (.bl x) (.type "bool")
 | int (i:Int):i8 K H (.int i) (.type "int")
 | str (x:Str):i8 K H (.str x) (.type "str")
 | GL (x:UInt64):i8 K H (.GL x) (.type "float")
 | lst {a:Addr} {xs:List V} (e:H a=some (.lst xs)):i8 K H (.ref a) (.type "list")
 | B2 {a:Addr} {o:Obj} {xs:List V} (e:H a=some (.B2 o (.lst xs))):i8 K H (.ref a) (.type "list")
 | tup {a:Addr} {xs:List V} (e:H a=some (.tup xs)):i8 K H (.ref a) (.type "tuple")
 | dK {a:Addr} {kvs:List (Key × V)} (e:H a=some (.dK kvs)):i8 K H (.ref a) (.type "dict")
 | dT {a:Addr} {kvs:List (List Key × V)} (e:H a=some (.dT kvs)):i8 K H (.ref a) (.type "dict")
 | ins {a C dx:Addr} {fs:List (Str × V)} (e:H a=some (.ins C dx fs)) (cl:C8 K C) (ha:findIn K (.ref C) "__class__" = some (some (.builtin "object.__class__")))
   (hn:PySem.W.specialIn K (.builtin "object.__class__") "__get__" = some (some (.builtin "getset_descriptor.__get__"))) (DX:PySem.W.takesIn K (.builtin "object.__class__")=some true)
   (hm:PySem.W.mroIn K C (.type "object")=some true):i8 K H (.ref a) (.ref C)
theorem lJ {x:V}{u t:Value}(I:Inv X pins σ H s)(rx:RelV x u)(ty:i8 X.K H x t)(e:kitOne X.K t c=some b)(h:∀ tk,Q (.bool b) { s with toks:=tk }) :
  wpAny (model X.prog X.w) A (call (.builtin "isinstance") [u,c]) Q E s:=by
 cases ty with
 | AZ=>cases (show u=Value.none from rx);exact PySem.W.kia_one PySem.W.kitx_none I.BX True.intro e (fun z=>nomatch z) h
 | bl y=>cases (show u=Value.bool y from rx);exact PySem.W.kia_one PySem.W.kitx_bool I.BX True.intro e (fun z=>nomatch z) h
 | int i=>obtain⟨t,q⟩:=(show ∃ t,u=Value.int i t from rx);cases q;exact PySem.W.kia_one PySem.W.kitx_int I.BX True.intro e (fun z=>nomatch z) h
 | str y=>obtain⟨t,q⟩:=(show ∃ t,u=Value.str y t from rx);cases q;exact PySem.W.kia_one PySem.W.kitx_str I.BX True.intro e (fun z=>nomatch z) h
 | GL y=>obtain⟨t,q⟩:=(show ∃ t,u=Value.float y t from rx);cases q;exact PySem.W.kia_one PySem.W.kitx_float I.BX True.intro e (fun z=>nomatch z) h
 | @lst a xs ea =>
  cases (show u=Value.ref a from rx)
  obtain⟨_,_,n,_,h1⟩:=(show Be X.prog X.w H s.heap a (.lst xs) from I.AR a _ ea)
  exact PySem.W.kia_one PySem.W.kitx_list I.BX ⟨_,h1,rfl⟩ e (fun z=>nomatch z) h
 | @B2 a ob xs ea =>
  cases (show u=Value.ref a from rx)
  obtain⟨_,_,_,n,_,h1⟩:=(show Be X.prog X.w H s.heap a (.B2 ob (.lst xs)) from I.AR a _ ea)
  exact PySem.W.kia_one PySem.W.kitx_list I.BX ⟨_,h1,rfl⟩ e (fun z=>nomatch z) h
 | @tup a xs ea =>
  cases (show u=Value.ref a from rx)
  obtain⟨_,_,_,p⟩:=(show Be X.prog X.w H s.heap a (.tup xs) from I.AR a _ ea)
  obtain⟨o,h1,⟨h2,_⟩,_⟩:=p
  exact PySem.W.kia_one PySem.W.kitx_tuple I.BX ⟨o,h1,h2⟩ e (fun z=>nomatch z) h
 | @dK a kvs ea =>
  cases (show u=Value.ref a from rx)
  obtain⟨_,_,vs,_,p⟩:=(show Be X.prog X.w H s.heap a (.dK kvs) from I.AR a _ ea)
  obtain⟨o,es,ep,h1,h2,_⟩:=p
  exact PySem.W.kia_one PySem.W.kitx_dict I.BX ⟨o,h1,h2.1⟩ e (fun z=>nomatch z) h
 | @dT a kvs ea =>
  cases (show u=Value.ref a from rx)
  obtain⟨_,_,xs,_,o,es,ep,h1,h2,_⟩:=(show Be X.prog X.w H s.heap a (.dT kvs) from I.AR a _ ea)
  exact PySem.W.kia_one PySem.W.kitx_dict I.BX ⟨o,h1,h2.1⟩ e (fun z=>nomatch z) h
 | @ins a C dx fs ea cl ha hn DX hm =>
  cases (show u=Value.ref a from rx)
  obtain⟨mA,O,_⟩:=jx I.AR ea
  obtain⟨od,J,_⟩:=O.look
  exact PySem.W.kia_one (PySem.W.kitx_own (cl.get _) cl.hd ha hn DX hm) I.BX J e (fun z=>nomatch z) h
end
structure AU (k:Nat)(A:Around):Prop where
 hd:A.handled=none
 dp:A.depth + 3 * k + 5 < recursionLimit
 un:A.units + 16 * k + 200 < cLine
theorem AU.mono {j k:Nat}{A:Around}(r:AU k A)(h:j <= k):AU j A:=⟨r.hd,by have:=r.dp;omega,by have:=r.un;omega⟩
theorem AU.deeper {k:Nat}{A:Around}(r:AU (k + 1) A)(env:Env):AU k (A.deeper env) :=
 ⟨r.hd,by have:=r.dp;show A.depth + 1 + 3 * k + 5 < _;omega,by have:=r.un;show A.units + 3 + 16 * k + 200 < _;omega⟩
theorem qW {A:Around}{C:Addr}{us:List Value}{kw:List (Str × Value)}:(A.under (.builtin "type.__call__" ⟨.ref C :: us,kw⟩)).depth=A.depth + 1:=by
 first | rfl | simp[Around.under,Code.weight,Code.isCreation,Code.isGuard,Code.isCaller,Code.frames,Code.isFrame,guardIds]
theorem qV {A:Around}{C:Addr}{us:List Value}{kw:List (Str × Value)}:(A.under (.builtin "type.__call__" ⟨.ref C :: us,kw⟩)).units=A.units + 1:=by
 first | rfl | simp[Around.under,Code.cUnits,Code.frames,Code.isFrame]
theorem AU.make {k:Nat}{A:Around}(r:AU (k + 1) A)(C:Addr)(us:List Value)(kw:List (Str × Value)):AU k (A.under (.builtin "type.__call__" ⟨.ref C :: us,kw⟩)) :=
 ⟨r.hd,by have:=r.dp;rw[qW];omega,by have:=r.un;rw[qV];omega⟩
theorem AU.depth {k:Nat}{A:Around}(r:AU k A):A.depth < recursionLimit:=by have:=r.dp;omega
theorem AU.units {k:Nat}{A:Around}(r:AU k A):A.units + 64 < cLine:=by have:=r.un;omega
noncomputable def IS:TA:=fun _ H Q=>Q [] H
noncomputable def IT (ta:TE)(tr:TA):TA:=fun σ H Q=>ta σ H fun x H1=>tr σ H1 fun xs H2=>Q (x :: xs) H2
section
variable {X:Cx}{e:Expr}{es:List Expr}{te:TE}{t:TA}{pos:Pos}
theorem ae:PA X [] IS:=fun _ _ _ _ H Q I h=>Calls.spliced_nil ⟨[],H,I, .nil,h⟩
theorem aa (ha:PE X e te)(hr:PA X es t)(hs:autoParam (starEach (e :: es) X.env=(false,eval e X.env) :: starEach es X.env) η):PA X (e :: es) (IT te t):=by
 intro pos pins s σ H Q I h
 rw[hs]
 show wpAny _ _ (spliced ((false,eval e X.env) :: backTo pos (starEach es X.env))) _ _ s
 refine Calls.spliced_cons (aW (ha pins s σ H _ I h) fun u s1 AL=>?_)
 obtain⟨x,H1,I1,r1,q1⟩:=AL
 exact aW (hr pos pins s1 σ H1 _ I1 q1) fun us s2 AL=>by obtain⟨xs,H2,I2,r2,q2⟩:=AL;exact⟨x :: xs,H2,I2, .cons r1 r2,q2⟩
noncomputable def NU (t:TA):TE:=fun σ H Q=>t σ H fun xs H1=>xs.length <= sizeLine/\∀ p,H1 p=none->Q (.ref p) (aw H1 p (.tup xs))
noncomputable def NV (t:TA):TE:=fun σ H Q=>t σ H fun xs H1=>xs.length <= sizeLine/\∀ p,H1 p=none->Q (.ref p) (aw H1 p (.lst xs))
theorem bu {x1} (h:PA X es t):PE X (.Tuple es x1 pos) (NU t):=by
 intro pins s σ H Q I hq
 refine wpAny_Tuple_spliced (aW (h pos pins s σ H _ I hq) fun us s1 ⟨xs,H1,I1,r,z,q⟩=>⟨by rw[← r.length];exact z,?_⟩)
 have hf:H1 s1.heap.objs.size=none:=I1.AR.fresh (Nat.le_refl _)
 refine⟨.ref s1.heap.objs.size,aw H1 s1.heap.objs.size (.tup xs),I1.laid (t':=s1.toks) (fun b u e=>Heap.get?_push_of_some _ e) (Nat.le_refl _) ?_,rfl,q _ hf⟩
 exact⟨z,us,r,⟨_,Heap.get?_push_size _ rfl,⟨rfl,_,rfl⟩,rfl⟩⟩
theorem b8 (h:PA X es t):PE X (.List es pos) (NV t):=by
 intro pins s σ H Q I hq
 refine wpAny_List_spliced (aW (h pos pins s σ H _ I hq) fun us s1 ⟨xs,H1,I1,r,z,q⟩=>⟨by rw[← r.length];exact z,?_⟩)
 have hf:H1 s1.heap.objs.size=none:=I1.AR.fresh (Nat.le_refl _)
 refine⟨.ref s1.heap.objs.size,aw H1 s1.heap.objs.size (.lst xs),I1.laid (t':=s1.toks) (fun b u e=>Heap.get?_push_of_some _ e) (Nat.le_refl _) ?_,rfl,q _ hf⟩
 exact⟨z,us,0,r,Heap.get?_push_size _ rfl⟩
end
abbrev Sp:=List V->Hp->VK->XK->Prop
abbrev r9:=List Env->Hp->Shared->XK->Value->Shared->Prop
structure D6 (P:Program)(w:World)(K:Frag)(mg:Str->Option Value)(base:Heap)(A:Around)(outer:List Env)(s:Shared)(H:Hp):Prop where
 frames:A.frames=some outer
 mod:Mod K mg base
 bs:∀ b o,base.get? b=some o->s.heap.get? b=some o/\H b=none
 Ft:base.objs.size <= s.heap.objs.size
 Ck:s.heap.FunFrames base outer
 GQ:∀ b ∈ sC outer,H b=none
 AR:B8 P w H s.heap
 bare:AllBare s.gens
noncomputable def CE (outer:List Env)(P:Program)(w:World)(H:Hp)(s:Shared)(Q:VK)(u:Value)(s':Shared):Prop :=
 ∃ v H',s'.os=s.os/\AllBare s'.gens/\Un (sC outer) [] H H' s.heap s'.heap/\B8 P w H' s'.heap/\RelV v u/\Q v H'
noncomputable def CR (CX:r9)(outer:List Env)(P:Program)(w:World)(H:Hp)(s:Shared)(Q:VK)(E:XK)(r:Result)(s':Shared):Prop :=
 match r with
 | .ok (.ret u)=>CE outer P w H s Q u s'
 | .ok _=>False
 | .error e=>CX outer H s E e s'
structure AJ (P:Program)(w:World)(K:Frag)(mg:Str->Option Value)(base:Heap)(CX:r9)(k:Nat)(f:Addr)(fd:FuncData)(ps:List Str)(sp:Sp):Prop where
 len:∀ vs H Q E,sp vs H Q E->vs.length=ps.length
 run:∀ (A:Around)(outer:List Env)(s:Shared)(H:Hp)(args:Args)(us:List Value)(vs:List V)(Q:VK)(E:XK),AU k A->D6 P w K mg base A outer s H->BindsTo s fd args (ps.zip us)->Vals vs us->sp vs H Q E ->
  codeAny (model P w) A (.call (.ref f) args) (CR CX outer P w H s Q E) s
theorem AJ.mono {P:Program}{w:World}{K:Frag}{mg:Str->Option Value}{base:Heap}{CX:r9}{j k:Nat}{f:Addr}{fd:FuncData}{ps:List Str}{sp:Sp}(F:AJ P w K mg base CX j f fd ps sp)(h:j <= k) :
  AJ P w K mg base CX k f fd ps sp:=⟨F.len,fun A outer s H args us vs Q E hr=>F.run A outer s H args us vs Q E (hr.mono h)⟩
theorem AJ.imp {P:Program}{w:World}{K:Frag}{mg:Str->Option Value}{base:Heap}{CX:r9}{k:Nat}{f:Addr}{fd:FuncData}{ps:List Str}{sp IU:Sp}(F:AJ P w K mg base CX k f fd ps sp)
  (h:∀ vs H Q E,IU vs H Q E->sp vs H Q E):AJ P w K mg base CX k f fd ps IU :=
 ⟨fun vs H Q E q=>F.len vs H Q E (h _ _ _ _ q),fun A outer s H args us vs Q E hr he hb hv hs=>F.run A outer s H args us vs Q E hr he hb hv (h _ _ _ _ hs)⟩
theorem D6.make {P:Program}{w:World}{K:Frag}{mg:Str->Option Value}{base:Heap}{A:Around}{outer:List Env}{s:Shared}{H:Hp}(e:D6 P w K mg base A outer s H)(C:Addr)(us:List Value)(kw:List (Str × Value)) :
  D6 P w K mg base (A.under (.builtin "type.__call__" ⟨.ref C :: us,kw⟩)) outer s H:=⟨by first | exact e.frames | (simpa [Around.under,Code.envs,Code.isFrame,pushEnvs] using e.frames),e.mod,e.bs,e.Ft,e.Ck,e.GQ,e.AR,e.bare⟩
section
variable {X:Cx}{pins:List (Addr × Obj)}{σ:St}{H:Hp}{s s':Shared}
theorem Inv.IV (I:Inv X pins σ H s):D6 X.prog X.w X.K X.mg X.base X.A X.stack s H :=
 ⟨I.ok.frames,I.ok.mod,I.bs,le_trans I.ok.Ft I.sz,I.stack,I.DV,I.AR,I.bare⟩
theorem Inv.after {Q:VK}{u:Value}(I:Inv X pins σ H s)(h:CE X.stack X.prog X.w H s Q u s'):EP X pins σ Q u s':=by
 obtain⟨v,H',os,bare,un,AR,r,q⟩:=h
 obtain⟨hh,g,d,t,NW⟩:=s'
 obtain rfl:NW = s.os:=os
 exact⟨v,H',I.call (h':=hh) (g':=g) (d':=d) (t':=t) (ch:=[]) un AR bare (fun b z=>absurd z (by simp)),r,q⟩
end
noncomputable def y3 (sp:Sp)(Cb:List V)(E:XK)(t:TA):TE:=fun σ H Q=>t σ H fun vs H1=>sp (vs ++ Cb) H1 Q E
noncomputable def IW (C:Addr)(m:Str)(sp:Sp)(Cb:List V)(E:XK)(ta:TE)(t:TA):TE:=fun σ H Q=>ta σ H fun x H1=>∃ a dx fs,x = .ref a/\H1 a=some (.ins C dx fs)/\fs.lookup m=none /\
 t σ H1 fun vs H2=>sp (x :: (vs ++ Cb)) H2 Q E
noncomputable def IX (C:Addr)(sp:Sp)(Cb:List V)(E:XK)(t:TA):TE:=fun σ H Q=>t σ H fun vs H1=>∀ x dx,H1 x=none->H1 dx=none->dx ≠ x ->
 sp (.ref x :: (vs ++ Cb)) (aw (aw H1 dx (.own x)) x (.ins C dx [])) (fun v H2=>v = .AZ/\Q (.ref x) H2) E
noncomputable def Binds (K:Frag)(fd:FuncData)(ps:List Str)(ds:List Value):Prop :=
 ∀ (s:Shared)(us:List Value),K.In s.heap->(us ++ ds).length=ps.length->BindsTo s fd ⟨us,[]⟩ (ps.zip (us ++ ds))
theorem Binds.all {K:Frag}{fd:FuncData}{ps:List Str}(h:∀ us:List Value,us.length=ps.length->bindArgs fd ⟨us,[]⟩ = pure (ps.zip us)):Binds K fd ps []:=fun s us _ hl=>by
 rw[append_nil]at hl ⊢
 exact .of_eq (h us hl)
noncomputable def fL (CX:r9)(X:Cx)(E:XK):Prop:=∀ (pins:List (Addr × Obj))(σ:St)(H:Hp)(s:Shared)(e:Value)(s':Shared),Inv X pins σ H s->CX X.stack H s E e s'->X.xe e s'
section
variable {X:Cx}{CX:r9}{k:Nat}{f C:Addr}{fd:FuncData}{ps:List Str}{sp:Sp}{Cb:List V}{ds:List Value}{E:XK}{x m:Str}{p pos apos:Pos}{e o:Expr}{es:List Expr}{ta:TE}{t:TA}
theorem mQ {pins:List (Addr × Obj)}{σ:St}{H:Hp}{s:Shared}{Q:VK}{us:List Value}{vs:List V}(F:AJ X.prog X.w X.K X.mg X.base CX k f fd ps sp)(hr:AU k X.A)(hb:Binds X.K fd ps ds)(hd:Vals Cb ds)(hx:fL CX X E)
  (I:Inv X pins σ H s) (r:Vals vs us) (h:sp (vs ++ Cb) H Q E):wpAny (model X.prog X.w) X.A (call (.ref f) us) (EP X pins σ Q) X.xe s:=by
 have r2:Vals (vs ++ Cb) (us ++ ds):=r.append hd
 have hl:(us ++ ds).length=ps.length:=by rw[← r2.length];exact F.len _ _ _ _ h
 refine wpAny_call (codeAny_mono (F.run X.A X.stack s H ⟨us,[]⟩ (us ++ ds) (vs ++ Cb) Q E hr I.IV (hb s us I.BX hl) r2 h) fun r s' hq=>?_)
 cases r with
 | error e=>exact hx pins σ H s e s' I hq
 | ok fl =>
  cases fl with
  | ret u=>exact I.after hq
  | next=>exact False.elim hq
  | brk=>exact False.elim hq
  | cont=>exact False.elim hq
theorem aq (F:AJ X.prog X.w X.K X.mg X.base CX k f fd ps sp)(hr:AU k X.A)(hg:Gl X x)(hm:X.mg x=some (.ref f))(hk:keepIn X.K (.ref f)=true)(hb:Binds X.K fd ps ds)(hd:Vals Cb ds)(hx:fL CX X E)
  (ha:PA X (e :: es) t) (Fv:autoParam ((x == ("__debug__":Str))=false) θ) (he:autoParam (starEach (e :: es) X.env=(false,eval e X.env) :: starEach es X.env) η) (BS:autoParam ((backTo pos (starEach es X.env)).any (·.1)=false) η) :
  PE X (.Call (.Name x p) (e :: es) [] pos) (y3 sp Cb E t):=by
 intro pins s σ H Q I h
 refine wpAny_Call_Name_kw (jv I hg hm ?_ Fv)
 refine PySem.W.callWith_K (h₀:=X.base) I.ok.mod.HP hk (aW (ha pos pins s σ H _ I h) fun us s1 ⟨vs,H1,I1,r,q⟩=>⟨I1.BX,?_⟩) he BS
 exact mQ F hr hb hd hx I1 r q
theorem vk (F:AJ X.prog X.w X.K X.mg X.base CX k f fd ps sp)(hr:AU k X.A)(hg:Gl X x)(hm:X.mg x=some (.ref f))(hk:keepIn X.K (.ref f)=true)(hb:Binds X.K fd ps ds)(hd:Vals Cb ds)(hx:fL CX X E)
  (Fv:autoParam ((x == ("__debug__":Str))=false) θ):PE X (.Call (.Name x p) [] [] pos) (y3 sp Cb E IS):=by
 intro pins s σ H Q I h
 refine wpAny_Call_Name_kw (jv I hg hm ?_ Fv)
 exact PySem.W.callWith_K0 I.BX hk (mQ (us:=[]) F hr hb hd hx I .nil h)
theorem bK {pl:Sem Bool}(he:PE X o ta)(c:C8 X.K C)(hm:g8 X.K C m f)(F:AJ X.prog X.w X.K X.mg X.base CX k f fd ps sp)(hr:AU k X.A)(hb:Binds X.K fd ps ds)(hd:Vals Cb ds)(hx:fL CX X E)(ha:PA X (e :: es) t)
  (CY:autoParam (starEach (e :: es) X.env=(false,eval e X.env) :: starEach es X.env) η) (BS:autoParam ((backTo pos (starEach es X.env)).any (·.1)=false) η)
  (ht:eval (.Call (.Attribute o m apos) (e :: es) [] pos) X.env=(do
   let ov ← eval o X.env
   standAt apos.atName
   let (f,first) ← holding [ov] (getMethod ov m pl)
   callWith pos f first (backTo pos (starEach (e :: es) X.env)) (backToKw pos (keywordEach [] X.env))):=by rfl) :
  PE X (.Call (.Attribute o m apos) (e :: es) [] pos) (IW C m sp Cb E ta t):=by
 intro pins s σ H Q I h
 refine PySem.W.methodCall_KW (pl:=pl) (aW (he pins s σ H _ I h) fun u s1 AL=>?_) ht
 obtain⟨x,H1,I1,rx,a,dx,fs,ex,ea,l,q⟩:=AL
 subst ex
 obtain rfl:u=Value.ref a:=rx
 refine rb I1 ea c hm l ?_
 refine PySem.W.callWith_K (first:=[.ref a]) (h₀:=X.base) I.ok.mod.HP hm.kp (aW (ha pos pins s1 σ H1 _ I1 q) fun us s2 ⟨vs,H2,I2,r,q2⟩=>⟨I2.BX,?_⟩) CY BS
 exact mQ (us := .ref a :: us) (vs := .ref a :: vs) F hr hb hd hx I2 (.cons rfl r) q2
structure Mk (K:Frag)(C f:Addr):Prop where
 makes:makesIn K C=true
 init:findIn K (.ref C) "__init__" = some (some (.ref f))
 fn:isFn K (.ref f)=true
 kp:keepIn K (.ref C)=true
theorem uW {pins:List (Addr × Obj)}{σ:St}{H:Hp}{s:Shared}{Q:VK}{us:List Value}{vs:List V}(M:Mk X.K C f)(F:AJ X.prog X.w X.K X.mg X.base CX k f fd ps sp)(hr:AU (k + 1) X.A)(hb:Binds X.K fd ps ds)(hd:Vals Cb ds)
  (hx:fL CX X E) (I:Inv X pins σ H s) (r:Vals vs us)
  (h:∀ x dx,H x=none->H dx=none->dx ≠ x->sp (.ref x :: (vs ++ Cb)) (aw (aw H dx (.own x)) x (.ins C dx [])) (fun v H2=>v = .AZ/\Q (.ref x) H2) E) :
  wpAny (model X.prog X.w) X.A (call (.ref C) us) (EP X pins σ Q) X.xe s:=by
 have hq:=h (s.heap.objs.size + 1) s.heap.objs.size (I.AR.fresh (le_succ _)) (I.AR.fresh (Nat.le_refl _)) (ne_of_lt (lt_succ_self _))
 have I2:=Inv.made (C:=C) I
 have r2:Vals (V.ref (s.heap.objs.size + 1) :: (vs ++ Cb)) (Value.ref (s.heap.objs.size + 1) :: (us ++ ds)) := .cons rfl (r.append hd)
 have hl:(Value.ref (s.heap.objs.size + 1) :: us ++ ds).length=ps.length:=by
  have e:=r2.length
  rw[F.len _ _ _ _ hq]at e
  exact e.symm
 refine wpAny_call (vW (f:=f) I.BX M.makes M.init (beq_iff_eq.mp M.fn) (codeAny_mono (F.run _ X.stack _ _ ⟨Value.ref (s.heap.objs.size + 1) :: us,[]⟩ (Value.ref (s.heap.objs.size + 1) :: (us ++ ds)) _ _ E (hr.make C us [])
  (I2.IV.make C us []) (hb _ (Value.ref (s.heap.objs.size + 1) :: us) I2.BX hl) r2 hq) fun r s' Fw=>?_))
 cases r with
 | error e=>exact hx pins σ _ _ e s' I2 Fw
 | ok fl =>
  cases fl with
  | ret u =>
   obtain⟨v,H',I3,rv,ev,q3⟩:=I2.after Fw
   subst ev
   exact⟨rv,⟨V.ref (s.heap.objs.size + 1),H',I3,rfl,q3⟩⟩
  | next=>exact False.elim Fw
  | brk=>exact False.elim Fw
  | cont=>exact False.elim Fw
theorem dJ (M:Mk X.K C f)(F:AJ X.prog X.w X.K X.mg X.base CX k f fd ps sp)(hr:AU (k + 1) X.A)(hg:Gl X x)(hm:X.mg x=some (.ref C))(hb:Binds X.K fd ps ds)(hd:Vals Cb ds)(hx:fL CX X E)
  (ha:PA X (e :: es) t) (Fv:autoParam ((x == ("__debug__":Str))=false) θ) (he:autoParam (starEach (e :: es) X.env=(false,eval e X.env) :: starEach es X.env) η) (BS:autoParam ((backTo pos (starEach es X.env)).any (·.1)=false) η) :
  PE X (.Call (.Name x p) (e :: es) [] pos) (IX C sp Cb E t):=by
 intro pins s σ H Q I h
 refine wpAny_Call_Name_kw (jv I hg hm ?_ Fv)
 refine PySem.W.callWith_K (h₀:=X.base) I.ok.mod.HP M.kp (aW (ha pos pins s σ H _ I h) fun us s1 ⟨vs,H1,I1,r,q⟩=>⟨I1.BX,?_⟩) he BS
 exact uW M F hr hb hd hx I1 r q
end
section
variable {X:Cx}{CX:r9}{k:Nat}{f C:Addr}{fd:FuncData}{ps ks:List Str}{sp:Sp}{E:XK}{x m:Str}{p pos apos kpos:Pos}{e o:Expr}{es:List Expr}{kws:List Keyword}{te ta:TE}{t tk:TA}{nm:Option Str}
variable {g:List Value->List Value->List Value}{gV:List V->List V->List V}
end
structure ar (N P:List Str)(sc:Scope):Prop where
 kind:sc.kind = .function
 co:sc.isCoroutine=false
 gen:sc.isGenerator=false
 nd:N.Nodup
 pre:N.take P.length=P
 par:∀ x ∈ P,sc.names.lookup x=some .local∨sc.names.lookup x=some .cell
 GU:∀ y ∈ sc.names,y.2 ≠ .free
theorem lT {kindOf:Str->Option NameKind}{x:Str}:∀ {binds:List (Str × Value)}{m:Str->Option Value},(∀ v,(x,v) ∉ binds)->bindL kindOf binds m x=m x
 | [],_,_=>rfl
 | (n,v) :: r,m,h=>by
  unfold bindL
  rw[lT fun w hw=>h w (mem_cons_of_mem _ hw)]
  split
  ·have:x ≠ n:=by rintro rfl;exact h v mem_cons_self
   simp[this]
  ·rfl
theorem lV {kindOf:Str->Option NameKind}{x:Str}:∀ {binds:List (Str × Value)}{m:Str->Option Value},(∀ v,(x,v) ∉ binds)->bindC kindOf binds m x=m x
 | [],_,_=>rfl
 | (n,v) :: r,m,h=>by
  unfold bindC
  rw[lV fun w hw=>h w (mem_cons_of_mem _ hw)]
  split
  ·rfl
  ·have:x ≠ n:=by rintro rfl;exact h v mem_cons_self
   simp[this]
theorem lU {kindOf:Str->Option NameKind}{x:Str}{v:Value}:∀ {P:List Str}{vs:List Value}{i:Nat}{m:Str->Option Value},P.Nodup->P[i]? = some x->vs[i]? = some v->kindOf x=some .local ->
  bindL kindOf (P.zip vs) m x=some v
 | [],_,_,_,_,h,_,_=>by simp at h
 | _ :: _,[],_,_,_,_,h,_=>by simp at h
 | p :: P,w :: vs,0,m,nd,h1,h2,hk=>by
  simp at h1 h2;subst h1;subst h2
  show bindL kindOf ((p,w) :: P.zip vs) m p=_
  unfold bindL
  rw[lT fun v hv=>(nodup_cons.mp nd).1 (of_mem_zip hv).1,if_pos hk]
  simp
 | p :: P,w :: vs,i + 1,m,nd,h1,h2,hk=>by
  show bindL kindOf ((p,w) :: P.zip vs) m x=_
  unfold bindL
  exact lU (i:=i) (nodup_cons.mp nd).2 (by simpa using h1) (by simpa using h2) hk
theorem lW {kindOf:Str->Option NameKind}{x:Str}{v:Value}:∀ {P:List Str}{vs:List Value}{i:Nat}{m:Str->Option Value},P.Nodup->P[i]? = some x->vs[i]? = some v->kindOf x ≠ some .local ->
  bindC kindOf (P.zip vs) m x=some v
 | [],_,_,_,_,h,_,_=>by simp at h
 | _ :: _,[],_,_,_,_,h,_=>by simp at h
 | p :: P,w :: vs,0,m,nd,h1,h2,hk=>by
  simp at h1 h2;subst h1;subst h2
  show bindC kindOf ((p,w) :: P.zip vs) m p=_
  unfold bindC
  rw[lV fun v hv=>(nodup_cons.mp nd).1 (of_mem_zip hv).1,if_neg hk]
  simp
 | p :: P,w :: vs,i + 1,m,nd,h1,h2,hk=>by
  show bindC kindOf ((p,w) :: P.zip vs) m x=_
  unfold bindC
  exact lW (i:=i) (nodup_cons.mp nd).2 (by simpa using h1) (by simpa using h2) hk
noncomputable def iU (N:List Str)(vs:List V):St:=vs.map some ++ List.replicate (N.length - vs.length) none
noncomputable def ub (CX:r9)(P:Program)(w:World)(K:Frag)(mg:Str->Option Value)(base:Heap)(N:List Str)(qual:Str)(scope:Scope)(f:Addr)(cd:Value)(A:Around)(outer:List Env)(s:Shared)(H:Hp)(E:XK):Cx where
 prog:=P
 w:=w
 K:=K
 mg:=mg
 base:=base
 A:=A.deeper (envOfC qual scope s.heap.objs.size f cd)
 N:=N
 s₀:=s
 H₀:=H
 env:=envOfC qual scope s.heap.objs.size f cd
 outer:=outer
 stack:=envOfC qual scope s.heap.objs.size f cd :: outer
 ex:=[]
 calm:=true
 fn:=fun _=>true
 pn:=[]
 xe:=fun e s'=>wpAny (model P w) (A.deeper (envOfC qual scope s.heap.objs.size f cd)) (leaving (envOfC qual scope s.heap.objs.size f cd) e) (fun _ IY=>CX outer H s E e IY) (fun e' IY=>CX outer H s E e' IY) s'
theorem pF {sc:Scope}{n:Nat}{x:Str}(h:sc.names.lookup x=some .cell):∃ c,(cellsFrom n sc.names []).lookup x=some c:=by
 have q:=PySem.W.cellsFrom_some sc.names n [] (.inl h)
 exact Option.isSome_iff_exists.mp q
theorem tQ {CX:r9}{P:Program}{w:World}{K:Frag}{mg:Str->Option Value}{base:Heap}{N ps:List Str}{qual:Str}{scope:Scope}{f:Addr}{cd:Value}{A:Around}{outer:List Env}{s s1:Shared}{H:Hp}{E:XK}{us:List Value}{vs:List V}
  (S:ar N ps scope) (hd:A.handled=none) (e0:D6 P w K mg base A outer s H) (hl:vs.length=ps.length) (r:Vals vs us)
  (x:InCallC s s.heap.objs.size (bindL (envOfC qual scope s.heap.objs.size f cd).kindOf (ps.zip us) fun _=>none) (cellsFrom (s.heap.objs.size + 1) scope.names []) (bindC (envOfC qual scope s.heap.objs.size f cd).kindOf (ps.zip us) fun _=>none) s1) :
  Inv (ub CX P w K mg base N qual scope f cd A outer s H E) [] (iU N vs) H s1:=by
 have BS:ps.length <= N.length:=by have:=congrArg List.length S.pre;rw[length_take]at this;omega
 obtain⟨h1,tk,rfl,hk⟩:=x.done
 have IZ:∀ b:Addr,b ∉ (ub CX P w K mg base N qual scope f cd A outer s H E).ex:=fun b z=>absurd (show b ∈ ([]:List Addr) from z) (by simp)
 refine⟨⟨e0.mod,S.kind,rfl,rfl,Nat.le_refl _,fun y z c h1 h2=>?_,fun y hy=>?_,fun y c _ h=>?_,fun _=>hd,Around.frames_deeper e0.frames, .inr ⟨rfl,rfl⟩,fun b z=>absurd z (IZ b),e0.bs,e0.Ft,fun b _ _=>IZ b,fun b z=>absurd z (IZ b),e0.Ck,e0.GQ⟩,
  rfl,e0.bare,Un.kept hk,⟨_,x.toInCall.ns,fun i y v h1 h2 h3=>?_⟩,fun y c h=>⟨_,x.cell y c h⟩,e0.AR.fresh (Nat.le_refl _),fun y c h=>?_,fun p hp=>absurd (show p ∈ ([]:List (Addr × Obj)) from hp) (by simp),e0.AR.kept hk,?_⟩
 ·exact name_of_addr x.apart (PySem.mem_of_lookup h1) (PySem.mem_of_lookup h2)
 ·have hy:scope.names.lookup y=some .cell∨scope.names.lookup y=some .free:=hy
  rcases hy with hy | hy
  ·exact pF hy
  ·exact absurd rfl (S.GU _ (PySem.mem_of_lookup hy))
 ·exact Nat.le_of_lt (x.above y c (PySem.mem_of_lookup h))
 ·have hi:i < vs.length:=by
   unfold iU at h2
   by_cases hi:i < vs.length
   ·exact hi
   ·rw[getElem?_append_right (by simpa using hi)]at h2
    rw[List.getElem?_replicate]at h2
    split at h2<;>cases h2
  have ha:vs[i]? = some v:=by
   unfold iU at h2
   rw[getElem?_append_left (by simpa using hi),getElem?_map]at h2
   cases e:vs[i]? with
   | none=>rw[e]at h2;cases h2
   | some a=>rw[e]at h2;cases h2;rfl
  obtain⟨u,hu,rv⟩:=r.get ha
  have hp:ps[i]? = some y:=by
   rw[← S.pre,List.getElem?_take_of_lt (by omega)];exact h1
  have R7:ps.Nodup:=by rw[← S.pre];exact S.nd.sublist (take_sublist _ _)
  refine⟨u,rv,?_⟩
  rcases S.par y (mem_of_getElem? hp) with k | k
  ·exact .inl ⟨k,lU R7 hp hu k⟩
  ·obtain⟨c,e⟩:=pF (n:=s.heap.objs.size + 1) k
   refine .inr ⟨.inl k,c,e,?_⟩
   have q:=x.cell y c e
   rw[lW R7 hp hu (by show scope.names.lookup y ≠ _;rw[k];decide)]at q
   exact q
 ·exact e0.AR.fresh (Nat.le_of_lt (x.above y c (PySem.mem_of_lookup h)))
 ·unfold iU
  show _=N.length
  rw[length_append,length_map,length_replicate]
  omega
theorem Ja {CX:r9}{P:Program}{w:World}{K:Frag}{mg:Str->Option Value}{base:Heap}{k:Nat}{f:Addr}{name qual:Str}{params:Arguments}{body:List Stmt}{scope:Scope}{dV kV doc pm Bb ct oc:Value}{an od:Option Addr}
  {EK:Array (Option Value)} {N ps:List Str} {sp:Sp} (lk:K.lookup f=some ⟨oc,od, .func (fnOf name qual params body scope dV kV doc pm an Bb ct),EK⟩) (EH:codeIn K Bb qual=true) (S:ar N ps scope)
  (len:∀ vs H Q E,sp vs H Q E->vs.length=ps.length)
  (EL:∀ (A:Around)(outer:List Env)(s:Shared)(H:Hp)(vs:List V)(Q:VK)(E:XK),AU k (A.deeper (envOfC qual scope s.heap.objs.size f Bb))->sp vs H Q E ->
   ∃ t,Em (ub CX P w K mg base N qual scope f Bb A outer s H E) body t/\t { nx:=fun _ H'=>Q .AZ H',rt:=Q } (iU N vs) H) :
  AJ P w K mg base CX (k + 1) f (fnOf name qual params body scope dV kV doc pm an Bb ct) ps sp:=by
 refine⟨len,fun A outer s H args us vs Q E hr e0 hb r Gu=>?_⟩
 have hl:=len _ _ _ _ Gu
 have KX:K.In s.heap:=e0.mod.HP.keeps fun b o e=>(e0.bs b o e).1
 have lim:s.heap.NoLimit:=e0.mod.nolimit.keeps fun b o e=>(e0.bs b o e).1
 have Jb:∀ y ∈ ps.zip us,scope.names.lookup y.1=some .local∨(scope.names.lookup y.1=some .cell/\((cellsFrom (s.heap.objs.size + 1) scope.names []).lookup y.1).isSome=true):=fun⟨n,v⟩ hy=>by
  rcases S.par n (of_mem_zip hy).1 with q | q
  ·exact .inl q
  ·exact .inr ⟨q,PySem.W.cellsFrom_some _ _ _ (.inl q)⟩
 refine codeAny_call_function hr.depth (KX _ _ lk) rfl S.co S.gen rfl (PySem.W.codeRec_of KX EH) (hb _ _ _ _ ?_)
 refine wpAny_newFunctionEnv_cells S.kind Jb fun env he s1 x=>?_
 subst he
 refine⟨lim.keeps x.toInCall.keep,codeAny_func ?_⟩
 obtain⟨t,ht,hq⟩:=EL A outer s H vs Q E (hr.deeper _) Gu
 have I:Inv (ub CX P w K mg base N qual scope f Bb A outer s H E) [] (iU N vs) H s1:=tQ S hr.hd e0 hl r x
 refine wpAny_mono (ht [] s1 (iU N vs) H _ I hq) (fun fl s' hs=>?_) fun e s' hs=>hs
 have fin:∀ {σ':St}{H':Hp}{v:V}{u:Value},Inv (ub CX P w K mg base N qual scope f Bb A outer s H E) [] σ' H' s'->RelV v u->Q v H'->CE outer P w H s Q u s' :=
  fun {σ' H' v u} J rv q=>⟨v,H',J.os,J.bare,J.base,J.AR,rv,q⟩
 cases fl with
 | ret u =>
  obtain⟨v,σ',H',J,rv,q⟩:=hs
  exact fin J rv q
 | next =>
  obtain⟨σ',H',J,q⟩:=hs
  exact fin (v:=V.AZ) (u:=Value.none) J rfl q
 | brk =>
  obtain⟨_,_,_,q⟩:=hs
  exact False.elim q
 | cont =>
  obtain⟨_,_,_,q⟩:=hs
  exact False.elim q
section
variable {X:Cx}{x:Str}{p pos:Pos}{e:Expr}{es:List Expr}{t:TA}{id T:String}{r:List V->Hp->VK->Prop}
noncomputable def R8 (r:List V->Hp->VK->Prop)(t:TA):TE:=fun σ H Q=>t σ H fun vs H1=>r vs H1 Q
theorem aE (hc:eF X (.builtin id) r)(hg:Gl X x)(hm:X.mg x=none)(hv:bootBuiltins x=some (.builtin id))(ha:PA X (e :: es) t)(hn:autoParam (x ≠ "__name__") θ)(Fv:autoParam ((x == ("__debug__":Str))=false) θ)
  (he:autoParam (starEach (e :: es) X.env=(false,eval e X.env) :: starEach es X.env) η) (BS:autoParam ((backTo pos (starEach es X.env)).any (·.1)=false) η):PE X (.Call (.Name x p) (e :: es) [] pos) (R8 r t):=by
 intro pins s σ H Q I h
 refine wpAny_Call_Name_kw (dW I hg hm hv ?_ hn Fv)
 exact PyProof.Rows.callWith_builtin1 (aW (ha pos pins s σ H _ I h) fun us s1 AL=>by obtain⟨vs,H1,I1,r1,q1⟩:=AL;exact hc pins s1 σ H1 vs us Q I1 r1 q1) he BS
theorem cU (hc:eF X (.type T) r)(hg:Gl X x)(hm:X.mg x=none)(hv:bootBuiltins x=some (.type T))(ha:PA X (e :: es) t)(hn:autoParam (x ≠ "__name__") θ)(Fv:autoParam ((x == ("__debug__":Str))=false) θ)
  (he:autoParam (starEach (e :: es) X.env=(false,eval e X.env) :: starEach es X.env) η) (BS:autoParam ((backTo pos (starEach es X.env)).any (·.1)=false) η):PE X (.Call (.Name x p) (e :: es) [] pos) (R8 r t):=by
 intro pins s σ H Q I h
 refine wpAny_Call_Name_kw (dW I hg hm hv ?_ hn Fv)
 exact PyProof.Rows.callWith_type1 (aW (ha pos pins s σ H _ I h) fun us s1 AL=>by obtain⟨vs,H1,I1,r1,q1⟩:=AL;exact hc pins s1 σ H1 vs us Q I1 r1 q1) he BS
end
end L2
namespace HT
open PySem PyProof.Rows
section
open PySem.SeqAt
open PySem.AutoSeq1 (wpAny_loadPart')
open PySem.MeetsSeq PySem.MeetsSeq2 PySem.MeetsSeq3
end
section
variable {prog:Program}{w:World}{A:Around}{E:Value->Shared->Prop}{s:Shared}
noncomputable def De (n d:Nat):Option Int->Nat
 | none=>d
 | some v=>if v < 0 then (v + (n:Int)).toNat else min v.toNat n
theorem Df (n d:Nat):De n d none=d:=rfl
theorem DY (n d k:Nat):De n d (some (k:Int))=min k n:=by
 show(if (k:Int) < 0 then ((k:Int) + (n:Int)).toNat else min (k:Int).toNat n)=min k n
 rw[if_neg (by omega),toNat_natCast]
end
end HT
namespace L2
open PySem PySem.Spec PyProof.Rows
abbrev TO:=St->Hp->(Option Int->Hp->Prop)->Prop
noncomputable def PO (X:Cx)(e:Option Expr)(t:TO):Prop :=
 ∀ (pins:List (Addr × Obj))(s:Shared)(σ:St)(H:Hp)(Q:Option Int->Hp->Prop),Inv X pins σ H s->t σ H Q ->
  wpAny (model X.prog X.w) X.A (evalPart e X.env) (fun u s'=>∃ o H',Inv X pins σ H' s'/\IsPart u o/\Q o H') X.xe s
noncomputable def wY:TO:=fun _ H Q=>Q none H
noncomputable def Jc (t:TE):TO:=fun σ H Q=>t σ H fun x H1=>∃ i,x = .int i/\Q (some i) H1
theorem kB {ns:List Int}:∀ {us:List Value},Vals (ns.map V.int) us->IntsAre us ns:=by
 induction ns with
 | nil=>intro us r;rw[map_nil]at r;cases r;exact .nil
 | cons n ns ih =>
  intro us r
  rw[map_cons]at r
  cases r with
  | cons r1 r2 =>
   obtain⟨t,e⟩:=r1
   subst e
   exact .cons n t (ih r2)
section
variable {X:Cx}{e:Expr}{te:TE}{lo hi:Option Expr}{tl th:TO}{pos p2:Pos}
theorem mV:PO X none wY:=by
 intro pins s σ H Q I h
 rw[evalPart_none]
 exact wpAny_pure ⟨none,H,I, .none,h⟩
theorem mU (h:PE X e te):PO X (some e) (Jc te):=by
 intro pins s σ H Q I hw
 rw[evalPart_some]
 refine aW (h pins s σ H _ I hw) fun u s1 AL=>?_
 obtain⟨x,H1,I1,r1,q1⟩:=AL
 obtain⟨i,rfl,q⟩:=q1
 obtain⟨t,rfl⟩:=r1
 exact⟨some i,H1,I1, .int i t,q⟩
noncomputable def R9 (X:Cx)(r:V->Option Int->Option Int->Hp->VK->Prop):Prop :=
 ∀ (pins:List (Addr × Obj))(s:Shared)(σ:St)(H:Hp)(x:V)(v vl vu:Value)(lo hi:Option Int)(sl:Addr)(Q:VK),Inv X pins σ H s->RelV x v->s.heap.IsSliceOf sl vl vu .none->IsPart vl lo->IsPart vu hi->r x lo hi H Q ->
  ∃ T id,typeLookup (.type T) "__getitem__" = pure (some (.builtin id))/\s.TypeIs v T/\wpAny (model X.prog X.w) X.A (getItem v (.ref sl)) (EP X pins σ Q) X.xe s
noncomputable def tSl (r:V->Option Int->Option Int->Hp->VK->Prop)(te:TE)(tl th:TO):TE:=fun σ H Q=>te σ H fun x H1=>tl σ H1 fun l H2=>th σ H2 fun u H3=>r x l u H3 Q
theorem jR {r:V->Option Int->Option Int->Hp->VK->Prop}(hr:R9 X r)(he:PE X e te)(hl:PO X lo tl)(hu:PO X hi th):PE X (.Subscript e (.Slice lo hi none p2) pos) (tSl r te tl th):=by
 intro pins s σ H Q I h
 refine Subscript_ (aW (he pins s σ H _ I h) fun v s1 AL=>?_)
 obtain⟨x,H1,I1,r1,q1⟩:=AL
 refine wpAny_Slice (aW (hl pins s1 σ H1 _ I1 q1) fun vl s2 ⟨l,H2,I2,pl,q2⟩=>aW (hu pins s2 σ H2 _ I2 q2) fun vu s3 AL=>?_)
 obtain⟨u,H3,I3,pu,q3⟩:=AL
 rw[evalPart_none]
 refine wpAny_pure ?_
 have I4:Inv X pins σ H3 { s3 with heap:=s3.heap.push { cls := .type "slice",data := .fields #[vl,vu, .none] } }:=I3.kept (t':=s3.toks) fun b ob q=>Heap.get?_push_of_some _ q
 obtain⟨T,id,hT,ht,hg⟩:=hr pins { s3 with heap:=s3.heap.push { cls := .type "slice",data := .fields #[vl,vu, .none] } } σ H3 x v vl vu l u s3.heap.objs.size Q I4 r1 (Heap.IsSliceOf.new ..) pl pu q3
 show wpAny (model X.prog X.w) X.A (subscriptTail e (.Slice lo hi none p2) v (.ref s3.heap.objs.size)) (EP X pins σ Q) X.xe { s3 with heap:=s3.heap.push { cls := .type "slice",data := .fields #[vl,vu, .none] } }
 exact tail_any (ops:=[.ref s3.heap.objs.size,v]) ht hT hg (by with_unfolding_all rfl)
noncomputable def lg (xs:List V)(lo hi:Option Int):List V:=(xs.drop (HT.De xs.length 0 lo)).take (HT.De xs.length xs.length hi - HT.De xs.length 0 lo)
theorem pC (xs:List V)(lo hi:Option Int):(lg xs lo hi).length <= xs.length:=by
 unfold lg
 rw[length_take,length_drop]
 omega
end
noncomputable def yb (n:Nat)(i:Int):Option Nat:=if 0 <= i then (if i < n then some i.toNat else none) else if -(n:Int) <= i then some (i + n).toNat else none
noncomputable def r6 {α:Type}(xs:List α)(i:Int):Option α:=(yb xs.length i).bind fun j=>xs[j]?
theorem sv {n:Nat}{i:Int}{j:Nat}(h:yb n i=some j):seqIndex? i n=some j/\j < n/\-(n:Int) <= i/\i < n:=by
 unfold yb at h
 by_cases h0:0 <= i
 ·rw[if_pos h0]at h
  by_cases h1:i < n
  ·rw[if_pos h1]at h
   have e:i.toNat=j:=Option.some.inj h
   exact⟨by rw[seqIndex_of h0 h1,e],by omega,by omega,h1⟩
  ·rw[if_neg h1]at h;cases h
 ·rw[if_neg h0]at h
  by_cases h1:-(n:Int) <= i
  ·rw[if_pos h1]at h
   have e:(i + n).toNat=j:=Option.some.inj h
   exact⟨by rw[seqIndex_neg (by omega) h1,e],by omega,h1,by omega⟩
  ·rw[if_neg h1]at h;cases h
theorem nG {α:Type}{xs:List α}{i:Int}{v:α}(h:r6 xs i=some v):∃ j,seqIndex? i xs.length=some j/\xs[j]? = some v/\j < xs.length/\-(xs.length:Int) <= i/\i < xs.length:=by
 unfold r6 at h
 cases e:yb xs.length i with
 | none=>rw[e]at h;cases h
 | some j =>
  rw[e]at h
  obtain⟨h1,h2,h3,h4⟩:=sv e
  exact⟨j,h1,h,h2,h3,h4⟩
theorem aJ {α:Type}{xs:List α}{j:Nat}{v:α}(h:xs[j]? = some v):r6 xs (j:Int)=some v:=by
 have hj:j < xs.length:=(gQ0 h)
 have e:yb xs.length (j:Int)=some j:=by
  unfold yb
  rw[if_pos (by omega),if_pos (by omega)];simp
 unfold r6;rw[e];exact h
noncomputable def yu (b:Expr):Prop:=∀ o i,subscripted b false o i=operate [o,i] (getItem o i)
noncomputable def D7 (X:Cx)(r:R2):Prop :=
 ∀ (value slice:Expr)(pins:List (Addr × Obj))(s:Shared)(σ:St)(H:Hp)(x y:V)(v u:Value)(Q:VK),Inv X pins σ H s->RelV x v->RelV y u->r x y H Q ->
  subscripted slice false v u=operate [v,u] (getItem v u)->wpAny (model X.prog X.w) X.A (subscriptTail value slice v u) (EP X pins σ Q) X.xe s
noncomputable def HS (X:Cx)(id:String)(r:V->List V->Hp->VK->Prop):Prop :=
 ∀ (pins:List (Addr × Obj))(s:Shared)(σ:St)(H:Hp)(x:V)(xs:List V)(v:Value)(us:List Value)(Q:VK),Inv X pins σ H s->RelV x v->Vals xs us->r x xs H Q ->
  wpAny (model X.prog X.w) X.A (call (.builtin id) (v :: us)) (EP X pins σ Q) X.xe s
section
variable {X:Cx}{a b:Expr}{ta tb:TE}{pos:Pos}
theorem D7.or {r r':R2}(h:D7 X r)(h':D7 X r'):D7 X (fun x y H Q=>r x y H Q∨r' x y H Q):=by
 intro value slice pins s σ H x y v u Q I rx ry q hs
 rcases q with q | q
 ·exact h value slice pins s σ H x y v u Q I rx ry q hs
 ·exact h' value slice pins s σ H x y v u Q I rx ry q hs
theorem aU {r:R2}(hr:D7 X r)(ha:PE X a ta)(hb:PE X b tb)(hs:yu b):PE X (.Subscript a b pos) (LY r ta tb):=by
 intro pins s σ H Q I h
 exact Subscript_ (Ax ha hb I h fun v u s2 x y H2 I2 rx ry q=>hr a b pins s2 σ H2 x y v u Q I2 rx ry q (hs _ _))
noncomputable def xm (K:Frag):R2:=fun x y H Q=>∃ p xs i v,x = .ref p/\y = .int i/\AQ K H p xs/\r6 xs i=some v/\Q v H
noncomputable def sZ (K:Frag):R2:=fun x y H Q=>∃ p xs i v,x = .ref p/\y = .int i/\Ba K H p xs/\r6 xs i=some v/\Q v H
noncomputable def Jd:R2:=fun x y H Q=>∃ z i c,x = .str z/\y = .int i/\z.length <= sizeLine/\r6 z.cps.toList i=some c/\Q (.str ⟨#[c]⟩) H
theorem Bf:D7 X (xm X.K):=by
 intro value slice pins s σ H x y v u Q I rx ry h hs
 obtain⟨p,xs,i,z,rfl,rfl,hq,he,q⟩:=h
 cases rx
 obtain⟨t,rfl⟩:=ry
 obtain⟨AM,r,pl,hz⟩:=I.list hq
 obtain⟨j,h1,h2,h3,h4,h5⟩:=nG he
 obtain⟨w,ew,D8⟩:=r.get h2
 have hl:=r.length
 have hn:=iF
 have fin:EP X pins σ Q w s:=⟨z,H,I,D8,q⟩
 by_cases h0:0 <= i
 ·have hj:i.toNat=j:=by
   rw[seqIndex_of h0 h5]at h1
   exact Option.some.inj h1
  exact item_listR pl.isList h0 (by omega) (by rw[hj];simpa using ew) fin hs
 ·have hj:(i + (AM.toArray.size:Int)).toNat=j:=by
   rw[seqIndex_neg (by omega) h4]at h1
   rw[size_toArray,← hl]
   exact Option.some.inj h1
  exact subscriptTail_builtinR (x:=w) pl.isList.typeIs slot_list_getitem.lookup
   (wpAny_getItem_list_neg (Q:=fun r s'=>r=w/\EP X pins σ Q r s') pl.isList (by omega) (by rw[size_toArray]<;>omega) (by omega) (by rw[hj];simpa using ew) ⟨rfl,fin⟩) hs
theorem Bd:D7 X (sZ X.K):=by
 intro value slice pins s σ H x y v u Q I rx ry h hs
 obtain⟨p,xs,i,z,rfl,rfl,hq,he,q⟩:=h
 cases rx
 obtain⟨t,rfl⟩:=ry
 obtain⟨AM,r,pl,hz⟩:=I.tuple hq
 obtain⟨j,h1,h2,h3,h4,h5⟩:=nG he
 obtain⟨w,ew,D8⟩:=r.get h2
 have hl:=r.length
 have hn:=iF
 have fin:EP X pins σ Q w s:=⟨z,H,I,D8,q⟩
 exact subscriptTail_builtinR (x:=w) pl.typeIs slot_tuple_getitem.lookup
  (getItem_tuple (j:=j) (Q:=fun r s'=>r=w/\EP X pins σ Q r s') pl (by omega) (by omega) (by rw[size_toArray,← hl];exact h1) (by simpa using ew) ⟨rfl,fin⟩) hs
theorem Ah:D7 X Jd:=by
 intro value slice pins s σ H x y v u Q I rx ry h hs
 obtain⟨z,i,c,rfl,rfl,hz,he,q⟩:=h
 obtain⟨t,rfl⟩:=rx
 obtain⟨t',rfl⟩:=ry
 obtain⟨j,h1,h2,h3,h4,h5⟩:=nG he
 have hl:z.cps.toList.length=z.length:=by simp[Str.length]
 rw[hl]at h1 h4 h5
 have hn:=iF
 exact tail_any (typeIs_str s z t) slot_str_getitem.lookup (getItem_str (c:=c) (by
  have e1:decide (i < -(2 ^ 63:Int))=false:=decide_eq_false (by omega)
  have e2:decide (i ≥ 2 ^ 63)=false:=decide_eq_false (by omega)
  rw[e1,e2,Bool.or_false]) (by rw[h1];simpa using h2) ⟨.str ⟨#[c]⟩,H,I.tok _,⟨_,rfl⟩,q⟩) hs
noncomputable def RA (K:Frag):R2:=fun x y H Q=>xm K x y H Q∨sZ K x y H Q∨Jd x y H Q
theorem k7:D7 X (RA X.K):=Bf.or (Bd.or Ah)
theorem qU (AM:List Value)(n j:Nat)(u:Value):Obj.mapSeq (·.setIfInBounds j u) { cls := .type "list",data := .seq AM.toArray n } = { cls := .type "list",data := .seq (AM.set j u).toArray n }:=by
 simp[Obj.mapSeq]
theorem Inv.lst {pins:List (Addr × Obj)}{σ:St}{H:Hp}{s:Shared}{p:Addr}{xs:List V}(I:Inv X pins σ H s)(h:H p=some (.lst xs)) :
  ∃ (AM:List Value)(n:Nat),Vals xs AM/\s.heap.get? p=some { cls := .type "list",data := .seq AM.toArray n }/\xs.length <= sizeLine:=by
 obtain⟨z,AM,n,r,e⟩:=I.AR p _ h
 exact⟨AM,n,r,e,z⟩
theorem Inv.GV {pins:List (Addr × Obj)}{σ:St}{H:Hp}{s:Shared}{p:Addr}{xs ys:List V}{AM its':List Value}{n n':Nat}{f:Obj->Obj}(I:Inv X pins σ H s)(h:H p=some (.lst xs))
  (ho:s.heap.get? p=some { cls := .type "list",data := .seq AM.toArray n }) (hf:f { cls := .type "list",data := .seq AM.toArray n } = { cls := .type "list",data := .seq its'.toArray n' }) (r:Vals ys its') (hz:ys.length <= sizeLine) (t:Nat) :
  Inv X pins σ (aw H p (.lst ys)) { s with heap:=s.heap.update p f,toks:=t }:=by
 have e:(s.heap.update p f).get? p=some { cls := .type "list",data := .seq its'.toArray n' }:=by
  rw[Heap.get?_update_self f ho (by rw[hf]<;>rfl),hf]
 refine I.write (x:=p) (e:=p) (by rw[h];trivial) (.inl rfl) (fun b u hb q=>(Heap.get?_update_other _ _ (Ne.symm hb)).trans q) ⟨_,e⟩ ?_
 exact⟨hz,its',n',r,e⟩
noncomputable def Je:V->V->V->Hp->(Hp->Prop)->Prop:=fun o i v H Q=>∃ p xs k j,o = .ref p/\i = .int k/\H p=some (.lst xs)/\yb xs.length k=some j/\Q (aw H p (.lst (xs.set j v)))
theorem uK:IE X Je:=by
 intro pins s σ H o i v ov iv u Q I ro ri rv h
 obtain⟨p,xs,k,j,rfl,rfl,hp,hj,q⟩:=h
 cases ro
 obtain⟨t,rfl⟩:=ri
 obtain⟨AM,n,r,ho,hz⟩:=I.lst hp
 obtain⟨h1,h2,h3,h4⟩:=sv hj
 have hl:=r.length
 have hn:=iF
 have I':Inv X pins σ (aw H p (.lst (xs.set j v))) { s with heap:=s.heap.update p (Obj.mapSeq (·.setIfInBounds j u)) } :=
  I.GV hp ho (qU AM n j u) (r.set rv j) (by rw[length_set];exact hz) s.toks
 by_cases h0:0 <= k
 ·have hk:k.toNat=j:=by
   rw[seqIndex_of h0 h4]at h1
   exact Option.some.inj h1
  exact PySem.W.ki_setAt ho h0 (by omega) (by rw[size_toArray,← hl];exact h4) (by rw[hk];exact⟨_,I',q⟩)
 ·have hk:(k + (AM.toArray.size:Int)).toNat=j:=by
   rw[seqIndex_neg (by omega) h3]at h1
   rw[size_toArray,← hl]
   exact Option.some.inj h1
  exact PySem.W.ki_setBack ho (by omega) (by rw[size_toArray,← hl];exact h3) (by omega) (by rw[hk];exact⟨_,I',q⟩)
theorem mJ (lo hi:Option Int)(n:Nat):(sliceBounds lo hi none n).1=((HT.De n 0 lo:Nat):Int)/\(sliceBounds lo hi none n).2.1=((HT.De n n hi:Nat):Int)/\(sliceBounds lo hi none n).2.2=1:=by
 refine⟨?_,?_,rfl⟩
 ·cases lo with
  | none=>simp[sliceBounds,HT.De]
  | some i =>
   simp only[sliceBounds,HT.De,Option.getD_none,show (1:Int) > 0 by decide,if_true]
   by_cases h:i < 0
   ·simp only[h,if_true]<;>omega
   ·simp only[h,if_false]<;>omega
 ·cases hi with
  | none=>simp[sliceBounds,HT.De]
  | some i =>
   simp only[sliceBounds,HT.De,Option.getD_none,show (1:Int) > 0 by decide,if_true]
   by_cases h:i < 0
   ·simp only[h,if_true]<;>omega
   ·simp only[h,if_false]<;>omega
theorem kY (AM:List Value)(lo hi:Option Int):slicePick AM.toArray lo hi none=((AM.drop (HT.De AM.length 0 lo)).take (HT.De AM.length AM.length hi - HT.De AM.length 0 lo)).toArray:=by
 obtain⟨h1,h2,h3⟩:=mJ lo hi AM.toArray.size
 unfold slicePick
 rw[h1,h2,h3]
 simp only[sliceRange_one,pick_run,size_toArray]<;>rfl
noncomputable def NY (K:Frag):V->Option Int->Option Int->Hp->VK->Prop:=fun x lo hi H Q=>∃ a xs,x = .ref a/\AQ K H a xs/\∀ p,H p=none->Q (.ref p) (aw H p (.lst (lg xs lo hi)))
theorem mK:R9 X (NY X.K):=by
 intro pins s σ H x v vl vu lo hi sl Q I rx hs pl pu h
 obtain⟨a,xs,rfl,hx,q⟩:=h
 cases rx
 obtain⟨AM,r,ht,hz⟩:=I.list hx
 have hlen:=r.length
 refine⟨"list",_,slot_list_getitem.lookup,ht.isList.typeIs,?_⟩
 refine wpAny_getItem_list_slice ht.isList hs pl pu .none (by simp) ?_ (by rw[size_toArray]<;>omega)
 rw[kY,← hlen]
 refine⟨.ref s.heap.objs.size,_,I.laid (t':=s.toks) (o := .lst (lg xs lo hi)) (fun b ob q=>Heap.get?_push_of_some _ q) (Nat.le_refl _) ?_,rfl,q _ (I.AR.fresh (Nat.le_refl _))⟩
 exact⟨le_trans (pC xs lo hi) hz,_,0,(r.drop (HT.De xs.length 0 lo)).take (HT.De xs.length xs.length hi - HT.De xs.length 0 lo),Heap.get?_push_size _ rfl⟩
noncomputable def gh:V->Bool
 | .AZ=>true
 | .bl _=>true
 | .int _=>true
 | .str _=>true
 | _=>false
noncomputable def yB:V->V->Bool
 | .AZ, .AZ=>true
 | .bl a, .bl b=>a == b
 | .bl a, .int b=>(if a then 1 else 0) == b
 | .int a, .bl b=>a == (if b then 1 else 0)
 | .int a, .int b=>a == b
 | .str a, .str b=>a == b
 | _,_=>false
theorem An {A:Around}{s:Shared}{y x:V}{u v:Value}(ry:RelV y u)(rx:RelV x v)(fy:gh y=true)(fx:gh x=true):SeqAt.EqAt A s u v (yB y x):=by
 cases y with
 | AZ =>
  cases ry
  cases x with
  | AZ=>cases rx;exact SeqAt.EqAt.same _
  | bl b=>cases rx;exact SeqAt.EqAt.none_bool b
  | int b=>obtain⟨t,rfl⟩:=rx;exact SeqAt.EqAt.none_int b t
  | str b=>obtain⟨t,rfl⟩:=rx;exact SeqAt.EqAt.none_str b t
  | _=>exact absurd (show false=true from fx) Bool.false_ne_true
 | bl a =>
  cases ry
  cases x with
  | AZ=>cases rx;exact SeqAt.EqAt.bool_none a
  | bl b=>cases rx;exact SeqAt.EqAt.bool_bool a b
  | int b=>obtain⟨t,rfl⟩:=rx;exact SeqAt.EqAt.bool_int a b t
  | str b=>obtain⟨t,rfl⟩:=rx;exact SeqAt.EqAt.bool_str a b t
  | _=>exact absurd (show false=true from fx) Bool.false_ne_true
 | int a =>
  obtain⟨t',rfl⟩:=ry
  cases x with
  | AZ=>cases rx;exact SeqAt.EqAt.int_none a t'
  | bl b=>cases rx;exact SeqAt.EqAt.int_bool a t' b
  | int b=>obtain⟨t,rfl⟩:=rx;exact SeqAt.EqAt.int_int a t' b t
  | str b=>obtain⟨t,rfl⟩:=rx;exact SeqAt.EqAt.int_str a t' b t
  | _=>exact absurd (show false=true from fx) Bool.false_ne_true
 | str a =>
  obtain⟨t',rfl⟩:=ry
  cases x with
  | AZ=>cases rx;exact SeqAt.EqAt.str_none a t'
  | bl b=>cases rx;exact SeqAt.EqAt.str_bool a t' b
  | int b=>obtain⟨t,rfl⟩:=rx;exact SeqAt.EqAt.str_int a t' b t
  | str b=>obtain⟨t,rfl⟩:=rx;exact SeqAt.EqAt.str_str a t' b t
  | _=>exact absurd (show false=true from fx) Bool.false_ne_true
 | _=>exact absurd (show false=true from fy) Bool.false_ne_true
noncomputable def rm (x:V)(u:Value):Bool:=match u with
 | .none=>yB .AZ x
 | .bool b=>yB (.bl b) x
 | .int i _=>yB (.int i) x
 | .str z _=>yB (.str z) x
 | _=>false
theorem wz {x y:V}{u:Value}(r:RelV y u)(f:gh y=true):rm x u=yB y x:=by
 cases y with
 | AZ=>cases r;rfl
 | bl b=>cases r;rfl
 | int i=>obtain⟨t,rfl⟩:=r;rfl
 | str z=>obtain⟨t,rfl⟩:=r;rfl
 | _=>exact absurd (show false=true from f) Bool.false_ne_true
theorem i5 {x:V}:∀ {xs:List V}{us:List Value},Vals xs us->xs.all gh=true->us.any (rm x)=xs.any fun y=>yB y x
 | _,_, .nil,_=>rfl
 | y :: xs,u :: us, .cons r t,f=>by
  rw[all_cons,Bool.and_eq_true]at f
  rw[any_cons,any_cons,wz r f.1,i5 t f.2]
theorem fG {A:Around}{s:Shared}{x:V}{v:Value}(rx:RelV x v)(fx:gh x=true):∀ {xs:List V}{us:List Value},Vals xs us->xs.all gh=true->∀ u ∈ us,SeqAt.EqAt A s u v (rm x u)
 | _,_, .nil,_=>fun u hu=>by cases hu
 | y :: xs,u :: us, .cons r t,f=>fun u' hu=>by
  rw[all_cons,Bool.and_eq_true]at f
  rcases mem_cons.mp hu with rfl | hu
  ·rw[wz r f.1];exact An r rx f.1 fx
  ·exact fG rx fx t f.2 u' hu
noncomputable def wn (x:V)(xs:List V):Bool:=xs.any fun y=>yB y x
noncomputable def NZ (K:Frag)(neg:Bool):R2:=fun x y H Q=>∃ p xs,y = .ref p/\(AQ K H p xs∨Ba K H p xs)/\gh x=true/\xs.all gh=true/\Q (.bl (if neg then !wn x xs else wn x xs)) H
theorem lA:fU X (compareOp .In) (NZ X.K false):=by
 intro pins s σ H x y v u Q I rx ry h
 obtain⟨p,xs,rfl,hq,fx,fs,q⟩:=h
 cases ry
 rcases hq with hq | hq
 ·obtain⟨AM,r,pl,hz⟩:=I.list hq
  refine SeqAt.in_listAt (rm x) pl.isList (fun w hw=>fG rx fx r fs w (by simpa using hw)) ⟨.bl _,H,I,rfl,?_⟩
  rw[show AM.toArray.any (rm x)=AM.any (rm x) by simp,i5 r fs]
  exact q
 ·obtain⟨AM,r,pl,hz⟩:=I.tuple hq
  refine SeqAt.in_tupleAt (rm x) pl (fun w hw=>fG rx fx r fs w (by simpa using hw)) ⟨.bl _,H,I,rfl,?_⟩
  rw[show AM.toArray.any (rm x)=AM.any (rm x) by simp,i5 r fs]
  exact q
theorem hV:fU X (compareOp .NotIn) (NZ X.K true):=by
 intro pins s σ H x y v u Q I rx ry h
 obtain⟨p,xs,rfl,hq,fx,fs,q⟩:=h
 cases ry
 rcases hq with hq | hq
 ·obtain⟨AM,r,pl,hz⟩:=I.list hq
  refine SeqAt.notIn_listAt (rm x) pl.isList (fun w hw=>fG rx fx r fs w (by simpa using hw)) ⟨.bl _,H,I,rfl,?_⟩
  rw[show AM.toArray.any (rm x)=AM.any (rm x) by simp,i5 r fs]
  exact q
 ·obtain⟨AM,r,pl,hz⟩:=I.tuple hq
  refine SeqAt.notIn_tupleAt (rm x) pl (fun w hw=>fG rx fx r fs w (by simpa using hw)) ⟨.bl _,H,I,rfl,?_⟩
  rw[show AM.toArray.any (rm x)=AM.any (rm x) by simp,i5 r fs]
  exact q
theorem aD:eF X (.builtin "len") (fun xs H Q=>∃ p ys,xs=[.ref p]/\(AQ X.K H p ys∨Ba X.K H p ys)/\Q (.int ys.length) H):=by
 intro pins s σ H xs us Q I r h
 obtain⟨p,ys,rfl,hq,q⟩:=h
 obtain⟨u,rfl,rx⟩:=nW r
 cases rx
 have hn:=iF
 rcases hq with hq | hq
 ·obtain⟨AM,r',pl,hz⟩:=I.list hq
  have hlen:=r'.length
  exact Calls.call_len_list pl.isList (by simp only[size_toArray]<;>omega) ⟨.int ys.length,H,I.tok _,⟨s.toks + 1,by rw[size_toArray,hlen]⟩,q⟩
 ·obtain⟨AM,r',pl,hz⟩:=I.tuple hq
  have hlen:=r'.length
  exact len_tuple pl (by simp only[size_toArray]<;>omega) ⟨.int ys.length,H,I.tok _,⟨s.toks + 1,by rw[size_toArray,hlen]⟩,q⟩
theorem cf:eF X (.type "tuple") (fun xs H Q=>∃ p ys,xs=[.ref p]/\((AQ X.K H p ys/\∀ l,H l=none->Q (.ref l) (aw H l (.tup ys)))∨(Ba X.K H p ys/\Q (.ref p) H))):=by
 intro pins s σ H xs us Q I r h
 obtain⟨p,ys,rfl,h⟩:=h
 obtain⟨u,rfl,rx⟩:=nW r
 cases rx
 rcases h with ⟨hq,q⟩ | ⟨hq,q⟩
 ·obtain⟨AM,r',pl,hz⟩:=I.list hq
  have hlen:=r'.length
  refine call_tuple_list pl.isList (fun h' kp=>?_) (by simp only[size_toArray]<;>omega)
  have I1:Inv X pins σ H { s with heap:=h' }:=I.kept (t':=s.toks) kp
  have I2:Inv X pins σ (aw H h'.objs.size (.tup ys)) { s with heap:=h'.push { cls := .type "tuple",data := .seq AM.toArray } } :=
   I1.laid (t':=s.toks) (fun b o e=>Heap.get?_push_of_some _ e) (Nat.le_refl _) (show Be X.prog X.w _ _ _ (.tup ys) from ⟨hz,AM,r',B7.new _ _⟩)
  exact⟨.ref h'.objs.size,_,I2,rfl,q _ (I1.AR.fresh (Nat.le_refl _))⟩
 ·obtain⟨AM,r',pl,hz⟩:=I.tuple hq
  exact call_tuple_same pl ⟨.ref p,H,I,rfl,q⟩
noncomputable def Oa (K:Frag)(T:String)(x:V)(H:Hp):Prop:=match x with
 | .str _=>T = "str"
 | .int _=>T = "int"
 | .ref p=>(T = "list"/\∃ xs,AQ K H p xs)∨(T = "tuple"/\∃ o,K.lookup p=some o/\o.cls = .type "tuple"/\o.dict=none) ∨
   (T = "dict"/\((∃ kvs,H p=some (.dK kvs))∨∃ kvs,H p=some (.dT kvs)))∨(T = "set"/\∃ S n,H p=some (.set S n))
 | _=>False
theorem ux {pins:List (Addr × Obj)}{σ:St}{H:Hp}{s:Shared}{T:String}{x:V}{v:Value}(I:Inv X pins σ H s)(r:RelV x v)(ty:Oa X.K T x H) :
  s.TypeIs v T/\∀ a,v = .ref a->∃ ob,s.heap.get? a=some ob/\ob.dict=none:=by
 cases x with
 | str z =>
  obtain⟨t,rfl⟩:=r
  cases (show T = "str" from ty)
  exact⟨typeIs_str s z t,fun _ e=>nomatch e⟩
 | int i =>
  obtain⟨t,rfl⟩:=r
  cases (show T = "int" from ty)
  exact⟨typeIs_int s i t,fun _ e=>nomatch e⟩
 | ref p =>
  cases r
  rcases ty with ⟨rfl,xs,hq⟩ | ⟨rfl,o,hk,hc,hd⟩ | ⟨rfl,hk⟩ | ⟨rfl,S,n,hk⟩
  ·obtain⟨AM,_,pl,_⟩:=I.list hq
   refine⟨pl.isList.typeIs,fun a e=>?_⟩
   cases e
   obtain⟨o,n,e,c,hd,_⟩:=pl
   exact⟨o,e,hd⟩
  ·refine⟨⟨o,I.BX p o hk,hc⟩,fun a e=>?_⟩
   cases e
   exact⟨o,I.BX _ o hk,hd⟩
  ·have z:∃ o,s.heap.get? p=some o/\o.ExactDict:=by
    rcases hk with ⟨kvs,hk⟩ | ⟨kvs,hk⟩
    ·obtain⟨_,_,_,_,o,_,_,e,ex,_⟩:=I.AR p _ hk
     exact⟨o,e,ex⟩
    ·obtain⟨_,_,_,_,o,_,_,e,ex,_⟩:=I.AR p _ hk
     exact⟨o,e,ex⟩
   obtain⟨o,e,ex⟩:=z
   refine⟨⟨o,e,ex.1⟩,fun a e2=>?_⟩
   cases e2
   exact⟨o,e,ex.2.1⟩
  ·obtain⟨o,_,_,_,e,ex,_⟩:=I.AR p _ hk
   refine⟨⟨o,e,ex.1⟩,fun a e2=>?_⟩
   cases e2
   exact⟨o,e,ex.2.1⟩
 | _=>exact False.elim ty
noncomputable def Ob (K:Frag)(T:String)(r:V->List V->Hp->VK->Prop)(to:TE):TE:=fun σ H Q=>to σ H fun x H1=>Oa K T x H1/\r x [] H1 Q
noncomputable def tBM (K:Frag)(T:String)(r:V->List V->Hp->VK->Prop)(to:TE)(t:TA):TE:=fun σ H Q=>to σ H fun x H1=>Oa K T x H1/\t σ H1 fun xs H2=>r x xs H2 Q
variable {o e:Expr}{es:List Expr}{to:TE}{t:TA}{name:Str}{apos Bg:Pos}{T id:String}{r:V->List V->Hp->VK->Prop}
theorem zy (pa:PlainAttrs T)(slot:Slot T name id)(Jf:typeOf (.builtin id)=pure (.type "method_descriptor"))(hm:HS X id r)(ho:PE X o to)
  (Dg:autoParam (attributeBase o name X.env (eval o X.env)=eval o X.env) η) (Dh:autoParam ((apos.endLine == Bg.line)=true) η):PE X (.Call (.Attribute o name apos) [] [] Bg) (Ob X.K T r to):=by
 intro pins s σ H Q I h
 refine wpAny_Call_method0_late Dg Dh (aW (ho pins s σ H _ I h) fun v s1 AL=>?_)
 obtain⟨x,H1,I1,r1,ty,q1⟩:=AL
 obtain⟨h1,h2⟩:=ux I1 r1 ty
 exact⟨T,id,pa,slot,Jf,h1,h2,Calls.callWith_builtin rfl (PySem.evalArgs_none (hm pins s1 σ H1 x [] v [] Q I1 r1 .nil q1))⟩
theorem cr (pa:PlainAttrs T)(slot:Slot T name id)(Jf:typeOf (.builtin id)=pure (.type "method_descriptor"))(hm:HS X id r)(ho:PE X o to)(ha:PA X (e :: es) t)
  (Dg:autoParam (attributeBase o name X.env (eval o X.env)=eval o X.env) η)
  (BB:((backTo Bg (starEach (e :: es) X.env)).all (fun x=>!x.1) && (backToKw Bg (keywordEach [] X.env)).all (fun x=>x.1.isSome)
   && decide ((e :: es).length + ([]:List Keyword).length + (if ([]:List Keyword).isEmpty then 0 else 1) < 30))=true:=by rfl)
  (Dh:autoParam ((apos.endLine == Bg.line)=true) η) (hs:autoParam (starEach (e :: es) X.env=(false,eval e X.env) :: starEach es X.env) η) (D9:autoParam ((backTo Bg (starEach es X.env)).any (·.1)=false) η) :
  PE X (.Call (.Attribute o name apos) (e :: es) [] Bg) (tBM X.K T r to t):=by
 intro pins s σ H Q I h
 refine wpAny_Call_method_late Dg BB Dh rfl (aW (ho pins s σ H _ I h) fun v s1 AL=>?_)
 obtain⟨x,H1,I1,r1,ty,q1⟩:=AL
 obtain⟨h1,h2⟩:=ux I1 r1 ty
 refine⟨T,id,pa,slot,Jf,h1,h2,?_⟩
 have hA:=ha Bg pins s1 σ H1 _ I1 q1
 rw[hs]at hA ⊢
 refine Calls.callWith_builtin (by show(false || (backTo Bg (starEach es X.env)).any (·.1))=false;rw[D9]<;>rfl) (Calls.evalArgs_plain ?_)
 exact aW hA fun us s2 AL=>by obtain⟨vs,H2,I2,r2,q2⟩:=AL;exact hm pins s2 σ H2 x vs v us Q I2 r1 r2 q2
end
noncomputable def RB (X:Cx)(id:String)(r:V->List V->Hp->VK->Prop):Prop :=
 ∀ (pins:List (Addr × Obj))(s:Shared)(σ:St)(H:Hp)(x:V)(xs:List V)(v:Value)(us:List Value)(Q:VK),Inv X pins σ H s->RelV x v->Vals xs us->r x xs H Q ->
  wpAny (model X.prog X.w) X.A (call (.builtin id) (v :: us)) (EP X pins σ Q) X.xe s
theorem Vals.one:∀ {x:V}{us:List Value},Vals [x] us->∃ u,us=[u]/\RelV x u:=by
 intro x us h
 cases h with
 | cons r t=>cases t;exact⟨_,rfl,r⟩
theorem Vals.two:∀ {x y:V}{us:List Value},Vals [x,y] us->∃ u v,us=[u,v]/\RelV x u/\RelV y v:=by
 intro x y us h
 cases h with
 | cons r t =>
  cases t with
  | cons q t2=>cases t2;exact⟨_,_,rfl,r,q⟩
section
variable {X:Cx}{pins:List (Addr × Obj)}{σ:St}{H:Hp}{s:Shared}{l b:Addr}{xs ys zs:List V}
theorem Inv.Jg {AM its':List Value}{n:Nat}{f:Array Value->Array Value}{t':Nat}(I:Inv X pins σ H s)(hH:H l=some (.lst xs))
  (e:s.heap.get? l=some { cls := .type "list",data := .seq AM.toArray n }) (hf:f AM.toArray=its'.toArray) (hv:Vals ys its') (hz:ys.length <= sizeLine) :
  Inv X pins σ (aw H l (.lst ys)) { s with heap:=s.heap.update l (Obj.mapSeq f),toks:=t' }:=by
 have q:=PySem.IsL.update e f
 rw[hf]at q
 refine I.write (x:=l) (e:=l) (by rw[hH];exact trivial) (.inl rfl) (fun b' u hb hu=>(Heap.get?_update_other s.heap (Obj.mapSeq f) (Ne.symm hb)).trans hu) ⟨_,q⟩ ?_
 exact⟨hz,its',_,hv,q⟩
theorem Inv.Oc {AM:List Value}{t':Nat}(I:Inv X pins σ H s)(hv:Vals ys AM)(hz:ys.length <= sizeLine) :
  Inv X pins σ (aw H s.heap.objs.size (.lst ys)) { s with heap:=s.heap.push { cls := .type "list",data := .seq AM.toArray },toks:=t' } :=
 I.laid (fun _ _ q=>Heap.get?_push_of_some _ q) (Nat.le_refl _) ⟨hz,AM,0,hv,Heap.get?_push_size _ rfl⟩
theorem Inv.fresh (I:Inv X pins σ H s):H s.heap.objs.size=none:=I.AR.fresh (Nat.le_refl _)
theorem Inv.En (I:Inv X pins σ H s)(hH:H l=some (.lst xs)):xs.length <= sizeLine/\∃ (AM:List Value)(n:Nat),Vals xs AM/\xs.length=AM.length/\s.heap.get? l=some { cls := .type "list",data := .seq AM.toArray n }:=by
 obtain⟨z,AM,n,r,e⟩:=I.AR l _ hH
 exact⟨z,AM,n,r,r.length,e⟩
theorem vQ {n:Nat}(h:n <= sizeLine):Builtin.List.listTooLong n=false:=by
 unfold Builtin.List.listTooLong
 exact decide_eq_false (by omega)
end
section
variable {X:Cx}
noncomputable def xo:V->List V->Hp->VK->Prop:=fun x vs H Q=>∃ l xs y,x = .ref l/\vs=[y]/\H l=some (.lst xs)/\xs.length < sizeLine/\Q .AZ (aw H l (.lst (xs ++ [y])))
theorem aS:RB X "list.append" xo:=by
 intro pins s σ H x vs v us Q I rx rv h
 obtain⟨l,xs,y,rfl,rfl,hH,hz,q⟩:=h
 cases rx
 obtain⟨u,rfl,ru⟩:=rv.one
 obtain⟨z,AM,n,r,hl,e⟩:=I.En hH
 refine call_meets F.slot_list_append ⟨_,e,rfl⟩ F.entry_list_append (F.args_list_append_2 _ _) (PySem.list_append l AM.toArray n u (by rw[size_toArray];omega)) ⟨e,?_⟩
 refine⟨.AZ,_,I.Jg (its':=AM ++ [u]) hH e (by simp) (r.append (.cons ru .nil)) ?_,rfl,q⟩
 rw[length_append,length_singleton]
 omega
noncomputable def xn:V->List V->Hp->VK->Prop:=fun x vs H Q=>∃ l b xs zs,x = .ref l/\vs=[.ref b]/\H l=some (.lst xs)/\H b=some (.lst zs)/\xs.length + zs.length <= sizeLine/\Q .AZ (aw H l (.lst (xs ++ zs)))
theorem lF:RB X "list.extend" xn:=by
 intro pins s σ H x vs v us Q I rx rv h
 obtain⟨l,b,xs,zs,rfl,rfl,hH,hB,hz,q⟩:=h
 cases rx
 obtain⟨u,rfl,ru⟩:=rv.one
 cases ru
 obtain⟨z,AM,n,r,hl,e⟩:=I.En hH
 obtain⟨z2,Ct,n2,r2,Fe,e2⟩:=I.En hB
 have hsz:AM.toArray.size + Ct.toArray.size <= sizeLine:=by rw[size_toArray,size_toArray];omega
 have Jh:¬ (!AM.toArray.isEmpty && Builtin.List.listTooLong (AM.toArray.size + Ct.toArray.size))=true:=by
  rw[vQ hsz,Bool.and_false]
  exact Bool.false_ne_true
 refine call_meets F.slot_list_extend ⟨_,e,rfl⟩ F.entry_list_extend (F.args_list_extend_2 _ _)
  (AutoSeq1.list_extend_list_list_0 l AM.toArray n b Ct.toArray n2 Jh (by rw[size_toArray];omega) (by omega)) ⟨e,e2,?_⟩
 refine⟨.AZ,_,I.Jg (its':=AM ++ Ct) hH e (by simp) (r.append r2) ?_,rfl,q⟩
 rw[length_append]
 omega
noncomputable def Od:R2:=fun x y H Q=>∃ l b xs zs,x = .ref l/\y = .ref b/\H l=some (.lst xs)/\H b=some (.lst zs)/\xs.length + zs.length <= sizeLine/\∀ p,H p=none->Q (.ref p) (aw H p (.lst (xs ++ zs)))
theorem vx:fU X (binaryOp .Add) Od:=by
 intro pins s σ H x y v u Q I rx ry h
 obtain⟨l,b,xs,zs,rfl,rfl,hH,hB,hz,q⟩:=h
 cases rx
 cases ry
 obtain⟨z,AM,n,r,hl,e⟩:=I.En hH
 obtain⟨z2,Ct,n2,r2,Fe,e2⟩:=I.En hB
 refine PySem.P.add_list e e2 ?_ (by rw[size_toArray,size_toArray];omega)
 have ea:AM.toArray ++ Ct.toArray=(AM ++ Ct).toArray:=by simp
 rw[ea]
 exact⟨.ref _,_,I.Oc (t':=s.toks) (r.append r2) (by rw[length_append];omega),rfl,q _ I.fresh⟩
end
section
variable {prog:Program}{w:World}{A:Around}{E:Value->Shared->Prop}{s:Shared}
set_option maxRecDepth 100000 in
end
section
variable {X:Cx}
end
end L2
namespace RC
open PySem PySem.W PySem.Calls PyProof.Rows
theorem ji {P:Params}{h:Heap}:∀ (ns:List Int)(vs:List Value),WellAll P h vs (ns.map WData.int)->IntsAre vs ns:=by
 intro ns
 induction ns with
 | nil =>
  intro vs w
  rw[map_nil]at w
  cases w
  exact .nil
 | cons n ns ih =>
  intro vs w
  rw[map_cons]at w
  cases w with
  | cons a b =>
   cases a
   exact .cons _ _ (ih _ b)
theorem sX {l:OpenLaw}{n:Nat}(hn:l.most=some n){P:Params}{h:Heap}{args:List WData}{vals:List Value}
  (Fx:l.row.toRowW.claim.pre args=true) (BY:WellAll P h vals args) :
  ∃ a vs ns,vals=[Value.ref a]/\args=[WData.list (ns.map WData.int)]/\h.get? a=some { cls := .type "list",data := .seq vs.toArray }/\IntsAre vs ns/\ns.length <= n:=by
 have hsh:WShape.hasAll [] args [.list .int]=true:=(pre_splitW Fx).1
 have hc:l.pre.holds [] { args:=args } = true:=(pre_splitW Fx).2
 obtain⟨d,r,rfl,h1,h2⟩:=hasAllW_cons hsh
 obtain rfl:=hasAllW_nil h2
 obtain⟨xs,rfl,h3⟩:=hasW_list h1
 obtain⟨ns,rfl⟩:=items_int h3
 have hlen:ns.length <= n:=by
  unfold OpenLaw.pre at hc
  have h4:(WTm.not (.lt (.lit (.int (n:Int))) (.len (.arg 0)))).holds [] { args:=[.list (ns.map .int)] } = true:=by
   have h4:=(holds_andW hc).1
   rw[hn]at h4
   exact h4
  have h5:=condW_of h4 (w_not (w_lt w_lit (w_len_list (w_arg rfl))))
  rw[length_map]at h5
  refine Nat.le_of_not_lt fun q=>?_
  have q':(n:Int) < ((ns.length:Nat):Int):=by omega
  first
   | (rw[decide_eq_true q']at h5;exact absurd h5 (by decide))
   | (simp at h5;omega)
 cases BY with
 | cons w1 w2 =>
  cases w2
  cases w1 with
  | list ho BC=>exact⟨_,_,ns,rfl,rfl,ho,ji ns _ BC,hlen⟩
theorem tq (l:OpenLaw)(args:List WData):l.row.toRowW.claim.post args (.bool true) args=true :=
 postW_of (r:=l.row.toRowW) (X:=(true == true))
  (show WShape.has [] (.bool true) .bool=true by first | rfl | decide | simp[WShape.has,WShape.arms,WShape.armsAll])
  (show(WTm.eq .res (.lit (.bool true))).value [] { args:=args,res:=some (.bool true),after:=args } = some (.bool (true == true)) from w_eq_bool (w_res rfl) w_lit) rfl
theorem Di {l:OpenLaw}{n:Nat}{q:Program}{loose:List Str}{XP:(Str->Option Value)->Heap->Prop}{YP:World->Heap->Prop}{d:DefRec}
  (hn:l.most=some n) (Ji:d.params.defaults=[])
  (call:∀ (w:World)(s₀ s₁:Shared)(mg mb:Str->Option Value)(fa:Addr)(o:Obj)(pm cd doc:Value)(a:Addr)(vs:List Value)(ns:List Int),
   Ground q loose [] XP w s₀ mg mb s₁.heap->YP w s₁.heap ->
   s₁.heap.get? fa=some o->o.data = .func (docDef d.name d.params d.body d.scope pm cd doc)->s₁.heap.CodeRec cd d.name->mg d.name=some (.ref fa) ->
   s₁.heap.get? a=some { cls := .type "list",data := .seq vs.toArray }->IntsAre vs ns->ns.length <= n->s₁.gens = #[] ->
   codeAny (model l.prog w) callerA (.call (.ref fa) ⟨[.ref a],[]⟩) (fun r s'=>r = .ok (.ret (.bool true))/\OldK s₁.heap s'.heap/\s'.os=s₁.os/\AllBare s'.gens) s₁) :
  WalkO q loose XP YP l.row.toRowW d [] (fun f vs=>PySem.call f vs):=by
 intro w s₀ s₁ mg mb G Y fa o pm cd doc dV kV ho hd EH hD hmg hg args vals as Fx hlay hrd BY LZ
 obtain rfl:dV = .none:=Dflts.none hD Ji
 obtain rfl:kV = .none:=Dflts.noKw hD
 obtain⟨a,vs,ns,rfl,rfl,GW,hints,hlen⟩:=sX hn Fx BY
 refine enter_call (codeAny_mono (call w s₀ s₁ mg mb fa o pm cd doc a vs ns G Y ho (fd_plain hd) EH hmg GW hints hlen hg) fun r s' hq=>?_)
 obtain⟨rfl,h2,h3,h4⟩:=hq
 exact⟨.inl ⟨.bool true, .bool true,[],rfl,fun _=>rfl, .bool true,tq l _,fun _=>⟨List.Pairwise.nil,fun _ hm=>(nomatch hm)⟩⟩,h2,h3,h4⟩
section
variable {prog:Program}{w:World}{A:Around}{E:Value->Shared->Prop}{s:Shared}{K:Frag}
end
end RC
namespace L2
open PySem PySem.Spec PyProof.Rows
theorem lq:∀ {vs:List Value}{ns:List Int},IntsAre vs ns->Vals (ns.map V.int) vs
 | _,_, .nil => .nil
 | _,_, .cons n t h => .cons ⟨t,rfl⟩ (lq h)
noncomputable def AC (H:Hp):Prop:=∀ b,H b=none∨∃ o xs,H b=some (.B2 o (.lst xs))
theorem wc {P:Program}{w:World}{K:Frag}{mg mb:Str->Option Value}{CX:r9}{k:Nat}{fa a:Addr}{fd:FuncData}{x:Str}{sp:Sp}{s₁:Shared}{vs:List Value}{ns:List Int}
  (KX:K.In s₁.heap) (HU:s₁.heap.Ns mainGlobals mg) (hb:s₁.heap.Ns builtinsNs mb) (hbb:∀ x:Str,x ≠ "__name__"->mb x=bootBuiltins x) (Oe:s₁.heap.NoLimit) (hg:s₁.gens = #[])
  (ha:s₁.heap.get? a=some { cls := .type "list",data := .seq vs.toArray }) (hi:IntsAre vs ns) (hl:ns.length <= sizeLine) (hr:AU k callerA)
  (F:∀ base:Heap,K.In base->base.Ns mainGlobals mg->AJ P w K mg base CX k fa fd [x] sp) (Jj:∀ (s:Shared)(u:Value),BindsTo s fd ⟨[u],[]⟩ [(x,u)])
  (Gu:∀ H:Hp,AC H->AQ K H a (ns.map V.int)->sp [.ref a] H (fun v _=>v = .bl true) fun _ _ _=>False)
  (Of:∀ H e s',CX [] H s₁ (fun _ _ _=>False) e s'->False) :
  codeAny (model P w) callerA (.call (.ref fa) ⟨[.ref a],[]⟩) (fun r s'=>r = .ok (.ret (.bool true))/\OldK s₁.heap s'.heap/\s'.os=s₁.os/\AllBare s'.gens) s₁:=by
 have rv:=lq hi
 have Og:=hi.length
 have core:∀ H:Hp,AC H->AQ K H a (ns.map V.int)->B8 P w H s₁.heap->(∀ b,H b ≠ none->b=a)->(H a ≠ none->K.lookup a=none) ->
   codeAny (model P w) callerA (.call (.ref fa) ⟨[.ref a],[]⟩) (fun r s'=>r = .ok (.ret (.bool true))/\OldK s₁.heap s'.heap/\s'.os=s₁.os/\AllBare s'.gens) s₁:=by
  intro H hO hS AR hA hK
  have base_of:∀ {b:Addr}{o:Obj},s₁.heap.get? b=some o->H b=none->(nv s₁.heap H).get? b=some o:=fun e n=>wo e n
  have IZ:∀ {b:Addr}{o:Obj}{es:Array DictEntry}{ep:Nat},s₁.heap.get? b=some o->o.data = .dict es ep->H b=none:=fun {b o es ep} e d=>by
   cases q:H b with
   | none=>rfl
   | some u =>
    have e':b=a:=hA b (by rw[q];simp)
    subst e'
    rw[ha]at e;cases e
    have d':Data.seq vs.toArray _=Data.dict es ep:=d
    cases d'
  have Ma:∀ {b:Addr}{m:Str->Option Value},s₁.heap.Ns b m->(nv s₁.heap H).Ns b m:=fun {b m} ⟨o,es,ep,e,d,r⟩=>⟨o,es,ep,base_of e (IZ e d),d,r⟩
  have RD:K.In (nv s₁.heap H):=fun b o e=>base_of (KX b o e) (by
   cases q:H b with
   | none=>rfl
   | some u =>
    have e':b=a:=hA b (by rw[q];simp)
    subst e'
    rw[hK (by rw[q];simp)]at e;cases e)
  have hM:Mod K mg (nv s₁.heap H):=⟨RD,Ma HU,⟨mb,Ma hb,hbb⟩,let ⟨mc,h1,h2⟩:=Oe; ⟨mc,Ma h1,h2⟩⟩
  have e0:D6 P w K mg (nv s₁.heap H) callerA [] s₁ H:=⟨rfl,hM,fun b o e=>xR e,le_of_eq (tS _ _),trivial,fun b hb=>absurd (show b ∈ ([]:List Addr) from hb) (by simp),AR, .of_eq hg⟩
  refine codeAny_mono ((F _ RD (Ma HU)).run callerA [] s₁ H ⟨[.ref a],[]⟩ [.ref a] [.ref a] _ _ hr e0 (Jj s₁ (.ref a)) (.cons rfl .nil) (Gu H hO hS)) fun r s' h=>?_
  cases r with
  | error e=>exact(Of H e s' h).elim
  | ok fl =>
   cases fl with
   | next=>exact False.elim h
   | brk=>exact False.elim h
   | cont=>exact False.elim h
   | ret u =>
    obtain⟨v,H',os,bare,un,Oh,r',q⟩:=h
    have q':v = .bl true:=q
    subst q'
    obtain rfl:u=Value.bool true:=r'
    refine⟨rfl,OldK.of_keep fun b o e=>?_,os,bare⟩
    cases q:H b with
    | none=>exact un.keep b o e q (by intro z;exact absurd (show b ∈ ([]:List Addr) from z) (by simp)) (by simp)
    | some u =>
     rcases hO b with z | ⟨ob,xs,z⟩
     ·rw[q]at z;cases z
     ·have z2:=un.Cr b ob _ z
      obtain⟨e1,_⟩:=AR b _ z
      obtain⟨e2,_⟩:=Oh b _ z2
      rw[e]at e1;cases e1
      exact e2
 cases hk:K.lookup a with
 | some o =>
  have e:=KX a o hk
  rw[ha]at e
  cases e
  refine core (fun _=>none) (fun _ => .inl rfl) (.inr ⟨_,vs.toArray,_,hk,rfl,rfl,rfl,by rw[size_toArray,Og];exact hl,by simpa using rv⟩) (fun b u z=>by have z':(none:Option HO)=some u:=z;cases z') (fun b z=>absurd rfl z) fun z=>absurd rfl z
 | none =>
  refine core (fun b=>if b=a then some (.B2 { cls := .type "list",data := .seq vs.toArray } (.lst (ns.map V.int))) else none) (fun b=>?_) (.inl (.inr ⟨{ cls := .type "list",data := .seq vs.toArray },if_pos rfl⟩)) (fun b u z=>?_) (fun b z=>?_) fun _=>hk
  ·by_cases hb:b=a
   ·exact .inr ⟨_,_,if_pos hb⟩
   ·exact .inl (if_neg hb)
  ·by_cases hb:b=a
   ·have z':=(if_pos hb).symm.trans z
    cases z'
    subst hb
    exact⟨ha,by rw[length_map];exact hl,vs,_,rv,ha⟩
   ·have z':=(if_neg hb).symm.trans z
    cases z'
  ·by_cases hb:b=a
   ·exact hb
   ·exact absurd (if_neg hb) z
theorem Cp {l:PySem.W.OpenLaw}{n k:Nat}{q:Program}{loose:List Str}{XP:(Str->Option Value)->Heap->Prop}{YP:World->Heap->Prop}{d:DefRec}{K:Params->Frag}{CX:World->r9}{sp:World->Sp}{x:Str}
  (hn:l.most=some n) (HR:n <= sizeLine) (Ji:d.params.defaults=[]) (hr:AU k callerA)
  (hY:∀ (w:World)(h:Heap),YP w h->(K w.params).In h)
  (F:∀ (w:World)(mg:Str->Option Value)(fa:Addr)(h:Heap),(K w.params).In h->h.Ns mainGlobals mg->mg d.name=some (.ref fa) ->
   ∃ fd:FuncData,(∀ (s:Shared)(u:Value),BindsTo s fd ⟨[u],[]⟩ [(x,u)]) /\
    ∀ base:Heap,(K w.params).In base->base.Ns mainGlobals mg->AJ l.prog w (K w.params) mg base (CX w) k fa fd [x] (sp w))
  (Gu:∀ (w:World)(H:Hp)(a:Addr)(ns:List Int),ns.length <= n->AC H->AQ (K w.params) H a (ns.map V.int)->sp w [.ref a] H (fun v _=>v = .bl true) fun _ _ _=>False)
  (Of:∀ (w:World)(H:Hp)(s:Shared)(e:Value)(s':Shared),CX w [] H s (fun _ _ _=>False) e s'->False) :
  PySem.W.WalkO q loose XP YP l.row.toRowW d [] (fun f vs=>PySem.call f vs):=by
 refine RC.Di hn Ji fun w s₀ s₁ mg mb fa o pm cd doc a vs ns G Y ho hd EH hmg GW hints hlen hg=>?_
 have KX:=hY w _ Y
 obtain⟨fd,hb,hF⟩:=F w mg fa _ KX G.T.g hmg
 exact wc KX G.T.g G.T.b G.T.builtins G.T.nolimit hg GW hints (le_trans hlen HR) hr hF hb (fun H hO hS=>Gu w H a ns hlen hO hS) fun H e s'=>Of w H s₁ e s'
noncomputable def bD (s:Stmt)(j:Nat):Stmt:=match s with
 | .ClassDef _ _ _ body _ _ _ _ _ _ _=>body.getD j (.Pass ⟨0,0,0,0⟩)
 | _ => .Pass ⟨0,0,0,0⟩
noncomputable def cF (s:Stmt):Arguments:=match s with
 | .FunctionDef _ a _ _ _ _ _ _ _ _=>a
 | _=>{ posonlyargs:=[],args:=[],vararg:=none,kwonlyargs:=[],kw_defaults:=[],kwarg:=none,defaults:=[] }
noncomputable def aP (s:Stmt):List Stmt:=match s with
 | .FunctionDef _ _ b _ _ _ _ _ _ _=>b
 | _=>[]
noncomputable def aj (s:Stmt):Scope:=match s with
 | .FunctionDef _ _ _ _ _ _ sc _ _ _=>sc
 | _=>zQ0
abbrev aC:r9:=fun _ _ _ _ _ _=>False
abbrev E0:XK:=fun _ _ _=>False
theorem ax {X:Cx}:fL aC X E0:=fun _ _ _ _ _ _ _ h=>h.elim
structure Bj (K:Frag)(x qual:Str)(st:Stmt)(f:Addr)(fd:FuncData):Prop where
 ex:∃ (oc:Value)(od:Option Addr)(kV doc pm:Value)(an:Option Addr)(Bb ct:Value)(EK:Array (Option Value)),
  fd=fnOf x qual (cF st) (aP st) (aj st) .none kV doc pm an Bb ct/\K.lookup f=some ⟨oc,od, .func fd,EK⟩/\codeIn K Bb qual=true
 kp:keepIn K (.ref f)=true
section
variable {P:Program}{w:World}{K:Frag}{mg:Str->Option Value}{base:Heap}
theorem Bj.ok {x qual:Str}{st:Stmt}{f:Addr}{fd:FuncData}{N ps:List Str}{k:Nat}{sp:Sp}(F:Bj K x qual st f fd)(S:ar N ps (aj st))(len:∀ vs H Q E,sp vs H Q E->vs.length=ps.length)
  (EL:∀ (Bb:Value)(A:Around)(outer:List Env)(s:Shared)(H:Hp)(vs:List V)(Q:VK)(E:XK),AU k (A.deeper (envOfC qual (aj st) s.heap.objs.size f Bb))->sp vs H Q E ->
   ∃ t,Em (ub aC P w K mg base N qual (aj st) f Bb A outer s H E).LS (aP st) t/\t { nx:=fun _ H'=>Q .AZ H',rt:=Q } (iU N vs) H):AJ P w K mg base aC (k + 1) f fd ps sp:=by
 obtain⟨oc,od,kV,doc,pm,an,Bb,ct,EK,rfl,lk,EH⟩:=F.ex
 refine Ja lk EH S len fun A outer s H vs Q E hr Gu=>?_
 obtain⟨t,h,q⟩:=EL Bb A outer s H vs Q E hr Gu
 exact⟨t,h.LS,q⟩
theorem Bj.binds {x qual:Str}{st:Stmt}{f:Addr}{fd:FuncData}{ps:List Str}(F:Bj K x qual st f fd)
  (h:∀ (kV doc pm:Value)(an:Option Addr)(Bb ct:Value)(us:List Value),us.length=ps.length->bindArgs (fnOf x qual (cF st) (aP st) (aj st) .none kV doc pm an Bb ct) ⟨us,[]⟩ = pure (ps.zip us)):Binds K fd ps []:=by
 obtain⟨oc,od,kV,doc,pm,an,Bb,ct,EK,rfl,lk,EH⟩:=F.ex
 exact .all (h kV doc pm an Bb ct)
theorem kD {x qual:Str}{st:Stmt}{f:Addr}{oc:Value}{od an:Option Addr}{EK:Array (Option Value)}{kV doc pm Bb ct:Value}(l:K.lookup f=some ⟨oc,od, .func (fnOf x qual (cF st) (aP st) (aj st) .none kV doc pm an Bb ct),EK⟩)
  (c:codeIn K Bb qual=true) (k:keepIn K (.ref f)=true):Bj K x qual st f (fnOf x qual (cF st) (aP st) (aj st) .none kV doc pm an Bb ct):=⟨⟨oc,od,kV,doc,pm,an,Bb,ct,EK,rfl,l,c⟩,k⟩
end
theorem ph {A:Around}{k:Nat}(hr:AU k A):A.units + 1 < cLine:=lt_of_le_of_lt (add_le_add_left (by decide:1 <= 64) _) hr.units
section
variable {X:Cx}
theorem pv (i:Nat){x:Str}{pos:Pos}(hN:autoParam (X.N[i]? = some x) η)(hv:LO X.env.scope x:=by first | exact Or.inl rfl | exact Or.inr (Or.inl rfl) | exact Or.inr (Or.inr rfl))(hd:autoParam ((x == ("__debug__":Str))=false) θ)
  (EH:autoParam ((x == ("__classdict__":Str))=false) θ):PE X (.Name x pos) (yG i):=zw hN hv hd EH
end
theorem aH {A B:Prop}(h:B):if false=true then A else B:=by
 rw[if_neg Bool.false_ne_true]
 exact h
theorem aI {A B:Prop}(h:A):if true=true then A else B:=by
 rw[if_pos rfl]
 exact h
theorem k9 {c A B:Prop} [Decidable c] (h1:c->A) (h2:¬ c->B):if c then A else B:=by
 by_cases h:c
 ·rw[if_pos h]
  exact h1 h
 ·rw[if_neg h]
  exact h2 h
theorem pf {c A B:Prop} [Decidable c] (hc:c) (h:B):if (!decide c)=true then A else B:=by
 rw[decide_eq_true hc]
 exact aH h
noncomputable def AI (H H':Hp):Prop:=∀ b o,H b=some o->H' b=some o
theorem AI.refl (H:Hp):AI H H:=fun _ _ h=>h
theorem AI.trans {H H1 H2:Hp}(a:AI H H1)(b:AI H1 H2):AI H H2:=fun c o h=>b c o (a c o h)
theorem AI.free {H H':Hp}(e:AI H H'){l:Addr}(h:H' l=Option.none):H l=Option.none:=by
 cases q:H l with
 | none=>rfl
 | some o =>
  rw[e l o q]at h
  cases h
theorem AI.seq {K:Frag}{H H':Hp}{a:Addr}{xs:List V}(e:AI H H')(h:AQ K H a xs):AQ K H' a xs:=by
 rcases h with (h | ⟨o,h⟩) | h
 ·exact .inl (.inl (e _ _ h))
 ·exact .inl (.inr ⟨o,e _ _ h⟩)
 ·exact .inr h
end L2
namespace Yd
open PySem
theorem Cu (a b:Nat):Builtin.bitAnd (a:Int) (b:Int)=((a &&& b:Nat):Int):=by
 unfold Builtin.bitAnd
 simp
theorem cX (x:Int):Builtin.bitNot x = -x - 1:=by
 unfold Builtin.bitNot
 omega
theorem CG (a b:Nat):Builtin.bitOr (a:Int) (b:Int)=((a ||| b:Nat):Int):=by
 unfold Builtin.bitOr
 have h1:Builtin.bitNot (a:Int) = -(a:Int) - 1:=cX _
 have h2:Builtin.bitNot (b:Int) = -(b:Int) - 1:=cX _
 unfold Builtin.bitAnd
 rw[h1,h2]
 have e1:decide (0 <= -(a:Int) - 1)=false:=decide_eq_false (by omega)
 have e2:decide (0 <= -(b:Int) - 1)=false:=decide_eq_false (by omega)
 rw[e1,e2]
 simp only[]
 have e3:Builtin.bitNot (-(a:Int) - 1)=a:=by rw[cX];omega
 have e4:Builtin.bitNot (-(b:Int) - 1)=b:=by rw[cX];omega
 rw[e3,e4]
 simp only[toNat_natCast]
 rw[cX,cX]
 omega
noncomputable def Bk:List Nat->Nat->Nat
 | [],s=>s
 | n :: r,s=>Bk r (s ||| 2 ^ n)
theorem Bz (k:Nat):∀ (l:List Nat)(s:Nat),(Bk l s).testBit k=(s.testBit k || decide (k ∈ l))
 | [],s=>by simp[Bk]
 | n :: r,s=>by
  unfold Bk
  rw[Bz k r]
  rw[testBit_or,testBit_two_pow]
  by_cases h:n=k
  ·subst h;simp
  ·have:¬ k=n:=fun z=>h z.symm
   simp[h,this]
theorem EM (l r:List Nat)(s:Nat):Bk (l ++ r) s=Bk r (Bk l s):=by
 induction l generalizing s with
 | nil=>rfl
 | cons n t ih=>exact ih _
noncomputable def lf (l:List Nat):Nat->Nat
 | 0=>0
 | n + 1=>if n ∈ l then lf l n + 2 ^ n else lf l n
theorem CO (l:List Nat):∀ n,lf l n < 2 ^ n
 | 0=>by simp[lf]
 | n + 1=>by
  have:=CO l n
  unfold lf
  rw[Nat.pow_succ]
  split<;>omega
theorem p7 (l:List Nat)(k:Nat):∀ n,(lf l n).testBit k=decide (k < n/\k ∈ l)
 | 0=>by simp[lf]
 | n + 1=>by
  have ih:=p7 l k n
  have AV:=CO l n
  unfold lf
  by_cases hn:n ∈ l
  ·rw[if_pos hn,Nat.add_comm]
   rcases Nat.lt_trichotomy k n with h | h | h
   ·rw[Nat.testBit_two_pow_add_gt h,ih]
    simp[h,lt_succ_of_lt h]
   ·subst h
    rw[Nat.testBit_two_pow_add_eq,testBit_lt_two_pow AV]
    simp[hn]
   ·have hb:2 ^ n + lf l n < 2 ^ k:=by
     have:2 ^ (n + 1) <= 2 ^ k:=pow_le_pow_right (by decide) h
     rw[Nat.pow_succ]at this
     omega
    rw[testBit_lt_two_pow hb]
    have:¬ k < n + 1:=by omega
    simp[this]
  ·rw[if_neg hn,ih]
   by_cases h:k=n
   ·subst h;simp[hn]
   ·have:k < n↔k < n + 1:=by omega
    simp[this]
theorem Fy {l:List Nat}{n:Nat}(h:∀ k ∈ l,k < n):lf l n=Bk l 0:=by
 apply eq_of_testBit_eq
 intro k
 rw[p7,Bz]
 by_cases hk:k ∈ l
 ·simp[hk,h k hk]
 ·simp[hk]
noncomputable def Cd (m b:Nat):List Nat:=(List.range b).filter fun k=>m.testBit k
theorem Bq {m b k:Nat}(h:m < 2 ^ b):k ∈ Cd m b↔m.testBit k=true:=by
 unfold Cd
 rw[mem_filter,mem_range]
 constructor
 ·exact fun z=>z.2
 ·intro z
  refine⟨?_,z⟩
  by_cases hk:k < b
  ·exact hk
  ·have:m < 2 ^ k:=lt_of_lt_of_le h (pow_le_pow_right (by decide) (by omega))
   rw[testBit_lt_two_pow this]at z
   cases z
theorem Eo (m b:Nat):(Cd m b).Pairwise (· < ·):=List.Pairwise.filter _ pairwise_lt_range
theorem Fz {m b:Nat}(h:m < 2 ^ b):Bk (Cd m b) 0=m:=by
 apply eq_of_testBit_eq
 intro k
 rw[Bz,zero_testBit,Bool.false_or]
 by_cases hk:m.testBit k=true
 ·rw[hk];exact decide_eq_true ((Bq h).mpr hk)
 ·have:m.testBit k=false:=by simpa using hk
  rw[this]
  exact decide_eq_false fun z=>hk ((Bq h).mp z)
theorem Dj:∀ {l r:List Int},l.Pairwise (· < ·)->r.Pairwise (· < ·)->(∀ k,k ∈ l↔k ∈ r)->l=r
 | [],[],_,_,_=>rfl
 | [],y :: r,_,_,h=>by
  have:=(h y).mpr mem_cons_self
  cases this
 | x :: l,[],_,_,h=>by
  have:=(h x).mp mem_cons_self
  cases this
 | x :: l,y :: r,hl,hr,h=>by
  obtain⟨hx,E6⟩:=pairwise_cons.mp hl
  obtain⟨hy,HV⟩:=pairwise_cons.mp hr
  have e:x=y:=by
   rcases mem_cons.mp ((h x).mp mem_cons_self) with z | z
   ·exact z
   ·rcases mem_cons.mp ((h y).mpr mem_cons_self) with z' | z'
    ·exact z'.symm
    ·have:=hx y z'
     have:=hy x z
     omega
  subst e
  congr 1
  refine Dj E6 HV fun k=>?_
  constructor
  ·intro z
   rcases mem_cons.mp ((h k).mp (mem_cons_of_mem _ z)) with q | q
   ·have:=hx k z;omega
   ·exact q
  ·intro z
   rcases mem_cons.mp ((h k).mpr (mem_cons_of_mem _ z)) with q | q
   ·have:=hy k z;omega
   ·exact q
theorem BH (m:Nat):m < 2 ^ (Builtin.Int.intBits (m:Int)):=by
 unfold Builtin.Int.intBits
 by_cases h:m=0
 ·subst h;simp
 ·have e:((m:Int) == 0)=false:=by simp[h]
  rw[e]
  simp only[Bool.false_eq_true,if_false,Int.natAbs_natCast]
  exact Nat.lt_log2_self
theorem bits_le {m b:Nat}(h:m < 2 ^ b):Builtin.Int.intBits (m:Int) <= b:=by
 unfold Builtin.Int.intBits
 by_cases h0:m=0
 ·subst h0;simp
 ·have e:((m:Int) == 0)=false:=by simp[h0]
  rw[e]
  simp only[Bool.false_eq_true,if_false,Int.natAbs_natCast]
  have:=(Nat.log2_lt h0).mpr h
  omega
theorem F0 (m k:Nat):decide (Builtin.bitAnd ((m:Int) / 2 ^ k) 1=1)=m.testBit k:=by
 have e:((m:Int) / 2 ^ k)=((m / 2 ^ k:Nat):Int):=by
  rw[Int.natCast_ediv,natCast_pow]
  rfl
 rw[e,show (1:Int)=((1:Nat):Int) from rfl,Cu,Nat.testBit_eq_decide_div_mod_eq]
 rw[Nat.and_one_is_mod]
 congr 1
 exact propext ⟨fun z=>by exact_mod_cast z,fun z=>by exact_mod_cast z⟩
end Yd
namespace L2
open PySem PySem.Spec PyProof.Rows
noncomputable def ce (cells:List (Str × Addr)):List (Str × NameKind)->List (Str × Addr)->List (Str × Addr)
 | [],acc=>acc
 | (n,k) :: r,acc=>if k == .free then ce cells r ((n,(cells.lookup n).getD 0) :: acc) else ce cells r acc
theorem gi {scope:Scope}{env:Env}(h:∀ y ∈ scope.names,y.2 = .free->∃ c,env.cells.lookup y.1=some c) :
  closureFor scope env=pure (ce env.cells scope.names []):=by
 unfold closureFor
 have key:∀ (names:List (Str × NameKind))(acc:List (Str × Addr)),(∀ y ∈ names,y.2 = .free->∃ c,env.cells.lookup y.1=some c) ->
   (forIn names acc fun (x:Str × NameKind)(cs:List (Str × Addr))=>(match x with
    | (name,kind)=>if (kind == NameKind.free)=true then do
      let c ← cellOf env name
      pure (ForInStep.yield ((name,c) :: cs))
     else pure (ForInStep.yield cs):Sem (ForInStep (List (Str × Addr)))))=(pure (ce env.cells names acc):Sem (List (Str × Addr))):=by
  intro names
  induction names with
  | nil=>intro acc _;rfl
  | cons y r ih =>
   intro acc hy
   obtain⟨n,k⟩:=y
   rw[List.forIn_cons]
   by_cases hk:(k == NameKind.free)=true
   ·obtain⟨c,hc⟩:=hy (n,k) mem_cons_self (by simpa using hk)
    have e1:cellOf env n=pure c:=by
     unfold cellOf
     simp only[]at hc
     rw[hc]
    simp only[hk,if_true,e1,pure_bind]
    rw[ih _ fun z hz=>hy z (mem_cons_of_mem _ hz)]
    unfold ce
    simp only[]at hc
    rw[if_pos hk,hc]
    conv=>rhs;unfold ce
    rfl
   ·simp only[hk,Bool.false_eq_true,if_false,pure_bind]
    rw[ih _ fun z hz=>hy z (mem_cons_of_mem _ hz)]
    conv=>rhs;unfold ce
    rw[if_neg hk]
 exact(congrArg (fun (m:Sem (List (Str × Addr)))=>m >>= fun z=>pure z) (key scope.names [] h)).trans (pure_bind _ _)
theorem dX {cells:List (Str × Addr)}{x:Str}{c:Addr}:∀ (names:List (Str × NameKind))(acc:List (Str × Addr)),(∀ y ∈ names,y.2 = .free->∃ c,cells.lookup y.1=some c) ->
  (∀ c,acc.lookup x=some c->cells.lookup x=some c)->(ce cells names acc).lookup x=some c->cells.lookup x=some c
 | [],acc,_,ha,e=>ha c e
 | (n,k) :: r,acc,hn,ha,e=>by
  unfold ce at e
  have hr:=fun z hz=>hn z (mem_cons_of_mem _ hz)
  split at e
  ·rename_i hk
   refine dX r _ hr (fun c' e'=>?_) e
   rw[lookup_cons]at e'
   split at e'
   ·rename_i hx
    have B3:x=n:=by simpa using hx
    subst B3
    obtain⟨c0,RE⟩:=hn (x,k) mem_cons_self (by simpa using hk)
    simp only[]at RE
    rw[RE]at e' ⊢
    exact e'
   ·exact ha c' e'
  ·exact dX r acc hr ha e
theorem eT {cells:List (Str × Addr)}{x:Str}:∀ (names:List (Str × NameKind))(acc:List (Str × Addr)),((x,NameKind.free) ∈ names∨∃ c,acc.lookup x=some c) ->
  ∃ c,(ce cells names acc).lookup x=some c
 | [],acc,h=>by
  rcases h with h | h
  ·cases h
  ·exact h
 | (n,k) :: r,acc,h=>by
  unfold ce
  split
  ·rename_i hk
   refine eT r _ ?_
   rcases h with h | ⟨c,h⟩
   ·rcases mem_cons.mp h with h | h
    ·refine .inr ⟨(cells.lookup n).getD 0,?_⟩
     injection h with h1 h2
     rw[lookup_cons,h1]
     simp
    ·exact .inl h
   ·refine .inr ?_
    rw[lookup_cons]
    split
    ·exact⟨_,rfl⟩
    ·exact⟨c,h⟩
  ·rename_i hk
   refine eT r _ ?_
   rcases h with h | h
   ·rcases mem_cons.mp h with h | h
    ·injection h with h1 h2
     subst h2
     exact absurd rfl hk
    ·exact .inl h
   ·exact .inr h
theorem gL {env:Env}{x:Str}:∀ {names:List (Str × NameKind)},names.lookup x=some .free ->
  (names.map fun (n,k)=>if (k == NameKind.free && env.scope.kind == .function && env.kindOf n == some .cell) then (n,NameKind.cell) else (n,k)).lookup x=some .cell ∨
  (names.map fun (n,k)=>if (k == NameKind.free && env.scope.kind == .function && env.kindOf n == some .cell) then (n,NameKind.cell) else (n,k)).lookup x=some .free
 | [],h=>by simp at h
 | (n,k) :: r,h=>by
  have ih:=@gL env x r
  rw[map_cons]
  cases hx:x == n with
  | true =>
   rw[lookup_cons,hx]at h
   cases h
   simp only[]
   split
   ·left;rw[lookup_cons,hx]
   ·right;rw[lookup_cons,hx]
  | false =>
   rw[lookup_cons,hx]at h
   simp only[]
   split
   ·rw[lookup_cons,hx];exact ih h
   ·rw[lookup_cons,hx];exact ih h
theorem fu {env:Env}{x:Str}{k:NameKind}(hk:k = .cell∨k = .free):∀ {names:List (Str × NameKind)},(∀ y ∈ names,y.2 ≠ .cell) ->
  (names.map fun (n,k)=>if (k == NameKind.free && env.scope.kind == .function && env.kindOf n == some .cell) then (n,NameKind.cell) else (n,k)).lookup x=some k->(x,NameKind.free) ∈ names
 | [],_,h=>by simp at h
 | (n,k') :: r,hc,h=>by
  have ih:=@fu env x k hk r fun y hy=>hc y (mem_cons_of_mem _ hy)
  rw[map_cons]at h
  simp only[]at h
  cases hx:x == n with
  | true =>
   have e:x=n:=by simpa using hx
   subst e
   split at h
   ·rename_i q
    have q':k' = .free:=by
     have:=(Bool.and_eq_true _ _ ▸ q:_/\_).1
     have:=(Bool.and_eq_true _ _ ▸ this:_/\_).1
     simpa using this
    rw[q']
    exact mem_cons_self
   ·rw[lookup_cons,hx]at h
    have e2:k' = k:=Option.some.inj h
    rcases hk with z | z
    ·exact absurd (e2.trans z) (hc (x,k') mem_cons_self)
    ·rw[e2,z];exact mem_cons_self
  | false =>
   split at h
   ·rw[lookup_cons,hx]at h;exact mem_cons_of_mem _ (ih h)
   ·rw[lookup_cons,hx]at h;exact mem_cons_of_mem _ (ih h)
section
variable {prog:Program}{w:World}{A:Around}{R:Result->Shared->Prop}{s:Shared}
abbrev m5 (ifs:List Expr)(env:Env):Sem Bool :=
 forIn ifs true fun c r=>if r=true then do let ok ← isTrue c env (eval c env);pure (ForInStep.yield ok) else pure (ForInStep.yield r)
theorem pE {elt tg iter:Expr}{ifs:List Expr}{scope:Scope}{pos:Pos}{it acc:Value}{env:Env}(I:Nat->Shared->Prop)
  (turn:∀ n s,I n s->wpAny (model prog w) A (pyNext it) (fun r s1=>match r with
   | none=>R (.ok .next) s1
   | some v=>wpAny (model prog w) A (letOwnedTupleGo tg it v) (fun _ s2=>wpAny (model prog w) A (assign tg env v) (fun _ s3 =>
     wpAny (model prog w) A (m5 ifs env) (fun ok s4 =>
      if ok=true then wpAny (model prog w) A (eval elt env) (fun x s5 =>
       wpAny (model prog w) A (call (.builtin "list.append") [acc,x]) (fun _ s6=>∃ m,m < n/\I m s6) (fun _ _=>False) s5) (fun _ _=>False) s4
      else ∃ m,m < n/\I m s4) (fun _ _=>False) s3) (fun _ _=>False) s2) (fun _ _=>False) s1) (fun _ _=>False) s)
  (n:Nat) (h:I n s):codeAny (model prog w) A (.compLoop (.ListComp elt [⟨tg,iter,ifs,0⟩] scope pos) 0 it acc env) R s:=by
 refine codeAny_loop rfl I (fun n s hI=>?_) n h
 have no:∀ {E':Value->Shared->Prop}(e:Value)(s':Shared),False->E' e s':=fun _ _ z=>z.elim
 show wpAny _ A (Sem.onRaise (compTurn (.ListComp elt [⟨tg,iter,ifs,0⟩] scope pos) 0 it acc env) fun x=>do
  noteFrame x env
  theTreesLotGoes x) _ _ s
 refine wpAny_noted ?_
 rw[compTurn_list]
 refine wpAny_bind (wpAny_standAt (wpAny_bind (wpAny_mono (turn n s hI) (fun r s1 h1=>?_) no)))
 cases r with
 | none=>exact wpAny_pure h1
 | some v =>
  refine wpAny_bind (wpAny_mono h1 (fun _ s2 h2=>?_) no)
  refine wpAny_bind (wpAny_mono h2 (fun _ s3 h3=>?_) no)
  refine wpAny_bind (wpAny_mono h3 (fun ok s4 h4=>?_) no)
  cases ok with
  | false=>exact wpAny_pure ⟨rfl,h4⟩
  | true =>
   refine wpAny_bind (wpAny_bind (wpAny_mono h4 (fun x s5 h5=>?_) no))
   exact wpAny_bind (wpAny_mono h5 (fun _ s6 h6=>wpAny_pure (wpAny_pure ⟨rfl,h6⟩)) no)
end
noncomputable def Jk (X:Cx)(ifs:List Expr)(t:TT):Prop :=
 ∀ (pins:List (Addr × Obj))(s:Shared)(σ:St)(H:Hp)(Q:Bool->Hp->Prop),Inv X pins σ H s->t σ H Q->wpAny (model X.prog X.w) X.A (m5 ifs X.env) (TP X pins σ Q) X.xe s
noncomputable def Oi:TT:=fun _ H Q=>Q true H
theorem cx {X:Cx}:Jk X [] Oi:=fun _ _ _ H _ I h=>wpAny_pure ⟨H,I,h⟩
theorem fP {X:Cx}{c:Expr}{t:TT}(h:PT X c t):Jk X [c] t:=fun pins s σ H Q I hw=>by
 simp only[m5,List.forIn_cons,List.forIn_nil,if_true]
 exact wpAny_bind (wpAny_bind (aW (h pins s σ H Q I hw) fun b s' hb=>wpAny_pure (wpAny_pure hb)))
structure BU (N:List Str)(sc scope:Scope)(capN:List Str)(cap:List Nat):Prop where
 kind:scope.kind = .function
 DA:∀ y ∈ scope.names,y.2 ≠ .cell
 loc:∀ y ∈ scope.names,y.2 = .local->scope.names.lookup y.1=some .local
 free:∀ y ∈ scope.names,y.2 = .free->sc.names.lookup y.1=some .cell∨sc.names.lookup y.1=some .free
 len:cap.length=capN.length
 cap:∀ p ∈ capN.zip cap,scope.names.lookup p.1=some .free/\N[p.2]? = some p.1
abbrev bV (X:Cx)(scope:Scope)(N:List Str)(C:Addr)(s:Shared)(H:Hp)(fp:List Addr):Cx :=
 { X with N:=N,s₀:=s,H₀:=H,env:=compEnvC scope (ce X.env.cells scope.names []) C X.env,outer:=X.stack,stack:=X.stack,ex:=fp,fn:=fun _=>false,pn:=[],xe:=fun _ _=>False }
noncomputable def iP (n:Nat)(cap:List Nat)(σ:St):St:=List.replicate n none ++ cap.map fun j=>(σ[j]?).join
theorem pH (n:Nat)(cap:List Nat)(σ:St):(iP n cap σ).length=n + cap.length:=by simp[iP]
section
variable {X:Cx}{pins:List (Addr × Obj)}{σ:St}{H:Hp}{s:Shared}{scope:Scope}{own capN:List Str}{cap:List Nat}{fp:List Addr}
theorem BU.GX (B:BU X.N X.env.scope scope capN cap)(ok:X.Ok):∀ y ∈ scope.names,y.2 = .free->∃ c,X.env.cells.lookup y.1=some c:=fun y hy hf=>ok.has y.1 (B.free y hy hf)
theorem BU.cell (B:BU X.N X.env.scope scope capN cap)(ok:X.Ok){x:Str}{c:Addr}(h:(ce X.env.cells scope.names []).lookup x=some c):X.env.cells.lookup x=some c :=
 dX scope.names [] (B.GX ok) (fun _ e=>by cases e) h
theorem BU.locs (I:Inv X pins σ H s)(B:BU X.N X.env.scope scope capN cap){h':Heap}(k:∀ x c v,X.env.cells.lookup x=some c->s.heap.IsCell c v->h'.IsCell c v)(C:Addr)(m0:Str->Option Value) :
  ∀ (i:Nat)(x:Str)(v:V),(own ++ capN)[i]? = some x->(iP own.length cap σ)[i]? = some (some v)->∃ u,RelV v u/\Look (compEnvC scope (ce X.env.cells scope.names []) C X.env) h' m0 x u:=by
 intro i x v e1 e2
 have hi:own.length <= i:=by
  by_cases q:own.length <= i
  ·exact q
  ·unfold iP at e2
   rw[getElem?_append_left (by simp;omega),List.getElem?_replicate,if_pos (by omega)]at e2
   cases e2
 have Jl:capN[i - own.length]? = some x:=by
  rwa [getElem?_append_right hi]at e1
 unfold iP at e2
 rw[getElem?_append_right (by simpa using hi),length_replicate,getElem?_map]at e2
 cases ej:cap[i - own.length]? with
 | none=>rw[ej]at e2;cases e2
 | some j =>
  rw[ej]at e2
  have Mc:(σ[j]?).join=some v:=Option.some.inj e2
  have e3':σ[j]? = some (some v):=by
   cases q:σ[j]? with
   | none=>rw[q]at Mc;cases Mc
   | some u=>rw[q]at Mc;exact congrArg some Mc
  have hz:(x,j) ∈ capN.zip cap:=by
   refine List.mem_iff_getElem?.mpr ⟨i - own.length,?_⟩
   rw[List.getElem?_zip_eq_some]
   exact⟨Jl,ej⟩
  obtain⟨c1,c2⟩:=B.cap (x,j) hz
  have RF:(x,NameKind.free) ∈ scope.names:=PySem.mem_of_lookup c1
  have hX:=B.free _ RF rfl
  obtain⟨m,hm,hl⟩:=I.loc
  obtain⟨u,ru,lk⟩:=hl j x v c2 e3' (hX.elim (fun z => .inr (.inl z)) fun z => .inr (.inr z))
  refine⟨u,ru, .inr ⟨gL c1,?_⟩⟩
  rcases lk with ⟨q,_⟩ | ⟨_,c,ec,ic⟩
  ·have q':X.env.scope.names.lookup x=some .local:=q
   rcases hX with z | z
   ·rw[z]at q';cases q'
   ·rw[z]at q';cases q'
  ·obtain⟨c',RG⟩:=eT (cells:=X.env.cells) (x:=x) scope.names [] (.inl RF)
   have:=B.cell I.ok RG
   rw[ec]at this
   cases this
   exact⟨c,RG,k x c _ ec ic⟩
theorem Inv.blk {h4:Heap}{tk:Nat}{m0:Str->Option Value}{C:Addr}(I:Inv X pins σ H s)(B:BU X.N X.env.scope scope capN cap)(hC:s.heap.objs.size <= C)(k:∀ b o,s.heap.get? b=some o->h4.get? b=some o)
  (hn:h4.Ns C m0) (hf:∀ b ∈ fp,eY X pins H b) (AV:∀ b ∈ fp,b < s.heap.objs.size) :
  Inv (bV X scope (own ++ capN) C s H fp) [] (iP own.length cap σ) H { s with heap:=h4,toks:=tk }:=by
 have Oj:∀ b ∈ fp,b ∉ sC X.stack:=fun b hb z=>by
  obtain⟨_,f1,f2,_⟩:=hf b hb
  rcases mem_cons.mp (I.CN b z) with e | e
  ·exact f1 e
  ·exact f2 e
 have hinv:∀ x,((relabel scope X.env).names.lookup x=some .cell∨(relabel scope X.env).names.lookup x=some .free)->(x,NameKind.free) ∈ scope.names:=fun x hx=>by
  rcases hx with q | q
  ·exact fu (.inl rfl) B.DA q
  ·exact fu (.inr rfl) B.DA q
 refine⟨⟨I.ok.mod,B.kind,I.ok.glob,I.ok.blt,hC,fun x y c h1 h2=>I.ok.inj x y c (B.cell I.ok h1) (B.cell I.ok h2),fun x hx=>eT scope.names [] (.inl (hinv x hx)),fun _ _ z=>absurd z Bool.false_ne_true,I.ok.hd,I.ok.frames, .inl rfl,
  fun b hb=>⟨ne_of_lt (lt_of_lt_of_le (AV b hb) hC),fun x c e=>(hf b hb).2.2.2.2.1 x c (B.cell I.ok e)⟩,I.bs,le_trans I.ok.Ft I.sz,fun b o e hb=>?_,fun b hb=>Oj b hb,I.stack,I.DV⟩,
  rfl,I.bare,Un.kept k,⟨m0,hn,fun i x v e1 e2 _=>B.locs I (fun _ _ _ _ q=>q.keeps k) C m0 i x v e1 e2⟩,fun x c e=>?_,I.AR.fresh hC,fun x c e=>I.Bp x c (B.cell I.ok e),fun p hp=>absurd (show p ∈ ([]:List (Addr × Obj)) from hp) (by simp),I.AR.kept k,?_⟩
 ·rcases (hf b hb).2.2.2.1 with z | z
  ·exact I.ok.EG b o e z
  ·exact absurd (lt_of_lt_of_le (lt_size e) (le_trans I.ok.Ft z)) (lt_irrefl _)
 ·obtain⟨v,q⟩:=I.cell x c (B.cell I.ok e)
  exact⟨v,q.keeps k⟩
 ·show(iP own.length cap σ).length=(own ++ capN).length
  rw[pH,length_append,B.len]
theorem Inv.reset {Dc:List (Addr × Obj)}{σ':St}{H':Hp}{s':Shared}{C:Addr}(I:Inv X pins σ H s)(B:BU X.N X.env.scope scope capN cap)(hf:∀ b ∈ fp,eY X pins H b)(J:Inv (bV X scope (own ++ capN) C s H fp) Dc σ' H' s') :
  Inv (bV X scope (own ++ capN) C s H fp) Dc (iP own.length cap σ) H' s':=by
 obtain⟨m,hn,_⟩:=J.loc
 refine⟨J.ok,J.os,J.bare,J.base,⟨m,hn,fun i x v e1 e2 _=>?_⟩,J.cell,J.free,J.Bp,J.pin,J.AR,?_⟩
 ·refine B.locs I (fun y c v' ec ic=>?_) C m i x v e1 e2
  obtain⟨o,ho,hd⟩:=ic
  have hx:c ∉ fp:=fun z=>(hf c z).2.2.2.2.1 y c ec rfl
  obtain⟨sl,e⟩:=J.base.any ho (I.Bp y c ec) hx
  exact⟨_,e,hd⟩
 ·show(iP own.length cap σ).length=(own ++ capN).length
  rw[pH,length_append,B.len]
theorem Inv.adopt {D:Addr}{o:HO}(I:Inv X pins σ H s)(hn:H D=none)(h0:X.s₀.heap.objs.size <= D)(hL:D ≠ X.env.locals)(hc:∀ x c,X.env.cells.lookup x=some c->c ≠ D)(hp:∀ p ∈ X.pn ++ pins,p.1 ≠ D)
  (new:Be X.prog X.w (aw H D o) s.heap D o):Inv X pins σ (aw H D o) s:=by
 have ne:∀ b u,H b=some u->b ≠ D:=fun b u e=>ah e hn
 refine⟨I.ok,I.os,I.bare,⟨I.base.keep,I.base.slot,fun b ob e n hx=>?_,I.base.there,fun b xs e=>?_,fun b ob u e=>?_,fun b ps e=>?_⟩,I.loc,I.cell,?_,fun x c e=>?_,fun p Gv=>?_,fun b u e=>?_,I.len⟩
 ·rw[ai (ne_of_lt (lt_of_lt_of_le (lt_size e) h0))]
  exact I.base.free b ob e n hx
 ·have q:=I.base.C3 b xs e
  rw[ai (ne b _ q)];exact q
 ·have q:=I.base.Cr b ob u e
  rw[ai (ne b _ q)];exact q
 ·obtain⟨more,q⟩:=I.base.C4 b ps e
  exact⟨more,by rw[ai (ne b _ q)];exact q⟩
 ·rw[ai (Ne.symm hL)];exact I.free
 ·rw[ai (hc x c e)];exact I.Bp x c e
 ·obtain⟨e,n,r⟩:=I.pin p Gv
  exact⟨e,by rw[ai (hp p Gv)];exact n,r⟩
 ·by_cases hb:b=D
  ·subst hb;rw[ad]at e;cases e;exact new
  ·rw[ai hb]at e
   exact(I.AR b u e).B9 (fun _ _ _ q=>q) (fun c q=>by rw[ai (ne c _ q)];exact q) fun c xs q=>by rw[ai (ne c _ q)];exact q
end
noncomputable def pP (J:It)(g:TG)(tt:TT)(te:TE)(σ0:St)(Q:VK)(H1:Hp):Prop:=∃ W:Nat->Nat->List V->Hp->Prop,(∃ m,W 0 m [] H1)/\∀ i m acc H,W i m acc H ->
 acc.length < sizeLine/\((J.stop i H/\∀ D,H D=none->Q (.ref D) (aw H D (.lst acc)))∨(J.go i H/\∃ N:List V->Hp->Prop,(∀ Bm H',N Bm H'->∃ m',m' < m/\W (i + 1) m' Bm H') /\
  ∀ x H',J.Fd i H x H'->g x σ0 H' fun σ2 H2=>tt σ2 H2 fun b H3=>if b=true then te σ2 H3 fun y H4=>N (acc ++ [y]) H4 else N acc H3))
noncomputable def yz (wi:TI)(g:TG)(tt:TT)(te:TE)(n:Nat)(cap:List Nat):TE:=fun σ H Q=>wi σ H fun J H1=>pP J g tt te (iP n cap σ) Q H1
section
variable {X:Cx}{tg iter elt:Expr}{ifs:List Expr}{scope:Scope}{pos:Pos}{wi:TI}{g:TG}{tt:TT}{te:TE}{own capN:List Str}{cap:List Nat}
abbrev nn (AM:List Value)(k:Nat):Obj:={ cls := .type "list",data := .seq AM.toArray k }
theorem pD {pins:List (Addr × Obj)}{s:Shared}{σ:St}{H:Hp}{Q:VK}{it:Addr}{fp:List Addr}{tn:Nat->Heap->Prop}{J:It}(B:BU X.N X.env.scope scope capN cap)(hc:X.calm=true)
  (hb:∀ (C:Addr)(s:Shared)(H:Hp)(fp:List Addr),PG (bV X scope (own ++ capN) C s H fp) tg g/\Jk (bV X scope (own ++ capN) C s H fp) ifs tt/\PE (bV X scope (own ++ capN) C s H fp) elt te)
  (I:Inv X pins σ H s) (T:nJ X.prog X.w X.K tg J fp it tn) (st:tn 0 s.heap) (hf:∀ b ∈ fp,eY X pins H b) {W:Nat->Nat->List V->Hp->Prop} {m0:Nat} (w0:W 0 m0 [] H)
  (turn:∀ i m acc H,W i m acc H->acc.length < sizeLine/\((J.stop i H/\∀ D,H D=none->Q (.ref D) (aw H D (.lst acc)))∨(J.go i H/\∃ N:List V->Hp->Prop,(∀ Bm H',N Bm H'->∃ m',m' < m/\W (i + 1) m' Bm H') /\
   ∀ x H',J.Fd i H x H'->g x (iP own.length cap σ) H' fun σ2 H2=>tt σ2 H2 fun b H3=>if b=true then te σ2 H3 fun y H4=>N (acc ++ [y]) H4 else N acc H3)))
  {RR:Value->Addr->Result->Shared->Prop}
  (fin:∀ (D C:Addr)(H':Hp)(s':Shared),Q (.ref D) H'->Inv X pins σ H' s'->(∃ m,s'.heap.Ns C m)->H' C=none->C ≠ X.env.locals->X.s₀.heap.objs.size <= C->(∀ x c,X.env.cells.lookup x=some c->c ≠ C)->(∀ p ∈ X.pn ++ pins,p.1 ≠ C) ->
   RR (.ref D) C (.ok .next) s') :
  wpAny (model X.prog X.w) X.A (newList []) (fun acc s3=>wpAny (model X.prog X.w) X.A (newFunctionEnv scope X.env.globals (ce X.env.cells scope.names []) [] X.env.qual none .none (some X.env)) (fun Jm s4 =>
   codeAny (model X.prog X.w) X.A (.compStart (.ListComp elt [⟨tg,iter,ifs,0⟩] scope pos) 0 (.ref it) acc { Jm with scope:=relabel scope X.env }) (RR acc Jm.locals) s4) X.xe s3) X.xe s:=by
 refine wpAny_newObj_type (wpAny_newFunctionEnv B.DA (by intro y hy;simp at hy) (fun h1 HU G0=>?_) B.kind)
 dsimp only at HU G0 ⊢
 generalize GY:s.heap.push { cls := .type "list",dict:=none,data := .seq ([]:List Value).toArray } = H2 at HU G0 ⊢
 have hCs:H2.objs.size=s.heap.objs.size + 1:=by rw[← GY,size_push]
 have DB:s.heap.objs.size <= H2.objs.size:=by omega
 have F1:∀ b ∈ fp,b < s.heap.objs.size:=fun b hb=>by
  obtain⟨o,e,_⟩:=T.obj 0 s.heap st b hb
  exact lt_size e
 have old:∀ b o,s.heap.get? b=some o->h1.get? b=some o:=fun b o e =>
  G0.extBut b o (ne_of_lt (lt_of_lt_of_le (lt_size e) DB)) (Heap.get?_push_of_some _ (GY ▸ Heap.get?_push_of_some _ e))
 have Md:s.heap.objs.size ≠ H2.objs.size:=by omega
 have BO:h1.get? s.heap.objs.size=some (nn [] 0):=G0.extBut _ _ Md (Heap.get?_push_of_some _ (GY ▸ Heap.get?_push_size _ rfl))
 have I4:Inv (bV X scope (own ++ capN) H2.objs.size s H fp) [] (iP own.length cap σ) H { s with heap:=h1,toks:=s.toks + ([]:List (Str × Value)).length }:=I.blk (own:=own) B DB old HU hf F1
 have Oj:∀ b ∈ fp,b ∉ sC X.stack:=fun b hb z=>by
  obtain⟨_,f1,f2,_⟩:=hf b hb
  rcases mem_cons.mp (I.CN b z) with e | e
  ·exact f1 e
  ·exact f2 e
 have F2:∀ b ∈ sC X.stack,b < s.heap.objs.size:=fun b hb=>by
  obtain⟨_,o,ho,_⟩:=I.stack.mem hb
  exact lt_size ho
 have DC:∀ x c,X.env.cells.lookup x=some c->c < s.heap.objs.size:=fun x c e=>by
  obtain⟨v,q⟩:=I.cell x c e
  exact q.lt
 have G3:∀ (H':Hp)(h':Heap)(AM:List Value)(k:Nat),H' s.heap.objs.size=none->h'.get? s.heap.objs.size=some (nn AM k) ->
   ∀ p ∈ [(s.heap.objs.size,nn AM k)],h'.get? p.1=some p.2/\H' p.1=none/\p.1 ≠ (bV X scope (own ++ capN) H2.objs.size s H fp).env.locals/\p.1 ∉ (bV X scope (own ++ capN) H2.objs.size s H fp).fs/\∀ v,p.2.data ≠ .cell v:=fun H' h' AM k hn he p hp=>by
  have e:p=(s.heap.objs.size,nn AM k):=by simpa using hp
  subst e
  exact⟨he,hn,Md,fun z=>absurd (F2 _ z) (lt_irrefl _),fun v z=>by cases z⟩
 have stat:∀ (H':Hp)(AM:List Value)(k:Nat),(∀ b ∈ fp,H' b=none)->∀ b ∈ fp,eY (bV X scope (own ++ capN) H2.objs.size s H fp) [(s.heap.objs.size,nn AM k)] H' b:=fun H' AM k hn b hb =>
  ⟨hn b hb,ne_of_lt (lt_of_lt_of_le (F1 b hb) DB),Oj b hb, .inl hb,fun x c e=>(hf b hb).2.2.2.2.1 x c (B.cell I.ok e),fun p hp=>by
   have e:p=(s.heap.objs.size,nn AM k):=by simpa using hp
   subst e
   exact ne_of_gt (F1 b hb)⟩
 have loop:∀ s3:Shared,s3 = { s with heap:=h1,toks:=s.toks + ([]:List (Str × Value)).length } ->
   codeAny (model X.prog X.w) X.A (.compLoop (.ListComp elt [⟨tg,iter,ifs,0⟩] scope pos) 0 (.ref it) (.ref s.heap.objs.size) (compEnvC scope (ce X.env.cells scope.names []) H2.objs.size X.env))
    (RR (.ref s.heap.objs.size) H2.objs.size) s3:=by
  rintro s3 rfl
  refine pE (fun n s'=>∃ i acc AM k H',Inv (bV X scope (own ++ capN) H2.objs.size s H fp) [(s.heap.objs.size,nn AM k)] (iP own.length cap σ) H' s'/\tn i s'.heap/\(∀ b ∈ fp,H' b=none)/\Vals acc AM/\W i n acc H') ?_ m0
   ⟨0,[],[],0,H,I4.BG (G3 _ _ _ _ (I.AR.fresh (Nat.le_refl _)) BO),T.keep 0 s.heap h1 st fun b _ o e=>old b o e,fun b hb=>(hf b hb).1, .nil,w0⟩
  rintro n s5 ⟨i,acc,AM,k,H5,I5,GS,LX,rv,w5⟩
  obtain⟨hsz,Jn⟩:=turn i n acc H5 w5
  obtain⟨Jo,GZ,hte⟩:=hb H2.objs.size s H fp
  rcases Jn with ⟨stop,q⟩ | ⟨go,N,hN,step⟩
  ·refine aW (T.done (bV X scope (own ++ capN) H2.objs.size s H fp) rfl rfl rfl hc i _ s5 _ H5 _ I5 (stat H5 AM k LX) GS stop) fun r s6 AL=>?_
   obtain⟨hr,I6⟩:=AL
   subst hr
   obtain⟨hD,Jp,_⟩:=I6.pin (s.heap.objs.size,nn AM k) (by simp)
   have J1:Inv X pins σ H5 s6:=I.I0 (s':=s6) (ch:=fp) I6.os I6.base I6.AR I6.bare fun b hb=>by
    obtain⟨_,f1,_,f3,f4,f5⟩:=hf b hb
    exact⟨f3,f1,f4,f5⟩
   have J2:Inv X pins σ (aw H5 s.heap.objs.size (.lst acc)) s6:=J1.adopt Jp I.sz (ne_of_gt I.lt) (fun x c e=>ne_of_lt (DC x c e)) (fun p hp=>ne_of_lt (lt_size (I.pin p hp).1)) ⟨Nat.le_of_lt hsz,AM,k,rv,hD⟩
   obtain⟨mC,Jq,_⟩:=I6.loc
   refine fin _ _ _ s6 (q _ Jp) J2 ⟨mC,Jq⟩ (by rw[ai (Ne.symm Md)];exact I6.free) (ne_of_gt (lt_of_lt_of_le I.lt DB)) (le_trans I.sz DB) (fun x c e=>ne_of_lt (lt_of_lt_of_le (DC x c e) DB)) fun p hp =>
    ne_of_lt (lt_of_lt_of_le (lt_size (I.pin p hp).1) DB)
  ·refine aW (T.item (bV X scope (own ++ capN) H2.objs.size s H fp) rfl rfl rfl hc i _ s5 _ H5 _ I5 (stat H5 AM k LX) GS go) fun r s6 AL=>?_
   obtain⟨u,hr,h6⟩:=AL
   subst hr
   refine aW h6 fun _ s7 AL=>?_
   obtain⟨x,H7,I7,r7,y7,Om,fr7⟩:=AL
   have I7':=I7.pinned (stat H7 AM k fr7) (T.obj _ _ Om)
   refine aW (Jo _ s7 _ H7 x u _ I7' r7 (step x H7 y7)) fun _ s8 AL=>?_
   obtain⟨σ8,H8,I8,q8⟩:=AL
   refine aW (GZ _ s8 σ8 H8 _ I8 q8) fun b s9 AL=>?_
   obtain⟨H9,I9,q9⟩:=AL
   have RH:∀ {H':Hp}{s':Shared}{σ':St},Inv (bV X scope (own ++ capN) H2.objs.size s H fp) (eM fp s7.heap) σ' H' s'->tn (i + 1) s'.heap/\∀ b ∈ fp,H' b=none:=fun {H' s' σ'} K=>by
    refine⟨T.keep _ _ _ Om fun b hb o e=>(K.pin (b,o) (eP hb e)).1,fun b hb=>?_⟩
    obtain⟨o,e,_⟩:=T.obj _ _ Om b hb
    exact(K.pin (b,o) (eP hb e)).2.1
   cases b with
   | false =>
    rw[if_neg Bool.false_ne_true]
    obtain⟨m',hm,w9⟩:=hN acc H9 (by simpa using q9)
    have K9:Inv (bV X scope (own ++ capN) H2.objs.size s H fp) (eM fp s7.heap) σ8 H9 s9:=I9.BG fun p hp=>I9.pin p (mem_append_right _ (mem_append_right _ hp))
    obtain⟨t9,f9⟩:=RH K9
    exact⟨m',hm,i + 1,acc,AM,k,H9,I.reset B hf I9.BQ,t9,f9,rv,w9⟩
   | true =>
    rw[if_pos rfl]
    have q9':te σ8 H9 fun y H4=>N (acc ++ [y]) H4:=by simpa using q9
    refine aW (hte _ s9 σ8 H9 _ I9 q9') fun yv Oo AL=>?_
    obtain⟨y,F3,Oq,r10,q10⟩:=AL
    obtain⟨hD,Jp,_⟩:=Oq.pin (s.heap.objs.size,nn AM k) (by simp)
    have hlen:=rv.length
    refine wpAny_list_append_plain ⟨k,hD⟩ (fun h' BS Ha=>?_) (by rw[size_toArray];omega)
    obtain⟨k',Ff⟩:=BS
    obtain⟨m',hm,w10⟩:=hN (acc ++ [y]) F3 q10
    have K10:Inv (bV X scope (own ++ capN) H2.objs.size s H fp) (eM fp s7.heap) σ8 F3 Oo:=Oq.BG fun p hp=>Oq.pin p (mem_append_right _ (mem_append_right _ hp))
    have RI:Inv (bV X scope (own ++ capN) H2.objs.size s H fp) (eM fp s7.heap) σ8 F3 { Oo with heap:=h' }:=K10.turned (t':=Oo.toks) (it:=s.heap.objs.size) (fun b o hb e=>(Ha.2 b hb).trans e) Jp Md (.inr (Nat.le_refl _))
     (fun x c e=>ne_of_lt (DC x c (B.cell I.ok e))) fun p hp=>by
      obtain⟨hb,_⟩:=lC (show p ∈ eM fp s7.heap from hp)
      exact ne_of_lt (F1 p.1 hb)
    obtain⟨t11,Jr⟩:=RH RI
    refine⟨m',hm,i + 1,acc ++ [y],AM ++ [yv],k',F3,?_,t11,Jr,rv.append (.cons r10 .nil),w10⟩
    refine I.reset B hf (RI.BG (G3 _ _ _ _ Jp ?_))
    show h'.get? s.heap.objs.size=some { cls := .type "list",data := .seq (AM ++ [yv]).toArray k' }
    rw[show(AM ++ [yv]).toArray=AM.toArray.push yv by simp]
    exact Ff
 exact codeAny_compStart_list (loop _ rfl) (T.self X.A 0 _ _ _ (T.keep 0 s.heap h1 st fun b _ o e=>old b o e) (loop _ rfl))
theorem bX (B:BU X.N X.env.scope scope capN cap)(hc:X.calm=true)(hi:PI X tg iter wi)
  (hb:∀ (C:Addr)(s:Shared)(H:Hp)(fp:List Addr),PG (bV X scope (own ++ capN) C s H fp) tg g/\Jk (bV X scope (own ++ capN) C s H fp) ifs tt/\PE (bV X scope (own ++ capN) C s H fp) elt te)
  (hs:autoParam (∀ x,foldedSetIterable iter X.env x=pure x) ψ):PE X (.ListComp elt [⟨tg,iter,ifs,0⟩] scope pos) (yz wi g tt te own.length cap):=by
 intro pins s σ H Q I h
 rw[eval_ListComp]
 refine wpAny_comprehension_free (use:=none) rfl hs (gi (B.GX I.ok)) B.kind B.loc (aW (hi pins s σ H _ I h) fun v s1 h1=>aW h1 fun LW s2 h2=>?_)
 obtain⟨it,fp,tn,J,H2,e,I2,T,Bs,f2,W,⟨m0,w0⟩,turn⟩:=h2
 subst e
 refine pD (own:=own) B hc hb I2 T Bs f2 w0 turn (RR:=fun acc C=>compPost (model X.prog X.w) X.A X.xe none (EP X pins σ Q) acc C) fun D C H' s' q J2 ⟨mC,Jq⟩ fC n1 n2 n3 n4=>?_
 refine⟨mC,Jq,fun h' G0=>⟨.ref D,H',?_,rfl,q⟩⟩
 exact J2.turned (t':=s'.toks) (it:=C) (fun b o hb e=>(G0.2 b hb).trans e) fC n1 (.inr n2) n3 n4
theorem eK {i:Nat}{x:Str}{px:Pos}{Js:Pos}(B:BU X.N X.env.scope scope capN cap)(hc:X.calm=true)(hN:X.N.Nodup)(hx:X.N[i]? = some x)(hl:X.env.scope.names.lookup x=some .local)(hi:PI X tg iter wi)
  (hb:∀ (C:Addr)(s:Shared)(H:Hp)(fp:List Addr),PG (bV X scope (own ++ capN) C s H fp) tg g/\Jk (bV X scope (own ++ capN) C s H fp) ifs tt/\PE (bV X scope (own ++ capN) C s H fp) elt te)
  (hsw:autoParam (swapsWith (.ListComp elt [⟨tg,iter,ifs,0⟩] scope pos) (some (.Name x px)) Js.line X.env=pure true) η)
  (hs:autoParam (∀ x,foldedSetIterable iter X.env x=pure x) ψ):PS X (.Assign [.Name x px] (.ListComp elt [⟨tg,iter,ifs,0⟩] scope pos) Js) (yN (yz wi g tt te own.length cap) (ip i)):=by
 intro pins s σ H D0 I h
 rw[exec_Assign_Name_used _ _ _ _ hsw]
 refine wpAny_bind (wpAny_standAt (wpAny_bind ?_))
 show wpAny _ X.A (do
  let _ ← comprehension (.ListComp elt [⟨tg,iter,ifs,0⟩] scope pos) scope X.env _ (newList []) false (eval iter X.env) (some (assign (.Name x px) X.env))) _ _ s
 refine wpAny_bind (wpAny_mono (wpAny_comprehension_free (use:=some (assign (.Name x px) X.env)) (Q:=fun _ s'=>SP X pins D0 .next s') rfl hs (gi (B.GX I.ok)) B.kind B.loc
  (aW (hi pins s σ H _ I h) fun v s1 h1=>aW h1 fun LW s2 h2=>?_)) (fun _ s' hq=>wpAny_pure (wpAny_pure hq)) fun _ _ e=>e)
 obtain⟨it,fp,tn,J,H2,e,I2,T,Bs,f2,W,⟨m0,w0⟩,turn⟩:=h2
 subst e
 refine pD (own:=own) (Q:=fun x H1=>ip i x σ H1 D0.nx) B hc hb I2 T Bs f2 w0 turn (RR:=fun acc C=>compPost (model X.prog X.w) X.A X.xe (some (assign (.Name x px) X.env)) (fun _ s'=>SP X pins D0 .next s') acc C) fun D C H' s' q J2 ⟨mC,Jq⟩ fC n1 n2 n3 n4=>?_
 show wpAny _ X.A (assign (.Name x px) X.env (.ref D)) _ _ s'
 refine wpAny_assign_Name (lu J2 hN hx (.inl hl) (show RelV (.ref D) (.ref D) from rfl) (fun IY J3 AL=>?_) (.inr hl))
 obtain⟨a,G0,ha⟩:=AL
 have hCa:C ≠ a:=by
  rcases ha with z | z
  ·rw[z];exact n1
  ·exact(n3 x a z).symm
 refine⟨mC,Jq.sameBut G0 hCa,fun h' Ha=>⟨_,H',?_,q⟩⟩
 exact J3.turned (t':=IY.toks) (it:=C) (fun b o hb e=>(Ha.2 b hb).trans e) fC n1 (.inr n2) n3 n4
end
mutual
inductive Den (K:Frag)(H:Hp):V->PyData->Prop
 | AZ:Den K H .AZ .none
 | bl (b:Bool):Den K H (.bl b) (.bool b)
 | int (i:Int):Den K H (.int i) (.int i)
 | str (x:Str):Den K H (.str x) (.str x)
 | lst {a:Addr} {xs:List V} {ds:List PyData}:AQ K H a xs->BJ K H xs ds->Den K H (.ref a) (.list ds)
 | tup {a:Addr} {xs:List V} {ds:List PyData}:Ba K H a xs->BJ K H xs ds->Den K H (.ref a) (.tuple ds)
inductive BJ (K:Frag)(H:Hp):List V->List PyData->Prop
 | nil:BJ K H [] []
 | cons {x:V} {d:PyData} {xs:List V} {ds:List PyData}:Den K H x d->BJ K H xs ds->BJ K H (x :: xs) (d :: ds)
end
section
variable {X:Cx}{pins:List (Addr × Obj)}{σ:St}{H:Hp}{s:Shared}
mutual
theorem Inv.den (I:Inv X pins σ H s):∀ {x:V}{d:PyData}{u:Value},Den X.K H x d->RelV x u->∃ as,Reads s.heap u d as
 | _,_,_, .AZ,r=>by cases r;exact⟨_, .none⟩
 | _,_,_, .bl b,r=>by cases r;exact⟨_, .bool b⟩
 | _,_,_, .int i,r=>by obtain⟨t,rfl⟩:=r;exact⟨_, .int i t⟩
 | _,_,_, .str x,r=>by obtain⟨t,rfl⟩:=r;exact⟨_, .str x t⟩
 | _,_,_, .lst hq hd,r=>by
  cases r
  obtain⟨AM,rv,⟨o,n,e,hc,_,Jt⟩,_⟩:=I.list hq
  obtain⟨as,q⟩:=I.Hb hd rv
  exact⟨_, .list e hc Jt (by simpa using q)⟩
 | _,_,_, .tup hq hd,r=>by
  cases r
  obtain⟨AM,rv,⟨o,e,hc,n,Jt⟩,_⟩:=I.tuple hq
  obtain⟨as,q⟩:=I.Hb hd rv
  exact⟨_, .tuple e hc Jt (by simpa using q)⟩
theorem Inv.Hb (I:Inv X pins σ H s):∀ {xs:List V}{ds:List PyData}{us:List Value},BJ X.K H xs ds->Vals xs us->∃ as,ReadsAll s.heap us ds as
 | _,_,_, .nil, .nil=>⟨_, .nil⟩
 | _,_,_, .cons hd hr, .cons r rr=>by
  obtain⟨as,q⟩:=I.den hd r
  obtain⟨bs,q'⟩:=I.Hb hr rr
  exact⟨_, .cons q q'⟩
end
noncomputable def Ju (K:Frag):R2:=fun x y H Q=>∃ da db,Den K H x da/\Den K H y db/\SeqAt.shaped da=true/\SeqAt.shaped db=true/\Q (.bl (PyData.eqv da db)) H
noncomputable def Jv (K:Frag):R2:=fun x y H Q=>∃ da db,Den K H x da/\Den K H y db/\SeqAt.shaped da=true/\SeqAt.shaped db=true/\Q (.bl (!PyData.eqv da db)) H
end
section
variable {X:Cx}
theorem vw (hu:X.A.units + 64 < cLine):fU X (compareOp .Eq) (Ju X.K):=by
 intro pins s σ H x y v u Q I rx ry h
 obtain⟨da,db,h1,h2,h3,h4,q⟩:=h
 obtain⟨as,r1⟩:=I.den h1 rx
 obtain⟨bs,r2⟩:=I.den h2 ry
 exact SeqAt.compareEq_shaped r1 r2 h3 h4 hu ⟨.bl _,H,I,rfl,q⟩
theorem zE (hu:X.A.units + 64 < cLine):fU X (compareOp .NotEq) (Jv X.K):=by
 intro pins s σ H x y v u Q I rx ry h
 obtain⟨da,db,h1,h2,h3,h4,q⟩:=h
 obtain⟨as,r1⟩:=I.den h1 rx
 obtain⟨bs,r2⟩:=I.den h2 ry
 exact SeqAt.compareNe_shaped r1 r2 h3 h4 hu ⟨.bl _,H,I,rfl,q⟩
theorem lR {K:Frag}{H:Hp}:∀ ns:List Int,BJ K H (ns.map V.int) (ns.map PyData.int)
 | [] => .nil
 | n :: r => .cons (.int n) (lR r)
theorem pA {K:Frag}{H:Hp}{a:Addr}{ns:List Int}(h:AQ K H a (ns.map V.int)):Den K H (.ref a) (.list (ns.map PyData.int)) := .lst h (lR ns)
noncomputable def Ot (K:Frag):R2:=fun x y H Q=>∃ (p q:Addr)(ns ms:List Int),x = .ref p/\y = .ref q/\AQ K H p (ns.map V.int)/\AQ K H q (ms.map V.int)/\Q (.bl (decide (ns=ms))) H
theorem zF (hu:X.A.units + 64 < cLine):fU X (compareOp .Eq) (Ot X.K):=by
 intro pins s σ H x y v u Q I rx ry h
 obtain⟨p,q,ns,ms,rfl,rfl,h1,h2,q⟩:=h
 refine vw hu pins s σ H _ _ v u Q I rx ry ⟨_,_,pA h1,pA h2,PySem.W.shaped_ints ns,PySem.W.shaped_ints ms,?_⟩
 simp only[PyData.eqv,PySem.W.ked_eqvAll]
 exact q
noncomputable def Ou (K:Frag):List V->Hp->VK->Prop:=fun xs H Q =>
 (∃ i,xs=[.int i, .ty "int"]/\Q (.bl true) H)∨(∃ i,xs=[.int i, .ty "bool"]/\Q (.bl false) H)∨(∃ p ys,xs=[.ref p, .ty "list"]/\AQ K H p ys/\Q (.bl true) H)∨(∃ p ys,xs=[.ref p, .ty "tuple"]/\Ba K H p ys/\Q (.bl true) H)
theorem pG:eF X (.builtin "isinstance") (Ou X.K):=by
 intro pins s σ H xs us Q I r h
 rcases h with ⟨i,rfl,q⟩ | ⟨i,rfl,q⟩ | ⟨p,ys,rfl,hq,q⟩ | ⟨p,ys,rfl,hq,q⟩
 ·cases r with
  | cons r1 r2 =>
   cases r2 with
   | cons r2 r3 =>
    cases r3
    obtain⟨t,rfl⟩:=r1
    cases r2
    exact IsiPair.int_int ⟨.bl true,H,I,rfl,q⟩
 ·cases r with
  | cons r1 r2 =>
   cases r2 with
   | cons r2 r3 =>
    cases r3
    obtain⟨t,rfl⟩:=r1
    cases r2
    exact IsiPair.int_bool ⟨.bl false,H,I.tok _,rfl,q⟩
 ·cases r with
  | cons r1 r2 =>
   cases r2 with
   | cons r2 r3 =>
    cases r3
    cases r1
    cases r2
    obtain⟨AM,rv,⟨o,n,e,hc,_⟩,_⟩:=I.list hq
    exact IsiPair.list_list e hc ⟨.bl true,H,I,rfl,q⟩
 ·cases r with
  | cons r1 r2 =>
   cases r2 with
   | cons r2 r3 =>
    cases r3
    cases r1
    cases r2
    obtain⟨AM,rv,⟨o,e,hc,_⟩,_⟩:=I.tuple hq
    exact IsiPair.tuple_tuple e hc ⟨.bl true,H,I,rfl,q⟩
theorem xT:HS X "int.bit_length" (fun x xs H Q=>∃ i,x = .int i/\xs=[]/\Q (.int (Builtin.Int.intBits i:Nat)) H):=by
 intro pins s σ H x xs v us Q I rx rv h
 obtain⟨i,rfl,rfl,q⟩:=h
 obtain⟨t,rfl⟩:=rx
 cases rv
 exact call_int_bit_length ⟨.int _,H,I.tok _,⟨_,rfl⟩,q⟩
theorem Inv.same {pins:List (Addr × Obj)}{σ:St}{H:Hp}{s s':Shared}(I:Inv X pins σ H s)(k:∀ b o,s.heap.get? b=some o->s'.heap.get? b=some o)(g:s'.gens=s.gens)(ho:s'.os=s.os):Inv X pins σ H s':=by
 obtain⟨hh,gg,dd,tt,oo⟩:=s'
 simp only at k g ho
 subst g
 subst ho
 have J:Inv X pins σ H { s with heap:=hh,toks:=tt }:=I.kept k
 exact⟨J.ok,J.os,J.bare,J.base,J.loc,J.cell,J.free,J.Bp,J.pin,J.AR,J.len⟩
theorem kM (hc:X.calm=true):eF X (.builtin "all") (fun xs H Q=>∃ (p:Addr)(bs:List Bool),xs=[.ref p]/\AQ X.K H p (bs.map V.bl)/\Q (.bl (bs.all id)) H):=by
 intro pins s σ H xs us Q I r h
 obtain⟨p,bs,rfl,hq,q⟩:=h
 obtain⟨u,rfl,rx⟩:=nW r
 cases rx
 obtain⟨AM,rv,pl,hz⟩:=I.list hq
 have hlen:=rv.length
 rw[length_map]at hlen
 have AV:p < s.heap.objs.size:=by obtain⟨o,n,e,_⟩:=pl;exact lt_size e
 have RJ:∀ (i:Nat)(v:Value),AM.toArray[i]? = some v->v=Value.bool (bs.getD i false):=fun i v hv=>by
  have B5:AM[i]? = some v:=by simpa using hv
  have hi:i < bs.length:=by rw[hlen];exact(gQ0 B5)
  obtain⟨u,hu,ru⟩:=rv.get (i:=i) (x := .bl bs[i]) (by simp[hi])
  rw[B5]at hu
  cases hu
  rw[getD_eq_getElem?_getD,getElem?_eq_getElem hi]
  exact ru
 have hh1:X.A.in1.handled=none:=I.ok.hd hc
 refine call_all_walkS (wpAny_pyIter_list pl.isList ⟨s.heap.objs.size,[s.heap.objs.size,p],[s.heap.objs.size],fun a b=>b=a,AM.toArray.size,fun i v=>AM.toArray[i]? = some v,_,fun i=>bs.getD i false,rfl,
  (Walks.list hh1 _ p (ne_of_lt AV) AM.toArray).toS,⟨⟨_,Heap.get?_push_size _ rfl,rfl,rfl⟩,pl.isList.push _⟩,fun i v s1 Q1 E1 hv Fg=>?_,fun s' hm=>?_⟩)
 ·rw[RJ i v hv]
  exact wpAny_truthy_bool Fg
 ·have I1:Inv X pins σ H { s with heap:=s.heap.push { cls := .type "list_iterator",data := .fields #[.ref p, .int 0 0] } }:=I.kept (t':=s.toks) fun b o e=>Heap.get?_push_of_some _ e
  refine⟨.bl _,H,I.same (fun b o e=>hm.heap b o (fun hb=>?_) (Heap.get?_push_of_some _ e)) hm.gens hm.os,rfl,?_⟩
  ·have DD:b=s.heap.objs.size:=by simpa using hb
   exact absurd (lt_size e) (by rw[DD];exact lt_irrefl _)
  ·have e:((List.range AM.toArray.size).all fun i=>bs.getD i false)=bs.all id:=by
    rw[size_toArray,← hlen]
    clear RJ hlen hq rv q
    have:(List.range bs.length).map (fun i=>bs.getD i false)=bs:=by
     apply List.ext_getElem
     ·simp
     ·intro i h1 h2
      simp[h2]
    conv=>rhs;rw[← this]
    rw[all_map]
    rfl
   rw[e]
   exact q
end
section
variable {M:Model}{A:Around}{E:Value->Shared->Prop}{s:Shared}
end
section
variable {X:Cx}{pins:List (Addr × Obj)}{σ:St}{H:Hp}{s:Shared}
end
section
variable {prog:Program}{w:World}{A:Around}{E:Value->Shared->Prop}{s:Shared}{K:Frag}{x C:Addr}{ox:Obj}{name:Str}{v:Value}
open PySem.W in
open PySem.W in
end
end L2
namespace PySem
section
variable {prog:Program}{w:World}{A:Around}{E:Value->Shared->Prop}{h:Heap}{g:Array GenState}{d:Drawn}{t:Nat}{os:OsState}
variable {nm q:Str}{C N:Addr}{bs bm bmB:List Value}{Ov:Bool}{sn:List Str}{sub:List Value}{ab:Bool}{col:Option Bool}{dd:Option Addr}{k0 k1 k2 k3 k5:Option Value}{B newId Ox:String}
end
section
variable {M:Model}{A:Around}{E:Value->Shared->Prop}{env:Env}
variable {nm q:Str}{C N:Addr}{bs bm:List Value}{Ov:Bool}{sn:List Str}{sub:List Value}{ab:Bool}{col:Option Bool}{dd:Option Addr}{k0 k1 k2 k3 k5:Option Value}{newId:String}
end
end PySem
namespace L2
open PySem PySem.Spec PyProof.Rows
section
variable {X:Cx}{C f:Addr}{x:Str}{p pos apos:Pos}{e:Expr}{es:List Expr}{t:TA}
end
section
variable {prog:Program}{w:World}{A:Around}{E:Value->Shared->Prop}{s:Shared}{K:Frag}{x C:Addr}{ox:Obj}{od:Option Obj}{name:Str}{v:Value}
open PySem.W in
open PySem.W in
end
section
variable {X:Cx}{pins:List (Addr × Obj)}{σ:St}{H:Hp}{s:Shared}{ea:Addr}{oe:Obj}
end
section
variable {X:Cx}{o e value:Expr}{f:Str}{pos pos':Pos}{ta tv:TE}
end
section
variable {P:Program}{w:World}{K:Frag}{mg:Str->Option Value}{base:Heap}
end
section
variable {X:Cx}{k:Nat}{f C:Addr}{fd:FuncData}{ps:List Str}{sp:Sp}{Cb:List V}{ds:List Value}{x m:Str}{p pos apos:Pos}{e o:Expr}{es:List Expr}{ta:TE}{t:TA}
end
section
variable {X:Cx}{e:Expr}{t:St->Hp->VK->XK->Prop}{pos Dd:Pos}{n:Str}{i:Nat}
end
section
variable {M:Model}{A:Around}{E:Value->Shared->Prop}{s:Shared}
end
end L2
namespace PySem
open Sem (wp)
open AutoSeq1 (wpAny_loadPart')
theorem eG (l:Addr)(items:Array Value)(n:Nat)(Oy:Option Addr)(sl:Array (Option Value)) :
  Meets (Builtin.«enumerate.__new__» ⟨[.type "enumerate", .ref l],[]⟩) (fun _ R s=>s.heap.get? l=some { cls := .type "tuple",dict:=Oy,data := .seq items n,slots:=sl } /\
   R (.ok (.ret (.ref (s.heap.push { cls := .type "tuple_iterator",data := .fields #[.ref l, .int 0 0] }).objs.size)))
    { s with heap:=(s.heap.push { cls := .type "tuple_iterator",data := .fields #[.ref l, .int 0 0] }).push { cls := .type "enumerate",data := .fields #[.none, .bool false, .ref s.heap.objs.size,rawInt 0, .none, .none] } }) :=
 .of_wp fun prog w A R s h=>by
  obtain⟨hp,g,d,tk,os⟩:=s;obtain⟨hl,h⟩:=h
  have Jw:=sub_enumerate
  have hL:Heap.IsTuple (Shared.heap ⟨hp,g,d,tk,os⟩) l items:=⟨_,hl,rfl,n,rfl⟩
  wp_walk using wpAny_loadPart' hl
  refine wpAny_stack_any fun st=>wpAny_pure ?_
  split
  ·rename_i c _ _ _ _ _
   cases (c == Value.type "enumerate")
   ·wp_walk using wpAny_loadPart' hl,wpAny_pyIter_tuple hL
    exact⟨_,rfl,h⟩
   ·wp_walk using wpAny_loadPart' hl,wpAny_pyIter_tuple hL
    exact⟨_,rfl,h⟩
  ·wp_walk using wpAny_loadPart' hl,wpAny_pyIter_tuple hL
   exact⟨_,rfl,h⟩
section
variable {prog:Program}{w:World}{A:Around}{E:Value->Shared->Prop}{s:Shared}
theorem eI {l:Addr}{items:Array Value}{Q:Value->Shared->Prop}(hL:s.heap.IsTuple l items)
  (h:∀ h',IsEnum h' (s.heap.objs.size + 1) s.heap.objs.size 0 .none->h'.IsTupleIter s.heap.objs.size l 0->h'.objs.size=s.heap.objs.size + 2 ->
   (∀ b o,s.heap.get? b=some o->h'.get? b=some o)->Q (.ref (s.heap.objs.size + 1)) { s with heap:=h' }) :
  wpAny (model prog w) A (call (.type "enumerate") [.ref l]) Q E s:=by
 obtain⟨⟨c,Oy,dt,sl⟩,hl,hc,n,hd⟩:=hL
 replace hc:c = .type "tuple":=hc
 replace hd:dt = .seq items n:=hd
 subst hc hd
 refine callType_new F.called_enumerate (by decide) (F.typeCall_enumerate_1 _) (F.newCall_enumerate_1 _) (fun obj=>F.args_object_init_2 obj _) F.entry_enumerate_new
  (eG l items n Oy sl) ⟨hl,?_⟩
 have hz:(s.heap.push { cls := .type "tuple_iterator",data := .fields #[.ref l, .int 0 0] }).objs.size=s.heap.objs.size + 1:=size_push ..
 show _/\_
 rw[hz]
 have he:IsEnum ((s.heap.push { cls := .type "tuple_iterator",data := .fields #[.ref l, .int 0 0] }).push
   { cls := .type "enumerate",data := .fields #[.none, .bool false, .ref s.heap.objs.size,rawInt 0, .none, .none] }) (s.heap.objs.size + 1) s.heap.objs.size 0 .none:=by
  have:=Heap.get?_push_size (s.heap.push { cls := .type "tuple_iterator",data := .fields #[.ref l, .int 0 0] })
   (o:={ cls := .type "enumerate",data := .fields #[.none, .bool false, .ref s.heap.objs.size,rawInt 0, .none, .none] }) rfl
  rw[hz]at this;exact this
 refine⟨⟨_,he,rfl⟩,h _ he ⟨_,Heap.get?_push_of_some _ (Heap.get?_push_size _ rfl),rfl,rfl⟩ (by rw[size_push,hz]) fun b o x=>Heap.get?_push_of_some _ (Heap.get?_push_of_some _ x)⟩
theorem fV {it l:Addr}{i:Nat} {items} {x:Value} {Q:Value->Shared->Prop} (hit:s.heap.IsTupleIter it l i)
  (hl:s.heap.IsTuple l items) (hx:items[i]? = some x)
  (hQ:∀ h',h'.IsTupleIter it l (i + 1)->Heap.SameBut it s.heap h'->Q x { s with heap:=h' }) :
  wpAny (model prog w) A (Builtin.SmallTypes.nextOf (.ref it)) Q E s:=by
 obtain⟨o,ho,hc,hd⟩:=id hit
 obtain⟨ol,Hc,_,nl,E7⟩:=hl
 unfold Builtin.SmallTypes.nextOf
 refine wpAny_bind (wpAny_callSpecial?_slot (name:=Str.ofString "__next__") hit.typeIs F.slot_tuple_iterator_next
  (wpAny_call_entry F.slot_tuple_iterator_next hit.typeIs F.entry_tuple_iterator_next ?_ (F.args_tuple_iterator_next_1 _)))
 show wpAny _ _ (field (.ref it) 0 >>= _) _ _ s
 refine wpAny_bind (wpAny_field ho hd (x := .ref l) rfl ?_)
 show wpAny _ _ (if (Value.ref l == Value.none)=true then _ else _) _ _ s
 rw[if_neg (show ¬ ((Value.ref l == Value.none)=true) from Bool.false_ne_true)]
 show wpAny _ _ (field (.ref it) 1 >>= _) _ _ s
 refine wpAny_bind (wpAny_field ho hd (x := .int i 0) rfl ?_)
 show wpAny _ _ (seqItems? (.ref l) >>= _) _ _ s
 refine wpAny_bind (wpAny_seqItems Hc E7 ?_)
 simp only[toNat_natCast,hx]
 refine wpAny_bind (wpAny_setField ho hd (by simp) (wpAny_pure ⟨x,rfl,wpAny_pure (hQ _ ?_ (Heap.SameBut.update ..))⟩))
 exact⟨_,Heap.get?_update_self _ ho (Obj.isFreed_of_fields (Obj.data_mapFields hd _)),(Obj.cls_mapFields ..).trans hc,by
  rw[Obj.data_mapFields hd];simp[rawInt]⟩
theorem gj {it l:Addr}{i:Nat} {items} {Q:Value->Shared->Prop} (hh:A.handled=none)
  (hit:s.heap.IsTupleIter it l i) (hl:s.heap.IsTuple l items) (hx:items[i]? = none)
  (hE:∀ h' e,Heap.ExtBut it s.heap h'->(∃ o,h'.get? e=some o/\o.cls = .type "StopIteration")->E (.ref e) { s with heap:=h' }) :
  wpAny (model prog w) A (Builtin.SmallTypes.nextOf (.ref it)) Q E s:=by
 obtain⟨o,ho,hc,hd⟩:=id hit
 obtain⟨ol,Hc,_,nl,E7⟩:=hl
 unfold Builtin.SmallTypes.nextOf
 refine wpAny_bind (wpAny_callSpecial?_slot (name:=Str.ofString "__next__") hit.typeIs F.slot_tuple_iterator_next
  (wpAny_call_entry F.slot_tuple_iterator_next hit.typeIs F.entry_tuple_iterator_next ?_ (F.args_tuple_iterator_next_1 _)))
 show wpAny _ _ (field (.ref it) 0 >>= _) _ _ s
 refine wpAny_bind (wpAny_field ho hd (x := .ref l) rfl ?_)
 show wpAny _ _ (if (Value.ref l == Value.none)=true then _ else _) _ _ s
 rw[if_neg (show ¬ ((Value.ref l == Value.none)=true) from Bool.false_ne_true)]
 show wpAny _ _ (field (.ref it) 1 >>= _) _ _ s
 refine wpAny_bind (wpAny_field ho hd (x := .int i 0) rfl ?_)
 show wpAny _ _ (seqItems? (.ref l) >>= _) _ _ s
 refine wpAny_bind (wpAny_seqItems Hc E7 ?_)
 simp only[toNat_natCast,hx]
 refine wpAny_bind (wpAny_rule (wpAny_bind (wpAny_setField ho hd (by simp) ?_)))
 show wpAny _ _ (newExc (.type "StopIteration") [] >>= _) _ _ _
 refine wpAny_bind ?_
 simp only[newExc,newTuple]
 refine wpAny_bind (wpAny_newObj_type ?_ (by size_fits))
 refine wpAny_bind (m:=firstArgMember _ _) (wpAny_of_eq (a:=Value.none) (by first | rfl | (simp only[firstArgMember];rfl)) ?_)
 refine wpAny_newObj_type ?_ (by size_fits)
 simp only[raiseNew]
 refine wpAny_bind (wpAny_handled ?_)
 first | rw[show A.in1.handled=none from hh] | rw[hh]
 refine wpAny_bind (wpAny_pure (wpAny_throw ?_))
 exact hE _ _ (((Heap.SameBut.update ..).extBut.push _).push _) ⟨_,Heap.get?_push_size _ rfl,rfl⟩
end
theorem fY {prog:Program}{w:World}{A:Around}(hh:A.handled=none)(it l:Addr)(Bu:l ≠ it)(items:Array Value) :
  Draws prog w A it [it,l] items.size (fun i v=>items[i]? = some v) (fun i h=>h.IsTupleIter it l i/\h.IsTuple l items) where
 live:=fun _ _ st=>let ⟨o,ho,_⟩:=st.1; ⟨o,ho⟩
 frame:=fun _ _ _ st hk=>⟨st.1.at fun o e=>hk it (by simp) o e,let ⟨o,ho,r⟩:=st.2; ⟨o,hk l (by simp) o ho,r⟩⟩
 item:=fun i s Q E hi st hQ=>by
  refine fV st.1 st.2 (x:=items[i]) (by simp[hi]) fun h' Oz G4=>?_
  exact hQ _ h' s.toks (by simp[hi]) ⟨Oz,let ⟨o,ho,r⟩:=st.2; ⟨o,G4.extBut l o Bu ho,r⟩⟩ G4
 done:=fun s Q E st hE=>gj hh st.1 st.2 (by simp) hE
end PySem
namespace L2
open PySem PySem.Spec PyProof.Rows
section
variable {X:Cx}{pins:List (Addr × Obj)}{σ:St}{H:Hp}{s:Shared}
theorem Inv.Hd {h':Heap}{t':Nat}{a b p:Addr}{xs:List V}{us:List Value}(I:Inv X pins σ H s)(fa:eY X pins H a)(fb:eY X pins H b)(hp:s.heap.objs.size <= p)
  (k:∀ c o,c ≠ a->c ≠ b->s.heap.get? c=some o->h'.get? c=some o) (ka:∃ o,h'.get? a=some o) (kb:∃ o,h'.get? b=some o) (hl:xs.length <= sizeLine) (r:Vals xs us) (ht:B7 h' p us.toArray) :
  Inv X pins σ (aw H p (.tup xs)) { s with heap:=h',toks:=t' }:=by
 have hf:H p=none:=I.AR.fresh hp
 have nt:∀ c u,H c=some u->c ≠ p:=fun c u q z=>by rw[z,hf]at q;cases q
 have lt:∀ c o,s.heap.get? c=some o->c ≠ p:=fun c o q=>ne_of_lt (lt_of_lt_of_le (lt_size q) hp)
 have ne:∀ c,c ∉ [a,b]->c ≠ a/\c ≠ b:=fun c hc=>by simpa using hc
 refine I.call (g':=s.gens) (d':=s.drawn) (ch:=[a,b]) ⟨fun c o e n h1 h2=>k c o (ne c h2).1 (ne c h2).2 e,fun c o e n h1 h2=>⟨o.slots,k c o (ne c h2).1 (ne c h2).2 e⟩,fun c o e n h2=>by rw[ai (lt c o e)];exact n,
  fun c o e h2=>⟨o,k c o (ne c h2).1 (ne c h2).2 e⟩,fun c ys q=>by rw[ai (nt c _ q)];exact q,fun c o u q=>by rw[ai (nt c _ q)];exact q,fun c ps q=>⟨#[],by rw[ai (nt c _ q),q];simp⟩⟩ (fun c u q=>?_) I.bare fun c hc=>?_
 ·by_cases hc:c=p
  ·subst hc
   rw[ad]at q
   cases q
   exact⟨hl,us,r,ht⟩
  ·rw[ai hc]at q
   refine(I.AR c u q).B9 (fun d v hd z=>?_) (fun d z=>by rw[ai (nt d _ z)];exact z) fun d ys z=>by rw[ai (nt d _ z)];exact z
   have nd:∀ e,H e=none->d ≠ e:=fun e he w=>by
    rcases hd with rfl | hd
    ·rw[w,he]at q;cases q
    ·rw[w,he]at hd;cases hd
   exact k d v (nd a fa.1) (nd b fb.1) z
 ·have Dz:c=a∨c=b:=by simpa using hc
  rcases Dz with rfl | rfl
  ·obtain⟨_,f1,_,f3,f4,f5⟩:=fa;exact⟨f3,f1,f4,f5⟩
  ·obtain⟨_,f1,_,f3,f4,f5⟩:=fb;exact⟨f3,f1,f4,f5⟩
theorem Inv.DZ {h':Heap}{t':Nat}{a b:Addr}(I:Inv X pins σ H s)(fa:eY X pins H a)(fb:eY X pins H b)
  (k:∀ c o,c ≠ a->c ≠ b->s.heap.get? c=some o->h'.get? c=some o):Inv X pins σ H { s with heap:=h',toks:=t' }:=by
 have ne:∀ c,c ∉ [a,b]->c ≠ a/\c ≠ b:=fun c hc=>by simpa using hc
 refine I.call (g':=s.gens) (d':=s.drawn) (ch:=[a,b]) ⟨fun c o e n h1 h2=>k c o (ne c h2).1 (ne c h2).2 e,fun c o e n h1 h2=>⟨o.slots,k c o (ne c h2).1 (ne c h2).2 e⟩,fun c o e n h2=>n,
  fun c o e h2=>⟨o,k c o (ne c h2).1 (ne c h2).2 e⟩,fun c ys q=>q,fun c o u q=>q,fun c ps q=>⟨#[],by rw[q];simp⟩⟩ (fun c u q=>?_) I.bare fun c hc=>?_
 ·refine(I.AR c u q).B9 (fun d v hd z=>?_) (fun d z=>z) fun d ys z=>z
  have nd:∀ e,H e=none->d ≠ e:=fun e he w=>by
   rcases hd with rfl | hd
   ·rw[w,he]at q;cases q
   ·rw[w,he]at hd;cases hd
  exact k d v (nd a fa.1) (nd b fb.1) z
 ·have Dz:c=a∨c=b:=by simpa using hc
  rcases Dz with rfl | rfl
  ·obtain⟨_,f1,_,f3,f4,f5⟩:=fa;exact⟨f3,f1,f4,f5⟩
  ·obtain⟨_,f1,_,f3,f4,f5⟩:=fb;exact⟨f3,f1,f4,f5⟩
theorem lP {e it:Addr}{fp:List Addr}{n i:Nat}{P:Nat->Value->Prop}{Sx:Nat->Heap->Prop}{old:Value}{xs:List V}{E:Value->Shared->Prop}{elts:List Expr}{kk:Nat}{pos:Pos}
  (D:Draws X.prog X.w X.A.in1 it fp n P Sx) (I:Inv X pins σ H s) (he:IsEnum s.heap e it i old) (CY:Sx i s.heap) (AV:i < n) (Bu:e ≠ it) (RK:e ∉ fp) (fe:eY X pins H e) (fi:eY X pins H it)
  (hP:∀ v,P i v->∃ x,xs[i]? = some x/\RelV x v) :
  wpAny (model X.prog X.w) X.A (pyNext (.ref e)) (fun r s1=>∃ u,r=some u/\wpAny (model X.prog X.w) X.A (letOwnedTupleGo (.Tuple elts kk pos) (.ref e) u) (fun _ s2=>∃ p x,xs[i]? = some x/\H p=none/\u = .ref p /\
   Inv X pins σ (aw H p (.tup [.int i,x])) s2/\(∃ old,IsEnum s2.heap e it ((i + 1:Nat):Int) old)/\Sx (i + 1) s2.heap/\p ≠ e/\p ≠ it) E s1) E s:=by
 refine wpAny_pyNext_enum_itemD D he CY AV Bu RK fun x h' tk hx ho G4 hT hsz hk=>⟨_,rfl,?_⟩
 refine wpAny_letOwnedTupleGo_enum ho fun h2 G5 C7=>?_
 obtain⟨y,hy,ry⟩:=hP x hx
 have RL:e < s.heap.objs.size:=lt_size he
 have hie:it < s.heap.objs.size:=by obtain⟨_,z⟩:=D.live _ _ CY;exact lt_size z
 have Jx:Sx (i + 1) h2:=D.frame _ _ _ G4 fun b hb o z=>(C7.2 b fun q=>RK (q ▸ hb)).trans z
 refine⟨s.heap.objs.size,y,hy,I.AR.fresh (Nat.le_refl _),rfl,?_,⟨x,by simpa using G5⟩,Jx,ne_of_gt RL,ne_of_gt hie⟩
 refine Inv.Hd (s:=s) (h':=h2) (t':=tk + 1) I fe fi (Nat.le_refl _) (fun c o h1 CP z=>(C7.2 c h1).trans (hk c o h1 CP z)) ⟨_,G5⟩ (let ⟨o,z⟩:=D.live _ _ Jx; ⟨o,z⟩) (by show 2 <= sizeLine;decide) (us:=[.int i tk,x]) (.cons ⟨tk,rfl⟩ (.cons ry .nil)) ?_
 exact⟨_,(C7.2 _ (ne_of_gt RL)).trans hT,⟨rfl,_,rfl⟩,rfl⟩
end
noncomputable def AF (sq:Hp->List V->Prop):It :=
 ⟨fun i H=>∃ xs x,sq H xs/\xs[i]? = some x,fun i H v H'=>∃ p,H p=none/\v = .ref p/\∀ xs,sq H xs->∃ x,xs[i]? = some x/\H' = aw H p (.tup [.int i,x]),fun i H=>∃ xs,sq H xs/\xs.length=i⟩
theorem pX {P:Program}{w:World}{K:Frag}{elts:List Expr}{kk:Nat}{pos:Pos}(a e it:Addr)(Bu:e ≠ it):nJ P w K (.Tuple elts kk pos) (AF fun H=>AQ K H a) [e,it] e (fun i h=>(∃ old,IsEnum h e it (i:Int) old)/\h.IsListIter it a i) where
 mem:=by simp
 obj:=fun i h st b hb=>by
  obtain⟨⟨old,he⟩,o,ho,c,d⟩:=st
  have DD:b=e∨b=it:=by simpa using hb
  rcases DD with rfl | rfl
  ·exact⟨_,he,fun v z=>by have z':Data.fields _=Data.cell v:=z;cases z'⟩
  ·exact⟨o,ho,fun v z=>by rw[d]at z;cases z⟩
 keep:=fun i h h' st k=>by
  obtain⟨⟨old,he⟩,hi⟩:=st
  exact⟨⟨old,k e (by simp) _ he⟩,hi.at fun o z=>k it (by simp) o z⟩
 item:=by
  intro X hP hw hK hc i pins s σ H E I hf st hg
  subst hP hw hK
  obtain⟨xs,x,hq,hx⟩:=hg
  obtain⟨AM,rv,p,hz⟩:=I.list hq
  obtain⟨⟨old,he⟩,hi⟩:=st
  have hl:i < AM.toArray.size:=by
   have:=(gQ0 hx)
   have l2:=rv.length
   simp;omega
  have Me:e ≠ a:=by
   rintro rfl
   obtain⟨o,ho,DE,_⟩:=p.isList
   rw[he]at ho;cases ho
   injection DE with z;exact absurd z (by decide)
  have He:a ≠ it:=by
   rintro rfl
   obtain⟨o,ho,DE,_⟩:=p.isList
   obtain⟨o2,EN,DF,_⟩:=hi
   rw[ho]at EN;cases EN;rw[DE]at DF
   injection DF with z;exact absurd z (by decide)
  refine aW (lP (xs:=xs) (Draws.list (A:=X.A.in1) (I.ok.hd hc) it a He AM.toArray) I he ⟨hi,p.isList⟩ hl Bu (by simp only[mem_cons,not_mem_nil,or_false,not_or];exact⟨Bu,Me⟩) (hf e (by simp)) (hf it (by simp)) fun v hv=>?_) fun r s1 ⟨u,hr,h1⟩=>⟨u,hr,aW h1 fun _ s2 ⟨q,y,hy,O0,hu,I2,G5,C7,n1,n2⟩=>?_⟩
  ·obtain⟨u,hu,ru⟩:=rv.get hx
   have e1:AM[i]? = some v:=by simpa using hv
   rw[hu]at e1;cases e1
   exact⟨x,hx,ru⟩
  ·refine⟨.ref q,_,I2,hu,⟨q,O0,rfl,fun zs Cq=>⟨y,by rw[I.BP Cq hq];exact hy,rfl⟩⟩,⟨G5,C7.1⟩,fun b hb=>?_⟩
   have DD:b=e∨b=it:=by simpa using hb
   rcases DD with rfl | rfl
   ·rw[ai (Ne.symm n1)];exact(hf b (by simp)).1
   ·rw[ai (Ne.symm n2)];exact(hf b (by simp)).1
 done:=by
  intro X hP hw hK hc i pins s σ H E I hf st hg
  subst hP hw hK
  obtain⟨xs,hq,hx⟩:=hg
  obtain⟨AM,rv,p,hz⟩:=I.list hq
  obtain⟨⟨old,he⟩,hi⟩:=st
  have hl:i=AM.toArray.size:=by have l2:=rv.length;simp;omega
  have He:a ≠ it:=by
   rintro rfl
   obtain⟨o,ho,DE,_⟩:=p.isList
   obtain⟨o2,EN,DF,_⟩:=hi
   rw[ho]at EN;cases EN;rw[DE]at DF
   injection DF with z;exact absurd z (by decide)
  refine wpAny_pyNext_enum_endD (Draws.list (A:=X.A.in1) (I.ok.hd hc) it a He AM.toArray) he (by rw[← hl];exact⟨hi,p.isList⟩) fun h' B3=>⟨rfl,?_⟩
  exact I.DZ (t':=s.toks) (hf e (by simp)) (hf it (by simp)) fun c o h1 h2 z=>B3 c o h2 z
 self:=fun _ _ _ _ _ st h=>by
  obtain⟨⟨old,he⟩,_⟩:=st
  exact wpAny_pyIter_enum he h
theorem pW {P:Program}{w:World}{K:Frag}{elts:List Expr}{kk:Nat}{pos:Pos}(a e it:Addr)(Bu:e ≠ it):nJ P w K (.Tuple elts kk pos) (AF fun H=>Ba K H a) [e,it] e (fun i h=>(∃ old,IsEnum h e it (i:Int) old)/\h.IsTupleIter it a i) where
 mem:=by simp
 obj:=fun i h st b hb=>by
  obtain⟨⟨old,he⟩,o,ho,c,d⟩:=st
  have DD:b=e∨b=it:=by simpa using hb
  rcases DD with rfl | rfl
  ·exact⟨_,he,fun v z=>by have z':Data.fields _=Data.cell v:=z;cases z'⟩
  ·exact⟨o,ho,fun v z=>by rw[d]at z;cases z⟩
 keep:=fun i h h' st k=>by
  obtain⟨⟨old,he⟩,hi⟩:=st
  exact⟨⟨old,k e (by simp) _ he⟩,hi.at fun o z=>k it (by simp) o z⟩
 item:=by
  intro X hP hw hK hc i pins s σ H E I hf st hg
  subst hP hw hK
  obtain⟨xs,x,hq,hx⟩:=hg
  obtain⟨AM,rv,p,hz⟩:=I.tuple hq
  have pt:s.heap.IsTuple a AM.toArray:=p
  obtain⟨⟨old,he⟩,hi⟩:=st
  have hl:i < AM.toArray.size:=by
   have:=(gQ0 hx)
   have l2:=rv.length
   simp;omega
  have Me:e ≠ a:=by
   rintro rfl
   obtain⟨o,ho,DE,_⟩:=pt
   rw[he]at ho;cases ho
   injection DE with z;exact absurd z (by decide)
  have He:a ≠ it:=by
   rintro rfl
   obtain⟨o,ho,DE,_⟩:=pt
   obtain⟨o2,EN,DF,_⟩:=hi
   rw[ho]at EN;cases EN;rw[DE]at DF
   injection DF with z;exact absurd z (by decide)
  refine aW (lP (xs:=xs) (fY (A:=X.A.in1) (I.ok.hd hc) it a He AM.toArray) I he ⟨hi,pt⟩ hl Bu (by simp only[mem_cons,not_mem_nil,or_false,not_or];exact⟨Bu,Me⟩) (hf e (by simp)) (hf it (by simp)) fun v hv=>?_) fun r s1 ⟨u,hr,h1⟩=>⟨u,hr,aW h1 fun _ s2 ⟨q,y,hy,O0,hu,I2,G5,C7,n1,n2⟩=>?_⟩
  ·obtain⟨u,hu,ru⟩:=rv.get hx
   have e1:AM[i]? = some v:=by simpa using hv
   rw[hu]at e1;cases e1
   exact⟨x,hx,ru⟩
  ·refine⟨.ref q,_,I2,hu,⟨q,O0,rfl,fun zs Cq=>⟨y,by rw[I.CF Cq hq];exact hy,rfl⟩⟩,⟨G5,C7.1⟩,fun b hb=>?_⟩
   have DD:b=e∨b=it:=by simpa using hb
   rcases DD with rfl | rfl
   ·rw[ai (Ne.symm n1)];exact(hf b (by simp)).1
   ·rw[ai (Ne.symm n2)];exact(hf b (by simp)).1
 done:=by
  intro X hP hw hK hc i pins s σ H E I hf st hg
  subst hP hw hK
  obtain⟨xs,hq,hx⟩:=hg
  obtain⟨AM,rv,p,hz⟩:=I.tuple hq
  have pt:s.heap.IsTuple a AM.toArray:=p
  obtain⟨⟨old,he⟩,hi⟩:=st
  have hl:i=AM.toArray.size:=by have l2:=rv.length;simp;omega
  have He:a ≠ it:=by
   rintro rfl
   obtain⟨o,ho,DE,_⟩:=pt
   obtain⟨o2,EN,DF,_⟩:=hi
   rw[ho]at EN;cases EN;rw[DE]at DF
   injection DF with z;exact absurd z (by decide)
  refine wpAny_pyNext_enum_endD (fY (A:=X.A.in1) (I.ok.hd hc) it a He AM.toArray) he (by rw[← hl];exact⟨hi,pt⟩) fun h' B3=>⟨rfl,?_⟩
  exact I.DZ (t':=s.toks) (hf e (by simp)) (hf it (by simp)) fun c o h1 h2 z=>B3 c o h2 z
 self:=fun _ _ _ _ _ st h=>by
  obtain⟨⟨old,he⟩,_⟩:=st
  exact wpAny_pyIter_enum he h
section
variable {X:Cx}{elts:List Expr}{kk:Nat}{Dd p pos:Pos}{a:Expr}{ta:TE}
noncomputable def O1 (K:Frag)(t:TA):TI:=fun σ H R=>t σ H fun vs H1=>∃ a,vs=[.ref a]/\(∃ xs,AQ K H1 a xs)/\R (AF fun H=>AQ K H a) H1
noncomputable def O2 (K:Frag)(t:TA):TI:=fun σ H R=>t σ H fun vs H1=>∃ a,vs=[.ref a]/\(∃ xs,Ba K H1 a xs)/\R (AF fun H=>Ba K H a) H1
theorem gW {t:TA}(hg:Gl X "enumerate")(hm:X.mg "enumerate" = none)(ha:PA X [a] t)(hs:autoParam (starEach [a] X.env=[(false,eval a X.env)]) η):PI X (.Tuple elts kk Dd) (.Call (.Name "enumerate" p) [a] [] pos) (O1 X.K t):=by
 intro pins s σ H R I h
 refine Call_ (dW I hg hm boot_enumerate (PyProof.Rows.callWith_type1 (aW (ha pos pins s σ H _ I h) fun us s1 AL=>?_) hs rfl))
 obtain⟨vs,H1,I1,r1,q1⟩:=AL
 obtain⟨l,e,⟨xs,hq⟩,q⟩:=q1
 subst e
 cases r1 with
 | cons r rr =>
  cases rr
  cases r
  obtain⟨AM,rv,pp,hz⟩:=I1.list hq
  refine call_enumerate_list pp.isList fun h' he hit hsz hk=>?_
  have I2:Inv X pins σ H1 { s1 with heap:=h' }:=I1.kept (t':=s1.toks) hk
  refine wpAny_pyIter_enum (s:={ s1 with heap:=h' }) he ?_
  refine⟨_,_,_,_,H1,rfl,I2,pX l _ s1.heap.objs.size (Nat.succ_ne_self _),⟨⟨_,he⟩,hit⟩,fun b hb=>?_,q⟩
  have DD:b=s1.heap.objs.size + 1∨b=s1.heap.objs.size:=by simpa using hb
  have hle:s1.heap.objs.size <= b:=by
   rcases DD with e | e
   ·rw[e];exact le_succ _
   ·rw[e];exact Nat.le_refl _
  exact I1.D1 hle (I1.AR.fresh hle)
theorem gQ {t:TA}(hg:Gl X "enumerate")(hm:X.mg "enumerate" = none)(ha:PA X [a] t)(hs:autoParam (starEach [a] X.env=[(false,eval a X.env)]) η):PI X (.Tuple elts kk Dd) (.Call (.Name "enumerate" p) [a] [] pos) (O2 X.K t):=by
 intro pins s σ H R I h
 refine Call_ (dW I hg hm boot_enumerate (PyProof.Rows.callWith_type1 (aW (ha pos pins s σ H _ I h) fun us s1 AL=>?_) hs rfl))
 obtain⟨vs,H1,I1,r1,q1⟩:=AL
 obtain⟨l,e,⟨xs,hq⟩,q⟩:=q1
 subst e
 cases r1 with
 | cons r rr =>
  cases rr
  cases r
  obtain⟨AM,rv,pp,hz⟩:=I1.tuple hq
  refine eI (show s1.heap.IsTuple l AM.toArray from pp) fun h' he hit hsz hk=>?_
  have I2:Inv X pins σ H1 { s1 with heap:=h' }:=I1.kept (t':=s1.toks) hk
  refine wpAny_pyIter_enum (s:={ s1 with heap:=h' }) he ?_
  refine⟨_,_,_,_,H1,rfl,I2,pW l _ s1.heap.objs.size (Nat.succ_ne_self _),⟨⟨_,he⟩,hit⟩,fun b hb=>?_,q⟩
  have DD:b=s1.heap.objs.size + 1∨b=s1.heap.objs.size:=by simpa using hb
  have hle:s1.heap.objs.size <= b:=by
   rcases DD with e | e
   ·rw[e];exact le_succ _
   ·rw[e];exact Nat.le_refl _
  exact I1.D1 hle (I1.AR.fresh hle)
end
theorem fI {sq:Hp->List V->Prop}{xs:List V}{g:TG}{tb:TS}{D:lj}{σ:St}{H:Hp}(Pv:Nat->St->Hp->Prop)(h0:Pv 0 σ H)(hl:∀ i σ H,i <= xs.length->Pv i σ H->sq H xs)
  (hs:∀ i x p σ H,xs[i]? = some x->Pv i σ H->H p=none->g (.ref p) σ (aw H p (.tup [.int i,x])) fun σ2 H2=>tb { D with nx:=Pv (i + 1),ct:=Pv (i + 1),bk:=D.nx } σ2 H2) (hd:∀ σ H,Pv xs.length σ H->D.nx σ H) :
  ∃ W:Nat->Nat->St->Hp->Prop,(∃ m,W 0 m σ H)/\∀ i m σ H,W i m σ H ->
   ((AF sq).stop i H/\D.nx σ H)∨((AF sq).go i H/\∃ N:St->Hp->Prop,(∀ σ' H',N σ' H'->∃ m',m' < m/\W (i + 1) m' σ' H')/\∀ x H',(AF sq).Fd i H x H'->g x σ H' fun σ2 H2=>tb { D with nx:=N,ct:=N,bk:=D.nx } σ2 H2):=by
 refine⟨fun i m σ H=>m=xs.length - i/\i <= xs.length/\Pv i σ H,⟨xs.length,by simp,zero_le _,h0⟩,?_⟩
 rintro i m σ H ⟨rfl,hi,p⟩
 have q:=hl i σ H hi p
 by_cases AV:i < xs.length
 ·refine .inr ⟨⟨xs,xs[i],q,by simp[AV]⟩,Pv (i + 1),fun σ' H' p'=>⟨xs.length - (i + 1),by omega,rfl,AV,p'⟩,fun x H' y=>?_⟩
  obtain⟨pp,hn,rfl,hx⟩:=y
  obtain⟨x',B3,e⟩:=hx xs q
  subst e
  exact hs i x' pp σ H B3 p hn
 ·have e:i=xs.length:=by omega
  subst e
  exact .inl ⟨⟨xs,q,rfl⟩,hd σ H p⟩
noncomputable def DG (d:PyData)(m:Nat):Prop:=d.canLay0=true/\d.depth <= m
theorem DG.shaped {d:PyData}{m:Nat}(h:DG d m)(hm:m <= 64):SeqAt.shaped d=true:=by
 unfold SeqAt.shaped
 rw[h.1,decide_eq_true (le_trans h.2 hm)];rfl
theorem rL (i:Int):DG (.int i) 0:=⟨by simp[PyData.canLay0],by simp[PyData.depth]⟩
theorem qo {m:Nat}:∀ {ds:List PyData},(∀ d ∈ ds,DG d m)->PyData.canLayAll0 ds=true/\PyData.depthAll ds <= m
 | [],_=>⟨by simp[PyData.canLayAll0],by simp[PyData.depthAll]⟩
 | d :: r,h=>by
  obtain⟨a,b⟩:=qo (ds:=r) fun z hz=>h z (mem_cons_of_mem _ hz)
  obtain⟨c,e⟩:=h d mem_cons_self
  exact⟨by simp[PyData.canLayAll0,c,a],by simp only[PyData.depthAll];omega⟩
theorem uI {m:Nat}{ds:List PyData}(h:∀ d ∈ ds,DG d m):DG (.list ds) (m + 1):=by
 obtain⟨a,b⟩:=qo h
 exact⟨by simp[PyData.canLay0,a],by simp only[PyData.depth];omega⟩
theorem l0 {m:Nat}{ds:List PyData}(h:∀ d ∈ ds,DG d m):DG (.tuple ds) (m + 1):=by
 obtain⟨a,b⟩:=qo h
 exact⟨by simp[PyData.canLay0,a],by simp only[PyData.depth];omega⟩
theorem neS {K:Frag}{x y:V}{H:Hp}{Q:VK}{d:PyData}(h1:Den K H x d)(h2:Den K H y d)(s:DG d 64)(q:Q (.bl false) H):Jv K x y H Q :=
 ⟨d,d,h1,h2,s.shaped (Nat.le_refl _),s.shaped (Nat.le_refl _),by rw[SeqAt.eqv_refl d s.1];exact q⟩
theorem eqS {K:Frag}{x y:V}{H:Hp}{Q:VK}{d:PyData}(h1:Den K H x d)(h2:Den K H y d)(s:DG d 64)(q:Q (.bl true) H):Ju K x y H Q :=
 ⟨d,d,h1,h2,s.shaped (Nat.le_refl _),s.shaped (Nat.le_refl _),by rw[SeqAt.eqv_refl d s.1];exact q⟩
theorem DG.le {d:PyData}{m n:Nat}(h:DG d m)(l:m <= n):DG d n:=⟨h.1,le_trans h.2 l⟩
end L2
namespace L2
open PySem
theorem kI {n:Nat}{lo:Int}{g:TG}{tt:TT}{te:TE}{σ0:St}{H:Hp}{Q:VK}(p:Nat->Bool)(f:Nat->V)(hn:n < sizeLine)
  (hs:∀ (i:Nat)(acc:List V)(N:List V->Hp->Prop),i < n->N (if p i then acc ++ [f i] else acc) H->g (.int (lo + i)) σ0 H fun σ2 H2=>tt σ2 H2 fun b H3=>if b=true then te σ2 H3 fun y H4=>N (acc ++ [y]) H4 else N acc H3)
  (hq:∀ D,H D=none->Q (.ref D) (aw H D (.lst (((List.range n).filter p).map f)))) :
  pP (yD lo n) g tt te σ0 Q H:=by
 refine⟨fun i m acc H'=>m=n - i/\i <= n/\H' = H/\acc=((List.range i).filter p).map f,⟨n,by simp,zero_le _,rfl,rfl⟩,?_⟩
 rintro i m acc H' ⟨rfl,hi,rfl,rfl⟩
 have hl:(((List.range i).filter p).map f).length < sizeLine:=by
  rw[length_map]
  have:=length_filter_le p (List.range i)
  rw[length_range]at this
  omega
 refine⟨hl,?_⟩
 by_cases AV:i < n
 ·refine .inr ⟨AV,fun Bm H2=>H2=H'/\Bm = ((List.range (i + 1)).filter p).map f,fun Bm H2 AL=>by obtain⟨h1,h2⟩:=AL;exact⟨n - (i + 1),by omega,rfl,AV,h1,h2⟩,fun x H2 y=>?_⟩
  obtain⟨e,y⟩:=y
  subst e y
  refine hs i _ (fun Bm H3=>H3=H2/\Bm = ((List.range (i + 1)).filter p).map f) AV ⟨rfl,?_⟩
  rw[range_succ,filter_append]
  cases hp:p i with
  | true=>simp[hp]
  | false=>simp[hp]
 ·have e:i=n:=by omega
  subst e
  exact .inl ⟨Nat.le_refl _,hq⟩
theorem wC {K:Frag}{a:Addr}{xs:List V}{g:TG}{tt:TT}{te:TE}{σ0:St}{H:Hp}{Q:VK}(p:V->Bool)(f:V->V)(hn:xs.length < sizeLine)(ha:AQ K H a xs)
  (hs:∀ (x:V)(acc:List V)(N:List V->Hp->Prop),x ∈ xs->N (if p x then acc ++ [f x] else acc) H->g x σ0 H fun σ2 H2=>tt σ2 H2 fun b H3=>if b=true then te σ2 H3 fun y H4=>N (acc ++ [y]) H4 else N acc H3)
  (hq:∀ D,H D=none->Q (.ref D) (aw H D (.lst ((xs.filter p).map f)))) :
  pP (HQ K a) g tt te σ0 Q H:=by
 refine⟨fun i m acc H'=>m=xs.length - i/\i <= xs.length/\H' = H/\acc=((xs.take i).filter p).map f,⟨xs.length,by simp,zero_le _,rfl,rfl⟩,?_⟩
 rintro i m acc H' ⟨rfl,hi,rfl,rfl⟩
 have hl:(((xs.take i).filter p).map f).length < sizeLine:=by
  rw[length_map]
  have h1:=length_filter_le p (xs.take i)
  have h2:=length_take_le i xs
  omega
 refine⟨hl,?_⟩
 by_cases AV:i < xs.length
 ·refine .inr ⟨⟨xs,xs[i],ha,by simp[AV]⟩,fun Bm H2=>H2=H'/\Bm = ((xs.take (i + 1)).filter p).map f,fun Bm H2 AL=>by obtain⟨h1,h2⟩:=AL;exact⟨xs.length - (i + 1),by omega,rfl,AV,h1,h2⟩,fun x H2 y=>?_⟩
  obtain⟨e,y⟩:=y
  subst e
  have hx:=y xs ha
  refine hs x _ (fun Bm H3=>H3=H2/\Bm = ((xs.take (i + 1)).filter p).map f) (mem_of_getElem? hx) ⟨rfl,?_⟩
  rw[take_succ,hx,filter_append]
  cases hp:p x with
  | true=>simp[hp]
  | false=>simp[hp]
 ·have e:i=xs.length:=by omega
  subst e
  rw[take_length]
  exact .inl ⟨⟨xs,ha,Nat.le_refl _⟩,hq⟩
theorem sx (k:Int):∀ ns:List Int,wn (.int k) (ns.map V.int)=decide (k ∈ ns)
 | []=>by simp[wn]
 | n :: r=>by
  have ih:=sx k r
  unfold wn at ih ⊢
  rw[map_cons,any_cons,ih]
  show((n == k) || decide (k ∈ r))=decide (k ∈ n :: r)
  by_cases h:k=n
  ·subst h;simp
  ·have h':¬ n=k:=fun z=>h z.symm
   simp[h,h']
theorem lN:∀ ns:List Int,(ns.map V.int).all gh=true
 | []=>rfl
 | n :: r=>by rw[map_cons,all_cons,lN r];rfl
end L2
namespace L2
open PySem
noncomputable def sw:Option Int->Value->Bool
 | none,v=>v == .none
 | some k,v=>Value.isInt k v
noncomputable def xy:Option Int->Int
 | none=>4238894112
 | some k=>hashInt k
theorem bU {k:Option Int}{v:Value}(h:sw k v=true):(k=none/\v = .none)∨∃ i t,k=some i/\v = .int i t:=by
 cases k with
 | none=>exact .inl ⟨rfl,eq_of_beq h⟩
 | some i=>obtain⟨t,e⟩:=Value.isInt_shape h;exact .inr ⟨i,t,rfl,e⟩
section
variable {prog:Program}{w:World}{A:Around}{E:Value->Shared->Prop}{s:Shared}
theorem tT {Q:Int->Shared->Prop}(h:Q 4238894112 { s with toks:=s.toks + 1 }):wpAny (model prog w) A (pyHash .none) Q E s:=by
 have hT:s.TypeIs .none "NoneType":=rfl
 unfold pyHash
 have hv:[Value.none].any Value.onHeap=false:=rfl
 refine wpAny_bind ?_
 rw[cRoomFor,if_neg (by rw[hv];exact Bool.false_ne_true)];refine wpAny_pure ?_
 refine wpAny_bind (wpAny_specialOf hT F.slot_NoneType_hash.lookup ?_)
 show wpAny _ _ (if (some (Value.builtin "NoneType.__hash__") == some Value.none)=true then _ else _) Q E s
 rw[if_neg (by rw[beq_builtin_none];exact Bool.false_ne_true)]
 refine wpAny_bind (wpAny_specialOf hT F.slot_NoneType_hash.lookup ?_)
 show wpAny _ _ (callSpecialIfBoundUnlessNone? .none "__hash__" _ >>= _) Q E s
 refine wpAny_bind (wpAny_callSpecialIfBoundUnlessNone?_slot hT F.slot_NoneType_hash (wpAny_call_entry F.slot_NoneType_hash hT F.entry_NoneType_hash
  (show wpAny _ _ (do ret (← mkInt 4238894112)) _ _ s from wpAny_ret_mkInt ?_) (F.args_NoneType_hash_1 _)))
 exact wpAny_pure h
theorem Am {a b:Option Int}{u v:Value}{Q:Bool->Shared->Prop}(hu:sw a u=true)(hv:sw b v=true)(h:Q (decide (a=b)) s):wpAny (model prog w) A (PySem.eqBool u v) Q E s:=by
 rcases bU hu with ⟨rfl,rfl⟩ | ⟨i,t,rfl,rfl⟩<;>rcases bU hv with ⟨rfl,rfl⟩ | ⟨j,t',rfl,rfl⟩
 ·unfold eqBool
  refine wpAny_holding ?_
  refine wpAny_ite_split (fun _=>wpAny_bind (wpAny_rule (wpAny_pure (by simpa using h)))) (fun n=>absurd rfl n)
 ·exact PySem.SeqAt.EqAt.none_int j t' prog w E Q (by simpa using h)
 ·exact PySem.SeqAt.EqAt.int_none i t prog w E Q (by simpa using h)
 ·refine wpAny_eqBool_int ?_
  have e:(i == j)=decide (some i=some j):=by
   by_cases q:i=j
   ·simp[q]
   ·simp[q]
  rw[e];exact h
end
noncomputable def fQ (prog:Program)(w:World):KeyKind prog w (Option Int) where
 is:=sw
 hash:=xy
 inj:=fun v a b ha hb=>by
  rcases bU ha with ⟨rfl,rfl⟩ | ⟨i,t,rfl,rfl⟩<;>rcases bU hb with ⟨rfl,e⟩ | ⟨j,t',rfl,e⟩
  ·rfl
  ·cases e
  ·cases e
  ·cases e;rfl
 byValue:=fun k v h=>by
  rcases bU h with ⟨_,rfl⟩ | ⟨i,t,_,rfl⟩<;>rfl
 pyHash:=fun {A E s k v Q} hv h=>by
  rcases bU hv with ⟨rfl,rfl⟩ | ⟨i,t,rfl,rfl⟩
  ·exact tT h
  ·exact wpAny_pyHash_int h
 eqBool:=fun hu hv h=>Am hu hv h
 «strs»:=fun k x t v h=>by
  rcases bU h with ⟨_,e⟩ | ⟨i,t,_,e⟩<;>cases e
open PySem.Spec PyProof.Rows
abbrev aX:=List (Option Int)
noncomputable def xQ:Option Int->V
 | none => .AZ
 | some i => .int i
abbrev eZ:=aX × Addr × V
abbrev kU (p:eZ)(q:aX × Addr × Value):Prop:=p.1=q.1/\p.2.1=q.2.1/\RelV p.2.2 q.2.2
noncomputable def AH (P:Program)(w:World)(a:Addr)(kvs:List eZ):Heap->Prop:=fun h=>kvs.length <= sizeLine/\(a == sysModules)=false/\∃ xs,Paired kU kvs xs /\
 ∃ o es ep,h.get? a=some o/\o.ExactDict/\o.data = .dict es ep/\es.toList=xs.map (entryOfKey (tupleKind (fQ P w)))/\(xs.map (·.1)).Nodup
noncomputable def nK (P:Program)(w:World)(a:Addr)(kvs:List eZ):HO := .ext (AH P w a kvs)
noncomputable def BD (P:Program)(w:World)(H:Hp)(a:Addr)(kvs:List eZ):Prop:=H a=some (nK P w a kvs)/\∀ x ∈ kvs,H x.2.1=some (.tup (x.1.map xQ))
theorem BD.same {P:Program}{w:World}{H H':Hp}{a:Addr}{kvs:List eZ}(h:BD P w H a kvs)(s:AI H H'):BD P w H' a kvs:=⟨s _ _ h.1,fun x hx=>s _ _ (h.2 x hx)⟩
noncomputable def cY (kvs:List eZ)(k:aX):Option V:=(kvs.find? fun x=>decide (x.1=k)).map (·.2.2)
noncomputable def tj (k:aX)(v:V)(x:eZ):eZ:=if x.1=k then (x.1,x.2.1,v) else x
noncomputable def gq (kvs:List eZ)(k:aX)(b:Addr)(v:V):List eZ:=if (cY kvs k).isSome then kvs.map (tj k v) else kvs ++ [(k,b,v)]
theorem j5 {k:aX}:cY [] k=none:=rfl
theorem cq {x:eZ}{kvs:List eZ}{k:aX}:cY (x :: kvs) k=if x.1=k then some x.2.2 else cY kvs k:=by
 unfold cY
 rw[find?_cons]
 by_cases h:x.1=k
 ·rw[decide_eq_true h,if_pos h];rfl
 ·rw[decide_eq_false h,if_neg h]
theorem uw {kvs:List eZ}{k k':aX}{v:V}:cY (kvs.map (tj k v)) k' = if k' = k then (cY kvs k).map (fun _=>v) else cY kvs k':=by
 induction kvs with
 | nil=>rw[map_nil,j5,j5];split<;>rfl
 | cons x kvs ih =>
  rw[map_cons,cq,ih,cq,cq]
  unfold tj
  by_cases h:x.1=k<;>by_cases h':k' = k
  ·have:x.1=k':=h.trans h'.symm
   simp[h,h']
  ·have:¬ x.1=k':=fun z=>h' (z.symm.trans h)
   rw[if_pos h,if_neg h',if_neg this,if_neg this,if_neg h']
  ·subst h'
   simp[h]
  ·simp[h,h']
theorem nX {kvs:List eZ}{k k':aX}{b:Addr}{v:V}(h:cY kvs k=none):cY (kvs ++ [(k,b,v)]) k' = if k' = k then some v else cY kvs k':=by
 induction kvs with
 | nil =>
  rw[nil_append,cq,j5]
  by_cases e:k' = k
  ·rw[if_pos e,if_pos e.symm]
  ·rw[if_neg e,if_neg (Ne.symm e)]
 | cons x kvs ih =>
  rw[cq]at h
  by_cases hx:x.1=k
  ·rw[if_pos hx]at h;cases h
  ·rw[if_neg hx]at h
   rw[List.cons_append,cq,ih h,cq]
   by_cases e:k' = k
   ·subst e;rw[if_neg hx,if_pos rfl,if_pos rfl]
   ·rw[if_neg e,if_neg e]
theorem j4 {kvs:List eZ}{k k':aX}{b:Addr}{v:V}:cY (gq kvs k b v) k' = if k' = k then some v else cY kvs k':=by
 unfold gq
 cases h:cY kvs k with
 | none=>rw[if_neg (by simp)];exact nX h
 | some u =>
  rw[if_pos (by simp),uw,h];rfl
theorem iY {kvs:List eZ}{k:aX}{b:Addr}{v:V}:(gq kvs k b v).length <= kvs.length + 1:=by
 unfold gq
 split
 ·rw[length_map];omega
 ·rw[length_append];exact Nat.le_refl _
theorem tf {kvs:List eZ}{k:aX}{b:Addr}{v:V}{F:aX->Addr->Prop}(h:∀ x ∈ kvs,F x.1 x.2.1)(hk:F k b):∀ x ∈ gq kvs k b v,F x.1 x.2.1:=by
 intro x hx
 unfold gq at hx
 split at hx
 ·obtain⟨y,hy,rfl⟩:=mem_map.mp hx
  unfold tj
  split
  ·exact h y hy
  ·exact h y hy
 ·rcases mem_append.mp hx with q | q
  ·exact h x q
  ·rw[mem_singleton.mp q];exact hk
theorem sG {kvs:List eZ}{xs:List (aX × Addr × Value)}(r:Paired kU kvs xs)(k:aX):Bw (cY kvs k) ((atKey xs k).map (·.2)):=by
 induction r with
 | nil=>exact True.intro
 | @cons p q _ _ h1 _ ih =>
  rw[cq]
  unfold atKey at ih ⊢
  rw[find?_cons]
  by_cases e:p.1=k
  ·rw[if_pos e,decide_eq_true (h1.1.symm.trans e)];exact h1.2.2
  ·rw[if_neg e,decide_eq_false (fun z=>e (h1.1.trans z))];exact ih
theorem oJ {o:Option V}{u:Option Value}(r:Bw o u):o.isSome=u.isSome:=by
 cases o<;>cases u<;>first | rfl | exact r.elim
theorem sY {o:Option V}{u:Option Value}{d:V}{r:Value}(h:Bw o u)(hd:RelV d r):RelV (o.getD d) (u.getD r):=by
 cases o<;>cases u<;>first | exact hd | exact h | exact h.elim
theorem yi {kvs:List eZ}{xs:List (aX × Addr × Value)}{k:aX}{v:V}{u:Value}(r:Paired kU kvs xs)(hv:RelV v u):Paired kU (kvs.map (tj k v)) (xs.map (putAt k u)):=by
 induction r with
 | nil=>exact .nil
 | @cons p q _ _ h1 _ ih =>
  refine .cons ?_ ih
  unfold tj putAt
  by_cases e:p.1=k
  ·rw[if_pos e,if_pos (h1.1.symm.trans e)];exact⟨h1.1,h1.2.1,hv⟩
  ·rw[if_neg e,if_neg (fun z=>e (h1.1.trans z))];exact h1
theorem w6 {kvs:List eZ}{xs:List (aX × Addr × Value)}{p:eZ}{q:aX × Addr × Value}(r:Paired kU kvs xs)(h:kU p q):Paired kU (kvs ++ [p]) (xs ++ [q]):=by
 induction r with
 | nil=>exact .cons h .nil
 | cons h1 _ ih=>exact .cons h1 ih
theorem yh {kvs:List eZ}{xs:List (aX × Addr × Value)}{k:aX}{b:Addr}{v:V}{u:Value}(r:Paired kU kvs xs)(hv:RelV v u):Paired kU (gq kvs k b v) (storedH xs k b u):=by
 have h:=oJ (sG r k)
 rw[Option.isSome_map]at h
 unfold gq storedH
 rw[h]
 split
 ·exact yi r hv
 ·exact w6 r ⟨rfl,rfl,hv⟩
section
variable {P:Program}{w:World}{H:Hp}{h:Heap}{a b:Addr}{kvs:List eZ}{k:aX}
theorem iD:∀ {k:aX}{us:List Value},Vals (k.map xQ) us->ItemsAre (fQ P w) k us
 | [],_, .nil => .nil
 | none :: _,_, .cons r t => .cons (by have e:_=Value.none:=r;subst e;rfl) (iD t)
 | some i :: _,_, .cons r t => .cons (by obtain⟨tk,e⟩:=(show ∃ t,_=Value.int i t from r);subst e;exact beq_self_eq_true i) (iD t)
theorem mZ (ok:B8 P w H h)(e:H b=some (.tup (k.map xQ))):(tupleKind (fQ P w)).is h k b:=by
 obtain⟨_,AM,r,o,ho,⟨hc,n,hd⟩,_⟩:=ok _ _ e
 exact⟨o,AM.toArray,n,ho,hc,hd,iD r⟩
theorem n8 (ok:B8 P w H h)(e:BD P w H a kvs):kvs.length <= sizeLine/\(a == sysModules)=false/\∃ xs,Paired kU kvs xs/\h.DictOfH (tupleKind (fQ P w)) a xs:=by
 obtain⟨e,ek⟩:=e
 obtain⟨⟨z,hs,xs,r,o,es,ep,h1,h2,h3,h4,h5⟩,_⟩:=ok _ _ e
 refine⟨z,hs,xs,r,o,es,ep,h1,h2,h3,h4,?_,h5⟩
 have all:∀ {kvs:List eZ}{xs:List (aX × Addr × Value)},Paired kU kvs xs->(∀ x ∈ kvs,H x.2.1=some (.tup (x.1.map xQ)))->∀ x ∈ xs,(tupleKind (fQ P w)).is h x.1 x.2.1:=by
  intro kvs xs r
  induction r with
  | nil=>intro _ x hx;cases hx
  | @cons p q _ _ h1 _ ih =>
   intro hk x hx
   rcases mem_cons.mp hx with rfl | hx
   ·have:=hk p mem_cons_self
    rw[h1.1,h1.2.1]at this
    exact mZ ok this
   ·exact ih (fun y hy=>hk y (mem_cons_of_mem _ hy)) x hx
 exact all r ek
theorem lQ (h1 h2:Heap)(p:AH P w a kvs h1)(st:∀ o,h1.get? a=some o->h2.get? a=some o):AH P w a kvs h2:=by
 obtain⟨z,hs,xs,r,o,es,ep,q,c⟩:=p
 exact⟨z,hs,xs,r,o,es,ep,st _ q,c⟩
theorem w8 (hb:sysModules < h.objs.size):Be P w H (h.push { cls := .type "dict",data := .dict #[] }) h.objs.size (nK P w h.objs.size []) :=
 ⟨⟨zero_le _,beq_eq_false_iff_ne.mpr (Ne.symm (ne_of_lt hb)),[], .nil,_,#[],0,Heap.get?_push_size _ rfl,⟨rfl,rfl,rfl⟩,rfl,rfl,nodup_nil⟩,⟨_,Heap.get?_push_size _ rfl⟩,fun _ _=>lQ _ _⟩
end
noncomputable def Jy (P:Program)(w:World)(H:Hp)(a:Addr)(y:V)(r:Option V):Prop:=∃ kvs k b,BD P w H a kvs/\y = .ref b/\H b=some (.tup (k.map xQ))/\r=cY kvs k
section
variable {X:Cx}{pins:List (Addr × Obj)}{σ:St}{H:Hp}{s:Shared}{a b:Addr}{y v d:V}{u r:Value}{o:Option V}{A:Around}{E:Value->Shared->Prop}
theorem Ay (I:Inv X pins σ H s):sysModules < s.heap.objs.size :=
 Nat.lt_trans (by decide) (show mainGlobals < s.heap.objs.size from (I.mod.glob.keeps I.bk).lt)
theorem zV {Q:Value->Shared->Prop}(hu:A.units + 1 < cLine)(I:Inv X pins σ H s)(g:Jy X.prog X.w H a y o)(ry:RelV y u)(rd:RelV d r)(h:∀ w' s',Inv X pins σ H s'->RelV (o.getD d) w'->Q w' s') :
  wpAny (model X.prog X.w) A (call (.builtin "dict.get") [.ref a,u,r]) Q E s:=by
 obtain⟨kvs,k,b,e,rfl,eb,rfl⟩:=g
 cases (show u=Value.ref b from ry)
 obtain⟨_,hd,xs,rel,dd⟩:=n8 I.AR e
 exact call_meetsIn slot_dict_get dd.typeIs entry_dict_get (PySem.F.args_dict_get_3 _ _ _) (meetsH_dict_get_default (tupleKind (fQ X.prog X.w)) a b hd r)
  ⟨tupleKind_room_in1 hu,k,xs,mZ I.AR eb,dd,h _ _ (I.tok _) (sY (sG rel k) rd)⟩
theorem Jz {kvs:List eZ}{k:aX}{Q:Unit->Shared->Prop}(hu:A.units + 1 < cLine)(I:Inv X pins σ H s)(e:BD X.prog X.w H a kvs)(eb:H b=some (.tup (k.map xQ)))(hl:kvs.length < sizeLine)(rv:RelV v r)
  (h:∀ s',Inv X pins σ (aw H a (nK X.prog X.w a (gq kvs k b v))) s'->Q () s'):wpAny (model X.prog X.w) A (setItem (.ref a) (.ref b) r) Q E s:=by
 obtain⟨z,hd,xs,rel,dd⟩:=n8 I.AR e
 have hz:xs.length <= sizeLine:=by rw[← Paired.length rel];exact z
 have E6:(gq kvs k b v).length <= sizeLine:=le_trans iY hl
 refine wpAny_setItem_heap (hsz:=hz) (tupleKind_room_in1 hu) (mZ I.AR eb) dd fun h' E8 hs=>h _ ?_
 obtain⟨q,es,ep,hq,h2,h3,h4,_,h5⟩:=E8
 exact I.write (x:=a) (e:=a) (by rw[e.1];exact True.intro) (.inl rfl) (fun c q hc z=>(hs.2 c hc).trans z) ⟨q,hq⟩
  ⟨⟨E6,hd,_,yh rel rv,q,es,ep,hq,h2,h3,h4,h5⟩,⟨q,hq⟩,fun _ _=>lQ _ _⟩
theorem tY {kvs:List eZ}(I:Inv X pins σ H s)(e:BD X.prog X.w H a kvs):s.TypeIs (.ref a) "dict"/\∀ b,Value.ref a = .ref b->∃ ob,s.heap.get? b=some ob/\ob.dict=none:=by
 obtain⟨_,_,xs,_,dd⟩:=n8 I.AR e
 refine⟨dd.typeIs,fun b q=>?_⟩
 cases q
 obtain⟨ob,_,_,h1,h2,_⟩:=dd
 exact⟨ob,h1,h2.2.1⟩
end
noncomputable def yy (P:Program)(w:World):TE:=fun _ H Q=>∀ p,H p=none->Q (.ref p) (aw H p (nK P w p []))
noncomputable def J0 (P:Program)(w:World)(td ty tv:TE):TS:=fun D σ H=>tv σ H fun v H1=>td σ H1 fun x H2=>ty σ H2 fun y H3=>∃ a kvs k b,x = .ref a/\BD P w H3 a kvs/\y = .ref b/\H3 b=some (.tup (k.map xQ))/\kvs.length < sizeLine/\D.nx σ (aw H3 a (nK P w a (gq kvs k b v)))
noncomputable def yH (P:Program)(w:World)(td:TE)(t:TA):TE:=fun σ H Q=>td σ H fun x H1=>∃ a kvs,x = .ref a/\BD P w H1 a kvs/\t σ H1 fun xs H2=>∃ y z o,xs=[y,z]/\Jy P w H2 a y o/\Q (o.getD z) H2
section
variable {X:Cx}{o i e f value:Expr}{pos pos' apos Bg:Pos}{td ty tv tx:TE}
theorem xu:PE X (.Dict [] [] pos) (yy X.prog X.w):=fun pins s σ H Q I h =>
 wpAny_Dict_empty ⟨.ref s.heap.objs.size,_,I.laid (a:=s.heap.objs.size) (o:=nK X.prog X.w s.heap.objs.size []) (t':=s.toks) (fun _ _ q=>Heap.get?_push_of_some _ q) (Nat.le_refl _) (w8 (Ay I)),rfl,h _ (I.AR.fresh (Nat.le_refl _))⟩
theorem xq (hu:X.A.units + 1 < cLine)(ho:PE X o td)(hi:PE X i ty)(hv:PE X value tv)(hs:swapsWith value (some (.Subscript o i pos')) pos.line X.env=pure false) :
  PS X (.Assign [.Subscript o i pos'] value pos) (J0 X.prog X.w td ty tv):=by
 intro pins s σ H D I h
 refine wpAny_Assign_Subscript (aW (hv pins s σ H _ I h) fun r s1 ⟨v,H1,I1,rv,q1⟩=>aW (ho pins s1 σ H1 _ I1 q1) fun u s2 ⟨x,H2,I2,rx,q2⟩=>aW (hi pins s2 σ H2 _ I2 q2) fun iv s3 AL=>?_) hs
 obtain⟨y,H3,I3,ry,a,kvs,k,b,ex,e,ey,eb,hl,q3⟩:=AL
 subst ex ey
 obtain rfl:u=Value.ref a:=rx
 obtain rfl:iv=Value.ref b:=ry
 exact Jz hu I3 e eb hl rv fun s4 I4=>⟨σ,_,I4,q3⟩
theorem vh {es:List Expr}{t:TA}(hu:X.A.units + 1 < cLine)(ho:PE X o td)(ha:PA X (e :: es) t)
  (h1:autoParam (attributeBase o "get" X.env (eval o X.env)=eval o X.env) η)
  (h2:autoParam (((backTo Bg (starEach (e :: es) X.env)).all (fun x=>!x.1) && (backToKw Bg (keywordEach [] X.env)).all (fun x=>x.1.isSome) && decide ((e :: es).length + ([]:List Keyword).length + (if ([]:List Keyword).isEmpty then 0 else 1) < 30))=true) η)
  (h3:autoParam ((apos.endLine == Bg.line)=true) η) (h4:autoParam (starEach (e :: es) X.env=(false,eval e X.env) :: starEach es X.env) η) (h5:autoParam ((backTo Bg (starEach es X.env)).any (·.1)=false) η) :
  PE X (.Call (.Attribute o "get" apos) (e :: es) [] Bg) (yH X.prog X.w td t):=by
 intro pins s σ H Q I h
 refine wpAny_Call_method_late h1 h2 h3 rfl (aW (ho pins s σ H _ I h) fun v s1 AL=>?_)
 obtain⟨x,H1,I1,r1,a,kvs,ex,e1,q1⟩:=AL
 subst ex
 obtain rfl:v=Value.ref a:=r1
 obtain⟨t1,t2⟩:=tY I1 e1
 refine⟨"dict", "dict.get",plainAttrs_dict,slot_dict_get,PySem.F.type_dict_get,t1,t2,?_⟩
 have hA:=ha Bg pins s1 σ H1 _ I1 q1
 rw[h4]at hA ⊢
 refine Calls.callWith_builtin (by show(false || (backTo Bg (starEach es X.env)).any (·.1))=false;rw[h5]<;>rfl) (Calls.evalArgs_plain ?_)
 refine aW hA fun us s2 AL=>?_
 obtain⟨vs,H2,I2,r2,y,z,ov,evs,g,q2⟩:=AL
 subst evs
 cases r2 with
 | cons ry r2=>cases r2 with
  | cons rz r2=>cases r2 with
   | nil=>exact zV hu I2 g ry rz fun w' s4 I4 D8=>⟨_,H2,I4,D8,q2⟩
end
structure pQ (K:Frag)(C:Addr)(m:Str)(f:Addr):Prop where
 reads:PySem.W.readsIn K C (.type "type")=true
 found:PySem.W.findCls K (.ref C) (.type "type") m=some (.val (.ref f))
 spec:PySem.W.specialIn K (.ref C) "__getattribute__" = some (some (.builtin "type.__getattribute__"))
 kp:keepIn K (.ref f)=true
noncomputable def yM (C:Addr)(sp:Sp)(Cb:List V)(E:XK)(ta:TE)(t:TA):TE:=fun σ H Q=>ta σ H fun x H1=>x = .ref C/\t σ H1 fun vs H2=>sp (vs ++ Cb) H2 Q E
section
variable {X:Cx}{CX:r9}{k:Nat}{f C:Addr}{fd:FuncData}{ps:List Str}{sp:Sp}{Cb:List V}{ds:List Value}{E:XK}{x m:Str}{p pos apos:Pos}{e o:Expr}{es:List Expr}{ta:TE}{t:TA}
theorem gX {pl:Sem Bool}(he:PE X o ta)(hm:pQ X.K C m f)(F:AJ X.prog X.w X.K X.mg X.base CX k f fd ps sp)(hr:AU k X.A)(hb:Binds X.K fd ps ds)(hd:Vals Cb ds)(hx:fL CX X E)(ha:PA X (e :: es) t)
  (h1:autoParam (starEach (e :: es) X.env=(false,eval e X.env) :: starEach es X.env) η) (h2:autoParam ((backTo pos (starEach es X.env)).any (·.1)=false) η)
  (ht:eval (.Call (.Attribute o m apos) (e :: es) [] pos) X.env=(do
   let ov ← eval o X.env
   standAt apos.atName
   let (f,first) ← holding [ov] (getMethod ov m pl)
   callWith pos f first (backTo pos (starEach (e :: es) X.env)) (backToKw pos (keywordEach [] X.env))):=by rfl) :
  PE X (.Call (.Attribute o m apos) (e :: es) [] pos) (yM C sp Cb E ta t):=by
 intro pins s σ H Q I h
 refine PySem.W.methodCall_KW (pl:=pl) (aW (he pins s σ H _ I h) fun u s1 AL=>?_) ht
 obtain⟨x,H1,I1,rx,ex,q⟩:=AL
 subst ex
 obtain rfl:u=Value.ref C:=rx
 refine PySem.W.method_cls I1.BX hm.spec (PySem.W.cls_value I1.BX hm.reads hm.found rfl ?_)
 refine PySem.W.callWith_K (first:=[]) (h₀:=X.base) I.ok.mod.HP hm.kp (aW (ha pos pins _ σ H1 _ (I1.tok _) q) fun us s2 ⟨vs,H2,I2,r,q2⟩=>⟨I2.BX,?_⟩) h1 h2
 exact mQ F hr hb hd hx I2 r q2
end
section
variable {X:Cx}
end
section
variable {X:Cx}{tg:Expr}
noncomputable def O3:V->List V->Hp->VK->Prop:=fun x vs H Q=>∃ (l:Addr)(ns:List Int)(k:Int),x = .ref l/\vs=[.int k]/\H l=some (.lst (ns.map V.int))/\k ∈ ns/\ns.length <= 100000/\Q (.int (ns.idxOf k:Nat)) H
theorem tK:HS X "list.index" O3:=by
 intro pins s σ H x vs v us Q I rx rv h
 obtain⟨l,ns,k,rfl,rfl,hH,hk,hlen,q⟩:=h
 cases rx
 obtain⟨u,rfl,ru⟩:=rv.one
 obtain⟨t,rfl⟩:=ru
 obtain⟨z,AM,n,r,hl,e⟩:=I.En hH
 have hi:IntsAre AM.toArray.toList ns:=kB r
 have Dk:AM.length=ns.length:=by rw[← r.length,length_map]
 have hj:ns.idxOf k < ns.length:=idxOf_lt_length_of_mem hk
 have at_:∀ m (hm:m < AM.toArray.size),∃ t,AM.toArray[m]=Value.int (ns[m]'(by simpa [Dk] using hm)) t:=fun m hm=>by
  have F4:m < AM.length:=by simpa using hm
  have hv:(ns.map V.int)[m]? = some (V.int (ns[m]'(by omega))):=by simp[show m < ns.length by omega]
  obtain⟨w',hw,D8⟩:=r.get hv
  obtain⟨t',rfl⟩:=D8
  refine⟨t',?_⟩
  have:AM[m]? = some AM[m]:=getElem?_eq_getElem F4
  rw[this]at hw
  simpa using Option.some.inj hw
 let e':Value->Bool:=fun y=>Value.isInt k y
 refine call_meets PySem.F.slot_list_index ⟨_,e,rfl⟩ PySem.F.entry_list_index (PySem.F.args_list_index_2 _ _)
  (SeqAt.list_indexAt l AM.toArray n none #[] (.int k t) e' (ns.idxOf k) (by simpa [Dk] using hj) (by omega) ?_ ?_) ⟨e,fun y hy=>?_,?_⟩
 ·obtain⟨t',et⟩:=at_ (ns.idxOf k) (by simpa [Dk] using hj)
  show Value.isInt k (AM.toArray[ns.idxOf k]'(by simpa [Dk] using hj))=true
  rw[et,getElem_idxOf]
  simp[Value.isInt]
 ·intro m hm O4
  obtain⟨t',et⟩:=at_ m hm
  show Value.isInt k AM.toArray[m]=false
  rw[et]
  have Bu:ns[m]'(by simpa [Dk] using hm) ≠ k:=fun z=>by
   have:=List.not_of_lt_findIdx (p:=fun x=>x == k) (xs:=ns) (i:=m) O4
   rw[z]at this
   simp at this
  simp only[Value.isInt,beq_eq_false_iff_ne,ne_eq]
  first | exact Bu | exact fun z=>Bu z.symm
 ·have hm:y ∈ AM:=by simpa using hy
  obtain⟨m,F4,em⟩:=getElem_of_mem hm
  obtain⟨t',et⟩:=at_ m (by simpa using F4)
  have ey:y=Value.int (ns[m]'(by omega)) t':=by rw[← em];simpa using et
  subst ey
  intro prog w E Q' hQ'
  refine wpAny_eqBool_int ?_
  have:(ns[m]'(by omega) == k)=Value.isInt k (Value.int (ns[m]'(by omega)) t'):=by simp[Value.isInt,Bool.beq_comm]
  rw[this]
  exact hQ'
 ·exact⟨.int (ns.idxOf k:Nat),H,I.tok _,⟨_,rfl⟩,q⟩
noncomputable def O5 (K:Frag):List V->Hp->VK->Prop:=fun xs H Q=>∃ (v:V)(t:Value)(c:String)(b:Bool),xs=[v, .ty c]/\i8 K H v t/\kitOne K t (.type c)=some b/\Q (.bl b) H
theorem kL:eF X (.builtin "isinstance") (O5 X.K):=by
 intro pins s σ H xs us Q I r h
 obtain⟨v,t,c,b,rfl,ty,hk,q⟩:=h
 cases r with
 | cons r1 r2=>cases r2 with
  | cons r2 r3 =>
   cases r3
   cases r2
   exact lJ I r1 ty hk fun tk=>⟨.bl b,H,I.tok _,rfl,q⟩
end
section
variable {κ:Type} [DecidableEq κ]
noncomputable def ci (kvs:List (κ × V))(k:κ):Option V:=(kvs.find? fun kv=>decide (kv.1=k)).map (·.2)
noncomputable def cj (kvs:List (κ × V))(k:κ)(v:V):List (κ × V) :=
 if (kvs.any fun kv=>decide (kv.1=k))=true then kvs.map (fun kv=>if kv.1=k then (kv.1,v) else kv) else kvs ++ [(k,v)]
theorem fj {p:κ × V}{r:List (κ × V)}{k:κ}(e:p.1=k):ci (p :: r) k=some p.2:=by simp[ci,find?_cons,e]
theorem fq {p:κ × V}{r:List (κ × V)}{k:κ}(e:¬ p.1=k):ci (p :: r) k=ci r k:=by simp[ci,find?_cons,e]
theorem gH (k:κ):∀ kvs:List (κ × V),(kvs.any fun kv=>decide (kv.1=k))=(ci kvs k).isSome
 | []=>rfl
 | p :: r=>by
  rw[any_cons]
  by_cases e:p.1=k
  ·simp only[fj e,decide_eq_true e,Bool.true_or,Option.isSome_some]
  ·rw[fq e,decide_eq_false e,Bool.false_or];exact gH k r
theorem dN (kvs:List (κ × V))(k:κ)(v:V):(cj kvs k v).length <= kvs.length + 1:=by
 unfold cj
 split
 ·rw[length_map];omega
 ·rw[length_append,length_cons,length_nil];omega
theorem jN {kvs:List (κ × V)}{k:κ}(v:V)(h:ci kvs k=none):cj kvs k v=kvs ++ [(k,v)]:=by
 unfold cj
 rw[gH,h]
 exact if_neg (by decide)
theorem Bw.B0 {o:Option V}{u:Option Value}(r:Bw o u):o.isSome=u.isSome:=by
 cases o with
 | none=>cases u with
  | none=>rfl
  | some _=>exact(show False from r).elim
 | some _=>cases u with
  | none=>exact(show False from r).elim
  | some _=>rfl
theorem Bw.getD {o:Option V}{u:Option Value}{d:V}{d':Value}(r:Bw o u)(rd:RelV d d'):RelV (o.getD d) (u.getD d'):=by
 cases o with
 | none=>cases u with
  | none=>exact rd
  | some _=>exact(show False from r).elim
 | some _=>cases u with
  | none=>exact(show False from r).elim
  | some _=>exact r
theorem KV.val {kvs:List (κ × V)}{vs:List (κ × Value)}(r:KV kvs vs)(k:κ):Bw (ci kvs k) (valueAt vs k):=by
 unfold KV at r
 induction r with
 | nil=>exact True.intro
 | @cons p q ps qs h t ih =>
  obtain⟨h1,h2⟩:=h
  by_cases e:p.1=k
  ·have e':q.1=k:=h1.symm.trans e
   have b:valueAt (q :: qs) k=some q.2:=by simp[valueAt,find?_cons,e']
   rw[fj e,b];exact h2
  ·have e':¬ q.1=k:=fun z=>e (h1.trans z)
   have b:valueAt (q :: qs) k=valueAt qs k:=by simp[valueAt,find?_cons,e']
   rw[fq e,b];exact ih
theorem KV.any {kvs:List (κ × V)}{vs:List (κ × Value)}(r:KV kvs vs)(k:κ):(kvs.any fun kv=>decide (kv.1=k))=vs.any fun kv=>decide (kv.1=k):=by
 unfold KV at r
 induction r with
 | nil=>rfl
 | cons h t ih=>rw[any_cons,any_cons,ih,h.1]
theorem KV.Hf {kvs:List (κ × V)}{vs:List (κ × Value)}(r:KV kvs vs)(k:κ){y:V}{u:Value}(ry:RelV y u) :
  KV (kvs.map fun kv=>if kv.1=k then (kv.1,y) else kv) (vs.map fun kv=>if kv.1=k then (kv.1,u) else kv):=by
 unfold KV at r ⊢
 induction r with
 | nil=>exact .nil
 | @cons p q ps qs h t ih =>
  rw[map_cons,map_cons]
  refine .cons ?_ ih
  obtain⟨h1,h2⟩:=h
  by_cases e:p.1=k
  ·rw[if_pos e,if_pos (h1.symm.trans e)];exact⟨h1,ry⟩
  ·rw[if_neg e,if_neg (fun z=>e (h1.trans z))];exact⟨h1,h2⟩
theorem KV.put {kvs:List (κ × V)}{vs:List (κ × Value)}(r:KV kvs vs)(k:κ){y:V}{u:Value}(ry:RelV y u):KV (cj kvs k y) (stored vs k u):=by
 unfold cj stored
 rw[r.any k]
 by_cases e:(vs.any fun kv=>decide (kv.1=k))=true
 ·rw[if_pos e,if_pos e];exact r.Hf k ry
 ·rw[if_neg e,if_neg e];exact Paired.snoc r ⟨rfl,ry⟩
theorem KV.keys {kvs:List (κ × V)}{vs:List (κ × Value)}(r:KV kvs vs):kvs.map (·.1)=vs.map (·.1):=by
 unfold KV at r
 induction r with
 | nil=>rfl
 | cons h t ih=>rw[map_cons,map_cons,ih,h.1]
theorem KV.length {kvs:List (κ × V)}{vs:List (κ × Value)}(r:KV kvs vs):kvs.length=vs.length:=Paired.length r
end
theorem jg {P:Program}{w:World}{k:Key}{u:Value}(r:RelV (kV k) u):(aO P w).is k u=true:=by
 cases k with
 | inl i=>obtain⟨t,e⟩:=(show ∃ t,u=Value.int i t from r);subst e;exact oT P w i t
 | inr x=>obtain⟨t,e⟩:=(show ∃ t,u=Value.str x t from r);subst e;exact oS P w x t
theorem lI {P:Program}{w:World}:∀ {ks:List Key}{us:List Value},Vals (ks.map kV) us->ItemsAre (aO P w) ks us
 | [],_,r=>by rw[map_nil]at r;cases r;exact .nil
 | k :: ks,_,r=>by
  rw[map_cons]at r
  cases r with
  | cons h t=>exact .cons (jg h) (lI t)
abbrev KT (H:Hp):List (List Key × V)->List (List Key × Addr × Value)->Prop:=Paired fun p q=>p.1=q.1/\H q.2.1=some (.tup (p.1.map kV))/\RelV p.2 q.2.2
theorem KT.val {H:Hp}{kvs:List (List Key × V)}{xs:List (List Key × Addr × Value)}(r:KT H kvs xs)(k:List Key):Bw (ci kvs k) ((atKey xs k).map (·.2)):=by
 induction r with
 | nil=>exact True.intro
 | @cons p q ps qs h t ih =>
  obtain⟨h1,_,h2⟩:=h
  by_cases e:p.1=k
  ·have e':q.1=k:=h1.symm.trans e
   have b:atKey (q :: qs) k=some q.2:=by simp[atKey,find?_cons,e']
   rw[fj e,b];exact h2
  ·have e':¬ q.1=k:=fun z=>e (h1.trans z)
   have b:atKey (q :: qs) k=atKey qs k:=by simp[atKey,find?_cons,e']
   rw[fq e,b];exact ih
theorem KT.Hf {H:Hp}{kvs:List (List Key × V)}{xs:List (List Key × Addr × Value)}(r:KT H kvs xs)(k:List Key){y:V}{u:Value}(ry:RelV y u) :
  KT H (kvs.map fun kv=>if kv.1=k then (kv.1,y) else kv) (xs.map (putAt k u)):=by
 induction r with
 | nil=>exact .nil
 | @cons p q ps qs h t ih =>
  rw[map_cons,map_cons]
  refine .cons ?_ ih
  obtain⟨h1,h2,h3⟩:=h
  unfold putAt
  by_cases e:p.1=k
  ·rw[if_pos e,if_pos (h1.symm.trans e)];exact⟨h1,h2,ry⟩
  ·rw[if_neg e,if_neg (fun z=>e (h1.trans z))];exact⟨h1,h2,h3⟩
theorem KT.put {H:Hp}{kvs:List (List Key × V)}{xs:List (List Key × Addr × Value)}(r:KT H kvs xs)(k:List Key){b:Addr}{y:V}{u:Value}(hb:H b=some (.tup (k.map kV)))(ry:RelV y u) :
  KT H (cj kvs k y) (storedH xs k b u):=by
 have e:(kvs.any fun kv=>decide (kv.1=k))=(atKey xs k).isSome:=by
  rw[gH,(r.val k).B0,Option.isSome_map]
 unfold cj storedH
 rw[e]
 by_cases q:(atKey xs k).isSome=true
 ·rw[if_pos q,if_pos q];exact r.Hf k ry
 ·rw[if_neg q,if_neg q];exact Paired.snoc r ⟨rfl,hb,ry⟩
theorem KT.keeps {H H':Hp}{kvs:List (List Key × V)}{xs:List (List Key × Addr × Value)}(r:KT H kvs xs)(ht:∀ b ys,H b=some (.tup ys)->H' b=some (.tup ys)):KT H' kvs xs :=
 Paired.GO r fun _ _ z=>⟨z.1,ht _ _ z.2.1,z.2.2⟩
section
variable {P:Program}{w:World}{H:Hp}{h:Heap}{a:Addr}
theorem y4 {u:HO}(ok:B8 P w H h)(e:Rd H a u):Be P w H h a u:=e.ok ok
theorem iw {kvs:List (Key × V)}(ok:B8 P w H h)(e:Rd H a (.dK kvs)):kvs.length <= sizeLine/\(a == sysModules)=false/\∃ vs,KV kvs vs/\h.DictOf (aO P w) a vs :=
 show Be P w H h a (.dK kvs) from y4 ok e
theorem sH {kvs:List (Key × V)}(ok:B8 P w H h)(e:H a=some (.dK kvs)):kvs.length <= sizeLine/\(a == sysModules)=false/\∃ vs,KV kvs vs/\h.DictOf (aO P w) a vs:=iw ok (.inl e)
theorem iI {ks:List Key}(ok:B8 P w H h)(e:H a=some (.tup (ks.map kV))):(tupleKind (aO P w)).is h ks a:=by
 obtain⟨_,AM,r,o,h1,⟨h2,n,h3⟩,_⟩:=(show Be P w H h a (.tup (ks.map kV)) from ok a _ e)
 exact⟨o,AM.toArray,n,h1,h2,h3,by simpa using lI r⟩
theorem kF {kvs:List (List Key × V)}(ok:B8 P w H h)(e:Rd H a (.dT kvs)):kvs.length <= sizeLine/\(a == sysModules)=false /\
  ∃ xs,KT H kvs xs/\h.DictOfH (tupleKind (aO P w)) a xs:=by
 obtain⟨z,y,xs,r,o,es,ep,h1,h2,h3,h4,h5⟩:=(show Be P w H h a (.dT kvs) from y4 ok e)
 refine⟨z,y,xs,r,o,es,ep,h1,h2,h3,h4,fun x hx=>?_,h5⟩
 have all:∀ {l:List (List Key × V)}{m:List (List Key × Addr × Value)},KT H l m->∀ x ∈ m,(tupleKind (aO P w)).is h x.1 x.2.1:=by
  intro l m q
  induction q with
  | nil=>intro x hx;exact nomatch hx
  | @cons p q ps qs hq t ih =>
   intro x hx
   rcases mem_cons.mp hx with e | hx
   ·subst e
    exact iI ok (by rw[← hq.1];exact hq.2.1)
   ·exact ih x hx
 exact all r x hx
theorem J4 {kvs:List (List Key × V)}(ok:B8 P w H h)(e:H a=some (.dT kvs)):kvs.length <= sizeLine/\(a == sysModules)=false /\
  ∃ xs,KT H kvs xs/\h.DictOfH (tupleKind (aO P w)) a xs:=kF ok (.inl e)
end
noncomputable def Bx (H:Hp)(a:Addr)(y:V)(r:Option V):Prop :=
 (∃ kvs k,Rd H a (.dK kvs)/\y=kV k/\r=ci kvs k)∨∃ kvs k b,Rd H a (.dT kvs)/\y = .ref b/\H b=some (.tup (k.map kV))/\r=ci kvs k
noncomputable def Dl (H:Hp)(a:Addr)(y v:V)(H':Hp):Prop :=
 (∃ kvs k,H a=some (.dK kvs)/\y=kV k/\kvs.length < sizeLine/\H' = aw H a (.dK (cj kvs k v))) ∨
 ∃ kvs k b,H a=some (.dT kvs)/\y = .ref b/\H b=some (.tup (k.map kV))/\kvs.length < sizeLine/\H' = aw H a (.dT (cj kvs k v))
theorem Bx.k {H:Hp}{a:Addr}{kvs:List (Key × V)}{k:Key}(e:H a=some (.dK kvs)):Bx H a (kV k) (ci kvs k) := .inl ⟨kvs,k, .inl e,rfl,rfl⟩
theorem Dl.k {H:Hp}{a:Addr}{kvs:List (Key × V)}{k:Key}{v:V}(e:H a=some (.dK kvs))(hl:kvs.length < sizeLine):Dl H a (kV k) v (aw H a (.dK (cj kvs k v))) := .inl ⟨kvs,k,e,rfl,hl,rfl⟩
section
variable {X:Cx}{pins:List (Addr × Obj)}{σ:St}{H:Hp}{s:Shared}{a:Addr}{y v:V}{u r:Value}{o:Option V}{A:Around}{E:Value->Shared->Prop}
theorem Inv.big (I:Inv X pins σ H s):sysModules < s.heap.objs.size:=by
 have h:mainGlobals < s.heap.objs.size:=(I.mod.glob.keeps I.bk).lt
 exact Nat.lt_trans (by decide) h
theorem ua {Q:Value->Shared->Prop}(hu:A.units + 1 < cLine)(I:Inv X pins σ H s)(g:Bx H a y (some v))(ry:RelV y u)(h:∀ w' s',Inv X pins σ H s'->RelV v w'->Q w' s') :
  wpAny (model X.prog X.w) A (getItem (.ref a) u) Q E s:=by
 rcases g with ⟨kvs,k,e,ey,l⟩ | ⟨kvs,k,b,e,ey,eb,l⟩
 ·subst ey
  obtain⟨z,hd,vs,rel,dd⟩:=iw I.AR e
  obtain⟨w',hw,D8⟩:=Bw.some_of (v:=v) (o:=valueAt vs k) (by rw[l];exact rel.val k)
  exact wpAny_getItem_of (jg ry) dd.mapOf hw (h w' _ (I.tok _) D8)
 ·subst ey
  cases (show u=Value.ref b from ry)
  obtain⟨z,hd,xs,rel,dd⟩:=kF I.AR e
  obtain⟨w',hw,D8⟩:=Bw.some_of (v:=v) (o:=(atKey xs k).map (·.2)) (by rw[l];exact rel.val k)
  obtain⟨p,hp,RM⟩:=Option.map_eq_some_iff.mp hw
  refine wpAny_getItem_heap (tupleKind_room_in1 hu) (iI I.AR eb) dd hp ?_
  rw[RM]
  exact h w' _ (I.tok _) D8
theorem O6 {Q:Value->Shared->Prop}(hu:A.units + 1 < cLine)(I:Inv X pins σ H s)(g:Bx H a y o)(ry:RelV y u)(h:∀ s',Inv X pins σ H s'->Q (.bool o.isSome) s') :
  wpAny (model X.prog X.w) A (compareOp .In u (.ref a)) Q E s:=by
 rcases g with ⟨kvs,k,e,ey,l⟩ | ⟨kvs,k,b,e,ey,eb,l⟩
 ·subst ey
  obtain⟨z,hd,vs,rel,dd⟩:=iw I.AR e
  refine wpAny_in_of (jg ry) hd dd.mapOf ?_
  rw[← (rel.val k).B0,← l]
  exact h _ (I.tok _)
 ·subst ey
  cases (show u=Value.ref b from ry)
  obtain⟨z,hd,xs,rel,dd⟩:=kF I.AR e
  refine wpAny_in_heap (tupleKind_room_in1 hu) (iI I.AR eb) hd dd ?_
  have q:=(rel.val k).B0
  rw[Option.isSome_map]at q
  rw[← q,← l]
  exact h _ (I.tok _)
theorem yk {Q:Value->Shared->Prop}(hu:A.units + 1 < cLine)(I:Inv X pins σ H s)(g:Bx H a y o)(ry:RelV y u)(h:∀ s',Inv X pins σ H s'->Q (.bool (!o.isSome)) s') :
  wpAny (model X.prog X.w) A (compareOp .NotIn u (.ref a)) Q E s:=by
 rcases g with ⟨kvs,k,e,ey,l⟩ | ⟨kvs,k,b,e,ey,eb,l⟩
 ·subst ey
  obtain⟨z,hd,vs,rel,dd⟩:=iw I.AR e
  refine wpAny_notIn_of (jg ry) hd dd.mapOf ?_
  rw[← (rel.val k).B0,← l]
  exact h _ (I.tok _)
 ·subst ey
  cases (show u=Value.ref b from ry)
  obtain⟨z,hd,xs,rel,dd⟩:=kF I.AR e
  refine wpAny_notIn_heap (tupleKind_room_in1 hu) (iI I.AR eb) hd dd ?_
  have q:=(rel.val k).B0
  rw[Option.isSome_map]at q
  rw[← q,← l]
  exact h _ (I.tok _)
theorem jy {h':Heap}{t':Nat}{ob:HO}(I:Inv X pins σ H s)(mu:Iq (H a))(hs:Heap.SameBut a s.heap h')(he:∃ q,h'.get? a=some q)(new:Be X.prog X.w (aw H a ob) h' a ob) :
  Inv X pins σ (aw H a ob) { s with heap:=h',toks:=t' } :=
 I.write (x:=a) (e:=a) mu (.inl rfl) (fun b q hb z=>(hs.2 b hb).trans z) he new
theorem rn {P:Program}{w:World}{H':Hp}{h':Heap}{kvs:List (Key × V)}{vs:List (Key × Value)}(z:kvs.length <= sizeLine)(hd:(a == sysModules)=false)(rel:KV kvs vs)(dd:h'.DictOf (aO P w) a vs) :
  Be P w H' h' a (.dK kvs):=⟨z,hd,vs,rel,dd⟩
theorem tZ {H':Hp}{Q:Unit->Shared->Prop}(hu:A.units + 1 < cLine)(I:Inv X pins σ H s)(g:Dl H a y v H')(ry:RelV y u)(rv:RelV v r)(h:∀ s',Inv X pins σ H' s'->Q () s') :
  wpAny (model X.prog X.w) A (setItem (.ref a) u r) Q E s:=by
 rcases g with ⟨kvs,k,e,ey,l,eH⟩ | ⟨kvs,k,b,e,ey,eb,l,eH⟩
 ·subst ey eH
  obtain⟨z,hd,vs,rel,dd⟩:=sH I.AR e
  have hz:vs.length <= sizeLine:=by rw[← rel.length];exact z
  have hl:(cj kvs k v).length <= sizeLine:=by have:=dN kvs k v;omega
  refine wpAny_setItem_pairs (hsz:=hz) (jg ry) dd fun h' E8 hs=>h _ ?_
  have he:∃ q,h'.get? a=some q:=let ⟨q,_,_,hq,_⟩:=E8; ⟨q,hq⟩
  exact jy I (by rw[e];exact True.intro) hs he (rn hl hd (rel.put k rv) E8)
 ·subst ey eH
  cases (show u=Value.ref b from ry)
  obtain⟨z,hd,xs,rel,dd⟩:=J4 I.AR e
  have hz:xs.length <= sizeLine:=by rw[← Paired.length rel];exact z
  have hl:(cj kvs k v).length <= sizeLine:=by have:=dN kvs k v;omega
  refine wpAny_setItem_heap (hsz:=hz) (tupleKind_room_in1 hu) (iI I.AR eb) dd fun h' E8 hs=>h _ ?_
  obtain⟨q,es,ep,hq,h2,h3,h4,_,h5⟩:=E8
  refine jy I (by rw[e];exact True.intro) hs ⟨q,hq⟩ ⟨hl,hd,_,(rel.put k eb rv).keeps fun c ys ec=>?_,q,es,ep,hq,h2,h3,h4,h5⟩
  rw[ai (fB ec e (fun z=>nomatch z))]
  exact ec
end
section
variable {X:Cx}{pins:List (Addr × Obj)}{σ:St}{H:Hp}{s:Shared}{a:Addr}{kvs:List (Key × V)}{k:Key}{u:Value}{A:Around}{E:Value->Shared->Prop}
theorem J5 {Q:Value->Shared->Prop}(I:Inv X pins σ H s)(e:Rd H a (.dK kvs))(h:∀ t s',Inv X pins σ H s'->Q (.int kvs.length t) s'):wpAny (model X.prog X.w) A (call (.builtin "len") [.ref a]) Q E s:=by
 obtain⟨z,hd,vs,rel,dd⟩:=iw I.AR e
 refine call_len_dict hd dd (by rw[← rel.length];rw[sizeLine_eq]at z;omega) ?_
 rw[← rel.length]
 exact h _ _ (I.tok _)
end
noncomputable def J6 (i:Expr):Prop:=∀ ov iv,subscripted i false ov iv=operate [ov,iv] (getItem ov iv)
theorem xb {prog:Program}{w:World}{A:Around}{E:Value->Shared->Prop}{s:Shared}{env:Env}{value slice:Expr}{pos:Pos}{T id:String}{Q:Value->Shared->Prop}
  (hl:typeLookup (.type T) "__getitem__" = pure (some (.builtin id))) (hs:J6 slice)
  (h:wpAny (model prog w) A (eval value env) (fun o s₁=>wpAny (model prog w) A (eval slice env) (fun i s₂=>s₂.TypeIs o T/\wpAny (model prog w) A (getItem o i) Q E s₂) E s₁) E s) :
  wpAny (model prog w) A (eval (.Subscript value slice pos) env) Q E s:=by
 refine Subscript_ (wpAny_mono h (fun o s₁ h₁=>wpAny_mono h₁ (fun i s₂ h₂=>?_) fun _ _ x=>x) fun _ _ x=>x)
 obtain⟨hT,h₂⟩:=h₂
 unfold subscriptTail
 refine wpAny_bind ?_
 rw[getitemInPython_of_ne hT.not_modules]
 refine wpAny_bind (wpAny_specialOf hT hl ?_)
 have fin:wpAny (model prog w) A (subscripted slice false o i) (fun r s₃=>wpAny (model prog w) A (letTemporaryGo value o r >>= fun _=>pure r) Q E s₃) E s₂:=by
  rw[hs o i]
  exact wpAny_operating (wpAny_mono h₂ (fun r s₃ h₃=>wpAny_bind (wpAny_letTemporaryGo (wpAny_pure h₃))) fun _ _ x=>x)
 first
  | exact wpAny_pure (wpAny_bind fin)
  | exact wpAny_bind (wpAny_pure (wpAny_bind fin))
  | exact wpAny_bind fin
theorem p9 {X:Cx}{pins:List (Addr × Obj)}{σ:St}{H:Hp}{s:Shared}{a:Addr}{y:V}{o:Option V}(I:Inv X pins σ H s)(g:Bx H a y o):s.TypeIs (.ref a) "dict":=by
 rcases g with ⟨kvs,k,e,_,_⟩ | ⟨kvs,k,b,e,_,_,_⟩
 ·obtain⟨_,_,vs,_,dd⟩:=iw I.AR e
  exact dd.typeIs
 ·obtain⟨_,_,xs,_,dd⟩:=kF I.AR e
  exact dd.typeIs
noncomputable def J7 (td ty:TE):TE:=fun σ H Q=>td σ H fun x H1=>ty σ H1 fun y H2=>∃ a v,x = .ref a/\Bx H2 a y (some v)/\Q v H2
noncomputable def O7 (ty td:TE):TE:=fun σ H Q=>ty σ H fun y H1=>td σ H1 fun x H2=>∃ a o,x = .ref a/\Bx H2 a y o/\Q (.bl o.isSome) H2
noncomputable def xa (ty td:TE):TE:=fun σ H Q=>ty σ H fun y H1=>td σ H1 fun x H2=>∃ a o,x = .ref a/\Bx H2 a y o/\Q (.bl (!o.isSome)) H2
noncomputable def J8 (td ty tv:TE):TS:=fun D σ H=>tv σ H fun v H1=>td σ H1 fun x H2=>ty σ H2 fun y H3=>∃ a H4,x = .ref a/\Dl H3 a y v H4/\D.nx σ H4
section
variable {X:Cx}{o i e value:Expr}{pos pos' Dd:Pos}{td ty tv:TE}
theorem jq (hu:X.A.units + 1 < cLine)(ho:PE X o td)(hi:PE X i ty)(hs:J6 i):PE X (.Subscript o i pos) (J7 td ty):=by
 intro pins s σ H Q I h
 refine xb PySem.F.slot_dict_getitem.lookup hs (aW (ho pins s σ H _ I h) fun u s1 ⟨x,H1,I1,rx,q1⟩=>aW (hi pins s1 σ H1 _ I1 q1) fun iv s2 AL=>?_)
 obtain⟨y,H2,I2,ry,a,v,ex,g,q2⟩:=AL
 subst ex
 obtain rfl:u=Value.ref a:=rx
 exact⟨p9 I2 g,ua hu I2 g ry fun w' s3 I3 D8=>⟨v,H2,I3,D8,q2⟩⟩
theorem zA (hu:X.A.units + 1 < cLine)(hi:PE X i ty)(ho:PE X o td):PC X .In i o (O7 ty td):=by
 intro pins s σ H Q I h
 refine aW (hi pins s σ H _ I h) fun iv s1 ⟨y,H1,I1,ry,q1⟩=>aW (ho pins s1 σ H1 _ I1 q1) fun u s2 AL=>?_
 obtain⟨x,H2,I2,rx,a,ov,ex,g,q2⟩:=AL
 subst ex
 obtain rfl:u=Value.ref a:=rx
 exact O6 hu I2 g ry fun s3 I3=>⟨.bl ov.isSome,H2,I3,rfl,q2⟩
theorem e9 (hu:X.A.units + 1 < cLine)(hi:PE X i ty)(ho:PE X o td):PC X .NotIn i o (xa ty td):=by
 intro pins s σ H Q I h
 refine aW (hi pins s σ H _ I h) fun iv s1 ⟨y,H1,I1,ry,q1⟩=>aW (ho pins s1 σ H1 _ I1 q1) fun u s2 AL=>?_
 obtain⟨x,H2,I2,rx,a,ov,ex,g,q2⟩:=AL
 subst ex
 obtain rfl:u=Value.ref a:=rx
 exact yk hu I2 g ry fun s3 I3=>⟨.bl (!ov.isSome),H2,I3,rfl,q2⟩
theorem jn (hu:X.A.units + 1 < cLine)(ho:PE X o td)(hi:PE X i ty)(hv:PE X value tv)(hs:swapsWith value (some (.Subscript o i pos')) pos.line X.env=pure false) :
  PS X (.Assign [.Subscript o i pos'] value pos) (J8 td ty tv):=by
 intro pins s σ H D I h
 refine wpAny_Assign_Subscript (aW (hv pins s σ H _ I h) fun r s1 ⟨v,H1,I1,rv,q1⟩=>aW (ho pins s1 σ H1 _ I1 q1) fun u s2 ⟨x,H2,I2,rx,q2⟩=>aW (hi pins s2 σ H2 _ I2 q2) fun iv s3 AL=>?_) hs
 obtain⟨y,H3,I3,ry,a,H4,ex,g,q3⟩:=AL
 subst ex
 obtain rfl:u=Value.ref a:=rx
 exact tZ hu I3 g ry rv fun s4 I4=>⟨σ,H4,I4,q3⟩
end
theorem p8 {P:Program}{w:World}{H:Hp}(h:Heap)(hb:sysModules < h.objs.size):Be P w H (h.push { cls := .type "dict",data := .dict #[] }) h.objs.size (.dK []) :=
 ⟨zero_le _,beq_eq_false_iff_ne.mpr (Ne.symm (ne_of_lt hb)),[], .nil,Heap.DictOf.new h⟩
noncomputable def yJ:TE:=fun _ H Q=>∀ p,H p=none->Q (.ref p) (aw H p (.dK []))
section
variable {X:Cx}{pos:Pos}
theorem jT:PE X (.Dict [] [] pos) yJ:=fun pins s σ H Q I h =>
 wpAny_Dict_empty ⟨.ref s.heap.objs.size,_,I.laid (a:=s.heap.objs.size) (o := .dK []) (t':=s.toks) (fun _ _ q=>Heap.get?_push_of_some _ q) (Nat.le_refl _) (p8 s.heap I.big),rfl,h _ (I.AR.fresh (Nat.le_refl _))⟩
end
noncomputable def pY:List (TE × TE)->St->Hp->(List (V × V)->Hp->Prop)->Prop
 | [],_,H,Q=>Q [] H
 | (tk,tv) :: r,σ,H,Q=>tk σ H fun x H1=>tv σ H1 fun y H2=>pY r σ H2 fun ps H3=>Q ((x,y) :: ps) H3
abbrev VV:List (V × V)->List (Value × Value)->Prop:=Paired fun p q=>RelV p.1 q.1/\RelV p.2 q.2
noncomputable def Mf (X:Cx)(pos:Pos)(keys:List (Option Expr))(values:List Expr)(F5:List (TE × TE)):Prop :=
 ∀ (pins:List (Addr × Obj))(s:Shared)(σ:St)(H:Hp)(Q:List (V × V)->Hp->Prop),Inv X pins σ H s->pY F5 σ H Q ->
  wpAny (model X.prog X.w) X.A (evalPairs (pairTrees keys values X.env pos)) (fun vs s'=>∃ ps H',Inv X pins σ H' s'/\VV ps vs/\Q ps H') X.xe s
theorem xt {X:Cx}{pos:Pos}:Mf X pos [] [] []:=fun pins s σ H Q I h=>pairTrees_nil_walk ⟨[],H,I, .nil,h⟩
theorem vg {X:Cx}{pos:Pos}{k v:Expr}{ks:List (Option Expr)}{vs:List Expr}{tk tv:TE}{F5:List (TE × TE)}(hk:PE X k tk)(hv:PE X v tv)(hr:Mf X pos ks vs F5) :
  Mf X pos (some k :: ks) (v :: vs) ((tk,tv) :: F5):=fun pins s σ H Q I h =>
 pairTrees_cons_walk (aW (hk pins s σ H _ I h) fun u s1 ⟨x,H1,I1,rx,q1⟩=>aW (hv pins s1 σ H1 _ I1 q1) fun w2 s2 ⟨y,H2,I2,ry,q2⟩ =>
  aW (hr pins s2 σ H2 _ I2 q2) fun ws s3 AL=>by obtain⟨ps,H3,I3,rel,q3⟩:=AL;exact⟨(x,y) :: ps,H3,I3, .cons ⟨rx,ry⟩ rel,q3⟩)
noncomputable def fF (kvs more:List (Key × V)):List (Key × V):=more.foldl (fun acc kv=>cj acc kv.1 kv.2) kvs
theorem KV.merge:∀ {more:List (Key × V)}{rs:List (Key × Value)}{kvs:List (Key × V)}{vs:List (Key × Value)},KV more rs->KV kvs vs->KV (fF kvs more) (merged vs rs):=by
 intro more rs kvs vs r
 unfold KV at r
 induction r generalizing kvs vs with
 | nil=>intro q;exact q
 | @cons p q ps qs h t ih =>
  intro r0
  have e:KV (cj kvs p.1 p.2) (stored vs q.1 q.2):=by
   have:=r0.put p.1 h.2
   rw[← h.1];exact this
  exact ih e
theorem ge:∀ (more kvs:List (Key × V)),(fF kvs more).length <= kvs.length + more.length
 | [],kvs=>by show kvs.length <= kvs.length + 0;omega
 | p :: r,kvs=>by
  have h1:=ge r (cj kvs p.1 p.2)
  have h2:=dN kvs p.1 p.2
  show(fF (cj kvs p.1 p.2) r).length <= _
  rw[length_cons];omega
theorem kJ {P:Program}{w:World}:∀ {kvs:List (Key × V)}{ws:List (Value × Value)},VV (kvs.map fun kv=>(kV kv.1,kv.2)) ws->∃ rs,Carries (aO P w) ws rs/\KV kvs rs
 | [],_,r=>by rw[map_nil]at r;cases r;exact⟨[],True.intro, .nil⟩
 | p :: kvs,_,r=>by
  rw[map_cons]at r
  cases r with
  | @cons a b as bs h t =>
   obtain⟨rs,c,q⟩:=kJ (P:=P) (w:=w) t
   obtain⟨b1,b2⟩:=b
   exact⟨(p.1,b2) :: rs,⟨jg h.1,rfl,c⟩, .cons ⟨rfl,h.2⟩ q⟩
noncomputable def J9 (F5:List (TE × TE)):TE:=fun σ H Q=>∀ p,H p=none->pY F5 σ (aw H p (.dK [])) fun ps H2=>H2 p=some (.dK [])/\∃ kvs:List (Key × V),ps=kvs.map (fun kv=>(kV kv.1,kv.2))/\kvs.length <= 15/\Q (.ref p) (aw H2 p (.dK (fF [] kvs)))
theorem xx {X:Cx}{pos:Pos}{keys:List (Option Expr)}{values:List Expr}{F5:List (TE × TE)}(h:Mf X pos keys values F5)(BC:keys.all (·.isSome)=true)(hl:keys.length=values.length)(h0:keys ≠ [])
  (h15:keys.length <= 15):PE X (.Dict keys values pos) (J9 F5):=by
 intro pins s σ H Q I q
 have hn:=I.AR.fresh (Nat.le_refl s.heap.objs.size)
 have I1:=I.laid (a:=s.heap.objs.size) (o := .dK []) (h':=s.heap.push { cls := .type "dict",data := .dict #[] }) (t':=s.toks) (fun _ _ q=>Heap.get?_push_of_some _ q) (Nat.le_refl _) (p8 s.heap I.big)
 refine wpAny_Dict_walk (knd:=aO X.prog X.w) BC hl h0 h15 (aW (h pins _ σ _ _ I1 (q _ hn)) fun ws s2 AL=>?_)
 obtain⟨ps,H2,I2,rel,e,kvs,ep,lk,q2⟩:=AL
 subst ep
 obtain⟨rs,c,rk⟩:=kJ (P:=X.prog) (w:=X.w) rel
 obtain⟨z,hd,vs0,r0,dd⟩:=sH I2.AR e
 cases r0
 refine⟨rs,c,dd,fun h' E8 hs=>⟨.ref s.heap.objs.size,_,?_,rfl,q2⟩⟩
 have hz:(fF [] kvs).length <= sizeLine:=by
  have h1:=ge kvs []
  rw[length_nil]at h1
  rw[sizeLine_eq];omega
 have he:∃ q,h'.get? s.heap.objs.size=some q:=let ⟨q,_,_,hq,_⟩:=E8; ⟨q,hq⟩
 exact jy I2 (by rw[e];exact True.intro) hs he (rn hz hd (rk.merge .nil) E8)
structure M1 (X:Cx)(o:Expr)(m:Str)(apos:Pos)(e:Expr)(Bg:Pos):Prop where
 base:attributeBase o m X.env (eval o X.env)=eval o X.env
 By:((backTo Bg (starEach [e] X.env)).all (fun x=>!x.1) && (backToKw Bg (keywordEach [] X.env)).all (fun x=>x.1.isSome)
  && decide (([e]:List Expr).length + ([]:List Keyword).length + (if ([]:List Keyword).isEmpty then 0 else 1) < 30))=true
 line:(apos.endLine == Bg.line)=true
 trees:backTo Bg (starEach [e] X.env)=[(false,eval e X.env)]
structure M2 (X:Cx)(o:Expr)(m:Str)(apos:Pos)(e f:Expr)(Bg:Pos):Prop where
 base:attributeBase o m X.env (eval o X.env)=eval o X.env
 By:((backTo Bg (starEach [e,f] X.env)).all (fun x=>!x.1) && (backToKw Bg (keywordEach [] X.env)).all (fun x=>x.1.isSome)
  && decide (([e,f]:List Expr).length + ([]:List Keyword).length + (if ([]:List Keyword).isEmpty then 0 else 1) < 30))=true
 line:(apos.endLine == Bg.line)=true
 trees:backTo Bg (starEach [e,f] X.env)=[(false,eval e X.env),(false,eval f X.env)]
noncomputable def O8 (H:Hp)(a:Addr):Prop:=(∃ kvs,Rd H a (.dK kvs))∨∃ kvs,Rd H a (.dT kvs)
theorem wg {X:Cx}{pins:List (Addr × Obj)}{σ:St}{H:Hp}{s:Shared}{a:Addr}(I:Inv X pins σ H s)(d:O8 H a) :
  s.TypeIs (.ref a) "dict"/\(∀ b,Value.ref a = .ref b->∃ ob,s.heap.get? b=some ob/\ob.dict=none)/\(a == sysModules)=false:=by
 rcases d with ⟨kvs,e⟩ | ⟨kvs,e⟩
 ·obtain⟨_,hd,vs,_,dd⟩:=iw I.AR e
  refine⟨dd.typeIs,fun b q=>?_,hd⟩
  cases q
  obtain⟨ob,_,_,h1,h2,_⟩:=dd
  exact⟨ob,h1,h2.2.1⟩
 ·obtain⟨_,hd,xs,_,dd⟩:=kF I.AR e
  refine⟨dd.typeIs,fun b q=>?_,hd⟩
  cases q
  obtain⟨ob,_,_,h1,h2,_⟩:=dd
  exact⟨ob,h1,h2.2.1⟩
section
variable {X:Cx}{pins:List (Addr × Obj)}{σ:St}{H:Hp}{s:Shared}{a:Addr}{y d:V}{u r:Value}{o:Option V}{A:Around}{E:Value->Shared->Prop}
theorem Ao {Q:Value->Shared->Prop}(hu:A.units + 1 < cLine)(I:Inv X pins σ H s)(g:Bx H a y o)(ry:RelV y u)(h:∀ w' s',Inv X pins σ H s'->RelV (o.getD .AZ) w'->Q w' s') :
  wpAny (model X.prog X.w) A (call (.builtin "dict.get") [.ref a,u]) Q E s:=by
 rcases g with ⟨kvs,k,e,ey,l⟩ | ⟨kvs,k,b,e,ey,eb,l⟩
 ·subst ey
  obtain⟨z,hd,vs,rel,dd⟩:=iw I.AR e
  refine call_meetsIn slot_dict_get dd.typeIs entry_dict_get (PySem.F.args_dict_get_2 _ _) (meets_dict_get (aO X.prog X.w) a (jg ry) hd) ⟨_,dd.mapOf,h _ _ (I.tok _) ?_⟩
  rw[l]
  exact(rel.val k).getD rfl
 ·subst ey
  cases (show u=Value.ref b from ry)
  obtain⟨z,hd,xs,rel,dd⟩:=kF I.AR e
  refine call_meetsIn slot_dict_get dd.typeIs entry_dict_get (PySem.F.args_dict_get_2 _ _) (meetsH_dict_get (tupleKind (aO X.prog X.w)) a b hd) ⟨tupleKind_room_in1 hu,k,xs,iI I.AR eb,dd,h _ _ (I.tok _) ?_⟩
  rw[l]
  exact(rel.val k).getD rfl
end
noncomputable def yK (td ty:TE):TE:=fun σ H Q=>td σ H fun x H1=>∃ a,x = .ref a/\O8 H1 a/\ty σ H1 fun y H2=>∃ o,Bx H2 a y o/\Q (o.getD .AZ) H2
section
variable {X:Cx}{o e f:Expr}{apos Bg:Pos}{td ty tx:TE}
theorem vj (hu:X.A.units + 1 < cLine)(ho:PE X o td)(he:PE X e ty)(m:M1 X o "get" apos e Bg):PE X (.Call (.Attribute o "get" apos) [e] [] Bg) (yK td ty):=by
 intro pins s σ H Q I h
 refine wpAny_Call_method m.base m.By m.line plainAttrs_dict slot_dict_get PySem.F.type_dict_get (aW (ho pins s σ H _ I h) fun u s1 AL=>?_)
 obtain⟨x,H1,I1,rx,a,ex,d,q1⟩:=AL
 subst ex
 obtain rfl:u=Value.ref a:=rx
 obtain⟨t1,t2,_⟩:=wg I1 d
 refine⟨t1,t2,?_⟩
 rw[m.trees]
 refine Calls.callWith_builtin rfl (Calls.evalArgs_plain (Calls.spliced_cons (aW (he pins s1 σ H1 _ I1 q1) fun iv s2 ⟨y,H2,I2,ry,ov,g,q2⟩=>Calls.spliced_nil ?_)))
 exact Ao hu I2 g ry fun w' s3 I3 D8=>⟨_,H2,I3,D8,q2⟩
end
section
variable {X:Cx}{pins:List (Addr × Obj)}{σ:St}{H:Hp}{s:Shared}{a:Addr}{kvs:List (Key × V)}{A:Around}{E:Value->Shared->Prop}
end
section
variable {X:Cx}{pins:List (Addr × Obj)}{σ:St}{H:Hp}{s:Shared}{a:Addr}{y:V}{u:Value}{A:Around}{E:Value->Shared->Prop}
end
section
variable {X:Cx}
theorem ug:eF X (.builtin "len") (fun xs H Q=>∃ a kvs,xs=[V.ref a]/\H a=some (.dK kvs)/\Q (.int kvs.length) H):=by
 intro pins s σ H xs us Q I r h
 obtain⟨a,kvs,rfl,ha,q⟩:=h
 obtain⟨u,rfl,ru⟩:=nW r
 cases ru
 exact J5 I (.inl ha) fun t s' I'=>⟨.int kvs.length,H,I',⟨t,rfl⟩,q⟩
end
section
variable {κ:Type} [DecidableEq κ]
end
theorem sr {P:Program}{w:World}{k:Key}{u:Value}(h:(aO P w).is k u=true):RelV (kV k) u:=by
 rcases b7 (show k6 k u=true from h) with ⟨i,t,rfl,rfl⟩ | ⟨x,t,rfl,rfl⟩
 ·exact⟨t,rfl⟩
 ·exact⟨t,rfl⟩
noncomputable def DcO (P:Program)(w:World)(o:Obj)(kvs:List (Key × V))(ep:Nat):Prop:=∃ vs es,KV kvs vs/\o.ExactDict/\o.data = .dict es ep/\KeysOf (aO P w) es/\Pairs (aO P w) es.toList vs/\(vs.map (·.1)).Nodup
noncomputable def HW (a:Addr)(o:Obj)(kvs:List (Key × V)):It :=
 ⟨fun i H=>H a=some (.B2 o (.dK kvs))/\i < kvs.length,fun i H x H'=>H' = H/\∃ k,(kvs.map (·.1))[i]? = some k/\x=kV k,fun i H=>H a=some (.B2 o (.dK kvs))/\i=kvs.length⟩
theorem Inv.G6 {X:Cx}{pins:List (Addr × Obj)}{σ:St}{H:Hp}{s:Shared}{a:Addr}{o:Obj}{u:HO}(I:Inv X pins σ H s)(ha:H a=some (.B2 o u)):s.heap.get? a=some o:=(I.AR a _ ha).1
theorem sQ {P:Program}{w:World}{K:Frag}{tg:Expr}(a it:Addr)(o:Obj)(kvs:List (Key × V))(ep:Nat)(hD:DcO P w o kvs ep):nJ P w K tg (HW a o kvs) [it] it (fun i h=>h.IsKeyIter it a i kvs.length ep) where
 mem:=by simp
 obj:=fun i h st b hb=>by
  have e:b=it:=by simpa using hb
  subst e
  obtain⟨ob,e,c,d⟩:=st
  exact⟨ob,e,fun v z=>by rw[d]at z;cases z⟩
 keep:=fun i h h' st k=>by
  obtain⟨ob,e,c,d⟩:=st
  exact⟨ob,k it (by simp) ob e,c,d⟩
 item:=by
  intro X hP hw hK hc i pins s σ H E I hf st hg
  subst hP hw hK
  obtain⟨ha,hi⟩:=hg
  obtain⟨vs,es,rel,d1,d2,d3,d4,d5⟩:=hD
  obtain⟨f0,f1,f2,f3,f4,f5⟩:=hf it (by simp)
  have hl:=rel.length
  have hv:vs[i]? = some (vs[i]'(by omega)):=getElem?_eq_getElem (by omega)
  have st:s.heap.IsKeyIter it a i vs.length ep:=by rw[← hl];exact st
  refine wpAny_pyNext_dict_item (knd:=aO X.prog X.w) (k:=(vs[i]'(by omega)).1) (v:=(vs[i]'(by omega)).2) st ⟨o,es,I.G6 ha,d1,d2,d3,d4,d5⟩ hv fun key h' hk AO sb=>?_
  rw[← hl]at AO
  have I1:Inv X pins σ H { s with heap:=h' }:=I.turned (t':=s.toks) (fun b o hb e=>(sb.2 b hb).trans e) f0 f1 f3 f4 f5
  obtain⟨ob,e,c,d⟩:=id AO
  exact⟨key,rfl,sA (s:={ s with heap:=h' }) e c d (by decide) ⟨_,H,I1,sr hk,⟨rfl,_,by rw[rel.keys,getElem?_map,hv];rfl,rfl⟩,AO,fun b hb=>(hf b hb).1⟩⟩
 done:=by
  intro X hP hw hK hc i pins s σ H E I hf st hg
  subst hP hw hK
  obtain⟨ha,rfl⟩:=hg
  obtain⟨vs,es,rel,d1,d2,d3,d4,d5⟩:=hD
  obtain⟨f0,f1,f2,f3,f4,f5⟩:=hf it (by simp)
  have hl:=rel.length
  have st:s.heap.IsKeyIter it a vs.length vs.length ep:=by rw[← hl];exact st
  exact wpAny_pyNext_dict_end (knd:=aO X.prog X.w) (I.ok.hd hc) st ⟨o,es,I.G6 ha,d1,d2,d3,d4,d5⟩ (List.getElem?_eq_none (Nat.le_refl _)) fun h' eb=>⟨rfl,I.turned (t':=s.toks) (fun b o hb e=>eb b o hb e) f0 f1 f3 f4 f5⟩
 self:=fun _ _ _ _ _ st h=>wpAny_pyIter_keyiter st h
theorem rE:∀ {xs:List V}{us:List Value},xs.length=us.length->(∀ (i:Nat)(x:V)(u:Value),xs[i]? = some x->us[i]? = some u->RelV x u)->Vals xs us:=by
 intro xs;induction xs with
 | nil=>intro us hl h;cases us with|nil=>exact .nil|cons=>cases hl
 | cons x xs ih=>intro us hl h;cases us with|nil=>cases hl|cons u us=>exact .cons (h 0 x u rfl rfl) (ih (by simpa using hl) fun i x u hx hu=>h (i + 1) x u hx hu)
section
variable {X:Cx}{tg:Expr}
noncomputable def JA (tl:TE):TI:=fun σ H R=>tl σ H fun x H1=>∃ a kvs,x = .ref a/\H1 a=some (.dK kvs)/\∀ o,R (HW a o kvs) (aw H1 a (.B2 o (.dK kvs)))
theorem jo {l:Expr}{tl:TE}(hl:PE X l tl):PI X tg l (JA tl):=by
 intro pins s σ H R I h
 refine aW (hl pins s σ H _ I h) fun v s1 AL=>?_
 obtain⟨x,H1,I1,r1,q1⟩:=AL
 obtain⟨a,kvs,e,ha,q⟩:=q1
 subst e
 cases r1
 obtain⟨z,hd,vs,rel,o,es,ep,eo,d1,d2,d3,d4,d5⟩:=sH I1.AR ha
 have I2:Inv X pins σ (aw H1 a (.B2 o (.dK kvs))) s1:=I1.write (x:=a) (e:=a) (h':=s1.heap) (t':=s1.toks) (by rw[ha];trivial) (.inl rfl) (fun b u _ q=>q) ⟨_,eo⟩ ⟨eo,z,hd,vs,rel,o,es,ep,eo,d1,d2,d3,d4,d5⟩
 refine wpAny_pyIter_dict (knd:=aO X.prog X.w) hd ⟨o,es,eo,d1,d2,d3,d4,d5⟩ ?_
 refine⟨s1.heap.objs.size,[s1.heap.objs.size],_,_,_,rfl,I2.kept (t':=s1.toks) fun b o e=>Heap.get?_push_of_some _ e,sQ a _ o kvs ep ⟨vs,es,rel,d1,d2,d3,d4,d5⟩,⟨_,Heap.get?_push_size _ rfl,rfl,by rw[rel.length];rfl⟩,fun b hb=>?_,q o⟩
 have e:b=s1.heap.objs.size:=by simpa using hb
 subst e
 exact I2.D1 (Nat.le_refl _) (I2.AR.fresh (Nat.le_refl _))
theorem p5 {a:Addr}{o:Obj}{kvs:List (Key × V)}{g:TG}{tb:TS}{D:lj}{σ:St}{H:Hp}(Pv:Nat->St->Hp->Prop)(h0:Pv 0 σ H)(hl:∀ i σ H,i <= kvs.length->Pv i σ H->H a=some (.B2 o (.dK kvs)))
  (hs:∀ i k σ H,(kvs.map (·.1))[i]? = some k->Pv i σ H->g (kV k) σ H fun σ2 H2=>tb { D with nx:=Pv (i + 1),ct:=Pv (i + 1),bk:=D.nx } σ2 H2) (hd:∀ σ H,Pv kvs.length σ H->D.nx σ H) :
  ∃ W:Nat->Nat->St->Hp->Prop,(∃ m,W 0 m σ H)/\∀ i m σ H,W i m σ H ->
   ((HW a o kvs).stop i H/\D.nx σ H)∨((HW a o kvs).go i H/\∃ N:St->Hp->Prop,(∀ σ' H',N σ' H'->∃ m',m' < m/\W (i + 1) m' σ' H')/\∀ x H',(HW a o kvs).Fd i H x H'->g x σ H' fun σ2 H2=>tb { D with nx:=N,ct:=N,bk:=D.nx } σ2 H2):=by
 refine⟨fun i m σ H=>m=kvs.length - i/\i <= kvs.length/\Pv i σ H,⟨kvs.length,by simp,zero_le _,h0⟩,?_⟩
 rintro i m σ H ⟨rfl,hi,p⟩
 have q:=hl i σ H hi p
 by_cases AV:i < kvs.length
 ·refine .inr ⟨⟨q,AV⟩,Pv (i + 1),fun σ' H' p'=>⟨kvs.length - (i + 1),by omega,rfl,AV,p'⟩,fun x H' y=>?_⟩
  obtain⟨e,k,hk,ex⟩:=y
  subst e ex
  exact hs i k σ _ hk p
 ·have e:i=kvs.length:=by omega
  subst e
  exact .inl ⟨⟨q,rfl⟩,hd σ H p⟩
theorem kK (hc:X.calm=true):eF X (.type "list") (fun xs H Q=>∃ a kvs,xs=[.ref a]/\Rd H a (.dK kvs)/\∀ l,H l=none->Q (.ref l) (aw H l (.lst (kvs.map fun p=>kV p.1)))):=by
 intro pins s σ H xs us Q I r h
 obtain⟨a,kvs,rfl,ha,q⟩:=h
 obtain⟨u,rfl,ru⟩:=r.one
 cases ru
 obtain⟨z,hd,vs,rel,o,es,ep,eo,d1,d2,d3,d4,d5⟩:=iw I.AR ha
 have hD:s.heap.DictAt (aO X.prog X.w) a vs ep:=⟨o,es,eo,d1,d2,d3,d4,d5⟩
 refine PySem.W.kdl_call (PySem.W.kdl_dict (knd:=aO X.prog X.w) (kvs:=vs) (ep:=ep) hd) (I.ok.hd hc) hD (by rw[← rel.length];exact z) fun h' tk acc c keep hl it=>?_
 have hv:Vals (kvs.map fun p=>kV p.1) acc.toList:=by
  refine rE (by rw[length_map,rel.length];exact it.1.symm) fun i x u hx hu=>?_
  obtain⟨k,y,hk,hku⟩:=it.2 i u (by simpa using hu)
  have e1:(kvs.map (·.1))[i]? = some k:=by rw[rel.keys,getElem?_map,hk];rfl
  have e2:x=kV k:=by
   rw[getElem?_map]at hx e1
   cases RN:kvs[i]? with
   | none=>rw[RN]at e1;cases e1
   | some p =>
    rw[RN]at hx e1
    have e1:p.1=k:=Option.some.inj e1
    have hx:kV p.1=x:=Option.some.inj hx
    rw[← hx,e1]
  rw[e2]
  exact sr hku
 refine⟨.ref _,_,I.laid (a:=s.heap.objs.size) (o := .lst (kvs.map fun p=>kV p.1)) (t':=tk) (fun b q hq=>keep b q hq) (Nat.le_refl _) ⟨by rw[length_map];exact z,acc.toList,c,hv,by simpa using hl⟩,rfl,q _ (I.AR.fresh (Nat.le_refl _))⟩
end
theorem xX:typeLookup (.type "list_reverseiterator") "__len__" = pure none:=by rw[typeLookup_type,builtinLookup_eq_fast];kernel_rfl
theorem vY:typeLookup (.type "list_reverseiterator") "__length_hint__" = pure (some (.builtin "list_reverseiterator.__length_hint__")):=by rw[typeLookup_type,builtinLookup_eq_fast];kernel_rfl
section
variable {prog:Program}{w:World}{A:Around}{E:Value->Shared->Prop}{s:Shared}{I:Addr}{fp wr:List Addr}{G:Array GenState->Array GenState->Prop}{n:Nat}{P:Nat->Value->Prop}{St:Nat->Shared->Prop}
end
theorem nU:∀ {xs:List V}{us:List Value},xs.length=us.length->(∀ (i:Nat)(x:V)(u:Value),xs[i]? = some x->us[i]? = some u->RelV x u)->Vals xs us
 | [],[],_,_ => .nil
 | x :: xs,u :: us,hl,h => .cons (h 0 x u rfl rfl) (nU (by simpa using hl) fun i x u hx hu=>h (i + 1) x u hx hu)
section
variable {X:Cx}
end
section
variable {X:Cx}
end
section
variable {prog:Program}{w:World}{A:Around}{E:Value->Shared->Prop}{s:Shared}
end
section
variable {X:Cx}{pins:List (Addr × Obj)}{σ:St}{H:Hp}{s:Shared}{a:Addr}{o:Obj}{u:HO}
theorem Inv.O9 (I:Inv X pins σ H s)(ha:H a=some (.B2 o u))(h0:∀ o' u',X.H₀ a ≠ some (.B2 o' u')):Inv X pins σ (aw H a u) s:=by
 have no:∀ b,H b=none->b ≠ a:=fun b e z=>by rw[z,ha]at e;cases e
 have ot:∀ b x,H b=some x->(∀ o' u',x ≠ .B2 o' u')->b ≠ a:=fun b x e n z=>by rw[z,ha]at e;exact n _ _ (Option.some.inj e).symm
 refine⟨I.ok,I.os,I.bare,⟨I.base.keep,I.base.slot,fun b ob q n hx=>?_,I.base.there,fun b xs q=>?_,fun b o' u' q=>?_,fun b ps q=>?_⟩,I.loc,I.cell,?_,fun x c hc=>?_,fun p hp=>?_,fun b x q=>?_,I.len⟩
 ·have z:=I.base.free b ob q n hx
  rw[ai (no b z)];exact z
 ·have z:=I.base.C3 b xs q
  rw[ai (ot b _ z (fun _ _ w=>by cases w))];exact z
 ·have z:=I.base.Cr b o' u' q
  rw[ai (fun w=>h0 o' u' (by rw[← w];exact q))];exact z
 ·obtain⟨m,z⟩:=I.base.C4 b ps q
  exact⟨m,by rw[ai (ot b _ z (fun _ _ w=>by cases w))];exact z⟩
 ·rw[ai (no _ I.free)];exact I.free
 ·rw[ai (no _ (I.Bp x c hc))];exact I.Bp x c hc
 ·obtain⟨h1,h2,h3⟩:=I.pin p hp
  exact⟨h1,by rw[ai (no _ h2)];exact h2,h3⟩
 ·have own:∀ d c,H d=some (.own c)->(aw H a u) d=some (.own c):=fun d c z=>by rw[ai (ot d _ z (fun _ _ w=>by cases w))];exact z
  have tup:∀ d ys,H d=some (.tup ys)->(aw H a u) d=some (.tup ys):=fun d ys z=>by rw[ai (ot d _ z (fun _ _ w=>by cases w))];exact z
  by_cases hb:b=a
  ·subst hb
   rw[ad]at q
   cases q
   exact(I.AR b _ ha).2.B9 (fun d v _ z=>z) (fun d z=>own d b z) fun d ys z=>tup d ys z
  ·rw[ai hb]at q
   exact(I.AR b _ q).B9 (fun d v _ z=>z) (fun d z=>own d b z) fun d ys z=>tup d ys z
end
noncomputable def Thw (H₀ H:Hp)(G:Hp->Prop):Prop:=∃ a o u,H a=some (.B2 o u)/\(∀ o' u',H₀ a ≠ some (.B2 o' u'))/\G (aw H a u)
section
variable {X:Cx}
theorem rZ {e:Expr}{t:TE}(h:PE X e t):PE X e (fun σ H Q=>t σ H fun v H1=>Thw X.H₀ H1 (Q v)):=fun pins s σ H Q I q =>
 aW (h pins s σ H _ I q) fun u s1 AL=>by obtain⟨v,H1,I1,r,a,o,x,ha,h0,k⟩:=AL;exact⟨v,_,I1.O9 ha h0,r,k⟩
end
section
variable {X:Cx}{elts:List Expr}{kk:Nat}{Dd:Pos}
end
section
variable {X:Cx}{o e f:Expr}{apos Bg:Pos}{td ty tx:TE}
noncomputable def JB (td ty tx:TE):TE:=fun σ H Q=>td σ H fun x H1=>∃ a,x = .ref a/\O8 H1 a/\ty σ H1 fun y H2=>tx σ H2 fun z H3=>∃ kvs k,H3 a=some (.dK kvs)/\y=kV k/\kvs.length < sizeLine /\
 (∀ v,ci kvs k=some v->Q v H3)/\(ci kvs k=none->Q z (aw H3 a (.dK (cj kvs k z))))
theorem xw (ho:PE X o td)(he:PE X e ty)(hf:PE X f tx)(m:M2 X o "setdefault" apos e f Bg):PE X (.Call (.Attribute o "setdefault" apos) [e,f] [] Bg) (JB td ty tx):=by
 intro pins s σ H Q I h
 refine wpAny_Call_method m.base m.By m.line plainAttrs_dict PySem.F.slot_dict_setdefault PySem.F.type_dict_setdefault (aW (ho pins s σ H _ I h) fun u s1 AL=>?_)
 obtain⟨x,H1,I1,rx,a,ex,d,q1⟩:=AL
 subst ex
 obtain rfl:u=Value.ref a:=rx
 obtain⟨t1,t2,_⟩:=wg I1 d
 refine⟨t1,t2,?_⟩
 rw[m.trees]
 refine Calls.callWith_builtin rfl (Calls.evalArgs_plain (Calls.spliced_cons (aW (he pins s1 σ H1 _ I1 q1) fun iv s2 ⟨y,H2,I2,ry,q2⟩ =>
  Calls.spliced_cons (aW (hf pins s2 σ H2 _ I2 q2) fun fv s3 ⟨z,H3,I3,rz,kvs,k,ea,ey,hl,q3,q4⟩=>Calls.spliced_nil ?_))))
 subst ey
 obtain⟨z',hd,vs,rel,dd⟩:=sH I3.AR ea
 have hr:=rel.val k
 refine call_meetsIn PySem.F.slot_dict_setdefault dd.typeIs PySem.F.entry_dict_setdefault (PySem.F.args_dict_setdefault_3 _ _ _) (kt_meets_setdefault (aO X.prog X.w) a (jg ry) hd _) ⟨vs,dd,by rw[← rel.length];exact z',fun v hv=>?_,fun hn h' E8 hs=>?_⟩
 ·rw[hv]at hr
  cases e:ci kvs k with
  | none=>rw[e]at hr;exact hr.elim
  | some v'=>rw[e]at hr;exact⟨v',H3,I3.tok _,hr,q3 v' e⟩
 ·have e:ci kvs k=none:=by
   rw[hn]at hr
   cases e:ci kvs k with
   | none=>rfl
   | some v'=>rw[e]at hr;exact hr.elim
  have Mg:∃ q,h'.get? a=some q:=let ⟨q,_,_,hq,_⟩:=E8; ⟨q,hq⟩
  have hp:(cj kvs k z).length <= sizeLine:=by have:=dN kvs k z;omega
  exact⟨z,_,jy I3 (by rw[ea];exact True.intro) hs Mg (rn hp hd (rel.put k rz) E8),rz,q4 e⟩
end
section
variable {X:Cx}{pins:List (Addr × Obj)}{σ:St}{H:Hp}{s:Shared}
theorem Inv.Hg {h':Heap}{t':Nat}{ch:List Addr}{p:Addr}{xs:List V}{us:List Value}(I:Inv X pins σ H s)(fc:∀ c ∈ ch,eY X pins H c)(hp:s.heap.objs.size <= p)
  (k:∀ c o,c ∉ ch->s.heap.get? c=some o->h'.get? c=some o) (hl:xs.length <= sizeLine) (r:Vals xs us) (ht:B7 h' p us.toArray) :
  Inv X pins σ (aw H p (.tup xs)) { s with heap:=h',toks:=t' }:=by
 have hf:H p=none:=I.AR.fresh hp
 have nt:∀ c u,H c=some u->c ≠ p:=fun c u q z=>by rw[z,hf]at q;cases q
 have lt:∀ c o,s.heap.get? c=some o->c ≠ p:=fun c o q=>ne_of_lt (lt_of_lt_of_le (lt_size q) hp)
 refine I.call (g':=s.gens) (d':=s.drawn) (ch:=ch) ⟨fun c o e n h1 h2=>k c o h2 e,fun c o e n h1 h2=>⟨o.slots,k c o h2 e⟩,fun c o e n h2=>by rw[ai (lt c o e)];exact n,
  fun c o e h2=>⟨o,k c o h2 e⟩,fun c ys q=>by rw[ai (nt c _ q)];exact q,fun c o u q=>by rw[ai (nt c _ q)];exact q,fun c ps q=>⟨#[],by rw[ai (nt c _ q),q];simp⟩⟩ (fun c u q=>?_) I.bare fun c hc=>?_
 ·by_cases hc:c=p
  ·subst hc
   rw[ad]at q
   cases q
   exact⟨hl,us,r,ht⟩
  ·rw[ai hc]at q
   refine(I.AR c u q).B9 (fun d v hd z=>?_) (fun d z=>by rw[ai (nt d _ z)];exact z) fun d ys z=>by rw[ai (nt d _ z)];exact z
   have nd:d ∉ ch:=fun w=>by
    have he:=(fc d w).1
    rcases hd with rfl | hd
    ·rw[he]at q;cases q
    ·rw[he]at hd;cases hd
   exact k d v nd z
 ·obtain⟨f0,f1,_,f3,f4,f5⟩:=fc c hc
  exact⟨f3,f1,f4,f5⟩
theorem Inv.F6 {h':Heap}{t':Nat}{ch:List Addr}(I:Inv X pins σ H s)(fc:∀ c ∈ ch,eY X pins H c)(k:∀ c o,c ∉ ch->s.heap.get? c=some o->h'.get? c=some o):Inv X pins σ H { s with heap:=h',toks:=t' }:=by
 refine I.call (g':=s.gens) (d':=s.drawn) (ch:=ch) ⟨fun c o e n h1 h2=>k c o h2 e,fun c o e n h1 h2=>⟨o.slots,k c o h2 e⟩,fun c o e n h2=>n,
  fun c o e h2=>⟨o,k c o h2 e⟩,fun c ys q=>q,fun c o u q=>q,fun c ps q=>⟨#[],by rw[q];simp⟩⟩ (fun c u q=>?_) I.bare fun c hc=>?_
 ·refine(I.AR c u q).B9 (fun d v hd z=>?_) (fun d z=>z) fun d ys z=>z
  have nd:d ∉ ch:=fun w=>by
   have he:=(fc d w).1
   rcases hd with rfl | hd
   ·rw[he]at q;cases q
   ·rw[he]at hd;cases hd
  exact k d v nd z
 ·obtain⟨f0,f1,_,f3,f4,f5⟩:=fc c hc
  exact⟨f3,f1,f4,f5⟩
end
noncomputable def RO (K:Frag)(a b:Addr):It :=
 ⟨fun i H=>∃ xs ys x y,AQ K H a xs/\AQ K H b ys/\xs[i]? = some x/\ys[i]? = some y,
  fun i H v H'=>∃ p,H p=none/\v = .ref p/\∀ xs ys,AQ K H a xs->AQ K H b ys->∃ x y,xs[i]? = some x/\ys[i]? = some y/\H' = aw H p (.tup [x,y]),
  fun i H=>∃ xs ys,AQ K H a xs/\AQ K H b ys/\(xs[i]? = none∨ys[i]? = none)⟩
noncomputable def yC (z ti to i1 i2 a b:Addr)(i:Nat)(h:Heap):Prop:=IsZip h z ti to .none/\IsPair h ti (.ref i1) (.ref i2)/\(∃ x y,IsPair h to x y)/\h.IsListIter i1 a i/\h.IsListIter i2 b i
theorem ll {z ti to i1 i2 a b:Addr}{i:Nat}{h:Heap}{xs ys:Array Value}(t:yC z ti to i1 i2 a b i h)(n1:ti ≠ to)(n2:i1 ≠ i2)(ha:h.IsList a xs)(hb:h.IsList b ys):ZipApart z ti to i1 i2 a b:=by
 obtain⟨hz,Ep,⟨x,y,Ea⟩,⟨o1,e1,c1,d1⟩,o2,e2,c2,d2⟩:=t
 obtain⟨oa,ea,ca,da⟩:=ha
 obtain⟨ob,eb,cb,db⟩:=hb
 have cls:∀ {p q:Addr}{o u:Obj}{s t:String},h.get? p=some o->h.get? q=some u->o.cls = .type s->u.cls = .type t->s ≠ t->p ≠ q:=fun e f g k n m=>by
  subst m
  rw[e]at f
  cases f
  rw[g]at k
  injection k with k
  exact n k
 exact⟨cls Ep hz rfl rfl (by decide),cls Ea hz rfl rfl (by decide),cls e1 hz c1 rfl (by decide),cls e2 hz c2 rfl (by decide),n1,cls Ep e1 rfl c1 (by decide),cls Ep e2 rfl c2 (by decide),cls Ea e1 rfl c1 (by decide),cls Ea e2 rfl c2 (by decide),n2,
  cls ea hz ca rfl (by decide),cls ea Ea ca rfl (by decide),cls ea e1 ca c1 (by decide),cls ea e2 ca c2 (by decide),cls eb hz cb rfl (by decide),cls eb Ea cb rfl (by decide),cls eb e1 cb c1 (by decide),cls eb e2 cb c2 (by decide)⟩
theorem uy {P:Program}{w:World}{K:Frag}{elts:List Expr}{kk:Nat}{pos:Pos}(a b z ti to i1 i2:Addr)(n1:ti ≠ to)(n2:i1 ≠ i2):nJ P w K (.Tuple elts kk pos) (RO K a b) [z,ti,to,i1,i2] z (yC z ti to i1 i2 a b) where
 mem:=by simp
 obj:=fun i h st c hc=>by
  obtain⟨hz,Ep,⟨x,y,Ea⟩,⟨o1,e1,c1,d1⟩,o2,e2,c2,d2⟩:=st
  have Dz:c=z∨c=ti∨c=to∨c=i1∨c=i2:=by simpa using hc
  rcases Dz with rfl | rfl | rfl | rfl | rfl
  ·exact⟨_,hz,fun v q=>by have q':Data.fields _=Data.cell v:=q;cases q'⟩
  ·exact⟨_,Ep,fun v q=>by have q':Data.seq _ _=Data.cell v:=q;cases q'⟩
  ·exact⟨_,Ea,fun v q=>by have q':Data.seq _ _=Data.cell v:=q;cases q'⟩
  ·exact⟨o1,e1,fun v q=>by rw[d1]at q;cases q⟩
  ·exact⟨o2,e2,fun v q=>by rw[d2]at q;cases q⟩
 keep:=fun i h h' st k=>by
  obtain⟨hz,Ep,⟨x,y,Ea⟩,h1,h2⟩:=st
  exact⟨k z (by simp) _ hz,k ti (by simp) _ Ep,⟨x,y,k to (by simp) _ Ea⟩,h1.at fun o q=>k i1 (by simp) o q,h2.at fun o q=>k i2 (by simp) o q⟩
 item:=by
  intro X hP hw hK hc i pins s σ H E I hf st hg
  subst hP hw hK
  obtain⟨xs,ys,x,y,Fg,F7,hx,hy⟩:=hg
  obtain⟨Hh,Mh,p1,RP⟩:=I.list Fg
  obtain⟨Ct,Mj,p2,RQ⟩:=I.list F7
  obtain⟨u1,Er,ru1⟩:=Mh.get hx
  obtain⟨u2,OA,ru2⟩:=Mj.get hy
  have A:=ll st n1 n2 p1.isList p2.isList
  obtain⟨hz,Ep,⟨v1,v2,Ea⟩,h1,h2⟩:=st
  refine wpAny_pyNext_zip_item A hz Ep Ea h1 h2 p1.isList p2.isList (x:=u1) (y:=u2) (by simpa using Er) (by simpa using OA) fun h' a1 a2 a3 a4 a5 a6 hk=>⟨_,rfl,?_⟩
  refine wpAny_letOwnedTupleGo_zip a1 fun CP b1 b2=>?_
  have AV:∀ c o,s.heap.get? c=some o->c ≠ s.heap.objs.size:=fun c o q=>ne_of_lt (lt_size q)
  have nz:s.heap.objs.size ≠ z:=Ne.symm (AV _ _ hz)
  have CI:∀ c o,c ≠ z->h'.get? c=some o->CP.get? c=some o:=fun c o q e=>(b2.2 c q).trans e
  have I2:Inv X pins σ (aw H s.heap.objs.size (.tup [x,y])) { s with heap:=CP }:=by
   refine Inv.Hg (s:=s) (h':=CP) (t':=s.toks) (us:=[u1,u2]) I hf (Nat.le_refl _) (fun c o hn q=>?_) (by show 2 <= sizeLine;decide) (.cons ru1 (.cons ru2 .nil)) ⟨_,CI _ _ nz a5,⟨rfl,_,rfl⟩,rfl⟩
   simp only[mem_cons,not_mem_nil,or_false,not_or]at hn
   exact CI c o hn.1 (hk c o hn.1 hn.2.2.1 hn.2.2.2.1 hn.2.2.2.2 q)
  refine⟨.ref s.heap.objs.size,_,I2,rfl,⟨_,I.AR.fresh (Nat.le_refl _),rfl,fun zs ws g1 g2=>⟨x,y,by rw[I.BP g1 Fg];exact hx,by rw[I.BP g2 F7];exact hy,rfl⟩⟩,⟨b1,CI _ _ A.TIz (hk _ _ A.TIz A.TITO A.TIi1 A.TIi2 Ep),⟨_,_,CI _ _ A.TOz a2⟩,a3.at fun o q=>CI _ o A.i1z q,a4.at fun o q=>CI _ o A.i2z q⟩,fun c hc=>?_⟩
  have hl:c ≠ s.heap.objs.size:=by
   have Dz:c=z∨c=ti∨c=to∨c=i1∨c=i2:=by simpa using hc
   obtain⟨o1,e1,_⟩:=h1
   obtain⟨o2,e2,_⟩:=h2
   rcases Dz with rfl | rfl | rfl | rfl | rfl
   ·exact AV _ _ hz
   ·exact AV _ _ Ep
   ·exact AV _ _ Ea
   ·exact AV _ _ e1
   ·exact AV _ _ e2
  rw[ai hl]
  exact(hf c hc).1
 done:=by
  intro X hP hw hK hc i pins s σ H E I hf st hg
  subst hP hw hK
  obtain⟨xs,ys,Fg,F7,Hi⟩:=hg
  obtain⟨Hh,Mh,p1,RP⟩:=I.list Fg
  obtain⟨Ct,Mj,p2,RQ⟩:=I.list F7
  have A:=ll st n1 n2 p1.isList p2.isList
  obtain⟨hz,Ep,⟨v1,v2,Ea⟩,h1,h2⟩:=st
  have he:Hh.toArray[i]? = none∨Ct.toArray[i]? = none:=by
   rcases Hi with q | q
   ·exact .inl (by simpa using Mh.none_of q)
   ·exact .inr (by simpa using Mj.none_of q)
  refine wpAny_pyNext_zip_end (I.ok.hd hc) A hz Ep Ea h1 h2 p1.isList p2.isList he fun h' hk=>⟨rfl,?_⟩
  refine I.F6 (t':=s.toks) hf fun c o hn q=>?_
  simp only[mem_cons,not_mem_nil,or_false,not_or]at hn
  exact hk c o hn.1 hn.2.2.1 hn.2.2.2.1 hn.2.2.2.2 q
 self:=fun _ _ _ _ _ st h=>wpAny_pyIter_zip st.1 h
section
variable {X:Cx}{elts:List Expr}{kk:Nat}{Dd p pos:Pos}{e1 e2:Expr}
noncomputable def OB (K:Frag)(t:TA):TI:=fun σ H R=>t σ H fun vs H1=>∃ a b,vs=[.ref a, .ref b]/\(∃ xs,AQ K H1 a xs)/\(∃ ys,AQ K H1 b ys)/\R (RO K a b) H1
theorem zr {t:TA}(hg:Gl X "zip")(hm:X.mg "zip" = none)(ha:PA X [e1,e2] t)(hs:autoParam (starEach [e1,e2] X.env=(false,eval e1 X.env) :: starEach [e2] X.env) η)(C7:autoParam (((backTo pos (starEach [e2] X.env)).any fun x=>x.fst)=false) η):PI X (.Tuple elts kk Dd) (.Call (.Name "zip" p) [e1,e2] [] pos) (OB X.K t):=by
 intro pins s σ H R I h
 refine Call_ (dW I hg hm (show bootBuiltins "zip" = some (.type "zip") by decide +kernel) (PyProof.Rows.callWith_type1 (aW (ha pos pins s σ H _ I h) fun us s1 AL=>?_) hs C7))
 obtain⟨vs,H1,I1,r1,q1⟩:=AL
 obtain⟨l1,l2,e,⟨xs,Fg⟩,⟨ys,F7⟩,q⟩:=q1
 subst e
 obtain⟨u,v,rfl,ru,rv⟩:=r1.two
 cases ru
 cases rv
 obtain⟨Hh,Mh,p1,RP⟩:=I1.list Fg
 obtain⟨Ct,Mj,p2,RQ⟩:=I1.list F7
 refine call_zip_2 p1.isList p2.isList fun h' a1 a2 a3 a4 a5 a6 hk=>?_
 have I2:Inv X pins σ H1 { s1 with heap:=h' }:=I1.kept (t':=s1.toks) hk
 refine wpAny_pyIter_zip (s:={ s1 with heap:=h' }) a1 ?_
 refine⟨_,_,_,_,H1,rfl,I2,uy l1 l2 _ (s1.heap.objs.size + 2) (s1.heap.objs.size + 3) s1.heap.objs.size (s1.heap.objs.size + 1) (ne_of_lt (lt_succ_self _)) (ne_of_lt (lt_succ_self _)),⟨a1,a2,⟨_,_,a3⟩,a4,a5⟩,fun c hc=>?_,q⟩
 have hle:s1.heap.objs.size <= c:=by
  have Dz:c=s1.heap.objs.size + 4∨c=s1.heap.objs.size + 2∨c=s1.heap.objs.size + 3∨c=s1.heap.objs.size∨c=s1.heap.objs.size + 1:=by simpa using hc
  rcases Dz with e | e | e | e | e<;>rw[e]<;>first | exact Nat.le_refl _ | exact Nat.le_add_right _ _
 exact I1.D1 hle (I1.AR.fresh hle)
end
section
variable {X:Cx}
theorem ue (hc:X.calm=true):eF X (.builtin "min") (fun xs H Q=>∃ (p:Addr)(ns:List Int),xs=[.ref p]/\AQ X.K H p (ns.map V.int)/\ns ≠ []/\∀ m,m ∈ ns->(∀ z ∈ ns,m <= z)->Q (.int m) H):=by
 intro pins s σ H xs us Q I r h
 obtain⟨p,ns,rfl,hq,Bu,q⟩:=h
 obtain⟨u,rfl,ru⟩:=r.one
 cases ru
 obtain⟨AM,rv,pl,hz⟩:=I.list hq
 have hi:=kB rv
 obtain⟨ys,ey⟩:=hi.allInts.items
 have hn:ys.toList.map (·.1)=ns:=by
  have:=hi.numsOf
  rw[show AM=AM.toArray.toList from rfl,ey,nums_intItems]at this
  exact this
 have hlen:ys.size=ns.length:=by rw[← hn];simp
 have JC:0 < ys.size:=by
  rw[hlen]
  exact length_pos_iff.mpr Bu
 have hL:=pl.isList
 rw[ey]at hL
 refine min_intList (I.ok.hd hc) hL JC fun v h' tk hv hk=>?_
 obtain⟨t,rfl⟩:=intItems_at hv
 obtain⟨b1,b2⟩:=argBest_lt (numAt ys) (ys.size - 1)
 refine⟨.int _,H,I.kept (t':=tk) hk,⟨t,rfl⟩,q _ ?_ fun z Cv=>?_⟩
 ·rw[numAt_eq,hn]
  exact getD_mem (by omega)
 ·rw[← hn]at Cv
  obtain⟨j,hj,rfl⟩:=mem_getD Cv
  rw[length_map,Array.length_toList]at hj
  rw[← numAt_eq]
  exact b2 j (by omega)
end
section
variable {prog:Program}{w:World}{A:Around}{E:Value->Shared->Prop}{s:Shared}{I:Addr}{fp wr:List Addr}{G:Array GenState->Array GenState->Prop}{n:Nat}{P:Nat->Value->Prop}{St:Nat->Shared->Prop}
theorem rl {R:Result->Shared->Prop}(W:WalksS prog w A.in1 I fp wr G n P St)(ty:∀ i s,St i s->s.TypeIs (.ref I) "list_reverseiterator")(S:Addr)(res:Value)(c₀:Nat)(st:St 0 s)(nf:S ∉ fp)(JD:I ∈ fp)
  (hS:s.heap.get? S=some { cls := .type "list",data := .seq #[] c₀ })
  (k:∀ s' acc c,PySem.Moved (S :: wr) G s s'->s'.heap.get? S=some { cls := .type "list",dict:=none,data := .seq acc c,slots:=#[] }->ItemsOf P acc n->R (.ok (.ret res)) s') (By:n <= sizeLine) :
  wpAny (model prog w) A.in1 (Builtin.List.listExtendWith (.ref S) (.ref I) res)
   (fun fin s'=>match fin with | .done f=>R (.ok f) s' | .again c'=>c'.quiet=true/\codeAny (model prog w) A c' R s') (fun e s'=>R (.error e) s') s:=by
 have nI:S ≠ I:=fun z=>nf (z ▸ JD)
 have no:Builtin.List.listSameRef (.ref S) (.ref I)=false:=by simp[Builtin.List.listSameRef,nI]
 unfold Builtin.List.listExtendWith
 refine wpAny_bind (wpAny_typeOf (ty 0 _ st) ?_)
 rw[if_neg (by simp[no])]
 refine wpAny_bind (W.self 0 _ _ _ st (wpAny_bind (wpAny_holding ?_)))
 unfold Builtin.List.listLengthHint
 refine wpAny_bind (wpAny_specialOf (ty 0 _ st) xX ?_)
 show wpAny _ A.in1 (specialOf (Value.ref I) (Str.ofString "__length_hint__") >>= _) _ _ _
 refine wpAny_bind (wpAny_specialOf (ty 0 _ st) vY ?_)
 generalize OC:("list_reverseiterator.__length_hint__":String)=RS
 (fail_if_success (clear OC RS))
 wp_delta
 rw[show splitId RS=some ("list_reverseiterator", "__length_hint__") from by subst OC;decide +kernel]
 subst OC
 refine wpAny_bind (wpAny_isInstance (b:=true) (ty 0 _ st) (by rw[isSubtype_type];kernel_rfl) (wpAny_pure ?_))
 rw[if_neg (by decide)]
 exact wpAny_pure ⟨plainId_quiet F.plain_extend_loop _,codeAny_extend_loopS W By _ nf _ n 0 _ _ _ rfl (zero_le _) st hS (ItemsOf.nil P) fun s' Bm c' m' g' it'=>k s' Bm c' m' g' it'⟩
theorem wj {R:Result->Shared->Prop}(W:WalksS prog w A.in1 I fp wr G n P St)(ty:∀ i s,St i s->s.TypeIs (.ref I) "list_reverseiterator")(S:Addr)(st:St 0 s)(nf:S ∉ fp)(JD:I ∈ fp)
  (hS:s.heap.get? S=some { cls := .type "list",data := .seq #[] })
  (k:∀ s' acc c,PySem.Moved (S :: wr) G s s'->s'.heap.get? S=some { cls := .type "list",dict:=none,data := .seq acc c,slots:=#[] }->ItemsOf P acc n->R (.ok (.ret .none)) s') (By:n <= sizeLine) :
  wpAny (model prog w) A.in1 (Builtin.«list.__init__» ⟨[.ref S, .ref I],[]⟩)
   (fun fin s'=>match fin with | .done f=>R (.ok f) s' | .again c'=>c'.quiet=true/\codeAny (model prog w) A c' R s') (fun e s'=>R (.error e) s') s:=by
 show wpAny _ A.in1 (Builtin.List.listItems (.ref S) >>= fun old=>Builtin.List.listUpdate (.ref S) (fun _=>#[]) >>= fun _=>letGo old.toList.reverse >>= fun _=>Builtin.List.listExtendWith (.ref S) (.ref I) .none) _ _ s
 refine wpAny_bind ?_
 unfold Builtin.List.listItems
 refine wpAny_bind (wpAny_seqItems hS rfl (wpAny_pure ?_))
 refine wpAny_bind (wpAny_updateSeq hS rfl ?_)
 have g2:=Heap.get?_update_self (Obj.mapSeq (fun _=>(#[]:Array Value))) hS rfl
 have RT:∀ b o,b ≠ S->s.heap.get? b=some o->(s.heap.update S (Obj.mapSeq (fun _=>(#[]:Array Value)))).get? b=some o:=fun b o hb e=>(Heap.get?_update_other _ _ (Ne.symm hb)).trans e
 refine wpAny_bind (wpAny_letGo ?_)
 refine rl W ty S .none _ (W.frame 0 s _ s.toks st (Nat.le_refl _) fun b hb o e=>RT b o (fun h=>nf (h ▸ hb)) e) nf JD g2 (fun s' Bm c' hm JE BO=>?_) By
 exact k s' Bm c' (PySem.Moved.trans W.gtrans ((PySem.Moved.refl W.grefl).then_heap (Nat.le_refl _) fun b o hb e=>RT b o (fun h=>hb (h ▸ mem_cons_self)) e) hm) JE BO
theorem lh {Q:Value->Shared->Prop}(W:WalksS prog w A.in1.in1 I fp wr G n P St)(ty:∀ i s,St i s->s.TypeIs (.ref I) "list_reverseiterator")(st:St 0 s)(below:∀ b ∈ fp,b < s.heap.objs.size)(JD:I ∈ fp)
  (k:∀ s' acc c,PySem.Moved (s.heap.objs.size :: wr) G { s with heap:=s.heap.push { cls := .type "list",data := .seq #[] } } s' ->
   s'.heap.get? s.heap.objs.size=some { cls := .type "list",dict:=none,data := .seq acc c,slots:=#[] }->ItemsOf P acc n->Q (.ref s.heap.objs.size) s') (By:n <= sizeLine) :
  wpAny (model prog w) A (call (.type "list") [.ref I]) Q E s:=by
 have nf:s.heap.objs.size ∉ fp:=fun z=>lt_irrefl _ (below _ z)
 refine callType_codes (Q₁:=fun obj s₁=>obj = .ref s.heap.objs.size/\s₁ = { s with heap:=s.heap.push { cls := .type "list",data := .seq #[] } }) F.called_list (F.typeCall_list_1 _) F.entry_list_init (code_list_new _ ⟨rfl,rfl⟩) fun obj s₁ h₁=>?_
 obtain⟨rfl,rfl⟩:=h₁
 have hS:(s.heap.push { cls := .type "list",data := .seq #[] }).get? s.heap.objs.size=some { cls := .type "list",data := .seq #[] }:=Heap.get?_push_size _ rfl
 exact⟨⟨_,hS,rfl⟩,F.args_list_init_2 _ _,wj W ty _ (W.frame 0 s _ s.toks st (Nat.le_refl _) fun b _ o e=>Heap.get?_push_of_some _ e) nf JD hS (fun s' Bm c' hm JE BO=>⟨rfl,k s' Bm c' hm JE BO⟩) By⟩
end
section
variable {X:Cx}
noncomputable def wZ (K:Frag)(ta:TA):TE:=fun σ H Q=>ta σ H fun vs H1=>∃ l xs,vs=[.ref l]/\AQ K H1 l xs/\∀ t,H1 t=none->Q (.ref t) (aw H1 t (.lst xs.reverse))
theorem tw {a:Expr}{ta:TA}{p1 p2 OD F8:Pos}(hc:X.calm=true)(g1:Gl X "list")(m1:X.mg "list" = none)(g2:Gl X "reversed")(m2:X.mg "reversed" = none)(ha:PA X [a] ta)(hs:autoParam (starEach [a] X.env=[(false,eval a X.env)]) η)
  (C7:autoParam (starEach [.Call (.Name "reversed" p2) [a] [] F8] X.env=[(false,eval (.Call (.Name "reversed" p2) [a] [] F8) X.env)]) η):PE X (.Call (.Name "list" p1) [.Call (.Name "reversed" p2) [a] [] F8] [] OD) (wZ X.K ta):=by
 intro pins s σ H Q I h
 refine Call_ (dW I g1 m1 PySem.Pv.boot_list (PyProof.Rows.callWith_type1 ?_ C7 rfl))
 rw[C7]
 refine Calls.spliced_cons ?_
 refine Call_ (dW I g2 m2 (show bootBuiltins "reversed" = some (.type "reversed") by decide +kernel) (PyProof.Rows.callWith_type1 (aW (ha F8 pins s σ H _ I h) fun us s1 AL=>?_) hs rfl))
 obtain⟨vs,H1,I1,r1,q1⟩:=AL
 obtain⟨l,xs,e,hq,q⟩:=q1
 subst e
 obtain⟨u,rfl,ru⟩:=r1.one
 cases ru
 obtain⟨AM,rv,pl,hz⟩:=I1.list hq
 have hl:AM.toArray.size=xs.length:=by rw[size_toArray];exact rv.length.symm
 refine call_reversed_list pl.isList (Calls.spliced_nil ?_)
 have AV:l < s1.heap.objs.size:=by obtain⟨o,ho,_⟩:=pl.isList;exact lt_size ho
 have Bu:l ≠ s1.heap.objs.size:=ne_of_lt AV
 have W:=(Walks.listRev (prog:=X.prog) (w:=X.w) (A:=X.A.in1.in1) (I1.ok.hd hc) s1.heap.objs.size l Bu AM.toArray).toS
 have hp:(s1.heap.push (revObj l ((AM.toArray.size:Int) - 1))).objs.size=s1.heap.objs.size + 1:=size_push ..
 refine lh (s:={ s1 with heap:=s1.heap.push (revObj l ((AM.toArray.size:Int) - 1)) }) W (fun i s z=>z.2.1.typeIs) ⟨zero_le _,⟨_,Heap.get?_push_size _ rfl,rfl,by simp[revObj]⟩,pl.isList.at fun o e=>Heap.get?_push_of_some _ e⟩ (fun b hb=>?_) (by simp) (fun s' acc c mv JE it=>?_) (by rw[hl];exact hz)
 ·have DD:b=s1.heap.objs.size∨b=l:=by simpa using hb
  show b < (s1.heap.push _).objs.size
  rw[hp]
  rcases DD with rfl | rfl
  ·exact lt_succ_self _
  ·exact lt_succ_of_lt AV
 ·obtain⟨h',g',d',tk',NW⟩:=s'
  have e1:g' = s1.gens:=mv.gens
  have e2:d' = s1.drawn:=mv.drawn
  have e3:NW = s1.os:=mv.os
  subst e1 e2 e3
  have keep:∀ b o,s1.heap.get? b=some o->h'.get? b=some o:=fun b o e=>by
   have hb:=lt_size e
   refine mv.heap b o ?_ (Heap.get?_push_of_some _ (Heap.get?_push_of_some _ e))
   show ¬ b ∈ (s1.heap.push _).objs.size :: [s1.heap.objs.size]
   rw[hp]
   simp only[mem_cons,not_mem_nil,or_false,not_or]
   exact⟨ne_of_lt (lt_succ_of_lt hb),ne_of_lt hb⟩
  have hv:Vals xs.reverse acc.toList:=by
   refine nU (by rw[length_reverse,← hl];exact it.1.symm) fun i x u hx hu=>?_
   have hi:i < xs.length:=by have:=(gQ0 hx);rw[length_reverse]at this;exact this
   have Mm:=it.2 i u (by simpa using hu)
   rw[hl]at Mm
   rw[List.getElem?_reverse hi]at hx
   have OA:AM[xs.length - 1 - i]? = some u:=by simpa using Mm
   obtain⟨u2,e2,r2⟩:=rv.get hx
   rw[OA]at e2
   cases e2
   exact r2
  have hsz:s1.heap.objs.size <= (s1.heap.push (revObj l ((AM.toArray.size:Int) - 1))).objs.size:=by rw[hp];exact le_succ _
  exact⟨.ref _,_,I1.laid (a:=(s1.heap.push (revObj l ((AM.toArray.size:Int) - 1))).objs.size) (o := .lst xs.reverse) (t':=tk') (h':=h') keep hsz ⟨by rw[length_reverse];exact hz,acc.toList,c,hv,by simpa using JE⟩,rfl,q _ (I1.AR.fresh hsz)⟩
end
section
variable {prog:Program}{w:World}{A:Around}{E:Value->Shared->Prop}{s:Shared}
end
section
variable {X:Cx}{tg:Expr}
end
end L2
namespace L2
open PySem
section
variable {X:Cx}
end
end L2
namespace Yd
open PySem PySem.W PySem.Calls PyProof.Rows
section
variable {prog:Program}{w:World}{A:Around}{E:Value->Shared->Prop} {κ:SortKind} {it:Array Keyed} {s:Shared}
end
section
variable {prog:Program}{w:World}{A:Around}{E:Value->Shared->Prop}{s:Shared}{a:Addr}{vs:List Value}
end
end Yd
namespace L2
open PySem PySem.Spec PyProof.Rows
abbrev AB (H:Hp):List V->List (Int × Int)->Prop:=Paired fun v p=>∃ t,v = .ref t/\H t=some (.tup [.int p.1, .int p.2])
noncomputable def yA (p q:Int × Int):Prop:=p.1 < q.1∨(p.1=q.1/\p.2 < q.2)
noncomputable def AS (h:Heap)(v:Value)(p:Int × Int):Prop:=∃ (a:Addr)(o:Obj)(t u:Tok)(n:Nat),v = .ref a/\h.get? a=some o/\o.cls = .type "tuple"/\o.data = .seq #[.int p.1 t, .int p.2 u] n
section
variable {X:Cx}
theorem mY {P:Program}{w:World}{H:Hp}{h:Heap}(hk:B8 P w H h){v:V}{u:Value}{p:Int × Int}(r:RelV v u)(e:∃ t,v = .ref t/\H t=some (.tup [.int p.1, .int p.2])):AS h u p:=by
 obtain⟨t,rfl,ht⟩:=e
 obtain rfl:u=Value.ref t:=r
 obtain⟨_,AM,rv,o,ho,⟨DE,n,Jt⟩,_⟩:=hk _ _ ht
 cases rv with
 | cons r1 rv=>cases rv with
  | cons r2 rv =>
   cases rv
   obtain⟨t1,rfl⟩:=r1
   obtain⟨t2,rfl⟩:=r2
   exact⟨t,o,t1,t2,n,rfl,ho,DE,Jt⟩
theorem jV {P:Program}{w:World}{H:Hp}{h:Heap}(hk:B8 P w H h):∀ {vs:List V}{us:List Value}{ps:List (Int × Int)},Vals vs us->AB H vs ps->Paired (AS h) us ps
 | _,_,_, .nil, .nil => .nil
 | _,_,_, .cons r rv, .cons e es => .cons (mY hk r e) (jV hk rv es)
theorem AS.keep {h h':Heap}(k:∀ b o,h.get? b=some o->h'.get? b=some o){v:Value}{p:Int × Int}:AS h v p->AS h' v p:=fun AL=>by obtain⟨a,o,t,u,n,e,ho,hc,hd⟩:=AL;exact⟨a,o,t,u,n,e,k _ _ ho,hc,hd⟩
theorem qI {h h':Heap}(k:∀ b o,h.get? b=some o->h'.get? b=some o):∀ {us:List Value}{ps:List (Int × Int)},Paired (AS h) us ps->Paired (AS h') us ps:=fun AL=>by
 induction AL with
 | nil=>exact .nil
 | cons e es ih=>exact .cons (e.keep k) ih
theorem l9 {h:Heap}:∀ {us:List Value}{ps:List (Int × Int)}{i:Nat},Paired (AS h) us ps->i < us.length->∃ p,ps[i]? = some p/\AS h (us.getD i Value.none) p
 | _,_,_, .nil,hi=>by simp at hi
 | _,_,0, .cons e _,_=>⟨_,rfl,by simpa using e⟩
 | _,_,i + 1, .cons _ es,hi=>by
  obtain⟨p,h1,h2⟩:=l9 (i:=i) es (by simpa using hi)
  exact⟨p,by simpa using h1,by simpa using h2⟩
theorem l8 {h:Heap}:∀ {us:List Value}{ps:List (Int × Int)},Paired (AS h) us ps->∃ fs,PySem.W.KatTups h us fs/\fs.length=us.length/\∀ v ∈ fs,∃ i t,v=Value.int i t
 | _,_, .nil=>⟨[],PySem.W.KatTups.nil,rfl,fun v hv=>by cases hv⟩
 | _,_, .cons ⟨a,o,t,u,n,e,ho,hc,hd⟩ es=>by
  obtain⟨fs,k,hl,hi⟩:=l8 es
  subst e
  exact⟨.int _ t :: fs,PySem.W.KatTups.cons ho hc hd rfl k,by simp[hl],fun v hv=>by
   rcases mem_cons.mp hv with rfl | hv
   ·exact⟨_,_,rfl⟩
   ·exact hi v hv⟩
end
end L2
namespace Yd
open PySem PySem.SeqAt
open AutoSeq1 (wpAny_loadPart')
open MeetsSeq MeetsSeq2 MeetsSeq3 SeqRoads2
theorem C9 (l:Addr)(items:Array Value)(n:Nat)(dd:Option Addr)(sl:Array (Option Value))(x:Value)(e:Value->Bool)(j:Nat)(hj:j < items.size)(hit:e items[j]=true)(Dx:∀ m (hm:m < items.size),m < j->e items[m]=false) :
  Meets (Builtin.«tuple.index» ⟨[.ref l,x],[]⟩)
   (fun A R s=>s.heap.get? l=some { cls := .type "tuple",dict:=dd,data := .seq items n,slots:=sl }/\(∀ y,y ∈ items->EqAt A.in1 s y x (e y))/\R (.ok (.ret (.int j s.toks))) { s with toks:=s.toks + 1 }) :=
 .of_wp fun prog w A R s h=>by
  obtain⟨hp,g,d,tk,os⟩:=s;obtain⟨hl,he,h⟩:=h
  wp_walk using wpAny_loadPart' hl
  show wpAny (model prog w) A.in1 (forIn ([0:min items.size items.size]:Std.Legacy.Range) ((none,()):Option PySem.Fin × PUnit) fun (a:Nat) _=>match items[a]? with
    | some y=>do
     let b ← eqBool y x
     if b=true then do
       let r ← retInt (a:Int)
       pure (ForInStep.done (some r,()))
      else pure (ForInStep.yield (none,()))
    | _=>pure (ForInStep.yield (none,()))) _ _ _
  rw[Std.Legacy.Range.forIn_eq_forIn_range']
  have hsz:([0:min items.size items.size]:Std.Legacy.Range).size=items.size:=by simp[Std.Legacy.Range.size]
  show wpAny (model prog w) A.in1 (forIn (List.range' 0 ([0:min items.size items.size]:Std.Legacy.Range).size 1) _ _) _ _ _
  rw[hsz]
  refine wpAny_forIn_list _ (fun rest b s'=>b.1=none/\s' = ⟨hp,g,d,tk,os⟩/\∃ i,i <= j/\rest=List.range' i (items.size - i) 1) _ ?yturn ?yfin _ _ ?ystart
  case yturn =>
   rintro k rest b s' ⟨hb,rfl,i,JF,hr⟩
   rw[show items.size - i=(items.size - i - 1) + 1 by omega,List.range'_succ]at hr
   injection hr with e1 e2
   subst e1
   have hi:k < items.size:=by omega
   rw[show items[k]? = some items[k] by simp[hi]]
   dsimp only
   refine wpAny_bind (he _ (Array.getElem_mem hi) prog w _ _ ?_)
   rcases lt_or_ge k j with hk | hk
   ·rw[Dx k hi hk]
    refine wpAny_pure ⟨rfl,rfl,k + 1,hk,?_⟩
    rw[e2];congr 1
   ·have ekj:k=j:=by omega
    subst ekj
    rw[hit,if_pos rfl]
    wp_walk
    exact⟨_,rfl,h⟩
  case yfin =>
   rintro b s' ⟨hb,rfl,i,JF,hr⟩
   have:=congrArg List.length hr
   simp at this
   omega
  case ystart =>
   exact⟨rfl,rfl,0,zero_le _,by simp⟩
end Yd
namespace L2
open PySem PySem.Spec PyProof.Rows
noncomputable def OE (K:Frag):V->List V->Hp->VK->Prop:=fun x vs H Q=>∃ (t u:Addr)(AK:List V)(ps:List (Int × Int))(p:Int × Int)(j:Nat),x = .ref t/\vs=[.ref u]/\Ba K H t AK/\AB H AK ps/\H u=some (.tup [.int p.1, .int p.2]) /\
 ps[j]? = some p/\(∀ m q,m < j->ps[m]? = some q->q ≠ p)/\Q (.int j) H
section
variable {X:Cx}
theorem yg {A:Around}{s:Shared}{u v:Value}{p q:Int × Int}(hu:A.units < cLine)(hp:AS s.heap u p)(hq:AS s.heap v q):SeqAt.EqAt A s u v (decide (p=q)):=by
 obtain⟨a,o,t,t',n,rfl,ho,hc,hd⟩:=hp
 obtain⟨b,o',r,r',m,rfl,C5,Dz,CM⟩:=hq
 by_cases E9:a=b
 ·subst E9
  rw[ho]at C5
  cases C5
  rw[hd]at CM
  injection CM with e1 _
  have e2:=congrArg Array.toList e1
  simp only[List.cons.injEq,Value.int.injEq,and_true]at e2
  have e3:p=q:=Prod.ext e2.1.1 e2.2.1
  rw[decide_eq_true e3]
  exact SeqAt.EqAt.same _
 ·refine SeqAt.EqAt.of_refs E9 ?_
  have key:=SeqAt.RcAt.tuples (A:=A) (s:=s) (l:=a) (b:=b) (items:=#[.int p.1 t, .int p.2 t']) (items2:=#[.int q.1 r, .int q.2 r']) (e:=fun j=>if j=0 then p.1 == q.1 else p.2 == q.2) ⟨o,ho,hc,n,hd⟩ ⟨o',C5,Dz,m,CM⟩ hu (fun j h1 h2=>by
   match j,h1,h2 with
   | 0,_,_=>exact fun prog w E Q hQ=>wpAny_eqBool_int hQ
   | 1,_,_=>exact fun prog w E Q hQ=>wpAny_eqBool_int hQ)
  have e:((List.range (min (#[Value.int p.1 t,Value.int p.2 t']:Array Value).size (#[Value.int q.1 r,Value.int q.2 r']:Array Value).size)).all (fun j=>if j=0 then p.1 == q.1 else p.2 == q.2) && (#[Value.int p.1 t,Value.int p.2 t']:Array Value).size == (#[Value.int q.1 r,Value.int q.2 r']:Array Value).size)=decide (p=q):=by
   show(((p.1 == q.1) && ((p.2 == q.2) && true)) && true)=decide (p=q)
   rw[Bool.and_true,Bool.and_true,Bool.eq_iff_iff]
   simp only[Bool.and_eq_true,beq_iff_eq,decide_eq_true_eq]
   exact⟨fun AL=>by obtain⟨h1,h2⟩:=AL;exact Prod.ext h1 h2,fun h=>by rw[h];exact⟨rfl,rfl⟩⟩
  rw[e]at key
  exact key
theorem l7 {h:Heap}:∀ {us:List Value}{ps:List (Int × Int)},Paired (AS h) us ps->∀ v ∈ us,∃ p,AS h v p
 | _,_, .nil,v,hv=>by cases hv
 | _,_, .cons e es,v,hv=>by
  rcases mem_cons.mp hv with rfl | hv
  ·exact⟨_,e⟩
  ·exact l7 es v hv
theorem AS.one {h:Heap}{v:Value}{p q:Int × Int}:AS h v p->AS h v q->p=q:=fun⟨a,o,t,t',n,e,ho,_,hd⟩ ⟨b,o',r,r',m,e',C5,_,CM⟩=>by
 rw[e]at e'
 cases e'
 rw[ho]at C5
 cases C5
 rw[hd]at CM
 injection CM with e1 _
 have e2:=congrArg Array.toList e1
 simp only[List.cons.injEq,Value.int.injEq,and_true]at e2
 exact Prod.ext e2.1.1 e2.2.1
theorem tJ (hu:X.A.units + 64 < cLine):HS X "tuple.index" (OE X.K):=by
 intro pins s σ H x vs v us Q I rx rv h
 obtain⟨t,u,AK,ps,p,j,rfl,rfl,hT,hP,hU,hj,Dx,q⟩:=h
 cases rx
 obtain⟨uu,rfl,ru⟩:=rv.one
 cases ru
 obtain⟨AM,r,ht,hz⟩:=I.tuple hT
 obtain⟨⟨cls,dd,data,sl⟩,ho,hc,n,hd⟩:=id ht
 simp only at hc hd
 subst hc hd
 have JG:Paired (AS s.heap) AM ps:=jV I.AR r hP
 have hpu:AS s.heap (.ref u) p:=mY I.AR (show RelV (.ref u) (.ref u) from rfl) ⟨u,rfl,hU⟩
 have hlen:AM.length=ps.length:=Paired.length JG
 have hjl:j < ps.length:=(gQ0 hj)
 let e:Value->Bool:=fun y=>@decide (AS s.heap y p) (Classical.propDecidable _)
 have he:∀ (A:Around),A.units < cLine->∀ y,y ∈ AM.toArray->SeqAt.EqAt A s y (.ref u) (e y):=fun A hA y hy=>by
  obtain⟨q',Fw⟩:=l7 JG y (by simpa using hy)
  have:=yg hA Fw hpu
  have e1:e y=decide (q' = p):=by
   by_cases h':q' = p
   ·rw[decide_eq_true h']
    subst h'
    exact @decide_eq_true _ (Classical.propDecidable _) Fw
   ·rw[decide_eq_false h']
    exact @decide_eq_false _ (Classical.propDecidable _) fun z=>h' (Fw.one z)
  rw[e1]
  exact this
 have at_:∀ m (hm:m < AM.toArray.size),∃ q',ps[m]? = some q'/\AS s.heap AM.toArray[m] q':=fun m hm=>by
  have F4:m < AM.length:=by simpa using hm
  obtain⟨q',h1,h2⟩:=l9 JG F4
  refine⟨q',h1,?_⟩
  have e3:AM.getD m Value.none=AM.toArray[m]:=by simp[F4]
  rw[e3]at h2
  exact h2
 have RU:j < AM.toArray.size:=by simpa using (by omega:j < AM.length)
 have hit:e AM.toArray[j]=true:=by
  obtain⟨q',h1,h2⟩:=at_ j RU
  rw[hj]at h1
  cases h1
  exact @decide_eq_true _ (Classical.propDecidable _) h2
 have OF:∀ m (hm:m < AM.toArray.size),m < j->e AM.toArray[m]=false:=fun m hm O4=>by
  obtain⟨q',h1,h2⟩:=at_ m hm
  exact @decide_eq_false _ (Classical.propDecidable _) fun z=>Dx m q' O4 h1 (h2.one z)
 refine call_meets PySem.F.slot_tuple_index ⟨_,ho,rfl⟩ PySem.F.entry_tuple_index (PySem.F.args_tuple_index_2 _ _) (Yd.C9 t AM.toArray n dd sl (.ref u) e j RU hit OF) ⟨ho,he _ ?_,?_⟩
 ·simp only[Around.in1_units];omega
 ·exact⟨.int j,H,I.tok _,⟨_,rfl⟩,q⟩
end
noncomputable def tTM (r:V->List V->Hp->VK->Prop)(to:TE)(t:TA):TE:=fun σ H Q=>to σ H fun x H1=>(∃ a xs,x = .ref a/\H1 a=some (.tup xs))/\t σ H1 fun xs H2=>r x xs H2 Q
section
variable {X:Cx}{o e:Expr}{es:List Expr}{to:TE}{t:TA}{name:Str}{apos Bg:Pos}{id:String}{r:V->List V->Hp->VK->Prop}
theorem JH (slot:Slot "tuple" name id)(Jf:typeOf (.builtin id)=pure (.type "method_descriptor"))(hm:HS X id r)(ho:PE X o to)(ha:PA X (e :: es) t)
  (Dg:autoParam (attributeBase o name X.env (eval o X.env)=eval o X.env) η)
  (BB:((backTo Bg (starEach (e :: es) X.env)).all (fun x=>!x.1) && (backToKw Bg (keywordEach [] X.env)).all (fun x=>x.1.isSome)
   && decide ((e :: es).length + ([]:List Keyword).length + (if ([]:List Keyword).isEmpty then 0 else 1) < 30))=true:=by rfl)
  (Dh:autoParam ((apos.endLine == Bg.line)=true) η) (hs:autoParam (starEach (e :: es) X.env=(false,eval e X.env) :: starEach es X.env) η) (D9:autoParam ((backTo Bg (starEach es X.env)).any (·.1)=false) η) :
  PE X (.Call (.Attribute o name apos) (e :: es) [] Bg) (tTM r to t):=by
 intro pins s σ H Q I h
 refine wpAny_Call_method_late Dg BB Dh rfl (aW (ho pins s σ H _ I h) fun v s1 AL=>?_)
 obtain⟨x,H1,I1,r1,⟨a,xs,ex,hx⟩,q1⟩:=AL
 subst ex
 cases r1
 obtain⟨_,AM,_,ob,RV,⟨hc,n,hd⟩,hdn⟩:=I1.AR _ _ hx
 refine⟨"tuple",id,PySem.F.plainAttrs_tuple,slot,Jf,⟨ob,RV,hc⟩,fun b eb=>by cases eb;exact⟨ob,RV,hdn⟩,?_⟩
 have hA:=ha Bg pins s1 σ H1 _ I1 q1
 rw[hs]at hA ⊢
 refine Calls.callWith_builtin (by show(false || (backTo Bg (starEach es X.env)).any (·.1))=false;rw[D9]<;>rfl) (Calls.evalArgs_plain ?_)
 exact aW hA fun us s2 AL=>by obtain⟨vs,H2,I2,r2,q2⟩:=AL;exact hm pins s2 σ H2 (.ref a) vs (.ref a) us Q I2 rfl r2 q2
end
end L2
namespace LkM
abbrev Dn:=List (Nat × Nat)
abbrev Ld:=List Dn
noncomputable def ks (d:Dn):List Nat:=d.map (·.1)
noncomputable def kR (l g:Nat)(d:Dn):Dn:=if l ∈ ks d then d else d ++ [(l,g)]
noncomputable def dH (l g:Nat)(L:Ld)(w:Nat):Ld:=L.set w (kR l g (L.getD w []))
noncomputable def eB (on:Nat->Nat->List Nat)(l:Nat)(L:Ld)(g:Nat):Ld:=(on g l).foldl (dH l g) L
noncomputable def jf (on:Nat->Nat->List Nat)(gs:Nat->List Nat)(L:Ld)(l:Nat):Ld:=(gs l).foldl (eB on l) L
noncomputable def dU (on:Nat->Nat->List Nat)(gs:Nat->List Nat)(n:Nat):Ld:=(List.range n).foldl (jf on gs) (List.replicate n [])
theorem ij:∀ (n:Nat)(l:List Nat),l.Nodup->(∀ x ∈ l,x < n)->l.length <= n
 | 0,l,_,h=>by
  cases l with
  | nil=>exact Nat.le_refl _
  | cons x l=>exact absurd (h x mem_cons_self) (not_lt_zero _)
 | n + 1,l,hn,h=>by
  by_cases hm:n ∈ l
  ·have e:=List.length_erase_of_mem hm
   have:=ij n (l.erase n) (hn.erase n) fun x hx=>by
    have B3:=(hn.mem_erase_iff).mp hx
    have:=h x B3.2
    have:=B3.1
    omega
   omega
  ·have:=ij n l hn fun x hx=>by
    have:=h x hx
    have:x ≠ n:=fun z=>hm (by rw[← z];exact hx)
    omega
   omega
theorem sh {n:Nat}{l:List Nat}(hn:l.Nodup)(h:∀ x ∈ l,x < n)(hl:n <= l.length):∀ x,x < n->x ∈ l:=by
 intro x hx
 by_cases hm:x ∈ l
 ·exact hm
 ·have:=ij n (x :: l) (nodup_cons.mpr ⟨hm,hn⟩) fun y hy=>by
   rcases mem_cons.mp hy with e | hy
   ·rw[e];exact hx
   ·exact h y hy
  simp at this
  omega
structure Bi (on:Nat->Nat->List Nat)(gs:Nat->List Nat)(n:Nat)(L:Ld):Prop where
 len:L.length=n
 nd:∀ w,(ks (L.getD w [])).Nodup
 of:∀ w,∀ x ∈ L.getD w [],x.1 < n/\x.2 ∈ gs x.1/\w ∈ on x.2 x.1
theorem fH (L:Ld)(w v:Nat)(d:Dn):(L.set w d).getD v []=if w=v/\w < L.length then d else L.getD v []:=by
 rw[getD_eq_getElem?_getD,List.getElem?_set]
 by_cases h:w=v
 ·rw[if_pos h]
  by_cases hl:w < L.length
  ·rw[if_pos hl,if_pos ⟨h,hl⟩];rfl
  ·rw[if_neg hl,if_neg fun z=>hl z.2,getD_eq_getElem?_getD,List.getElem?_eq_none (by omega)]
 ·rw[if_neg h,if_neg fun z=>h z.1,getD_eq_getElem?_getD]
theorem yr {l g:Nat}{d:Dn}(h:(ks d).Nodup):(ks (kR l g d)).Nodup:=by
 unfold kR
 split
 ·exact h
 ·next hn =>
  unfold ks at *
  rw[map_append,nodup_append]
  refine⟨h,by simp,fun y hy c hc=>?_⟩
  have hc:c=l:=by simpa using hc
  intro z
  rw[z,hc]at hy
  exact hn hy
theorem wJ {l g:Nat}{d:Dn}{x:Nat × Nat}(h:x ∈ kR l g d):x ∈ d∨x=(l,g):=by
 unfold kR at h
 split at h
 ·exact .inl h
 ·rcases mem_append.mp h with h | h
  ·exact .inl h
  ·exact .inr (mem_singleton.mp h)
theorem wK {l g:Nat}{d:Dn}:l ∈ ks (kR l g d):=by
 unfold kR
 split
 ·assumption
 ·unfold ks;simp
theorem uj {l g z:Nat}{d:Dn}(h:z ∈ ks d):z ∈ ks (kR l g d):=by
 unfold kR
 split
 ·exact h
 ·unfold ks at *
  rw[map_append]
  exact mem_append_left _ h
variable {on:Nat->Nat->List Nat}{gs:Nat->List Nat}{n:Nat}
theorem Bi.add {L:Ld}{l g w:Nat}(h:Bi on gs n L)(hl:l < n)(hg:g ∈ gs l)(hw:w ∈ on g l):Bi on gs n (dH l g L w) where
 len:=by unfold dH;rw[length_set];exact h.len
 nd:=fun v=>by
  unfold dH
  rw[fH]
  split
  ·exact yr (h.nd w)
  ·exact h.nd v
 of:=fun v x hx=>by
  unfold dH at hx
  rw[fH]at hx
  split at hx
  ·next e =>
   rcases wJ hx with hx | e2
   ·rw[← e.1];exact h.of w x hx
   ·rw[e2,← e.1];exact⟨hl,hg,hw⟩
  ·exact h.of v x hx
theorem Bi.goal {l g:Nat}(hl:l < n)(hg:g ∈ gs l):∀ (ws:List Nat){L:Ld},Bi on gs n L->(∀ z ∈ ws,z ∈ on g l)->Bi on gs n (ws.foldl (dH l g) L)
 | [],_,h,_=>h
 | z :: ws,L,h,hw=>Bi.goal hl hg ws (h.add hl hg (hw z mem_cons_self)) fun y hy=>hw y (mem_cons_of_mem _ hy)
theorem Bi.Et {l:Nat}(hl:l < n):∀ (qs:List Nat){L:Ld},Bi on gs n L->(∀ z ∈ qs,z ∈ gs l)->Bi on gs n (qs.foldl (eB on l) L)
 | [],_,h,_=>h
 | z :: qs,L,h,hw=>Bi.Et hl qs (Bi.goal hl (hw z mem_cons_self) _ h fun y hy=>hy) fun y hy=>hw y (mem_cons_of_mem _ hy)
theorem Bi.all:∀ (ls:List Nat){L:Ld},Bi on gs n L->(∀ z ∈ ls,z < n)->Bi on gs n (ls.foldl (jf on gs) L)
 | [],_,h,_=>h
 | z :: ls,L,h,hw=>Bi.all ls (Bi.Et (hw z mem_cons_self) _ h fun y hy=>hy) fun y hy=>hw y (mem_cons_of_mem _ hy)
theorem jH (m w:Nat):(List.replicate m ([]:Dn)).getD w []=[]:=by
 rw[getD_eq_getElem?_getD,List.getElem?_replicate]
 split<;>rfl
theorem Bi.init:Bi on gs n (List.replicate n []) where
 len:=length_replicate
 nd:=fun w=>by rw[jH];exact nodup_nil
 of:=fun w x hx=>by rw[jH]at hx;cases hx
theorem ik:Bi on gs n (dU on gs n):=Bi.all _ Bi.init fun z hz=>mem_range.mp hz
theorem Bi.By {L:Ld}(h:Bi on gs n L)(w:Nat):(L.getD w []).length <= n:=by
 have:=ij n (ks (L.getD w [])) (h.nd w) fun x hx=>by
  obtain⟨y,hy,rfl⟩:=mem_map.mp hx
  exact(h.of w y hy).1
 unfold ks at this
 rwa [length_map]at this
theorem wH {L:Ld}{l g w z v:Nat}(h:z ∈ ks (L.getD v [])):z ∈ ks ((dH l g L w).getD v []):=by
 unfold dH
 rw[fH]
 split
 ·next e=>rw[← e.1]at h;exact uj h
 ·exact h
theorem iJ {l g z v:Nat}:∀ (ws:List Nat){L:Ld},z ∈ ks (L.getD v [])->z ∈ ks ((ws.foldl (dH l g) L).getD v [])
 | [],_,h=>h
 | _ :: ws,_,h=>iJ ws (wH h)
theorem iG {l z v:Nat}:∀ (qs:List Nat){L:Ld},z ∈ ks (L.getD v [])->z ∈ ks ((qs.foldl (eB on l) L).getD v [])
 | [],_,h=>h
 | _ :: qs,_,h=>iG qs (iJ _ h)
theorem pL {z v:Nat}:∀ (ls:List Nat){L:Ld},z ∈ ks (L.getD v [])->z ∈ ks ((ls.foldl (jf on gs) L).getD v [])
 | [],_,h=>h
 | _ :: ls,_,h=>pL ls (iG _ h)
theorem pN (l g:Nat)(L:Ld)(w:Nat):(dH l g L w).length=L.length:=by unfold dH;rw[length_set]
theorem kC {l g:Nat}:∀ (ws:List Nat)(L:Ld),(ws.foldl (dH l g) L).length=L.length
 | [],_=>rfl
 | w :: ws,L=>by rw[foldl_cons,kC ws,pN]
theorem oY {l:Nat}:∀ (qs:List Nat)(L:Ld),(qs.foldl (eB on l) L).length=L.length
 | [],_=>rfl
 | q :: qs,L=>by rw[foldl_cons,oY qs];exact kC _ _
theorem pj {l g w:Nat}:∀ (ws:List Nat){L:Ld},w ∈ ws->w < L.length->l ∈ ks ((ws.foldl (dH l g) L).getD w [])
 | z :: ws,L,h,hw=>by
  rcases mem_cons.mp h with e | h
  ·subst e
   refine iJ ws ?_
   unfold dH
   rw[fH,if_pos ⟨rfl,hw⟩]
   exact wK
  ·exact pj ws h (by rw[pN];exact hw)
theorem oZ {l g w:Nat}(hw:w ∈ on g l):∀ (qs:List Nat){L:Ld},g ∈ qs->w < L.length->l ∈ ks ((qs.foldl (eB on l) L).getD w [])
 | z :: qs,L,h,hl=>by
  rcases mem_cons.mp h with e | h
  ·subst e
   exact iG qs (pj _ hw hl)
  ·exact oZ hw qs h (by show w < (eB on l L z).length;unfold eB;rw[kC];exact hl)
theorem sM {l g w:Nat}(hw:w ∈ on g l)(hg:g ∈ gs l):∀ (ls:List Nat){L:Ld},l ∈ ls->w < L.length->l ∈ ks ((ls.foldl (jf on gs) L).getD w [])
 | z :: ls,L,h,hl=>by
  rcases mem_cons.mp h with e | h
  ·subst e
   exact pL ls (oZ hw _ hg hl)
  ·exact sM hw hg ls h (by show w < (jf on gs L z).length;unfold jf;rw[oY];exact hl)
theorem tM {l g w:Nat}(hl:l < n)(hg:g ∈ gs l)(hw:w ∈ on g l)(hwn:w < n):l ∈ ks ((dU on gs n).getD w []) :=
 sM hw hg _ (mem_range.mpr hl) (by rw[length_replicate];exact hwn)
noncomputable def cP (L:Ld)(a:Dn)(l:Nat):Bool:=!decide (l ∈ ks a) && (ks (L.getD l [])).all fun k=>decide (k ∈ ks a)
noncomputable def bj (L:Ld)(a:Dn):List Nat:=(List.range L.length).filter (cP L a)
noncomputable def eC (a:Dn)(fs:List Nat)(m:Nat):Dn:=a ++ fs.map fun l=>(l,m)
noncomputable def fA (L:Ld):Nat->Dn->Nat->Dn
 | 0,a,_=>a
 | f + 1,a,m=>if bj L a=[] then a else fA L f (eC a (bj L a) m) (m + 1)
noncomputable def fW (L:Ld):Dn:=fA L (L.length + 1) [] 0
theorem oP {L:Ld}{a:Dn}{m:Nat}(h:bj L a=[]):∀ f,fA L f a m=a
 | 0=>rfl
 | f + 1=>by rw[fA,if_pos h]
theorem lD {L:Ld}{a:Dn}{m f:Nat}(h:bj L a ≠ []):fA L (f + 1) a m=fA L f (eC a (bj L a) m) (m + 1):=by rw[fA,if_neg h]
theorem Br {L:Ld}{a:Dn}{l:Nat}:l ∈ bj L a↔l < L.length/\l ∉ ks a/\∀ k ∈ ks (L.getD l []),k ∈ ks a:=by
 unfold bj cP
 rw[mem_filter,mem_range]
 simp only[Bool.and_eq_true,Bool.not_eq_true',decide_eq_false_iff_not,all_eq_true,decide_eq_true_eq]
theorem sD (L:Ld)(a:Dn):(bj L a).Nodup:=List.Pairwise.filter _ List.nodup_range
theorem il (a:Dn)(fs:List Nat)(m:Nat):ks (eC a fs m)=ks a ++ fs:=by
 unfold ks eC
 rw[map_append,map_map]
 congr 1
 exact(map_congr_left (fun x _=>rfl)).trans (map_id _)
structure B1 (L:Ld)(a:Dn)(m:Nat):Prop where
 nd:(ks a).Nodup
 lt:∀ x ∈ ks a,x < L.length
 bd:∀ x ∈ a,x.2 < m
 By:m <= a.length
 low:∀ x ∈ a,∀ k ∈ ks (L.getD x.1 []),∃ y ∈ a,y.1=k/\y.2 < x.2
 top:∀ x ∈ a,x.2=0∨∃ y ∈ a,y.1 ∈ ks (L.getD x.1 [])/\y.2 + 1=x.2
 cl:0 < m->∀ l,l < L.length->(∀ k ∈ ks (L.getD l []),∃ y ∈ a,y.1=k/\y.2 + 1 < m)->l ∈ ks a
theorem B1.nil (L:Ld):B1 L [] 0:=⟨nodup_nil,(fun x h=>by cases h),(fun x h=>by cases h),Nat.le_refl _,(fun x h=>by cases h),(fun x h=>by cases h),fun h=>absurd h (lt_irrefl _)⟩
theorem B1.len {L:Ld}{a:Dn}{m:Nat}(h:B1 L a m):a.length <= L.length:=by
 have:=ij _ _ h.nd h.lt
 unfold ks at this
 rwa [length_map]at this
theorem gw {a:Dn}{k:Nat}(h:k ∈ ks a):∃ y ∈ a,y.1=k:=mem_map.mp h
theorem qY {a:Dn}{y:Nat × Nat}(h:y ∈ a):y.1 ∈ ks a:=mem_map.mpr ⟨y,h,rfl⟩
theorem Bn {a:Dn}{fs:List Nat}{m:Nat}{x:Nat × Nat}:x ∈ eC a fs m↔x ∈ a∨(x.1 ∈ fs/\x.2=m):=by
 unfold eC
 rw[mem_append,mem_map]
 constructor
 ·rintro (h | ⟨l,hl,rfl⟩)
  ·exact .inl h
  ·exact .inr ⟨hl,rfl⟩
 ·rintro (h | ⟨h1,h2⟩)
  ·exact .inl h
  ·exact .inr ⟨x.1,h1,by rw[← h2]⟩
theorem B1.step {L:Ld}{a:Dn}{m:Nat}(h:B1 L a m)(hf:bj L a ≠ []):B1 L (eC a (bj L a) m) (m + 1) where
 nd:=by
  rw[il,nodup_append]
  refine⟨h.nd,sD L a,fun x hx y hy e=>?_⟩
  subst e
  exact(Br.mp hy).2.1 hx
 lt:=fun x hx=>by
  rw[il]at hx
  rcases mem_append.mp hx with hx | hx
  ·exact h.lt x hx
  ·exact(Br.mp hx).1
 bd:=fun x hx=>by
  rcases Bn.mp hx with hx | ⟨_,hx⟩
  ·exact lt_succ_of_lt (h.bd x hx)
  ·omega
 By:=by
  unfold eC
  rw[length_append,length_map]
  have:=h.By
  have:=length_pos_iff.mpr hf
  omega
 low:=fun x hx k hk=>by
  rcases Bn.mp hx with hx | ⟨h1,h2⟩
  ·obtain⟨y,hy,e1,e2⟩:=h.low x hx k hk
   exact⟨y,Bn.mpr (.inl hy),e1,e2⟩
  ·obtain⟨y,hy,e⟩:=gw ((Br.mp h1).2.2 k hk)
   exact⟨y,Bn.mpr (.inl hy),e,by rw[h2];exact h.bd y hy⟩
 top:=fun x hx=>by
  rcases Bn.mp hx with hx | ⟨h1,h2⟩
  ·rcases h.top x hx with e | ⟨y,hy,e1,e2⟩
   ·exact .inl e
   ·exact .inr ⟨y,Bn.mpr (.inl hy),e1,e2⟩
  ·rcases Nat.eq_zero_or_pos m with e | hm
   ·exact .inl (by omega)
   ·obtain⟨f1,f2,f3⟩:=Br.mp h1
    refine Classical.byContradiction fun hc=>f2 (h.cl hm x.1 f1 fun k hk=>?_)
    obtain⟨y,hy,e⟩:=gw (f3 k hk)
    refine⟨y,hy,e,?_⟩
    have hb:=h.bd y hy
    rcases lt_or_ge (y.2 + 1) m with AV | Dm
    ·exact AV
    ·exact absurd (.inr ⟨y,Bn.mpr (.inl hy),by rw[e];exact hk,by omega⟩) hc
 cl:=fun _ l hl hk=>by
  rw[il]
  by_cases hm:l ∈ ks a
  ·exact mem_append_left _ hm
  ·refine mem_append_right _ (Br.mpr ⟨hl,hm,fun k hkk=>?_⟩)
   obtain⟨y,hy,e,AV⟩:=hk k hkk
   rcases Bn.mp hy with hy | ⟨_,h2⟩
   ·rw[← e];exact qY hy
   ·omega
theorem vM {L:Ld}:∀ (f:Nat){a:Dn}{m:Nat},B1 L a m->L.length + 1 <= f + a.length->∃ m',B1 L (fA L f a m) m'/\bj L (fA L f a m)=[]
 | 0,a,m,h,hf=>by
  have:=h.len
  omega
 | f + 1,a,m,h,hf=>by
  by_cases e:bj L a=[]
  ·rw[oP e]
   exact⟨m,h,e⟩
  ·rw[lD e]
   refine vM f (h.step e) ?_
   unfold eC
   rw[length_append,length_map]
   have:=length_pos_iff.mpr e
   omega
theorem nh (L:Ld):∃ m,B1 L (fW L) m/\bj L (fW L)=[]:=vM _ (B1.nil L) (by simp)
noncomputable def eJ (d:Dn)(l:Nat):Option Nat:=(d.find? fun x=>decide (x.1=l)).map (·.2)
theorem mj {d:Dn}{l g:Nat}(h:eJ d l=some g):(l,g) ∈ d:=by
 unfold eJ at h
 cases e:d.find? fun x=>decide (x.1=l) with
 | none=>rw[e]at h;cases h
 | some y =>
  rw[e]at h
  have h1:=List.mem_of_find?_eq_some e
  have h2:=List.find?_some e
  have h2:y.1=l:=of_decide_eq_true h2
  have h3:y.2=g:=Option.some.inj h
  rw[← h2,← h3];exact h1
theorem dY {d:Dn}{l:Nat}(h:l ∈ ks d):∃ g,eJ d l=some g:=by
 unfold eJ
 obtain⟨y,hy,e⟩:=gw h
 cases e2:d.find? fun x=>decide (x.1=l) with
 | none =>
  rw[List.find?_eq_none]at e2
  exact absurd (decide_eq_true e) (e2 y hy)
 | some z=>exact⟨z.2,rfl⟩
theorem qQ {d:Dn}(h:(ks d).Nodup){x:Nat × Nat}(hx:x ∈ d):eJ d x.1=some x.2:=by
 obtain⟨g,e⟩:=dY (qY hx)
 have hm:=mj e
 obtain⟨i,hi,ei⟩:=getElem_of_mem hm
 obtain⟨j,hj,ej⟩:=getElem_of_mem hx
 have e1:(ks d)[i]? = some x.1:=by unfold ks;rw[getElem?_map,getElem?_eq_getElem hi,ei];rfl
 have e2:(ks d)[j]? = some x.1:=by unfold ks;rw[getElem?_map,getElem?_eq_getElem hj,ej];rfl
 obtain⟨h3,e3⟩:=List.getElem?_eq_some_iff.mp e1
 obtain⟨h4,e4⟩:=List.getElem?_eq_some_iff.mp e2
 have:i=j:=(getElem_inj h).mp (e3.trans e4.symm)
 subst this
 rw[e,← ej,ei]
noncomputable def numsOf (a:Dn)(n:Nat):List Nat:=(List.range n).map fun l=>(eJ a l).getD 0
structure wN (on:Nat->Nat->List Nat)(gs:Nat->List Nat)(n:Nat)(N:List Nat):Prop where
 len:N.length=n
 up:∀ l g w,l < n->w < n->g ∈ gs l->w ∈ on g l->N.getD l 0 < N.getD w 0
 top:∀ w,w < n->N.getD w 0=0∨∃ l g,l < n/\g ∈ gs l/\w ∈ on g l/\N.getD l 0 + 1=N.getD w 0
 bd:∀ w,w < n->N.getD w 0 < n
theorem tG {a:Dn}{n l:Nat}(h:l < n):(numsOf a n).getD l 0=(eJ a l).getD 0:=by
 unfold numsOf
 rw[getD_eq_getElem?_getD,getElem?_map,List.getElem?_range h];rfl
theorem xS (hf:(fW (dU on gs n)).length=n):wN on gs n (numsOf (fW (dU on gs n)) n):=by
 have hL:Bi on gs n (dU on gs n):=ik
 have hc:∀ {l g w:Nat},l < n->g ∈ gs l->w ∈ on g l->w < n->l ∈ ks ((dU on gs n).getD w []):=tM
 obtain⟨m,h,_⟩:=nh (dU on gs n)
 generalize dU on gs n=L at hL hc hf h
 generalize fW L=a at hf h
 have hn:=hL.len
 have full:∀ x,x < n->x ∈ ks a:=sh h.nd (fun x hx=>by rw[← hn];exact h.lt x hx) (by unfold ks;rw[length_map];omega)
 have at_:∀ l,l < n->∃ y ∈ a,y.1=l/\(numsOf a n).getD l 0=y.2:=fun l hl=>by
  obtain⟨y,hy,e⟩:=gw (full l hl)
  refine⟨y,hy,e,?_⟩
  rw[tG hl,← e,qQ h.nd hy];rfl
 have uniq:∀ {y z:Nat × Nat},y ∈ a->z ∈ a->y.1=z.1->y.2=z.2:=fun {y z} hy hz e=>by
  have e1:=qQ h.nd hy
  have e2:=qQ h.nd hz
  rw[e]at e1
  rw[e1]at e2
  exact Option.some.inj e2
 refine⟨by unfold numsOf;rw[length_map,length_range],fun l g w hl hw hg OG=>?_,fun w hw=>?_,fun w hw=>?_⟩
 ·obtain⟨y,hy,e1,e2⟩:=at_ l hl
  obtain⟨z,hz,e3,e4⟩:=at_ w hw
  rw[e2,e4]
  obtain⟨u,hu,e5,e6⟩:=h.low z hz l (by rw[e3];exact hc hl hg OG hw)
  rw[uniq hy hu (by rw[e1,e5])]
  exact e6
 ·obtain⟨z,hz,e3,e4⟩:=at_ w hw
  rw[e4]
  rcases h.top z hz with e | ⟨y,hy,e5,e6⟩
  ·exact .inl e
  ·rw[e3]at e5
   obtain⟨x,hx,ex⟩:=gw e5
   obtain⟨b1,b2,b3⟩:=hL.of w x hx
   rw[ex]at b1 b2 b3
   obtain⟨u,hu,e7,e8⟩:=at_ y.1 b1
   refine .inr ⟨y.1,x.2,b1,b2,b3,?_⟩
   rw[e8,uniq hu hy e7];exact e6
 ·obtain⟨z,hz,e3,e4⟩:=at_ w hw
  rw[e4]
  have:=h.bd z hz
  have:=h.By
  omega
noncomputable def kg:List Nat->Nat
 | []=>0
 | [x]=>x
 | x :: y :: t=>min x (kg (y :: t))
theorem ke:∀ {l:List Nat},l ≠ []->kg l ∈ l
 | [],h=>absurd rfl h
 | [x],_=>mem_singleton.mpr rfl
 | x :: y :: t,_=>by
  show min x (kg (y :: t)) ∈ _
  rcases Nat.le_total x (kg (y :: t)) with h | h
  ·rw[min_eq_left h];exact mem_cons_self
  ·rw[Nat.min_eq_right h];exact mem_cons_of_mem _ (ke (List.cons_ne_nil _ _))
theorem sj:∀ {l:List Nat}{z:Nat},z ∈ l->kg l <= z
 | [x],z,h=>by rw[mem_singleton.mp h];exact Nat.le_refl _
 | x :: y :: t,z,h=>by
  show min x (kg (y :: t)) <= z
  rcases mem_cons.mp h with e | h
  ·rw[e];exact Nat.min_le_left ..
  ·exact le_trans (Nat.min_le_right ..) (sj h)
theorem xU {l:List Nat}{m:Nat}(hm:m ∈ l)(h:∀ z ∈ l,m <= z):m=kg l:=by
 have h1:=sj hm
 have h2:=h _ (ke (List.ne_nil_of_mem hm))
 omega
noncomputable def fK (L:Ld)(a:Dn)(l:Nat):List Nat:=(ks (L.getD l [])).filter fun k=>!decide (k ∈ ks a)
noncomputable def cK (L:Ld)(a:Dn):List Nat:=(List.range L.length).filter fun l=>!decide (l ∈ ks a)
noncomputable def lp (L:Ld)(a:Dn):Nat->List Nat->Nat->List Nat
 | 0,wk,l=>wk.drop (wk.idxOf l)
 | f + 1,wk,l=>if l ∈ wk then wk.drop (wk.idxOf l) else lp L a f (wk ++ [l]) (kg (fK L a l))
noncomputable def gF (L:Ld)(a:Dn):List Nat:=lp L a (L.length + 1) [] ((cK L a).headD 0)
structure DH (L:Ld)(a:Dn)(wk:List Nat)(l:Nat):Prop where
 nd:wk.Nodup
 lt:∀ x ∈ wk,x < L.length/\x ∉ ks a
 cur:l < L.length/\l ∉ ks a
 nx:∀ i x y,wk[i]? = some x->wk[i + 1]? = some y->y ∈ ks (L.getD x [])
 last:∀ x,wk.getLast? = some x->l ∈ ks (L.getD x [])
theorem pK {L:Ld}{a:Dn}(hf:bj L a=[]){l:Nat}(hl:l < L.length)(hn:l ∉ ks a):fK L a l ≠ []:=by
 intro h
 have hc:l ∈ bj L a:=Br.mpr ⟨hl,hn,fun k hk=>by
  refine Classical.byContradiction fun hk2=>?_
  have:k ∈ fK L a l:=mem_filter.mpr ⟨hk,by rw[decide_eq_false hk2];rfl⟩
  rw[h]at this
  cases this⟩
 rw[hf]at hc
 cases hc
theorem DH.step {L:Ld}{a:Dn}{wk:List Nat}{l:Nat}(AV:∀ w,∀ x ∈ ks (L.getD w []),x < L.length)(h:DH L a wk l)(hf:bj L a=[])(hn:l ∉ wk):DH L a (wk ++ [l]) (kg (fK L a l)):=by
 have hm:=ke (pK hf h.cur.1 h.cur.2)
 obtain⟨m1,m2⟩:=mem_filter.mp hm
 refine⟨?_,fun x hx=>?_,⟨AV _ _ m1,by simpa using m2⟩,fun i x y hx hy=>?_,fun x hx=>?_⟩
 ·rw[nodup_append]
  refine⟨h.nd,by simp,fun x hx y hy e=>?_⟩
  rw[mem_singleton.mp hy]at e
  subst e
  exact hn hx
 ·rcases mem_append.mp hx with hx | hx
  ·exact h.lt x hx
  ·rw[mem_singleton.mp hx];exact h.cur
 ·have hi:i + 1 < (wk ++ [l]).length:=(L2.gQ0 hy)
  rw[length_append,length_singleton]at hi
  rw[getElem?_append_left (by omega)]at hx
  rcases lt_or_ge (i + 1) wk.length with h1 | h1
  ·rw[getElem?_append_left h1]at hy
   exact h.nx i x y hx hy
  ·rw[getElem?_append_right h1]at hy
   have e0:i + 1 - wk.length=0:=by omega
   rw[e0]at hy
   have hy:l=y:=Option.some.inj hy
   subst hy
   refine h.last x ?_
   rw[List.getLast?_eq_getElem?]
   have:wk.length - 1=i:=by omega
   rw[this];exact hx
 ·rw[List.getLast?_append]at hx
  have hx:l=x:=by simpa using hx
  subst hx
  exact m1
structure JI (L:Ld)(r:List Nat):Prop where
 ne:r ≠ []
 nd:r.Nodup
 lt:∀ x ∈ r,x < L.length
 nx:∀ i x y,r[i]? = some x->r[i + 1]? = some y->y ∈ ks (L.getD x [])
 cl:∀ x y,r.getLast? = some x->r.head? = some y->y ∈ ks (L.getD x [])
theorem Ap {L:Ld}{a:Dn}{wk:List Nat}{l:Nat}(h:DH L a wk l)(hm:l ∈ wk):JI L (wk.drop (wk.idxOf l)):=by
 have hi:wk.idxOf l < wk.length:=idxOf_lt_length_of_mem hm
 have hg:wk[wk.idxOf l]? = some l:=by rw[getElem?_eq_getElem hi,getElem_idxOf]
 refine⟨fun z=>?_,List.Pairwise.sublist (drop_sublist _ _) h.nd,fun x hx=>(h.lt x (mem_of_mem_drop hx)).1,fun i x y hx hy=>?_,fun x y hx hy=>?_⟩
 ·have:=congrArg List.length z
  rw[length_drop]at this
  simp at this
  omega
 ·rw[List.getElem?_drop]at hx hy
  exact h.nx _ x y hx (by rw[← hy];congr 1)
 ·rw[List.head?_drop,hg]at hy
  cases hy
  rw[List.getLast?_drop,if_neg (by omega)]at hx
  exact h.last x hx
theorem Cp {L:Ld}{a:Dn}(AV:∀ w,∀ x ∈ ks (L.getD w []),x < L.length)(hf:bj L a=[]):∀ (f:Nat){wk:List Nat}{l:Nat},DH L a wk l->L.length + 1 <= f + wk.length->JI L (lp L a f wk l)
 | 0,wk,l,h,hl=>by
  have:=ij _ _ h.nd fun x hx=>(h.lt x hx).1
  omega
 | f + 1,wk,l,h,hl=>by
  rw[lp]
  split
  ·exact Ap h (by assumption)
  ·exact Cp AV hf f (h.step AV hf (by assumption)) (by rw[length_append,length_singleton];omega)
theorem so {L:Ld}{a:Dn}(hl:a.length < L.length):cK L a ≠ []:=by
 intro h
 have BC:∀ x,x < L.length->x ∈ ks a:=fun x hx=>by
  refine Classical.byContradiction fun hn=>?_
  have:x ∈ cK L a:=mem_filter.mpr ⟨mem_range.mpr hx,by rw[decide_eq_false hn];rfl⟩
  rw[h]at this
  cases this
 have h1:∀ m,(∀ x,x < m->x ∈ ks a)->m <= (ks a).length:=fun m hm=>by
  have:=(List.nodup_range (n:=m)).length_le_of_subset (fun x hx=>hm x (mem_range.mp hx))
  rwa [length_range]at this
 have:=h1 _ BC
 unfold ks at this
 rw[length_map]at this
 omega
theorem rD {L:Ld}{a:Dn}(AV:∀ w,∀ x ∈ ks (L.getD w []),x < L.length)(hf:bj L a=[])(hl:a.length < L.length):JI L (gF L a):=by
 unfold gF
 refine Cp AV hf _ ?_ (by simp)
 have Bu:=so hl
 cases e:cK L a with
 | nil=>exact absurd e Bu
 | cons x t =>
  have hx:x ∈ cK L a:=by rw[e];exact mem_cons_self
  obtain⟨h1,h2⟩:=mem_filter.mp hx
  exact⟨nodup_nil,(fun y hy=>by cases hy),⟨mem_range.mp h1,by simpa using h2⟩,(fun i x y hx=>by simp at hx),fun x hx=>by simp at hx⟩
noncomputable def kW (r:List Nat):List Nat:=r.drop 1 ++ r.take 1
noncomputable def gK (L:Ld)(r:List Nat):List (Nat × Nat):=(r.zip (kW r)).map fun p=>(p.1,(eJ (L.getD p.2 []) p.1).getD 0)
theorem mR (r:List Nat):(kW r).length=r.length:=by
 unfold kW
 rw[length_append,length_drop,length_take]
 omega
theorem JI.fwd {L:Ld}{r:List Nat}(h:JI L r):∀ (i x y:Nat),r.reverse[i]? = some x->(kW r.reverse)[i]? = some y->x ∈ ks (L.getD y []):=by
 intro i x y hx hy
 have hi:i < r.length:=by have:=(L2.gQ0 hx);rwa [length_reverse]at this
 unfold kW at hy
 rcases lt_or_ge (i + 1) r.length with h1 | h1
 ·rw[getElem?_append_left (by rw[length_drop,length_reverse];omega),List.getElem?_drop,List.getElem?_reverse (by omega)]at hy
  rw[List.getElem?_reverse hi]at hx
  exact h.nx (r.length - 1 - (1 + i)) y x hy (by rw[← hx];congr 1;omega)
 ·have e:i=r.length - 1:=by omega
  rw[getElem?_append_right (by rw[length_drop,length_reverse];omega),length_drop,length_reverse]at hy
  have e0:i - (r.length - 1)=0:=by omega
  rw[e0,List.getElem?_take,if_pos (by omega),List.getElem?_reverse (by omega)]at hy
  rw[List.getElem?_reverse hi]at hx
  refine h.cl y x ?_ ?_
  ·rw[List.getLast?_eq_getElem?,← hy];congr 1
  ·rw[List.head?_eq_getElem?,← hx];congr 1;omega
end LkM
namespace Yd
open PySem PySem.W PySem.Calls PyProof.Rows
noncomputable def ny:Bool->Keyed->Array Keyed->Nat->Nat->Nat->StateT SortSt Sem (Option Nat):=sortPriv% PySem.Builtin.gallop
noncomputable def kZ:Nat->StateT SortSt Sem Unit:=sortPriv% PySem.Builtin.setMinGallop
noncomputable def vU:Array Keyed->Array Keyed->StateT SortSt Sem (Array Keyed):=sortPriv% PySem.Builtin.mergeLo
noncomputable def vV:Array Keyed->Array Keyed->StateT SortSt Sem (Array Keyed):=sortPriv% PySem.Builtin.mergeHi
noncomputable def nF (left:Bool)(key:Keyed)(arr:Array Keyed)(base:Nat)(i:Nat):StateT SortSt Sem (Option Bool):=elem' arr (base + i) >>= fun y=>if left=true then lt' y key else lt' key y >>= fun r=>pure (r.map not)
section
variable {M:Model}{A:Around}{E:Value->Shared->Prop}{s:Shared}
noncomputable def ur (M:Model)(A:Around)(E:Value->Shared->Prop)(s:Shared) (κ:SortKind) (R:Keyed->Int) (P:Keyed->Prop):Prop:=∀ x y,P x->P y->∀ (st:SortSt)(Q:Option Bool->SortSt->Prop),kindOf st=κ->Q (some (decide (R x < R y))) st->wpS M A E s (lt' x y) Q st
theorem aM {arr:Array Keyed}{i:Nat}{x:Keyed}{st:SortSt}{Q:Keyed->SortSt->Prop}(h:arr[i]? = some x)(q:Q x st):wpS M A E s (elem' arr i) Q st:=by
 rw[elem'_eq,h]
 exact wpS_pure q
variable {κ:SortKind} {R:Keyed->Int} {P:Keyed->Prop}
theorem pS {left:Bool}{key x:Keyed}{arr:Array Keyed}{base i:Nat}{st:SortSt}{Q:Option Bool->SortSt->Prop}(hc:ur M A E s κ R P)(hk:kindOf st=κ)(hx:arr[base + i]? = some x)(px:P x)(pk:P key)(ne:R x ≠ R key)(q:Q (some (decide (R x < R key))) st) :
  wpS M A E s (nF left key arr base i) Q st:=by
 unfold nF
 refine wpS_bind (aM hx ?_)
 cases left with
 | true=>exact hc x key px pk st _ hk q
 | false =>
  refine wpS_bind (hc key x pk px st _ hk (wpS_pure ?_))
  have e:(some (decide (R key < R x))).map (fun b:Bool=>!b)=some (decide (R x < R key)):=by
   show some (!decide (R key < R x))=_
   congr 1
   rcases Int.lt_trichotomy (R x) (R key) with h | h | h
   ·rw[decide_eq_false (by omega),decide_eq_true h];rfl
   ·exact absurd h ne
   ·rw[decide_eq_true h,decide_eq_false (by omega)];rfl
  rw[e]
  exact q
set_option hygiene false in
local macro_rules | `(tactic| and_intros) => `(tactic| (
 refine wpS_bind (wpS_mono (wpS_forRange (I:=fun x c AO=>st=AO/\∃ lo hi,c=(none,lo,hi)/\lo <= hi/\hi <= n/\hi - lo <= n - x/\(∀ i,i < lo->B i=true)/\(∀ i,hi <= i->i < n->B i=false))
  (Q:=fun c AO=>st=AO/\∃ k,c=(none,k,k)/\k <= n/\(∀ i,i < k->B i=true)/\(∀ i,k <= i->i < n->B i=false)) ?stepB ?finB ⟨rfl,lo,hi,rfl,h1,h2,by omega,h3,h4⟩) ?postB)
 case finB =>
  rintro c AO ⟨rfl,lo,hi,rfl,a1,a2,a3,a4,a5⟩
  have:lo=hi:=by rw[max_eq_right (zero_le n)]at a3;omega
  subst this
  exact⟨rfl,lo,rfl,a2,a4,a5⟩
 case postB =>
  rintro c AO ⟨rfl,k,rfl,a1,a2,a3⟩
  exact wpS_pure (q k a1 a2 a3)
 case stepB =>
  rintro x c AO _ hx ⟨rfl,lo,hi,rfl,a1,a2,a3,a4,a5⟩
  dsimp only
  by_cases Dm:lo ≥ hi
  ·rw[if_pos Dm]
   have:lo=hi:=by omega
   subst this
   exact wpS_pure ⟨rfl,lo,rfl,a2,a4,a5⟩
  rw[if_neg Dm]
  have hmid:lo + (hi - lo) / 2 < hi:=by omega
  refine wpS_bind (Fi (by omega) ?_)
  dsimp only
  cases hb:B (lo + (hi - lo) / 2) with
  | true =>
   rw[if_pos rfl]
   exact wpS_pure ⟨rfl,_,_,rfl,by omega,a2,by omega,fun i HX=>hm i _ (by omega) (by omega) hb,a5⟩
  | false =>
   rw[if_neg (by decide)]
   refine wpS_pure ⟨rfl,_,_,rfl,by omega,by omega,by omega,a4,fun i h1 h2=>?_⟩
   cases h:B i with
   | false=>rfl
   | true=>rw[hm _ i h1 h2 h]at hb;cases hb))
theorem j2 {left:Bool}{key:Keyed}{arr:Array Keyed}{base n hint:Nat}{st:SortSt}{Q:Option Nat->SortSt->Prop}(hc:ur M A E s κ R P)(hk:kindOf st=κ)(pk:P key)
  (B:Nat->Bool) (hB:∀ i,i < n->∃ x,arr[base + i]? = some x/\P x/\R x ≠ R key/\B i=decide (R x < R key)) (hm:∀ i j,i <= j->j < n->B j=true->B i=true) (hh:hint < n)
  (q:∀ k,k <= n->(∀ i,i < k->B i=true)->(∀ i,k <= i->i < n->B i=false)->Q (some k) st):wpS M A E s (ny left key arr base n hint) Q st:=by
 have Fi:∀ {i:Nat}{Q:Option Bool->SortSt->Prop},i < n->Q (some (B i)) st->wpS M A E s (nF left key arr base i) Q st:=fun {i Q} hi q=>by
  obtain⟨x,h1,h2,h3,h4⟩:=hB i hi
  rw[h4]at q
  exact pS hc hk h1 h2 pk h3 q
 have hf:∀ i j,i <= j->j < n->B i=false->B j=false:=fun i j h1 h2 h3=>by
  cases h:B j with
  | false=>rfl
  | true=>rw[hm i j h1 h2 h]at h3;cases h3
 refine wpS_bind (Fi hh ?_)
 dsimp only
 cases hr:B hint with
 | true =>
  rw[if_pos rfl]
  refine wpS_bind (wpS_mono (wpS_forRange (I:=fun x c AO=>st=AO/\∃ la of,c=(none,la,of)/\la < of/\x + 1 <= of/\hint + la < n/\B (hint + la)=true)
   (Q:=fun c AO=>st=AO/\∃ la of,c=(none,la,of)/\la < of/\hint + la < n/\B (hint + la)=true/\(n - hint <= of∨(hint + of < n/\B (hint + of)=false))) ?step ?fin ⟨rfl,0,1,rfl,by omega,by omega,by omega,hr⟩) ?post)
  case fin =>
   rintro c AO ⟨rfl,la,of,rfl,a1,a2,a3,a4⟩
   rw[max_eq_right (zero_le n)]at a2
   exact⟨rfl,la,of,rfl,a1,a3,a4, .inl (by omega)⟩
  case step =>
   rintro x c AO _ hx ⟨rfl,la,of,rfl,a1,a2,a3,a4⟩
   dsimp only
   by_cases Dm:of ≥ n - hint
   ·rw[if_pos Dm]
    exact wpS_pure ⟨rfl,la,of,rfl,a1,a3,a4, .inl Dm⟩
   rw[if_neg Dm]
   refine wpS_bind (Fi (by omega) ?_)
   dsimp only
   cases hb:B (hint + of) with
   | true =>
    rw[if_neg (by decide)]
    exact wpS_pure ⟨rfl,of,_,rfl,by omega,by omega,by omega,hb⟩
   | false =>
    rw[if_pos (by decide)]
    exact wpS_pure ⟨rfl,la,of,rfl,a1,a3,a4, .inr ⟨by omega,hb⟩⟩
  case post =>
   rintro c AO ⟨rfl,la,of,rfl,a1,a3,a4,a5⟩
   dsimp only
   have h3:∀ i,i < hint + la + 1->B i=true:=fun i hi=>hm i _ (by omega) a3 a4
   have h4:∀ i,hint + min of (n - hint) <= i->i < n->B i=false:=fun i h1 h2=>by
    rcases a5 with a5 | ⟨a5,a6⟩
    ·omega
    ·exact hf _ i (by omega) h2 a6
   have h1:hint + la + 1 <= hint + min of (n - hint):=by omega
   have h2:hint + min of (n - hint) <= n:=by omega
   generalize hint + la + 1=lo at h1 h3 ⊢
   generalize hint + min of (n - hint)=hi at h1 h2 h4 ⊢
   and_intros
 | false =>
  rw[if_neg (by decide)]
  refine wpS_bind (wpS_mono (wpS_forRange (I:=fun x c AO=>st=AO/\∃ la of,c=(none,la,of)/\la < of/\x + 1 <= of/\la <= hint/\B (hint - la)=false)
   (Q:=fun c AO=>st=AO/\∃ la of,c=(none,la,of)/\la < of/\la <= hint/\B (hint - la)=false/\(hint + 1 <= of∨(of <= hint/\B (hint - of)=true))) ?step2 ?fin2 ⟨rfl,0,1,rfl,by omega,by omega,by omega,hr⟩) ?post2)
  case fin2 =>
   rintro c AO ⟨rfl,la,of,rfl,a1,a2,a3,a4⟩
   rw[max_eq_right (zero_le n)]at a2
   exact⟨rfl,la,of,rfl,a1,a3,a4, .inl (by omega)⟩
  case step2 =>
   rintro x c AO _ hx ⟨rfl,la,of,rfl,a1,a2,a3,a4⟩
   dsimp only
   by_cases Dm:of ≥ hint + 1
   ·rw[if_pos Dm]
    exact wpS_pure ⟨rfl,la,of,rfl,a1,a3,a4, .inl Dm⟩
   rw[if_neg Dm]
   refine wpS_bind (Fi (by omega) ?_)
   dsimp only
   cases hb:B (hint - of) with
   | true =>
    rw[if_pos rfl]
    exact wpS_pure ⟨rfl,la,of,rfl,a1,a3,a4, .inr ⟨by omega,hb⟩⟩
   | false =>
    rw[if_neg (by decide)]
    exact wpS_pure ⟨rfl,of,_,rfl,by omega,by omega,by omega,hb⟩
  case post2 =>
   rintro c AO ⟨rfl,la,of,rfl,a1,a3,a4,a5⟩
   dsimp only
   have h3:∀ i,i < hint + 1 - min of (hint + 1)->B i=true:=fun i hi=>by
    rcases a5 with a5 | ⟨a5,a6⟩
    ·omega
    ·exact hm i _ (by omega) (by omega) a6
   have h4:∀ i,hint - la <= i->i < n->B i=false:=fun i h1 h2=>hf _ i h1 h2 a4
   have h1:hint + 1 - min of (hint + 1) <= hint - la:=by omega
   have h2:hint - la <= n:=by omega
   generalize hint + 1 - min of (hint + 1)=lo at h1 h3 ⊢
   generalize hint - la=hi at h1 h2 h4 ⊢
   and_intros
end
abbrev BZ (R:Keyed->Int)(l:List Keyed):Prop:=l.Pairwise fun x y=>R x < R y
structure MI (R:Keyed->Int)(la lb o:List Keyed)(ia ib:Nat):Prop where
 perm:o.Perm (la.take ia ++ lb.take ib)
 Hj:BZ R o
 low:∀ x ∈ o,∀ y,y ∈ la.drop ia∨y ∈ lb.drop ib->R x < R y
noncomputable def fX (R:Keyed->Int)(la lb:List Keyed)(r:Array Keyed):Prop:=r.toList.Perm (la ++ lb)/\BZ R r.toList
theorem bP {l:List Keyed}{i:Nat}{x:Keyed}(h:l[i]? = some x):l.drop i=x :: l.drop (i + 1):=by
 obtain⟨hi,e⟩:=List.getElem?_eq_some_iff.mp h
 rw[drop_eq_getElem_cons hi,e]
theorem bN {l:List Keyed}{i:Nat}{x:Keyed}(h:l[i]? = some x):l.take (i + 1)=l.take i ++ [x]:=by
 rw[take_succ,h];rfl
section
variable {R:Keyed->Int}{la lb o:List Keyed}{ia ib:Nat}
theorem BZ.Bv {l:List Keyed}(h:BZ R l){i:Nat}{x:Keyed}(hx:l[i]? = some x):∀ y ∈ l.drop (i + 1),R x < R y:=by
 have:BZ R (l.drop i):=List.Pairwise.sublist (drop_sublist i l) h
 rw[bP hx]at this
 exact(pairwise_cons.mp this).1
theorem MI.b (m:MI R la lb o ia ib)(hB:BZ R lb){y:Keyed}(hy:lb[ib]? = some y)(h:∀ z ∈ la.drop ia,R y < R z):MI R la lb (o ++ [y]) ia (ib + 1):=by
 have ym:y ∈ lb.drop ib:=by rw[bP hy];exact mem_cons_self
 refine⟨?_,pairwise_append.mpr ⟨m.Hj,pairwise_singleton _ _,fun x hx z hz=>by rw[mem_singleton.mp hz];exact m.low x hx y (.inr ym)⟩,fun x hx z hz=>?_⟩
 ·rw[bN hy,← append_assoc]
  exact m.perm.append_right [y]
 ·rcases mem_append.mp hx with hx | hx
  ·refine m.low x hx z (hz.imp id fun hz=>?_)
   rw[bP hy];exact mem_cons_of_mem _ hz
  ·rw[mem_singleton.mp hx]
   rcases hz with hz | hz
   ·exact h z hz
   ·exact hB.Bv hy z hz
theorem MI.a (m:MI R la lb o ia ib)(hA:BZ R la){y:Keyed}(hy:la[ia]? = some y)(h:∀ z ∈ lb.drop ib,R y < R z):MI R la lb (o ++ [y]) (ia + 1) ib:=by
 have ym:y ∈ la.drop ia:=by rw[bP hy];exact mem_cons_self
 refine⟨?_,pairwise_append.mpr ⟨m.Hj,pairwise_singleton _ _,fun x hx z hz=>by rw[mem_singleton.mp hz];exact m.low x hx y (.inl ym)⟩,fun x hx z hz=>?_⟩
 ·rw[bN hy]
  have h1:=m.perm.append_right [y]
  refine h1.trans ?_
  rw[append_assoc,append_assoc]
  exact(perm_append_comm (l₁:=lb.take ib) (l₂:=[y])).append_left _
 ·rcases mem_append.mp hx with hx | hx
  ·refine m.low x hx z (hz.imp (fun hz=>?_) id)
   rw[bP hy];exact mem_cons_of_mem _ hz
  ·rw[mem_singleton.mp hx]
   rcases hz with hz | hz
   ·exact hA.Bv hy z hz
   ·exact h z hz
theorem MI.as (hA:BZ R la):∀ (k:Nat){o:List Keyed}{ia:Nat},MI R la lb o ia ib->ia + k <= la.length->(∀ i y,i < k->la[ia + i]? = some y->∀ z ∈ lb.drop ib,R y < R z)->MI R la lb (o ++ (la.drop ia).take k) (ia + k) ib
 | 0,o,ia,m,_,_=>by rw[take_zero,append_nil];exact m
 | k + 1,o,ia,m,hl,h=>by
  have hy:la[ia]? = some (la[ia]'(by omega)):=getElem?_eq_getElem (by omega)
  generalize la[ia]'(by omega)=y at hy
  have m1:=m.a hA hy (h 0 y (by omega) hy)
  have m2:=MI.as hA k m1 (by omega) fun i z hi hz=>h (i + 1) z (by omega) (by rw[← hz];congr 1;omega)
  rw[bP hy,List.take_succ_cons,show ia + (k + 1)=ia + 1 + k by omega]
  rw[append_assoc]at m2
  exact m2
theorem MI.bs (hB:BZ R lb):∀ (k:Nat){o:List Keyed}{ib:Nat},MI R la lb o ia ib->ib + k <= lb.length->(∀ i y,i < k->lb[ib + i]? = some y->∀ z ∈ la.drop ia,R y < R z)->MI R la lb (o ++ (lb.drop ib).take k) ia (ib + k)
 | 0,o,ib,m,_,_=>by rw[take_zero,append_nil];exact m
 | k + 1,o,ib,m,hl,h=>by
  have hy:lb[ib]? = some (lb[ib]'(by omega)):=getElem?_eq_getElem (by omega)
  generalize lb[ib]'(by omega)=y at hy
  have m1:=m.b hB hy (h 0 y (by omega) hy)
  have m2:=MI.bs hB k m1 (by omega) fun i z hi hz=>h (i + 1) z (by omega) (by rw[← hz];congr 1;omega)
  rw[bP hy,List.take_succ_cons,show ib + (k + 1)=ib + 1 + k by omega]
  rw[append_assoc]at m2
  exact m2
theorem MI.fin (m:MI R la lb o ia ib){rest:List Keyed}(hp:rest.Perm (la.drop ia ++ lb.drop ib))(hs:BZ R rest):(o ++ rest).Perm (la ++ lb)/\BZ R (o ++ rest):=by
 refine⟨?_,pairwise_append.mpr ⟨m.Hj,hs,fun x hx y hy=>m.low x hx y (mem_append.mp (hp.mem_iff.mp hy))⟩⟩
 have h1:=m.perm.append hp
 refine h1.trans ?_
 have e:la ++ lb=(la.take ia ++ la.drop ia) ++ (lb.take ib ++ lb.drop ib):=by rw[take_append_drop,take_append_drop]
 rw[e,append_assoc,append_assoc]
 refine List.Perm.append_left _ ?_
 rw[← append_assoc,← append_assoc]
 exact(perm_append_comm (l₁:=lb.take ib) (l₂:=la.drop ia)).append_right _
end
theorem iu (a:Array Keyed)(i:Nat):(a.extract i a.size).toList=a.toList.drop i:=by
 rw[Array.toList_extract,extract_eq_drop_take,take_of_length_le (by rw[length_drop,Array.length_toList];exact Nat.le_refl _)]
theorem sF (a:Array Keyed)(i k:Nat):(a.extract i (i + k)).toList=(a.toList.drop i).take k:=by
 rw[Array.toList_extract,extract_eq_drop_take]
 congr 1
 omega
section
variable {R:Keyed->Int}{a b out:Array Keyed}{ia ib:Nat}
theorem MI.done (m:MI R a.toList b.toList out.toList ia ib)(hA:BZ R a.toList)(h:ib=b.size):fX R a.toList b.toList (out ++ a.extract ia a.size ++ b.extract ib b.size):=by
 have e:(out ++ a.extract ia a.size ++ b.extract ib b.size).toList=out.toList ++ (a.toList.drop ia ++ b.toList.drop ib):=by
  rw[Array.toList_append,Array.toList_append,iu,iu,append_assoc]
 unfold fX
 rw[e]
 refine m.fin (List.Perm.refl _) ?_
 have:b.toList.drop ib=[]:=drop_eq_nil_iff.mpr (by rw[Array.length_toList];omega)
 rw[this,append_nil]
 exact List.Pairwise.sublist (drop_sublist _ _) hA
theorem MI.last (m:MI R a.toList b.toList out.toList ia ib)(hB:BZ R b.toList)(h:ia + 1=a.size)(hl:∀ x,a.toList[ia]? = some x->∀ y ∈ b.toList,R y < R x):fX R a.toList b.toList (out ++ b.extract ib b.size ++ a.extract ia a.size):=by
 have e:(out ++ b.extract ib b.size ++ a.extract ia a.size).toList=out.toList ++ (b.toList.drop ib ++ a.toList.drop ia):=by
  rw[Array.toList_append,Array.toList_append,iu,iu,append_assoc]
 unfold fX
 rw[e]
 refine m.fin perm_append_comm ?_
 have hx:a.toList[ia]? = some (a.toList[ia]'(by rw[Array.length_toList];omega)):=getElem?_eq_getElem _
 have:a.toList.drop ia=[a.toList[ia]'(by rw[Array.length_toList];omega)]:=by
  rw[bP hx,drop_eq_nil_iff.mpr (by rw[Array.length_toList];omega)]
 rw[this]
 exact pairwise_append.mpr ⟨List.Pairwise.sublist (drop_sublist _ _) hB,pairwise_singleton _ _,fun y hy x B3=>by
  rw[mem_singleton.mp B3]
  exact hl _ hx y (mem_of_mem_drop hy)⟩
end
end Yd
namespace Yd
open PySem PySem.W PySem.Calls PyProof.Rows
structure SM (st AO:SortSt):Prop where
 k:kindOf AO = kindOf st
 a:arrOf AO = arrOf st
 p:pendingOf AO = pendingOf st
 f:failedOf AO = failedOf st
theorem SM.refl (st:SortSt):SM st st:=⟨rfl,rfl,rfl,rfl⟩
theorem SM.trans {x y z:SortSt}(h:SM x y)(g:SM y z):SM x z:=⟨g.k.trans h.k,g.a.trans h.a,g.p.trans h.p,g.f.trans h.f⟩
structure MP (R:Keyed->Int)(P:Keyed->Prop)(a b:Array Keyed):Prop where
 hA:BZ R a.toList
 hB:BZ R b.toList
 pa:∀ x ∈ a.toList,P x
 pb:∀ x ∈ b.toList,P x
 ne:∀ x ∈ a.toList,∀ y ∈ b.toList,R x ≠ R y
 first:∀ y,b.toList[0]? = some y->∀ z ∈ a.toList,R y < R z
 last:∀ x,a.toList[a.size - 1]? = some x->∀ y ∈ b.toList,R y < R x
 na:0 < a.size
 nb:0 < b.size
section
variable {M:Model}{A:Around}{E:Value->Shared->Prop}{s:Shared} {κ:SortKind} {R:Keyed->Int} {P:Keyed->Prop}
theorem gC {g:Nat}{st:SortSt}{Q:Unit->SortSt->Prop}(h:∀ AO,SM st AO->Q () AO):wpS M A E s (kZ g) Q st:=by
 show wpS M A E s (modify fun s=>SortSt.mk' (kindOf s) (arrOf s) (pendingOf s) g (failedOf s)) Q st
 exact wpS_modify (h _ ⟨rfl,rfl,rfl,rfl⟩)
theorem aV {a:Array Keyed}{i:Nat}(h:i < a.size):∃ x,a[i]? = some x/\a.toList[i]? = some x/\x ∈ a.toList:=by
 refine⟨a[i],Array.getElem?_eq_getElem h,?_,Array.getElem_mem_toList h⟩
 rw[Array.getElem?_toList,Array.getElem?_eq_getElem h]
theorem sm {a:Array Keyed}{i:Nat}{x:Keyed}(h:a[i]? = some x):a.toList[i]? = some x:=by rw[Array.getElem?_toList];exact h
theorem jk {left:Bool}{key:Keyed}{arr:Array Keyed}{base hint n:Nat}{st:SortSt}{Q:Option Nat->SortSt->Prop}(hc:ur M A E s κ R P)(hk:kindOf st=κ)(pk:P key)(hs:BZ R arr.toList)(hp:∀ x ∈ arr.toList,P x)(ne:∀ x ∈ arr.toList,base <= arr.size->R x ≠ R key∨False)
  (hn:base + n <= arr.size) (hh:hint < n) (q:∀ k,k <= n->(∀ i x,i < k->arr.toList[base + i]? = some x->R x < R key)->(∀ i x,k <= i->i < n->arr.toList[base + i]? = some x->R key < R x)->Q (some k) st) :
  wpS M A E s (ny left key arr base n hint) Q st:=by
 have at':∀ i,i < n->∃ x,arr[base + i]? = some x/\arr.toList[base + i]? = some x/\x ∈ arr.toList:=fun i hi=>aV (by omega)
 have rise:∀ (i j:Nat)(x y:Keyed),i < j->arr.toList[i]? = some x->arr.toList[j]? = some y->R x < R y:=fun i j x y JF hx hy=>by
  refine hs.Bv hx y ?_
  have:(arr.toList.drop (i + 1))[j - (i + 1)]? = some y:=by rw[List.getElem?_drop,← hy];congr 1;omega
  exact mem_of_getElem? this
 have ne':∀ x ∈ arr.toList,R x ≠ R key:=fun x hx=>(ne x hx (by omega)).elim id False.elim
 refine j2 hc hk pk (fun i=>match arr[base + i]? with | some x=>decide (R x < R key) | none=>false) (fun i hi=>?_) (fun i j JF hj h=>?_) hh fun k hk1 hk2 OH=>q k hk1 (fun i x hi hx=>?_) fun i x h1 h2 hx=>?_
 ·obtain⟨x,h1,h2,h3⟩:=at' i hi
  exact⟨x,h1,hp x h3,ne' x h3,by rw[h1]⟩
 ·obtain⟨x,h1,h2,h3⟩:=at' i (by omega)
  obtain⟨y,g1,g2,g3⟩:=at' j hj
  simp only[g1]at h
  simp only[h1]
  have:=of_decide_eq_true h
  by_cases e:i=j
  ·subst e;rw[h1]at g1;cases g1;exact h
  ·exact decide_eq_true (Int.lt_trans (rise _ _ x y (by omega) h2 g2) this)
 ·have:=hk2 i hi
  have e:arr[base + i]? = some x:=by rw[← Array.getElem?_toList];exact hx
  simp only[e]at this
  exact of_decide_eq_true this
 ·have:=OH i h1 h2
  have e:arr[base + i]? = some x:=by rw[← Array.getElem?_toList];exact hx
  simp only[e]at this
  have h4:=of_decide_eq_false this
  have h5:=ne' x (mem_of_getElem? hx)
  omega
theorem cg {α:Type}{c:Prop}{d:Decidable c}{X Y:StateT SortSt Sem α}{Q:α->SortSt->Prop}{st:SortSt}(h1:c->wpS M A E s X Q st)(h2:¬ c->wpS M A E s Y Q st):wpS M A E s (@ite _ c d X Y) Q st:=by
 by_cases h:c
 ·rw[if_pos h];exact h1 h
 ·rw[if_neg h];exact h2 h
theorem bM {α:Type}{m n:Nat}{d:Decidable ((m == n)=true)}{X Y:StateT SortSt Sem α}{Q:α->SortSt->Prop}{st:SortSt}(h1:m=n->wpS M A E s X Q st)(h2:m ≠ n->wpS M A E s Y Q st):wpS M A E s (@ite _ ((m == n)=true) d X Y) Q st:=cg (fun e=>h1 (by simpa using e)) fun e=>h2 (by simpa using e)
theorem rB {α:Type}{c:Prop}{d:Decidable c}{F:Unit->Nat->StateT SortSt Sem α}{x y:Nat}{Q:α->SortSt->Prop}{st:SortSt}(h:∀ z,wpS M A E s (F () z) Q st):wpS M A E s (@ite _ c d (F () x) (F () y)) Q st:=cg (fun _=>h _) fun _=>h _
theorem jj {α β γ:Type}{F:Unit->β->γ->StateT SortSt Sem α}{X:StateT SortSt Sem α}{Q:α->SortSt->Prop}{st:SortSt}(T:β->γ->Prop)(h1:∀ o i,T o i->wpS M A E s (F () o i) Q st)(h2:(∀ o i,T o i->wpS M A E s (F () o i) Q st)->wpS M A E s X Q st):wpS M A E s X Q st:=h2 h1
theorem nN {a b:Array Keyed}{st:SortSt}{Q:Array Keyed->SortSt->Prop}(hc:ur M A E s κ R P)(hk:kindOf st=κ)(H:MP R P a b)(q:∀ r AO,SM st AO->fX R a.toList b.toList r->Q r AO):wpS M A E s (vU a b) Q st:=by
 have ha:=H.na
 have hb:=H.nb
 obtain⟨y0,hy0,Hk,JJ⟩:=aV hb
 have lst:∀ {ia:Nat},ia + 1=a.size->∀ x,a.toList[ia]? = some x->∀ y ∈ b.toList,R y < R x:=fun {ia} h x hx=>H.last x (by rw[← hx];congr 1;omega)
 refine wpS_bind (wpS_lift (wpAny_rule ⟨rfl,?_⟩))
 refine wpS_bind (aM hy0 ?_)
 have m0:MI R a.toList b.toList (#[y0]:Array Keyed).toList 0 1:=by
  have:MI R a.toList b.toList [] 0 0:=⟨List.Perm.refl _, .nil,fun x hx=>by cases hx⟩
  exact this.b H.hB Hk (by rw[drop_zero];exact H.first y0 Hk)
 by_cases h1:(1 == b.size)=true
 ·rw[if_pos h1]
  exact wpS_pure (q _ _ (SM.refl st) (m0.done H.hA (by simpa using h1)))
 rw[if_neg h1]
 by_cases h2:(0 + 1 == a.size)=true
 ·rw[if_pos h2]
  exact wpS_pure (q _ _ (SM.refl st) (m0.last H.hB (by simpa using h2) (lst (by simpa using h2))))
 rw[if_neg h2]
 have OI:1 < b.size:=by
  have:¬ 1=b.size:=by simpa using h1
  omega
 have CP:0 + 1 < a.size:=by
  have:¬ 0 + 1=a.size:=by simpa using h2
  omega
 refine wpS_bind (wpS_get ?_)
 refine wpS_bind (wpS_mono (wpS_forRange (I:=fun x c AO=>SM st AO/\∃ (out:Array Keyed)(ia ib mg:Nat),c=(none,out,ia,ib,mg)/\MI R a.toList b.toList out.toList ia ib/\ia + 1 < a.size/\ib < b.size/\x + 1 <= ia + ib)
  (Q:=fun c AO=>SM st AO/\∃ (r:Array Keyed)(rest:Array Keyed × Nat × Nat × Nat),c=(some r,rest)/\fX R a.toList b.toList r) ?step ?fin ⟨SM.refl st,_,0,1,_,rfl,m0,CP,OI,by omega⟩) ?post)
 case fin =>
  rintro c AO ⟨_,out,ia,ib,mg,rfl,m,a1,a2,a3⟩
  rw[max_eq_right (zero_le _)]at a3
  omega
 case post =>
  rintro c AO ⟨hs,r,rest,rfl,hg⟩
  exact wpS_pure (q r AO hs hg)
 case step =>
  rintro x c AO _ hx ⟨hs,out,ia,ib,mg,rfl,m,a1,a2,a3⟩
  dsimp -zeta only
  refine wpS_bind (wpS_mono (wpS_forRange (I:=fun x c Bs=>SM st Bs/\∃ (out:Array Keyed)(ja jb ac bc:Nat),c=(none,out,ja,jb,ac,bc)/\MI R a.toList b.toList out.toList ja jb/\ja + 1 < a.size/\jb < b.size/\x + (ia + ib) <= ja + jb)
   (Q:=fun c Bs=>SM st Bs/\((∃ (r:Array Keyed)(rest:Array Keyed × Nat × Nat × Nat × Nat),c=(some r,rest)/\fX R a.toList b.toList r)∨(∃ (out:Array Keyed)(ja jb ac bc:Nat),c=(none,out,ja,jb,ac,bc)/\MI R a.toList b.toList out.toList ja jb/\ja + 1 < a.size/\jb < b.size/\ia + ib + 1 <= ja + jb))) ?step1 ?fin1 ⟨hs,out,ia,ib,_,_,rfl,m,a1,a2,by omega⟩) ?post1)
  case fin1 =>
   rintro c Bs ⟨hs,out,ja,jb,ac,bc,rfl,m,b1,b2,b3⟩
   rw[max_eq_right (zero_le _)]at b3
   omega
  case step1 =>
   clear m a1 a2 a3 hs
   rintro x c Bs _ hx ⟨hs,out,ja,jb,ac,bc,rfl,m,b1,b2,b3⟩
   dsimp only
   obtain⟨y,hy,hy',EA⟩:=aV b2
   obtain⟨z,hz,Cq,Cv⟩:=aV (show ja < a.size by omega)
   refine wpS_bind (aM hy (wpS_bind (aM hz (wpS_bind (hc y z (H.pb y EA) (H.pa z Cv) Bs _ (by rw[hs.k];exact hk) ?_)))))
   dsimp only
   by_cases AV:R y < R z
   ·rw[decide_eq_true AV,if_pos rfl]
    refine wpS_bind (aM hy ?_)
    have m1:MI R a.toList b.toList (out.push y).toList ja (jb + 1):=by
     rw[Array.toList_push]
     refine m.b H.hB hy' fun w hw=>?_
     rw[bP Cq]at hw
     rcases mem_cons.mp hw with rfl | hw
     ·exact AV
     ·exact Int.lt_trans AV (H.hA.Bv Cq w hw)
    refine bM (fun e=>wpS_pure ⟨hs, .inl ⟨_,_,rfl,m1.done H.hA e⟩⟩) fun e=>?_
    have e':jb + 1 < b.size:=by omega
    refine cg (fun _=>?_) fun _=>?_
    ·exact wpS_pure ⟨hs, .inr ⟨_,_,_,_,_,rfl,m1,b1,e',by omega⟩⟩
    ·exact wpS_pure ⟨hs,_,_,_,_,_,rfl,m1,b1,e',by omega⟩
   ·have EO:R z < R y:=by have:=H.ne z Cv y EA;omega
    rw[decide_eq_false AV,if_neg (by decide)]
    refine wpS_bind (aM hz ?_)
    have m1:MI R a.toList b.toList (out.push z).toList (ja + 1) jb:=by
     rw[Array.toList_push]
     refine m.a H.hA Cq fun w hw=>?_
     rw[bP hy']at hw
     rcases mem_cons.mp hw with rfl | hw
     ·exact EO
     ·exact Int.lt_trans EO (H.hB.Bv hy' w hw)
    refine bM (fun e=>wpS_pure ⟨hs, .inl ⟨_,_,rfl,m1.last H.hB e (lst e)⟩⟩) fun e=>?_
    have e':ja + 1 + 1 < a.size:=by omega
    refine cg (fun _=>?_) fun _=>?_
    ·exact wpS_pure ⟨hs, .inr ⟨_,_,_,_,_,rfl,m1,e',b2,by omega⟩⟩
    ·exact wpS_pure ⟨hs,_,_,_,_,_,rfl,m1,e',b2,by omega⟩
  case post1 =>
   rintro c Bs ⟨hs,⟨r,rest,rfl,hg⟩ | ⟨out,ja,jb,ac,bc,rfl,m,b1,b2,b3⟩⟩
   ·dsimp only
    exact wpS_pure ⟨hs,r,_,rfl,hg⟩
   dsimp -zeta only
   refine wpS_bind (wpS_lift (wpAny_rule ⟨rfl,?_⟩))
   refine wpS_bind (wpS_mono (wpS_forRange (I:=fun x c Co=>SM st Co/\∃ (out:Array Keyed)(ka kb mg ac bc:Nat),c=(none,out,ka,kb,mg,ac,bc)/\MI R a.toList b.toList out.toList ka kb/\ka + 1 < a.size/\kb < b.size/\x + (ja + jb) <= ka + kb)
    (Q:=fun c Co=>SM st Co/\((∃ (r:Array Keyed)(rest:Array Keyed × Nat × Nat × Nat × Nat × Nat),c=(some r,rest)/\fX R a.toList b.toList r)∨(∃ (out:Array Keyed)(ka kb mg ac bc:Nat),c=(none,out,ka,kb,mg,ac,bc)/\MI R a.toList b.toList out.toList ka kb/\ka + 1 < a.size/\kb < b.size/\ja + jb <= ka + kb))) ?step2 ?fin2 ⟨hs,out,ja,jb,_,_,_,rfl,m,b1,b2,by omega⟩) ?post2)
   case fin2 =>
    rintro c Co ⟨hs,out,ka,kb,mg,ac,bc,rfl,m,c1,c2,c3⟩
    rw[max_eq_right (zero_le _)]at c3
    omega
   case post2 =>
    rintro c Co ⟨hs,⟨r,rest,rfl,hg⟩ | ⟨out,ka,kb,mg,ac,bc,rfl,m,c1,c2,c3⟩⟩
    ·dsimp only
     exact wpS_pure ⟨hs,r,_,rfl,hg⟩
    ·dsimp only
     refine wpS_bind (gC fun B6 h4=>?_)
     exact wpS_pure ⟨hs.trans h4,_,_,_,_,rfl,m,c1,c2,by omega⟩
   case step2 =>
    clear m b1 b2 hs
    rintro x c Co _ hx ⟨hs,out,ka,kb,mg,ac,bc,rfl,m,c1,c2,c3⟩
    dsimp -zeta only
    extract_lets s0 o0 s1 i0 s2 j0 s3 g0 s4 p0 b0 j1 jp
    refine rB (F:=jp) fun z=>?_
    dsimp -zeta +zetaDelta only
    refine wpS_bind (gC fun B6 h4=>?_)
    have Dp:=hs.trans h4
    obtain⟨y,hy,hy',EA⟩:=aV c2
    refine wpS_bind (aM hy (wpS_bind (jk hc (by rw[Dp.k];exact hk) (H.pb y EA) H.hA H.pa (fun x hx _ => .inl (H.ne x hx y EA)) (by omega) (by omega) fun k hk1 f1 f2=>?_)))
    dsimp -zeta only
    extract_lets ac1 jp
    refine jj (F:=jp) (fun CQ ER=>MI R a.toList b.toList CQ.toList ER kb/\(∀ w ∈ a.toList.drop ER,R y < R w)/\ER + 1 < a.size/\ka <= ER) ?_ fun J=>?_
    ·rintro CQ ER ⟨m1,Jo,Jl,kle⟩
     dsimp -zeta +zetaDelta only
     refine wpS_bind (aM hy ?_)
     have m2:MI R a.toList b.toList (CQ.push y).toList ER (kb + 1):=by
      rw[Array.toList_push]
      exact m1.b H.hB hy' Jo
     extract_lets o2
     refine bM (fun e=>wpS_pure ⟨Dp, .inl ⟨_,_,rfl,m2.done H.hA e⟩⟩) fun e2=>?_
     obtain⟨z2,hz,Cq,Cv⟩:=aV (show ER < a.size by omega)
     refine wpS_bind (aM hz (wpS_bind (jk hc (by rw[Dp.k];exact hk) (H.pa z2 Cv) H.hB H.pb (fun x hx _ => .inl (Ne.symm (H.ne z2 Cv x hx))) (by omega) (by omega) fun k2 hk2 g1 g2=>?_)))
     dsimp -zeta only
     extract_lets bc1 JK
     refine jj (F:=JK) (fun DI kb2=>MI R a.toList b.toList DI.toList ER kb2/\(∀ w ∈ b.toList.drop kb2,R z2 < R w)/\kb2 < b.size/\kb < kb2) ?_ fun J=>?_
     ·rintro DI kb2 ⟨m3,Hl,JM,OJ⟩
      dsimp +zetaDelta only
      refine wpS_bind (aM hz ?_)
      have m4:MI R a.toList b.toList (DI.push z2).toList (ER + 1) kb2:=by
       rw[Array.toList_push]
       exact m3.a H.hA Cq Hl
      refine bM (fun e=>wpS_pure ⟨Dp, .inl ⟨_,_,rfl,m4.last H.hB e (lst e)⟩⟩) fun e4=>?_
      have JO:ER + 1 + 1 < a.size:=by omega
      refine cg (fun _=>?_) fun _=>?_
      ·exact wpS_pure ⟨Dp, .inr ⟨_,_,_,_,_,_,rfl,m4,JO,JM,by omega⟩⟩
      ·exact wpS_pure ⟨Dp,_,_,_,_,_,_,rfl,m4,JO,JM,by omega⟩
     ·clear_value JK
      dsimp +zetaDelta only
      have hd:∀ w ∈ b.toList.drop (kb + 1 + k2),R z2 < R w:=fun w hw=>by
       obtain⟨i,hi,ei⟩:=getElem_of_mem hw
       rw[length_drop,Array.length_toList]at hi
       rw[getElem_drop]at ei
       exact g2 (k2 + i) w (by omega) (by omega) (by rw[← ei,show kb + 1 + (k2 + i)=kb + 1 + k2 + i by omega];exact getElem?_eq_getElem _)
      refine cg (fun hk0=>?_) fun hk0=>?_
      ·have m3:MI R a.toList b.toList (CQ.push y ++ b.extract (kb + 1) (kb + 1 + k2)).toList ER (kb + 1 + k2):=by
        rw[Array.toList_append,sF]
        refine MI.bs H.hB k2 m2 (by rw[Array.length_toList];omega) fun i w hi hw v hv=>?_
        have JP:=g1 i w hi hw
        rw[bP Cq]at hv
        rcases mem_cons.mp hv with rfl | hv
        ·exact JP
        ·exact Int.lt_trans JP (H.hA.Bv Cq v hv)
       exact bM (fun e=>wpS_pure ⟨Dp, .inl ⟨_,_,rfl,m3.done H.hA e⟩⟩) fun e=>J _ _ ⟨m3,hd,by omega,by omega⟩
      ·rw[show k2=0 by omega,add_zero]at hd
       exact J _ _ ⟨m2,hd,by omega,by omega⟩
    ·clear_value jp
     dsimp +zetaDelta only
     have klt:ka + k < a.size:=by
      refine lt_of_not_le fun hle=>?_
      obtain⟨v,hv,B5,hvm⟩:=aV (show a.size - 1 < a.size by omega)
      have h1:=f1 (a.size - 1 - ka) v (by omega) (by rw[← B5];congr 1;omega)
      have h2:=H.last v B5 y EA
      omega
     have DJ:∀ w ∈ a.toList.drop (ka + k),R y < R w:=fun w hw=>by
      obtain⟨i,hi,ei⟩:=getElem_of_mem hw
      rw[length_drop,Array.length_toList]at hi
      rw[getElem_drop]at ei
      exact f2 (k + i) w (by omega) (by omega) (by rw[← ei,show ka + (k + i)=ka + k + i by omega];exact getElem?_eq_getElem _)
     refine cg (fun hk0=>?_) fun hk0=>?_
     ·have m1:MI R a.toList b.toList (out ++ a.extract ka (ka + k)).toList (ka + k) kb:=by
       rw[Array.toList_append,sF]
       refine MI.as H.hA k m (by rw[Array.length_toList];omega) fun i w hi hw v hv=>?_
       have F9:=f1 i w hi hw
       rw[bP hy']at hv
       rcases mem_cons.mp hv with rfl | hv
       ·exact F9
       ·exact Int.lt_trans F9 (H.hB.Bv hy' v hv)
      exact bM (fun e=>wpS_pure ⟨Dp, .inl ⟨_,_,rfl,m1.last H.hB e (lst e)⟩⟩) fun e=>bM (fun e2=>absurd e2 (by omega)) fun _=>J _ _ ⟨m1,DJ,by omega,by omega⟩
     ·rw[show k=0 by omega,add_zero]at DJ
      exact J _ _ ⟨m,DJ,c1,Nat.le_refl _⟩
end
end Yd
namespace Yd
open PySem PySem.W PySem.Calls PyProof.Rows
structure HI (R:Keyed->Int)(la lb o:List Keyed)(na nb:Nat):Prop where
 perm:o.Perm (la.drop na ++ lb.drop nb)
 Hj:o.Pairwise fun x y=>R y < R x
 hi:∀ x ∈ o,∀ y,y ∈ la.take na∨y ∈ lb.take nb->R y < R x
section
variable {R:Keyed->Int}{la lb o:List Keyed}{na nb:Nat}
theorem BZ.BI {l:List Keyed}(h:BZ R l){i:Nat}{x:Keyed}(hx:l[i]? = some x):∀ y ∈ l.take i,R y < R x:=by
 have:BZ R (l.take (i + 1)):=List.Pairwise.sublist (take_sublist _ l) h
 rw[bN hx]at this
 exact fun y hy=>(pairwise_append.mp this).2.2 y hy x (mem_singleton.mpr rfl)
theorem HI.a (m:HI R la lb o (na + 1) nb)(hA:BZ R la){y:Keyed}(hy:la[na]? = some y)(h:∀ z ∈ lb.take nb,R z < R y):HI R la lb (o ++ [y]) na nb:=by
 have ym:y ∈ la.take (na + 1):=by rw[bN hy];exact mem_append_right _ (mem_singleton.mpr rfl)
 refine⟨?_,pairwise_append.mpr ⟨m.Hj,pairwise_singleton _ _,fun x hx z hz=>by rw[mem_singleton.mp hz];exact m.hi x hx y (.inl ym)⟩,fun x hx z hz=>?_⟩
 ·rw[bP hy,List.cons_append]
  exact perm_append_comm.trans (m.perm.cons y)
 ·rcases mem_append.mp hx with hx | hx
  ·refine m.hi x hx z (hz.imp (fun hz=>?_) id)
   rw[bN hy];exact mem_append_left _ hz
  ·rw[mem_singleton.mp hx]
   rcases hz with hz | hz
   ·exact hA.BI hy z hz
   ·exact h z hz
theorem HI.b (m:HI R la lb o na (nb + 1))(hB:BZ R lb){y:Keyed}(hy:lb[nb]? = some y)(h:∀ z ∈ la.take na,R z < R y):HI R la lb (o ++ [y]) na nb:=by
 have ym:y ∈ lb.take (nb + 1):=by rw[bN hy];exact mem_append_right _ (mem_singleton.mpr rfl)
 refine⟨?_,pairwise_append.mpr ⟨m.Hj,pairwise_singleton _ _,fun x hx z hz=>by rw[mem_singleton.mp hz];exact m.hi x hx y (.inr ym)⟩,fun x hx z hz=>?_⟩
 ·rw[bP hy]
  exact(perm_append_comm.trans (m.perm.cons y)).trans List.perm_middle.symm
 ·rcases mem_append.mp hx with hx | hx
  ·refine m.hi x hx z (hz.imp id fun hz=>?_)
   rw[bN hy];exact mem_append_left _ hz
  ·rw[mem_singleton.mp hx]
   rcases hz with hz | hz
   ·exact h z hz
   ·exact hB.BI hy z hz
theorem HI.as (hA:BZ R la){at':Nat}:∀ (k:Nat){o:List Keyed},HI R la lb o (at' + k) nb->at' + k <= la.length->(∀ i y,at' <= i->i < at' + k->la[i]? = some y->∀ z ∈ lb.take nb,R z < R y)->HI R la lb (o ++ ((la.drop at').take k).reverse) at' nb
 | 0,o,m,_,_=>by rw[take_zero,List.reverse_nil,append_nil];exact m
 | k + 1,o,m,hl,h=>by
  have hy:la[at' + k]? = some (la[at' + k]'(by omega)):=getElem?_eq_getElem (by omega)
  generalize la[at' + k]'(by omega)=y at hy
  have m1:=HI.a (na:=at' + k) m hA hy (h (at' + k) y (by omega) (by omega) hy)
  have m2:=HI.as hA k m1 (by omega) fun i z h1 h2 hz=>h i z h1 (by omega) hz
  have e:(la.drop at').take (k + 1)=(la.drop at').take k ++ [y]:=bN (by rw[List.getElem?_drop];exact hy)
  rw[e,List.reverse_append]
  rw[append_assoc]at m2
  exact m2
theorem HI.bs (hB:BZ R lb){at':Nat}:∀ (k:Nat){o:List Keyed},HI R la lb o na (at' + k)->at' + k <= lb.length->(∀ i y,at' <= i->i < at' + k->lb[i]? = some y->∀ z ∈ la.take na,R z < R y)->HI R la lb (o ++ ((lb.drop at').take k).reverse) na at'
 | 0,o,m,_,_=>by rw[take_zero,List.reverse_nil,append_nil];exact m
 | k + 1,o,m,hl,h=>by
  have hy:lb[at' + k]? = some (lb[at' + k]'(by omega)):=getElem?_eq_getElem (by omega)
  generalize lb[at' + k]'(by omega)=y at hy
  have m1:=HI.b (nb:=at' + k) m hB hy (h (at' + k) y (by omega) (by omega) hy)
  have m2:=HI.bs hB k m1 (by omega) fun i z h1 h2 hz=>h i z h1 (by omega) hz
  have e:(lb.drop at').take (k + 1)=(lb.drop at').take k ++ [y]:=bN (by rw[List.getElem?_drop];exact hy)
  rw[e,List.reverse_append]
  rw[append_assoc]at m2
  exact m2
theorem HI.fin (m:HI R la lb o na nb){rest:List Keyed}(hp:rest.Perm (la.take na ++ lb.take nb))(hs:BZ R rest):(rest ++ o.reverse).Perm (la ++ lb)/\BZ R (rest ++ o.reverse):=by
 refine⟨?_,pairwise_append.mpr ⟨hs,List.pairwise_reverse.mpr m.Hj,fun x hx y hy=>m.hi y (List.mem_reverse.mp hy) x (mem_append.mp (hp.mem_iff.mp hx))⟩⟩
 have h1:=hp.append ((List.reverse_perm o).trans m.perm)
 refine h1.trans ?_
 have e:la ++ lb=(la.take na ++ la.drop na) ++ (lb.take nb ++ lb.drop nb):=by rw[take_append_drop,take_append_drop]
 rw[e,append_assoc,append_assoc]
 refine List.Perm.append_left _ ?_
 rw[← append_assoc,← append_assoc]
 exact(perm_append_comm (l₁:=lb.take nb) (l₂:=la.drop na)).append_right _
end
theorem ir (a:Array Keyed)(k:Nat):(a.extract 0 k).toList=a.toList.take k:=by
 rw[Array.toList_extract,extract_eq_drop_take,drop_zero,Nat.sub_zero]
section
variable {R:Keyed->Int}{a b out:Array Keyed}{na nb:Nat}
theorem HI.done (m:HI R a.toList b.toList out.toList na nb)(hB:BZ R b.toList)(h:na=0):fX R a.toList b.toList (a.extract 0 na ++ b.extract 0 nb ++ out.reverse):=by
 have e:(a.extract 0 na ++ b.extract 0 nb ++ out.reverse).toList=(a.toList.take na ++ b.toList.take nb) ++ out.toList.reverse:=by
  rw[Array.toList_append,Array.toList_append,ir,ir,Array.toList_reverse]
 unfold fX
 rw[e]
 refine m.fin (List.Perm.refl _) ?_
 rw[h,take_zero,nil_append]
 exact List.Pairwise.sublist (take_sublist _ _) hB
theorem HI.first (m:HI R a.toList b.toList out.toList na nb)(hA:BZ R a.toList)(h:nb=1)(hl:∀ y,b.toList[0]? = some y->∀ z ∈ a.toList,R y < R z)(hb:0 < b.size):fX R a.toList b.toList (b.extract 0 nb ++ a.extract 0 na ++ out.reverse):=by
 have e:(b.extract 0 nb ++ a.extract 0 na ++ out.reverse).toList=(b.toList.take nb ++ a.toList.take na) ++ out.toList.reverse:=by
  rw[Array.toList_append,Array.toList_append,ir,ir,Array.toList_reverse]
 unfold fX
 rw[e]
 refine m.fin perm_append_comm ?_
 obtain⟨y,_,hy,_⟩:=aV hb
 have:b.toList.take nb=[y]:=by rw[h,bN hy,take_zero];rfl
 rw[this]
 exact pairwise_append.mpr ⟨pairwise_singleton _ _,List.Pairwise.sublist (take_sublist _ _) hA,fun x hx z hz=>by
  rw[mem_singleton.mp hx]
  exact hl y hy z (mem_of_mem_take hz)⟩
end
theorem sE (a:Array Keyed){i j:Nat}:((a.extract i j).reverse).toList=((a.toList.drop i).take (j - i)).reverse:=by
 rw[Array.toList_reverse,Array.toList_extract,extract_eq_drop_take]
section
variable {M:Model}{A:Around}{E:Value->Shared->Prop}{s:Shared} {κ:SortKind} {R:Keyed->Int} {P:Keyed->Prop}
theorem nO {a b:Array Keyed}{st:SortSt}{Q:Array Keyed->SortSt->Prop}(hc:ur M A E s κ R P)(hk:kindOf st=κ)(H:MP R P a b)(q:∀ r AO,SM st AO->fX R a.toList b.toList r->Q r AO):wpS M A E s (vV a b) Q st:=by
 have ha:=H.na
 have hb:=H.nb
 obtain⟨x0,Hm,JQ,hx0m⟩:=aV (show a.size - 1 < a.size by omega)
 refine wpS_bind (wpS_lift (wpAny_rule ⟨rfl,?_⟩))
 refine wpS_bind (aM Hm ?_)
 have m0:HI R a.toList b.toList (#[x0]:Array Keyed).toList (a.size - 1) b.size:=by
  have e1:a.toList.drop (a.size - 1 + 1)=[]:=drop_eq_nil_iff.mpr (by rw[Array.length_toList];omega)
  have e2:b.toList.drop b.size=[]:=drop_eq_nil_iff.mpr (by rw[Array.length_toList];omega)
  have:HI R a.toList b.toList [] (a.size - 1 + 1) b.size:=⟨by rw[e1,e2];exact List.Perm.refl _, .nil,fun x hx=>by cases hx⟩
  exact this.a H.hA JQ fun z hz=>H.last x0 JQ z (mem_of_mem_take hz)
 by_cases h1:(a.size - 1 == 0)=true
 ·rw[if_pos h1]
  exact wpS_pure (q _ _ (SM.refl st) (m0.done H.hB (by simpa using h1)))
 rw[if_neg h1]
 by_cases h2:(b.size == 1)=true
 ·rw[if_pos h2]
  exact wpS_pure (q _ _ (SM.refl st) (m0.first H.hA (by simpa using h2) H.first hb))
 rw[if_neg h2]
 have OI:0 < a.size - 1:=by
  have:¬ a.size - 1=0:=by simpa using h1
  omega
 have CP:1 < b.size:=by
  have:¬ b.size=1:=by simpa using h2
  omega
 refine wpS_bind (wpS_get ?_)
 refine wpS_bind (wpS_mono (wpS_forRange (I:=fun x c AO=>SM st AO/\∃ (out:Array Keyed)(na nb mg:Nat),c=(none,na,nb,out,mg)/\HI R a.toList b.toList out.toList na nb/\0 < na/\1 < nb/\na <= a.size/\nb <= b.size/\x + 1 + na + nb <= a.size + b.size)
  (Q:=fun c AO=>SM st AO/\∃ (r:Array Keyed)(rest:Nat × Nat × Array Keyed × Nat),c=(some r,rest)/\fX R a.toList b.toList r) ?step ?fin ⟨SM.refl st,_,_,_,_,rfl,m0,OI,CP,by omega,by omega,by omega⟩) ?post)
 case fin =>
  rintro c AO ⟨_,out,na,nb,mg,rfl,m,a1,a2,a3,a4,a5⟩
  rw[max_eq_right (zero_le _)]at a5
  omega
 case post =>
  rintro c AO ⟨hs,r,rest,rfl,hg⟩
  exact wpS_pure (q r AO hs hg)
 case step =>
  rintro x c AO _ hx ⟨hs,out,na,nb,mg,rfl,m,a1,a2,a3,a4,a5⟩
  dsimp -zeta only
  refine wpS_bind (wpS_mono (wpS_forRange (I:=fun x c Bs=>SM st Bs/\∃ (out:Array Keyed)(ja jb ac bc:Nat),c=(none,ja,jb,out,ac,bc)/\HI R a.toList b.toList out.toList ja jb/\0 < ja/\1 < jb/\ja <= a.size/\jb <= b.size/\x + ja + jb <= na + nb)
   (Q:=fun c Bs=>SM st Bs/\((∃ (r:Array Keyed)(rest:Nat × Nat × Array Keyed × Nat × Nat),c=(some r,rest)/\fX R a.toList b.toList r)∨(∃ (out:Array Keyed)(ja jb ac bc:Nat),c=(none,ja,jb,out,ac,bc)/\HI R a.toList b.toList out.toList ja jb/\0 < ja/\1 < jb/\ja <= a.size/\jb <= b.size/\ja + jb + 1 <= na + nb))) ?step1 ?fin1 ⟨hs,out,na,nb,_,_,rfl,m,a1,a2,a3,a4,by omega⟩) ?post1)
  case fin1 =>
   rintro c Bs ⟨hs,out,ja,jb,ac,bc,rfl,m,b1,b2,b3,b4,b5⟩
   rw[max_eq_right (zero_le _)]at b5
   omega
  case step1 =>
   clear m hs
   rintro x c Bs _ hx ⟨hs,out,ja,jb,ac,bc,rfl,m,b1,b2,b3,b4,b5⟩
   obtain⟨ma,rfl⟩:∃ ma,ja=ma + 1:=⟨ja - 1,by omega⟩
   obtain⟨mb,rfl⟩:∃ mb,jb=mb + 1:=⟨jb - 1,by omega⟩
   dsimp only
   simp only[Nat.add_sub_cancel]
   obtain⟨y,hy,hy',EA⟩:=aV (show mb < b.size by omega)
   obtain⟨z,hz,Cq,Cv⟩:=aV (show ma < a.size by omega)
   refine wpS_bind (aM hy (wpS_bind (aM hz (wpS_bind (hc y z (H.pb y EA) (H.pa z Cv) Bs _ (by rw[hs.k];exact hk) ?_)))))
   dsimp only
   by_cases AV:R y < R z
   ·rw[decide_eq_true AV,if_pos rfl]
    refine wpS_bind (aM hz ?_)
    have m1:HI R a.toList b.toList (out.push z).toList ma (mb + 1):=by
     rw[Array.toList_push]
     refine m.a H.hA Cq fun w hw=>?_
     rw[bN hy']at hw
     rcases mem_append.mp hw with hw | hw
     ·exact Int.lt_trans (H.hB.BI hy' w hw) AV
     ·rw[mem_singleton.mp hw];exact AV
    refine bM (fun e=>wpS_pure ⟨hs, .inl ⟨_,_,rfl,m1.done H.hB e⟩⟩) fun e=>?_
    have e':0 < ma:=by omega
    refine cg (fun _=>?_) fun _=>?_
    ·exact wpS_pure ⟨hs, .inr ⟨_,_,_,_,_,rfl,m1,e',b2,by omega,b4,by omega⟩⟩
    ·exact wpS_pure ⟨hs,_,_,_,_,_,rfl,m1,e',b2,by omega,b4,by omega⟩
   ·have EO:R z < R y:=by have:=H.ne z Cv y EA;omega
    rw[decide_eq_false AV,if_neg (by decide)]
    refine wpS_bind (aM hy ?_)
    have m1:HI R a.toList b.toList (out.push y).toList (ma + 1) mb:=by
     rw[Array.toList_push]
     refine m.b H.hB hy' fun w hw=>?_
     rw[bN Cq]at hw
     rcases mem_append.mp hw with hw | hw
     ·exact Int.lt_trans (H.hA.BI Cq w hw) EO
     ·rw[mem_singleton.mp hw];exact EO
    refine bM (fun e=>wpS_pure ⟨hs, .inl ⟨_,_,rfl,m1.first H.hA e H.first H.nb⟩⟩) fun e=>?_
    have e':1 < mb:=by omega
    refine cg (fun _=>?_) fun _=>?_
    ·exact wpS_pure ⟨hs, .inr ⟨_,_,_,_,_,rfl,m1,b1,e',b3,by omega,by omega⟩⟩
    ·exact wpS_pure ⟨hs,_,_,_,_,_,rfl,m1,b1,e',b3,by omega,by omega⟩
  case post1 =>
   rintro c Bs ⟨hs,⟨r,rest,rfl,hg⟩ | ⟨out,ja,jb,ac,bc,rfl,m,b1,b2,b3,b4,b5⟩⟩
   ·dsimp only
    exact wpS_pure ⟨hs,r,_,rfl,hg⟩
   dsimp -zeta only
   refine wpS_bind (wpS_lift (wpAny_rule ⟨rfl,?_⟩))
   refine wpS_bind (wpS_mono (wpS_forRange (I:=fun x c Co=>SM st Co/\∃ (out:Array Keyed)(ka kb mg ac bc:Nat),c=(none,ka,kb,out,mg,ac,bc)/\HI R a.toList b.toList out.toList ka kb/\0 < ka/\1 < kb/\ka <= a.size/\kb <= b.size/\x + ka + kb <= ja + jb)
    (Q:=fun c Co=>SM st Co/\((∃ (r:Array Keyed)(rest:Nat × Nat × Array Keyed × Nat × Nat × Nat),c=(some r,rest)/\fX R a.toList b.toList r)∨(∃ (out:Array Keyed)(ka kb mg ac bc:Nat),c=(none,ka,kb,out,mg,ac,bc)/\HI R a.toList b.toList out.toList ka kb/\0 < ka/\1 < kb/\ka <= a.size/\kb <= b.size/\ka + kb <= ja + jb))) ?step2 ?fin2 ⟨hs,out,ja,jb,_,_,_,rfl,m,b1,b2,b3,b4,by omega⟩) ?post2)
   case fin2 =>
    rintro c Co ⟨hs,out,ka,kb,mg,ac,bc,rfl,m,c1,c2,c3,c4,c5⟩
    rw[max_eq_right (zero_le _)]at c5
    omega
   case post2 =>
    rintro c Co ⟨hs,⟨r,rest,rfl,hg⟩ | ⟨out,ka,kb,mg,ac,bc,rfl,m,c1,c2,c3,c4,c5⟩⟩
    ·dsimp only
     exact wpS_pure ⟨hs,r,_,rfl,hg⟩
    ·dsimp only
     refine wpS_bind (gC fun B6 h4=>?_)
     exact wpS_pure ⟨hs.trans h4,_,_,_,_,rfl,m,c1,c2,c3,c4,by omega⟩
   case step2 =>
    clear m hs
    rintro x c Co _ hx ⟨hs,out,ka,kb,mg,ac,bc,rfl,m,c1,c2,c3,c4,c5⟩
    obtain⟨mb,rfl⟩:∃ mb,kb=mb + 1:=⟨kb - 1,by omega⟩
    dsimp -zeta only
    extract_lets s0 i0 s1 j0 s2 o0 s3 g0 s4 p0 b0 j1 jp
    refine rB (F:=jp) fun z=>?_
    dsimp -zeta +zetaDelta only [Nat.add_one_sub_one]
    refine wpS_bind (gC fun B6 h4=>?_)
    have Dp:=hs.trans h4
    obtain⟨y,hy,hy',EA⟩:=aV (show mb < b.size by omega)
    refine wpS_bind (aM hy (wpS_bind (jk hc (by rw[Dp.k];exact hk) (H.pb y EA) H.hA H.pa (fun x hx _ => .inl (H.ne x hx y EA)) (by omega) (by omega) fun k hk1 f1 f2=>?_)))
    dsimp -zeta only
    extract_lets kk ac1 RW
    refine jj (F:=RW) (fun Hn CQ=>HI R a.toList b.toList CQ.toList Hn (mb + 1)/\(∀ w ∈ a.toList.take Hn,R w < R y)/\0 < Hn/\Hn <= ka) ?_ fun J=>?_
    ·rintro Hn CQ ⟨m1,Jo,Jl,kle⟩
     obtain⟨ma,rfl⟩:∃ ma,Hn=ma + 1:=⟨Hn - 1,by omega⟩
     dsimp -zeta +zetaDelta only [Nat.add_one_sub_one]
     refine wpS_bind (aM hy ?_)
     have m2:HI R a.toList b.toList (CQ.push y).toList (ma + 1) mb:=by
      rw[Array.toList_push]
      exact HI.b m1 H.hB hy' Jo
     extract_lets o2
     refine bM (fun e=>wpS_pure ⟨Dp, .inl ⟨_,_,rfl,m2.first H.hA e H.first H.nb⟩⟩) fun e2=>?_
     obtain⟨z2,hz,Cq,Cv⟩:=aV (show ma < a.size by omega)
     refine wpS_bind (aM hz (wpS_bind (jk hc (by rw[Dp.k];exact hk) (H.pa z2 Cv) H.hB H.pb (fun x hx _ => .inl (Ne.symm (H.ne z2 Cv x hx))) (by omega) (by omega) fun k2 hk2 g1 g2=>?_)))
     dsimp -zeta only
     extract_lets kk2 bc1 JK
     refine jj (F:=JK) (fun HY DI=>HI R a.toList b.toList DI.toList (ma + 1) HY/\(∀ w ∈ b.toList.take HY,R w < R z2)/\1 < HY/\HY <= mb) ?_ fun J=>?_
     ·rintro HY DI ⟨m3,Hl,JS,OJ⟩
      dsimp +zetaDelta only
      refine wpS_bind (aM hz ?_)
      have m4:HI R a.toList b.toList (DI.push z2).toList ma HY:=by
       rw[Array.toList_push]
       exact HI.a m3 H.hA Cq Hl
      refine bM (fun e=>wpS_pure ⟨Dp, .inl ⟨_,_,rfl,m4.done H.hB e⟩⟩) fun e4=>?_
      have JO:0 < ma:=by omega
      refine cg (fun _=>?_) fun _=>?_
      ·exact wpS_pure ⟨Dp, .inr ⟨_,_,_,_,_,_,rfl,m4,JO,JS,by omega,by omega,by omega⟩⟩
      ·exact wpS_pure ⟨Dp,_,_,_,_,_,_,rfl,m4,JO,JS,by omega,by omega,by omega⟩
     ·clear_value JK
      dsimp +zetaDelta only
      have k21:1 <= k2:=by
       refine lt_of_not_le fun hle=>?_
       obtain⟨v,hv,B5,hvm⟩:=aV (show 0 < b.size by omega)
       have h1:=g2 0 v (by omega) (by omega) (by rw[Nat.zero_add];exact B5)
       have h2:=H.first v B5 z2 Cv
       omega
      have hd:∀ w ∈ b.toList.take k2,R w < R z2:=fun w hw=>by
       obtain⟨i,hi,ei⟩:=getElem_of_mem hw
       rw[length_take,Array.length_toList]at hi
       rw[getElem_take]at ei
       exact g1 i w (by omega) (by rw[← ei,Nat.zero_add];exact getElem?_eq_getElem _)
      refine cg (fun hk0=>?_) fun hk0=>?_
      ·have m3:HI R a.toList b.toList (CQ.push y ++ (b.extract k2 mb).reverse).toList (ma + 1) k2:=by
        rw[Array.toList_append,sE]
        refine HI.bs H.hB (mb - k2) (by rw[show k2 + (mb - k2)=mb by omega];exact m2) (by rw[Array.length_toList];omega) fun i w h1 h2 hw v hv=>?_
        have JP:=g2 i w h1 (by omega) (by rw[Nat.zero_add];exact hw)
        rw[bN Cq]at hv
        rcases mem_append.mp hv with hv | hv
        ·exact Int.lt_trans (H.hA.BI Cq v hv) JP
        ·rw[mem_singleton.mp hv];exact JP
       exact bM (fun e=>wpS_pure ⟨Dp, .inl ⟨_,_,rfl,m3.first H.hA e H.first H.nb⟩⟩) fun e=>bM (fun e3=>absurd e3 (by omega)) fun _=>J _ _ ⟨m3,hd,by omega,by omega⟩
      ·rw[show k2=mb by omega]at hd
       exact J _ _ ⟨m2,hd,by omega,by omega⟩
    ·clear_value RW
     dsimp +zetaDelta only
     have DJ:∀ w ∈ a.toList.take k,R w < R y:=fun w hw=>by
      obtain⟨i,hi,ei⟩:=getElem_of_mem hw
      rw[length_take,Array.length_toList]at hi
      rw[getElem_take]at ei
      exact f1 i w (by omega) (by rw[← ei,Nat.zero_add];exact getElem?_eq_getElem _)
     refine cg (fun hk0=>?_) fun hk0=>?_
     ·have m1:HI R a.toList b.toList (out ++ (a.extract k ka).reverse).toList k (mb + 1):=by
       rw[Array.toList_append,sE]
       refine HI.as H.hA (ka - k) (by rw[show k + (ka - k)=ka by omega];exact m) (by rw[Array.length_toList];omega) fun i w h1 h2 hw v hv=>?_
       have F9:=f2 i w h1 (by omega) (by rw[Nat.zero_add];exact hw)
       rw[bN hy']at hv
       rcases mem_append.mp hv with hv | hv
       ·exact Int.lt_trans (H.hB.BI hy' v hv) F9
       ·rw[mem_singleton.mp hv];exact F9
      exact bM (fun e=>wpS_pure ⟨Dp, .inl ⟨_,_,rfl,m1.done H.hB e⟩⟩) fun e=>J _ _ ⟨m1,DJ,by omega,by omega⟩
     ·rw[show k=ka by omega]at DJ
      exact J _ _ ⟨m,DJ,c1,Nat.le_refl _⟩
end
end Yd
namespace Yd
open PySem PySem.W PySem.Calls PyProof.Rows
noncomputable def Seg (R:Keyed->Int)(xs:Array Keyed)(i j:Nat):Prop:=∀ (p q:Nat)(x y:Keyed),i <= p->p < q->q < j->xs[p]? = some x->xs[q]? = some y->R x < R y
theorem rN {R:Keyed->Int}{xs:Array Keyed}{i j:Nat}(h:Seg R xs i j):BZ R ((xs.toList.drop i).take (j - i)):=by
 refine pairwise_iff_getElem.mpr fun p q hp hq G7=>?_
 rw[length_take,length_drop,Array.length_toList]at hp hq
 refine h (i + p) (i + q) _ _ (by omega) (by omega) (by omega) ?_ ?_
 ·rw[← Array.getElem?_toList,getElem_take,getElem_drop];exact getElem?_eq_getElem _
 ·rw[← Array.getElem?_toList,getElem_take,getElem_drop];exact getElem?_eq_getElem _
theorem yx:∀ (l:List Keyed)(n sa:Nat)(xs:Array Keyed),sa + n + l.length <= xs.size->((l.zipIdx n).foldl (fun (a:Array Keyed)(p:Keyed × Nat)=>a.setIfInBounds (sa + p.2) p.1) xs).toList=xs.toList.take (sa + n) ++ l ++ xs.toList.drop (sa + n + l.length)
 | [],n,sa,xs,_=>by
  show xs.toList=_
  rw[append_nil,length_nil,add_zero,take_append_drop]
 | x :: l,n,sa,xs,h=>by
  rw[List.zipIdx_cons,foldl_cons]
  rw[length_cons]at h
  rw[show n + 1=n + 1 from rfl,yx l (n + 1) sa _ (by rw[Array.size_setIfInBounds];omega),Array.toList_setIfInBounds]
  have AV:sa + n < xs.toList.length:=by rw[Array.length_toList];omega
  have e1:(xs.toList.set (sa + n) x).take (sa + (n + 1))=xs.toList.take (sa + n) ++ [x]:=by
   rw[show sa + (n + 1)=sa + n + 1 by omega,take_succ,List.take_set_of_le (Nat.le_refl _),List.getElem?_set_self AV]
   rfl
  have e2:(xs.toList.set (sa + n) x).drop (sa + (n + 1) + l.length)=xs.toList.drop (sa + n + (x :: l).length):=by
   rw[List.drop_set_of_lt (by omega),length_cons]
   congr 1
   omega
  rw[e1,e2,append_assoc,append_assoc,append_assoc]
  rfl
theorem wb {l:List Keyed}{sa:Nat}{xs:Array Keyed}(h:sa + l.length <= xs.size):(l.zipIdx.foldl (fun (a:Array Keyed)(p:Keyed × Nat)=>a.setIfInBounds (sa + p.2) p.1) xs).toList=xs.toList.take sa ++ l ++ xs.toList.drop (sa + l.length):=by
 have:=yx l 0 sa xs (by omega)
 rw[add_zero]at this
 exact this
structure CA (xs ys:Array Keyed)(i j:Nat):Prop where
 p:ys.Perm xs
 o:∀ k:Nat,k < i∨j <= k->ys[k]? = xs[k]?
theorem CA.refl (xs:Array Keyed)(i j:Nat):CA xs xs i j:=⟨Array.Perm.refl _,fun _ _=>rfl⟩
theorem CA.trans {xs ys zs:Array Keyed}{i j:Nat}(h:CA xs ys i j)(g:CA ys zs i j):CA xs zs i j:=⟨g.p.trans h.p,fun k hk=>(g.o k hk).trans (h.o k hk)⟩
theorem CA.wide {xs ys:Array Keyed}{i j i' j':Nat}(h:CA xs ys i j)(h1:i' <= i)(h2:j <= j'):CA xs ys i' j':=⟨h.p,fun k hk=>h.o k (by omega)⟩
section
variable {M:Model}{A:Around}{E:Value->Shared->Prop}{s:Shared} {κ:SortKind} {R:Keyed->Int} {P:Keyed->Prop}
theorem nQ {left:Bool}{key:Keyed}{arr:Array Keyed}{base hint n:Nat}{st:SortSt}{Q:Option Nat->SortSt->Prop}(hc:ur M A E s κ R P)(hk:kindOf st=κ)(pk:P key)(hs:Seg R arr base (base + n))(hp:∀ x ∈ arr.toList,P x)(ne:∀ i x,i < n->arr[base + i]? = some x->R x ≠ R key)
  (hn:base + n <= arr.size) (hh:hint < n) (q:∀ k,k <= n->(∀ i x,i < k->arr[base + i]? = some x->R x < R key)->(∀ i x,k <= i->i < n->arr[base + i]? = some x->R key < R x)->Q (some k) st) :
  wpS M A E s (ny left key arr base n hint) Q st:=by
 have at':∀ i,i < n->∃ x,arr[base + i]? = some x/\arr.toList[base + i]? = some x/\x ∈ arr.toList:=fun i hi=>aV (by omega)
 refine j2 hc hk pk (fun i=>match arr[base + i]? with | some x=>decide (R x < R key) | none=>false) (fun i hi=>?_) (fun i j JF hj h=>?_) hh fun k hk1 hk2 OH=>q k hk1 (fun i x hi hx=>?_) fun i x h1 h2 hx=>?_
 ·obtain⟨x,h1,h2,h3⟩:=at' i hi
  exact⟨x,h1,hp x h3,ne i x hi h1,by rw[h1]⟩
 ·obtain⟨x,h1,h2,h3⟩:=at' i (by omega)
  obtain⟨y,g1,g2,g3⟩:=at' j hj
  simp only[g1]at h
  simp only[h1]
  have:=of_decide_eq_true h
  by_cases e:i=j
  ·subst e;rw[h1]at g1;cases g1;exact h
  ·exact decide_eq_true (Int.lt_trans (hs _ _ x y (by omega) (by omega) (by omega) h1 g1) this)
 ·have:=hk2 i hi
  simp only[hx]at this
  exact of_decide_eq_true this
 ·have:=OH i h1 h2
  simp only[hx]at this
  have h4:=of_decide_eq_false this
  have h5:=ne i x h2 hx
  omega
noncomputable def DK (R:Keyed->Int)(xs:Array Keyed):Prop:=∀ (p q:Nat)(x y:Keyed),p ≠ q->xs[p]? = some x->xs[q]? = some y->R x ≠ R y
theorem Ce {xs:Array Keyed}:DK R xs↔(xs.toList.map R).Nodup:=by
 constructor
 ·intro h
  refine pairwise_iff_getElem.mpr fun p q hp hq G7=>?_
  rw[length_map,Array.length_toList]at hp hq
  rw[getElem_map,getElem_map]
  refine h p q _ _ (by omega) ?_ ?_
  ·rw[← Array.getElem?_toList];exact getElem?_eq_getElem _
  ·rw[← Array.getElem?_toList];exact getElem?_eq_getElem _
 ·intro h p q x y G7 hx hy
  rw[← Array.getElem?_toList]at hx hy
  obtain⟨BS,ep⟩:=List.getElem?_eq_some_iff.mp hx
  obtain⟨RX,eq⟩:=List.getElem?_eq_some_iff.mp hy
  rcases Nat.lt_or_gt_of_ne G7 with AV | AV
  ·have:=pairwise_iff_getElem.mp h p q (by rw[length_map];exact BS) (by rw[length_map];exact RX) AV
   rw[getElem_map,getElem_map,ep,eq]at this
   exact this
  ·have:=pairwise_iff_getElem.mp h q p (by rw[length_map];exact RX) (by rw[length_map];exact BS) AV
   rw[getElem_map,getElem_map,ep,eq]at this
   exact Ne.symm this
theorem DK.perm {xs ys:Array Keyed}(h:DK R xs)(p:ys.Perm xs):DK R ys:=Ce.mpr (((p.toList.map R).nodup_iff).mpr (Ce.mp h))
theorem oW {xs ys:Array Keyed}(p:ys.Perm xs){Pr:Keyed->Prop}(h:∀ x ∈ xs.toList,Pr x):∀ x ∈ ys.toList,Pr x:=fun x hx=>h x (p.toList.mem_iff.mp hx)
theorem wS {st AO:SortSt}{Q:PUnit->SortSt->Prop}(h:Q ⟨⟩ AO):wpS M A E s (set AO:StateT SortSt Sem PUnit) Q st:=by
 unfold wpS
 rw[StateT.run_set]
 exact wpAny_pure ⟨rfl,h⟩
theorem dL {xs:Array Keyed}{i j:Nat}{v:Keyed}(h:v ∈ (xs.extract i j).toList):∃ p,i <= p/\p < j/\xs[p]? = some v:=by
 rw[Array.toList_extract,extract_eq_drop_take]at h
 obtain⟨p,hp,e⟩:=getElem_of_mem h
 rw[length_take,length_drop]at hp
 rw[getElem_take,getElem_drop]at e
 exact⟨i + p,by omega,by omega,by rw[← e,← Array.getElem?_toList];exact getElem?_eq_getElem _⟩
theorem wv {xs:Array Keyed}{i j k:Nat}(h:i + k < j)(hj:j <= xs.size):(xs.extract i j).toList[k]? = xs[i + k]?:=by
 rw[Array.toList_extract,extract_eq_drop_take,List.getElem?_take_of_lt (by omega),List.getElem?_drop,Array.getElem?_toList]
theorem fJ {xs:Array Keyed}{i j:Nat}(h:i <= j)(hj:j <= xs.size):(xs.extract i j).size=j - i:=by
 rw[Array.size_extract,min_eq_left hj]
theorem xV {L B:List Keyed}{u:Nat}(h:u + B.length <= L.length){i:Nat}(hi:i < u∨u + B.length <= i):(L.take u ++ B ++ L.drop (u + B.length))[i]? = L[i]?:=by
 have hl:(L.take u).length=u:=by rw[length_take];omega
 rcases hi with hi | hi
 ·rw[append_assoc,getElem?_append_left (by omega),List.getElem?_take_of_lt hi]
 ·rw[getElem?_append_right (by rw[length_append];omega),length_append,hl,List.getElem?_drop]
  congr 1
  omega
theorem Aa {L B:List Keyed}{u:Nat}(h:u + B.length <= L.length){i:Nat}(hi:i < B.length):(L.take u ++ B ++ L.drop (u + B.length))[u + i]? = B[i]?:=by
 have hl:(L.take u).length=u:=by rw[length_take];omega
 rw[append_assoc,getElem?_append_right (by omega),hl,getElem?_append_left (by omega)]
 congr 1
 omega
structure SB (κ:SortKind) (R:Keyed->Int) (P:Keyed->Prop) (a0:Array Keyed) (st:SortSt):Prop where
 k:kindOf st=κ
 f:failedOf st=none
 p:(arrOf st).Perm a0
set_option hygiene false in
local macro_rules | `(tactic| and_intros) => `(tactic| (
 have hl:r.toList.length=(na - k) + n2:=by
  rw[Mo.length_eq,length_append,Array.length_toList,Array.length_toList,fJ (by omega) (by omega),fJ (by omega) (by omega)]
  omega
 refine wpS_bind (wpS_modify (wpS_bind (wpS_get ?_)))
 have JU:arrOf Bs=xs:=by rw[HZ.a];exact G8
 have hxl:xs.toList.length=xs.size:=Array.length_toList
 obtain⟨ws,RY⟩:∃ ws,ws=r.toList.zipIdx.foldl (fun (a:Array Keyed)(p:Keyed × Nat)=>a.setIfInBounds (sa + k + p.2) p.1) xs:=⟨_,rfl⟩
 have BY:ws.toList=xs.toList.take (sa + k) ++ r.toList ++ xs.toList.drop (sa + k + r.toList.length):=by
  rw[RY]
  exact wb (by omega)
 have BV:∀ j,j < sa + k∨sa + na + n2 <= j->ws[j]? = xs[j]?:=fun j hj=>by
  rw[← Array.getElem?_toList,← Array.getElem?_toList,BY]
  exact xV (by omega) (by omega)
 have Dq:∀ j,sa + k <= j->j < sa + na + n2->ws[j]? = r.toList[j - (sa + k)]?:=fun j h1 h2=>by
  have:=Aa (L:=xs.toList) (B:=r.toList) (u:=sa + k) (by omega) (i:=j - (sa + k)) (by omega)
  rw[← Array.getElem?_toList,BY,← this]
  congr 1
  omega
 have CJ:ws.Perm xs:=by
  refine Array.perm_iff_toList_perm.mpr ?_
  rw[BY]
  have e0:xs.toList=xs.toList.take (sa + k) ++ ((xs.extract (sa + k) (sa + na)).toList ++ (xs.extract (sa + na) (sa + na + n2)).toList) ++ xs.toList.drop (sa + k + r.toList.length):=by
   rw[Array.toList_extract,Array.toList_extract,extract_eq_drop_take,extract_eq_drop_take,show sa + na + n2 - (sa + na)=n2 by omega]
   have d1:xs.toList.drop (sa + na)=(xs.toList.drop (sa + k)).drop (sa + na - (sa + k)):=by rw[List.drop_drop];congr 1;omega
   have d2:xs.toList.drop (sa + k + r.toList.length)=(xs.toList.drop (sa + na)).drop n2:=by rw[List.drop_drop];congr 1;omega
   rw[d2,append_assoc,append_assoc,take_append_drop,d1,take_append_drop,take_append_drop]
  refine List.Perm.trans ?_ (List.Perm.of_eq e0.symm)
  exact(Mo.append_left _).append_right _
 have mz:∀ v ∈ r.toList,R y0 <= R v/\R v <= R z:=fun v hv=>by
  rcases mem_append.mp (Mo.mem_iff.mp hv) with hv | hv
  ·obtain⟨p,h1,h2,hp⟩:=dL hv
   have a1:=f2 (p - sa) v (by omega) (by omega) (by rw[← hp];congr 1;omega)
   have a2:=zle (p - sa) v (by omega) (by omega) (by rw[← hp];congr 1;omega)
   omega
  ·obtain⟨p,h1,h2,hp⟩:=dL hv
   have a1:=Ho (p - (sa + na)) v (by omega) (by rw[← hp];congr 1;omega)
   have a2:=g1 (p - (sa + na)) v (by omega) (by rw[← hp];congr 1;omega)
   omega
 have OK:Seg R ws sa (sa + (na + nb)):=by
  intro p r' x y h1 h2 h3 hx hy
  by_cases A1:r' < sa + k
  ·rw[BV _ (.inl (by omega))]at hx
   rw[BV _ (.inl A1)]at hy
   exact s1 p r' x y h1 h2 (by omega) hx hy
  by_cases C1:sa + na + n2 <= p
  ·rw[BV _ (.inr C1)]at hx
   rw[BV _ (.inr (by omega))]at hy
   exact s2 p r' x y (by omega) h2 (by omega) hx hy
  by_cases A2:p < sa + k
  ·rw[BV _ (.inl A2)]at hx
   have a1:=f1 (p - sa) x (by omega) (by rw[← hx];congr 1;omega)
   by_cases C2:sa + na + n2 <= r'
   ·rw[BV _ (.inr C2)]at hy
    have a2:=Ho (r' - (sa + na)) y (by omega) (by rw[← hy];congr 1;omega)
    omega
   ·rw[Dq _ (by omega) (by omega)]at hy
    have a2:=mz y (mem_of_getElem? hy)
    omega
  ·rw[Dq _ (by omega) (by omega)]at hx
   by_cases C2:sa + na + n2 <= r'
   ·rw[BV _ (.inr C2)]at hy
    have a1:=mz x (mem_of_getElem? hx)
    have a2:=g2 (r' - (sa + na)) y (by omega) (by omega) (by rw[← hy];congr 1;omega)
    omega
   ·rw[Dq _ (by omega) (by omega)]at hy
    refine RZ.Bv hx y ?_
    have:(r.toList.drop (p - (sa + k) + 1))[r' - p - 1]? = some y:=by rw[List.getElem?_drop,← hy];congr 1;omega
    exact mem_of_getElem? this
 have Hq:arrOf (setArr Bs (r.toList.zipIdx.foldl (fun (a:Array Keyed)(p:Keyed × Nat)=>a.setIfInBounds (sa + k + p.2) p.1) (arrOf Bs)))=ws:=by rw[JU];exact RY.symm
 have FA:(failedOf Bs).isNone=true:=by rw[HZ.f,OL];rfl
 show wpS M A E s (pure (failedOf Bs).isNone) Q _
 rw[FA]
 refine wpS_pure (q _ ⟨?_,?_,?_⟩ ?_ ?_ ?_)
 ·show kindOf Bs=κ;rw[HZ.k];exact hk1
 ·show failedOf Bs=none;rw[HZ.f];exact OL
 ·show(arrOf (setArr Bs _)).Perm a0
  rw[Hq];exact CJ.trans Sa
 ·show pendingOf Bs=_;rw[HZ.p];exact Sb
 ·show CA xs (arrOf (setArr Bs _)) _ _
  rw[Hq]
  exact⟨CJ,fun j hj=>BV j (by omega)⟩
 ·show Seg R (arrOf (setArr Bs _)) _ _
  rw[Hq];exact OK))
theorem nP {i sa na pw nb pw':Nat}{a0:Array Keyed}{st:SortSt}{Q:Bool->SortSt->Prop}(hc:ur M A E s κ R P)(hB:SB κ R P a0 st)(hD:DK R a0)(hP:∀ x ∈ a0.toList,P x)
  (h1:(pendingOf st)[i]? = some (sa,na,pw)) (h2:(pendingOf st)[i + 1]? = some (sa + na,nb,pw')) (JV:0 < na) (hnb:0 < nb) (hn:sa + na + nb <= a0.size) (s1:Seg R (arrOf st) sa (sa + na)) (s2:Seg R (arrOf st) (sa + na) (sa + na + nb))
  (q:∀ AO,SB κ R P a0 AO->pendingOf AO = ((pendingOf st).setIfInBounds i (sa,na + nb,pw)).eraseIdxIfInBounds (i + 1)->CA (arrOf st) (arrOf AO) sa (sa + na + nb)->Seg R (arrOf AO) sa (sa + (na + nb))->Q true AO):wpS M A E s (mergeAt' i) Q st:=by
 have hsz:(arrOf st).size=a0.size:=hB.p.size_eq
 have Ff:DK R (arrOf st):=hD.perm hB.p
 have ES:∀ x ∈ (arrOf st).toList,P x:=oW hB.p hP
 have Sa:=hB.p
 refine wpS_bind (wpS_get ?_)
 rw[h1,h2]
 dsimp only
 refine wpS_bind (wpS_mono (Q:=fun _ AO=>AO = setPending st (((pendingOf st).setIfInBounds i (sa,na + nb,pw)).eraseIdxIfInBounds (i + 1))) ?_ ?_)
 ·exact wS rfl
 rintro _ JW ET
 have hk1:kindOf JW=κ:=by rw[ET];exact hB.k
 have G8:arrOf JW=arrOf st:=by rw[ET]
 have Sb:pendingOf JW=((pendingOf st).setIfInBounds i (sa,na + nb,pw)).eraseIdxIfInBounds (i + 1):=by rw[ET]
 have OL:failedOf JW=none:=by rw[ET];exact hB.f
 clear ET
 rw[show(sortPriv% PySem.Builtin.SortState.a) st=arrOf st from rfl]
 generalize arrOf st=xs at *
 obtain⟨y0,hy0,Hk,JJ⟩:=aV (show sa + na < xs.size by omega)
 refine wpS_bind (aM hy0 (wpS_bind (nQ hc hk1 (ES y0 JJ) s1 ES (fun j x hj hx=>Ff _ _ x y0 (by omega) hx hy0) (by omega) JV fun k hk f1 f2=>?_)))
 dsimp only
 have Ho:∀ j v,j < nb->xs[sa + na + j]? = some v->R y0 <= R v:=fun j v hj hv=>by
  by_cases e:j=0
  ·subst e;rw[add_zero,hy0]at hv;cases hv;exact Int.le_refl _
  ·exact Int.le_of_lt (s2 (sa + na) (sa + na + j) y0 v (by omega) (by omega) (by omega) hy0 hv)
 by_cases e1:(na - k == 0)=true
 ·rw[if_pos e1]
  have Jl:na - k=0:=by simpa using e1
  refine wpS_pure (q JW ⟨hk1,OL,by rw[G8];exact Sa⟩ Sb (by rw[G8];exact CA.refl _ _ _) ?_)
  rw[G8]
  intro p r x y g1 g2 g3 hx hy
  by_cases c1:r < sa + na
  ·exact s1 p r x y g1 g2 c1 hx hy
  by_cases c2:sa + na <= p
  ·exact s2 p r x y c2 g2 (by omega) hx hy
  have a1:=f1 (p - sa) x (by omega) (by rw[← hx];congr 1;omega)
  have a2:=Ho (r - (sa + na)) y (by omega) (by rw[← hy];congr 1;omega)
  omega
 rw[if_neg e1]
 have Jl:0 < na - k:=by
  have:¬ na - k=0:=by simpa using e1
  omega
 rw[show sa + k + (na - k) - 1=sa + na - 1 by omega]
 obtain⟨z,hz,Cq,Cv⟩:=aV (show sa + na - 1 < xs.size by omega)
 have hyz:R y0 < R z:=f2 (na - 1) z (by omega) (by omega) (by rw[← hz];congr 1;omega)
 refine wpS_bind (aM hz (wpS_bind (nQ hc hk1 (ES z Cv) s2 ES (fun j x hj hx=>Ff _ _ x z (by omega) hx hz) (by omega) (by omega) fun n2 HR g1 g2=>?_)))
 dsimp only
 have n21:0 < n2:=by
  refine lt_of_not_le fun hle=>?_
  have:=g2 0 y0 (by omega) hnb (by rw[add_zero];exact hy0)
  omega
 rw[if_neg (show ¬ (n2 == 0)=true by simp;omega)]
 have zle:∀ j v,k <= j->j < na->xs[sa + j]? = some v->R v <= R z:=fun j v h1 hj hv=>by
  by_cases e:j=na - 1
  ·subst e
   rw[show sa + (na - 1)=sa + na - 1 by omega,hz]at hv
   cases hv;exact Int.le_refl _
  ·exact Int.le_of_lt (s1 (sa + j) (sa + na - 1) v z (by omega) (by omega) (by omega) hv hz)
 have HM:MP R P (xs.extract (sa + k) (sa + na)) (xs.extract (sa + na) (sa + na + n2)):=by
  refine⟨?_,?_,fun x hx=>?_,fun x hx=>?_,fun x hx y hy=>?_,fun y hy w hw=>?_,fun x hx y hy=>?_,?_,?_⟩
  ·rw[Array.toList_extract,extract_eq_drop_take]
   exact rN fun p r x y h1 h2 h3=>s1 p r x y (by omega) h2 h3
  ·rw[Array.toList_extract,extract_eq_drop_take]
   exact rN fun p r x y h1 h2 h3=>s2 p r x y h1 h2 (by omega)
  ·obtain⟨p,_,_,hp⟩:=dL hx
   exact ES x (mem_of_getElem? (sm hp))
  ·obtain⟨p,_,_,hp⟩:=dL hx
   exact ES x (mem_of_getElem? (sm hp))
  ·obtain⟨p,_,h1,hp⟩:=dL hx
   obtain⟨r,h2,_,hr⟩:=dL hy
   exact Ff p r x y (by omega) hp hr
  ·rw[wv (by omega) (by omega),add_zero,hy0]at hy
   cases hy
   obtain⟨p,h1,h2,hp⟩:=dL hw
   exact f2 (p - sa) w (by omega) (by omega) (by rw[← hp];congr 1;omega)
  ·rw[fJ (by omega) (by omega),wv (by omega) (by omega),show sa + k + (sa + na - (sa + k) - 1)=sa + na - 1 by omega,hz]at hx
   cases hx
   obtain⟨p,h1,h2,hp⟩:=dL hy
   exact g1 (p - (sa + na)) y (by omega) (by rw[← hp];congr 1;omega)
  ·rw[fJ (by omega) (by omega)];omega
  ·rw[fJ (by omega) (by omega)];omega
 by_cases hle:na - k <= n2
 ·rw[if_pos hle]
  refine wpS_bind (nN hc hk1 HM fun r Bs HZ hg=>?_)
  obtain⟨Mo,RZ⟩:=hg
  and_intros
 ·rw[if_neg hle]
  refine wpS_bind (nO hc hk1 HM fun r Bs HZ hg=>?_)
  obtain⟨Mo,RZ⟩:=hg
  and_intros
end
end Yd
namespace Yd
open PySem PySem.W PySem.Calls PyProof.Rows
noncomputable def rk (R:Keyed->Int)(xs:Array Keyed)(i:Nat):Int:=match xs[i]? with | some x=>R x | none=>0
theorem ga {R:Keyed->Int}{xs:Array Keyed}{i:Nat}{x:Keyed}(h:xs[i]? = some x):rk R xs i=R x:=by unfold rk;rw[h]
theorem dg {R:Keyed->Int}{xs ys:Array Keyed}{i j:Nat}(h:xs[i]? = ys[j]?):rk R xs i=rk R ys j:=by unfold rk;rw[h]
noncomputable def Ca (R:Keyed->Int)(xs:Array Keyed)(i j:Nat):Prop:=∀ p q:Nat,i <= p->p < q->q < j->rk R xs p < rk R xs q
theorem Ca.seg {R:Keyed->Int}{xs:Array Keyed}{i j:Nat}(h:Ca R xs i j):Seg R xs i j:=fun p q x y h1 h2 h3 hx hy=>by
 have:=h p q h1 h2 h3
 rw[ga hx,ga hy]at this
 exact this
theorem Seg.sgK {R:Keyed->Int}{xs:Array Keyed}{i j:Nat}(h:Seg R xs i j)(hj:j <= xs.size):Ca R xs i j:=fun p q h1 h2 h3=>by
 obtain⟨x,hx,_⟩:=aV (show p < xs.size by omega)
 obtain⟨y,hy,_⟩:=aV (show q < xs.size by omega)
 rw[ga hx,ga hy]
 exact h p q x y h1 h2 h3 hx hy
theorem Ca.keep {R:Keyed->Int}{xs ys:Array Keyed}{i j a b:Nat}(hs:Ca R xs a b)(h:CA xs ys i j)(hd:b <= i∨j <= a):Ca R ys a b:=fun p q h1 h2 h3=>by
 rw[dg (h.o p (by omega)),dg (h.o q (by omega))]
 exact hs p q h1 h2 h3
theorem DK.rk {R:Keyed->Int}{xs:Array Keyed}(h:DK R xs){p q:Nat}(ne:p ≠ q)(hp:p < xs.size)(hq:q < xs.size):rk R xs p ≠ rk R xs q:=by
 obtain⟨x,hx,_⟩:=aV hp
 obtain⟨y,hy,_⟩:=aV hq
 rw[ga hx,ga hy]
 exact h p q x y ne hx hy
theorem Ca.up {R:Keyed->Int}{xs:Array Keyed}{i j:Nat}(h:Ca R xs i j)(hj:i < j)(hl:rk R xs (j - 1) < rk R xs j):Ca R xs i (j + 1):=fun p q h1 h2 h3=>by
 by_cases e:q=j
 ·subst e
  by_cases e2:p=q - 1
  ·subst e2;exact hl
  ·exact Int.lt_trans (h p (q - 1) h1 (by omega) (by omega)) hl
 ·exact h p q h1 h2 (by omega)
noncomputable def G9 (R:Keyed->Int)(xs:Array Keyed)(i j:Nat):Prop:=∀ p q:Nat,i <= p->p < q->q < j->rk R xs q < rk R xs p
theorem G9.up {R:Keyed->Int}{xs:Array Keyed}{i j:Nat}(h:G9 R xs i j)(hj:i < j)(hl:rk R xs j < rk R xs (j - 1)):G9 R xs i (j + 1):=fun p q h1 h2 h3=>by
 by_cases e:q=j
 ·subst e
  by_cases e2:p=q - 1
  ·subst e2;exact hl
  ·exact Int.lt_trans hl (h p (q - 1) h1 (by omega) (by omega))
 ·exact h p q h1 h2 (by omega)
theorem qR {xs:Array Keyed}{i j:Nat}(hj:j <= xs.size):CA xs (mirror xs i j ((j - i) / 2)) i j:=⟨mirror_perm _ _ _ _,fun k hk=>by
 rw[getElem?_mirror_all hj,if_neg (by omega)]⟩
theorem G9.mirror {R:Keyed->Int}{xs:Array Keyed}{i j:Nat}(h:G9 R xs i j)(hj:j <= xs.size):Ca R (mirror xs i j ((j - i) / 2)) i j:=fun p q h1 h2 h3=>by
 have e1:(PyProof.Rows.mirror xs i j ((j - i) / 2))[p]? = xs[i + j - 1 - p]?:=by rw[getElem?_mirror_all hj,if_pos (by omega)]
 have e2:(PyProof.Rows.mirror xs i j ((j - i) / 2))[q]? = xs[i + j - 1 - q]?:=by rw[getElem?_mirror_all hj,if_pos (by omega)]
 rw[dg e1,dg e2]
 exact h _ _ (by omega) (by omega) (by omega)
section
variable {M:Model}{A:Around}{E:Value->Shared->Prop}{s:Shared} {κ:SortKind} {R:Keyed->Int} {P:Keyed->Prop} {a0:Array Keyed}
theorem SB.size {st:SortSt}(h:SB κ R P a0 st):(arrOf st).size=a0.size:=h.p.size_eq
theorem rA {st:SortSt}{i j:Nat}{Q:Option Bool->SortSt->Prop}(hc:ur M A E s κ R P)(hB:SB κ R P a0 st)(hP:∀ x ∈ a0.toList,P x)(hi:i < a0.size)(hj:j < a0.size)(q:Q (some (decide (rk R (arrOf st) i < rk R (arrOf st) j))) st) :
  wpS M A E s (ltAt' i j) Q st:=by
 have hsz:=hB.size
 have ES:∀ x ∈ (arrOf st).toList,P x:=oW hB.p hP
 obtain⟨x,hx,_,mx⟩:=aV (show i < (arrOf st).size by omega)
 obtain⟨y,hy,_,my⟩:=aV (show j < (arrOf st).size by omega)
 rw[ga hx,ga hy]at q
 rw[ltAt'_eq]
 refine wpS_bind (wpS_get ?_)
 exact wpS_bind (aM hx (wpS_bind (aM hy (hc x y (ES x mx) (ES y my) st _ hB.k q))))
theorem wT {st:SortSt}{i j:Nat}{Q:Unit->SortSt->Prop}(h:Q () (setArr st (mirror (arrOf st) i j ((j - i) / 2)))):wpS M A E s (reverseSlice' i j) Q st:=by
 rw[reverseSlice'_eq];exact wpS_modify h
theorem wU {st:SortSt}{i j:Nat}{Q:Unit->SortSt->Prop}(h:Q () (setArr st (bubble (arrOf st) i (i - j)))):wpS M A E s (moveDown' i j) Q st:=by
 rw[moveDown'_eq];exact wpS_modify h
theorem SB.set {st:SortSt}(h:SB κ R P a0 st){xs:Array Keyed}(hp:xs.Perm (arrOf st)):SB κ R P a0 (setArr st xs):=⟨h.k,h.f,hp.trans h.p⟩
noncomputable def Rn (κ:SortKind) (R:Keyed->Int) (P:Keyed->Prop) (a0:Array Keyed) (st AO:SortSt) (lo hi:Nat):Prop:=SB κ R P a0 AO/\pendingOf AO = pendingOf st/\CA (arrOf st) (arrOf AO) lo hi
theorem sN {lo BE:Nat}{st:SortSt}{Q:Option Nat->SortSt->Prop}(hc:ur M A E s κ R P)(hB:SB κ R P a0 st)(hD:DK R a0)(hP:∀ x ∈ a0.toList,P x)(h1:1 <= BE)(hn:lo + BE <= a0.size)
  (q:∀ n AO,1 <= n->n <= BE->Rn κ R P a0 st AO lo (lo + BE)->Ca R (arrOf AO) lo (lo + n)->Q (some n) AO):wpS M A E s (countRun' lo BE) Q st:=by
 have hsz:=hB.size
 have Ff:DK R (arrOf st):=hD.perm hB.p
 have lt':∀ {st:SortSt}{i j:Nat}{Q:Option Bool->SortSt->Prop},SB κ R P a0 st->i < a0.size->j < a0.size->Q (some (decide (rk R (arrOf st) i < rk R (arrOf st) j))) st->wpS M A E s (ltAt' i j) Q st:=fun hB hi hj q=>rA hc hB hP hi hj q
 rw[countRun'_eq]
 refine wpS_bind (wpS_mono (wpS_forRange (I:=fun x c AO=>st=AO/\c=(none,x)/\Ca R (arrOf st) lo (lo + x))
  (Q:=fun c AO=>st=AO/\∃ n,c=(none,n)/\1 <= n/\n <= BE/\Ca R (arrOf st) lo (lo + n)/\(n=BE∨rk R (arrOf st) (lo + n) < rk R (arrOf st) (lo + n - 1))) ?step ?fin ⟨rfl,rfl,fun p q h1 h2 h3=>by omega⟩) ?post)
 case fin =>
  rintro c AO ⟨rfl,rfl,h⟩
  rw[max_eq_right h1]at h ⊢
  exact⟨rfl,BE,rfl,h1,Nat.le_refl _,h, .inl rfl⟩
 case step =>
  rintro x c AO OM Ib ⟨rfl,rfl,h⟩
  dsimp only
  refine wpS_bind (lt' hB (by omega) (by omega) ?_)
  dsimp only
  by_cases hl:rk R (arrOf st) (lo + x) < rk R (arrOf st) (lo + x - 1)
  ·rw[decide_eq_true hl,if_pos rfl]
   exact wpS_pure ⟨rfl,x,rfl,OM,by omega,h, .inr hl⟩
  ·rw[decide_eq_false hl,if_neg (by decide)]
   have ne:=Ff.rk (show lo + x ≠ lo + x - 1 by omega) (by omega) (by omega)
   exact wpS_pure ⟨rfl,rfl,h.up (by omega) (by omega)⟩
 case post =>
  rintro c AO ⟨rfl,n,rfl,n1,n2,h,Hi⟩
  dsimp only
  by_cases e:(n == BE)=true
  ·rw[if_pos e]
   exact wpS_pure (q n st n1 n2 ⟨hB,rfl,CA.refl _ _ _⟩ h)
  rw[if_neg e]
  have AV:n < BE:=by
   have:n ≠ BE:=by simpa using e
   omega
  by_cases e2:n > 1
  ·rw[if_pos e2]
   refine wpS_bind (lt' hB (by omega) (by omega) ?_)
   dsimp only
   rw[decide_eq_true (h lo (lo + n - 1) (by omega) (by omega) (by omega)),if_pos rfl]
   exact wpS_pure (q n st n1 n2 ⟨hB,rfl,CA.refl _ _ _⟩ h)
  rw[if_neg e2]
  have en:n=1:=by omega
  subst en
  have hl:rk R (arrOf st) (lo + 1) < rk R (arrOf st) (lo + 1 - 1):=by
   rcases Hi with h | h
   ·omega
   ·exact h
  refine wpS_bind (wpS_lift (wpAny_rule ⟨rfl,?_⟩))
  refine wpS_bind (wpS_mono (wpS_forRange (I:=fun x c AO=>st=AO/\c=(none,x,0)/\G9 R (arrOf st) lo (lo + x))
   (Q:=fun c AO=>st=AO/\∃ n,c=(none,n,0)/\2 <= n/\n <= BE/\G9 R (arrOf st) lo (lo + n)) ?step2 ?fin2 ⟨rfl,rfl,G9.up (fun p q h1 h2 h3=>by omega) (by omega) hl⟩) ?post2)
  case fin2 =>
   rintro c AO ⟨rfl,rfl,h⟩
   rw[max_eq_right (by omega)]at h ⊢
   exact⟨rfl,BE,rfl,by omega,Nat.le_refl _,h⟩
  case step2 =>
   rintro x c AO OM Ib ⟨rfl,rfl,h⟩
   dsimp only
   refine wpS_bind (lt' hB (by omega) (by omega) ?_)
   dsimp only
   by_cases hl:rk R (arrOf st) (lo + x) < rk R (arrOf st) (lo + x - 1)
   ·rw[decide_eq_true hl,if_pos rfl,if_neg (by omega)]
    exact wpS_pure ⟨rfl,rfl,h.up (by omega) hl⟩
   ·rw[decide_eq_false hl,if_neg (by decide)]
    have ne:=Ff.rk (show lo + x ≠ lo + x - 1 by omega) (by omega) (by omega)
    refine wpS_bind (lt' hB (by omega) (by omega) ?_)
    dsimp only
    rw[decide_eq_true (by omega),if_pos rfl]
    exact wpS_pure ⟨rfl,x,rfl,by omega,by omega,h⟩
  case post2 =>
   rintro c AO ⟨rfl,n,rfl,n3,n4,h3⟩
   dsimp only
   rw[if_neg (by omega)]
   refine wpS_bind (wT ?_)
   have JX:SB κ R P a0 (setArr st (mirror (arrOf st) lo (lo + n) ((lo + n - lo) / 2))):=hB.set (mirror_perm _ _ _ _)
   have hm:CA (arrOf st) (mirror (arrOf st) lo (lo + n) ((lo + n - lo) / 2)) lo (lo + BE):=(qR (by omega)).wide (Nat.le_refl _) (by omega)
   have C7:Ca R (mirror (arrOf st) lo (lo + n) ((lo + n - lo) / 2)) lo (lo + n):=h3.mirror (by omega)
   have Sd:Rn κ R P a0 st (setArr st (mirror (arrOf st) lo (lo + n) ((lo + n - lo) / 2))) lo (lo + BE):=⟨JX,rfl,hm⟩
   have JY:Ca R (arrOf (setArr st (mirror (arrOf st) lo (lo + n) ((lo + n - lo) / 2)))) lo (lo + n):=C7
   generalize setArr st (mirror (arrOf st) lo (lo + n) ((lo + n - lo) / 2))=Bs at JX Sd JY ⊢
   clear C7 hm
   have Mp:DK R (arrOf Bs):=hD.perm JX.p
   have hsz2:=JX.size
   refine wpS_bind (wpS_mono (wpS_forRange (I:=fun x c AO=>Bs=AO/\c=(none,x)/\Ca R (arrOf Bs) lo (lo + x))
    (Q:=fun c AO=>Bs=AO/\∃ n,c=(none,n)/\1 <= n/\n <= BE/\Ca R (arrOf Bs) lo (lo + n)) ?step3 ?fin3 ⟨rfl,rfl,JY⟩) ?post3)
   case fin3 =>
    rintro c AO ⟨rfl,rfl,h⟩
    rw[max_eq_right (by omega)]at h ⊢
    exact⟨rfl,BE,rfl,by omega,Nat.le_refl _,h⟩
   case step3 =>
    rintro x c AO OM Ib ⟨rfl,rfl,h⟩
    dsimp only
    refine wpS_bind (lt' JX (by omega) (by omega) ?_)
    dsimp only
    by_cases hl:rk R (arrOf Bs) (lo + x) < rk R (arrOf Bs) (lo + x - 1)
    ·rw[decide_eq_true hl,if_pos rfl]
     exact wpS_pure ⟨rfl,x,rfl,by omega,by omega,h⟩
    ·rw[decide_eq_false hl,if_neg (by decide)]
     have ne:=Mp.rk (show lo + x ≠ lo + x - 1 by omega) (by omega) (by omega)
     exact wpS_pure ⟨rfl,rfl,h.up (by omega) (by omega)⟩
   case post3 =>
    rintro c AO ⟨rfl,n,rfl,n5,n6,h5⟩
    exact wpS_pure (q n Bs n5 n6 Sd h5)
theorem pR {lo n ok:Nat}{st:SortSt}{Q:Bool->SortSt->Prop}(hc:ur M A E s κ R P)(hB:SB κ R P a0 st)(hD:DK R a0)(hP:∀ x ∈ a0.toList,P x)(h1:1 <= ok)(AR:ok <= n)(hn:lo + n <= a0.size)(hs:Ca R (arrOf st) lo (lo + ok))
  (q:∀ AO,Rn κ R P a0 st AO lo (lo + n)->Ca R (arrOf AO) lo (lo + n)->Q true AO):wpS M A E s (binarySort' lo n ok) Q st:=by
 rw[binarySort'_eq]
 rw[Nat.max_eq_left h1]
 refine wpS_bind (wpS_mono (wpS_forRange (I:=fun k c AO=>c=(none,())/\Rn κ R P a0 st AO lo (lo + n)/\Ca R (arrOf AO) lo (lo + k))
  (Q:=fun c AO=>c=(none,())/\Rn κ R P a0 st AO lo (lo + n)/\Ca R (arrOf AO) lo (lo + n)) ?step ?fin ⟨rfl,⟨hB,rfl,CA.refl _ _ _⟩,hs⟩) ?post)
 case fin =>
  rintro c AO ⟨rfl,h,h2⟩
  rw[max_eq_right AR]at h2
  exact⟨rfl,h,h2⟩
 case post =>
  rintro c AO ⟨rfl,h,h2⟩
  exact wpS_pure (q AO h h2)
 case step =>
  rintro k c AO hk1 hk2 ⟨rfl,⟨CS,Gv,F4⟩,h⟩
  have Ff:DK R (arrOf AO):=hD.perm CS.p
  have hsz:=CS.size
  dsimp only
  refine wpS_bind (wpS_mono (wpS_forRange (I:=fun x c Bt=>AO = Bt/\∃ l r,c=(none,l,r)/\l <= r/\r <= k/\r - l <= k - x/\(∀ i,i < l->rk R (arrOf AO) (lo + i) < rk R (arrOf AO) (lo + k))/\(∀ i,r <= i->i < k->rk R (arrOf AO) (lo + k) < rk R (arrOf AO) (lo + i)))
   (Q:=fun c Bt=>AO = Bt/\∃ l r,c=(none,l,r)/\l <= k/\(∀ i,i < l->rk R (arrOf AO) (lo + i) < rk R (arrOf AO) (lo + k))/\(∀ i,l <= i->i < k->rk R (arrOf AO) (lo + k) < rk R (arrOf AO) (lo + i))) ?istep ?ifin ⟨rfl,0,k,rfl,by omega,by omega,by omega,fun i hi=>by omega,fun i h1 h2=>by omega⟩) ?ipost)
  case ifin =>
   rintro c Bt ⟨rfl,l,r,rfl,a1,a2,a3,a4,a5⟩
   have:l=r:=by rw[max_eq_right (zero_le k)]at a3;omega
   subst this
   exact⟨rfl,l,l,rfl,a2,a4,a5⟩
  case istep =>
   rintro x c Bt _ hx ⟨rfl,l,r,rfl,a1,a2,a3,a4,a5⟩
   dsimp only
   by_cases Dm:l ≥ r
   ·rw[if_pos Dm]
    have:l=r:=by omega
    subst this
    exact wpS_pure ⟨rfl,l,l,rfl,a2,a4,a5⟩
   rw[if_neg Dm]
   refine wpS_bind (rA hc CS hP (by omega) (by omega) ?_)
   dsimp only
   have ne:=Ff.rk (show lo + k ≠ lo + (l + r) / 2 by omega) (by omega) (by omega)
   have mono:∀ i j,i <= j->j < k->rk R (arrOf AO) (lo + i) <= rk R (arrOf AO) (lo + j):=fun i j JF hj=>by
    by_cases e:i=j
    ·subst e;exact Int.le_refl _
    ·exact Int.le_of_lt (h (lo + i) (lo + j) (by omega) (by omega) (by omega))
   by_cases hl:rk R (arrOf AO) (lo + k) < rk R (arrOf AO) (lo + (l + r) / 2)
   ·rw[decide_eq_true hl,if_pos rfl]
    refine wpS_pure ⟨rfl,_,_,rfl,by omega,by omega,by omega,a4,fun i h1 h2=>?_⟩
    have:=mono _ i h1 h2
    omega
   ·rw[decide_eq_false hl,if_neg (by decide)]
    refine wpS_pure ⟨rfl,_,_,rfl,by omega,by omega,by omega,fun i hi=>?_,a5⟩
    have:=mono i ((l + r) / 2) (by omega) (by omega)
    omega
  case ipost =>
   rintro c Bt ⟨rfl,l,r,rfl,a1,a2,a3⟩
   dsimp only
   refine wpS_bind (wU (wpS_pure ?_))
   have hb:∀ j:Nat,(bubble (arrOf AO) (lo + k) (lo + k - (lo + l)))[j]? = if j=lo + l then (arrOf AO)[lo + k]? else if lo + l < j/\j <= lo + k then (arrOf AO)[j - 1]? else (arrOf AO)[j]?:=fun j=>by
    rw[getElem?_bubble (by omega) _ (by omega),show lo + k - (lo + k - (lo + l))=lo + l by omega]
   refine⟨rfl,⟨CS.set (bubble_perm _ _ _),Gv,F4.trans ⟨bubble_perm _ _ _,fun j hj=>?_⟩⟩,?_⟩
   ·rw[hb,if_neg (by omega),if_neg (by omega)]
   ·show Ca R (bubble (arrOf AO) (lo + k) (lo + k - (lo + l))) lo (lo + (k + 1))
    generalize bubble (arrOf AO) (lo + k) (lo + k - (lo + l))=ys at hb
    have r1:rk R ys (lo + l)=rk R (arrOf AO) (lo + k):=dg (by rw[hb,if_pos rfl])
    have r2:∀ j,lo + l < j->j <= lo + k->rk R ys j=rk R (arrOf AO) (j - 1):=fun j h1 h2=>dg (by rw[hb,if_neg (by omega),if_pos ⟨h1,h2⟩])
    have r3:∀ j,j < lo + l->rk R ys j=rk R (arrOf AO) j:=fun j h1=>dg (by rw[hb,if_neg (by omega),if_neg (by omega)])
    intro p q h1 h2 h3
    by_cases c1:q < lo + l
    ·rw[r3 p (by omega),r3 q c1]
     exact h p q h1 h2 (by omega)
    by_cases c2:lo + l < p
    ·rw[r2 p c2 (by omega),r2 q (by omega) (by omega)]
     exact h _ _ (by omega) (by omega) (by omega)
    by_cases c3:p=lo + l
    ·subst c3
     rw[r1,r2 q (by omega) (by omega)]
     have:=a3 (q - 1 - lo) (by omega) (by omega)
     rwa [show lo + (q - 1 - lo)=q - 1 by omega]at this
    ·rw[r3 p (by omega)]
     have f1:=a2 (p - lo) (by omega)
     rw[show lo + (p - lo)=p by omega]at f1
     by_cases c4:q=lo + l
     ·subst c4;rw[r1];exact f1
     ·rw[r2 q (by omega) (by omega)]
      exact h p (q - 1) h1 (by omega) (by omega)
end
end Yd
namespace Yd
open PySem PySem.W PySem.Calls PyProof.Rows
noncomputable def Ch (R:Keyed->Int)(xs:Array Keyed):List (Nat × Nat)->Nat->Nat->Prop
 | [],a,b=>a=b
 | t :: L,a,b=>t.1=a/\0 < t.2/\Ca R xs a (a + t.2)/\Ch R xs L (a + t.2) b
theorem Ch.le {R:Keyed->Int}{xs:Array Keyed}:∀ {L:List (Nat × Nat)}{a b:Nat},Ch R xs L a b->a + L.length <= b
 | [],a,b,h=>by cases h;exact Nat.le_refl _
 | t :: L,a,b,⟨_,h1,_,h2⟩=>by
  have:=h2.le
  rw[length_cons]
  omega
theorem Ch.append {R:Keyed->Int}{xs:Array Keyed}:∀ {L L':List (Nat × Nat)}{a b:Nat},Ch R xs (L ++ L') a b↔∃ m,Ch R xs L a m/\Ch R xs L' m b
 | [],L',a,b=>⟨fun h=>⟨a,rfl,h⟩,fun AL=>by obtain⟨m,h,g⟩:=AL;cases h;exact g⟩
 | t :: L,L',a,b=>⟨fun⟨h1,h2,h3,h4⟩=>by
   obtain⟨m,g1,g2⟩:=Ch.append.mp h4
   exact⟨m,⟨h1,h2,h3,g1⟩,g2⟩,fun AL=>by obtain⟨m,⟨h1,h2,h3,h4⟩,g⟩:=AL;exact⟨h1,h2,h3,Ch.append.mpr ⟨m,h4,g⟩⟩⟩
theorem Ch.keep {R:Keyed->Int}{xs ys:Array Keyed}{i j:Nat}(hm:CA xs ys i j):∀ {L:List (Nat × Nat)}{a b:Nat},Ch R xs L a b->b <= i∨j <= a->Ch R ys L a b
 | [],a,b,h,_=>h
 | t :: L,a,b,⟨h1,h2,h3,h4⟩,hd=>by
  have:=h4.le
  exact⟨h1,h2,h3.keep hm (by omega),h4.keep hm (by omega)⟩
noncomputable def pr (p:Array (Nat × Nat × Nat)):List (Nat × Nat):=p.toList.map fun t=>(t.1,t.2.1)
theorem xr (p:Array (Nat × Nat × Nat))(t:Nat × Nat × Nat):pr (p.push t)=pr p ++ [(t.1,t.2.1)]:=by
 unfold pr;rw[Array.toList_push,map_append];rfl
theorem tm (p:Array (Nat × Nat × Nat))(i w:Nat):pr (p.modify i fun (t:Nat × Nat × Nat)=>(t.1,t.2.1,w))=pr p:=by
 unfold pr
 rw[Array.toList_modify]
 refine List.ext_getElem? fun j=>?_
 rw[getElem?_map,getElem?_map,List.getElem?_modify]
 cases p.toList[j]? with
 | none=>rfl
 | some t=>by_cases h:i=j<;>simp[h]
theorem zq (p:Array (Nat × Nat × Nat)):(pr p).length=p.size:=by unfold pr;rw[length_map,Array.length_toList]
theorem ve {p:Array (Nat × Nat × Nat)}{i:Nat}(h:i < p.size):∃ t,p[i]? = some t/\(pr p)[i]? = some (t.1,t.2.1):=⟨p[i],Array.getElem?_eq_getElem h,by
 unfold pr;rw[getElem?_map,Array.getElem?_toList,Array.getElem?_eq_getElem h];rfl⟩
theorem vd {p:Array (Nat × Nat × Nat)}{i:Nat}{t:Nat × Nat × Nat}:pr ((p.setIfInBounds i t).eraseIdxIfInBounds (i + 1))=((pr p).set i (t.1,t.2.1)).eraseIdx (i + 1):=by
 unfold pr
 rw[Array.toList_eraseIdxIfInBounds,Array.toList_setIfInBounds,List.eraseIdx_eq_take_drop_succ,map_append,List.map_take,List.map_drop,List.map_set,List.eraseIdx_eq_take_drop_succ]
theorem yO {α:Type}{L:List α}{i:Nat}{a b:α}(h1:L[i]? = some a)(h2:L[i + 1]? = some b):∃ L1 L2,L=L1 ++ a :: b :: L2/\L1.length=i:=by
 obtain⟨g1,e1⟩:=List.getElem?_eq_some_iff.mp h1
 obtain⟨g2,e2⟩:=List.getElem?_eq_some_iff.mp h2
 refine⟨L.take i,L.drop (i + 2),?_,by rw[length_take];omega⟩
 rw[← e1,← e2,List.getElem_cons_drop,List.getElem_cons_drop,take_append_drop]
theorem Ab {α:Type}{L1 L2:List α}{a b c:α}:((L1 ++ a :: b :: L2).set L1.length c).eraseIdx (L1.length + 1)=L1 ++ c :: L2:=by
 rw[List.set_append_right _ _ (Nat.le_refl _),Nat.sub_self,List.eraseIdx_append_of_length_le (by omega),Nat.add_sub_cancel_left]
 rfl
section
variable {M:Model}{A:Around}{E:Value->Shared->Prop}{s:Shared} {κ:SortKind} {R:Keyed->Int} {P:Keyed->Prop} {a0:Array Keyed}
theorem jz {i lo:Nat}{st:SortSt}{Q:Bool->SortSt->Prop}(hc:ur M A E s κ R P)(hB:SB κ R P a0 st)(hD:DK R a0)(hP:∀ x ∈ a0.toList,P x)(LZ:lo <= a0.size)(CW:Ch R (arrOf st) (pr (pendingOf st)) 0 lo)(hi:i + 1 < (pendingOf st).size)
  (q:∀ AO,SB κ R P a0 AO->Ch R (arrOf AO) (pr (pendingOf AO)) 0 lo->(pr (pendingOf AO)).length + 1=(pr (pendingOf st)).length->CA (arrOf st) (arrOf AO) 0 lo->Q true AO):wpS M A E s (mergeAt' i) Q st:=by
 obtain⟨t,ht,ON⟩:=ve (show i < (pendingOf st).size by omega)
 obtain⟨u,hu,Mm⟩:=ve hi
 obtain⟨L1,L2,hL,hl⟩:=yO ON Mm
 obtain⟨sa,na,w1⟩:=t
 obtain⟨sb,nb,w2⟩:=u
 dsimp only at hL
 have JZ:=CW
 rw[hL]at JZ
 obtain⟨m,c1,e1,p1,s1,e2,p2,s2,c2⟩:=Ch.append.mp JZ
 dsimp only at e1 p1 s1 e2 p2 s2 c2
 subst e1 e2
 have l2:=c2.le
 have l1:=c1.le
 refine nP hc hB hD hP ht hu p1 p2 (by omega) s1.seg s2.seg fun AO CS Gv hm hs=>?_
 have e:pr (pendingOf AO)=L1 ++ (sa,na + nb) :: L2:=by
  rw[Gv,vd,hL,← hl,Ab]
 refine q AO CS ?_ ?_ (hm.wide (zero_le _) (by omega))
 ·rw[e]
  refine Ch.append.mpr ⟨sa,c1.keep hm (.inl (Nat.le_refl _)),rfl,by show 0 < na + nb;omega,hs.sgK ?_,?_⟩
  ·rw[CS.size];omega
  ·show Ch R (arrOf AO) L2 (sa + (na + nb)) lo
   rw[← Nat.add_assoc]
   exact c2.keep hm (.inr (Nat.le_refl _))
 ·rw[e,hL,length_append,length_append,length_cons,length_cons,length_cons]
  omega
theorem Ai {c:Prop} [Decidable c] {a n:Nat} (h:a + 1 < n):(if c then a - 1 else a) + 1 < n:=by split<;>omega
set_option hygiene false in
local macro_rules | `(tactic| and_intros) => `(tactic| (
 obtain⟨GA,hp3,hm3⟩:=hR
 have Ka:Ch R (arrOf Co) (pr (pendingOf Co)) 0 lo:=by rw[hp3];exact CW.keep hm3 (.inl (Nat.le_refl _))
 have Kb:∀ B6,SB κ R P a0 B6->Ch R (arrOf B6) (pr (pendingOf B6)) 0 lo->Ca R (arrOf B6) lo (lo + n)->∃ Mq,(none,lo + n)=((none:Option Unit),Mq)/\Mq <= a0.size/\x + 1 <= Mq/\SB κ R P a0 (setPending B6 ((pendingOf B6).push (lo,n,0)))/\Ch R (arrOf (setPending B6 ((pendingOf B6).push (lo,n,0)))) (pr (pendingOf (setPending B6 ((pendingOf B6).push (lo,n,0))))) 0 Mq:=fun B6 g1 g2 g3=>by
  refine⟨lo + n,rfl,n2,by omega,⟨g1.k,g1.f,g1.p⟩,?_⟩
  show Ch R (arrOf B6) (pr ((pendingOf B6).push (lo,n,0))) 0 (lo + n)
  rw[xr]
  exact Ch.append.mpr ⟨lo,g2,rfl,n1,g3,rfl⟩
 refine wpS_bind (wpS_get ?_)
 cases hb:(pendingOf Co).back? with
 | none =>
  dsimp only
  refine wpS_bind (wpS_modify (wpS_pure ?_))
  exact Kb Co GA Ka hs
 | some t =>
  obtain⟨s1,OO,w1⟩:=t
  dsimp only
  generalize power' a0.size (2 * s1 + OO) (2 * s1 + OO + OO + n) a0.size=pw
  refine wpS_bind (wpS_mono (wpS_forRange (I:=fun _ c B6=>c=(none,())/\SB κ R P a0 B6/\Ch R (arrOf B6) (pr (pendingOf B6)) 0 lo/\Ca R (arrOf B6) lo (lo + n))
   (Q:=fun c B6=>c=(none,())/\SB κ R P a0 B6/\Ch R (arrOf B6) (pr (pendingOf B6)) 0 lo/\Ca R (arrOf B6) lo (lo + n)) ?pstep (fun _ _ h=>h) ⟨rfl,GA,Ka,hs⟩) ?ppost)
  case ppost =>
   rintro c B6 ⟨rfl,g1,g2,g3⟩
   dsimp only
   refine wpS_bind (wpS_modify (wpS_bind (wpS_modify (wpS_pure ?_))))
   refine Kb (setPending B6 ((pendingOf B6).modify ((pendingOf B6).size - 1) fun t=>(t.1,t.2.1,pw))) ⟨g1.k,g1.f,g1.p⟩ ?_ g3
   show Ch R (arrOf B6) (pr ((pendingOf B6).modify ((pendingOf B6).size - 1) fun t=>(t.1,t.2.1,pw))) 0 lo
   rw[tm]
   exact g2
  case pstep =>
   rintro y c B6 _ _ ⟨rfl,g1,g2,g3⟩
   refine wpS_bind (wpS_get ?_)
   by_cases e:(pendingOf B6).size > 1
   ·rw[if_pos e]
    obtain⟨t,ht,_⟩:=ve (show(pendingOf B6).size - 2 < (pendingOf B6).size by omega)
    obtain⟨t1,t2,t3⟩:=t
    rw[ht]
    dsimp only
    by_cases e2:t3 <= pw
    ·rw[if_pos e2]
     exact wpS_pure ⟨rfl,g1,g2,g3⟩
    rw[if_neg e2]
    refine wpS_bind (jz hc g1 hD hP h1 g2 (by omega) fun GS b1 b2 b3 b4=>?_)
    rw[if_neg (by decide)]
    exact wpS_pure ⟨rfl,b1,b2,g3.keep b4 (.inr (Nat.le_refl _))⟩
   ·rw[if_neg e]
    exact wpS_pure ⟨rfl,g1,g2,g3⟩))
theorem ut {st:SortSt}{Q:Unit->SortSt->Prop}(hc:ur M A E s κ R P)(hB:SB κ R P a0 st)(hD:DK R a0)(hP:∀ x ∈ a0.toList,P x)(hp:pendingOf st = #[])(h2:1 <= a0.size)
  (q:∀ AO,SB κ R P a0 AO->Ca R (arrOf AO) 0 a0.size->Q () AO):wpS M A E s sortRuns' Q st:=by
 rw[sortRuns'_eq]
 refine wpS_bind (wpS_get ?_)
 dsimp only
 rw[hB.size]
 generalize minRun' a0.size a0.size 0=mr
 refine wpS_bind (wpS_mono (wpS_forRange (I:=fun x c AO=>∃ lo,c=(none,lo)/\lo <= a0.size/\x <= lo/\SB κ R P a0 AO/\Ch R (arrOf AO) (pr (pendingOf AO)) 0 lo)
  (Q:=fun c AO=>c=(none,a0.size)/\SB κ R P a0 AO/\Ch R (arrOf AO) (pr (pendingOf AO)) 0 a0.size) ?step ?fin ⟨0,rfl,by omega,by omega,hB,by rw[hp];exact rfl⟩) ?post)
 case fin =>
  rintro c AO ⟨lo,rfl,h1,h2,h3,h4⟩
  have:lo=a0.size:=by omega
  subst this
  exact⟨rfl,h3,h4⟩
 case post =>
  rintro c AO ⟨rfl,CS,CW⟩
  dsimp only
  refine wpS_bind (wpS_mono (wpS_forRange (I:=fun x c Bt=>c=(none,())/\SB κ R P a0 Bt/\Ch R (arrOf Bt) (pr (pendingOf Bt)) 0 a0.size/\(pr (pendingOf Bt)).length + x <= a0.size + 1)
   (Q:=fun c Bt=>c=(none,())/\SB κ R P a0 Bt/\Ch R (arrOf Bt) (pr (pendingOf Bt)) 0 a0.size/\(pr (pendingOf Bt)).length <= 1) ?mstep ?mfin ⟨rfl,CS,CW,by have:=CW.le;omega⟩) ?mpost)
  case mfin =>
   rintro c Bt ⟨rfl,a1,a2,a3⟩
   exact⟨rfl,a1,a2,by omega⟩
  case mpost =>
   rintro c Bt ⟨rfl,a1,a2,a3⟩
   refine wpS_pure (q Bt a1 ?_)
   generalize pr (pendingOf Bt)=L at a2 a3
   match L,a2,a3 with
   | [],a2,_=>exact absurd a2 (by show ¬ 0=a0.size;omega)
   | [t],⟨_,_,b3,b4⟩,_ =>
    have e:0 + t.2=a0.size:=b4
    rw[e]at b3
    exact b3
   | _ :: _ :: _,_,a3=>simp at a3
  case mstep =>
   rintro x c Bt _ hx ⟨rfl,a1,a2,a3⟩
   refine wpS_bind (wpS_get ?_)
   by_cases e:(pendingOf Bt).size <= 1
   ·rw[if_pos e]
    exact wpS_pure ⟨rfl,a1,a2,by rw[zq];exact e⟩
   rw[if_neg e]
   refine wpS_bind (jz hc a1 hD hP (Nat.le_refl _) a2 (Ai (by omega)) fun Co b1 b2 b3 b4=>?_)
   rw[if_neg (by decide)]
   exact wpS_pure ⟨rfl,b1,b2,by omega⟩
 case step =>
  rintro x c AO _ hx ⟨lo,rfl,h1,h3,CS,CW⟩
  dsimp only
  by_cases Dm:lo ≥ a0.size
  ·rw[if_pos Dm]
   have:lo=a0.size:=by omega
   subst this
   exact wpS_pure ⟨rfl,CS,CW⟩
  rw[if_neg Dm]
  refine wpS_bind (sN hc CS hD hP (by omega) (by omega) fun n Bs n1 n2 hR hs=>?_)
  dsimp only
  by_cases OP:n < mr
  ·rw[if_pos OP]
   refine wpS_bind (wpS_lift (wpAny_rule ⟨rfl,?_⟩))
   refine wpS_bind (pR hc hR.1 hD hP n1 (by omega) (by omega) hs fun Co Ms Sf=>?_)
   have hR:Rn κ R P a0 AO Co lo a0.size:=⟨Ms.1,Ms.2.1.trans hR.2.1,(hR.2.2.wide (Nat.le_refl _) (by omega)).trans (Ms.2.2.wide (Nat.le_refl _) (by omega))⟩
   have n1:1 <= min (a0.size - lo) mr:=by omega
   have n2:lo + min (a0.size - lo) mr <= a0.size:=by omega
   have hs:=Sf
   clear Ms Sf OP
   generalize min (a0.size - lo) mr=n at n1 n2 hs ⊢
   rw[if_neg (by decide)]
   and_intros
  ·rw[if_neg OP]
   have hR:Rn κ R P a0 AO Bs lo a0.size:=⟨hR.1,hR.2.1,hR.2.2.wide (Nat.le_refl _) (by omega)⟩
   have n2:lo + n <= a0.size:=by omega
   generalize Bs=Co at hR hs ⊢
   and_intros
end
end Yd
namespace Yd
open PySem PySem.W PySem.Calls PyProof.Rows
section
variable {prog:Program}{w:World}{A:Around}{E:Value->Shared->Prop}{s:Shared}{a:Addr}{vs:List Value}
theorem nM:∀ l:List Value,l.zip l=l.map fun v=>(v,v)
 | []=>rfl
 | v :: l=>by rw[List.zip_cons_cons,nM l];rfl
theorem ld {n:Nat}{P:PySem.Fin->Shared->Prop} (κ:SortKind) (R:Keyed->Int) (hR:(vs.map fun v=>R (v,v)).Nodup) (ho:s.heap.get? a=some (seqObj "list" vs.toArray n)) (hz:vs.length <= sizeLine)
  (hk:2 <= vs.length->∀ h':Heap,(∀ b o,b ≠ a->s.heap.get? b=some o->h'.get? b=some o)->∀ Q':SortKind->Shared->Prop,Q' κ { s with heap:=h' }->wpAny (model prog w) A (keyKind' vs.toArray) Q' E { s with heap:=h' })
  (hc:∀ h':Heap,(∀ b o,b ≠ a->s.heap.get? b=some o->h'.get? b=some o)->∀ u ∈ vs,∀ v ∈ vs,∀ C:Bool->Shared->Prop,C (decide (R (u,u) < R (v,v))) { s with heap:=h' }->wpAny (model prog w) A (keyLt' κ u v) C (fun _ _=>False) { s with heap:=h' })
  (h:∀ out:List Value,out.Perm vs->(out.map fun v=>R (v,v)).Pairwise (· < ·)->P (.done (.ret .none)) { s with heap:=sortedHeap s.heap a vs out.toArray }):wpAny (model prog w) A (Builtin.«list.sort» ⟨[.ref a],[]⟩) P E s:=by
 rw[list_sort_plain]
 have ha:a < s.heap.objs.size:=lt_size ho
 refine wpAny_bind (listItems_at ho rfl ?_)
 refine wpAny_bind (listUpdate_at ho rfl ?_ (by rw[size_toArray];exact hz) (zero_le _))
 obtain⟨e1,Sg⟩:∃ e1,(s.heap.update a (Obj.mapSeq fun _=>#[])).get? a=some (seqObj "list" #[] e1):=⟨_,get?_update_seq ho (fun _=>#[])⟩
 refine wpAny_bind (seqEpoch_at Sg rfl ?_)
 refine wpAny_bind (wpAny_newTuple ?_ (by show vs.length <= _;exact hz))
 refine wpAny_bind (wpAny_newList ?_ (zero_le _))
 refine wpAny_holding ?_
 have Mu:(((s.heap.update a (Obj.mapSeq fun _=>#[])).push (seqObj "tuple" vs.toArray 0)).push (seqObj "list" #[] 0)).get? a=some (seqObj "list" #[] e1):=by
  rw[Heap.get?_push_ne _ _ _ (by rw[size_push',size_update];exact ne_of_lt (lt_succ_of_lt ha)),Heap.get?_push_ne _ _ _ (by rw[size_update];exact ne_of_lt ha)]
  exact Sg
 have keep:∀ b o,b ≠ a->s.heap.get? b=some o->(((s.heap.update a (Obj.mapSeq fun _=>#[])).push (seqObj "tuple" vs.toArray 0)).push (seqObj "list" #[] 0)).get? b=some o:=fun b o hb q =>
  Heap.get?_push_of_some _ (Heap.get?_push_of_some _ (by rw[Heap.get?_update_ne _ _ _ _ hb];exact q))
 show wpAny (model prog w) A _ P E { s with heap:=((s.heap.update a (Obj.mapSeq fun _=>#[])).push (seqObj "tuple" vs.toArray 0)).push (seqObj "list" #[] 0) }
 dsimp only
 have hsz:vs.toArray.size=vs.length:=by simp
 by_cases h2:vs.toArray.size < 2
 ·rw[if_pos h2,if_pos h2]
  refine wpAny_bind (wpAny_pure ?_)
  rw[StateT.run_pure]
  refine wpAny_bind (wpAny_pure ?_)
  dsimp only
  have BV:(arrOf (SortSt.mk' general' (vs.toArray.zip vs.toArray) #[] 7 none)).map (·.2)=vs.toArray:=by
   show(vs.toArray.zip vs.toArray).map (·.2)=vs.toArray
   rw[Array.map_snd_zip]<;>simp
  rw[BV]
  refine wpAny_bind (seqEpoch_at Mu rfl ?_)
  refine wpAny_bind (listUpdate_at Mu rfl ?_ (zero_le _) (by rw[hsz];omega))
  simp only[bne_self_eq_false,Bool.false_eq_true,if_false]
  refine wpAny_pure (h vs (List.Perm.refl _) ?_)
  rw[hsz]at h2
  match vs,h2 with
  | [],_=>exact .nil
  | [v],_=>exact pairwise_singleton _ _
  | _ :: _ :: _,h2=>exact absurd h2 (by simp)
 ·rw[if_neg h2,if_neg h2]
  have CP:2 <= vs.length:=by omega
  refine wpAny_bind (hk CP _ keep _ ?_)
  have ask:=hc _ keep
  have Hr:(vs.toArray.zip vs.toArray).toList=vs.map fun v=>(v,v):=by
   rw[Array.toList_zip]
   exact nM vs
  have Sh:(vs.toArray.zip vs.toArray).size=vs.length:=by simp
  have run:=ut (M:=model prog w) (A:=A) (E:=E) (s:={ s with heap:=((s.heap.update a (Obj.mapSeq fun _=>#[])).push (seqObj "tuple" vs.toArray 0)).push (seqObj "list" #[] 0) }) (κ:=κ) (R:=R) (P:=fun x=>x.1=x.2/\x.1 ∈ vs) (a0:=vs.toArray.zip vs.toArray)
   (st:=SortSt.mk' κ (vs.toArray.zip vs.toArray) #[] 7 none) (Q:=fun _ AO=>SB κ R (fun x=>x.1=x.2/\x.1 ∈ vs) (vs.toArray.zip vs.toArray) AO/\Ca R (arrOf AO) 0 vs.length)
   (fun x y px py st Q CY q=>by
    obtain⟨x1,x2⟩:=x
    obtain⟨y1,y2⟩:=y
    obtain⟨ex,mx⟩:=px
    obtain⟨ey,my⟩:=py
    dsimp only at ex mx ey my
    subst ex ey
    rw[lt'_eq]
    refine wpS_bind (wpS_get ?_)
    rw[CY]
    refine wpS_bind (wpS_lift (wpAny_attempt (wpAny_mono (ask x1 mx y1 my (fun b s'=>s' = _/\b=_) ⟨rfl,rfl⟩) (fun b s' hb=>⟨hb.1,?_⟩) fun _ _ z=>z.elim)))
    obtain⟨_,rfl⟩:=hb
    exact wpS_pure q)
   ⟨rfl,rfl,Array.Perm.refl _⟩ (Ce.mpr (by rw[Hr,map_map];exact hR)) (fun x hx=>by
    rw[Hr]at hx
    obtain⟨v,hv,rfl⟩:=mem_map.mp hx
    exact⟨rfl,hv⟩) rfl (by rw[Sh];omega) (fun AO h1 h2=>⟨h1,by rw[Sh]at h2;exact h2⟩)
  refine wpAny_bind (wpAny_mono run ?_ fun _ _ e=>e)
  rintro⟨⟨⟩,AO⟩ s' ⟨rfl,hS,hs⟩
  dsimp only at hS hs ⊢
  obtain⟨out,BV⟩:∃ out:List Value,out=(arrOf AO).toList.map (·.2):=⟨_,rfl⟩
  have BS:(arrOf AO).toList.Perm (vs.map fun v=>(v,v)):=by rw[← Hr];exact hS.p.toList
  have Mv:out.Perm vs:=by
   rw[BV]
   have:=BS.map (fun x:Keyed=>x.2)
   rw[map_map]at this
   exact this.trans (List.Perm.of_eq (map_id _))
  have Kc:∀ x ∈ (arrOf AO).toList,x=(x.2,x.2):=fun x hx=>by
   obtain⟨v,_,rfl⟩:=mem_map.mp (BS.mem_iff.mp hx)
   rfl
  have hlen:(arrOf AO).toList.length=vs.length:=by rw[BS.length_eq,length_map]
  have Kd:(out.map fun v=>R (v,v)).Pairwise (· < ·):=by
   rw[BV,map_map]
   have e:(arrOf AO).toList.map ((fun v=>R (v,v)) ∘ fun x:Keyed=>x.2)=(arrOf AO).toList.map R:=map_congr_left fun x hx=>by
    show R (x.2,x.2)=R x
    rw[← Kc x hx]
   rw[e]
   refine pairwise_iff_getElem.mpr fun p q hp hq G7=>?_
   rw[length_map]at hp hq
   rw[getElem_map,getElem_map]
   have:=hs p q (zero_le _) G7 (by omega)
   rw[ga (x:=(arrOf AO).toList[p]) (by rw[← Array.getElem?_toList];exact getElem?_eq_getElem _),ga (x:=(arrOf AO).toList[q]) (by rw[← Array.getElem?_toList];exact getElem?_eq_getElem _)]at this
   exact this
  have Ke:(arrOf AO).map (·.2)=out.toArray:=by
   rw[BV]
   apply Array.toList_inj.mp
   simp
  rw[Ke]
  refine wpAny_bind (seqEpoch_at Mu rfl ?_)
  refine wpAny_bind (listUpdate_at Mu rfl ?_ (zero_le _) (by rw[size_toArray,Mv.length_eq];omega))
  rw[hS.f]
  simp only[bne_self_eq_false,Bool.false_eq_true,if_false]
  exact wpAny_pure (h out Mv Kd)
theorem DL {l:Addr}{Q:Value->Shared->Prop} (κ:SortKind) (R:Keyed->Int) (hR:(vs.map fun v=>R (v,v)).Nodup) (hl:s.heap.IsList l vs.toArray) (hz:vs.length <= sizeLine)
  (hk:2 <= vs.length->∀ h':Heap,(∀ b o,s.heap.get? b=some o->h'.get? b=some o)->∀ Q':SortKind->Shared->Prop,Q' κ { s with heap:=h' }->wpAny (model prog w) A.in1.in1 (keyKind' vs.toArray) Q' (fun _ _=>False) { s with heap:=h' })
  (hc:∀ h':Heap,(∀ b o,s.heap.get? b=some o->h'.get? b=some o)->∀ u ∈ vs,∀ v ∈ vs,∀ C:Bool->Shared->Prop,C (decide (R (u,u) < R (v,v))) { s with heap:=h' }->wpAny (model prog w) A.in1.in1 (keyLt' κ u v) C (fun _ _=>False) { s with heap:=h' })
  (h:∀ (out:List Value)(l':Addr)(h':Heap)(n:Nat),out.Perm vs->(out.map fun v=>R (v,v)).Pairwise (· < ·)->(∀ b o,s.heap.get? b=some o->h'.get? b=some o)->s.heap.objs.size <= l'->h'.get? l' = some (seqObj "list" out.toArray n)->Q (.ref l') { s with heap:=h' }) :
  wpAny (model prog w) A (call (.builtin "sorted") [.ref l]) Q E s:=by
 refine Calls.call_function_entry kind_sorted plain_sorted entry_sorted (args_sorted1 _) ?_
 unfold Builtin.«sorted»
 refine wpAny_bind (m:=checkCount "sorted" 1 1 _) (wpAny_pure ?_)
 refine wpAny_bind (collect_list hl ?_ hz)
 refine wpAny_bind (wpAny_newList ?_ hz)
 have hsz:((s.heap.push (seqObj "list" #[] 0)).update s.heap.objs.size (Obj.mapSeq (· ++ vs.toArray))).objs.size=s.heap.objs.size + 1:=by
  rw[size_update,size_push']
 have Iy:(((s.heap.push (seqObj "list" #[] 0)).update s.heap.objs.size (Obj.mapSeq (· ++ vs.toArray))).push (seqObj "list" vs.toArray 0)).get? (s.heap.objs.size + 1)=some (seqObj "list" vs.toArray 0):=by
  rw[← hsz];exact Heap.get?_push_size _ rfl
 have keep:∀ b o,s.heap.get? b=some o->(((s.heap.push (seqObj "list" #[] 0)).update s.heap.objs.size (Obj.mapSeq (· ++ vs.toArray))).push (seqObj "list" vs.toArray 0)).get? b=some o:=fun b o q=>by
  have AV:b < s.heap.objs.size:=lt_size q
  rw[Heap.get?_push_ne _ _ _ (by rw[hsz];exact ne_of_lt (lt_succ_of_lt AV)),Heap.get?_update_ne _ _ _ _ (ne_of_lt AV),Heap.get?_push_ne _ _ _ (ne_of_lt AV)]
  exact q
 have OQ:∀ b o,s.heap.get? b=some o->b ≠ s.heap.objs.size + 1:=fun b o q=>ne_of_lt (lt_succ_of_lt (lt_size q))
 show wpAny _ _ _ _ _ { s with heap:=((s.heap.push (seqObj "list" #[] 0)).update s.heap.objs.size (Obj.mapSeq (· ++ vs.toArray))).push (seqObj "list" vs.toArray 0) }
 rw[hsz]
 refine wpAny_bind (wpAny_holding (wpAny_call_entry slot_list_sort ⟨_,Iy,rfl⟩ entry_list_sort ?body (args_list_sort _)))
 case body =>
  refine ld (s:={ s with heap:=((s.heap.push (seqObj "list" #[] 0)).update s.heap.objs.size (Obj.mapSeq (· ++ vs.toArray))).push (seqObj "list" vs.toArray 0) }) κ R hR Iy hz
   (fun h2 h' k Q' q=>wpAny_mono (hk h2 h' (fun b o q'=>k b o (OQ b o q') (keep b o q')) Q' q) (fun _ _ z=>z) fun _ _ z=>z.elim)
   (fun h' k u hu v hv C q=>hc h' (fun b o q'=>k b o (OQ b o q') (keep b o q')) u hu v hv C q) fun out op orr=>⟨_,rfl,wpAny_pure ⟨_,rfl,?_⟩⟩
  obtain⟨n,hn⟩:=sortedHeap_at (out:=out.toArray) Iy
  refine h out _ _ n op orr (fun b o e=>?_) (le_succ _) hn
  have AV:=lt_size e
  show(sortedHeap _ _ _ _).get? b=some o
  rw[sortedHeap_old (OQ b o e) (by rw[size_push',hsz];exact lt_succ_of_lt (lt_succ_of_lt AV))]
  exact keep b o e
end
end Yd
namespace L2
open PySem PySem.Spec PyProof.Rows
noncomputable def uY (p:Int × Int):Int:=p.1 * 1000 + p.2
noncomputable def zn (K:Frag):List V->Hp->VK->Prop:=fun xs H Q=>∃ (p:Addr)(vs:List V)(ps:List (Int × Int)),xs=[.ref p]/\AQ K H p vs/\AB H vs ps/\ps.Nodup/\(∀ p ∈ ps,0 <= p.2/\p.2 < 1000) /\
 ∀ q Hs Kf,H q=none->AB H Hs Kf->Kf.Perm ps->Kf.Pairwise yA->Q (.ref q) (aw H q (.lst Hs))
theorem AS.det {h:Heap}{v:Value}{p q:Int × Int}(hp:AS h v p)(hq:AS h v q):p=q:=by
 obtain⟨a,o,t,u,n,e,ho,hc,hd⟩:=hp
 obtain⟨a',o',t',u',n',e',C5,Dz,CM⟩:=hq
 rw[e]at e'
 cases e'
 rw[ho]at C5
 cases C5
 rw[hd]at CM
 injection CM with e1 e2
 have e3:=congrArg Array.toList e1
 simp at e3
 exact Prod.ext e3.1.1 e3.2.1
open Classical in
noncomputable def jJ (h:Heap) (x:PyProof.Rows.Keyed):Int:=if e:∃ p,AS h x.1 p then uY e.choose else 0
theorem fO {h:Heap}{x:PyProof.Rows.Keyed}{p:Int × Int}(e:AS h x.1 p):jJ h x=uY p:=by
 have e':∃ p,AS h x.1 p:=⟨p,e⟩
 unfold jJ
 rw[dif_pos e',e'.choose_spec.det e]
theorem tu {α β:Type}{f:α->β}{l l':List β}(h:l.Perm l'):∀ Z:List α,Z.map f=l->∃ Z',Z.Perm Z'/\Z'.map f=l':=by
 induction h with
 | nil=>exact fun Z hZ=>⟨Z,List.Perm.refl _,hZ⟩
 | cons x _ ih =>
  intro Z hZ
  cases Z with
  | nil=>cases hZ
  | cons z Z =>
   rw[map_cons]at hZ
   obtain⟨rfl,hZ2⟩:=List.cons.inj hZ
   obtain⟨Z',h1,h2⟩:=ih Z hZ2
   exact⟨z :: Z',h1.cons z,by rw[map_cons,h2]⟩
 | swap x y l =>
  intro Z hZ
  match Z,hZ with
  | a :: b :: Z,hZ =>
   rw[map_cons,map_cons]at hZ
   obtain⟨e1,e2⟩:=List.cons.inj hZ
   obtain⟨e3,e4⟩:=List.cons.inj e2
   exact⟨b :: a :: Z,List.Perm.swap b a Z,by rw[map_cons,map_cons,e1,e3,e4]⟩
 | trans _ _ ih1 ih2 =>
  intro Z hZ
  obtain⟨Z',h1,h2⟩:=ih1 Z hZ
  obtain⟨Z'',h3,h4⟩:=ih2 Z' h2
  exact⟨Z'',h1.trans h3,h4⟩
theorem vX {prog:Program}{w:World}{A:Around}{E:Value->Shared->Prop}{s:Shared}{u v:Value}{p q:Int × Int}{C:Bool->Shared->Prop}(hp:AS s.heap u p)(hq:AS s.heap v q)(RM:0 <= p.2/\p.2 < 1000)(F7:0 <= q.2/\q.2 < 1000)(h:C (decide (uY p < uY q)) s) :
  wpAny (model prog w) A (keyLt' (tuples' true) u v) C E s:=by
 obtain⟨a,o,t,t',n,rfl,ho,_,hd⟩:=hp
 obtain⟨b,o',r,r',m,rfl,C5,_,CM⟩:=hq
 unfold uY at h
 refine PySem.W.kat_lt ho hd C5 CM ?_
 refine PySem.W.kat_cons (wpAny_eqBool_int ?_)
 by_cases e:p.1=q.1
 ·rw[show(p.1 == q.1)=true from beq_iff_eq.mpr e]
  refine PySem.W.kat_yes (PySem.W.kat_cons (wpAny_eqBool_int ?_))
  by_cases e2:p.2=q.2
  ·rw[show(p.2 == q.2)=true from beq_iff_eq.mpr e2]
   refine PySem.W.kat_yes (PySem.W.kat_nil ?_)
   rw[decide_eq_false (by omega)]at h
   exact h
  ·rw[show(p.2 == q.2)=false from beq_eq_false_iff_ne.mpr e2]
   refine PySem.W.kat_no (PySem.W.kat_one _ _ ?_)
   refine lt_int ?_
   rw[show decide (p.1 * 1000 + p.2 < q.1 * 1000 + q.2)=decide (p.2 < q.2) from decide_eq_decide.mpr (by omega)]at h
   exact h
 ·rw[show(p.1 == q.1)=false from beq_eq_false_iff_ne.mpr e]
  refine PySem.W.kat_no (oneLt_int ?_)
  rw[show decide (p.1 * 1000 + p.2 < q.1 * 1000 + q.2)=decide (p.1 < q.1) from decide_eq_decide.mpr (by omega)]at h
  exact h
section
variable {X:Cx}
theorem Kg {H:Hp}{h:Heap}{P:Program}{w:World}(hk:B8 P w H h):∀ {vs:List V}{us:List Value}{ps:List (Int × Int)},Vals vs us->AB H vs ps->∃ Z:List (V × Value × (Int × Int)),Z.map (·.1)=vs/\Z.map (·.2.1)=us/\Z.map (·.2.2)=ps/\∀ z ∈ Z,RelV z.1 z.2.1/\(∃ t,z.1 = .ref t/\H t=some (.tup [.int z.2.2.1, .int z.2.2.2]))/\AS h z.2.1 z.2.2
 | _,_,_, .nil, .nil=>⟨[],rfl,rfl,rfl,fun z hz=>by cases hz⟩
 | _,_,_, .cons (a:=v) (b:=u) r rv, .cons (b:=p) e es=>by
  obtain⟨Z,h1,h2,h3,h4⟩:=Kg hk rv es
  exact⟨(v,u,p) :: Z,by rw[map_cons,h1],by rw[map_cons,h2],by rw[map_cons,h3],fun z hz=>by
   rcases mem_cons.mp hz with rfl | hz
   ·exact⟨r,e,mY hk r e⟩
   ·exact h4 z hz⟩
theorem lr:∀ {Z:List (V × Value × (Int × Int))},(∀ z ∈ Z,RelV z.1 z.2.1)->Vals (Z.map (·.1)) (Z.map (·.2.1))
 | [],_ => .nil
 | z :: Z,h => .cons (h z (mem_cons_self ..)) (lr fun z hz=>h z (mem_cons_of_mem _ hz))
theorem og {H:Hp}:∀ {Z:List (V × Value × (Int × Int))},(∀ z ∈ Z,∃ t,z.1 = .ref t/\H t=some (.tup [.int z.2.2.1, .int z.2.2.2]))->AB H (Z.map (·.1)) (Z.map (·.2.2))
 | [],_ => .nil
 | z :: Z,h => .cons (h z (mem_cons_self ..)) (og fun z hz=>h z (mem_cons_of_mem _ hz))
theorem nD:eF X (.builtin "sorted") (zn X.K):=by
 intro pins s σ H xs us Q I r h
 obtain⟨p,vs,ps,rfl,hq,hP,Eu,hr,q⟩:=h
 obtain⟨u,rfl,rx⟩:=nW r
 cases rx
 obtain⟨AM,rv,pl,hz⟩:=I.list hq
 have hits:AM.length=vs.length:=rv.length.symm
 have JG:Paired (AS s.heap) AM ps:=jV I.AR rv hP
 obtain⟨Z,z1,z2,z3,z4⟩:=Kg I.AR rv hP
 have OR:(AM.map fun v=>jJ s.heap (v,v))=ps.map uY:=by
  rw[← z2,← z3,map_map,map_map]
  exact map_congr_left fun z hz=>fO (z4 z hz).2.2
 have OS:∀ p ∈ ps,∀ q ∈ ps,uY p=uY q->p=q:=fun p hp q hq e=>by
  have a1:=hr p hp
  have a2:=hr q hq
  unfold uY at e
  exact Prod.ext (by omega) (by omega)
 refine Yd.DL (tuples' true) (jJ s.heap) ?_ pl.isList (by rw[hits];exact hz) (fun h2 h' k Q' q'=>?_) (fun h' k u hu v hv C q'=>?_) fun out l h' n op orr k hle hg=>?_
 ·rw[OR]
  exact pairwise_map.mpr (List.Pairwise.imp_of_mem (fun {a b} ha hb E9 e=>E9 (OS a ha b hb e)) Eu)
 ·obtain⟨fs,kt,hl,hi⟩:=l8 (qI k JG)
  exact PySem.W.kat_kind (s:={ s with heap:=h' }) (T := .type "int") kt (by omega) (fun v hv=>by obtain⟨i,t,rfl⟩:=hi v hv;exact PySem.W.Looks.now) (by rfl) q'
 ·rw[← z2]at hu hv
  obtain⟨zu,mu,rfl⟩:=mem_map.mp hu
  obtain⟨zv,mv,rfl⟩:=mem_map.mp hv
  have pu:=(z4 zu mu).2.2
  have pv:=(z4 zv mv).2.2
  rw[fO (x:=(zu.2.1,zu.2.1)) pu,fO (x:=(zv.2.1,zv.2.1)) pv]at q'
  refine vX (s:={ s with heap:=h' }) (pu.keep k) (pv.keep k) (hr _ ?_) (hr _ ?_) q'
  ·rw[← z3];exact List.mem_map_of_mem mu
  ·rw[← z3];exact List.mem_map_of_mem mv
 ·obtain⟨Z',pz,ez⟩:=tu op.symm Z z2
  have OT:=fun z hz=>z4 z (pz.mem_iff.mpr hz)
  have B5:Vals (Z'.map (·.1)) out:=by rw[← ez];exact lr fun z hz=>(OT z hz).1
  have Gv:AB H (Z'.map (·.1)) (Z'.map (·.2.2)):=og fun z hz=>(OT z hz).2.1
  have CJ:(Z'.map (·.2.2)).Perm ps:=by rw[← z3];exact(pz.map _).symm
  have E6:(Z'.map (·.1)).length=vs.length:=by rw[← z1,length_map,length_map,pz.length_eq]
  have HV:(Z'.map (·.2.2)).Pairwise yA:=by
   have e:(out.map fun v=>jJ s.heap (v,v))=(Z'.map (·.2.2)).map uY:=by
    rw[← ez,map_map,map_map]
    exact map_congr_left fun z hz=>fO (OT z hz).2.2
   rw[e]at orr
   refine List.Pairwise.imp_of_mem (fun {a b} ha hb E9=>?_) (pairwise_map.mp orr)
   have a1:=hr a (CJ.mem_iff.mp ha)
   have a2:=hr b (CJ.mem_iff.mp hb)
   unfold uY at E9
   show a.1 < b.1∨(a.1=b.1/\a.2 < b.2)
   omega
  have I1:Inv X pins σ (aw H l (.lst (Z'.map (·.1)))) { s with heap:=h',toks:=s.toks }:=I.laid k hle ⟨by rw[E6];exact hz,out,n,B5,by simpa using hg⟩
  exact⟨.ref l,_,I1,rfl,q l _ _ (I.AR.fresh hle) Gv CJ HV⟩
end
end L2
namespace L2
open PySem
theorem bI {J:It}{g:TG}{tt:TT}{te:TE}{σ0:St}{H:Hp}{Q:VK}(n:Nat)(hn:n < sizeLine)(W:Nat->List V->Hp->Prop)(h0:W 0 [] H)(hlen:∀ i acc H',W i acc H'->acc.length <= i)
  (turn:∀ i acc H',i < n->W i acc H'->J.go i H'/\∀ x H2,J.Fd i H' x H2->g x σ0 H2 fun σ2 H3=>tt σ2 H3 fun b H4=>if b=true then te σ2 H4 fun y H5=>W (i + 1) (acc ++ [y]) H5 else W (i + 1) acc H4)
  (stop:∀ acc H',W n acc H'->J.stop n H'/\∀ D,H' D=none->Q (.ref D) (aw H' D (.lst acc))):pP J g tt te σ0 Q H:=by
 refine⟨fun i m acc H'=>m=n - i/\i <= n/\W i acc H',⟨n,by simp,zero_le _,h0⟩,?_⟩
 rintro i m acc H' ⟨rfl,hi,w⟩
 refine⟨by have:=hlen i acc H' w;omega,?_⟩
 by_cases AV:i < n
 ·obtain⟨go,q⟩:=turn i acc H' AV w
  exact .inr ⟨go,fun Bm H2=>W (i + 1) Bm H2,fun Bm H2 w2=>⟨n - (i + 1),by omega,rfl,AV,w2⟩,q⟩
 ·have e:i=n:=by omega
  subst e
  exact .inl (stop acc H' w)
theorem AI.new {H H':Hp}{a:Addr}{o:HO}(h:AI H H')(n:H' a=none):AI H (aw H' a o):=fun b u e=>by rw[ai (ah (h _ _ e) n)];exact h _ _ e
end L2
namespace L2
open PySem
theorem Bl {N P:List Str}{sc:Scope}(a:autoParam (sc.kind = .function) η)(b:autoParam (sc.isCoroutine=false) η)(c:autoParam (sc.isGenerator=false) η)(d:autoParam (N.Nodup) ξ)(e:autoParam (N.take P.length=P) η)(f:autoParam (∀ x ∈ P,sc.names.lookup x=some .local∨sc.names.lookup x=some .cell) ξ)(g:autoParam (∀ y ∈ sc.names,y.2 ≠ .free) ξ):ar N P sc:=⟨a,b,c,d,e,f,g⟩
theorem Ds {N:List Str}{sc scope:Scope}{capN:List Str}{cap:List Nat}(a:autoParam (scope.kind = .function) η)(b:autoParam (∀ y ∈ scope.names,y.2 ≠ .cell) ξ)(c:autoParam (∀ y ∈ scope.names,y.2 = .local->scope.names.lookup y.1=some .local) ξ)(d:autoParam (∀ y ∈ scope.names,y.2 = .free->sc.names.lookup y.1=some .cell∨sc.names.lookup y.1=some .free) ξ)(e:autoParam (cap.length=capN.length) η)(f:autoParam (∀ p ∈ capN.zip cap,scope.names.lookup p.1=some .free/\N[p.2]? = some p.1) ξ):BU N sc scope capN cap:=⟨a,b,c,d,e,f⟩
end L2
namespace K25
open PySem L2
variable {P:Program}{w:World}{K:Frag}{mg:Str->Option Value}{base:Heap}
noncomputable def top (i:Nat):Stmt:=PySem.Challenge.pw_wormyard_k25_whole_made_tables.main.body.getD i (.Pass ⟨0,0,0,0⟩)
abbrev xk:Stmt:=top 1
abbrev uT:Stmt:=top 2
abbrev ze:Stmt:=top 3
abbrev gm:Stmt:=top 10
abbrev jm:Stmt:=top 11
abbrev za:Stmt:=top 15
abbrev oF:Stmt:=bD (top 16) 0
abbrev qv:Stmt:=bD (top 16) 1
abbrev zh:Stmt:=bD (top 16) 2
abbrev uP:Stmt:=bD (top 16) 3
abbrev oE:Stmt:=bD (top 16) 4
abbrev OU:Stmt:=top 18
abbrev zc:Stmt:=bD (top 19) 0
abbrev mM:Stmt:=top 21
abbrev qB:Stmt:=top 22
abbrev qF:Stmt:=top 23
abbrev uS:Stmt:=top 24
abbrev mP:Stmt:=top 25
abbrev uU:Stmt:=top 26
abbrev jC:Stmt:=top 28
abbrev o9:Stmt:=top 29
abbrev uQ:Stmt:=top 30
abbrev jD:Stmt:=top 31
abbrev o8:Stmt:=top 32
abbrev oB:Stmt:=top 33
abbrev qx:Stmt:=top 35
abbrev zi:Stmt:=top 36
abbrev o7:Stmt:=top 37
abbrev OV:Stmt:=bD (top 38) 0
abbrev qr:Stmt:=bD (top 38) 1
abbrev q0:Stmt:=bD (top 38) 2
abbrev oA:Stmt:=bD (top 39) 0
abbrev qu:Stmt:=bD (top 39) 1
abbrev uO:Stmt:=top 40
abbrev zb:Stmt:=top 41
abbrev uN:Stmt:=bD (top 42) 0
abbrev qq:Stmt:=bD (top 42) 1
abbrev qE:Stmt:=bD (top 42) 2
abbrev zg:Stmt:=top 43
abbrev Kh:Stmt:=top 44
abbrev uR:Stmt:=bD (top 45) 0
abbrev qt:Stmt:=bD (top 45) 1
abbrev o5:Stmt:=top 47
abbrev zd:Stmt:=top 48
abbrev uM:Stmt:=top 49
abbrev qz:Stmt:=top 50
abbrev q5:Stmt:=top 51
abbrev qC:Stmt:=top 52
abbrev uV:Stmt:=top 54
abbrev zf:Stmt:=top 55
abbrev qD:Stmt:=top 56
abbrev qw:Stmt:=top 57
abbrev oC:Stmt:=top 58
abbrev mL:Stmt:=top 59
abbrev qy:Stmt:=top 60
abbrev qA:Stmt:=top 61
abbrev mO:Stmt:=top 62
structure eX (mg:Str->Option Value):Prop where
 Ic:mg "isinstance" = none
 int:mg "int" = none
 bool:mg "bool" = none
 len:mg "len" = none
 enum:mg "enumerate" = none
 tuple:mg "tuple" = none
 range:mg "range" = none
 list:mg "list" = none
 all:mg "all" = none
 min:mg "min" = none
 OW:mg "reversed" = none
 zip:mg "zip" = none
 sorted:mg "sorted" = none
noncomputable def Mw (H:Hp)(v:V)(p:Int × Int):Prop:=∃ t,v = .ref t/\H t=some (.tup [.int p.1, .int p.2])
abbrev AX (H:Hp):List V->List (Int × Int)->Prop:=Paired (Mw H)
theorem AX.same {H H':Hp}(h:AI H H'):∀ {vs:List V}{ps:List (Int × Int)},AX H vs ps->AX H' vs ps:=fun AL=>by
 induction AL with
 | nil=>exact .nil
 | cons zz r ih=>obtain⟨t,e,q⟩:=zz;exact .cons ⟨t,e,h _ _ q⟩ ih
theorem AX.get {H:Hp}:∀ {vs:List V}{ps:List (Int × Int)}{i:Nat}{v:V},AX H vs ps->vs[i]? = some v->∃ p,ps[i]? = some p/\Mw H v p:=by
 intro _ _ i _ AL
 induction AL generalizing i with
 | nil=>intro h;cases h
 | cons x r ih =>
  intro h
  cases i with
  | zero=>cases h;exact⟨_,rfl,x⟩
  | succ i=>exact ih (i:=i) h
theorem AX.Ki {H:Hp}:∀ {vs:List V}{ps:List (Int × Int)}{i:Nat}{p:Int × Int},AX H vs ps->ps[i]? = some p->∃ v,vs[i]? = some v/\Mw H v p:=by
 intro _ _ i _ AL
 induction AL generalizing i with
 | nil=>intro h;cases h
 | cons x r ih =>
  intro h
  cases i with
  | zero=>cases h;exact⟨_,rfl,x⟩
  | succ i=>exact ih (i:=i) h
theorem AX.snoc {H:Hp}{v:V}{p:Int × Int}(h:Mw H v p):∀ {vs:List V}{ps:List (Int × Int)},AX H vs ps->AX H (vs ++ [v]) (ps ++ [p]):=fun AL=>by
 induction AL with
 | nil=>exact .cons h .nil
 | cons q r ih=>exact .cons q ih
noncomputable def ie (n:Int)(p:Int × Int):Bool:=decide (0 <= p.1/\p.1 <= n - 1) && (decide (0 <= p.2/\p.2 <= n - 1) && !decide (p.1=p.2))
noncomputable def m6:Sp:=fun vs H Q _=>∃ i:Int,vs=[.int i]/\Q (.bl true) H
noncomputable def dZ:Sp:=fun vs H Q _=>∃ i a b:Int,vs=[.int i, .int a, .int b]/\Q (.bl (decide (a <= i/\i <= b))) H
noncomputable def u7:Sp:=fun vs H Q _=>∃ n a b:Int,vs=[.int n, .int a, .int b]/\Q (.bl (ie n (a,b))) H
theorem rO:ar ["value"] ["value"] (aj gm):=L2.Bl
theorem oO {f:Addr}{fd:FuncData}(F:Bj K "is_whole" "is_whole" gm f fd)(T:eX mg):AJ P w K mg base aC 1 f fd ["value"] m6:=by
 refine F.ok rO (fun vs H Q E h=>?_) (fun Bb A outer s H vs Q E hr h=>?_)
 ·obtain⟨m,rfl,_⟩:=h
  rfl
 ·obtain⟨i,rfl,q⟩:=h
  refine⟨_,ag (ap (ck (aE pG rfl T.Ic PyProof.Rows.boot_isinstance (aa (pv 0) (aa (gY (v := .ty "int") rfl T.int PySem.Pv.boot_int rfl) ae)))
   (dR (vi (aE pG rfl T.Ic PyProof.Rows.boot_isinstance (aa (pv 0) (aa (gY (v := .ty "bool") rfl T.bool PySem.Pv.boot_bool rfl) ae))))))),?_⟩
  refine⟨_,rfl, .inl ⟨i,rfl,true,rfl,?_⟩⟩
  refine aI ?_
  exact⟨_,rfl, .inr (.inl ⟨i,rfl,false,rfl,q⟩)⟩
theorem oz:ar ["value", "least", "most"] ["value", "least", "most"] (aj jm):=L2.Bl
theorem t6 {f fh:Addr}{fd CZ:FuncData}(F:Bj K "is_within" "is_within" jm f fd)(T:eX mg)(mh:mg "is_whole" = some (.ref fh))(Fh:Bj K "is_whole" "is_whole" gm fh CZ)(bh:Binds K CZ ["value"] []) :
  AJ P w K mg base aC 2 f fd ["value", "least", "most"] dZ:=by
 have G:AJ P w K mg base aC 1 fh CZ ["value"] m6:=oO Fh T
 refine F.ok oz (fun vs H Q E h=>?_) (fun Bb A outer s H vs Q E hr h=>?_)
 ·obtain⟨i,a,b,rfl,_⟩:=h
  rfl
 ·obtain⟨i,a,b,rfl,q⟩:=h
  refine⟨_,ag (ap (ck (aq G hr rfl mh Fh.kp bh .nil ax (aa (pv 0) ae)) (dR (oM jY jY (pv 1) (pv 0) (pv 2))))),?_⟩
  refine⟨_,rfl,i,rfl,true,rfl,aI ?_⟩
  refine⟨_,rfl,_,rfl,_,_,rfl,rfl,_,rfl,?_⟩
  by_cases h1:a <= i
  ·rw[decide_eq_true h1]
   refine aI ⟨_,rfl,_,_,rfl,rfl,?_⟩
   show Q (V.bl (decide (i <= b))) H
   by_cases h2:i <= b
   ·rw[decide_eq_true h2];rw[decide_eq_true ⟨h1,h2⟩]at q;exact q
   ·rw[decide_eq_false h2];rw[decide_eq_false fun z=>h2 z.2]at q;exact q
  ·rw[decide_eq_false h1]
   refine aH ?_
   rw[decide_eq_false fun z=>h1 z.1]at q;exact q
theorem GB:ar ["places", "one", "other", "last"] ["places", "one", "other"] (aj za):=L2.Bl
theorem zH {f fh:Addr}{fd CZ:FuncData}(F:Bj K "are_two_places" "are_two_places" za f fd)(mh:mg "is_within" = some (.ref fh))(kh:keepIn K (.ref fh)=true)(bh:Binds K CZ ["value", "least", "most"] [])
  (G:AJ P w K mg base aC 2 fh CZ ["value", "least", "most"] dZ) :
  AJ P w K mg base aC 3 f fd ["places", "one", "other"] u7:=by
 refine F.ok GB (fun vs H Q E h=>?_) (fun Bb A outer s H vs Q E hr h=>?_)
 ·obtain⟨i,a,b,rfl,_⟩:=h
  rfl
 ·obtain⟨n,a,b,rfl,q⟩:=h
  refine⟨_,af (au (i:=3) GB.nd rfl (Or.inl rfl) (az c8 (pv 0) am))
   (ag (ap (ck (aq G hr rfl mh kh bh .nil ax (aa (pv 1) (aa am (aa (pv 3) ae))))
    (ck (aq G hr rfl mh kh bh .nil ax (aa (pv 2) (aa am (aa (pv 3) ae)))) (dR (bY eV (pv 1) (pv 2) (a9 _))))))),?_⟩
  refine⟨_,rfl,_,_,rfl,rfl,?_⟩
  refine⟨_,rfl,_,rfl,a,0,n - 1,rfl,_,rfl,?_⟩
  unfold ie at q
  dsimp only at q
  by_cases h1:0 <= a/\a <= n - 1
  ·rw[decide_eq_true h1]at q ⊢
   rw[Bool.true_and]at q
   refine aI ⟨_,rfl,_,rfl,b,0,n - 1,rfl,_,rfl,?_⟩
   by_cases h2:0 <= b/\b <= n - 1
   ·rw[decide_eq_true h2]at q ⊢
    rw[Bool.true_and]at q
    refine aI ⟨_,rfl,_,rfl,rfl,?_⟩
    have e:decide (V.int a=V.int b)=decide (a=b):=by
     by_cases h:a=b
     ·rw[h];simp
     ·rw[decide_eq_false h,decide_eq_false fun z=>h (by injection z)]
    show Q (V.bl (!decide (V.int a=V.int b))) H
    rw[e];exact q
   ·rw[decide_eq_false h2]at q ⊢
    exact aH q
  ·rw[decide_eq_false h1]at q ⊢
   exact aH q
end K25
namespace L2
open PySem
end L2
namespace K25
open PySem L2
variable {P:Program}{w:World}{K:Frag}{mg:Str->Option Value}{base:Heap}
inductive Due | places | many (k:Nat) | Et (k:Nat) | good
noncomputable def pJ (n:Int)(ps:List (Int × Int)):Option Nat:=ps.findIdx? fun p=>!ie n p
noncomputable def cQ (n:Int)(ps:List (Int × Int)):Due:=if decide (1 <= n/\n <= 12)=false then .places else if 40 < ps.length then .many ps.length else match pJ n ps with | some k => .Et k | none => .good
structure Cs where
 land:Addr
noncomputable def bv (H:Hp)(c:Cs)(x dx t:Addr)(n:Int)(AK:List V)(ps:List (Int × Int)):Prop:=H x=some (.ins c.land dx [("places", .int n),("lanes", .ref t)])/\H t=some (.tup AK)/\AX H AK ps
noncomputable def iA (K:Frag)(c:Cs):Sp:=fun vs H Q E=>∃ x dx n p AY ps,vs=[.ref x, .int n, .ref p]/\H x=some (.ins c.land dx [])/\AQ K H p AY/\AX H AY ps/\AY.length <= 1000 /\
 (cQ n ps = .places->False) /\
 (∀ k,cQ n ps = .many k->False) /\
 (∀ k,cQ n ps = .Et k->False) /\
 (cQ n ps = .good->∀ H' t AK,(∀ b o,b ≠ x->H b=some o->H' b=some o)->bv H' c x dx t n AK ps->Q .AZ H')
noncomputable def uz (s:Stmt):Scope:=match s with
 | .Assign _ (.Call _ [.ListComp _ _ sc _] _ _) _=>sc
 | _=>zQ0
noncomputable def jG (s:Stmt):Scope:=match aP s with
 | .Return (some (.ListComp _ _ sc _)) _ :: _=>sc
 | _=>zQ0
abbrev NI:List Str:=["self", "places", "lanes", "lane", "pair"]
structure li (K:Frag)(c:Cs):Prop where
 cl:C8 K c.land
 np:AW K c.land "places"
 nl:AW K c.land "lanes"
theorem dG {n:Int}{ps:List (Int × Int)}(h:∀ p ∈ ps,ie n p=true):pJ n ps=none:=by
 unfold pJ
 rw[List.findIdx?_eq_none_iff]
 intro p hp
 rw[h p hp];rfl
theorem rq {n:Int}{ps:List (Int × Int)}{i:Nat}{p:Int × Int}(h:∀ q ∈ ps.take i,ie n q=true)(hi:ps[i]? = some p)(hb:ie n p=false):pJ n ps=some i:=by
 unfold pJ
 rw[List.findIdx?_eq_some_iff_getElem]
 obtain⟨AV,e⟩:=List.getElem?_eq_some_iff.mp hi
 refine⟨AV,by rw[e,hb];rfl,fun j hj=>?_⟩
 have hm:ps[j]'(Nat.lt_trans hj AV) ∈ ps.take i:=List.mem_take_iff_getElem.mpr ⟨j,by omega,rfl⟩
 rw[h _ hm];simp
noncomputable def Off (x:Addr)(H H':Hp):Prop:=∀ b o,b ≠ x->H b=some o->H' b=some o
theorem Off.sq {K:Frag}{H H':Hp}{x p C dx:Addr}{fs:List (Str × V)}{xs:List V}(o:Off x H H')(hx:H x=some (.ins C dx fs))(h:AQ K H p xs):AQ K H' p xs:=by
 rcases h with (h | ⟨ob,h⟩) | h
 ·exact .inl (.inl (o _ _ (fB h hx (by intro z;cases z)) h))
 ·exact .inl (.inr ⟨ob,o _ _ (fB h hx (by intro z;cases z)) h⟩)
 ·exact .inr h
theorem Off.OX {H H':Hp}{x C dx:Addr}{fs:List (Str × V)}(o:Off x H H')(hx:H x=some (.ins C dx fs)):∀ {vs:List V}{ps:List (Int × Int)},AX H vs ps->AX H' vs ps:=fun AL=>by
 induction AL with
 | nil=>exact .nil
 | cons zz r ih=>obtain⟨t,e,q⟩:=zz;exact .cons ⟨t,e,o _ _ (fB q hx (by intro z;cases z)) q⟩ ih
theorem Off.same {H H1 H2:Hp}{x:Addr}(a:Off x H H1)(b:AI H1 H2):Off x H H2:=fun c o n e=>b _ _ (a c o n e)
theorem DM:ar NI ["self", "places", "lanes"] (aj oF):=L2.Bl
theorem Aw:BU NI (aj oF) (uz ((aP oF).getD 4 (.Pass ⟨0,0,0,0⟩))) [] []:=L2.Ds
theorem zW:(["pair"]:List Str).Nodup:=by decide +kernel
theorem xN {c:Cs}{f fw ft:Addr}{fd dw dt:FuncData}{t1 t2:Tok}(F:Bj K "__init__" "Land.__init__" oF f fd)(T:eX mg)(L:li K c)
  (mw:mg "is_within" = some (.ref fw)) (kw:keepIn K (.ref fw)=true) (bw:Binds K dw ["value", "least", "most"] []) (Gw:AJ P w K mg base aC 2 fw dw ["value", "least", "most"] dZ)
  (mt:mg "are_two_places" = some (.ref ft)) (kt:keepIn K (.ref ft)=true) (bt:Binds K dt ["places", "one", "other"] []) (Gt:AJ P w K mg base aC 3 ft dt ["places", "one", "other"] u7)
  (mp:mg "MOST_PLACES" = some (.int 12 t1)) (ml:mg "MOST_LANES" = some (.int 40 t2)) :
  AJ P w K mg base aC 4 f fd ["self", "places", "lanes"] (iA K c):=by
 refine F.ok DM (fun vs H Q E h=>?_) (fun Bb A outer s H vs Q E hr h=>?_)
 ·obtain⟨x,dx,n,p,AY,ps,rfl,_⟩:=h
  rfl
 ·obtain⟨x,dx,n,p,AY,ps,rfl,hx,hp,hl,hlen,h1,h2,h3,h4⟩:=h
  have Cy:AU 2 _:=hr.mono (by decide)
  refine⟨_,af (aL (dj (cz (aq Gw Cy rfl mw kw bw .nil ax (aa (pv 1) (aa am (aa (cC (v := .int 12) rfl mp ⟨_,rfl⟩) ae))))))
    (ag eu) aA)
   (af (aL (ay vt (aE aD rfl T.len PySem.boot_len (aa (pv 2) ae)) (cC (v := .int 40) rfl ml ⟨_,rfl⟩) (a9 _))
    (ag eu) aA)
   (af (aK PassesOwn.never rfl (gW rfl T.enum (aa (pv 2) ae)) (c7 rfl (aG (ao (i:=3) DM.nd rfl (Or.inl rfl)) (aG (ao (i:=4) DM.nd rfl (Or.inl rfl)) bW)))
    (ag (aL (dj (cz (aq Gt hr rfl mt kt bt .nil ax (aa (pv 1) (aa (aU Bd (pv 4) am (fun _ _=>rfl)) (aa (aU Bd (pv 4) am (fun _ _=>rfl)) ae))))))
     (ag eu) aA)))
   (af (gr (pv 0) (pv 1) rfl)
   (ag (gr (pv 0) (cU cf rfl T.tuple PySem.Pv.boot_tuple (aa (bX (own:=["pair"]) (capN:=[]) (cap:=[]) Aw rfl (bB (pv 2))
    (fun C s' H' fp=>⟨ao (i:=0) zW rfl (Or.inl rfl),cx,bu (aa (aU (show D7 _ (sZ K) from Bd) (pv 0) am (fun _ _=>rfl)) (aa (aU (show D7 _ (sZ K) from Bd) (pv 0) am (fun _ _=>rfl)) ae))⟩)) ae)) rfl))))),?_⟩
  refine⟨_,rfl,n,1,12,rfl,_,rfl,?_⟩
  by_cases hn:1 <= n/\n <= 12
  rotate_left
  ·rw[decide_eq_false hn]
   exact aI (h1 (by unfold cQ;rw[if_pos (decide_eq_false hn)]))
  rw[decide_eq_true hn]
  refine aH ?_
  have GC:AY.length=ps.length:=Paired.length hl
  refine⟨_,rfl,p,_,rfl, .inl hp,_,_,rfl,rfl,_,rfl,?_⟩
  by_cases hm:40 < ps.length
  ·rw[decide_eq_true (show (40:Int) < (AY.length:Nat) by omega)]
   refine aI (h2 ps.length ?_)
   unfold cQ
   rw[decide_eq_true hn,if_neg (by decide),if_pos hm]
  rw[decide_eq_false (show ¬ (40:Int) < (AY.length:Nat) by omega)]
  refine aH ?_
  refine⟨_,rfl,p,rfl,⟨_,hp⟩,fI (sq:=fun H=>AQ K H p) (xs:=AY) (fun i σ H2=>∃ a b:Option V,AI H H2/\σ=[some (.ref x),some (.int n),some (.ref p),a,b]/\∀ q ∈ ps.take i,ie n q=true)
   ⟨none,none,AI.refl H,rfl,fun q hq=>by simp at hq⟩ (fun i σ H2 _ AL=>by obtain⟨a,b,s2,_⟩:=AL;exact s2.seq hp) ?_ ?_⟩
  ·rintro i v q σ H2 hv ⟨a,b,s2,rfl,BC⟩ hq
   obtain⟨pr,Fj,t,rfl,ht⟩:=AX.get hl hv
   have s3:AI H (aw H2 q (.tup [.int i, .ref t])):=s2.new hq
   refine⟨q,_,rfl,Ba.of ad,rfl,_,_,rfl,_,_,rfl,rfl,?_⟩
   have GZ:Ba K (aw H2 q (.tup [.int i, .ref t])) t [.int pr.1, .int pr.2]:=Ba.of (s3 _ _ ht)
   refine⟨_,rfl,_,rfl,t,_,0,_,rfl,rfl,GZ,aJ (j:=0) rfl,?_⟩
   refine⟨_,rfl,t,_,1,_,rfl,rfl,GZ,aJ (j:=1) rfl,n,pr.1,pr.2,rfl,_,rfl,?_⟩
   cases ho:ie n (pr.1,pr.2) with
   | true =>
    refine aH ⟨some (.int i),some (.ref t),s3,rfl,fun z hz=>?_⟩
    rw[take_succ,Fj]at hz
    rcases mem_append.mp hz with hz | hz
    ·exact BC z hz
    ·have:z=pr:=by simpa using hz
     rw[this];exact ho
   | false =>
    refine aI (h3 i ?_)
    unfold cQ
    rw[decide_eq_true hn,if_neg (by decide),if_neg hm,rq BC Fj ho]
  ·rintro σ H2 ⟨a,b,s2,rfl,BC⟩
   have Kj:cQ n ps = .good:=by
    unfold cQ
    rw[decide_eq_true hn,if_neg (by decide),if_neg hm,dG (fun z hz=>BC z (by rw[GC,take_length];exact hz))]
   have Ib:=s2 _ _ hx
   refine⟨_,rfl,_,rfl,x,c.land,dx,_,rfl,Ib,L.cl,L.np,by show 0 < 1000;decide,?_⟩
   generalize Si:aw H2 x (.ins c.land dx (dQ "places" (.int n) []))=H3
   have o3:Off x H H3:=fun b o hb e=>by rw[← Si,ai hb];exact s2 _ _ e
   have x3:H3 x=some (.ins c.land dx [("places", .int n)]):=by rw[← Si,ad];rfl
   have l3:AX H3 AY ps:=o3.OX hx hl
   have p3:AQ K H3 p AY:=o3.sq hx hp
   refine⟨_,rfl,p,rfl,⟨_,p3⟩,bI AY.length (by rw[sizeLine_eq];omega) (fun i acc H4=>AI H3 H4/\acc.length=i/\AX H4 acc (ps.take i)) ⟨AI.refl _,rfl, .nil⟩ (fun i acc H4 h=>le_of_eq h.2.1) ?_ ?_⟩
   ·rintro i acc H4 hi ⟨s4,ha,hA⟩
    have q4:=s4.seq p3
    refine⟨⟨AY,AY[i],q4,by simp[hi]⟩,fun y H5 ⟨e5,hy⟩=>?_⟩
    subst e5
    have hy:=hy AY q4
    obtain⟨pr,Fj,t,rfl,ht⟩:=AX.get l3 hy
    have GZ:Ba K H5 t [.int pr.1, .int pr.2]:=Ba.of (s4 _ _ ht)
    refine⟨_,rfl,t,_,0,_,rfl,rfl,GZ,aJ (j:=0) rfl,?_⟩
    refine⟨_,rfl,t,_,1,_,rfl,rfl,GZ,aJ (j:=1) rfl,by show 2 <= sizeLine;decide,fun r HV=>?_⟩
    refine⟨s4.new HV,by rw[length_append,ha];rfl,?_⟩
    rw[take_succ,Fj]
    exact AX.snoc ⟨r,rfl,ad⟩ (AX.same (AI.new (AI.refl _) HV) hA)
   ·rintro acc H4 ⟨s4,ha,hA⟩
    have q4:=s4.seq p3
    refine⟨⟨AY,q4,Nat.le_refl _⟩,fun D hD=>?_⟩
    have s5:AI H3 (aw H4 D (.lst acc)):=s4.new hD
    refine⟨D,acc,rfl, .inl ⟨AQ.of ad,fun t ht=>?_⟩⟩
    have s6:AI H3 (aw (aw H4 D (.lst acc)) t (.tup acc)):=s5.new ht
    have x6:=s6 _ _ x3
    refine⟨_,rfl,x,c.land,dx,_,rfl,x6,L.cl,L.nl,by show 1 < 1000;decide,?_⟩
    have htx:t ≠ x:=fun z=>by rw[z,s5 _ _ x3]at ht;cases ht
    refine h4 Kj _ t acc (fun b o hb e=>?_) ⟨by rw[ad];rfl,by rw[ai htx,ad],?_⟩
    ·rw[ai hb];exact s6 _ _ (o3 b o hb e)
    ·have hA':AX H4 acc ps:=by rw[GC,take_length]at hA;exact hA
     have x4:=s4 _ _ x3
     have EB:AX (aw (aw H4 D (.lst acc)) t (.tup acc)) acc ps:=AX.same (AI.new (AI.new (AI.refl _) hD) ht) hA'
     exact Off.OX (x:=x) (fun b o hb e=>by rw[ai hb];exact e) x6 EB
noncomputable def mH (c:Cs)(sel:Int × Int->Int):Sp:=fun vs H Q _=>∃ (x dx t:Addr)(n:Int)(AK:List V)(ps:List (Int × Int))(k:Nat)(pr:Int × Int),vs=[.ref x, .int k]/\bv H c x dx t n AK ps/\ps[k]? = some pr/\Q (.int (sel pr)) H
noncomputable def tP (sel:Int × Int->Int)(ps:List (Int × Int))(pl:Int)(m:Nat):List V:=((List.range m).filter fun k=>decide (sel (ps.getD k (0,0))=pl)).map fun k:Nat=>V.int k
noncomputable def xc (c:Cs)(sel:Int × Int->Int):Sp:=fun vs H Q _=>∃ (x dx t:Addr)(n:Int)(AK:List V)(ps:List (Int × Int))(pl:Int),vs=[.ref x, .int pl]/\bv H c x dx t n AK ps/\ps.length <= 1000 /\
 ∀ H' D,AI H H'->H' D=none->Q (.ref D) (aw H' D (.lst (tP sel ps pl ps.length)))
theorem pe {sel:Int × Int->Int}{ps:List (Int × Int)}{pl:Int}{i:Nat}{pr:Int × Int}(h:ps[i]? = some pr):tP sel ps pl (i + 1)=if decide (sel pr=pl) then tP sel ps pl i ++ [V.int i] else tP sel ps pl i:=by
 have e:ps.getD i (0,0)=pr:=by rw[getD_eq_getElem?_getD,h];rfl
 unfold tP
 rw[range_succ,filter_append]
 by_cases hs:sel pr=pl
 ·rw[if_pos (decide_eq_true hs),filter_cons_of_pos (by rw[e];exact decide_eq_true hs)];simp
 ·rw[if_neg (by rw[decide_eq_false hs];decide),filter_cons_of_neg (by rw[e,decide_eq_false hs];decide)];simp
theorem su {sel:Int × Int->Int}{ps:List (Int × Int)}{pl:Int}{i:Nat}:(tP sel ps pl i).length <= i:=by
 unfold tP
 rw[length_map]
 have:=length_filter_le (fun k=>decide (sel (ps.getD k (0,0))=pl)) (List.range i)
 rwa [length_range]at this
theorem xj:ar ["self", "lane"] ["self", "lane"] (aj qv):=L2.Bl
theorem Kk:ar ["self", "lane"] ["self", "lane"] (aj zh):=L2.Bl
theorem v6 {c:Cs}{f:Addr}{fd:FuncData}(F:Bj K "start_of" "Land.start_of" qv f fd)(L:li K c):AJ P w K mg base aC 1 f fd ["self", "lane"] (mH c Prod.fst):=by
 refine F.ok xj (fun vs H Q E h=>?_) (fun Bb A outer s H vs Q E hr h=>?_)
 ·obtain⟨x,dx,t,n,AK,ps,k,pr,rfl,_⟩:=h
  rfl
 ·obtain⟨x,dx,t,n,AK,ps,k,pr,rfl,⟨hx,ht,hl⟩,hk,q⟩:=h
  refine⟨_,ag (ap (aU Bd (aU Bd (aF (pv 0) rfl) (pv 1) (fun _ _=>rfl)) am (fun _ _=>rfl))),?_⟩
  obtain⟨v,hv,u,rfl,hu⟩:=AX.Ki hl hk
  refine⟨_,rfl,x,c.land,dx,_,_,rfl,hx,L.cl,L.nl,rfl,_,rfl,t,_,_,_,rfl,rfl,Ba.of ht,aJ hv,u,_,0,_,rfl,rfl,Ba.of hu,aJ (j:=0) rfl,q⟩
theorem zT {c:Cs}{f:Addr}{fd:FuncData}(F:Bj K "end_of" "Land.end_of" zh f fd)(L:li K c):AJ P w K mg base aC 1 f fd ["self", "lane"] (mH c Prod.snd):=by
 refine F.ok Kk (fun vs H Q E h=>?_) (fun Bb A outer s H vs Q E hr h=>?_)
 ·obtain⟨x,dx,t,n,AK,ps,k,pr,rfl,_⟩:=h
  rfl
 ·obtain⟨x,dx,t,n,AK,ps,k,pr,rfl,⟨hx,ht,hl⟩,hk,q⟩:=h
  refine⟨_,ag (ap (aU Bd (aU Bd (aF (pv 0) rfl) (pv 1) (fun _ _=>rfl)) am (fun _ _=>rfl))),?_⟩
  obtain⟨v,hv,u,rfl,hu⟩:=AX.Ki hl hk
  refine⟨_,rfl,x,c.land,dx,_,_,rfl,hx,L.cl,L.nl,rfl,_,rfl,t,_,_,_,rfl,rfl,Ba.of ht,aJ hv,u,_,1,_,rfl,rfl,Ba.of hu,aJ (j:=1) rfl,q⟩
theorem Kl:ar ["self", "place"] ["self", "place"] (aj uP):=L2.Bl
theorem Km:BU ["self", "place"] (aj uP) (jG uP) ["place"] [1]:=L2.Ds
theorem yY:ar ["self", "place"] ["self", "place"] (aj oE):=L2.Bl
theorem Av:BU ["self", "place"] (aj oE) (jG oE) ["place"] [1]:=L2.Ds
theorem si:(["lane", "pair", "place"]:List Str).Nodup:=by decide +kernel
theorem cA (a b:Int):decide (V.int a=V.int b)=decide (a=b):=by
 by_cases h:a=b
 ·rw[h];simp
 ·rw[decide_eq_false h,decide_eq_false fun z=>h (by injection z)]
theorem zN {c:Cs}{f:Addr}{fd:FuncData}(F:Bj K "out_of" "Land.out_of" uP f fd)(T:eX mg)(L:li K c):AJ P w K mg base aC 1 f fd ["self", "place"] (xc c Prod.fst):=by
 refine F.ok Kl (fun vs H Q E h=>?_) (fun Bb A outer s H vs Q E hr h=>?_)
 ·obtain⟨x,dx,t,n,AK,ps,pl,rfl,_⟩:=h
  rfl
 ·obtain⟨x,dx,t,n,AK,ps,pl,rfl,⟨hx,ht,hl⟩,hlen,q⟩:=h
  refine⟨_,ag (ap (bX (own:=["lane", "pair"]) (capN:=["place"]) (cap:=[1]) Km rfl (gQ rfl T.enum (aa (aF (pv 0) rfl) ae))
   (fun C s' H' fp=>⟨(show PG _ _ (wu K 2 _) from c7 rfl (aG (ao (i:=0) si rfl (Or.inl rfl)) (aG (ao (i:=1) si rfl (Or.inl rfl)) bW))),
    fP (ay cH (aU (show D7 _ (sZ K) from Bd) (pv 1) am (fun _ _=>rfl)) (pv 2) (a9 _)),pv 0⟩))),?_⟩
  have GC:AK.length=ps.length:=Paired.length hl
  refine⟨_,rfl,x,c.land,dx,_,_,rfl,hx,L.cl,L.nl,rfl,t,rfl,⟨_,Ba.of ht⟩,bI ps.length (by rw[sizeLine_eq];omega) (fun i acc H4=>AI H H4/\acc=tP Prod.fst ps pl i) ⟨AI.refl _,rfl⟩ (fun i acc H4 h=>by rw[h.2];exact su) ?_ ?_⟩
  ·rintro i acc H4 hi ⟨s4,rfl⟩
   have q4:Ba K H4 t AK:=Ba.of (s4 _ _ ht)
   refine⟨⟨AK,AK[i]'(by omega),q4,by simp[GC,hi]⟩,fun y H5 ⟨r,Eb,ey,h5⟩=>?_⟩
   obtain⟨v,hv,rfl⟩:=h5 AK q4
   subst ey
   obtain⟨pr,Fj,u,rfl,hu⟩:=AX.get hl hv
   have s5:AI H (aw H4 r (.tup [.int i, .ref u])):=s4.new Eb
   refine⟨r,_,rfl,Ba.of ad,rfl,_,_,rfl,_,_,rfl,rfl,?_⟩
   refine⟨_,rfl,u,_,0,_,rfl,rfl,Ba.of (s5 _ _ hu),aJ (j:=0) rfl,_,rfl,rfl,_,rfl,?_⟩
   rw[cA,pe Fj]
   cases hd:decide (pr.1=pl) with
   | true=>exact aI ⟨_,rfl,s5,by simp[hd]⟩
   | false=>exact aH ⟨s5,by simp[hd]⟩
  ·rintro acc H4 ⟨s4,rfl⟩
   exact⟨⟨AK,Ba.of (s4 _ _ ht),GC⟩,fun D hD=>q H4 D s4 hD⟩
theorem xM {c:Cs}{f:Addr}{fd:FuncData}(F:Bj K "into" "Land.into" oE f fd)(T:eX mg)(L:li K c):AJ P w K mg base aC 1 f fd ["self", "place"] (xc c Prod.snd):=by
 refine F.ok yY (fun vs H Q E h=>?_) (fun Bb A outer s H vs Q E hr h=>?_)
 ·obtain⟨x,dx,t,n,AK,ps,pl,rfl,_⟩:=h
  rfl
 ·obtain⟨x,dx,t,n,AK,ps,pl,rfl,⟨hx,ht,hl⟩,hlen,q⟩:=h
  refine⟨_,ag (ap (bX (own:=["lane", "pair"]) (capN:=["place"]) (cap:=[1]) Av rfl (gQ rfl T.enum (aa (aF (pv 0) rfl) ae))
   (fun C s' H' fp=>⟨(show PG _ _ (wu K 2 _) from c7 rfl (aG (ao (i:=0) si rfl (Or.inl rfl)) (aG (ao (i:=1) si rfl (Or.inl rfl)) bW))),
    fP (ay cH (aU (show D7 _ (sZ K) from Bd) (pv 1) am (fun _ _=>rfl)) (pv 2) (a9 _)),pv 0⟩))),?_⟩
  have GC:AK.length=ps.length:=Paired.length hl
  refine⟨_,rfl,x,c.land,dx,_,_,rfl,hx,L.cl,L.nl,rfl,t,rfl,⟨_,Ba.of ht⟩,bI ps.length (by rw[sizeLine_eq];omega) (fun i acc H4=>AI H H4/\acc=tP Prod.snd ps pl i) ⟨AI.refl _,rfl⟩ (fun i acc H4 h=>by rw[h.2];exact su) ?_ ?_⟩
  ·rintro i acc H4 hi ⟨s4,rfl⟩
   have q4:Ba K H4 t AK:=Ba.of (s4 _ _ ht)
   refine⟨⟨AK,AK[i]'(by omega),q4,by simp[GC,hi]⟩,fun y H5 ⟨r,Eb,ey,h5⟩=>?_⟩
   obtain⟨v,hv,rfl⟩:=h5 AK q4
   subst ey
   obtain⟨pr,Fj,u,rfl,hu⟩:=AX.get hl hv
   have s5:AI H (aw H4 r (.tup [.int i, .ref u])):=s4.new Eb
   refine⟨r,_,rfl,Ba.of ad,rfl,_,_,rfl,_,_,rfl,rfl,?_⟩
   refine⟨_,rfl,u,_,1,_,rfl,rfl,Ba.of (s5 _ _ hu),aJ (j:=1) rfl,_,rfl,rfl,_,rfl,?_⟩
   rw[cA,pe Fj]
   cases hd:decide (pr.2=pl) with
   | true=>exact aI ⟨_,rfl,s5,by simp[hd]⟩
   | false=>exact aH ⟨s5,by simp[hd]⟩
  ·rintro acc H4 ⟨s4,rfl⟩
   exact⟨⟨AK,Ba.of (s4 _ _ ht),GC⟩,fun D hD=>q H4 D s4 hD⟩
noncomputable def uF:Sp:=fun vs H Q _=>∃ m k:Nat,vs=[.int m, .int k]/\Q (.bl (m.testBit k)) H
noncomputable def cJ (m:Nat):List V:=(Yd.Cd m (Builtin.Int.intBits (m:Int))).map fun k:Nat=>V.int k
noncomputable def lz:Sp:=fun vs H Q _=>∃ m:Nat,vs=[.int m]/\m < 2 ^ 400/\∀ p,H p=none->Q (.ref p) (aw H p (.lst (cJ m)))
noncomputable def uA (K:Frag):Sp:=fun vs H Q _=>∃ (a:Addr)(ks:List Nat),vs=[.ref a]/\AQ K H a (ks.map fun k:Nat=>V.int k)/\(∀ k ∈ ks,k <= 1000)/\Q (.int (Yd.Bk ks 0:Nat)) H
theorem Kn:ar ["some", "number"] ["some", "number"] (aj xk):=L2.Bl
theorem vE {f:Addr}{fd:FuncData}(F:Bj K "has" "has" xk f fd):AJ P w K mg base aC 1 f fd ["some", "number"] uF:=by
 refine F.ok Kn (fun vs H Q E h=>?_) (fun Bb A outer s H vs Q E hr h=>?_)
 ·obtain⟨m,k,rfl,_⟩:=h
  rfl
 ·obtain⟨m,k,rfl,q⟩:=h
  refine⟨_,ag (ap (ck (bY oN (pv 1) am (a9 _)) (dR (bY cH (az vy (az vq (pv 0) (pv 1)) am) am (a9 _))))),?_⟩
  refine⟨_,rfl,_,_,rfl,rfl,_,rfl,?_⟩
  rw[decide_eq_true (show (0:Int) <= (k:Int) by omega)]
  refine aI ?_
  refine⟨_,rfl,_,rfl,_,_,rfl,rfl,(show (0:Int) <= (k:Int) by omega),_,_,rfl,rfl,rfl,?_⟩
  have e:decide (V.int (Builtin.bitAnd ((m:Int) / 2 ^ (k:Int).toNat) 1)=V.int 1)=m.testBit k:=by
   rw[toNat_natCast,← Yd.F0 m k]
   by_cases h:Builtin.bitAnd ((m:Int) / 2 ^ k) 1=1
   ·rw[h];simp
   ·rw[decide_eq_false h,decide_eq_false fun z=>h (by injection z)]
  rw[e]
  exact q
theorem vS {ks:List Nat}{i:Nat}{x:V}(h:(ks.map fun k:Nat=>V.int k)[i]? = some x):∃ k,ks[i]? = some k/\x=V.int k:=by
 rw[getElem?_map]at h
 cases e:ks[i]? with
 | none=>rw[e]at h;cases h
 | some k=>rw[e]at h;exact⟨k,rfl,(Option.some.inj h).symm⟩
theorem Ec:ar ["numbers", "some", "number"] ["numbers"] (aj ze):=L2.Bl
theorem zL {f:Addr}{fd:FuncData}(F:Bj K "set_of" "set_of" ze f fd):AJ P w K mg base aC 1 f fd ["numbers"] (uA K):=by
 refine F.ok Ec (fun vs H Q E h=>?_) (fun Bb A outer s H vs Q E hr h=>?_)
 ·obtain⟨a,ks,rfl,_⟩:=h
  rfl
 ·obtain⟨a,ks,rfl,hS,hk,q⟩:=h
  refine⟨_,af (au (i:=1) Ec.nd rfl (Or.inl rfl) am)
   (af (aK PassesOwn.never rfl (bB (pv 0)) (ao (i:=2) Ec.nd rfl (Or.inl rfl))
    (ag (au (i:=1) Ec.nd rfl (Or.inl rfl) (az y6 (pv 1) (az qK am (pv 2))))))
   (ag (ap (pv 1)))),?_⟩
  refine⟨_,rfl,a,rfl,⟨_,hS⟩,bH (K:=K) (a:=a) (xs:=ks.map fun k:Nat=>V.int k) (fun i σ H2=>∃ v:Option V,H2=H/\σ=[some (.ref a),some (.int (Yd.Bk (ks.take i) 0:Nat)),v])
   ⟨none,rfl,rfl⟩ (fun i σ H2 _ AL=>by obtain⟨_,e,_⟩:=AL;rw[e];exact hS) ?_ ?_⟩
  ·rintro i x σ H2 hx ⟨v,rfl,rfl⟩
   obtain⟨k,ek,rfl⟩:=vS hx
   have Ko:=hk k (mem_of_getElem? ek)
   refine⟨_,rfl,_,rfl,_,_,rfl,rfl,⟨(show (0:Int) <= (k:Int) by omega),(show (k:Int) <= 1000000 by omega),(by decide)⟩,_,_,rfl,rfl,some (.int k),rfl,?_⟩
   have e:Builtin.bitOr ((Yd.Bk (ks.take i) 0:Nat):Int) (1 * 2 ^ (k:Int).toNat)=((Yd.Bk (ks.take (i + 1)) 0:Nat):Int):=by
    rw[take_succ,ek,toNat_natCast,one_mul,show (2:Int) ^ k=((2 ^ k:Nat):Int) by rw[natCast_pow];rfl,Yd.CG,Yd.EM]
    rfl
   show [some (V.ref a),some (V.int _),some (V.int k)]=_
   rw[e]
  ·rintro σ H2 ⟨v,rfl,rfl⟩
   refine⟨_,rfl,?_⟩
   rw[length_map,take_length]
   exact q
theorem Kp:ar ["some"] ["some"] (aj uT):=L2.Bl
theorem Kq:(["number", "some"]:List Str).Nodup:=by decide +kernel
theorem Kr:BU ["some"] (aj uT) (jG uT) ["some"] [0]:=L2.Ds
theorem zQ {f fh:Addr}{fd CZ:FuncData}(F:Bj K "members" "members" uT f fd)(T:eX mg)(mh:mg "has" = some (.ref fh))(Fh:Bj K "has" "has" xk fh CZ)(bh:Binds K CZ ["some", "number"] []):AJ P w K mg base aC 2 f fd ["some"] lz:=by
 have G:AJ P w K mg base aC 1 fh CZ ["some", "number"] uF:=vE Fh
 refine F.ok Kp (fun vs H Q E h=>?_) (fun Bb A outer s H vs Q E hr h=>?_)
 ·obtain⟨m,rfl,_⟩:=h
  rfl
 ·obtain⟨m,rfl,hm,q⟩:=h
  refine⟨_,ag (ap (bX (own:=["number"]) (capN:=["some"]) (cap:=[0]) Kr rfl
   (aR rfl T.range (aa (zy PySem.F.plainAttrs_int PySem.F.slot_int_bit_length PySem.F.type_int_bit_length xT (pv 0)) ae))
   (fun C s' H' fp=>⟨ao (i:=0) Kq rfl (Or.inl rfl),fP (cz (aq G hr rfl mh Fh.kp bh .nil ax (aa (pv 1) (aa (pv 0) ae)))),pv 0⟩))),?_⟩
  have hb:Builtin.Int.intBits (m:Int) <= 400:=Yd.bits_le hm
  refine⟨_,rfl,rfl,_,rfl,rfl,(Builtin.Int.intBits (m:Int):Nat),rfl,by omega,by omega,?_⟩
  rw[toNat_natCast]
  refine kI (fun k=>m.testBit k) (fun k=>V.int k) (by rw[sizeLine_eq];omega) (fun i acc N hi h=>?_) q
  refine⟨_,rfl,_,rfl,m,i,by simp,_,rfl,?_⟩
  cases e:m.testBit i with
  | true =>
   rw[e]at h
   refine aI ⟨_,rfl,?_⟩
   simpa using h
  | false =>
   rw[e]at h
   exact aH (by simpa using h)
noncomputable def iz (ks:List Nat):List Int:=ks.map fun k:Nat=>(k:Int)
theorem wf (ks:List Nat):(iz ks).map V.int=ks.map fun k:Nat=>V.int k:=by rw[iz,map_map];rfl
theorem xW (m:Nat):cJ m=(iz (Yd.Cd m (Builtin.Int.intBits (m:Int)))).map V.int:=by rw[wf];rfl
theorem xZ {ks:List Nat}(h:ks.Pairwise (· < ·)):(iz ks).Pairwise (· < ·):=by
 unfold iz
 rw[pairwise_map]
 exact h.imp fun z=>by omega
theorem B4 {ks:List Nat}{k:Int}:k ∈ iz ks↔∃ n ∈ ks,(n:Int)=k:=mem_map
theorem qS {ks:List Nat}{ms:List Int}(h1:ms.Pairwise (· < ·))(h2:∀ k,k ∈ ms↔k ∈ iz ks):iz (Yd.Cd (Yd.Bk ks 0) (Builtin.Int.intBits ((Yd.Bk ks 0:Nat):Int)))=ms:=by
 refine Yd.Dj (xZ (Yd.Eo _ _)) h1 fun k=>?_
 rw[h2 k,B4,B4]
 constructor
 ·rintro⟨n,hn,e⟩
  rw[Yd.Bq (Yd.BH _),Yd.Bz]at hn
  exact⟨n,by simpa using hn,e⟩
 ·rintro⟨n,hn,e⟩
  refine⟨n,?_,e⟩
  rw[Yd.Bq (Yd.BH _),Yd.Bz]
  simpa using hn
theorem uJ {ks:List Nat}{b:Nat}(h:∀ k ∈ ks,k < b):Yd.Bk ks 0 < 2 ^ b:=by
 rw[← Yd.Fy h]
 exact Yd.CO ks b
theorem sR {ks:List Nat}{k:Nat}:(Yd.Bk ks 0).testBit k=decide ((k:Int) ∈ iz ks):=by
 rw[Yd.Bz,zero_testBit,Bool.false_or]
 congr 1
 refine propext ⟨fun h=>B4.mpr ⟨k,h,rfl⟩,fun h=>?_⟩
 obtain⟨n,hn,e⟩:=B4.mp h
 have:n=k:=by omega
 rw[← this]
 exact hn
structure Rw where
 p:Int
 g:Int
 c:Option Nat
 s:List Nat
noncomputable def cM (r:Rw):aX:=[some r.p,some r.g,r.c.map fun k:Nat=>(k:Int)]
noncomputable def cV:Option Nat->V
 | none => .AZ
 | some k => .int k
noncomputable def OY (ks:List Nat):List V:=ks.map fun k:Nat=>V.int k
theorem js (ks:List Nat):OY ks=(iz ks).map V.int:=(wf ks).symm
theorem Ag {k:Nat}{l:List Nat}:decide ((k:Int) ∈ iz l)=decide (k ∈ l):=by
 congr 1
 refine propext ⟨fun h=>?_,fun h=>B4.mpr ⟨k,h,rfl⟩⟩
 obtain⟨n,hn,e⟩:=B4.mp h
 have:n=k:=by omega
 rw[← this]
 exact hn
theorem A3 (ks:List Nat)(p:Nat->Bool):(ks.map p).all id=ks.all p:=by rw[all_map];rfl
structure Ts where
 tab:Addr
 rf:Addr
 loop:Addr
 tree:Addr
 near:Addr
noncomputable def ly (K:Frag):Sp:=fun vs H Q _=>∃ (x C dx:Addr)(lv:V),vs=[.ref x,lv]/\H x=some (.ins C dx [])/\C8 K C/\AW K C "land"/\Q .AZ (aw H x (.ins C dx [("land",lv)]))
theorem Off.land {H H':Hp}{x C dx:Addr}(o:Off x H H')(hx:H x=some (.ins C dx [])){c:Cs}{lx AN lt:Addr}{n:Int}{AK:List V}{ps:List (Int × Int)}(h:bv H c lx AN lt n AK ps):bv H' c lx AN lt n AK ps :=
 ⟨o _ _ (fB h.1 hx (by intro z;cases z)) h.1,o _ _ (fB h.2.1 hx (by intro z;cases z)) h.2.1,o.OX hx h.2.2⟩
theorem Ks:ar ["self", "land"] ["self", "land"] (aj zc):=L2.Bl
theorem zJ {f:Addr}{fd:FuncData}(F:Bj K "__init__" "Table.__init__" zc f fd):AJ P w K mg base aC 1 f fd ["self", "land"] (ly K):=by
 refine F.ok Ks (fun vs H Q E h=>?_) (fun Bb A outer s H vs Q E hr h=>?_)
 ·obtain⟨x,C,dx,lv,rfl,_⟩:=h
  rfl
 ·obtain⟨x,C,dx,lv,rfl,hx,hc,hn,q⟩:=h
  refine⟨_,ag (gr (pv 0) (pv 1) rfl),?_⟩
  exact⟨_,rfl,_,rfl,x,C,dx,_,rfl,hx,hc,hn,by show 0 < 1000;decide,q⟩
theorem eQ {H:Hp}{l:Addr}{xs:List V}{o:HO}(hl:H l=some (.lst xs)):∀ {vs:List V}{ps:List (Int × Int)},AX H vs ps->AX (aw H l o) vs ps:=fun AL=>by
 induction AL with
 | nil=>exact .nil
 | cons zz r ih=>obtain⟨t,e,q⟩:=zz;exact .cons ⟨t,e,by rw[ai (fB q hl (by intro z;cases z))];exact q⟩ ih
noncomputable def ig:Scope:=zQ0
abbrev eE:=Hp->Addr->Nat->(aX->Nat)->Prop
noncomputable def cu (J:eE):Sp:=fun vs H Q _=>∃ (x:Addr)(n:Nat)(wy:aX->Nat)(r:Rw),vs=[.ref x, .int r.p, .int r.g,cV r.c]/\J H x n wy/\(0 <= r.p/\r.p < n)/\(0 <= r.g/\r.g < n)/\∀ H' D,AI H H'->H' D=none->Q (.ref D) (aw H' D (.lst (cJ (wy (cM r)))))
structure gy (K:Frag)(C fw:Addr)(dw:FuncData)(J:eE):Prop where
 cl:C8 K C
 m:g8 K C "ways" fw
 b:Binds K dw ["self", "place", "goal", "came"] []
 inst:∀ H x n wy,J H x n wy->∃ dx fs,H x=some (.ins C dx fs)/\fs.lookup ("ways":Str)=none
 B9:∀ H H' x n wy,J H x n wy->AI H H'->J H' x n wy
noncomputable def vo (p:Int × Int):PyData := .tuple [.int p.1, .int p.2]
theorem kG {K:Frag}{H:Hp}:∀ {vs:List V}{ps:List (Int × Int)},AX H vs ps->BJ K H vs (ps.map vo)
 | _,_, .nil => .nil
 | _,_, .cons ⟨t,e,h⟩ r => .cons (by subst e;exact .tup (Ba.of h) (.cons (.int _) (.cons (.int _) .nil))) (kG r)
noncomputable def cD (wy:aX->Nat)(p g:Nat):Bool:=!decide (wy [some (p:Int),some (g:Int),none]=0)
noncomputable def aY (wy:aX->Nat)(p m:Nat):List (Int × Int):=((List.range m).filter fun g=>cD wy p g).map fun g:Nat=>((p:Int),(g:Int))
noncomputable def aN (wy:aX->Nat)(n m:Nat):List (Int × Int):=(List.range m).flatMap fun p=>aY wy p n
theorem dI (wy:aX->Nat)(n i:Nat):aN wy n (i + 1)=aN wy n i ++ aY wy i n:=by
 unfold aN
 rw[range_succ,flatMap_append]
 simp
theorem oH (wy:aX->Nat)(p j:Nat):aY wy p (j + 1)=if cD wy p j then aY wy p j ++ [((p:Int),(j:Int))] else aY wy p j:=by
 unfold aY
 rw[range_succ,filter_append]
 cases h:cD wy p j with
 | true=>simp[h]
 | false=>simp[h]
theorem rP (wy:aX->Nat)(p m:Nat):(aY wy p m).length <= m:=by
 unfold aY
 rw[length_map]
 exact le_trans (length_filter_le _ _) (by rw[length_range];exact Nat.le_refl _)
theorem j7 (wy:aX->Nat)(n:Nat):∀ m,(aN wy n m).length <= m * n
 | 0=>by simp[aN]
 | m + 1=>by
  rw[dI,length_append,succ_mul]
  have:=j7 wy n m
  have:=rP wy m n
  omega
abbrev As:=List (Nat × Option Nat)
noncomputable def addW (l:Option Nat)(a:As)(ws:List Nat):As:=ws.foldl (fun a x=>if x ∈ a.map (·.1) then a else a ++ [(x,l)]) a
noncomputable def gn (on:Nat->List Nat):Nat->As->Nat->As
 | 0,a,_=>a
 | f + 1,a,i=>match a[i]? with
  | some x=>gn on f (addW (some x.1) a (on x.1)) (i + 1)
  | none=>a
structure Cz (L:Nat)(a:As):Prop where
 nd:(a.map (·.1)).Nodup
 lt:∀ x ∈ a,x.1 < L
theorem cI:∀ (n:Nat)(l:List Nat),l.Nodup->(∀ x ∈ l,x < n)->l.length <= n
 | 0,l,_,h=>by
  cases l with
  | nil=>exact Nat.le_refl _
  | cons x l=>exact absurd (h x mem_cons_self) (not_lt_zero _)
 | n + 1,l,hn,h=>by
  by_cases hm:n ∈ l
  ·have e:=List.length_erase_of_mem hm
   have:=cI n (l.erase n) (hn.erase n) fun x hx=>by
    have B3:=(hn.mem_erase_iff).mp hx
    have:=h x B3.2
    have:=B3.1
    omega
   omega
  ·have:=cI n l hn fun x hx=>by
    have:=h x hx
    have:x ≠ n:=fun z=>hm (by rw[← z];exact hx)
    omega
   omega
theorem Cz.By {L:Nat}{a:As}(h:Cz L a):a.length <= L:=by
 have:=cI L (a.map (·.1)) h.nd fun x hx=>by
  obtain⟨y,hy,rfl⟩:=mem_map.mp hx
  exact h.lt y hy
 rwa [length_map]at this
theorem Cz.add {L:Nat}{a:As}{l:Option Nat}{x:Nat}(h:Cz L a)(hx:x < L)(hn:x ∉ a.map (·.1)):Cz L (a ++ [(x,l)]) where
 nd:=by
  rw[map_append,nodup_append]
  refine⟨h.nd,by simp,fun y hy c hc=>?_⟩
  have hc:c=x:=by simpa using hc
  intro z
  rw[z,hc]at hy
  exact hn hy
 lt:=fun y hy=>by
  rcases mem_append.mp hy with hy | hy
  ·exact h.lt y hy
  ·rw[mem_singleton.mp hy];exact hx
theorem wI (l:Option Nat)(a:As):addW l a []=a:=rfl
theorem lX (l:Option Nat)(a:As)(ws:List Nat)(x:Nat):addW l a (ws ++ [x])=if x ∈ (addW l a ws).map (·.1) then addW l a ws else addW l a ws ++ [(x,l)]:=by
 unfold addW
 rw[foldl_append];rfl
theorem jE {on:Nat->List Nat}{a:As}{i:Nat}(h:a[i]? = none):∀ f,gn on f a i=a
 | 0=>rfl
 | f + 1=>by unfold gn;rw[h]
theorem iB {on:Nat->List Nat}{a:As}{i f:Nat}{x:Nat × Option Nat}(h:a[i]? = some x):gn on (f + 1) a i=gn on f (addW (some x.1) a (on x.1)) (i + 1):=by
 rw[gn,h]
noncomputable def cG (c:Cs)(C:Addr)(J:eE):Sp:=fun vs H Q _=>∃ (x dx lx AN lt:Addr)(fs:List (Str × V))(n:Nat)(AK:List V)(ps:List (Int × Int))(wy:aX->Nat),vs=[.ref x]/\J H x n wy/\H x=some (.ins C dx fs)/\fs.lookup ("land":Str)=some (.ref lx)/\bv H c lx AN lt n AK ps/\n <= 12 /\
 ∀ (D:Addr)(us:List V)(H':Hp),AI H H'->H D=none->H' D=some (.lst us)->AX H' us (aN wy n n)->Q (.ref D) H'
abbrev NSt:List Str:=["table", "found", "place", "goal"]
theorem qT (m:Nat):(!(cJ m).isEmpty) = !decide (m=0):=by
 congr 1
 rw[Bool.eq_iff_iff,isEmpty_iff,decide_eq_true_eq]
 unfold cJ
 rw[List.map_eq_nil_iff]
 constructor
 ·intro h
  have:=Yd.Fz (Yd.BH m)
  rw[h]at this
  exact this.symm
 ·rintro rfl;rfl
theorem FC:ar NSt ["table"] (aj mM):=L2.Bl
theorem tD {c:Cs}{J:eE}{C f fw:Addr}{fd dw:FuncData}(F:Bj K "starts" "starts" mM f fd)(T:eX mg)(L:li K c)(W:gy K C fw dw J)(nl:AW K C "land")(Gw:AJ P w K mg base aC 3 fw dw ["self", "place", "goal", "came"] (cu J)) :
  AJ P w K mg base aC 4 f fd ["table"] (cG c C J):=by
 refine F.ok FC (fun vs H Q E h=>?_) (fun Bb A outer s H vs Q E hr h=>?_)
 ·obtain⟨x,dx,lx,AN,lt,fs,n,AK,ps,wy,rfl,_⟩:=h
  rfl
 ·obtain⟨x,dx,lx,AN,lt,fs,n,AK,ps,wy,rfl,hJ,hx,hf,hL,hn,q⟩:=h
  refine⟨_,af (au (i:=1) FC.nd rfl (Or.inl rfl) (b8 ae))
   (af (aK PassesOwn.never rfl (aR rfl T.range (aa (aF (aF (pv 0) rfl) rfl) ae)) (ao (i:=2) FC.nd rfl (Or.inl rfl))
    (ag (aK PassesOwn.never rfl (aR rfl T.range (aa (aF (aF (pv 0) rfl) rfl) ae)) (ao (i:=3) FC.nd rfl (Or.inl rfl))
     (ag (aL (jO (bK (pv 0) W.cl W.m Gw hr W.b .nil ax (aa (pv 2) (aa (pv 3) (aa bE ae)))) (fun _=>rfl))
      (ag (aT (cr plainAttrs_list PySem.F.slot_list_append PySem.F.type_list_append aS (pv 1) (aa (bu (aa (pv 2) (aa (pv 3) ae))) ae)))) aA)))))
   (ag (ap (pv 1)))),?_⟩
  obtain⟨Mx,Bh,B3,FD⟩:=W.inst _ _ _ _ hJ
  rw[hx]at B3
  injection B3 with B3
  injection B3 with _ e1 e2
  subst e1 e2
  refine⟨zero_le _,fun D hD=>?_⟩
  have s0:=(AI.refl H).new (o := .lst []) hD
  refine⟨_,rfl,x,C,dx,fs,_,rfl,s0 _ _ hx,W.cl,nl,hf,lx,c.land,AN,_,_,rfl,s0 _ _ hL.1,L.cl,L.np,rfl,(n:Int),rfl,by omega,by omega,?_⟩
  rw[toNat_natCast]
  refine aZ (n:=n) (fun i σ H2=>∃ (a2 a3:Option V)(us:List V),AI H H2/\H2 D=some (.lst us)/\AX H2 us (aN wy n i)/\σ=[some (.ref x),some (.ref D),a2,a3])
   ⟨none,none,[],s0,ad, .nil,rfl⟩ ?_ ?_
  ·rintro i σ H2 hi ⟨a2,a3,us,s2,gD,hU,rfl⟩
   rw[Int.zero_add]
   refine⟨_,rfl,x,C,dx,fs,_,rfl,s2 _ _ hx,W.cl,nl,hf,lx,c.land,AN,_,_,rfl,s2 _ _ hL.1,L.cl,L.np,rfl,(n:Int),rfl,by omega,by omega,?_⟩
   rw[toNat_natCast]
   refine aZ (n:=n) (fun j σ H3=>∃ (a3:Option V)(us:List V),AI H H3/\H3 D=some (.lst us)/\AX H3 us (aN wy n i ++ aY wy i j)/\σ=[some (.ref x),some (.ref D),some (.int i),a3])
    ⟨_,us,s2,gD,by simpa [aY] using hU,rfl⟩ ?_ ?_
   ·rintro j σ H3 hj ⟨a3,us,s3,BM,Kt,rfl⟩
    rw[Int.zero_add]
    refine⟨_,rfl,x,dx,fs,rfl,s3 _ _ hx,FD,_,rfl,_,rfl,x,n,wy,⟨(i:Int),(j:Int),none,[]⟩,rfl,W.B9 _ _ _ _ _ hJ s3,⟨natCast_nonneg i,ofNat_lt.mpr hi⟩,⟨natCast_nonneg j,ofNat_lt.mpr hj⟩,fun H4 D4 Ie hD4=>?_⟩
    have Ht:AI H3 (aw H4 D4 (.lst (cJ (wy (cM ⟨(i:Int),(j:Int),none,[]⟩))))):=Ie.new hD4
    refine⟨_, .inl ⟨_,AQ.of ad,rfl⟩,?_⟩
    show if (!(cJ (wy (cM ⟨(i:Int),(j:Int),none,[]⟩))).isEmpty)=true then _ else _
    rw[qT]
    have hlen:us.length <= 200:=by
     have e:=Paired.length Kt
     rw[length_append]at e
     have b1:=j7 wy n i
     have b2:=rP wy i j
     have b3:i * n <= 12 * 12:=Nat.mul_le_mul (by omega) hn
     omega
    cases hs:cD wy i j with
    | false =>
     have G4:(!decide (wy (cM ⟨(i:Int),(j:Int),none,[]⟩)=0))=false:=hs
     have hR:(aw H4 D4 (.lst (cJ (wy (cM ⟨(i:Int),(j:Int),none,[]⟩))))) D=some (.lst us):=Ht _ _ BM
     rw[G4]
     refine aH ⟨_,us,s3.trans Ht,hR,?_,rfl⟩
     rw[oH,hs]
     exact AX.same Ht Kt
    | true =>
     have G4:(!decide (wy (cM ⟨(i:Int),(j:Int),none,[]⟩)=0))=true:=hs
     rw[G4]
     generalize aw H4 D4 (.lst (cJ (wy (cM ⟨(i:Int),(j:Int),none,[]⟩))))=H5 at Ht ⊢
     refine aI ⟨_,rfl, .inl ⟨rfl,_,AQ.of (Ht _ _ BM)⟩,_,rfl,_,rfl,by show 2 <= sizeLine;decide,fun t ht=>?_⟩
     have s6:=(AI.refl H5).new (o := .tup [.int i, .int j]) ht
     have gT:(aw H5 t (.tup [.int i, .int j])) t=some (.tup [.int i, .int j]):=ad
     have nT:t ≠ D:=Ne.symm (ah (Ht _ _ BM) ht)
     generalize aw H5 t (.tup [.int i, .int j])=H6 at s6 gT ⊢
     have My:=Ht.trans s6
     refine⟨D,us,_,rfl,rfl,My _ _ BM,by rw[sizeLine_eq];omega,?_⟩
     refine⟨_,us ++ [.ref t],fun b o e=>by rw[ai (ah e hD)];exact My _ _ (s3 _ _ e),ad,?_,rfl⟩
     rw[oH,hs,if_pos rfl,← append_assoc]
     exact AX.snoc ⟨t,rfl,by rw[ai nT];exact gT⟩ (eQ (My _ _ BM) (AX.same My Kt))
   ·rintro σ H3 ⟨a3,us,s3,BM,Kt,rfl⟩
    refine⟨_,_,us,s3,BM,?_,rfl⟩
    rw[dI]
    exact Kt
  ·rintro σ H2 ⟨a2,a3,us,s2,gD,hU,rfl⟩
   exact⟨_,rfl,q D us H2 s2 hD gD hU⟩
noncomputable def nV (ps:List Nat):List V:=ps.map fun q:Nat=>V.int (q:Int)
theorem aB (ps:List Nat):(nV ps).length=ps.length:=by simp[nV]
theorem bG {ps:List Nat}{k q:Nat}(h:ps[k]? = some q):(nV ps)[k]? = some (V.int (q:Int)):=by simp[nV,h]
theorem fD (a b:List Nat):nV (a ++ b)=nV a ++ nV b:=by unfold nV;rw[map_append]
theorem zZ {ps:List Nat}{v:V}(h:v ∈ nV ps):∃ q:Nat,q ∈ ps/\v = .int (q:Int):=by
 obtain⟨q,hq,e⟩:=mem_map.mp h
 exact⟨q,hq,e.symm⟩
noncomputable def wl (wy:aX->Nat)(k:aX):List Nat:=Yd.Cd (wy k) (Builtin.Int.intBits ((wy k:Nat):Int))
theorem ju (wy:aX->Nat)(k:aX):cJ (wy k)=nV (wl wy k):=rfl
noncomputable def bZ (wy:aX->Nat)(ps:List (Int × Int))(g l:Nat):List Nat:=if (ps.getD l (0,0)).2=(g:Int) then [] else wl wy [some (ps.getD l (0,0)).2,some (g:Int),some (l:Int)]
noncomputable def bg (wy:aX->Nat)(g m:Nat):List Nat:=(List.range m).flatMap fun p:Nat=>wl wy [some (p:Int),some (g:Int),none]
theorem kE (wy:aX->Nat)(g m:Nat):bg wy g (m + 1)=bg wy g m ++ wl wy [some (m:Int),some (g:Int),none]:=by
 unfold bg
 rw[range_succ,flatMap_append];simp
structure Bc (c:Cs)(C:Addr)(J:eE)(H:Hp)(x lx AN lt:Addr)(n:Nat)(AK:List V)(ps:List (Int × Int))(wy:aX->Nat):Prop where
 j:J H x n wy
 i:∃ dx fs,H x=some (.ins C dx fs)/\fs.lookup ("land":Str)=some (.ref lx)
 l:bv H c lx AN lt (n:Int) AK ps
 CB:n <= 12
 By:ps.length <= 40
 ok:∀ k,∀ z ∈ wl wy k,z < ps.length
 nr:∀ k,(wl wy k).length <= 40
 pk:∀ q ∈ ps,ie n q=true
theorem Bc.same {K:Frag}{c:Cs}{C fw:Addr}{dw:FuncData}{J:eE}{H H':Hp}{x lx AN lt:Addr}{n:Nat}{AK:List V}{ps:List (Int × Int)}{wy:aX->Nat}(W:gy K C fw dw J)(h:Bc c C J H x lx AN lt n AK ps wy)(s:AI H H'):Bc c C J H' x lx AN lt n AK ps wy :=
 ⟨W.B9 _ _ _ _ _ h.j s,let ⟨dx,fs,h1,h2⟩:=h.i; ⟨dx,fs,s _ _ h1,h2⟩,⟨s _ _ h.l.1,s _ _ h.l.2.1,AX.same s h.l.2.2⟩,h.CB,h.By,h.ok,h.nr,h.pk⟩
theorem jr {n:Int}{q:Int × Int}(h:ie n q=true):0 <= q.2/\q.2 < n:=by
 unfold ie at h
 simp only[Bool.and_eq_true,decide_eq_true_eq]at h
 omega
structure wQ (K:Frag)(c:Cs)(f:Addr)(d:FuncData):Prop where
 m:g8 K c.land "end_of" f
 b:Binds K d ["self", "lane"] []
noncomputable def sT (c:Cs)(C:Addr)(J:eE):Sp:=fun vs H Q _=>∃ (x lx AN lt:Addr)(n:Nat)(AK:List V)(ps:List (Int × Int))(wy:aX->Nat)(l g:Nat),vs=[.ref x, .int l, .int g]/\Bc c C J H x lx AN lt n AK ps wy/\l < ps.length/\g < n /\
 ∀ (D:Addr)(H':Hp),AI H H'->H D=none->H' D=some (.lst (nV (bZ wy ps g l)))->Q (.ref D) H'
noncomputable def mF (c:Cs)(C:Addr)(J:eE):Sp:=fun vs H Q _=>∃ (x lx AN lt:Addr)(n:Nat)(AK:List V)(ps:List (Int × Int))(wy:aX->Nat)(g:Nat),vs=[.ref x, .int g]/\Bc c C J H x lx AN lt n AK ps wy/\g < n /\
 ∀ (D:Addr)(H':Hp),AI H H'->H D=none->H' D=some (.lst (nV (bg wy g n)))->Q (.ref D) H'
theorem im (a b:Int):decide (V.int a=V.int b)=decide (a=b):=by
 by_cases h:a=b
 ·rw[h];simp
 ·rw[decide_eq_false h,decide_eq_false fun z=>h (by injection z)]
theorem Ku:ar ["table", "lane", "goal", "end"] ["table", "lane", "goal"] (aj OU):=L2.Bl
theorem Kv {c:Cs}{J:eE}{C f fw fe:Addr}{fd dw de:FuncData}(F:Bj K "onward" "onward" OU f fd)(L:li K c)(W:gy K C fw dw J)(nl:AW K C "land")(Gw:AJ P w K mg base aC 3 fw dw ["self", "place", "goal", "came"] (cu J))
  (M:wQ K c fe de) (Ge:AJ P w K mg base aC 1 fe de ["self", "lane"] (mH c Prod.snd)):AJ P w K mg base aC 4 f fd ["table", "lane", "goal"] (sT c C J):=by
 refine F.ok Ku (fun vs H Q E h=>?_) (fun Bb A outer s H vs Q E hr h=>?_)
 ·obtain⟨x,lx,AN,lt,n,AK,ps,wy,l,g,rfl,_⟩:=h
  rfl
 ·obtain⟨x,lx,AN,lt,n,AK,ps,wy,l,g,rfl,hT,hl,hg,q⟩:=h
  have Cn:AU 1 _:=hr.mono (by decide)
  refine⟨_,af (au (i:=3) Ku.nd rfl (Or.inl rfl) (bK (aF (pv 0) rfl) L.cl M.m Ge Cn M.b .nil ax (aa (pv 1) ae)))
   (ag (ap (jS (ay cH (pv 3) (pv 2) (a9 _)) (b8 ae) (bK (pv 0) W.cl W.m Gw hr W.b .nil ax (aa (pv 3) (aa (pv 2) (aa (pv 1) ae))))))),?_⟩
  obtain⟨dx,fs,hx,hf⟩:=hT.i
  obtain⟨Mx,Bh,B3,FD⟩:=W.inst _ _ _ _ hT.j
  rw[hx]at B3
  injection B3 with B3
  injection B3 with _ e1 e2
  subst e1 e2
  have he:=getElem?_eq_getElem hl
  have Kw:ps.getD l (0,0)=ps[l]:=by rw[getD_eq_getElem?_getD,he];rfl
  unfold bZ at q
  rw[Kw]at q
  generalize ps[l]=pr at he q
  refine⟨_,rfl,x,C,dx,fs,_,rfl,hx,W.cl,nl,hf,lx,AN,_,rfl,hT.l.1,rfl,_,rfl,lx,AN,lt,(n:Int),AK,ps,l,pr,rfl,hT.l,he,?_⟩
  refine⟨_,rfl,_,rfl,rfl,_,rfl,?_⟩
  rw[im]
  by_cases h1:pr.2=(g:Int)
  ·rw[decide_eq_true h1]
   rw[if_pos h1]at q
   exact aI ⟨zero_le _,fun D hD=>q D _ ((AI.refl H).new hD) hD ad⟩
  ·rw[decide_eq_false h1]
   rw[if_neg h1]at q
   exact aH ⟨_,rfl,x,dx,fs,rfl,hx,FD,_,rfl,_,rfl,_,rfl,x,n,wy,⟨pr.2,(g:Int),some l,[]⟩,rfl,hT.j,jr (hT.pk pr (mem_of_getElem? he)),⟨natCast_nonneg g,ofNat_lt.mpr hg⟩,fun H' D s' hD=>q D _ (s'.new hD) (s'.free hD) ad⟩
theorem Hu:ar ["table", "goal", "found", "place"] ["table", "goal"] (aj qB):=L2.Bl
theorem vF {c:Cs}{J:eE}{C f fw:Addr}{fd dw:FuncData}(F:Bj K "first_lanes" "first_lanes" qB f fd)(T:eX mg)(L:li K c)(W:gy K C fw dw J)(nl:AW K C "land")(Gw:AJ P w K mg base aC 3 fw dw ["self", "place", "goal", "came"] (cu J)) :
  AJ P w K mg base aC 4 f fd ["table", "goal"] (mF c C J):=by
 refine F.ok Hu (fun vs H Q E h=>?_) (fun Bb A outer s H vs Q E hr h=>?_)
 ·obtain⟨x,lx,AN,lt,n,AK,ps,wy,g,rfl,_⟩:=h
  rfl
 ·obtain⟨x,lx,AN,lt,n,AK,ps,wy,g,rfl,hT,hg,q⟩:=h
  refine⟨_,af (au (i:=2) Hu.nd rfl (Or.inl rfl) (b8 ae))
   (af (aK PassesOwn.never rfl (aR rfl T.range (aa (aF (aF (pv 0) rfl) rfl) ae)) (ao (i:=3) Hu.nd rfl (Or.inl rfl))
    (ag (aT (cr plainAttrs_list PySem.F.slot_list_extend PySem.F.type_list_extend lF (pv 2) (aa (bK (pv 0) W.cl W.m Gw hr W.b .nil ax (aa (pv 3) (aa (pv 1) (aa bE ae)))) ae)))))
   (ag (ap (pv 2)))),?_⟩
  obtain⟨dx,fs,hx,hf⟩:=hT.i
  obtain⟨Mx,Bh,B3,FD⟩:=W.inst _ _ _ _ hT.j
  rw[hx]at B3
  injection B3 with B3
  injection B3 with _ e1 e2
  subst e1 e2
  have hn:=hT.CB
  refine⟨zero_le _,fun D hD=>?_⟩
  have s0:=(AI.refl H).new (o := .lst []) hD
  refine⟨_,rfl,x,C,dx,fs,_,rfl,s0 _ _ hx,W.cl,nl,hf,lx,c.land,AN,_,_,rfl,s0 _ _ hT.l.1,L.cl,L.np,rfl,(n:Int),rfl,by omega,by omega,?_⟩
  rw[toNat_natCast]
  refine aZ (n:=n) (fun i σ H2=>∃ a3:Option V,AI H H2/\H2 D=some (.lst (nV (bg wy g i)))/\(bg wy g i).length <= 40 * i/\σ=[some (.ref x),some (.int g),some (.ref D),a3])
   ⟨none,s0,ad,zero_le _,rfl⟩ ?_ ?_
  ·rintro i σ H2 hi ⟨a3,s2,gD,hl,rfl⟩
   rw[Int.zero_add]
   refine⟨_,rfl, .inl ⟨rfl,_,AQ.of gD⟩,_,rfl,x,dx,fs,rfl,s2 _ _ hx,FD,_,rfl,_,rfl,x,n,wy,⟨(i:Int),(g:Int),none,[]⟩,rfl,W.B9 _ _ _ _ _ hT.j s2,⟨natCast_nonneg i,ofNat_lt.mpr hi⟩,⟨natCast_nonneg g,ofNat_lt.mpr hg⟩,fun H3 D3 s3 OZ=>?_⟩
   have hk:cM ⟨(i:Int),(g:Int),none,[]⟩ = [some (i:Int),some (g:Int),none]:=rfl
   rw[hk,ju]
   have s4:=s3.new (o := .lst (nV (wl wy [some (i:Int),some (g:Int),none]))) OZ
   have g4:(aw H3 D3 (.lst (nV (wl wy [some (i:Int),some (g:Int),none])))) D3=some (.lst (nV (wl wy [some (i:Int),some (g:Int),none]))):=ad
   generalize aw H3 D3 (.lst (nV (wl wy [some (i:Int),some (g:Int),none])))=H4 at s4 g4 ⊢
   have hw:=hT.nr [some (i:Int),some (g:Int),none]
   refine⟨D,D3,_,_,rfl,rfl,s4 _ _ gD,g4,by rw[sizeLine_eq,aB,aB];omega,?_⟩
   refine⟨_,fun b o e=>by rw[ai (ah e hD)];exact s4 _ _ (s2 _ _ e),by rw[ad,kE,fD],by rw[kE,length_append];omega,rfl⟩
  ·rintro σ H2 ⟨a3,s2,gD,hl,rfl⟩
   exact⟨_,rfl,q D H2 s2 hD gD⟩
noncomputable def oV:Option Nat->V
 | some l => .int (l:Int)
 | none => .AZ
noncomputable def ak (x:Nat × Option Nat):L2.Key × V:=(Sum.inl (x.1:Int),oV x.2)
theorem nH (p:Nat):∀ a:As,(ci (a.map ak) (Sum.inl (p:Int))).isSome=decide (p ∈ a.map (·.1))
 | []=>rfl
 | x :: a=>by
  have ih:=nH p a
  rw[map_cons]
  by_cases h:x.1=p
  ·rw[fj (show(ak x).1=Sum.inl (p:Int) by rw[← h];rfl),decide_eq_true (by rw[map_cons,h];exact mem_cons_self)];rfl
  ·rw[fq (show ¬ (ak x).1=Sum.inl (p:Int) from fun z=>h (by have:=Sum.inl.inj z;omega)),ih,map_cons]
   by_cases hm:p ∈ a.map (·.1)
   ·rw[decide_eq_true hm,decide_eq_true (mem_cons_of_mem _ hm)]
   ·rw[decide_eq_false hm,decide_eq_false fun z=>(mem_cons.mp z).elim (fun e=>h e.symm) hm]
theorem rU {a:As}{x:Nat}{c:Option Nat}(h:x ∉ a.map (·.1)):cj (a.map ak) (Sum.inl (x:Int)) (oV c)=(a ++ [(x,c)]).map ak:=by
 have hv:ci (a.map ak) (Sum.inl (x:Int))=none:=by
  have:=nH x a
  rw[decide_eq_false h]at this
  exact Option.not_isSome_iff_eq_none.mp (by rw[this];decide)
 rw[jN _ hv,map_append];rfl
theorem xp {a:As}{x:Nat}(BC:∀ y ∈ a,y.2=none)(h:x ∈ a.map (·.1)):cj (a.map ak) (Sum.inl (x:Int)) .AZ=a.map ak:=by
 unfold cj
 rw[gH,nH,decide_eq_true h,if_pos rfl,map_map]
 refine map_congr_left fun y hy=>?_
 show(if (ak y).1=Sum.inl (x:Int) then ((ak y).1,V.AZ) else ak y)=ak y
 split
 ·unfold ak;rw[BC y hy];rfl
 ·rfl
theorem pM:∀ (ws:List Nat)(a:As),(∀ y ∈ a,y.2=none)->∀ y ∈ addW none a ws,y.2=none
 | [],a,h=>h
 | x :: ws,a,h=>by
  show ∀ y ∈ addW none (if x ∈ a.map (·.1) then a else a ++ [(x,none)]) ws,y.2=none
  refine pM ws _ ?_
  split
  ·exact h
  ·intro y hy
   rcases mem_append.mp hy with hy | hy
   ·exact h y hy
   ·rw[mem_singleton.mp hy]
theorem Cz.addW {L:Nat}{l:Option Nat}:∀ (ws:List Nat){a:As},Cz L a->(∀ x ∈ ws,x < L)->Cz L (K25.addW l a ws)
 | [],a,h,_=>h
 | x :: ws,a,h,hw=>by
  show Cz L (K25.addW l (if x ∈ a.map (·.1) then a else a ++ [(x,l)]) ws)
  refine Cz.addW ws ?_ fun y hy=>hw y (mem_cons_of_mem _ hy)
  split
  ·exact h
  ·exact h.add (hw x mem_cons_self) (by assumption)
noncomputable def bp (wy:aX->Nat)(ps:List (Int × Int))(n g:Nat):As:=gn (bZ wy ps g) ps.length (addW none [] (bg wy g n)) 0
noncomputable def mI (c:Cs)(C:Addr)(J:eE):Sp:=fun vs H Q _=>∃ (x lx AN lt:Addr)(n:Nat)(AK:List V)(ps:List (Int × Int))(wy:aX->Nat)(g:Nat),vs=[.ref x, .int g]/\Bc c C J H x lx AN lt n AK ps wy/\g < n /\
 ∀ (D:Addr)(H':Hp),AI H H'->H D=none->Cz ps.length (bp wy ps n g)->H' D=some (.dK ((bp wy ps n g).map ak))->Q (.ref D) H'
abbrev NAh:List Str:=["table", "goal", "ahead", "lane", "line", "looked_at", "way"]
theorem Dt:ar NAh ["table", "goal"] (aj qF):=L2.Bl
theorem vJ {c:Cs}{J:eE}{C f fw ff fo:Addr}{fd dw df Hv:FuncData}(F:Bj K "lanes_ahead" "lanes_ahead" qF f fd)(T:eX mg)(W:gy K C fw dw J)
  (mf:mg "first_lanes" = some (.ref ff)) (kf:keepIn K (.ref ff)=true) (bf:Binds K df ["table", "goal"] []) (Gf:AJ P w K mg base aC 4 ff df ["table", "goal"] (mF c C J))
  (mo:mg "onward" = some (.ref fo)) (ko:keepIn K (.ref fo)=true) (bo:Binds K Hv ["table", "lane", "goal"] []) (Go:AJ P w K mg base aC 4 fo Hv ["table", "lane", "goal"] (sT c C J)) :
  AJ P w K mg base aC 5 f fd ["table", "goal"] (mI c C J):=by
 refine F.ok Dt (fun vs H Q E h=>?_) (fun Bb A outer s H vs Q E hr h=>?_)
 ·obtain⟨x,lx,AN,lt,n,AK,ps,wy,g,rfl,_⟩:=h
  rfl
 ·obtain⟨x,lx,AN,lt,n,AK,ps,wy,g,rfl,hT,hg,q⟩:=h
  have hu:=ph hr
  have h40:=hT.By
  refine⟨_,af (au (i:=2) Dt.nd rfl (Or.inl rfl) jT)
   (af (aK PassesOwn.never rfl (bB (aq Gf hr rfl mf kf bf .nil ax (aa (pv 0) (aa (pv 1) ae)))) (ao (i:=3) Dt.nd rfl (Or.inl rfl))
    (ag (jn hu (pv 2) (pv 3) bE rfl)))
   (af (au (i:=4) Dt.nd rfl (Or.inl rfl) (cU (kK rfl) rfl T.list PySem.Pv.boot_list (aa (pv 2) ae)))
   (af (au (i:=5) Dt.nd rfl (Or.inl rfl) am)
   (af (eh PassesOwn.never (ay gb (pv 5) (aE aD rfl T.len PySem.boot_len (aa (pv 4) ae)) (a9 _))
    (af (au (i:=3) Dt.nd rfl (Or.inl rfl) (aU Bf (pv 4) (pv 5) (fun _ _=>rfl)))
    (af (mT (i:=5) Dt.nd rfl (Or.inl rfl) am nq)
    (ag (aK PassesOwn.never rfl (bB (aq Go hr rfl mo ko bo .nil ax (aa (pv 0) (aa (pv 3) (aa (pv 1) ae))))) (ao (i:=6) Dt.nd rfl (Or.inl rfl))
     (ag (aL (jP (e9 hu (pv 6) (pv 2)))
      (af (jn hu (pv 2) (pv 6) (pv 3) rfl)
      (ag (aT (cr plainAttrs_list PySem.F.slot_list_append PySem.F.type_list_append aS (pv 4) (aa (pv 6) ae))))) aA)))))))
   (ag (ap (pv 2))))))),?_⟩
  refine fun fa C0=>?_
  have s0:=(AI.refl H).new (o := .dK []) C0
  have Hw:(aw H fa (.dK [])) fa=some (.dK ([].map ak)):=ad
  generalize aw H fa (.dK [])=H0 at s0 Hw ⊢
  refine⟨_,rfl,_,rfl,x,lx,AN,lt,n,AK,ps,wy,g,rfl,hT.same W s0,hg,fun Fl H1 s1 hFl Sj=>⟨Fl,rfl,⟨_,AQ.of Sj⟩,?_⟩⟩
  have Mz:=s1 _ _ Hw
  have nFf:Fl ≠ fa:=Ne.symm (ah Hw hFl)
  have Ed:∀ z ∈ bg wy g n,z < ps.length:=fun z hz=>by
   obtain⟨p,_,hz⟩:=mem_flatMap.mp hz
   exact hT.ok _ z hz
  refine bH (K:=K) (a:=Fl) (xs:=nV (bg wy g n)) (fun i σ H2=>∃ a3:Option V,AI H H2/\H2 Fl=some (.lst (nV (bg wy g n)))/\H2 fa=some (.dK ((addW none [] ((bg wy g n).take i)).map ak))/\σ=[some (.ref x),some (.int g),some (.ref fa),a3,none,none,none])
   ⟨none,s0.trans s1,Sj,Mz,rfl⟩ (fun i σ H2 _ AL=>by obtain⟨_,_,g2,_⟩:=AL;exact AQ.of g2) ?_ ?_
  ·rintro i v σ H2 hv ⟨a3,s2,g2,gf,rfl⟩
   have hi:i < (bg wy g n).length:=by have:=(gQ0 hv);rw[aB]at this;exact this
   have hk0:=getElem?_eq_getElem hi
   have B5:=bG hk0
   rw[B5]at hv
   have hv:=Option.some.inj hv
   subst hv
   generalize (bg wy g n)[i]=l at hk0
   have hA:Cz ps.length (addW none [] ((bg wy g n).take i)):=Cz.addW _ ⟨by simp,fun y hy=>by cases hy⟩ fun z hz=>Ed z (mem_of_mem_take hz)
   have BB:=hA.By
   have Pa:=pM ((bg wy g n).take i) [] fun y hy=>by cases hy
   have Kx:=lX none [] ((bg wy g n).take i) l
   have DX:(bg wy g n).take (i + 1)=(bg wy g n).take i ++ [l]:=by rw[take_succ,hk0];rfl
   refine⟨_,rfl,_,rfl,fa,_,rfl,Dl.k (k:=Sum.inl (l:Int)) gf (by rw[sizeLine_eq,length_map];omega),?_⟩
   refine⟨_,fun b o e=>by rw[ai (ah e C0)];exact s2 _ _ e,by rw[ai nFf];exact g2,?_,rfl⟩
   rw[ad,DX,Kx]
   by_cases hm:l ∈ (addW none [] ((bg wy g n).take i)).map (·.1)
   ·rw[if_pos hm,xp Pa hm]
   ·rw[if_neg hm]
    exact congrArg (fun z=>some (HO.dK z)) (rU (c:=none) hm)
  rintro σ H2 ⟨a3,s2,g2,gf,rfl⟩
  rw[aB,take_length]at gf
  have Sk:Cz ps.length (addW none [] (bg wy g n)):=Cz.addW _ ⟨by simp,fun y hy=>by cases hy⟩ Ed
  have FA:bp wy ps n g=gn (bZ wy ps g) (ps.length - 0) (addW none [] (bg wy g n)) 0:=rfl
  generalize addW none [] (bg wy g n)=a0 at gf Sk FA
  refine⟨_,rfl,fa,_,rfl, .inl gf,fun ln Ew=>?_⟩
  have el:(a0.map ak).map (fun p=>kV p.1)=nV (a0.map (·.1)):=by
   unfold nV
   rw[map_map,map_map];rfl
  rw[el]
  have s3:=s2.new (o := .lst (nV (a0.map (·.1)))) Ew
  have Hx:H ln=none:=s2.free Ew
  have gl:(aw H2 ln (.lst (nV (a0.map (·.1))))) ln=some (.lst (nV (a0.map (·.1)))):=ad
  have Ky:(aw H2 ln (.lst (nV (a0.map (·.1))))) fa=some (.dK (a0.map ak)):=by rw[ai (ah gf Ew)];exact gf
  generalize aw H2 ln (.lst (nV (a0.map (·.1))))=H3 at s3 gl Ky ⊢
  refine⟨fun m σ H'=>∃ (a:As)(i:Nat)(b3 b6:Option V),m=ps.length - i/\Cz ps.length a/\i <= a.length/\bp wy ps n g=gn (bZ wy ps g) (ps.length - i) a i/\AI H H'/\H' fa=some (.dK (a.map ak))/\H' ln=some (.lst (nV (a.map (·.1))))/\σ=[some (.ref x),some (.int g),some (.ref fa),b3,some (.ref ln),some (.int (i:Nat)),b6],
   ⟨ps.length - 0,a0,0,_,_,rfl,Sk,zero_le _,FA,s3,Ky,gl,rfl⟩,?_⟩
  rintro m σ H4 ⟨a,i,b3,b6,rfl,hA,hile,BW,s4,M0,Kz,rfl⟩
  have BB:=hA.By
  refine⟨_,rfl,_,rfl,ln,_,rfl, .inl (AQ.of Kz),_,_,rfl,rfl,_,rfl,?_⟩
  by_cases hi:i < a.length
  rotate_left
  ·have e:i=a.length:=by omega
   subst e
   rw[decide_eq_false (by rw[aB,length_map];omega)]
   rw[jE (List.getElem?_eq_none (Nat.le_refl _))]at BW
   exact aH ⟨_,rfl,q fa H4 s4 C0 (by rw[BW];exact hA) (by rw[BW];exact M0)⟩
  rw[decide_eq_true (by rw[aB,length_map];omega)]
  have hy:=getElem?_eq_getElem hi
  generalize a[i]=lc at hy
  obtain⟨l,lc⟩:=lc
  have hl:l < ps.length:=hA.lt _ (mem_of_getElem? hy)
  have BS:(nV (a.map (·.1)))[i]? = some (.int (l:Int)):=bG (by rw[getElem?_map,hy];rfl)
  have Ee:bp wy ps n g=gn (bZ wy ps g) (ps.length - (i + 1)) (addW (some l) a (bZ wy ps g l)) (i + 1):=by
   rw[BW,show ps.length - i=(ps.length - (i + 1)) + 1 by omega,iB hy]
  have Hc:∀ z ∈ bZ wy ps g l,z < ps.length:=fun z hz=>by
   unfold bZ at hz
   split at hz
   ·cases hz
   ·exact hT.ok _ z hz
  refine aI ⟨fun σ' H'=>∃ (a':As)(b3 b6:Option V),Cz ps.length a'/\i + 1 <= a'.length/\bp wy ps n g=gn (bZ wy ps g) (ps.length - (i + 1)) a' (i + 1)/\AI H H'/\H' fa=some (.dK (a'.map ak))/\H' ln=some (.lst (nV (a'.map (·.1))))/\σ' = [some (.ref x),some (.int g),some (.ref fa),b3,some (.ref ln),some (.int ((i:Int) + 1)),b6],
   fun σ' H' AL=>by obtain⟨a',b3,b6,h1,h2,h3,h4,h5,h6,h7⟩:=AL;exact⟨ps.length - (i + 1),by omega,a',i + 1,b3,b6,rfl,h1,h2,h3,h4,h5,h6,h7⟩,?_⟩
  refine⟨_,rfl,_,rfl,ln,_,_,_,rfl,rfl,AQ.of Kz,aJ BS,?_⟩
  refine⟨_,rfl,_,_,rfl,rfl,?_⟩
  refine⟨_,rfl,_,rfl,_,rfl,x,lx,AN,lt,n,AK,ps,wy,l,g,rfl,hT.same W s4,hl,hg,fun Ol H5 s5 Sl Pb=>⟨Ol,rfl,⟨_,AQ.of Pb⟩,?_⟩⟩
  have nOf:Ol ≠ fa:=Ne.symm (ah M0 Sl)
  have nOl:Ol ≠ ln:=Ne.symm (ah Kz Sl)
  have K0:ln ≠ fa:=fB Kz M0 (by intro z;cases z)
  generalize bZ wy ps g l=ws at Pb Hc Ee
  refine bH (K:=K) (a:=Ol) (xs:=nV ws) (fun m σ H6=>∃ b6:Option V,Cz ps.length (addW (some l) a (ws.take m))/\a.length <= (addW (some l) a (ws.take m)).length/\AI H H6/\H6 Ol=some (.lst (nV ws))/\H6 fa=some (.dK ((addW (some l) a (ws.take m)).map ak))/\H6 ln=some (.lst (nV ((addW (some l) a (ws.take m)).map (·.1)))) /\
    σ=[some (.ref x),some (.int g),some (.ref fa),some (.int (l:Int)),some (.ref ln),some (.int ((i:Int) + 1)),b6])
   ⟨_,hA,Nat.le_refl _,s4.trans s5,Pb,s5 _ _ M0,s5 _ _ Kz,rfl⟩ (fun m σ H6 _ AL=>by obtain⟨_,_,_,_,g6,_⟩:=AL;exact AQ.of g6) ?_ ?_
  ·rintro m v σ H6 hv ⟨b6,EB,Ef,s6,Pc,Fm,Fn,rfl⟩
   have hm:m < ws.length:=by have:=(gQ0 hv);rw[aB]at this;exact this
   have hk0:=getElem?_eq_getElem hm
   have B5:=bG hk0
   rw[B5]at hv
   have hv:=Option.some.inj hv
   subst hv
   generalize ws[m]=y at hk0
   have Pd:=Hc y (mem_of_getElem? hk0)
   have DX:ws.take (m + 1)=ws.take m ++ [y]:=by rw[take_succ,hk0];rfl
   have Kx:=lX (some l) a (ws.take m) y
   generalize Me:addW (some l) a (ws.take m)=a6 at EB Ef Fm Fn Kx
   have hf6:=EB.By
   refine⟨_,rfl,_,rfl,fa,_,rfl,Bx.k (k:=Sum.inl (y:Int)) Fm,_,rfl,?_⟩
   rw[nH]
   by_cases Dq:y ∈ a6.map (·.1)
   ·rw[decide_eq_true Dq]
    refine aH ⟨_,?_,?_,s6,Pc,?_,?_,rfl⟩<;>rw[DX,Kx,if_pos Dq]
    ·exact EB
    ·exact Ef
    ·exact Fm
    ·exact Fn
   ·rw[decide_eq_false Dq]
    refine aI ⟨_,rfl,_,rfl,_,rfl,fa,_,rfl,Dl.k (k:=Sum.inl (y:Int)) Fm (by rw[sizeLine_eq,length_map];omega),?_⟩
    have ep:cj (a6.map ak) (Sum.inl (y:Int)) (V.int (l:Int))=(a6 ++ [(y,some l)]).map ak:=rU (c:=some l) Dq
    rw[ep]
    have Ig:(aw H6 fa (.dK ((a6 ++ [(y,some l)]).map ak))) Ol=some (.lst (nV ws)):=by rw[ai nOf];exact Pc
    have Pe:(aw H6 fa (.dK ((a6 ++ [(y,some l)]).map ak))) ln=some (.lst (nV (a6.map (·.1)))):=by rw[ai K0];exact Fn
    have Sm:(aw H6 fa (.dK ((a6 ++ [(y,some l)]).map ak))) fa=some (.dK ((a6 ++ [(y,some l)]).map ak)):=ad
    have s7:AI H (aw H6 fa (.dK ((a6 ++ [(y,some l)]).map ak))):=fun b o e=>by rw[ai (ah e C0)];exact s6 _ _ e
    generalize aw H6 fa (.dK ((a6 ++ [(y,some l)]).map ak))=H7 at Ig Pe Sm s7 ⊢
    refine⟨_,rfl, .inl ⟨rfl,_,AQ.of Pe⟩,_,rfl,ln,_,_,rfl,rfl,Pe,by rw[sizeLine_eq,aB,length_map];omega,?_⟩
    refine⟨_,?_,?_,fun b o e=>by rw[ai (ah e Hx)];exact s7 _ _ e,by rw[ai nOl];exact Ig,?_,?_,rfl⟩<;>rw[DX,Kx,if_neg Dq]
    ·exact EB.add Pd Dq
    ·rw[length_append];omega
    ·rw[ai (Ne.symm K0)];exact Sm
    ·rw[ad,map_append,fD];rfl
  ·rintro σ H6 ⟨b6,EB,Ef,s6,Pc,Fm,Fn,rfl⟩
   rw[aB,take_length]at EB Ef Fm Fn
   exact⟨_,_,_,EB,by omega,Ee,s6,Fm,Fn,rfl⟩
noncomputable def dP (g:Nat)(S:List Nat)(l:Nat):List Nat:=S.set l (S.getD l 0 ||| 2 ^ g)
noncomputable def wq (wy:aX->Nat)(ps:List (Int × Int))(n:Nat)(S:List Nat)(g:Nat):List Nat:=((bp wy ps n g).map (·.1)).foldl (dP g) S
noncomputable def cc (wy:aX->Nat)(ps:List (Int × Int))(n m:Nat):List Nat:=(List.range m).foldl (wq wy ps n) (List.replicate ps.length 0)
theorem fE (wy:aX->Nat)(ps:List (Int × Int))(n m:Nat):cc wy ps n (m + 1)=wq wy ps n (cc wy ps n m) m:=by
 unfold cc
 rw[range_succ,foldl_append];rfl
theorem oy (g:Nat)(S:List Nat)(l:Nat):(dP g S l).length=S.length:=by unfold dP;rw[length_set]
theorem iM (g:Nat):∀ (ls S:List Nat),(ls.foldl (dP g) S).length=S.length
 | [],S=>rfl
 | l :: ls,S=>by rw[foldl_cons,iM g ls,oy]
theorem eO (wy:aX->Nat)(ps:List (Int × Int))(n:Nat):∀ m,(cc wy ps n m).length=ps.length
 | 0=>by unfold cc;simp
 | m + 1=>by rw[fE];unfold wq;rw[iM,eO wy ps n m]
theorem xi {g m:Nat}(hg:g < m){S:List Nat}(h:∀ z ∈ S,z < 2 ^ m)(l:Nat):∀ z ∈ dP g S l,z < 2 ^ m:=fun z hz=>by
 unfold dP at hz
 rcases List.mem_or_eq_of_mem_set hz with hz | hz
 ·exact h z hz
 ·rw[hz]
  refine Nat.or_lt_two_pow ?_ (Nat.pow_lt_pow_right (by decide) hg)
  rw[getD_eq_getElem?_getD]
  cases e:S[l]? with
  | none=>exact two_pow_pos m
  | some y=>exact h y (mem_of_getElem? e)
theorem p6 {g m:Nat}(hg:g < m):∀ (ls:List Nat){S:List Nat},(∀ z ∈ S,z < 2 ^ m)->∀ z ∈ ls.foldl (dP g) S,z < 2 ^ m
 | [],S,h=>h
 | l :: ls,S,h=>p6 hg ls (xi hg h l)
theorem gv (wy:aX->Nat)(ps:List (Int × Int))(n:Nat):∀ m,m <= n->∀ z ∈ cc wy ps n m,z < 2 ^ n
 | 0,_,z,hz=>by
  unfold cc at hz
  rw[List.range_zero,List.foldl_nil]at hz
  rw[List.eq_of_mem_replicate hz];exact two_pow_pos n
 | m + 1,h,z,hz=>by
  rw[fE]at hz
  exact p6 (by omega) _ (gv wy ps n m (by omega)) z hz
theorem fT {F:List Nat}{p:Nat}(h:p < F.length):(nV F)[p]? = some (V.int ((F.getD p 0:Nat):Int)):=by
 have e:=getElem?_eq_getElem h
 rw[bG e,getD_eq_getElem?_getD,e];rfl
theorem zY (F:List Nat)(i v:Nat):(nV F).set i (.int (v:Int))=nV (F.set i v):=by unfold nV;rw[List.map_set]
theorem ya {n i:Nat}(h:i < n):yb n (i:Int)=some i:=by
 unfold yb
 rw[if_pos (by omega),if_pos (by omega),toNat_natCast]
noncomputable def iV (c:Cs)(C:Addr)(J:eE):Sp:=fun vs H Q _=>∃ (x lx AN lt:Addr)(n:Nat)(AK:List V)(ps:List (Int × Int))(wy:aX->Nat),vs=[.ref x]/\Bc c C J H x lx AN lt n AK ps wy /\
 ∀ (D:Addr)(H':Hp),AI H H'->H D=none->H' D=some (.tup (nV (cc wy ps n n)))->Q (.ref D) H'
noncomputable def Az (s:Stmt):Scope:=match s with
 | .Assign _ (.ListComp _ _ sc _) _=>sc
 | _=>zQ0
abbrev Sn:List Str:=["table", "sets", "goal", "lane"]
theorem FE:ar Sn ["table"] (aj uS):=L2.Bl
theorem Pf:BU Sn (aj uS) (Az ((aP uS).getD 0 (.Pass ⟨0,0,0,0⟩))) [] []:=L2.Ds
theorem Pg:(["lane"]:List Str).Nodup:=by decide +kernel
theorem zP {c:Cs}{J:eE}{C f fw fh:Addr}{fd dw dh:FuncData}(F:Bj K "met" "met" uS f fd)(T:eX mg)(L:li K c)(W:gy K C fw dw J)(nl:AW K C "land")
  (mh:mg "lanes_ahead" = some (.ref fh)) (kh:keepIn K (.ref fh)=true) (bh:Binds K dh ["table", "goal"] []) (Gh:AJ P w K mg base aC 5 fh dh ["table", "goal"] (mI c C J)) :
  AJ P w K mg base aC 6 f fd ["table"] (iV c C J):=by
 refine F.ok FE (fun vs H Q E h=>?_) (fun Bb A outer s H vs Q E hr h=>?_)
 ·obtain⟨x,lx,AN,lt,n,AK,ps,wy,rfl,_⟩:=h
  rfl
 ·obtain⟨x,lx,AN,lt,n,AK,ps,wy,rfl,hT,q⟩:=h
  have h40:=hT.By
  have hn:=hT.CB
  refine⟨_,af (eK (i:=1) (own:=["lane"]) (capN:=[]) (cap:=[]) Pf rfl FE.nd rfl rfl (mW (aF (aF (pv 0) rfl) rfl))
    (fun C s' H' fp=>⟨ao (i:=0) Pg rfl (Or.inl rfl),cx,am⟩))
   (af (aK PassesOwn.never rfl (aR rfl T.range (aa (aF (aF (pv 0) rfl) rfl) ae)) (ao (i:=2) FE.nd rfl (Or.inl rfl))
    (ag (aK PassesOwn.never rfl (jo (aq Gh hr rfl mh kh bh .nil ax (aa (pv 0) (aa (pv 2) ae)))) (ao (i:=3) FE.nd rfl (Or.inl rfl))
     (ag (qG (az y6 (aU Bf (pv 1) (pv 3) (fun _ _=>rfl)) (az qK am (pv 2))) (zt (pv 1) (pv 3) uK))))))
   (ag (ap (cU cf rfl T.tuple PySem.Pv.boot_tuple (aa (pv 1) ae))))),?_⟩
  obtain⟨dx,fs,hx,hf⟩:=hT.i
  have M3:AK.length=ps.length:=Paired.length hT.l.2.2
  refine⟨_,rfl,x,C,dx,fs,_,rfl,hx,W.cl,nl,hf,lx,c.land,AN,_,_,rfl,hT.l.1,L.cl,L.nl,rfl,lt,rfl,⟨_,Ba.of hT.l.2.1⟩,bI AK.length (by rw[sizeLine_eq];omega) (fun i acc H4=>H4=H/\acc=nV (List.replicate i 0)) ⟨rfl,rfl⟩ (fun i acc H4 h=>by rw[h.2,aB,length_replicate];exact Nat.le_refl _) ?_ ?_⟩
  ·rintro i acc H4 hi ⟨rfl,rfl⟩
   refine⟨⟨AK,AK[i],Ba.of hT.l.2.1,getElem?_eq_getElem hi⟩,fun y H5 hy=>?_⟩
   obtain⟨rfl,_⟩:=hy
   refine⟨rfl,?_⟩
   rw[List.replicate_succ',fD];rfl
  rintro acc H4 ⟨rfl,rfl⟩
  refine⟨⟨AK,Ba.of hT.l.2.1,Nat.le_refl _⟩,fun Se K1=>?_⟩
  rw[M3]
  have s1:=(AI.refl H4).new (o := .lst (nV (List.replicate ps.length 0))) K1
  have g1:(aw H4 Se (.lst (nV (List.replicate ps.length 0)))) Se=some (.lst (nV (cc wy ps n 0))):=ad
  show ip 1 (V.ref Se) _ (aw H4 Se (.lst (nV (List.replicate ps.length 0)))) _
  generalize aw H4 Se (.lst (nV (List.replicate ps.length 0)))=H1 at s1 g1 ⊢
  refine⟨_,rfl,x,C,dx,fs,_,rfl,s1 _ _ hx,W.cl,nl,hf,lx,c.land,AN,_,_,rfl,s1 _ _ hT.l.1,L.cl,L.np,rfl,(n:Int),rfl,by omega,by omega,?_⟩
  rw[toNat_natCast]
  refine aZ (n:=n) (fun g σ H2=>∃ a2 a3:Option V,AI H4 H2/\H2 Se=some (.lst (nV (cc wy ps n g)))/\σ=[some (.ref x),some (.ref Se),a2,a3])
   ⟨none,none,s1,g1,rfl⟩ ?_ ?_
  ·rintro g σ H2 hg ⟨a2,a3,s2,g2,rfl⟩
   rw[Int.zero_add]
   refine⟨_,rfl,_,rfl,x,lx,AN,lt,n,AK,ps,wy,g,rfl,hT.same W s2,hg,fun fa H3 s3 C0 hA Ph=>⟨fa,_,rfl,Ph,fun ob=>?_⟩⟩
   have K2:(aw H3 fa (.B2 ob (.dK ((bp wy ps n g).map ak)))) fa=some (.B2 ob (.dK ((bp wy ps n g).map ak))):=ad
   have s5:AI H2 (aw H3 fa (.B2 ob (.dK ((bp wy ps n g).map ak)))):=fun b o e=>by rw[ai (ah e C0)];exact s3 _ _ e
   generalize aw H3 fa (.B2 ob (.dK ((bp wy ps n g).map ak)))=H5 at K2 s5 ⊢
   have nfS:fa ≠ Se:=Ne.symm (ah g2 C0)
   refine p5 (a:=fa) (o:=ob) (kvs:=(bp wy ps n g).map ak) (fun j σ H6=>∃ a3:Option V,AI H4 H6/\H6 Se=some (.lst (nV ((((bp wy ps n g).map (·.1)).take j).foldl (dP g) (cc wy ps n g))))/\H6 fa=some (.B2 ob (.dK ((bp wy ps n g).map ak)))/\σ=[some (.ref x),some (.ref Se),some (.int (g:Int)),a3])
    ⟨_,s2.trans s5,s5 _ _ g2,K2,rfl⟩ (fun j σ H6 _ AL=>by obtain⟨_,_,_,g6,_⟩:=AL;exact g6) ?_ ?_
   ·rintro j k σ H6 hk ⟨a3,s6,Fp,g6,rfl⟩
    have hj:j < (bp wy ps n g).length:=by have:=(gQ0 hk);simpa using this
    have hjp:=getElem?_eq_getElem hj
    generalize (bp wy ps n g)[j]=pd at hjp
    obtain⟨l,lc⟩:=pd
    have ek:k=Sum.inl (l:Int):=by
     rw[getElem?_map,getElem?_map,hjp]at hk
     exact(Option.some.inj hk).symm
    subst ek
    rw[show kV (Sum.inl (l:Int))=V.int (l:Int) from rfl]
    have hl:l < ps.length:=hA.lt _ (mem_of_getElem? hjp)
    have hjm:((bp wy ps n g).map (·.1))[j]? = some l:=by rw[getElem?_map,hjp];rfl
    have DX:(((bp wy ps n g).map (·.1)).take (j + 1)).foldl (dP g) (cc wy ps n g)=dP g ((((bp wy ps n g).map (·.1)).take j).foldl (dP g) (cc wy ps n g)) l:=by
     rw[take_succ,hjm,foldl_append];rfl
    have CK:((((bp wy ps n g).map (·.1)).take j).foldl (dP g) (cc wy ps n g)).length=ps.length:=by rw[iM,eO]
    rw[DX]
    generalize (((bp wy ps n g).map (·.1)).take j).foldl (dP g) (cc wy ps n g)=S at Fp CK
    refine⟨_,rfl,_,rfl,Se,_,_,_,rfl,rfl,AQ.of Fp,aJ (fT (p:=l) (by omega)),_,rfl,_,_,rfl,rfl,⟨(show (0:Int) <= (g:Int) by omega),(show (g:Int) <= 1000000 by omega),(by decide)⟩,_,_,rfl,rfl,?_⟩
    refine⟨_,rfl,_,rfl,Se,_,(l:Int),l,rfl,rfl,Fp,ya (by rw[aB];omega),?_⟩
    have e:Builtin.bitOr ((S.getD l 0:Nat):Int) (1 * 2 ^ (g:Int).toNat)=((S.getD l 0 ||| 2 ^ g:Nat):Int):=by
     rw[toNat_natCast,one_mul,show (2:Int) ^ g=((2 ^ g:Nat):Int) by rw[natCast_pow];rfl,Yd.CG]
    dsimp only
    rw[e,zY]
    exact⟨_,fun b o e=>by rw[ai (ah e K1)];exact s6 _ _ e,ad,by rw[ai nfS];exact g6,rfl⟩
   ·rintro σ H6 ⟨a3,s6,Fp,g6,rfl⟩
    refine⟨_,_,s6,?_,rfl⟩
    rw[take_of_length_le (by rw[length_map,length_map];exact Nat.le_refl _)]at Fp
    rw[fE];exact Fp
  ·rintro σ H2 ⟨a2,a3,s2,g2,rfl⟩
   refine⟨_,rfl,Se,_,rfl, .inl ⟨AQ.of g2,fun t ht=>q t _ (s2.new ht) (s2.free ht) ad⟩⟩
end K25
namespace L2
open PySem PySem.Spec PyProof.Rows
section
variable {X:Cx}{a:Expr}{ta:TE}{pos:Pos}
noncomputable def K3 (K:Frag)(ta:TE):TE:=fun σ H Q=>ta σ H fun x H1=>∃ k,A4 K x H1 k/\Q (.bl (!k)) H1
theorem xv (ha:PE X a ta):PE X (.UnaryOp .Not a pos) (K3 X.K ta):=by
 intro pins s σ H Q I h
 refine UnaryOp_ (aW (ha pins s σ H _ I h) fun v s1 AL=>?_)
 obtain⟨x,H1,I1,r1,q1⟩:=AL
 obtain⟨k,t,q1⟩:=q1
 refine not_of (aW (u5 pins s1 σ H1 x v (fun b H2=>b=k/\H2=H1) I1 r1 ⟨k,t,rfl,rfl⟩) fun b s2 AL=>?_)
 obtain⟨H2,I2,e1,e2⟩:=AL
 subst e1 e2
 exact⟨.bl (!b),H2,I2,rfl,q1⟩
end
end L2
namespace K25
open PySem L2
variable {P:Program}{w:World}{K:Frag}{mg:Str->Option Value}{base:Heap}
noncomputable def eW (wy:aX->Nat)(ps:List (Int × Int))(l g:Nat):Bool:=!decide ((ps.getD l (0,0)).2=(g:Int)) && (bZ wy ps g l).isEmpty
noncomputable def j9 (c:Cs)(C:Addr)(J:eE):Sp:=fun vs H Q _=>∃ (x lx AN lt:Addr)(n:Nat)(AK:List V)(ps:List (Int × Int))(wy:aX->Nat)(l g:Nat),vs=[.ref x, .int l, .int g]/\Bc c C J H x lx AN lt n AK ps wy/\l < ps.length/\g < n/\∀ H',AI H H'->Q (.bl (eW wy ps l g)) H'
theorem Pj:ar ["table", "lane", "goal"] ["table", "lane", "goal"] (aj mP):=L2.Bl
theorem tF {c:Cs}{J:eE}{C f fw fe fo:Addr}{fd dw de Hv:FuncData}(F:Bj K "is_lost" "is_lost" mP f fd)(L:li K c)(W:gy K C fw dw J)(nl:AW K C "land")(M:wQ K c fe de)(Ge:AJ P w K mg base aC 1 fe de ["self", "lane"] (mH c Prod.snd))
  (mo:mg "onward" = some (.ref fo)) (ko:keepIn K (.ref fo)=true) (bo:Binds K Hv ["table", "lane", "goal"] []) (Go:AJ P w K mg base aC 4 fo Hv ["table", "lane", "goal"] (sT c C J)) :
  AJ P w K mg base aC 5 f fd ["table", "lane", "goal"] (j9 c C J):=by
 refine F.ok Pj (fun vs H Q E h=>?_) (fun Bb A outer s H vs Q E hr h=>?_)
 ·obtain⟨x,lx,AN,lt,n,AK,ps,wy,l,g,rfl,_⟩:=h
  rfl
 ·obtain⟨x,lx,AN,lt,n,AK,ps,wy,l,g,rfl,hT,hl,hg,q⟩:=h
  have Cn:AU 1 _:=hr.mono (by decide)
  refine⟨_,ag (ap (ck (bY eV (bK (aF (pv 0) rfl) L.cl M.m Ge Cn M.b .nil ax (aa (pv 1) ae)) (pv 2) (a9 _)) (dR (xv (aq Go hr rfl mo ko bo .nil ax (aa (pv 0) (aa (pv 1) (aa (pv 2) ae)))))))),?_⟩
  obtain⟨dx,fs,hx,hf⟩:=hT.i
  have he:=getElem?_eq_getElem hl
  have Kw:ps.getD l (0,0)=ps[l]:=by rw[getD_eq_getElem?_getD,he];rfl
  unfold eW at q
  rw[Kw]at q
  generalize ps[l]=pr at he q
  refine⟨_,rfl,x,C,dx,fs,_,rfl,hx,W.cl,nl,hf,lx,AN,_,rfl,hT.l.1,rfl,_,rfl,lx,AN,lt,(n:Int),AK,ps,l,pr,rfl,hT.l,he,_,rfl,rfl,_,rfl,?_⟩
  rw[im]
  by_cases h1:pr.2=(g:Int)
  ·rw[decide_eq_true h1]
   have:=q H (AI.refl H)
   rw[decide_eq_true h1]at this
   exact aH this
  ·rw[decide_eq_false h1]
   refine aI ⟨_,rfl,_,rfl,_,rfl,x,lx,AN,lt,n,AK,ps,wy,l,g,rfl,hT,hl,hg,fun D H' s' hD gD=>?_⟩
   refine⟨_, .inl ⟨_,AQ.of gD,rfl⟩,?_⟩
   have:=q H' s'
   rw[decide_eq_false h1]at this
   have e:(!(!(nV (bZ wy ps g l)).isEmpty))=(bZ wy ps g l).isEmpty:=by
    rw[Bool.not_not]
    cases bZ wy ps g l<;>rfl
   show Q (V.bl (!(!(nV (bZ wy ps g l)).isEmpty))) H'
   rw[e]
   exact this
noncomputable def bT (m:Nat):List Nat:=Yd.Cd m (Builtin.Int.intBits (m:Int))
theorem lG (m:Nat):cJ m=nV (bT m):=rfl
noncomputable def jW (S:List Nat)(l:Nat):List (Nat × Nat):=(bT (S.getD l 0)).map fun g=>(l,g)
noncomputable def dS (S:List Nat)(m:Nat):List (Nat × Nat):=(List.range m).flatMap (jW S)
noncomputable def dC (wy:aX->Nat)(ps:List (Int × Int))(n:Nat):Option (Nat × Nat):=(dS (cc wy ps n n) ps.length).find? fun q=>eW wy ps q.1 q.2
theorem gu (S:List Nat)(m:Nat):dS S (m + 1)=dS S m ++ jW S m:=by
 unfold dS
 rw[range_succ,flatMap_append];simp
theorem t5 (S:List Nat){m k:Nat}(h:m <= k):∃ r,dS S k=dS S m ++ r:=by
 induction k with
 | zero=>exact⟨[],by rw[show m=0 by omega];simp⟩
 | succ k ih =>
  rcases lt_or_ge k m with h1 | h1
  ·exact⟨[],by rw[show m=k + 1 by omega];simp⟩
  ·obtain⟨r,e⟩:=ih h1
   exact⟨r ++ jW S k,by rw[gu,e,append_assoc]⟩
noncomputable def K4 (H:Hp)(v:V):Option (Nat × Nat)->Prop
 | none=>v = .AZ
 | some q=>∃ t,v = .ref t/\H t=some (.tup [.int (q.1:Int), .int (q.2:Int)])
theorem nj {m n g:Nat}(h:m < 2 ^ n)(hg:g ∈ bT m):g < n:=by
 have hb:m.testBit g=true:=(Yd.Bq (Yd.BH m)).mp hg
 refine lt_of_not_le fun hle=>?_
 rw[testBit_lt_two_pow (lt_of_lt_of_le h (pow_le_pow_right (by decide) hle))]at hb
 cases hb
noncomputable def j8 (c:Cs)(C:Addr)(J:eE):Sp:=fun vs H Q _=>∃ (x lx AN lt:Addr)(n:Nat)(AK:List V)(ps:List (Int × Int))(wy:aX->Nat),vs=[.ref x]/\Bc c C J H x lx AN lt n AK ps wy /\
 ∀ (v:V)(H':Hp),AI H H'->K4 H' v (dC wy ps n)->Q v H'
abbrev NLo:List Str:=["table", "lane", "goals", "goal"]
theorem FF:ar NLo ["table"] (aj uU):=L2.Bl
theorem xJ {c:Cs}{J:eE}{C f fw fm fb fi:Addr}{fd dw dm db di:FuncData}(F:Bj K "lost" "lost" uU f fd)(T:eX mg)(W:gy K C fw dw J)
  (mm:mg "met" = some (.ref fm)) (km:keepIn K (.ref fm)=true) (bm:Binds K dm ["table"] []) (Gm:AJ P w K mg base aC 6 fm dm ["table"] (iV c C J))
  (mb:mg "members" = some (.ref fb)) (kb:keepIn K (.ref fb)=true) (bb:Binds K db ["some"] []) (Gb:AJ P w K mg base aC 2 fb db ["some"] lz)
  (mi:mg "is_lost" = some (.ref fi)) (ki:keepIn K (.ref fi)=true) (bi:Binds K di ["table", "lane", "goal"] []) (Gi:AJ P w K mg base aC 5 fi di ["table", "lane", "goal"] (j9 c C J)) :
  AJ P w K mg base aC 7 f fd ["table"] (j8 c C J):=by
 refine F.ok FF (fun vs H Q E h=>?_) (fun Bb A outer s H vs Q E hr h=>?_)
 ·obtain⟨x,lx,AN,lt,n,AK,ps,wy,rfl,_⟩:=h
  rfl
 ·obtain⟨x,lx,AN,lt,n,AK,ps,wy,rfl,hT,q⟩:=h
  have Cy:AU 2 _:=hr.mono (by decide)
  have Hy:AU 5 _:=hr.mono (by decide)
  have hn:=hT.CB
  refine⟨_,af (aK PassesOwn.never rfl (gQ rfl T.enum (aa (aq Gm hr rfl mm km bm .nil ax (aa (pv 0) ae)) ae)) (c7 rfl (aG (ao (i:=1) FF.nd rfl (Or.inl rfl)) (aG (ao (i:=2) FF.nd rfl (Or.inl rfl)) bW)))
    (ag (aK PassesOwn.never rfl (bB (aq Gb Cy rfl mb kb bb .nil ax (aa (pv 2) ae))) (ao (i:=3) FF.nd rfl (Or.inl rfl))
     (ag (aL (cz (aq Gi Hy rfl mi ki bi .nil ax (aa (pv 0) (aa (pv 1) (aa (pv 3) ae))))) (ag (ap (bu (aa (pv 1) (aa (pv 3) ae))))) aA)))))
   (ag (ap bE)),?_⟩
  refine⟨_,rfl,x,lx,AN,lt,n,AK,ps,wy,rfl,hT,fun Mt H1 s1 hMt Pk=>⟨Mt,rfl,⟨_,Ba.of Pk⟩,?_⟩⟩
  have CK:=eO wy ps n n
  have DN:=gv wy ps n n (Nat.le_refl _)
  unfold dC at q
  generalize cc wy ps n n=S at Pk CK DN q
  refine fI (sq:=fun H=>Ba K H Mt) (xs:=nV S) (fun i σ H2=>∃ a1 a2 a3:Option V,AI H1 H2/\(∀ z ∈ dS S i,eW wy ps z.1 z.2=false)/\σ=[some (.ref x),a1,a2,a3])
   ⟨none,none,none,AI.refl H1,(fun z hz=>by cases hz),rfl⟩ (fun i σ H2 _ AL=>by obtain⟨_,_,_,s2,_⟩:=AL;exact Ba.of (s2 _ _ Pk)) ?_ ?_
  ·rintro l v r σ H2 hv ⟨a1,a2,a3,s2,Dx,rfl⟩ FG
   have hl:l < S.length:=by have:=(gQ0 hv);rw[aB]at this;exact this
   have B5:=fT hl
   rw[B5]at hv
   have hv:=Option.some.inj hv
   subst hv
   have EU:S.getD l 0 < 2 ^ n:=by
    rw[getD_eq_getElem?_getD,getElem?_eq_getElem hl]
    exact DN _ (getElem_mem hl)
   have s3:=s2.new (o := .tup [.int (l:Int), .int ((S.getD l 0:Nat):Int)]) FG
   refine⟨r,_,rfl,Ba.of ad,rfl,_,_,rfl,_,_,rfl,rfl,?_⟩
   generalize aw H2 r (.tup [.int (l:Int), .int ((S.getD l 0:Nat):Int)])=H3 at s3 ⊢
   refine⟨_,rfl,S.getD l 0,rfl,lt_of_lt_of_le EU (pow_le_pow_right (by decide) (by omega)),fun Mb K5=>⟨Mb,rfl,⟨_,AQ.of ad⟩,?_⟩⟩
   rw[lG]
   have s4:=s3.new (o := .lst (nV (bT (S.getD l 0)))) K5
   have g4:(aw H3 Mb (.lst (nV (bT (S.getD l 0))))) Mb=some (.lst (nV (bT (S.getD l 0)))):=ad
   generalize aw H3 Mb (.lst (nV (bT (S.getD l 0))))=H4 at s4 g4 ⊢
   refine bH (K:=K) (a:=Mb) (xs:=nV (bT (S.getD l 0))) (fun m σ H5=>∃ a3:Option V,AI H1 H5/\H5 Mb=some (.lst (nV (bT (S.getD l 0))))/\(∀ g ∈ (bT (S.getD l 0)).take m,eW wy ps l g=false)/\σ=[some (.ref x),some (.int (l:Int)),some (.int ((S.getD l 0:Nat):Int)),a3])
    ⟨_,s4,g4,fun g hg=>by simp at hg,rfl⟩ (fun m σ H5 _ AL=>by obtain⟨_,_,g5,_⟩:=AL;exact AQ.of g5) ?_ ?_
   ·rintro m v σ H5 hv ⟨a3,s5,g5,EV,rfl⟩
    have hm:m < (bT (S.getD l 0)).length:=by have:=(gQ0 hv);rw[aB]at this;exact this
    have hk0:=getElem?_eq_getElem hm
    have B5:=bG hk0
    rw[B5]at hv
    have hv:=Option.some.inj hv
    subst hv
    generalize (bT (S.getD l 0))[m]=g at hk0
    refine⟨_,rfl,_,rfl,_,rfl,x,lx,AN,lt,n,AK,ps,wy,l,g,rfl,hT.same W (s1.trans s5),by omega,nj EU (mem_of_getElem? hk0),fun H6 s6=>⟨_,rfl,?_⟩⟩
    cases hb:eW wy ps l g with
    | false =>
     refine aH ⟨_,s5.trans s6,s6 _ _ g5,fun g' Ih=>?_,rfl⟩
     rw[take_succ,hk0]at Ih
     rcases mem_append.mp Ih with h | h
     ·exact EV g' h
     ·have:g' = g:=by simpa using h
      rw[this];exact hb
    | true =>
     refine aI ⟨_,rfl,_,rfl,by show 2 <= sizeLine;decide,fun t ht=>?_⟩
     refine q _ _ ((s1.trans (s5.trans s6)).new ht) ?_
     obtain⟨rest,er⟩:=t5 S (m:=l + 1) (k:=ps.length) (by omega)
     have Hz:bT (S.getD l 0)=(bT (S.getD l 0)).take m ++ g :: (bT (S.getD l 0)).drop (m + 1):=by
      have hd:(bT (S.getD l 0)).drop m=g :: (bT (S.getD l 0)).drop (m + 1):=by
       rw[drop_eq_getElem_cons hm]
       congr 1
       exact Option.some.inj ((getElem?_eq_getElem hm).symm.trans hk0)
      exact(take_append_drop m (bT (S.getD l 0))).symm.trans (by rw[hd])
     have ef:(dS S ps.length).find? (fun q=>eW wy ps q.1 q.2)=some (l,g):=by
      rw[er,gu,append_assoc,List.find?_append,List.find?_eq_none.mpr (fun z hz=>by rw[Dx z hz];decide),Option.none_or]
      unfold jW
      rw[Hz,map_append,append_assoc,List.find?_append,List.find?_eq_none.mpr (fun z hz=>by
       obtain⟨g',Ih,rfl⟩:=mem_map.mp hz
       show ¬ eW wy ps l g' = true
       rw[EV g' Ih];decide),Option.none_or]
      show List.find? _ ((l,g) :: _)=_
      rw[List.find?_cons_of_pos (by exact hb)]
     rw[ef]
     exact⟨t,rfl,ad⟩
   ·rintro σ H5 ⟨a3,s5,g5,EV,rfl⟩
    rw[aB,take_length]at EV
    refine⟨_,_,_,s5,fun z hz=>?_,rfl⟩
    rw[gu]at hz
    rcases mem_append.mp hz with hz | hz
    ·exact Dx z hz
    ·obtain⟨g',Ih,rfl⟩:=mem_map.mp hz
     exact EV g' Ih
  ·rintro σ H2 ⟨a1,a2,a3,s2,Dx,rfl⟩
   rw[aB,CK]at Dx
   refine q _ _ (s1.trans s2) ?_
   rw[List.find?_eq_none.mpr (fun z hz=>by rw[Dx z hz];decide)]
   rfl
theorem iQ (l:Option Nat)(a:As)(x:Nat)(ws:List Nat):addW l a (x :: ws)=addW l (if x ∈ a.map (·.1) then a else a ++ [(x,l)]) ws:=rfl
theorem i7 (l:Option Nat):∀ (ws:List Nat)(a:As),∃ r,addW l a ws=a ++ r
 | [],a=>⟨[],by rw[wI,append_nil]⟩
 | x :: ws,a=>by
  rw[iQ]
  split
  ·exact i7 l ws a
  ·obtain⟨r,e⟩:=i7 l ws (a ++ [(x,l)])
   exact⟨[(x,l)] ++ r,by rw[e,append_assoc]⟩
theorem kO {l:Option Nat}{ws:List Nat}{a:As}{z:Nat}(h:z ∈ a.map (·.1)):z ∈ (addW l a ws).map (·.1):=by
 obtain⟨r,e⟩:=i7 l ws a
 rw[e,map_append]
 exact mem_append_left _ h
theorem kP (l:Option Nat):∀ (ws:List Nat)(a:As)(x:Nat),x ∈ ws->x ∈ (addW l a ws).map (·.1)
 | y :: ws,a,x,h=>by
  rw[iQ]
  rcases mem_cons.mp h with h | h
  ·subst h
   refine kO ?_
   split
   ·assumption
   ·rw[map_append]
    exact mem_append_right _ (by simp)
  ·exact kP l ws _ x h
theorem iX {on:Nat->List Nat}{L:Nat}(EC:∀ x,∀ z ∈ on x,z < L):∀ (f:Nat)(a:As)(i:Nat),Cz L a->i <= a.length->L <= f + i->(∀ j y,j < i->a[j]? = some y->∀ z ∈ on y.1,z ∈ a.map (·.1)) ->
  (∀ y ∈ gn on f a i,∀ z ∈ on y.1,z ∈ (gn on f a i).map (·.1))/\∀ z ∈ a.map (·.1),z ∈ (gn on f a i).map (·.1)
 | 0,a,i,ok,hi,hf,inv=>by
  have:=ok.By
  refine⟨fun y hy z hz=>?_,fun z hz=>hz⟩
  obtain⟨j,hj,e⟩:=getElem_of_mem (show y ∈ a from hy)
  exact inv j y (by omega) (by rw[getElem?_eq_getElem hj,e]) z hz
 | f + 1,a,i,ok,hi,hf,inv=>by
  cases h:a[i]? with
  | none =>
   rw[jE h]
   have hl:a.length <= i:=List.getElem?_eq_none_iff.mp h
   refine⟨fun y hy z hz=>?_,fun z hz=>hz⟩
   obtain⟨j,hj,e⟩:=getElem_of_mem hy
   exact inv j y (by omega) (by rw[getElem?_eq_getElem hj,e]) z hz
  | some x =>
   rw[iB h]
   have AV:i < a.length:=(gQ0 h)
   obtain⟨r,er⟩:=i7 (some x.1) (on x.1) a
   have hlen:i + 1 <= (addW (some x.1) a (on x.1)).length:=by rw[er,length_append];omega
   obtain⟨h1,h2⟩:=iX EC f (addW (some x.1) a (on x.1)) (i + 1) (Cz.addW (on x.1) ok (EC x.1)) hlen (by omega) (fun j y hj hy z hz=>by
    have hy':a[j]? = some y:=by
     rw[er,getElem?_append_left (by omega)]at hy
     exact hy
    rcases lt_or_ge j i with h3 | h3
    ·exact kO (inv j y h3 hy' z hz)
    ·have:j=i:=by omega
     subst this
     rw[h]at hy'
     injection hy' with hy'
     subst hy'
     exact kP _ _ _ z hz)
   exact⟨h1,fun z hz=>h2 z (kO hz)⟩
noncomputable def kS (wy:aX->Nat)(ps:List (Int × Int))(n g z:Nat):Prop:=z ∈ (bp wy ps n g).map (·.1)
theorem lB {wy:aX->Nat}{ps:List (Int × Int)}(h:∀ k,∀ z ∈ wl wy k,z < ps.length)(g x:Nat):∀ z ∈ bZ wy ps g x,z < ps.length:=by
 intro z hz
 unfold bZ at hz
 split at hz
 ·cases hz
 ·exact h _ z hz
theorem i6 {wy:aX->Nat}{ps:List (Int × Int)}(h:∀ k,∀ z ∈ wl wy k,z < ps.length)(n g:Nat) :
  (∀ y ∈ bp wy ps n g,∀ z ∈ bZ wy ps g y.1,z ∈ (bp wy ps n g).map (·.1))/\∀ z ∈ bg wy g n,z ∈ (bp wy ps n g).map (·.1):=by
 have hf:∀ z ∈ bg wy g n,z < ps.length:=fun z hz=>by
  obtain⟨p,_,hp⟩:=mem_flatMap.mp hz
  exact h _ z hp
 have ok:Cz ps.length (addW none [] (bg wy g n)):=Cz.addW _ ⟨nodup_nil,fun x hx=>by cases hx⟩ hf
 obtain⟨h1,h2⟩:=iX (lB h g) ps.length (addW none [] (bg wy g n)) 0 ok (zero_le _) (Nat.le_refl _) (fun j y hj=>absurd hj (not_lt_zero _))
 exact⟨h1,fun z hz=>h2 z (kP _ _ _ z hz)⟩
theorem lO {wy:aX->Nat}{ps:List (Int × Int)}(h:∀ k,∀ z ∈ wl wy k,z < ps.length){n g p z:Nat}(hp:p < n)(hz:z ∈ wl wy [some (p:Int),some (g:Int),none]):kS wy ps n g z :=
 (i6 h n g).2 z (mem_flatMap.mpr ⟨p,mem_range.mpr hp,hz⟩)
theorem oi {wy:aX->Nat}{ps:List (Int × Int)}(h:∀ k,∀ z ∈ wl wy k,z < ps.length){n g l z:Nat}(hl:kS wy ps n g l)(hz:z ∈ bZ wy ps g l):kS wy ps n g z:=by
 obtain⟨y,hy,rfl⟩:=mem_map.mp hl
 exact(i6 h n g).1 y hy z hz
theorem sW {g b:Nat}{S:List Nat}{l l':Nat}(h:(S.getD l 0).testBit b=true):((dP g S l').getD l 0).testBit b=true:=by
 unfold dP
 rw[getD_eq_getElem?_getD,List.getElem?_set]
 by_cases e:l' = l
 ·subst e
  rw[if_pos rfl]
  split
  ·rw[Option.getD_some,testBit_or,h];rfl
  ·rename_i hl
   rw[getD_eq_getElem?_getD,List.getElem?_eq_none (by omega)]at h
   rw[Option.getD_none]at h ⊢
   exact h
 ·rw[if_neg e,← getD_eq_getElem?_getD]
  exact h
theorem gx {g b l:Nat}:∀ (ls:List Nat){S:List Nat},(S.getD l 0).testBit b=true->((ls.foldl (dP g) S).getD l 0).testBit b=true
 | [],_,h=>h
 | _ :: ls,_,h=>gx ls (sW h)
theorem lL {g l:Nat}:∀ (ls:List Nat){S:List Nat},l ∈ ls->l < S.length->((ls.foldl (dP g) S).getD l 0).testBit g=true
 | x :: ls,S,h,hl=>by
  rw[foldl_cons]
  rcases mem_cons.mp h with h | h
  ·subst h
   refine gx ls ?_
   unfold dP
   rw[getD_eq_getElem?_getD,List.getElem?_set,if_pos rfl,if_pos hl,Option.getD_some,testBit_or,testBit_two_pow]
   simp
  ·exact lL ls h (by rw[oy];exact hl)
theorem c9 {wy:aX->Nat}{ps:List (Int × Int)}{n l g:Nat}:∀ {m:Nat},g < m->l < ps.length->kS wy ps n g l->((cc wy ps n m).getD l 0).testBit g=true
 | m + 1,hg,hl,h=>by
  rw[fE]
  rcases lt_or_ge g m with h1 | h1
  ·exact gx _ (c9 h1 hl h)
  ·have:g=m:=by omega
   subst this
   exact lL _ h (by rw[eO];exact hl)
theorem uL {g b l l':Nat}{S:List Nat}(h:((dP g S l').getD l 0).testBit b=true):(S.getD l 0).testBit b=true∨(b=g/\l' = l):=by
 unfold dP at h
 rw[getD_eq_getElem?_getD,List.getElem?_set]at h
 by_cases e:l' = l
 ·rw[if_pos e]at h
  split at h
  ·rw[Option.getD_some,testBit_or,Bool.or_eq_true]at h
   rcases h with h | h
   ·rw[e]at h;exact .inl h
   ·rw[testBit_two_pow]at h
    exact .inr ⟨(of_decide_eq_true h).symm,e⟩
  ·rw[Option.getD_none,zero_testBit]at h
   cases h
 ·rw[if_neg e,← getD_eq_getElem?_getD]at h
  exact .inl h
theorem lM {g b l:Nat}:∀ (ls:List Nat){S:List Nat},((ls.foldl (dP g) S).getD l 0).testBit b=true->(S.getD l 0).testBit b=true∨(b=g/\l ∈ ls)
 | [],_,h => .inl h
 | x :: ls,S,h=>by
  rcases lM ls h with h | ⟨h1,h2⟩
  ·rcases uL h with h | ⟨h1,h2⟩
   ·exact .inl h
   ·exact .inr ⟨h1,by rw[h2];exact mem_cons_self⟩
  ·exact .inr ⟨h1,mem_cons_of_mem _ h2⟩
theorem dB {wy:aX->Nat}{ps:List (Int × Int)}{n l g:Nat}:∀ {m:Nat},((cc wy ps n m).getD l 0).testBit g=true->kS wy ps n g l
 | 0,h=>by
  have e:(cc wy ps n 0).getD l 0=0:=by
   unfold cc
   rw[List.range_zero,List.foldl_nil,getD_eq_getElem?_getD,List.getElem?_replicate]
   split<;>rfl
  rw[e,zero_testBit]at h
  cases h
 | m + 1,h=>by
  rw[fE]at h
  rcases lM _ h with h | ⟨rfl,h⟩
  ·exact dB h
  ·exact h
end K25
namespace L2
open PySem
theorem K6 {X:Cx}{tg it:Expr}{a b:TI}(h1:PI X tg it a)(h2:PI X tg it b):PI X tg it (fun σ H R=>a σ H R∨b σ H R):=fun pins s σ H R I h=>h.elim (h1 pins s σ H R I) (h2 pins s σ H R I)
theorem AI.K7 {K:Frag}{H H':Hp}{a:Addr}{xs:List V}(e:AI H H')(h:Ba K H a xs):Ba K H' a xs:=by
 rcases h with h | h
 ·refine .inl ?_
  rcases h with h | ⟨o,h⟩
  ·exact .inl (e _ _ h)
  ·exact .inr ⟨o,e _ _ h⟩
 ·exact .inr h
noncomputable def Sq (K:Frag)(H:Hp)(a:Addr)(xs:List V):Prop:=AQ K H a xs∨Ba K H a xs
theorem Sq.same {K:Frag}{H H':Hp}{a:Addr}{xs:List V}(h:Sq K H a xs)(s:AI H H'):Sq K H' a xs:=h.elim (fun z => .inl (s.seq z)) (fun z => .inr (AI.K7 s z))
theorem Sq.ix {K:Frag}{H:Hp}{a:Addr}{xs:List V}{i:Int}{v:V}{Q:VK}(h:Sq K H a xs)(e:r6 xs i=some v)(q:Q v H):RA K (.ref a) (.int i) H Q :=
 h.elim (fun z => .inl ⟨a,xs,i,v,rfl,rfl,z,e,q⟩) (fun z => .inr (.inl ⟨a,xs,i,v,rfl,rfl,z,e,q⟩))
theorem iq {α β:Type}{f:α->Option β}{xs:List α}{i:Nat}{x:α}(hx:xs[i]? = some x)(h0:(xs.take i).findSome? f=none)(hb:f x=none):(xs.take (i + 1)).findSome? f=none:=by
 rw[take_succ,hx,Option.toList_some,List.findSome?_append,h0,Option.none_or]
 simp[hb]
theorem sB {α β:Type}{f:α->Option β}{xs:List α}{i:Nat}{x:α}(hx:xs[i]? = some x)(h0:(xs.take i).findSome? f=none){b:β}(hb:f x=some b):xs.findSome? f=some b:=by
 obtain⟨hi,e⟩:=List.getElem?_eq_some_iff.mp hx
 have hd:xs.drop i=x :: xs.drop (i + 1):=by rw[drop_eq_getElem_cons hi,e]
 rw[← take_append_drop i xs,List.findSome?_append,h0,Option.none_or,hd,List.findSome?_cons,hb]
end L2
namespace K25
open PySem L2
variable {P:Program}{w:World}{K:Frag}{mg:Str->Option Value}{base:Heap}
noncomputable def FV (K:Frag)(H:Hp)(v:V):Option (List PyData)->Prop
 | none=>v = .AZ
 | some ds=>∃ t xs,v = .ref t/\H t=some (.tup xs)/\BJ K H xs ds
abbrev Fo:=Option (List PyData)
noncomputable def gJ (L n:Nat)(nums ss:List Int):Bool:=decide (nums.length=L) && (decide (ss.length=L) && ss.all fun s=>decide (0 <= s/\s <= 1 * 2 ^ (n:Int).toNat - 1))
noncomputable def cS (S:List Nat)(l g:Nat):Bool:=(S.getD l 0).testBit g
noncomputable def K8 (wy:aX->Nat)(S:List Nat)(z:Int × Int):Fo:=(wl wy [some z.1,some z.2,none]).findSome? fun l=>if cS S l z.2.toNat then none else some [.str "start", .int z.1, .int z.2, .int l]
noncomputable def c6 (wy:aX->Nat)(n:Nat)(S:List Nat):Fo:=(aN wy n n).findSome? (K8 wy S)
noncomputable def kX (nums:List Int)(S:List Nat)(l g w:Nat):Fo:=if cS S w g then (if nums.getD w 0 <= nums.getD l 0 then some [.str "number", .int l, .int g, .int w] else none) else some [.str "open", .int l, .int g, .int w]
noncomputable def jX (wy:aX->Nat)(ps:List (Int × Int))(nums:List Int)(S:List Nat)(l g:Nat):Fo:=if bZ wy ps g l=[] then some [.str "lost", .int l, .int g] else (bZ wy ps g l).findSome? (kX nums S l g)
noncomputable def pc (wy:aX->Nat)(ps:List (Int × Int))(nums:List Int)(S:List Nat)(l:Nat):Fo:=(Yd.Cd (S.getD l 0) (Builtin.Int.intBits ((S.getD l 0:Nat):Int))).findSome? fun g:Nat=>if (g:Int)=(ps.getD l (0,0)).2 then none else jX wy ps nums S l g
noncomputable def dE (wy:aX->Nat)(ps:List (Int × Int))(nums:List Int)(S:List Nat)(m:Nat):Fo:=(List.range m).findSome? (pc wy ps nums S)
noncomputable def iO (wy:aX->Nat)(ps:List (Int × Int))(n:Nat)(nums ss:List Int):Fo :=
 if gJ ps.length n nums ss then (c6 wy n (ss.map Int.toNat)).or (dE wy ps nums (ss.map Int.toNat) ps.length) else some [.str "size"]
theorem Sr {ms:List Int}{z:Nat}(h:z < ms.length):r6 (ms.map V.int) (z:Int)=some (.int (ms.getD z 0)):=aJ (by simp[h])
theorem atS {S:List Nat}{z:Nat}(h:z < S.length):r6 (nV S) (z:Int)=some (.int ((S.getD z 0:Nat):Int)):=aJ (fT h)
noncomputable def KA (s:Stmt):Scope:=match s with
 | .Return (some (.Call _ [.ListComp _ _ sc _] _ _)) _=>sc
 | _=>zQ0
noncomputable def qb (K:Frag)(c:Cs):Sp:=fun vs H Q _=>∃ (x dx lt na sa:Addr)(n:Nat)(AK:List V)(ps:List (Int × Int))(nums ss:List Int),vs=[.ref x, .ref na, .ref sa]/\bv H c x dx lt (n:Int) AK ps/\n <= 12/\Sq K H na (nums.map V.int)/\Sq K H sa (ss.map V.int)/\ss.length <= 1000/\∀ H',AI H H'->Q (.bl (gJ ps.length n nums ss)) H'
abbrev Ss:List Str:=["land", "numbers", "sets", "lanes"]
theorem KC:ar Ss ["land", "numbers", "sets"] (aj o5):=L2.Bl
theorem Pl:BU Ss (aj o5) (KA ((aP o5).getD 2 (.Pass ⟨0,0,0,0⟩))) ["land"] [0]:=L2.Ds
theorem Pm:(["goals", "land"]:List Str).Nodup:=by decide +kernel
theorem xC {c:Cs}{f fw:Addr}{fd dw:FuncData}(F:Bj K "has_size" "has_size" o5 f fd)(T:eX mg)(L:li K c)(mw:mg "is_within" = some (.ref fw))(kw:keepIn K (.ref fw)=true)(bw:Binds K dw ["value", "least", "most"] [])(Gw:AJ P w K mg base aC 2 fw dw ["value", "least", "most"] dZ) :
  AJ P w K mg base aC 3 f fd ["land", "numbers", "sets"] (qb K c):=by
 refine F.ok KC (fun vs H Q E h=>?_) (fun Bb A outer s H vs Q E hr h=>?_)
 ·obtain⟨x,dx,lt,na,sa,n,AK,ps,nums,ss,rfl,_⟩:=h
  rfl
 ·obtain⟨x,dx,lt,na,sa,n,AK,ps,nums,ss,rfl,hL,hn,hN,hS,M4,q⟩:=h
  refine⟨_,af (au (i:=3) KC.nd rfl (Or.inl rfl) (aE aD rfl T.len PySem.boot_len (aa (aF (pv 0) rfl) ae)))
   (af (aL (PW.pt (jL (ay eV (aE aD rfl T.len PySem.boot_len (aa (pv 1) ae)) (pv 3) (a9 _)) (jK (ay eV (aE aD rfl T.len PySem.boot_len (aa (pv 2) ae)) (pv 3) (a9 _))))) (ag (ap jU)) aA)
   (ag (ap (aE (kM rfl) rfl T.all PyProof.Rows.boot_all (aa (bX (own:=["goals"]) (capN:=["land"]) (cap:=[0]) Pl rfl (K6 (bB (pv 2)) (mW (pv 2)))
    (fun C s' H' fp=>⟨ao (i:=0) Pm rfl (Or.inl rfl),cx,aq Gw hr rfl mw kw bw .nil ax (aa (pv 0) (aa am (aa (az c8 (az qK am (show PE _ _ (IQ K (yG 1) "places") from aF (pv 1) rfl)) am) ae)))⟩)) ae))))),?_⟩
  have Dy:AK.length=ps.length:=Paired.length hL.2.2
  refine⟨_,rfl,x,c.land,dx,_,_,rfl,hL.1,L.cl,L.nl,rfl,lt,_,rfl, .inr (Ba.of hL.2.1),?_⟩
  refine⟨_,rfl,na,_,rfl,hN,_,rfl,rfl,_,rfl,?_⟩
  unfold gJ at q
  rw[im,length_map]
  by_cases h1:nums.length=ps.length
  rotate_left
  ·rw[decide_eq_false (show ¬ ((nums.length:Nat):Int)=(AK.length:Nat) by omega)]
   have:=q H (AI.refl H)
   rw[decide_eq_false h1]at this
   exact aI (aI this)
  rw[decide_eq_true (show((nums.length:Nat):Int)=(AK.length:Nat) by omega)]
  refine aH ⟨_,rfl,sa,_,rfl,hS,_,rfl,rfl,_,rfl,?_⟩
  rw[im,length_map]
  by_cases h2:ss.length=ps.length
  rotate_left
  ·rw[decide_eq_false (show ¬ ((ss.length:Nat):Int)=(AK.length:Nat) by omega)]
   have:=q H (AI.refl H)
   rw[decide_eq_true h1,decide_eq_false h2]at this
   exact aI this
  rw[decide_eq_true (show((ss.length:Nat):Int)=(AK.length:Nat) by omega)]
  refine aH ?_
  have step:∀ (i:Nat)(acc:List V)(z:Int),ss[i]? = some z->((ss.take i).map fun s=>V.bl (decide (0 <= s/\s <= 1 * 2 ^ (n:Int).toNat - 1)))=acc->((ss.take (i + 1)).map fun s=>V.bl (decide (0 <= s/\s <= 1 * 2 ^ (n:Int).toNat - 1)))=acc ++ [V.bl (decide (0 <= z/\z <= 1 * 2 ^ (n:Int).toNat - 1))]:=fun i acc z hz e=>by
   rw[take_succ,hz,map_append,e];rfl
  have get:∀ {i:Nat}{v:V},(ss.map V.int)[i]? = some v->∃ z,ss[i]? = some z/\v = .int z:=fun {i v} h=>by
   rw[getElem?_map]at h
   cases e:ss[i]? with
   | none=>rw[e]at h;cases h
   | some k=>rw[e]at h;exact⟨k,rfl,(Option.some.inj h).symm⟩
  have fin:∀ D,H D=none->∃ (p:Addr)(bs:List Bool),[V.ref D]=[.ref p]/\AQ K (aw H D (.lst (ss.map fun s=>V.bl (decide (0 <= s/\s <= 1 * 2 ^ (n:Int).toNat - 1))))) p (bs.map V.bl)/\Q (.bl (bs.all id)) (aw H D (.lst (ss.map fun s=>V.bl (decide (0 <= s/\s <= 1 * 2 ^ (n:Int).toNat - 1))))):=fun D hD=>by
   refine⟨D,ss.map fun s=>decide (0 <= s/\s <= 1 * 2 ^ (n:Int).toNat - 1),rfl,AQ.of (by rw[ad,map_map];rfl),?_⟩
   have:=q _ ((AI.refl H).new (o := .lst (ss.map fun s=>V.bl (decide (0 <= s/\s <= 1 * 2 ^ (n:Int).toNat - 1)))) hD)
   rw[decide_eq_true h1,decide_eq_true h2,Bool.true_and,Bool.true_and]at this
   rw[all_map]
   exact this
  rcases hS with hS | hS
  ·refine .inl ⟨_,rfl,sa,rfl,⟨_,hS⟩,?_⟩
   refine bI ss.length (by rw[sizeLine_eq];omega) (fun i acc H'=>H' = H/\((ss.take i).map fun s=>V.bl (decide (0 <= s/\s <= 1 * 2 ^ (n:Int).toNat - 1)))=acc) ⟨rfl,rfl⟩ (fun i acc H' h=>by rw[← h.2,length_map];exact length_take_le _ _) (fun i acc H' hi h=>?_) (fun acc H' h=>?_)
   ·obtain⟨rfl,BO⟩:=h
    refine⟨⟨_,_,hS,getElem?_eq_getElem (by rw[length_map];exact hi)⟩,fun v H2 y=>?_⟩
    obtain⟨e,y⟩:=y
    subst e
    obtain⟨z,hz,rfl⟩:=get (y _ hS)
    exact⟨_,rfl,_,rfl,x,c.land,dx,_,_,rfl,hL.1,L.cl,L.np,rfl,_,_,rfl,rfl,⟨by omega,by omega,by decide⟩,_,_,rfl,rfl,z,0,_,rfl,rfl,step i acc z hz BO⟩
   ·obtain⟨rfl,BO⟩:=h
    rw[take_length]at BO
    subst BO
    exact⟨⟨_,hS,by rw[length_map];exact Nat.le_refl _⟩,fun D hD=>fin D hD⟩
  ·refine .inr ⟨_,rfl,sa,rfl,⟨_,hS⟩,?_⟩
   refine bI ss.length (by rw[sizeLine_eq];omega) (fun i acc H'=>H' = H/\((ss.take i).map fun s=>V.bl (decide (0 <= s/\s <= 1 * 2 ^ (n:Int).toNat - 1)))=acc) ⟨rfl,rfl⟩ (fun i acc H' h=>by rw[← h.2,length_map];exact length_take_le _ _) (fun i acc H' hi h=>?_) (fun acc H' h=>?_)
   ·obtain⟨rfl,BO⟩:=h
    refine⟨⟨_,_,hS,getElem?_eq_getElem (by rw[length_map];exact hi)⟩,fun v H2 y=>?_⟩
    obtain⟨e,y⟩:=y
    subst e
    obtain⟨z,hz,rfl⟩:=get (y _ hS)
    exact⟨_,rfl,_,rfl,x,c.land,dx,_,_,rfl,hL.1,L.cl,L.np,rfl,_,_,rfl,rfl,⟨by omega,by omega,by decide⟩,_,_,rfl,rfl,z,0,_,rfl,rfl,step i acc z hz BO⟩
   ·obtain⟨rfl,BO⟩:=h
    rw[take_length]at BO
    subst BO
    exact⟨⟨_,hS,by rw[length_map];exact Nat.le_refl _⟩,fun D hD=>fin D hD⟩
structure CL (K:Frag)(H:Hp)(na sa:Addr)(ps:List (Int × Int))(nums:List Int)(S:List Nat):Prop where
 n:Sq K H na (nums.map V.int)
 s:Sq K H sa (nV S)
 nl:nums.length=ps.length
 sl:S.length=ps.length
 lt:∀ z ∈ S,z < 2 ^ 400
theorem CL.same {K:Frag}{H H':Hp}{na sa:Addr}{ps:List (Int × Int)}{nums:List Int}{S:List Nat}(h:CL K H na sa ps nums S)(s:AI H H'):CL K H' na sa ps nums S:=⟨h.n.same s,h.s.same s,h.nl,h.sl,h.lt⟩
structure AG (P:Program)(w:World)(K:Frag)(mg:Str->Option Value)(base:Heap)(fx:Addr)(dx:FuncData):Prop where
 m:mg "has" = some (.ref fx)
 k:keepIn K (.ref fx)=true
 b:Binds K dx ["some", "number"] []
 G:AJ P w K mg base aC 1 fx dx ["some", "number"] uF
noncomputable def u9 (K:Frag)(c:Cs)(C:Addr)(J:eE):Sp:=fun vs H Q _=>∃ (x lx AN lt sa:Addr)(n:Nat)(AK:List V)(ps:List (Int × Int))(wy:aX->Nat)(S:List Nat),vs=[.ref x, .ref sa]/\Bc c C J H x lx AN lt n AK ps wy/\Sq K H sa (nV S)/\S.length=ps.length/\∀ v H',AI H H'->FV K H' v (c6 wy n S)->Q v H'
noncomputable def pZ (K:Frag):Sp:=fun vs H Q _=>∃ (na sa:Addr)(ps:List (Int × Int))(nums:List Int)(S:List Nat)(l g w:Nat),vs=[.ref na, .ref sa, .int l, .int g, .int w]/\CL K H na sa ps nums S/\l < ps.length/\w < ps.length/\∀ v H',AI H H'->FV K H' v (kX nums S l g w)->Q v H'
noncomputable def m9 (K:Frag)(c:Cs)(C:Addr)(J:eE):Sp:=fun vs H Q _=>∃ (x lx AN lt na sa:Addr)(n:Nat)(AK:List V)(ps:List (Int × Int))(wy:aX->Nat)(nums:List Int)(S:List Nat)(l g:Nat),vs=[.ref x, .ref na, .ref sa, .int l, .int g]/\Bc c C J H x lx AN lt n AK ps wy/\CL K H na sa ps nums S/\l < ps.length/\g < n/\∀ v H',AI H H'->FV K H' v (jX wy ps nums S l g)->Q v H'
noncomputable def mE (K:Frag)(c:Cs)(C:Addr)(J:eE):Sp:=fun vs H Q _=>∃ (x lx AN lt na sa:Addr)(n:Nat)(AK:List V)(ps:List (Int × Int))(wy:aX->Nat)(nums:List Int)(S:List Nat)(l:Nat),vs=[.ref x, .ref na, .ref sa, .int l]/\Bc c C J H x lx AN lt n AK ps wy/\CL K H na sa ps nums S/\l < ps.length/\(∀ z ∈ S,z < 2 ^ n)/\∀ v H',AI H H'->FV K H' v (pc wy ps nums S l)->Q v H'
noncomputable def fM (K:Frag)(c:Cs)(C:Addr)(J:eE):Sp:=fun vs H Q _=>∃ (x lx AN lt pa na sa:Addr)(n:Nat)(AK:List V)(ps:List (Int × Int))(wy:aX->Nat)(nums ss:List Int),vs=[.ref x, .ref pa]/\Bc c C J H x lx AN lt n AK ps wy/\H pa=some (.tup [.ref na, .ref sa])/\Sq K H na (nums.map V.int)/\Sq K H sa (ss.map V.int)/\ss.length <= 1000/\∀ v H',AI H H'->FV K H' v (iO wy ps n nums ss)->Q v H'
theorem kj {wy:aX->Nat}{n m:Nat}{z:Int × Int}(h:z ∈ aN wy n m):∃ p g:Nat,z=((p:Int),(g:Int))/\p < m/\g < n:=by
 obtain⟨p,hp,h⟩:=mem_flatMap.mp h
 obtain⟨g,hg,e⟩:=mem_map.mp h
 exact⟨p,g,e.symm,mem_range.mp hp,mem_range.mp (mem_filter.mp hg).1⟩
theorem FV.AZ {K:Frag}{H:Hp}{v:V}{o:Fo}(h:FV K H v o):decide (v=V.AZ)=decide (o=none):=by
 cases o with
 | none=>have h:v = .AZ:=h;rw[h];rfl
 | some ds=>obtain⟨t,xs,rfl,_⟩:=h;rfl
theorem Pn:ar ["numbers", "sets", "lane", "goal", "way"] ["numbers", "sets", "lane", "goal", "way"] (aj uM):=L2.Bl
theorem xA {f fx:Addr}{fd dx:FuncData}(F:Bj K "way_fault" "way_fault" uM f fd)(X:AG P w K mg base fx dx):AJ P w K mg base aC 2 f fd ["numbers", "sets", "lane", "goal", "way"] (pZ K):=by
 refine F.ok Pn (fun vs H Q E h=>?_) (fun Bb A outer s H vs Q E hr h=>?_)
 ·obtain⟨na,sa,ps,nums,S,l,g,w',rfl,_⟩:=h
  rfl
 ·obtain⟨na,sa,ps,nums,S,l,g,w',rfl,hP,hl,hw,q⟩:=h
  refine⟨_,af (aL (dj (cz (aq X.G hr rfl X.m X.k X.b .nil ax (aa (aU k7 (pv 1) (pv 4) (fun _ _=>rfl)) (aa (pv 3) ae))))) (ag (ap (bu (aa dq (aa (pv 2) (aa (pv 3) (aa (pv 4) ae))))))) aA)
   (af (aL (ay jY (aU k7 (pv 0) (pv 4) (fun _ _=>rfl)) (aU k7 (pv 0) (pv 2) (fun _ _=>rfl)) (a9 _)) (ag (ap (bu (aa dq (aa (pv 2) (aa (pv 3) (aa (pv 4) ae))))))) aA)
   (ag (ap bE))),?_⟩
  have tup:∀ nm:Str,kX nums S l g w' = some [.str nm, .int l, .int g, .int w']->∀ t,H t=none->Q (.ref t) (aw H t (.tup [.str nm, .int l, .int g, .int w'])):=fun nm e t ht=>q _ _ ((AI.refl H).new ht) (by rw[e];exact⟨t,_,rfl,ad, .cons (.str _) (.cons (.int _) (.cons (.int _) (.cons (.int _) .nil)))⟩)
  refine⟨_,rfl,_,rfl,hP.s.ix (atS (by rw[hP.sl];exact hw)) ⟨_,rfl,S.getD w' 0,g,rfl,_,rfl,?_⟩⟩
  cases hb:(S.getD w' 0).testBit g with
  | false=>exact aI ⟨_,rfl,_,rfl,_,rfl,by show 4 <= sizeLine;decide,fun t ht=>tup "open" (by unfold kX cS;rw[hb];rfl) t ht⟩
  | true =>
   refine aH ⟨_,rfl,_,rfl,hP.n.ix (Sr (by rw[hP.nl];exact hw)) ⟨_,rfl,_,rfl,hP.n.ix (Sr (by rw[hP.nl];exact hl)) ⟨_,_,rfl,rfl,_,rfl,?_⟩⟩⟩
   by_cases hle:nums.getD w' 0 <= nums.getD l 0
   ·rw[decide_eq_true hle]
    exact aI ⟨_,rfl,_,rfl,_,rfl,by show 4 <= sizeLine;decide,fun t ht=>tup "number" (by unfold kX cS;rw[hb,if_pos rfl,if_pos hle]) t ht⟩
   ·rw[decide_eq_false hle]
    exact aH (q _ _ (AI.refl H) (by unfold kX cS;rw[hb,if_pos rfl,if_neg hle];rfl))
theorem FH:ar ["table", "numbers", "sets", "lane", "goal", "ways", "way", "found"] ["table", "numbers", "sets", "lane", "goal"] (aj qz):=L2.Bl
theorem vA {c:Cs}{J:eE}{C f fw fo fy:Addr}{fd dw Fq dy:FuncData}(F:Bj K "pair_fault" "pair_fault" qz f fd)(W:gy K C fw dw J)(mo:mg "onward" = some (.ref fo))(ko:keepIn K (.ref fo)=true)(bo:Binds K Fq ["table", "lane", "goal"] [])(Go:AJ P w K mg base aC 4 fo Fq ["table", "lane", "goal"] (sT c C J))
  (my:mg "way_fault" = some (.ref fy)) (ky:keepIn K (.ref fy)=true) (Fi:Binds K dy ["numbers", "sets", "lane", "goal", "way"] []) (Gy:AJ P w K mg base aC 2 fy dy ["numbers", "sets", "lane", "goal", "way"] (pZ K)):AJ P w K mg base aC 5 f fd ["table", "numbers", "sets", "lane", "goal"] (m9 K c C J):=by
 refine F.ok FH (fun vs H Q E h=>?_) (fun Bb A outer s H vs Q E hr h=>?_)
 ·obtain⟨x,lx,AN,lt,na,sa,n,AK,ps,wy,nums,S,l,g,rfl,_⟩:=h
  rfl
 ·obtain⟨x,lx,AN,lt,na,sa,n,AK,ps,wy,nums,S,l,g,rfl,hT,hP,hl,hg,q⟩:=h
  have Cy:AU 2 _:=hr.mono (by decide)
  refine⟨_,af (au (i:=5) FH.nd rfl (Or.inl rfl) (aq Go hr rfl mo ko bo .nil ax (aa (pv 0) (aa (pv 3) (aa (pv 4) ae)))))
   (af (aL (dj (jO (pv 5) (fun _=>rfl))) (ag (ap (bu (aa dq (aa (pv 3) (aa (pv 4) ae)))))) aA)
   (af (aK PassesOwn.never rfl (bB (pv 5)) (ao (i:=6) FH.nd rfl (Or.inl rfl))
    (af (au (i:=7) FH.nd rfl (Or.inl rfl) (aq Gy Cy rfl my ky Fi .nil ax (aa (pv 1) (aa (pv 2) (aa (pv 3) (aa (pv 4) (aa (pv 6) ae)))))))
    (ag (aL (ay fR (pv 7) bE (a9 _)) (ag (ap (pv 7))) aA))))
   (ag (ap bE)))),?_⟩
  refine⟨_,rfl,_,rfl,_,rfl,x,lx,AN,lt,n,AK,ps,wy,l,g,rfl,hT,hl,hg,fun D H1 s1 hD gD=>?_⟩
  have AV:∀ z ∈ bZ wy ps g l,z < ps.length:=by
   intro z hz
   unfold bZ at hz
   split at hz
   ·cases hz
   ·exact hT.ok _ z hz
  unfold jX at q
  generalize bZ wy ps g l=us at AV gD q
  refine⟨_,rfl,_, .inl ⟨_,AQ.of gD,rfl⟩,?_⟩
  cases us with
  | nil =>
   refine aI ⟨_,rfl,_,rfl,by show 3 <= sizeLine;decide,fun t ht=>?_⟩
   exact q _ _ (s1.new ht) (by rw[if_pos rfl];exact⟨t,_,rfl,ad, .cons (.str _) (.cons (.int _) (.cons (.int _) .nil))⟩)
  | cons u0 us0 =>
   rw[if_neg (by intro z;cases z)]at q
   refine aH ?_
   generalize u0 :: us0=us at AV gD q
   refine⟨_,rfl,D,rfl,⟨_,AQ.of gD⟩,?_⟩
   refine bH (K:=K) (a:=D) (xs:=nV us) (fun i σ H2=>∃ a6 a7:Option V,AI H1 H2/\(us.take i).findSome? (kX nums S l g)=none/\σ=[some (.ref x),some (.ref na),some (.ref sa),some (.int l),some (.int g),some (.ref D),a6,a7])
    ⟨none,none,AI.refl _,rfl,rfl⟩ (fun i σ H2 _ AL=>by obtain⟨_,_,s2,_⟩:=AL;exact AQ.of (s2 _ _ gD)) ?_ ?_
   ·rintro i v σ H2 hv ⟨a6,a7,s2,h0,rfl⟩
    have hi:i < us.length:=by have:=(gQ0 hv);rw[aB]at this;exact this
    have hk0:=getElem?_eq_getElem hi
    have B5:=bG hk0
    rw[B5]at hv
    have hv:=Option.some.inj hv
    subst hv
    have hz:=AV _ (getElem_mem hi)
    generalize us[i]=z at hk0 hz
    refine⟨_,rfl,_,rfl,_,rfl,_,rfl,_,rfl,na,sa,ps,nums,S,l,g,z,rfl,hP.same (s1.trans s2),hl,hz,fun fv H3 s3 FI=>?_⟩
    refine⟨_,rfl,rfl,_,rfl,?_⟩
    rw[FI.AZ]
    cases hw:kX nums S l g z with
    | none=>exact aH ⟨_,_,s2.trans s3,iq hk0 h0 hw,rfl⟩
    | some ds =>
     rw[hw]at FI
     exact aI ⟨_,rfl,q _ _ ((s1.trans s2).trans s3) (by rw[sB hk0 h0 hw];exact FI)⟩
   ·rintro σ H2 ⟨a6,a7,s2,h0,rfl⟩
    rw[aB,take_length]at h0
    exact q _ _ (s1.trans s2) (by rw[h0];rfl)
theorem FJ:ar ["table", "numbers", "sets", "lane", "end", "goal", "found"] ["table", "numbers", "sets", "lane"] (aj q5):=L2.Bl
theorem vD {c:Cs}{J:eE}{C f fw fe fm fy:Addr}{fd dw de dm dy:FuncData}(F:Bj K "lane_fault" "lane_fault" q5 f fd)(L:li K c)(W:gy K C fw dw J)(nl:AW K C "land")(M:wQ K c fe de)(Ge:AJ P w K mg base aC 1 fe de ["self", "lane"] (mH c Prod.snd))
  (mm:mg "members" = some (.ref fm)) (km:keepIn K (.ref fm)=true) (bm:Binds K dm ["some"] []) (Gm:AJ P w K mg base aC 2 fm dm ["some"] lz)
  (my:mg "pair_fault" = some (.ref fy)) (ky:keepIn K (.ref fy)=true) (Fi:Binds K dy ["table", "numbers", "sets", "lane", "goal"] []) (Gy:AJ P w K mg base aC 5 fy dy ["table", "numbers", "sets", "lane", "goal"] (m9 K c C J)):AJ P w K mg base aC 6 f fd ["table", "numbers", "sets", "lane"] (mE K c C J):=by
 refine F.ok FJ (fun vs H Q E h=>?_) (fun Bb A outer s H vs Q E hr h=>?_)
 ·obtain⟨x,lx,AN,lt,na,sa,n,AK,ps,wy,nums,S,l,rfl,_⟩:=h
  rfl
 ·obtain⟨x,lx,AN,lt,na,sa,n,AK,ps,wy,nums,S,l,rfl,hT,hP,hl,M5,q⟩:=h
  have Cn:AU 1 _:=hr.mono (by decide)
  have Cy:AU 2 _:=hr.mono (by decide)
  refine⟨_,af (au (i:=4) FJ.nd rfl (Or.inl rfl) (bK (aF (pv 0) rfl) L.cl M.m Ge Cn M.b .nil ax (aa (pv 3) ae)))
   (af (aK PassesOwn.never rfl (bB (aq Gm Cy rfl mm km bm .nil ax (aa (aU k7 (pv 2) (pv 3) (fun _ _=>rfl)) ae))) (ao (i:=5) FJ.nd rfl (Or.inl rfl))
    (ag (aL (ay eV (pv 5) (pv 4) (a9 _))
     (af (au (i:=6) FJ.nd rfl (Or.inl rfl) (aq Gy hr rfl my ky Fi .nil ax (aa (pv 0) (aa (pv 1) (aa (pv 2) (aa (pv 3) (aa (pv 5) ae)))))))
     (ag (aL (ay fR (pv 6) bE (a9 _)) (ag (ap (pv 6))) aA))) aA)))
   (ag (ap bE))),?_⟩
  obtain⟨dx,fs,hx,hf⟩:=hT.i
  have he:=getElem?_eq_getElem hl
  have Kw:ps.getD l (0,0)=ps[l]:=by rw[getD_eq_getElem?_getD,he];rfl
  refine⟨_,rfl,x,C,dx,fs,_,rfl,hx,W.cl,nl,hf,lx,AN,_,rfl,hT.l.1,rfl,_,rfl,lx,AN,lt,(n:Int),AK,ps,l,ps[l],rfl,hT.l,he,?_⟩
  have KD:l < S.length:=by rw[hP.sl];exact hl
  refine⟨_,rfl,_,rfl,hP.s.ix (atS KD) ⟨S.getD l 0,rfl,hP.lt _ (by rw[getD_eq_getElem?_getD,getElem?_eq_getElem KD];exact getElem_mem KD),fun D hD=>⟨D,rfl,⟨_,AQ.of ad⟩,?_⟩⟩⟩
  unfold pc at q
  show _
  have e1:cJ (S.getD l 0)=nV (Yd.Cd (S.getD l 0) (Builtin.Int.intBits ((S.getD l 0:Nat):Int))):=rfl
  rw[e1]
  have Su:∀ z ∈ Yd.Cd (S.getD l 0) (Builtin.Int.intBits ((S.getD l 0:Nat):Int)),z < n:=fun z hz=>nj (M5 _ (by rw[getD_eq_getElem?_getD,getElem?_eq_getElem KD];exact getElem_mem KD)) hz
  generalize Yd.Cd (S.getD l 0) (Builtin.Int.intBits ((S.getD l 0:Nat):Int))=us at q Su ⊢
  have s1:=(AI.refl H).new (o := .lst (nV us)) hD
  have gD:(aw H D (.lst (nV us))) D=some (.lst (nV us)):=ad
  generalize aw H D (.lst (nV us))=H1 at s1 gD ⊢
  rw[Kw]at q
  refine bH (K:=K) (a:=D) (xs:=nV us) (fun i σ H2=>∃ a5 a6:Option V,AI H1 H2/\(us.take i).findSome? (fun g:Nat=>if (g:Int)=(ps[l]).2 then none else jX wy ps nums S l g)=none/\σ=[some (.ref x),some (.ref na),some (.ref sa),some (.int l),some (.int (ps[l]).2),a5,a6])
   ⟨none,none,AI.refl _,rfl,rfl⟩ (fun i σ H2 _ AL=>by obtain⟨_,_,s2,_⟩:=AL;exact AQ.of (s2 _ _ gD)) ?_ ?_
  ·rintro i v σ H2 hv ⟨a5,a6,s2,h0,rfl⟩
   have hi:i < us.length:=by have:=(gQ0 hv);rw[aB]at this;exact this
   have hk0:=getElem?_eq_getElem hi
   have B5:=bG hk0
   rw[B5]at hv
   have hv:=Option.some.inj hv
   subst hv
   generalize us[i]=z at hk0
   refine⟨_,rfl,_,rfl,rfl,_,rfl,?_⟩
   rw[im]
   by_cases hz:(z:Int)=(ps[l]).2
   ·rw[decide_eq_true hz]
    exact aH ⟨_,_,s2,iq hk0 h0 (by rw[if_pos hz]),rfl⟩
   rw[decide_eq_false hz]
   refine aI ⟨_,rfl,_,rfl,_,rfl,_,rfl,_,rfl,x,lx,AN,lt,na,sa,n,AK,ps,wy,nums,S,l,z,rfl,hT.same W (s1.trans s2),hP.same (s1.trans s2),hl,Su z (mem_of_getElem? hk0),fun fv H3 s3 FI=>?_⟩
   refine⟨_,rfl,rfl,_,rfl,?_⟩
   rw[FI.AZ]
   cases hw:jX wy ps nums S l z with
   | none=>exact aH ⟨_,_,s2.trans s3,iq hk0 h0 (by rw[if_neg hz];exact hw),rfl⟩
   | some ds =>
    rw[hw]at FI
    exact aI ⟨_,rfl,q _ _ ((s1.trans s2).trans s3) (by rw[sB hk0 h0 (by rw[if_neg hz];exact hw)];exact FI)⟩
  ·rintro σ H2 ⟨a5,a6,s2,h0,rfl⟩
   rw[aB,take_length]at h0
   exact q _ _ (s1.trans s2) (by rw[h0];rfl)
theorem FK:ar ["table", "sets", "place", "goal", "lane"] ["table", "sets"] (aj zd):=L2.Bl
theorem zK {c:Cs}{J:eE}{C f fw Bh fx:Addr}{fd dw ds dx0:FuncData}(F:Bj K "start_fault" "start_fault" zd f fd)(W:gy K C fw dw J)(Gw:AJ P w K mg base aC 3 fw dw ["self", "place", "goal", "came"] (cu J))(X:AG P w K mg base fx dx0)
  (ms:mg "starts" = some (.ref Bh)) (ks:keepIn K (.ref Bh)=true) (bs:Binds K ds ["table"] []) (Gs:AJ P w K mg base aC 4 Bh ds ["table"] (cG c C J)):AJ P w K mg base aC 5 f fd ["table", "sets"] (u9 K c C J):=by
 refine F.ok FK (fun vs H Q E h=>?_) (fun Bb A outer s H vs Q E hr h=>?_)
 ·obtain⟨x,lx,AN,lt,sa,n,AK,ps,wy,S,rfl,_⟩:=h
  rfl
 ·obtain⟨x,lx,AN,lt,sa,n,AK,ps,wy,S,rfl,hT,hS,M4,q⟩:=h
  have Cn:AU 1 _:=hr.mono (by decide)
  have KG:AU 3 _:=hr.mono (by decide)
  refine⟨_,af (aK PassesOwn.never rfl (bB (aq Gs hr rfl ms ks bs .nil ax (aa (pv 0) ae))) (c7 rfl (aG (ao (i:=2) FK.nd rfl (Or.inl rfl)) (aG (ao (i:=3) FK.nd rfl (Or.inl rfl)) bW)))
    (ag (aK PassesOwn.never rfl (bB (bK (pv 0) W.cl W.m Gw KG W.b .nil ax (aa (pv 2) (aa (pv 3) (aa bE ae))))) (ao (i:=4) FK.nd rfl (Or.inl rfl))
     (ag (aL (dj (cz (aq X.G Cn rfl X.m X.k X.b .nil ax (aa (aU k7 (pv 1) (pv 4) (fun _ _=>rfl)) (aa (pv 3) ae))))) (ag (ap (bu (aa dq (aa (pv 2) (aa (pv 3) (aa (pv 4) ae))))))) aA)))))
   (ag (ap bE)),?_⟩
  obtain⟨dx,fs,hx,hf⟩:=hT.i
  obtain⟨Mx,M6,B3,FD⟩:=W.inst _ _ _ _ hT.j
  rw[hx]at B3
  injection B3 with B3
  injection B3 with _ e1 e2
  subst e1 e2
  refine⟨_,rfl,x,dx,lx,AN,lt,fs,n,AK,ps,wy,rfl,hT.j,hx,hf,hT.l,hT.CB,fun D us H1 s1 hD gD hU=>⟨D,rfl,⟨_,AQ.of gD⟩,?_⟩⟩
  have M7:us.length=(aN wy n n).length:=Paired.length hU
  unfold c6 at q
  have DO:∀ z ∈ aN wy n n,∃ p g:Nat,z=((p:Int),(g:Int))/\p < n/\g < n:=fun z hz=>kj hz
  generalize aN wy n n=zs at q hU M7 DO
  refine bH (K:=K) (a:=D) (xs:=us) (fun i σ H2=>∃ a2 a3 a4:Option V,AI H1 H2/\(zs.take i).findSome? (K8 wy S)=none/\σ=[some (.ref x),some (.ref sa),a2,a3,a4])
   ⟨none,none,none,AI.refl _,rfl,rfl⟩ (fun i σ H2 _ AL=>by obtain⟨_,_,_,s2,_⟩:=AL;exact AQ.of (s2 _ _ gD)) ?_ ?_
  ·rintro i v σ H2 hv ⟨a2,a3,a4,s2,h0,rfl⟩
   obtain⟨z,hz,t,rfl,gt⟩:=AX.get hU hv
   obtain⟨p,g,rfl,hp,hg⟩:=DO z (mem_of_getElem? hz)
   refine⟨t,_,rfl,Ba.of (s2 _ _ gt),rfl,_,_,rfl,_,_,rfl,rfl,?_⟩
   have Ex:=s1.trans s2
   refine⟨_,rfl,x,dx,fs,rfl,Ex _ _ hx,FD,_,rfl,_,rfl,x,n,wy,⟨(p:Int),(g:Int),none,[]⟩,rfl,W.B9 _ _ _ _ _ hT.j Ex,⟨natCast_nonneg p,ofNat_lt.mpr hp⟩,⟨natCast_nonneg g,ofNat_lt.mpr hg⟩,fun H3 D3 s3 OZ=>⟨D3,rfl,⟨_,AQ.of ad⟩,?_⟩⟩
   have hk:cM ⟨(p:Int),(g:Int),none,[]⟩ = [some (p:Int),some (g:Int),none]:=rfl
   rw[hk,ju]
   have AV:=hT.ok [some (p:Int),some (g:Int),none]
   have Po:K8 wy S ((p:Int),(g:Int))=(wl wy [some (p:Int),some (g:Int),none]).findSome? fun l=>if cS S l g then none else some [.str "start", .int (p:Int), .int (g:Int), .int l]:=rfl
   generalize wl wy [some (p:Int),some (g:Int),none]=ws at AV Po ⊢
   have s4:=s3.new (o := .lst (nV ws)) OZ
   have g4:(aw H3 D3 (.lst (nV ws))) D3=some (.lst (nV ws)):=ad
   generalize aw H3 D3 (.lst (nV ws))=H4 at s4 g4 ⊢
   refine bH (K:=K) (a:=D3) (xs:=nV ws) (fun j σ H5=>∃ a4:Option V,AI H4 H5/\(ws.take j).findSome? (fun l=>if cS S l g then none else some [PyData.str "start", .int (p:Int), .int (g:Int), .int l])=none/\σ=[some (.ref x),some (.ref sa),some (.int p),some (.int g),a4])
    ⟨_,AI.refl _,rfl,rfl⟩ (fun j σ H5 _ AL=>by obtain⟨_,s5,_⟩:=AL;exact AQ.of (s5 _ _ g4)) ?_ ?_
   ·rintro j v σ H5 KH ⟨a4,s5,h5,rfl⟩
    have hj:j < ws.length:=by have:=(gQ0 KH);rw[aB]at this;exact this
    have hk0:=getElem?_eq_getElem hj
    have B5:=bG hk0
    rw[B5]at KH
    have KH:=Option.some.inj KH
    subst KH
    have EW:=AV _ (getElem_mem hj)
    generalize ws[j]=l at hk0 EW
    have Sv:=Ex.trans (s4.trans s5)
    refine⟨_,rfl,_,rfl,(hS.same Sv).ix (atS (by rw[M4];exact EW)) ⟨_,rfl,S.getD l 0,g,rfl,_,rfl,?_⟩⟩
    cases hb:(S.getD l 0).testBit g with
    | true=>exact aH ⟨_,s5,iq hk0 h5 (by unfold cS;rw[hb];rfl),rfl⟩
    | false =>
     refine aI ⟨_,rfl,_,rfl,_,rfl,by show 4 <= sizeLine;decide,fun t' ON=>?_⟩
     refine q _ _ (Sv.new ON) ?_
     rw[sB hz h0 (Po.trans (sB hk0 h5 (by unfold cS;rw[hb];rfl)))]
     exact⟨t',_,rfl,ad, .cons (.str _) (.cons (.int _) (.cons (.int _) (.cons (.int _) .nil)))⟩
   ·rintro σ H5 ⟨a4,s5,h5,rfl⟩
    rw[aB,take_length]at h5
    exact⟨_,_,_,s2.trans (s4.trans s5),iq hz h0 (Po.trans h5),rfl⟩
  ·rintro σ H2 ⟨a2,a3,a4,s2,h0,rfl⟩
   rw[M7,take_length]at h0
   exact q _ _ (s1.trans s2) (by rw[h0];rfl)
theorem oq {L n:Nat}{nums ss:List Int}(h:gJ L n nums ss=true):nums.length=L/\ss.length=L/\∀ s ∈ ss,0 <= s/\s <= 1 * 2 ^ (n:Int).toNat - 1:=by
 unfold gJ at h
 simp only[Bool.and_eq_true,decide_eq_true_eq,all_eq_true]at h
 exact h
theorem xg {ss:List Int}(h:∀ s ∈ ss,0 <= s):ss.map V.int=nV (ss.map Int.toNat):=by
 unfold nV
 rw[map_map]
 refine map_congr_left fun s hs=>?_
 show V.int s=V.int ((s.toNat:Nat):Int)
 rw[toNat_of_nonneg (h s hs)]
theorem rM {n:Nat}(hn:n <= 12){ss:List Int}(h:∀ s ∈ ss,0 <= s/\s <= 1 * 2 ^ (n:Int).toNat - 1):∀ z ∈ ss.map Int.toNat,z < 2 ^ n:=by
 intro z hz
 obtain⟨s,hs,rfl⟩:=mem_map.mp hz
 obtain⟨h1,h2⟩:=h s hs
 rw[toNat_natCast,one_mul,show (2:Int) ^ n=((2 ^ n:Nat):Int) by rw[natCast_pow];rfl]at h2
 have:=two_pow_pos n
 omega
abbrev NFa:List Str:=["table", "paper", "numbers", "sets", "found", "lane"]
theorem DP:ar NFa ["table", "paper"] (aj qC):=L2.Bl
theorem vG {c:Cs}{J:eE}{C f fw fz Bh fy:Addr}{fd dw dz ds dy:FuncData}(F:Bj K "fault" "fault" qC f fd)(T:eX mg)(W:gy K C fw dw J)(nl:AW K C "land")
  (mz:mg "has_size" = some (.ref fz)) (kz:keepIn K (.ref fz)=true) (bz:Binds K dz ["land", "numbers", "sets"] []) (Gz:AJ P w K mg base aC 3 fz dz ["land", "numbers", "sets"] (qb K c))
  (ms:mg "start_fault" = some (.ref Bh)) (ks:keepIn K (.ref Bh)=true) (bs:Binds K ds ["table", "sets"] []) (Gs:AJ P w K mg base aC 5 Bh ds ["table", "sets"] (u9 K c C J))
  (my:mg "lane_fault" = some (.ref fy)) (ky:keepIn K (.ref fy)=true) (Fi:Binds K dy ["table", "numbers", "sets", "lane"] []) (Gy:AJ P w K mg base aC 6 fy dy ["table", "numbers", "sets", "lane"] (mE K c C J)):AJ P w K mg base aC 7 f fd ["table", "paper"] (fM K c C J):=by
 refine F.ok DP (fun vs H Q E h=>?_) (fun Bb A outer s H vs Q E hr h=>?_)
 ·obtain⟨x,lx,AN,lt,pa,na,sa,n,AK,ps,wy,nums,ss,rfl,_⟩:=h
  rfl
 ·obtain⟨x,lx,AN,lt,pa,na,sa,n,AK,ps,wy,nums,ss,rfl,hT,gp,hN,hS,M4,q⟩:=h
  have KG:AU 3 _:=hr.mono (by decide)
  have Hy:AU 5 _:=hr.mono (by decide)
  refine⟨_,af (au (i:=2) DP.nd rfl (Or.inl rfl) (aU Bd (pv 1) am (fun _ _=>rfl)))
   (af (au (i:=3) DP.nd rfl (Or.inl rfl) (aU Bd (pv 1) am (fun _ _=>rfl)))
   (af (aL (dj (cz (aq Gz KG rfl mz kz bz .nil ax (aa (aF (pv 0) rfl) (aa (pv 2) (aa (pv 3) ae)))))) (ag (ap (bu (aa dq ae)))) aA)
   (af (au (i:=4) DP.nd rfl (Or.inl rfl) (aq Gs Hy rfl ms ks bs .nil ax (aa (pv 0) (aa (pv 3) ae))))
   (af (au (i:=5) DP.nd rfl (Or.inl rfl) am)
   (af (eh PassesOwn.never (PW.pt (jM (ay qL (pv 4) bE (a9 _)) (gP (ay gb (pv 5) (aE aD rfl T.len PySem.boot_len (aa (pv 3) ae)) (a9 _)))))
    (af (au (i:=4) DP.nd rfl (Or.inl rfl) (aq Gy hr rfl my ky Fi .nil ax (aa (pv 0) (aa (pv 2) (aa (pv 3) (aa (pv 5) ae))))))
    (ag (mT (i:=5) DP.nd rfl (Or.inl rfl) am nq))))
   (ag (ap (pv 4)))))))),?_⟩
  obtain⟨dx,fs,hx,hf⟩:=hT.i
  have hP:Ba K H pa [.ref na, .ref sa]:=Ba.of gp
  refine⟨_,rfl,pa,_,0,_,rfl,rfl,hP,aJ (j:=0) rfl,?_⟩
  refine⟨_,rfl,pa,_,1,_,rfl,rfl,hP,aJ (j:=1) rfl,?_⟩
  refine⟨_,rfl,x,C,dx,fs,_,rfl,hx,W.cl,nl,hf,_,rfl,_,rfl,lx,AN,lt,na,sa,n,AK,ps,nums,ss,rfl,hT.l,hT.CB,hN,hS,M4,fun H1 s1=>⟨_,rfl,?_⟩⟩
  unfold iO at q
  cases hz:gJ ps.length n nums ss with
  | false =>
   refine aI ⟨by show 1 <= sizeLine;decide,fun t ht=>?_⟩
   refine q _ _ (s1.new ht) ?_
   rw[hz]
   exact⟨t,_,rfl,ad, .cons (.str _) .nil⟩
  | true =>
   rw[hz,if_pos rfl]at q
   refine aH ?_
   obtain⟨z1,z2,z3⟩:=oq hz
   have eS:=xg fun s hs=>(z3 s hs).1
   have AV:=rM hT.CB z3
   have CK:(ss.map Int.toNat).length=ps.length:=by rw[length_map];exact z2
   rw[eS]at hS
   generalize ss.map Int.toNat=S at q hS AV CK eS
   have Pp:∀ z ∈ S,z < 2 ^ 400:=fun z Cq=>lt_of_lt_of_le (AV z Cq) (pow_le_pow_right (by decide) (by have:=hT.CB;omega))
   refine⟨_,rfl,_,rfl,x,lx,AN,lt,sa,n,AK,ps,wy,S,rfl,hT.same W s1,hS.same s1,CK,fun fv H2 s2 FI=>?_⟩
   have Ex:=s1.trans s2
   have h40:=hT.By
   refine⟨fun m σ H'=>∃ (v:V)(i:Nat),m=ps.length - i/\i <= ps.length/\AI H H'/\FV K H' v ((c6 wy n S).or (dE wy ps nums S i))/\σ=[some (.ref x),some (.ref pa),some (.ref na),some (.ref sa),some v,some (.int (i:Int))],?_,?_⟩
   ·refine⟨ps.length,fv,0,rfl,zero_le _,Ex,?_,rfl⟩
    rw[show dE wy ps nums S 0=none from rfl,Option.or_none]
    exact FI
   rintro m σ H' ⟨v,i,rfl,hi,s',hv,rfl⟩
   refine⟨_,rfl,rfl,_,rfl,?_⟩
   rw[hv.AZ]
   cases ho:(c6 wy n S).or (dE wy ps nums S i) with
   | some ds =>
    rw[ho]at hv
    refine aH (aH ?_)
    refine⟨_,rfl,q _ _ s' ?_⟩
    have KI:(c6 wy n S).or (dE wy ps nums S ps.length)=some ds:=by
     cases hs:c6 wy n S with
     | some d'=>rw[hs]at ho;exact ho
     | none =>
      rw[hs,Option.none_or]at ho
      rw[Option.none_or]
      unfold dE at ho ⊢
      have e:List.range ps.length=List.range i ++ (List.range ps.length).drop i:=by
       have:=(take_append_drop i (List.range ps.length)).symm
       rw[List.take_range,min_eq_left hi]at this
       exact this
      rw[e,List.findSome?_append,ho];rfl
    rw[KI]
    exact hv
   | none =>
    refine aI ⟨_,rfl,_,rfl,sa,_,rfl,hS.same s',_,_,rfl,rfl,_,rfl,?_⟩
    rw[aB,CK]
    by_cases KJ:i < ps.length
    rotate_left
    ·rw[decide_eq_false (show ¬ (i:Int) < (ps.length:Nat) by omega)]
     have:i=ps.length:=by omega
     subst this
     refine aH ⟨_,rfl,q _ _ s' ?_⟩
     rw[ho]
     rw[ho]at hv
     exact hv
    rw[decide_eq_true (show (i:Int) < (ps.length:Nat) by omega)]
    refine aI ⟨fun σ' H3=>∃ (v:V),AI H H3/\FV K H3 v ((c6 wy n S).or (dE wy ps nums S (i + 1)))/\σ' = [some (.ref x),some (.ref pa),some (.ref na),some (.ref sa),some v,some (.int ((i:Int) + 1))],?_,?_⟩
    ·rintro σ' H3 ⟨v',s3,hv3,rfl⟩
     exact⟨ps.length - (i + 1),by omega,v',i + 1,rfl,KJ,s3,hv3,rfl⟩
    refine⟨_,rfl,_,rfl,_,rfl,_,rfl,x,lx,AN,lt,na,sa,n,AK,ps,wy,nums,S,i,rfl,hT.same W s',⟨hN.same s',hS.same s',z1,CK,Pp⟩,KJ,AV,fun lv H3 s3 hlv=>?_⟩
    refine⟨_,rfl,_,_,rfl,rfl,lv,s'.trans s3,?_,rfl⟩
    have hs:c6 wy n S=none:=by
     cases e:c6 wy n S with
     | none=>rfl
     | some d'=>rw[e]at ho;cases ho
    rw[hs,Option.none_or]at ho ⊢
    unfold dE at ho ⊢
    rw[range_succ,List.findSome?_append,ho,Option.none_or]
    simpa using hlv
end K25
namespace L2
open PySem
theorem lS {a:Addr}{o:Obj}{kvs:List (Key × V)}{g:TG}{tt:TT}{te:TE}{σ0:St}{H:Hp}{Q:VK}(p:Key->Bool)(f:Key->V)(hn:kvs.length < sizeLine)(ha:H a=some (.B2 o (.dK kvs)))
  (hs:∀ (k:Key)(acc:List V)(N:List V->Hp->Prop),k ∈ kvs.map (·.1)->N (if p k then acc ++ [f k] else acc) H->g (kV k) σ0 H fun σ2 H2=>tt σ2 H2 fun b H3=>if b=true then te σ2 H3 fun y H4=>N (acc ++ [y]) H4 else N acc H3)
  (hq:∀ D,H D=none->Q (.ref D) (aw H D (.lst (((kvs.map (·.1)).filter p).map f)))):pP (HW a o kvs) g tt te σ0 Q H:=by
 refine bI kvs.length hn (fun i acc H'=>H' = H/\acc=(((kvs.map (·.1)).take i).filter p).map f) ⟨rfl,rfl⟩ (fun i acc H' h=>?_) ?_ ?_
 ·rw[h.2,length_map]
  exact le_trans (length_filter_le _ _) (length_take_le _ _)
 ·rintro i acc H' hi ⟨rfl,rfl⟩
  refine⟨⟨ha,hi⟩,fun x H2 y=>?_⟩
  obtain⟨e,k,hk2,rfl⟩:=y
  subst e
  refine hs k _ (fun Bm H3=>H3=H2/\Bm = (((kvs.map (·.1)).take (i + 1)).filter p).map f) (mem_of_getElem? hk2) ⟨rfl,?_⟩
  rw[take_succ,hk2,filter_append]
  cases hp:p k with
  | true=>simp[hp]
  | false=>simp[hp]
 ·rintro acc H' ⟨rfl,rfl⟩
  rw[take_of_length_le (by rw[length_map];exact Nat.le_refl _)]
  exact⟨⟨ha,rfl⟩,hq⟩
theorem nZ {H:Hp}{a:Addr}{o u:HO}(h:H a=some u):aw (aw H a o) a u=H:=by
 rw[wW]
 funext b
 unfold aw
 by_cases e:b=a
 ·rw[if_pos e,e,h]
 ·rw[if_neg e]
theorem nY {H:Hp}{a b:Addr}{o u:HO}(h:a ≠ b):aw (aw H a o) b u=aw (aw H b u) a o:=by
 funext c
 unfold aw
 by_cases e:c=b
 ·rw[if_pos e,if_neg (fun z=>h (z.symm.trans e)),if_pos e]
 ·rw[if_neg e]
  by_cases e2:c=a
  ·rw[if_pos e2,if_pos e2]
  ·rw[if_neg e2,if_neg e2,if_neg e]
end L2
namespace K25
open PySem L2 LkM
noncomputable def lk (x:Nat × Nat):L2.Key × V:=(Sum.inl (x.1:Int), .int (x.2:Int))
noncomputable def dV (d:Dn):List (L2.Key × V):=d.map lk
theorem kH (d:Dn):(dV d).length=d.length:=length_map ..
theorem sL (d:Dn):(dV d).map (·.1)=(ks d).map fun k:Nat=>(Sum.inl (k:Int):L2.Key):=by
 unfold dV ks
 rw[map_map,map_map];rfl
theorem ku (l:Nat):∀ d:Dn,ci (dV d) (Sum.inl (l:Int))=(eJ d l).map fun g:Nat=>V.int (g:Int)
 | []=>rfl
 | x :: d=>by
  have ih:=ku l d
  show ci (lk x :: dV d) _=_
  by_cases h:x.1=l
  ·rw[fj (show(lk x).1=Sum.inl (l:Int) by rw[← h];rfl)]
   unfold eJ
   rw[find?_cons,show decide (x.1=l)=true from decide_eq_true h];rfl
  ·rw[fq (show ¬ (lk x).1=Sum.inl (l:Int) from fun z=>h (by have:=Sum.inl.inj z;omega)),ih]
   unfold eJ
   rw[find?_cons,show decide (x.1=l)=false from decide_eq_false h]
theorem Du {d:Dn}{l:Nat}:eJ d l=none↔l ∉ ks d:=by
 constructor
 ·intro h hm
  obtain⟨g,e⟩:=dY hm
  rw[h]at e;cases e
 ·intro h
  cases e:eJ d l with
  | none=>rfl
  | some g=>exact absurd (qY (mj e)) h
theorem lH (d:Dn)(l:Nat):(ci (dV d) (Sum.inl (l:Int))).isSome=decide (l ∈ ks d):=by
 rw[ku]
 by_cases h:l ∈ ks d
 ·obtain⟨g,e⟩:=dY h
  rw[e,decide_eq_true h];rfl
 ·rw[Du.mpr h,decide_eq_false h];rfl
theorem vZ {d:Dn}{l:Nat}(g:Nat)(h:l ∉ ks d):cj (dV d) (Sum.inl (l:Int)) (.int (g:Int))=dV (d ++ [(l,g)]):=by
 rw[jN _ (by rw[ku,Du.mpr h];rfl)]
 unfold dV
 rw[map_append];rfl
structure BK (H:Hp)(D:Addr)(ds:List Addr)(L:Ld):Prop where
 l:H D=some (.lst (ds.map V.ref))
 len:ds.length=L.length
 nd:ds.Nodup
 d:∀ i d,ds[i]? = some d->H d=some (.dK (dV (L.getD i [])))
theorem BK.same {H H':Hp}{D:Addr}{ds:List Addr}{L:Ld}(h:BK H D ds L)(s:AI H H'):BK H' D ds L:=⟨s _ _ h.l,h.len,h.nd,fun i d e=>s _ _ (h.d i d e)⟩
theorem BK.put {H:Hp}{D d:Addr}{ds:List Addr}{L:Ld}{w:Nat}{e:Dn}(h:BK H D ds L)(hd:ds[w]? = some d):BK (aw H d (.dK (dV e))) D ds (L.set w e):=by
 have hw:w < L.length:=by rw[← h.len];exact(gQ0 hd)
 refine⟨?_,by rw[length_set];exact h.len,h.nd,fun i b hb=>?_⟩
 ·rw[ai (fB h.l (h.d w d hd) (by intro z;cases z))];exact h.l
 ·rw[fH]
  by_cases e1:w=i
  ·subst e1
   rw[hd]at hb
   cases hb
   rw[if_pos ⟨rfl,hw⟩];exact ad
  ·rw[if_neg fun z=>e1 z.1]
   have Bu:b ≠ d:=fun z=>by
    subst z
    obtain⟨h3,e3⟩:=List.getElem?_eq_some_iff.mp hd
    obtain⟨h4,e4⟩:=List.getElem?_eq_some_iff.mp hb
    exact e1 ((getElem_inj h.nd).mp (e3.trans e4.symm))
   rw[ai Bu];exact h.d i b hb
noncomputable def uo (S:List Nat)(l:Nat):List Nat:=bT (S.getD l 0)
noncomputable def mD (c:Cs)(C:Addr)(J:eE):Sp:=fun vs H Q _=>∃ (x lx AN lt sa:Addr)(n:Nat)(AK:List V)(ps:List (Int × Int))(wy:aX->Nat)(S:List Nat),vs=[.ref x, .ref sa]/\Bc c C J H x lx AN lt n AK ps wy/\H sa=some (.tup (nV S))/\S.length=ps.length/\(∀ z ∈ S,z < 2 ^ n) /\
 ∀ (D:Addr)(ds:List Addr)(H':Hp),AI H H'->BK H' D ds (dU (bZ wy ps) (uo S) ps.length)->Q (.ref D) H'
abbrev Sw:List Str:=["table", "sets", "leads", "lane", "goals", "goal", "way"]
theorem Ey:ar Sw ["table", "sets"] (aj jC):=L2.Bl
theorem Pq:BU Sw (aj jC) (Az ((aP jC).getD 0 (.Pass ⟨0,0,0,0⟩))) [] []:=L2.Ds
theorem Pt:(["goals"]:List Str).Nodup:=by decide +kernel
theorem vC {c:Cs}{J:eE}{C f fw fb fo:Addr}{fd dw db Fq:FuncData}(F:Bj K "leads_of" "leads_of" jC f fd)(T:eX mg)(W:gy K C fw dw J)
  (mb:mg "members" = some (.ref fb)) (kb:keepIn K (.ref fb)=true) (bb:Binds K db ["some"] []) (Gb:AJ P w K mg base aC 2 fb db ["some"] lz)
  (mo:mg "onward" = some (.ref fo)) (ko:keepIn K (.ref fo)=true) (bo:Binds K Fq ["table", "lane", "goal"] []) (Go:AJ P w K mg base aC 4 fo Fq ["table", "lane", "goal"] (sT c C J)) :
  AJ P w K mg base aC 5 f fd ["table", "sets"] (mD c C J):=by
 refine F.ok Ey (fun vs H Q E h=>?_) (fun Bb A outer s H vs Q E hr h=>?_)
 ·obtain⟨x,lx,AN,lt,sa,n,AK,ps,wy,S,rfl,_⟩:=h
  rfl
 ·obtain⟨x,lx,AN,lt,sa,n,AK,ps,wy,S,rfl,hT,gS,CK,DN,q⟩:=h
  have Cy:AU 2 _:=hr.mono (by decide)
  have Eb:AU 4 _:=hr.mono (by decide)
  have hn:=hT.CB
  have h40:=hT.By
  refine⟨_,af (eK (i:=2) (own:=["goals"]) (capN:=[]) (cap:=[]) Pq rfl Ey.nd rfl rfl (mW (pv 1)) (fun C s' H' fp=>⟨ao (i:=0) Pt rfl (Or.inl rfl),cx,jT⟩))
   (af (aK PassesOwn.never rfl (gQ rfl T.enum (aa (pv 1) ae)) (c7 rfl (aG (ao (i:=3) Ey.nd rfl (Or.inl rfl)) (aG (ao (i:=4) Ey.nd rfl (Or.inl rfl)) bW)))
    (ag (aK PassesOwn.never rfl (bB (aq Gb Cy rfl mb kb bb .nil ax (aa (pv 4) ae))) (ao (i:=5) Ey.nd rfl (Or.inl rfl))
     (ag (aK PassesOwn.never rfl (bB (aq Go Eb rfl mo ko bo .nil ax (aa (pv 0) (aa (pv 3) (aa (pv 5) ae))))) (ao (i:=6) Ey.nd rfl (Or.inl rfl))
      (ag (aT (xw (aU Bf (pv 2) (pv 6) (fun _ _=>rfl)) (pv 3) (pv 5) ⟨rfl,rfl,rfl,rfl⟩))))))))
   (ag (ap (pv 2)))),?_⟩
  have M5:(nV S).length=ps.length:=by rw[aB];exact CK
  refine⟨_,rfl,sa,rfl,⟨_,Ba.of gS⟩,bI (nV S).length (by rw[sizeLine_eq];omega) (fun i acc H4=>∃ ds:List Addr,acc=ds.map V.ref/\ds.length=i/\ds.Nodup/\AI H H4/\∀ d ∈ ds,H d=none/\H4 d=some (.dK [])) ⟨[],rfl,rfl,nodup_nil,AI.refl H,fun d hd=>by cases hd⟩ (fun i acc H4 AL=>by obtain⟨ds,e,hl,_⟩:=AL;rw[e,length_map,hl];exact Nat.le_refl _) ?_ ?_⟩
  ·rintro i acc H4 hi ⟨ds,rfl,hl,nd,s4,hd⟩
   refine⟨⟨nV S,(nV S)[i],Ba.of (s4 _ _ gS),getElem?_eq_getElem hi⟩,fun y H5 hy=>?_⟩
   obtain⟨rfl,_⟩:=hy
   intro p hp
   refine⟨ds ++ [p],by rw[map_append];rfl,by rw[length_append,hl];rfl,?_,s4.new hp,fun d KL=>?_⟩
   ·rw[nodup_append]
    refine⟨nd,by simp,fun a ha b hb e=>?_⟩
    rw[mem_singleton.mp hb]at e
    subst e
    rw[(hd a ha).2]at hp;cases hp
   ·rcases mem_append.mp KL with hm | hm
    ·refine⟨(hd d hm).1,?_⟩
     rw[ai (ah (hd d hm).2 hp)];exact(hd d hm).2
    ·rw[mem_singleton.mp hm]
     exact⟨s4.free hp,ad⟩
  rintro acc H4 ⟨ds,rfl,E7,nd,s4,hd⟩
  refine⟨⟨nV S,Ba.of (s4 _ _ gS),Nat.le_refl _⟩,fun D hD=>?_⟩
  have hD0:H D=none:=s4.free hD
  have s5:=s4.new (o := .lst (ds.map V.ref)) hD
  have hds:∀ d ∈ ds,H d=none:=fun d hm=>(hd d hm).1
  have g5:BK (aw H4 D (.lst (ds.map V.ref))) D ds (List.replicate ps.length []):=by
   refine⟨ad,by rw[E7,M5,length_replicate],nd,fun i d e=>?_⟩
   have hm:=mem_of_getElem? e
   rw[ai (ah (hd d hm).2 hD),(hd d hm).2,jH];rfl
  show ip 2 (V.ref D) _ (aw H4 D (.lst (ds.map V.ref))) _
  generalize aw H4 D (.lst (ds.map V.ref))=H5 at s5 g5 ⊢
  have wr:∀ {H2:Hp}{d:Addr}{o:HO},AI H H2->d ∈ ds->AI H (aw H2 d o):=fun {H2 d o} s2 hm b u e=>by rw[ai (ah e (hds d hm))];exact s2 _ _ e
  refine⟨_,rfl,sa,rfl,⟨_,Ba.of (s5 _ _ gS)⟩,?_⟩
  refine fI (sq:=fun H=>Ba K H sa) (xs:=nV S) (fun i σ H2=>∃ a3 a4 a5 a6:Option V,AI H H2/\BK H2 D ds ((List.range i).foldl (jf (bZ wy ps) (uo S)) (List.replicate ps.length []))/\σ=[some (.ref x),some (.ref sa),some (.ref D),a3,a4,a5,a6])
   ⟨none,none,none,none,s5,g5,rfl⟩ (fun i σ H2 _ AL=>by obtain⟨_,_,_,_,s2,_⟩:=AL;exact Ba.of (s2 _ _ gS)) ?_ ?_
  ·rintro l v r σ H2 hv ⟨a3,a4,a5,a6,s2,g2,rfl⟩ FG
   have hl:l < S.length:=by have:=(gQ0 hv);rw[aB]at this;exact this
   have B5:=fT hl
   rw[B5]at hv
   have hv:=Option.some.inj hv
   subst hv
   have EU:S.getD l 0 < 2 ^ n:=by
    rw[getD_eq_getElem?_getD,getElem?_eq_getElem hl]
    exact DN _ (getElem_mem hl)
   have s3:=s2.new (o := .tup [.int (l:Int), .int ((S.getD l 0:Nat):Int)]) FG
   have g3:=g2.same ((AI.refl H2).new (o := .tup [.int (l:Int), .int ((S.getD l 0:Nat):Int)]) FG)
   refine⟨r,_,rfl,Ba.of ad,rfl,_,_,rfl,_,_,rfl,rfl,?_⟩
   generalize aw H2 r (.tup [.int (l:Int), .int ((S.getD l 0:Nat):Int)])=H3 at s3 g3 ⊢
   refine⟨_,rfl,S.getD l 0,rfl,lt_of_lt_of_le EU (pow_le_pow_right (by decide) (by omega)),fun Mb K5=>⟨Mb,rfl,⟨_,AQ.of ad⟩,?_⟩⟩
   rw[lG]
   have s4:=s3.new (o := .lst (nV (bT (S.getD l 0)))) K5
   have g4:=g3.same ((AI.refl H3).new (o := .lst (nV (bT (S.getD l 0)))) K5)
   have gM:(aw H3 Mb (.lst (nV (bT (S.getD l 0))))) Mb=some (.lst (nV (bT (S.getD l 0)))):=ad
   have nMb:∀ d ∈ ds,Mb ≠ d:=fun d hm z=>by
    obtain⟨i,hi,ei⟩:=getElem_of_mem hm
    have e:=g3.d i d (by rw[getElem?_eq_getElem hi,ei])
    rw[← z,K5]at e;cases e
   generalize aw H3 Mb (.lst (nV (bT (S.getD l 0))))=H4 at s4 g4 gM ⊢
   generalize HA:(List.range l).foldl (jf (bZ wy ps) (uo S)) (List.replicate ps.length [])=L0 at g4
   have Pu:Bi (bZ wy ps) (uo S) ps.length L0:=by
    rw[← HA]
    exact Bi.all _ Bi.init fun z hz=>by have:=mem_range.mp hz;omega
   refine bH (K:=K) (a:=Mb) (xs:=nV (bT (S.getD l 0))) (fun m σ H5=>∃ a5 a6:Option V,AI H H5/\H5 Mb=some (.lst (nV (bT (S.getD l 0))))/\BK H5 D ds (((bT (S.getD l 0)).take m).foldl (eB (bZ wy ps) l) L0)/\σ=[some (.ref x),some (.ref sa),some (.ref D),some (.int (l:Int)),some (.int ((S.getD l 0:Nat):Int)),a5,a6])
    ⟨_,_,s4,gM,g4,rfl⟩ (fun m σ H5 _ AL=>by obtain⟨_,_,_,g5,_⟩:=AL;exact AQ.of g5) ?_ ?_
   ·rintro m v σ H5 hv ⟨a5,a6,M8,Sy,ED,rfl⟩
    have hm:m < (bT (S.getD l 0)).length:=by have:=(gQ0 hv);rw[aB]at this;exact this
    have hk0:=getElem?_eq_getElem hm
    have B5:=bG hk0
    rw[B5]at hv
    have hv:=Option.some.inj hv
    subst hv
    generalize (bT (S.getD l 0))[m]=g at hk0
    have hgm:g ∈ uo S l:=mem_of_getElem? hk0
    have KN:Bi (bZ wy ps) (uo S) ps.length (((bT (S.getD l 0)).take m).foldl (eB (bZ wy ps) l) L0):=Bi.Et (by omega) _ Pu fun z hz=>mem_of_mem_take hz
    have DX:((bT (S.getD l 0)).take (m + 1)).foldl (eB (bZ wy ps) l) L0=eB (bZ wy ps) l (((bT (S.getD l 0)).take m).foldl (eB (bZ wy ps) l) L0) g:=by
     rw[take_succ,hk0,foldl_append];rfl
    rw[DX]
    generalize ((bT (S.getD l 0)).take m).foldl (eB (bZ wy ps) l) L0=L1 at ED KN
    refine⟨_,rfl,_,rfl,_,rfl,x,lx,AN,lt,n,AK,ps,wy,l,g,rfl,hT.same W M8,by omega,nj EU (mem_of_getElem? hk0),fun Ow H6 s6 hOw Sz=>⟨Ow,rfl,⟨_,AQ.of Sz⟩,?_⟩⟩
    have nOw:∀ d ∈ ds,Ow ≠ d:=fun d hm z=>by
     obtain⟨i,hi,ei⟩:=getElem_of_mem hm
     have e:=ED.d i d (by rw[getElem?_eq_getElem hi,ei])
     rw[← z,hOw]at e;cases e
    have EC:∀ z ∈ bZ wy ps g l,z < ps.length:=lB hT.ok g l
    refine bH (K:=K) (a:=Ow) (xs:=nV (bZ wy ps g l)) (fun k σ H7=>∃ a6:Option V,AI H H7/\H7 Mb=some (.lst (nV (bT (S.getD l 0))))/\H7 Ow=some (.lst (nV (bZ wy ps g l)))/\BK H7 D ds (((bZ wy ps g l).take k).foldl (dH l g) L1)/\σ=[some (.ref x),some (.ref sa),some (.ref D),some (.int (l:Int)),some (.int ((S.getD l 0:Nat):Int)),some (.int (g:Int)),a6])
     ⟨_,M8.trans s6,s6 _ _ Sy,Sz,ED.same s6,rfl⟩ (fun k σ H7 _ AL=>by obtain⟨_,_,_,g7,_⟩:=AL;exact AQ.of g7) ?_ ?_
    ·rintro k v σ H7 hv ⟨a6,s7,M9,Ig,g7,rfl⟩
     have hk:k < (bZ wy ps g l).length:=by have:=(gQ0 hv);rw[aB]at this;exact this
     have hw0:=getElem?_eq_getElem hk
     have B5:=bG hw0
     rw[B5]at hv
     have hv:=Option.some.inj hv
     subst hv
     generalize (bZ wy ps g l)[k]=wa at hw0
     have hwm:wa ∈ bZ wy ps g l:=mem_of_getElem? hw0
     have BY:=EC wa hwm
     have FL:Bi (bZ wy ps) (uo S) ps.length (((bZ wy ps g l).take k).foldl (dH l g) L1):=Bi.goal (by omega) hgm _ KN fun z hz=>mem_of_mem_take hz
     have Pw:((bZ wy ps g l).take (k + 1)).foldl (dH l g) L1=dH l g (((bZ wy ps g l).take k).foldl (dH l g) L1) wa:=by
      rw[take_succ,hw0,foldl_append];rfl
     rw[Pw]
     generalize ((bZ wy ps g l).take k).foldl (dH l g) L1=L2 at g7 FL
     have E7:wa < ds.length:=by rw[g7.len,FL.len];exact BY
     have hd0:=getElem?_eq_getElem E7
     generalize ds[wa]=d at hd0
     have KL:d ∈ ds:=mem_of_getElem? hd0
     have gd:=g7.d wa d hd0
     have BB:=FL.By wa
     refine⟨_,rfl,_,rfl,D,_,_, .ref d,rfl,rfl,AQ.of g7.l,aJ (by rw[getElem?_map,hd0];rfl),d,rfl, .inl ⟨_, .inl gd⟩,_,rfl,_,rfl,_,Sum.inl (l:Int),gd,rfl,by rw[kH,sizeLine_eq];omega,fun v hv=>?_,fun hv=>?_⟩
     ·have Dq:l ∈ ks (L2.getD wa []):=by
       have e:=lH (L2.getD wa []) l
       rw[hv]at e
       exact of_decide_eq_true e.symm
      refine⟨_,s7,M9,Ig,?_,rfl⟩
      unfold dH kR
      rw[if_pos Dq]
      have:L2.set wa (L2.getD wa [])=L2:=by
       have AV:wa < L2.length:=by rw[FL.len];exact BY
       rw[getD_eq_getElem?_getD,getElem?_eq_getElem AV]
       exact List.set_getElem_self AV
      rw[this];exact g7
     ·have Dq:l ∉ ks (L2.getD wa []):=by
       have e:=lH (L2.getD wa []) l
       rw[hv]at e
       exact of_decide_eq_false e.symm
      rw[vZ g Dq]
      refine⟨_,wr s7 KL,by rw[ai (nMb d KL)];exact M9,by rw[ai (nOw d KL)];exact Ig,?_,rfl⟩
      unfold dH kR
      rw[if_neg Dq]
      exact g7.put hd0
    ·rintro σ H7 ⟨a6,s7,M9,Ig,g7,rfl⟩
     rw[aB,take_length]at g7
     exact⟨_,_,s7,M9,g7,rfl⟩
   ·rintro σ H5 ⟨a5,a6,M8,Sy,ED,rfl⟩
    refine⟨_,_,_,_,M8,?_,rfl⟩
    rw[aB,take_length]at ED
    rw[range_succ,foldl_append,HA]
    exact ED
  ·rintro σ H2 ⟨a3,a4,a5,a6,s2,g2,rfl⟩
   rw[M5]at g2
   exact⟨_,rfl,q D ds H2 s2 g2⟩
end K25
namespace K25
open PySem L2 LkM
noncomputable def Aj (s:Stmt):Scope:=match s with
 | .For _ _ (.If (.BoolOp _ [_, .Call _ [.ListComp _ _ sc _] _ _] _) _ _ _ :: _) _ _=>sc
 | _=>ig
theorem iK (L:Ld)(a:Dn)(i:Nat):(List.range (i + 1)).filter (cP L a)=if cP L a i=true then (List.range i).filter (cP L a) ++ [i] else (List.range i).filter (cP L a):=by
 rw[range_succ,filter_append]
 cases h:cP L a i with
 | true=>simp[h]
 | false=>simp[h]
theorem vP {fs:List Nat}(nd:fs.Nodup){i l:Nat}(h:fs[i]? = some l):l ∉ fs.take i:=by
 intro hm
 obtain⟨j,hj,e⟩:=List.mem_take_iff_getElem.mp hm
 obtain⟨h3,e3⟩:=List.getElem?_eq_some_iff.mp h
 have:j=i:=(getElem_inj nd).mp (e.trans e3.symm)
 omega
theorem A0 (d a:Dn):(((dV d).map (·.1)).filter fun _=>true).map (fun k=>V.bl (ci (dV a) k).isSome)=((ks d).map fun k=>decide (k ∈ ks a)).map V.bl:=by
 rw[List.filter_eq_self.mpr (fun _ _=>rfl),sL,map_map,map_map]
 refine map_congr_left fun k _=>?_
 show V.bl (ci (dV a) (Sum.inl (k:Int))).isSome=V.bl (decide (k ∈ ks a))
 rw[lH]
noncomputable def qf:Sp:=fun vs H Q _=>∃ (D nu:Addr)(ds:List Addr)(L:Ld)(a:Dn),vs=[.ref D, .ref nu]/\BK H D ds L/\H nu=some (.dK (dV a))/\nu ∉ ds/\L.length <= 1000/\(∀ w,(L.getD w []).length <= 1000) /\
 ∀ (Fr:Addr)(H':Hp),AI H H'->H Fr=none->H' Fr=some (.lst (nV (bj L a)))->Q (.ref Fr) H'
noncomputable def qe:Sp:=fun vs H Q _=>∃ (D:Addr)(ds:List Addr)(L:Ld),vs=[.ref D]/\BK H D ds L/\L.length <= 1000/\(∀ w,(L.getD w []).length <= 1000) /\
 ∀ (nu:Addr)(H':Hp),AI H H'->H nu=none->nu ∉ ds->H' nu=some (.dK (dV (fW L)))->Q (.ref nu) H'
abbrev S1:List Str:=["leads", "numbers", "free", "lane", "before"]
abbrev NNb:List Str:=["leads", "numbers", "moves", "free", "lane"]
theorem FN:ar S1 ["leads", "numbers"] (aj o9):=L2.Bl
theorem Px:BU S1 (aj o9) (Aj ((aP o9).getD 1 (.Pass ⟨0,0,0,0⟩))) ["numbers"] [1]:=L2.Ds
theorem KO:(["other", "numbers"]:List Str).Nodup:=by decide +kernel
theorem xG {f:Addr}{fd:FuncData}(F:Bj K "lanes_next" "lanes_next" o9 f fd)(T:eX mg):AJ P w K mg base aC 1 f fd ["leads", "numbers"] qf:=by
 refine F.ok FN (fun vs H Q E h=>?_) (fun Bb A outer s H vs Q E hr h=>?_)
 ·obtain⟨D,nu,ds,L,a,rfl,_⟩:=h
  rfl
 ·obtain⟨D,nu,ds,L,a,rfl,hL,EE,Eu,Ii,Fe,q⟩:=h
  have Er:=lt_of_le_of_lt (add_le_add_left (show 1 <= 64 by decide) _) hr.units
  refine⟨_,af (au (i:=2) FN.nd rfl (Or.inl rfl) (b8 ae))
   (af (aK PassesOwn.never rfl (gW rfl T.enum (aa (pv 0) ae)) (c7 rfl (aG (ao (i:=3) FN.nd rfl (Or.inl rfl)) (aG (ao (i:=4) FN.nd rfl (Or.inl rfl)) bW)))
    (ag (aL (PW.pt (jM (jP (e9 Er (pv 3) (pv 1)) (by with_unfolding_all rfl)) (gP (cz (aE (kM rfl) rfl T.all PyProof.Rows.boot_all (aa (rZ (bX (own:=["other"]) (capN:=["numbers"]) (cap:=[1]) Px rfl (jo (pv 4))
      (fun C s' H' fp=>⟨ao (i:=0) KO rfl (Or.inl rfl),cx,zx (zA Er (pv 0) (pv 1)) (by with_unfolding_all rfl)⟩))) ae))))))
     (ag (aT (cr plainAttrs_list PySem.F.slot_list_append PySem.F.type_list_append aS (pv 2) (aa (pv 3) ae)))) aA)))
   (ag (ap (pv 2)))),?_⟩
  refine⟨zero_le _,fun Fr MA=>?_⟩
  have s0:=(AI.refl H).new (o := .lst []) MA
  have g0:(aw H Fr (.lst [])) Fr=some (.lst (nV ((List.range 0).filter (cP L a)))):=ad
  generalize aw H Fr (.lst [])=H0 at s0 g0 ⊢
  have hlen:(ds.map V.ref).length=L.length:=by rw[length_map];exact hL.len
  refine⟨_,rfl,D,rfl,⟨_,AQ.of (s0 _ _ hL.l)⟩,?_⟩
  refine fI (sq:=fun H=>AQ K H D) (xs:=ds.map V.ref) (fun i σ H2=>∃ a3 a4:Option V,AI H H2/\H2 Fr=some (.lst (nV ((List.range i).filter (cP L a))))/\σ=[some (.ref D),some (.ref nu),some (.ref Fr),a3,a4])
   ⟨none,none,s0,g0,rfl⟩ (fun i σ H2 _ AL=>by obtain⟨_,_,s2,_⟩:=AL;exact AQ.of (s2 _ _ hL.l)) ?_ ?_
  ·rintro i v p σ H2 hv ⟨a3,a4,s2,g2,rfl⟩ hp
   have hi:i < ds.length:=by have:=(gQ0 hv);rw[length_map]at this;exact this
   have hd0:=getElem?_eq_getElem hi
   generalize ds[i]=d at hd0
   rw[getElem?_map,hd0]at hv
   have hv:V.ref d=v:=Option.some.inj hv
   subst hv
   have s3:=s2.new (o := .tup [.int (i:Int), .ref d]) hp
   have g3:(aw H2 p (.tup [.int (i:Int), .ref d])) Fr=some (.lst (nV ((List.range i).filter (cP L a)))):=by rw[ai (ah g2 hp)];exact g2
   refine⟨p,_,rfl,Ba.of ad,rfl,_,_,rfl,_,_,rfl,rfl,?_⟩
   generalize aw H2 p (.tup [.int (i:Int), .ref d])=H3 at s3 g3 ⊢
   have gd:=s3 _ _ (hL.d i d hd0)
   have FO:=s3 _ _ EE
   have hil:i < L.length:=by rw[← hL.len];exact hi
   have Ed:((List.range i).filter (cP L a)).length <= i:=by
    have:=length_filter_le (cP L a) (List.range i)
    rwa [length_range]at this
   refine⟨_,rfl,_,rfl,nu,_,rfl,Bx.k (k:=Sum.inl (i:Int)) FO,_,rfl,?_⟩
   rw[lH]
   by_cases hm:i ∈ ks a
   ·rw[decide_eq_true hm]
    refine aH (aH ⟨_,_,s3,?_,rfl⟩)
    rw[iK,if_neg (by unfold cP;rw[decide_eq_true hm];simp)]
    exact g3
   rw[decide_eq_false hm]
   refine aI ⟨_,rfl,d,_,rfl,gd,fun o=>?_⟩
   have Py:nu ≠ d:=fun z=>Eu (by rw[z];exact mem_of_getElem? hd0)
   refine lS (fun _=>true) (fun k=>V.bl (ci (dV a) k).isSome) (by rw[kH,sizeLine_eq];have:=Fe i;omega) ad (fun k acc N hk hN=>?_) (fun B hB=>?_)
   ·exact⟨_,rfl,_,rfl,nu,_,rfl,Bx.k (k:=k) (by rw[ai Py];exact FO),hN⟩
   have nf:∀ o' u',H d ≠ some (.B2 o' u'):=fun o' u' z=>by rw[hL.d i d hd0]at z;cases z
   have HB:B ≠ d:=Ne.symm (ah (H:=aw H3 d (.B2 o (.dK (dV (L.getD i []))))) ad hB)
   have GA:H3 B=none:=by rw[ai HB]at hB;exact hB
   refine⟨d,o, .dK (dV (L.getD i [])),by rw[ai (Ne.symm HB)];exact ad,nf,?_⟩
   rw[nY HB,nZ gd,A0]
   have s4:=s3.new (o := .lst (((ks (L.getD i [])).map fun k=>decide (k ∈ ks a)).map V.bl)) GA
   have g4:(aw H3 B (.lst (((ks (L.getD i [])).map fun k=>decide (k ∈ ks a)).map V.bl))) B=some (.lst (((ks (L.getD i [])).map fun k=>decide (k ∈ ks a)).map V.bl)):=ad
   have MB:(aw H3 B (.lst (((ks (L.getD i [])).map fun k=>decide (k ∈ ks a)).map V.bl))) Fr=some (.lst (nV ((List.range i).filter (cP L a)))):=by rw[ai (ah g3 GA)];exact g3
   generalize aw H3 B (.lst (((ks (L.getD i [])).map fun k=>decide (k ∈ ks a)).map V.bl))=H4 at s4 g4 MB ⊢
   refine⟨B,_,rfl,AQ.of g4,_,rfl,?_⟩
   rw[A3]
   have efb:cP L a i=(ks (L.getD i [])).all fun k=>decide (k ∈ ks a):=by
    unfold cP
    rw[decide_eq_false hm];rfl
   rw[← efb]
   cases hb:cP L a i with
   | false =>
    refine aH ⟨_,_,s4,?_,rfl⟩
    rw[iK,hb,if_neg (by decide)];exact MB
   | true =>
    refine aI ⟨_,rfl, .inl ⟨rfl,_,AQ.of MB⟩,_,rfl,Fr,_,_,rfl,rfl,MB,by rw[sizeLine_eq,aB];omega,?_⟩
    refine⟨_,_,fun b o e=>by rw[ai (ah e MA)];exact s4 _ _ e,?_,rfl⟩
    rw[iK,hb,if_pos rfl,fD,ad];rfl
  ·rintro σ H2 ⟨a3,a4,s2,g2,rfl⟩
   rw[hlen]at g2
   exact⟨_,rfl,q Fr H2 s2 MA g2⟩
theorem DQ:ar NNb ["leads"] (aj uQ):=L2.Bl
theorem xF {f fx:Addr}{fd dx:FuncData}(F:Bj K "number_lanes" "number_lanes" uQ f fd)(mx:mg "lanes_next" = some (.ref fx))(kx:keepIn K (.ref fx)=true)(bx:Binds K dx ["leads", "numbers"] [])(Gx:AJ P w K mg base aC 1 fx dx ["leads", "numbers"] qf) :
  AJ P w K mg base aC 2 f fd ["leads"] qe:=by
 refine F.ok DQ (fun vs H Q E h=>?_) (fun Bb A outer s H vs Q E hr h=>?_)
 ·obtain⟨D,ds,L,rfl,_⟩:=h
  rfl
 ·obtain⟨D,ds,L,rfl,hL,Ii,Fe,q⟩:=h
  have Er:=lt_of_le_of_lt (add_le_add_left (show 1 <= 64 by decide) _) hr.units
  refine⟨_,af (au (i:=1) DQ.nd rfl (Or.inl rfl) jT)
   (af (au (i:=2) DQ.nd rfl (Or.inl rfl) am)
   (af (au (i:=3) DQ.nd rfl (Or.inl rfl) (aq Gx hr rfl mx kx bx .nil ax (aa (pv 0) (aa (pv 1) ae))))
   (af (eh PassesOwn.never (jO (pv 3) (fun _=>rfl))
    (af (aK PassesOwn.never rfl (bB (pv 3)) (ao (i:=4) DQ.nd rfl (Or.inl rfl)) (ag (jn Er (pv 1) (pv 4) (pv 2) rfl)))
    (af (mT (i:=2) DQ.nd rfl (Or.inl rfl) am nq)
    (ag (au (i:=3) DQ.nd rfl (Or.inl rfl) (aq Gx hr rfl mx kx bx .nil ax (aa (pv 0) (aa (pv 1) ae))))))))
   (ag (ap (pv 1)))))),?_⟩
  refine fun nu EE=>?_
  have s0:=(AI.refl H).new (o := .dK []) EE
  have g0:(aw H nu (.dK [])) nu=some (.dK (dV [])):=ad
  have Eu:nu ∉ ds:=fun hm=>by
   obtain⟨i,hi,ei⟩:=getElem_of_mem hm
   have e:=hL.d i nu (by rw[getElem?_eq_getElem hi,ei])
   rw[EE]at e;cases e
  generalize aw H nu (.dK [])=H0 at s0 g0 ⊢
  refine⟨_,rfl,_,rfl,D,nu,ds,L,[],rfl,hL.same s0,g0,Eu,Ii,Fe,fun Fr H1 s1 MA gFr=>?_⟩
  refine⟨fun m σ H'=>∃ (a:Dn)(mv f:Nat)(fr:Addr)(a4:Option V),m=f/\B1 L a mv/\fW L=fA L f a mv/\L.length + 1 <= f + a.length/\AI H H'/\H' nu=some (.dK (dV a))/\H' fr=some (.lst (nV (bj L a)))/\σ=[some (.ref D),some (.ref nu),some (.int (mv:Nat)),some (.ref fr),a4],
   ⟨L.length + 1,[],0,L.length + 1,Fr,_,rfl,B1.nil L,rfl,by simp,s0.trans s1,s1 _ _ g0,gFr,rfl⟩,?_⟩
  rintro m σ H2 ⟨a,mv,f,fr,a4,rfl,hN,BW,hf,s2,Pz,KP,rfl⟩
  refine⟨_,rfl,_, .inl ⟨_,AQ.of KP,rfl⟩,?_⟩
  have GD:=hN.len
  by_cases he:bj L a=[]
  ·rw[he]
   refine aH ⟨_,rfl,q nu H2 s2 EE Eu ?_⟩
   rw[BW,oP he];exact Pz
  ·have ht:(!(nV (bj L a)).isEmpty)=true:=by
    unfold nV
    cases e:bj L a with
    | nil=>exact absurd e he
    | cons _ _=>rfl
   rw[ht]
   cases m with
   | zero=>omega
   | succ m =>
   rw[lD he]at BW
   have S2:=hN.step he
   have P0:=S2.len
   have hks:=il a (bj L a) mv
   have JC:=length_pos_iff.mpr he
   have KQ:(eC a (bj L a) mv).length=a.length + (bj L a).length:=by unfold eC;rw[length_append,length_map]
   refine aI ⟨fun σ' H'=>∃ (MC:Addr)(P1:Option V),AI H H'/\H' nu=some (.dK (dV (eC a (bj L a) mv)))/\H' MC = some (.lst (nV (bj L (eC a (bj L a) mv))))/\σ' = [some (.ref D),some (.ref nu),some (.int ((mv + 1:Nat):Int)),some (.ref MC),P1],?_,?_⟩
   ·rintro σ' H' ⟨MC,P1,s',gn',gf',rfl⟩
    exact⟨m,lt_succ_self _,eC a (bj L a) mv,mv + 1,m,MC,P1,rfl,S2,BW,by omega,s',gn',gf',rfl⟩
   refine⟨_,rfl,fr,rfl,⟨_,AQ.of KP⟩,?_⟩
   have Iz:fr ≠ nu:=fB KP Pz (by intro z;cases z)
   have KR:=sD L a
   have S3:∀ l ∈ bj L a,l ∉ ks a:=fun l hl=>(Br.mp hl).2.1
   generalize S4:bj L a=fs at KP KR S3 KQ P0 ⊢
   refine bH (K:=K) (a:=fr) (xs:=nV fs) (fun i σ H3=>∃ a4:Option V,AI H H3/\H3 fr=some (.lst (nV fs))/\H3 nu=some (.dK (dV (eC a (fs.take i) mv)))/\σ=[some (.ref D),some (.ref nu),some (.int (mv:Nat)),some (.ref fr),a4])
    ⟨_,s2,KP,by unfold eC;rw[take_zero,map_nil,append_nil];exact Pz,rfl⟩ (fun i σ H3 _ AL=>by obtain⟨_,_,g3,_⟩:=AL;exact AQ.of g3) ?_ ?_
   ·rintro i v σ H3 hv ⟨a4,s3,Ky,KS,rfl⟩
    have hi:i < fs.length:=by have:=(gQ0 hv);rw[aB]at this;exact this
    have hk0:=getElem?_eq_getElem hi
    have B5:=bG hk0
    rw[B5]at hv
    have hv:=Option.some.inj hv
    subst hv
    generalize fs[i]=l at hk0
    have P2:l ∉ ks (eC a (fs.take i) mv):=by
     rw[il]
     intro hm
     rcases mem_append.mp hm with hm | hm
     ·exact S3 l (mem_of_getElem? hk0) hm
     ·exact vP KR hk0 hm
    have Dy:(eC a (fs.take i) mv).length <= a.length + i:=by
     unfold eC
     rw[length_append,length_map]
     have:=length_take_le i fs
     omega
    refine⟨_,rfl,_,rfl,_,rfl,nu,_,rfl,Dl.k (k:=Sum.inl (l:Int)) KS (by rw[kH,sizeLine_eq];omega),?_⟩
    refine⟨_,fun b o e=>by rw[ai (ah e EE)];exact s3 _ _ e,by rw[ai Iz];exact Ky,?_,rfl⟩
    rw[ad,vZ mv P2,take_succ,hk0]
    unfold eC
    rw[map_append,← append_assoc];rfl
   ·rintro σ H3 ⟨a4,s3,Ky,KS,rfl⟩
    rw[aB,take_length]at KS
    refine⟨_,rfl,_,_,rfl,rfl,?_⟩
    refine⟨_,rfl,_,rfl,D,nu,ds,L,_,rfl,hL.same s3,KS,Eu,Ii,Fe,fun Fr2 H4 s4 hFr2 P4=>?_⟩
    exact⟨Fr2,_,s3.trans s4,s4 _ _ KS,P4,rfl⟩
end K25
namespace K25
open PySem L2 LkM
noncomputable def whB (s:Stmt):List Stmt:=match s with
 | .While _ b _ _=>b
 | _=>[]
noncomputable def yp (s:Stmt):Scope:=match s with
 | .Assign _ (.Call _ [.ListComp _ _ sc _] _ _) _=>sc
 | _=>ig
noncomputable def rS (s:Stmt):Scope:=match s with
 | .Return (some (.Call _ [.ListComp _ _ sc _] _ _)) _=>sc
 | _=>ig
theorem wm (x:Nat)(us:List Nat):wn (.int (x:Int)) (nV us)=decide (x ∈ us):=by
 rw[show nV us=(iz us).map V.int from js us,sx]
 exact Ag
theorem n0 (us:List Nat):(nV us).all gh=true:=by
 rw[show nV us=(iz us).map V.int from js us]
 exact lN _
theorem we (l:Nat):∀ us:List Nat,(iz us).idxOf (l:Int)=us.idxOf l
 | []=>rfl
 | x :: us=>by
  show List.idxOf (l:Int) ((x:Int) :: iz us)=_
  rw[List.idxOf_cons,List.idxOf_cons,we l us]
  by_cases h:x=l
  ·rw[h];simp
  ·have h1:((x:Int) == (l:Int))=false:=by simp;omega
   have h2:(x == l)=false:=by simp;exact h
   rw[h1,h2]
theorem pB (us:List Nat){i:Nat}(h:i <= us.length):lg (nV us) (some (i:Int)) none=nV (us.drop i):=by
 unfold lg
 rw[HT.DY,HT.Df,aB,min_eq_left h,take_of_length_le (by rw[length_drop,aB];exact Nat.le_refl _)]
 unfold nV
 rw[List.map_drop]
theorem Aq (us:List Nat)(i:Nat):lg (nV us) none (some (i:Int))=nV (us.take i):=by
 unfold lg
 rw[HT.DY,HT.Df,aB,drop_zero,Nat.sub_zero]
 unfold nV
 rw[← List.map_take]
 congr 1
 rcases Nat.le_total i us.length with h | h
 ·rw[min_eq_left h]
 ·rw[Nat.min_eq_right h,take_of_length_le (Nat.le_refl _),take_of_length_le h]
theorem yn (d a:Dn):(((dV d).map (·.1)).filter fun k=>!(ci (dV a) k).isSome).map kV=nV ((ks d).filter fun k=>!decide (k ∈ ks a)):=by
 rw[sL]
 unfold nV
 rw[List.filter_map,map_map]
 congr 1
 refine filter_congr fun k _=>?_
 show(!(ci (dV a) (Sum.inl (k:Int))).isSome)=_
 rw[lH]
noncomputable def pI (q:Nat × Nat):Int × Int:=((q.1:Int),(q.2:Int))
noncomputable def qk:Sp:=fun vs H Q _=>∃ (D nu:Addr)(ds:List Addr)(L:Ld)(a:Dn),vs=[.ref D, .ref nu]/\BK H D ds L/\H nu=some (.dK (dV a))/\nu ∉ ds/\L.length <= 1000/\(∀ w,(L.getD w []).length <= 1000)/\(∀ w,∀ x ∈ ks (L.getD w []),x < L.length)/\bj L a=[]/\a.length < L.length /\
 ∀ (R:Addr)(H':Hp),AI H H'->H' R=some (.lst (nV (gF L a)))->Q (.ref R) H'
noncomputable def qd:Sp:=fun vs H Q _=>∃ (D nu:Addr)(ds:List Addr)(L:Ld)(a:Dn),vs=[.ref D, .ref nu]/\BK H D ds L/\H nu=some (.dK (dV a))/\nu ∉ ds/\L.length <= 1000/\(∀ w,(L.getD w []).length <= 1000)/\(∀ w,∀ x ∈ ks (L.getD w []),x < L.length)/\bj L a=[]/\a.length < L.length /\
 ∀ (R:Addr)(us:List V)(H':Hp),AI H H'->H' R=some (.tup us)->AX H' us ((gK L (gF L a).reverse).map pI)->Q (.ref R) H'
abbrev P5:List Str:=["leads", "numbers", "left", "walked", "lane"]
abbrev S5:List Str:=["leads", "numbers", "lanes", "following"]
theorem EX:ar P5 ["leads", "numbers"] (aj jD):=L2.Bl
theorem P6:BU P5 (aj jD) (Az ((aP jD).getD 0 (.Pass ⟨0,0,0,0⟩))) ["numbers"] [1]:=L2.Ds
theorem P7:BU P5 (aj jD) (yp ((whB ((aP jD).getD 3 (.Pass ⟨0,0,0,0⟩))).getD 1 (.Pass ⟨0,0,0,0⟩))) ["numbers"] [1]:=L2.Ds
theorem KU:(["lane", "numbers"]:List Str).Nodup:=by decide +kernel
theorem xP {f:Addr}{fd:FuncData}(F:Bj K "walk_back" "walk_back" jD f fd)(T:eX mg):AJ P w K mg base aC 1 f fd ["leads", "numbers"] qk:=by
 refine F.ok EX (fun vs H Q E h=>?_) (fun Bb A outer s H vs Q E hr h=>?_)
 ·obtain⟨D,nu,ds,L,a,rfl,_⟩:=h
  rfl
 ·obtain⟨D,nu,ds,L,a,rfl,hL,EE,Eu,Ii,Fe,AV,DR,GD,q⟩:=h
  have Er:=lt_of_le_of_lt (add_le_add_left (show 1 <= 64 by decide) _) hr.units
  refine⟨_,af (eK (i:=2) (own:=["lane"]) (capN:=["numbers"]) (cap:=[1]) P6 rfl EX.nd rfl rfl (aR rfl T.range (aa (aE aD rfl T.len PySem.boot_len (aa (pv 0) ae)) ae))
    (fun C s' H' fp=>⟨ao (i:=0) KU rfl (Or.inl rfl),fP (jP (e9 Er (pv 0) (pv 1)) (by with_unfolding_all rfl)),pv 0⟩))
   (af (au (i:=3) EX.nd rfl (Or.inl rfl) (b8 ae))
   (af (au (i:=4) EX.nd rfl (Or.inl rfl) (aU Bf (pv 2) am (fun _ _=>rfl)))
   (af (eh PassesOwn.never (ay (show fU _ (compareOp .NotIn) (NZ K true) from hV) (pv 4) (pv 3) (by with_unfolding_all rfl))
    (af (aT (cr plainAttrs_list PySem.F.slot_list_append PySem.F.type_list_append aS (pv 3) (aa (pv 4) ae)))
    (ag (au (i:=4) EX.nd rfl (Or.inl rfl) (aE (ue rfl) rfl T.min PyProof.Rows.boot_min (aa (rZ (bX (own:=["other"]) (capN:=["numbers"]) (cap:=[1]) P7 rfl (jo (aU Bf (pv 0) (pv 4) (fun _ _=>rfl)))
     (fun C s' H' fp=>⟨ao (i:=0) KO rfl (Or.inl rfl),fP (jP (e9 Er (pv 0) (pv 1)) (by with_unfolding_all rfl)),pv 0⟩))) ae))))))
   (ag (ap (jR mK (pv 3) (mU (cr plainAttrs_list PySem.F.slot_list_index PySem.F.type_list_index tK (pv 3) (aa (pv 4) ae))) mV)))))),?_⟩
  have hlen:(ds.map V.ref).length=L.length:=by rw[length_map];exact hL.len
  refine⟨_,rfl,D,_,rfl, .inl (AQ.of hL.l),(L.length:Int),by rw[hlen],by omega,by omega,?_⟩
  rw[toNat_natCast]
  refine kI (lo:=0) (fun k=>!decide (k ∈ ks a)) (fun k=>V.int k) (by rw[sizeLine_eq];omega) (fun i acc N hi h=>?_) (fun Lf hLf=>?_)
  ·rw[Int.zero_add]
   refine⟨_,rfl,_,rfl,nu,_,rfl,Bx.k (k:=Sum.inl (i:Int)) EE,_,rfl,?_⟩
   rw[lH]
   cases hb:(!decide (i ∈ ks a)) with
   | true =>
    rw[hb]at h
    exact aI ⟨_,rfl,h⟩
   | false =>
    rw[hb]at h
    exact aH h
  have eL:(List.filter (fun k=>!decide (k ∈ ks a)) (List.range L.length)).map (fun k:Nat=>V.int (k:Int))=nV (cK L a):=rfl
  show ip 2 (V.ref Lf) _ (aw H Lf (.lst ((List.filter (fun k=>!decide (k ∈ ks a)) (List.range L.length)).map (fun k:Nat=>V.int (k:Int))))) _
  rw[eL]
  have s0:=(AI.refl H).new (o := .lst (nV (cK L a))) hLf
  have g0:(aw H Lf (.lst (nV (cK L a)))) Lf=some (.lst (nV (cK L a))):=ad
  generalize aw H Lf (.lst (nV (cK L a)))=H0 at s0 g0 ⊢
  refine⟨zero_le _,fun Wk P8=>?_⟩
  have P9:H Wk=none:=s0.free P8
  have s1:=s0.new (o := .lst []) P8
  have KW:(aw H0 Wk (.lst [])) Lf=some (.lst (nV (cK L a))):=by rw[ai (ah g0 P8)];exact g0
  have S6:(aw H0 Wk (.lst [])) Wk=some (.lst (nV [])):=ad
  generalize aw H0 Wk (.lst [])=H1 at s1 KW S6 ⊢
  have Bu:=so GD
  have hhd:(nV (cK L a))[0]? = some (.int (((cK L a).headD 0:Nat):Int)):=by
   cases e:cK L a with
   | nil=>exact absurd e Bu
   | cons z t=>rfl
  refine⟨_,rfl,Lf,_,0,_,rfl,rfl,AQ.of KW,aJ (j:=0) hhd,?_⟩
  have hW0:DH L a [] ((cK L a).headD 0):=by
   cases e:cK L a with
   | nil=>exact absurd e Bu
   | cons z t =>
    have hz:z ∈ cK L a:=by rw[e];exact mem_cons_self
    obtain⟨h1,h2⟩:=mem_filter.mp hz
    exact⟨nodup_nil,(fun y hy=>by cases hy),⟨mem_range.mp h1,by simpa using h2⟩,(fun i x y hx=>by simp at hx),fun x hx=>by simp at hx⟩
  refine⟨fun m σ H'=>∃ (wk:List Nat)(l f:Nat),m=f/\DH L a wk l/\gF L a=lp L a f wk l/\L.length + 1 <= f + wk.length/\AI H H'/\H' Wk=some (.lst (nV wk))/\σ=[some (.ref D),some (.ref nu),some (.ref Lf),some (.ref Wk),some (.int (l:Nat))],
   ⟨L.length + 1,[],_,L.length + 1,rfl,hW0,rfl,by simp,s1,S6,rfl⟩,?_⟩
  rintro m σ H2 ⟨wk,l,f,rfl,hW,BW,hf,s2,Ij,rfl⟩
  have BY:wk.length <= L.length:=ij _ _ hW.nd fun x hx=>(hW.lt x hx).1
  refine⟨_,rfl,_,rfl,Wk,_,rfl, .inl (AQ.of Ij),rfl,n0 wk,_,rfl,?_⟩
  show if (!wn (.int (l:Int)) (nV wk))=true then _ else _
  rw[wm]
  cases m with
  | zero=>omega
  | succ m =>
  rw[lp]at BW
  by_cases hm:l ∈ wk
  ·rw[decide_eq_true hm]
   rw[if_pos hm]at BW
   have hii:wk.idxOf l <= wk.length:=Nat.le_of_lt (idxOf_lt_length_of_mem hm)
   refine aH ⟨_,rfl,_,rfl, .inl ⟨rfl,_,AQ.of Ij⟩,_,rfl,Wk,iz wk,(l:Int),rfl,rfl,by rw[Ij];exact congrArg (fun z=>some (HO.lst z)) (js wk),B4.mpr ⟨l,hm,rfl⟩,by unfold iz;rw[length_map];omega,_,rfl,Wk,_,rfl,AQ.of Ij,fun R hR=>?_⟩
   rw[we,pB wk hii]
   refine q R _ (s2.new hR) ?_
   rw[ad,BW]
  ·rw[decide_eq_false hm]
   rw[if_neg hm]at BW
   have Ee:=hW.step AV DR hm
   refine aI ⟨fun σ' H'=>AI H H'/\H' Wk=some (.lst (nV (wk ++ [l])))/\σ' = [some (.ref D),some (.ref nu),some (.ref Lf),some (.ref Wk),some (.int ((kg (fK L a l):Nat):Int))],?_,?_⟩
   ·rintro σ' H' ⟨s',gw',rfl⟩
    exact⟨m,lt_succ_self _,wk ++ [l],_,m,rfl,Ee,BW,by rw[length_append,length_singleton];omega,s',gw',rfl⟩
   refine⟨_,rfl, .inl ⟨rfl,_,AQ.of Ij⟩,_,rfl,Wk,_,_,rfl,rfl,Ij,by rw[sizeLine_eq,aB];omega,?_⟩
   have s3:AI H (aw H2 Wk (.lst (nV wk ++ [V.int (l:Int)]))):=fun b o e=>by rw[ai (ah e P9)];exact s2 _ _ e
   have PB:(aw H2 Wk (.lst (nV wk ++ [V.int (l:Int)]))) Wk=some (.lst (nV (wk ++ [l]))):=by rw[ad,fD];rfl
   generalize aw H2 Wk (.lst (nV wk ++ [V.int (l:Int)]))=H3 at s3 PB ⊢
   have Dy:l < ds.length:=by rw[hL.len];exact hW.cur.1
   have hd0:=getElem?_eq_getElem Dy
   generalize ds[l]=d at hd0
   have gd:=s3 _ _ (hL.d l d hd0)
   have FO:=s3 _ _ EE
   have Py:nu ≠ d:=fun z=>Eu (by rw[z];exact mem_of_getElem? hd0)
   refine⟨_,rfl,_,rfl,D,_,_, .ref d,rfl,rfl,AQ.of (s3 _ _ hL.l),aJ (by rw[getElem?_map,hd0];rfl),d,_,rfl,gd,fun o=>?_⟩
   refine lS (fun k=>!(ci (dV a) k).isSome) kV (by rw[kH,sizeLine_eq];have:=Fe l;omega) ad (fun k acc N hk hN=>?_) (fun B hB=>?_)
   ·refine⟨_,rfl,_,rfl,nu,_,rfl,Bx.k (k:=k) (by rw[ai Py];exact FO),_,rfl,?_⟩
    cases hb:(!(ci (dV a) k).isSome) with
    | true =>
     rw[hb]at hN
     exact aI ⟨_,rfl,hN⟩
    | false =>
     rw[hb]at hN
     exact aH hN
   have nf:∀ o' u',H d ≠ some (.B2 o' u'):=fun o' u' z=>by rw[hL.d l d hd0]at z;cases z
   have HB:B ≠ d:=Ne.symm (ah (H:=aw H3 d (.B2 o (.dK (dV (L.getD l []))))) ad hB)
   have GA:H3 B=none:=by rw[ai HB]at hB;exact hB
   refine⟨d,o, .dK (dV (L.getD l [])),by rw[ai (Ne.symm HB)];exact ad,nf,?_⟩
   rw[nY HB,nZ gd,yn]
   have s4:=s3.new (o := .lst (nV (fK L a l))) GA
   have g4:(aw H3 B (.lst (nV (fK L a l)))) B=some (.lst ((iz (fK L a l)).map V.int)):=by rw[ad];exact congrArg (fun z=>some (HO.lst z)) (js _)
   have gw4:(aw H3 B (.lst (nV (fK L a l)))) Wk=some (.lst (nV (wk ++ [l]))):=by rw[ai (ah PB GA)];exact PB
   have hbn:=pK DR hW.cur.1 hW.cur.2
   refine⟨B,iz (fK L a l),rfl,AQ.of g4,fun z=>hbn (List.map_eq_nil_iff.mp z),fun k hk hle=>?_⟩
   obtain⟨k',Ko,rfl⟩:=B4.mp hk
   have ek:k' = kg (fK L a l):=xU Ko fun z hz=>by
    have:=hle (z:Int) (B4.mpr ⟨z,hz,rfl⟩)
    omega
   rw[ek]
   exact⟨s4,gw4,rfl⟩
theorem HC:ar S5 ["leads", "numbers"] (aj o8):=L2.Bl
theorem PD:BU S5 (aj o8) (rS ((aP o8).getD 2 (.Pass ⟨0,0,0,0⟩))) ["leads"] [0]:=L2.Ds
theorem KY:(["lane", "after", "leads"]:List Str).Nodup:=by decide +kernel
theorem xE {f fx:Addr}{fd dx:FuncData}(F:Bj K "find_ring" "find_ring" o8 f fd)(T:eX mg)(mx:mg "walk_back" = some (.ref fx))(kx:keepIn K (.ref fx)=true)(bx:Binds K dx ["leads", "numbers"] [])(Gx:AJ P w K mg base aC 1 fx dx ["leads", "numbers"] qk) :
  AJ P w K mg base aC 2 f fd ["leads", "numbers"] qd:=by
 refine F.ok HC (fun vs H Q E h=>?_) (fun Bb A outer s H vs Q E hr h=>?_)
 ·obtain⟨D,nu,ds,L,a,rfl,_⟩:=h
  rfl
 ·obtain⟨D,nu,ds,L,a,rfl,hL,EE,Eu,Ii,Fe,AV,DR,GD,q⟩:=h
  have Er:=lt_of_le_of_lt (add_le_add_left (show 1 <= 64 by decide) _) hr.units
  refine⟨_,af (au (i:=2) HC.nd rfl (Or.inl rfl) (tw rfl rfl T.list rfl T.OW (aa (aq Gx hr rfl mx kx bx .nil ax (aa (pv 0) (aa (pv 1) ae))) ae)))
   (af (au (i:=3) HC.nd rfl (Or.inl rfl) (az vx (jR mK (pv 2) (mU am) mV) (jR mK (pv 2) mV (mU am))))
   (ag (ap (cU cf rfl T.tuple PySem.Pv.boot_tuple (aa (bX (own:=["lane", "after"]) (capN:=["leads"]) (cap:=[0]) PD rfl (zr rfl T.zip (aa (pv 2) (aa (pv 3) ae)))
    (fun C s' H' fp=>⟨(show PG _ _ (wu K 2 _) from c7 rfl (aG (ao (i:=0) KY rfl (Or.inl rfl)) (aG (ao (i:=1) KY rfl (Or.inl rfl)) bW))),cx,
     bu (aa (pv 0) (aa (jq Er (aU (show D7 _ (xm K) from Bf) (pv 2) (pv 1) (fun _ _=>rfl)) (pv 0) (fun _ _=>rfl)) ae))⟩)) ae))))),?_⟩
  have Cf:=rD AV DR GD
  refine⟨_,rfl,_,rfl,D,nu,ds,L,a,rfl,hL,EE,Eu,Ii,Fe,AV,DR,GD,fun R H1 s1 gR=>⟨R,_,rfl,AQ.of gR,fun Ln hLn=>?_⟩⟩
  generalize gF L a=cy at Cf gR q
  have DE:cy.length <= L.length:=ij _ _ Cf.nd Cf.lt
  have PF:(nV cy).reverse=nV cy.reverse:=by unfold nV;rw[List.map_reverse]
  rw[PF]
  have KZ:=Cf.fwd
  have La:cy.reverse.length=cy.length:=length_reverse ..
  have Lb:∀ x ∈ cy.reverse,x < L.length:=fun x hx=>Cf.lt x (List.mem_reverse.mp hx)
  generalize cy.reverse=r at KZ La Lb q
  have s2:=s1.new (o := .lst (nV r)) hLn
  have g2:(aw H1 Ln (.lst (nV r))) Ln=some (.lst (nV r)):=ad
  generalize aw H1 Ln (.lst (nV r))=H2 at s2 g2 ⊢
  have PH:1 <= r.length:=by rw[La];exact length_pos_iff.mpr Cf.ne
  refine⟨_,rfl,1,rfl,Ln,_,rfl,AQ.of g2,fun c1 S7=>?_⟩
  rw[show lg (nV r) (some 1) none=nV (r.drop 1) from pB r (i:=1) PH]
  have s3:=s2.new (o := .lst (nV (r.drop 1))) S7
  have g3:(aw H2 c1 (.lst (nV (r.drop 1)))) Ln=some (.lst (nV r)):=by rw[ai (ah g2 S7)];exact g2
  have PJ:(aw H2 c1 (.lst (nV (r.drop 1)))) c1=some (.lst (nV (r.drop 1))):=ad
  generalize aw H2 c1 (.lst (nV (r.drop 1)))=H3 at s3 g3 PJ ⊢
  refine⟨_,rfl,1,rfl,Ln,_,rfl,AQ.of g3,fun c2 DF=>?_⟩
  rw[show lg (nV r) none (some 1)=nV (r.take 1) from Aq r 1]
  have s4:=s3.new (o := .lst (nV (r.take 1))) DF
  have g4:(aw H3 c2 (.lst (nV (r.take 1)))) Ln=some (.lst (nV r)):=by rw[ai (ah g3 DF)];exact g3
  have S8:(aw H3 c2 (.lst (nV (r.take 1)))) c1=some (.lst (nV (r.drop 1))):=by rw[ai (ah PJ DF)];exact PJ
  have S9:(aw H3 c2 (.lst (nV (r.take 1)))) c2=some (.lst (nV (r.take 1))):=ad
  generalize aw H3 c2 (.lst (nV (r.take 1)))=H4 at s4 g4 S8 S9 ⊢
  refine⟨c1,c2,_,_,rfl,rfl,S8,S9,by rw[aB,aB,length_drop,length_take,sizeLine_eq];omega,fun Fo SA=>?_⟩
  rw[← fD]
  have s5:=s4.new (o := .lst (nV (kW r))) SA
  have g5:(aw H4 Fo (.lst (nV (kW r)))) Ln=some (.lst (nV r)):=by rw[ai (ah g4 SA)];exact g4
  have ED:(aw H4 Fo (.lst (nV (kW r)))) Fo=some (.lst (nV (kW r))):=ad
  show ip 3 (V.ref Fo) _ (aw H4 Fo (.lst (nV (kW r)))) _
  generalize aw H4 Fo (.lst (nV (kW r)))=H5 at s5 g5 ED ⊢
  have hrt:=mR r
  have PK:∀ x ∈ kW r,x ∈ r:=fun x hx=>by
   unfold kW at hx
   rcases mem_append.mp hx with h | h
   ·exact mem_of_mem_drop h
   ·exact mem_of_mem_take h
  refine⟨_,rfl,_,rfl,Ln,Fo,rfl,⟨_,AQ.of g5⟩,⟨_,AQ.of ED⟩,bI r.length (by rw[sizeLine_eq];omega) (fun i acc H6=>AI H5 H6/\AX H6 acc ((((r.zip (kW r)).take i).map fun p=>(p.1,(eJ (L.getD p.2 []) p.1).getD 0)).map pI)) ⟨AI.refl _, .nil⟩ (fun i acc H6 h=>?_) ?_ ?_⟩
  ·rw[Paired.length h.2,length_map,length_map]
   exact length_take_le _ _
  ·rintro i acc H6 hi ⟨s6,hU⟩
   have Hm:=getElem?_eq_getElem hi
   have hi2:i < (kW r).length:=by omega
   have hy0:=getElem?_eq_getElem hi2
   generalize r[i]=x at Hm
   generalize (kW r)[i]=y at hy0
   refine⟨⟨_,_,_,_,AQ.of (s6 _ _ g5),AQ.of (s6 _ _ ED),bG Hm,bG hy0⟩,fun z H7 hz=>?_⟩
   obtain⟨p,hp,rfl,hz⟩:=hz
   obtain⟨x',y',ex,ey,rfl⟩:=hz _ _ (AQ.of (s6 _ _ g5)) (AQ.of (s6 _ _ ED))
   rw[bG Hm]at ex
   rw[bG hy0]at ey
   have ex:=Option.some.inj ex
   have ey:=Option.some.inj ey
   subst ex ey
   have s7:=s6.new (o := .tup [.int (x:Int), .int (y:Int)]) hp
   have SD:=AX.same ((AI.refl H6).new (o := .tup [.int (x:Int), .int (y:Int)]) hp) hU
   refine⟨p,_,rfl,Ba.of ad,rfl,_,_,rfl,_,_,rfl,rfl,?_⟩
   generalize aw H6 p (.tup [.int (x:Int), .int (y:Int)])=H7 at s7 SD ⊢
   have Pd:y < L.length:=Lb y (PK y (mem_of_getElem? hy0))
   have hyd:y < ds.length:=by rw[hL.len];exact Pd
   have hd0:=getElem?_eq_getElem hyd
   generalize ds[y]=d at hd0
   have gd:=s7 _ _ (s5 _ _ (hL.d y d hd0))
   obtain⟨gl,SE⟩:=dY (KZ i x y Hm hy0)
   refine⟨_,rfl,_,rfl,_,rfl,D,_,_, .ref d,rfl,rfl,AQ.of (s7 _ _ (s5 _ _ hL.l)),aJ (by rw[getElem?_map,hd0];rfl),_,rfl,d, .int (gl:Int),rfl,?_,by show 2 <= sizeLine;decide,fun t ht=>?_⟩
   ·have e:=ku x (L.getD y [])
    rw[SE]at e
    have e2:=Bx.k (k:=Sum.inl (x:Int)) gd
    rw[e]at e2
    exact e2
   refine⟨s7.new ht,?_⟩
   have ez:(r.zip (kW r))[i]? = some (x,y):=by rw[List.getElem?_zip_eq_some];exact⟨Hm,hy0⟩
   rw[take_succ,ez,map_append,map_append]
   refine AX.snoc ⟨t,rfl,?_⟩ (AX.same ((AI.refl H7).new ht) SD)
   rw[ad]
   show some (HO.tup [V.int (x:Int),V.int (gl:Int)])=some (HO.tup [V.int ((x:Nat):Int),V.int (((eJ (L.getD y []) x).getD 0:Nat):Int)])
   rw[SE];rfl
  ·rintro acc H6 ⟨s6,hU⟩
   refine⟨⟨_,_,AQ.of (s6 _ _ g5),AQ.of (s6 _ _ ED), .inl (by rw[List.getElem?_eq_none];rw[aB];exact Nat.le_refl _)⟩,fun Cm Lc=>?_⟩
   have PL:=AX.same ((AI.refl H6).new (o := .lst acc) Lc) hU
   have s7:=(s5.trans s6).new (o := .lst acc) Lc
   have g7:(aw H6 Cm (.lst acc)) Cm=some (.lst acc):=ad
   generalize aw H6 Cm (.lst acc)=H7 at PL s7 g7 ⊢
   refine⟨Cm,_,rfl, .inl ⟨AQ.of g7,fun t ht=>?_⟩⟩
   have hz:(r.zip (kW r)).length=r.length:=by rw[List.length_zip,hrt,Nat.min_self]
   rw[take_of_length_le (by omega)]at PL
   exact q t acc _ (s7.new ht) ad (AX.same ((AI.refl H7).new ht) PL)
end K25
namespace K25
open PySem L2 LkM
inductive PM
 | CT (q:Nat × Nat)
 | ring (r:List (Nat × Nat))
 | BF (N:List Nat)
noncomputable def nL (wy:aX->Nat)(ps:List (Int × Int))(n:Nat):Ld:=dU (bZ wy ps) (uo (cc wy ps n n)) ps.length
noncomputable def gc (wy:aX->Nat)(ps:List (Int × Int))(n:Nat):PM:=match dC wy ps n with
 | some q => .CT q
 | none=>if (fW (nL wy ps n)).length < ps.length then .ring (gK (nL wy ps n) (gF (nL wy ps n) (fW (nL wy ps n))).reverse) else .BF (numsOf (fW (nL wy ps n)) ps.length)
noncomputable def Le (H:Hp)(v:V)(S:List Nat):PM->Prop
 | .CT q=>∃ t p,v = .ref t/\H t=some (.tup [.str "lost", .ref p])/\H p=some (.tup [.int (q.1:Int), .int (q.2:Int)])
 | .ring r=>∃ t p us,v = .ref t/\H t=some (.tup [.str "ring", .ref p])/\H p=some (.tup us)/\AX H us (r.map pI)
 | .BF N=>∃ t p a b,v = .ref t/\H t=some (.tup [.str "paper", .ref p])/\H p=some (.tup [.ref a, .ref b])/\H a=some (.tup (nV N))/\H b=some (.tup (nV S))
noncomputable def gk (c:Cs)(C:Addr)(J:eE):Sp:=fun vs H Q _=>∃ (x lx AN lt:Addr)(n:Nat)(AK:List V)(ps:List (Int × Int))(wy:aX->Nat),vs=[.ref x]/\Bc c C J H x lx AN lt n AK ps wy /\
 ∀ (v:V)(H':Hp),AI H H'->Le H' v (cc wy ps n n) (gc wy ps n)->Q v H'
abbrev SF:List Str:=["table", "pair", "sets", "leads", "numbers"]
noncomputable def zk (s:Stmt):Scope:=match s with
 | .Return (some (.Tuple [_, .Tuple [.Call _ [.ListComp _ _ sc _] _ _,_] _ _] _ _)) _=>sc
 | _=>ig
theorem EY:ar SF ["table"] (aj oB):=L2.Bl
theorem PN:BU SF (aj oB) (zk ((aP oB).getD 6 (.Pass ⟨0,0,0,0⟩))) ["numbers"] [4]:=L2.Ds
theorem xL {c:Cs}{J:eE}{C f fw fl fm fa fb fr:Addr}{fd dw dl dm da db dr:FuncData}(F:Bj K "look" "look" oB f fd)(T:eX mg)(W:gy K C fw dw J)
  (ml:mg "lost" = some (.ref fl)) (kl:keepIn K (.ref fl)=true) (bl:Binds K dl ["table"] []) (Gl:AJ P w K mg base aC 7 fl dl ["table"] (j8 c C J))
  (mm:mg "met" = some (.ref fm)) (km:keepIn K (.ref fm)=true) (bm:Binds K dm ["table"] []) (Gm:AJ P w K mg base aC 6 fm dm ["table"] (iV c C J))
  (ma:mg "leads_of" = some (.ref fa)) (ka:keepIn K (.ref fa)=true) (ba:Binds K da ["table", "sets"] []) (Ga:AJ P w K mg base aC 5 fa da ["table", "sets"] (mD c C J))
  (mb:mg "number_lanes" = some (.ref fb)) (kb:keepIn K (.ref fb)=true) (bb:Binds K db ["leads"] []) (Gb:AJ P w K mg base aC 2 fb db ["leads"] qe)
  (mr:mg "find_ring" = some (.ref fr)) (kr:keepIn K (.ref fr)=true) (br:Binds K dr ["leads", "numbers"] []) (Gr:AJ P w K mg base aC 2 fr dr ["leads", "numbers"] qd) :
  AJ P w K mg base aC 8 f fd ["table"] (gk c C J):=by
 refine F.ok EY (fun vs H Q E h=>?_) (fun Bb A outer s H vs Q E hr h=>?_)
 ·obtain⟨x,lx,AN,lt,n,AK,ps,wy,rfl,_⟩:=h
  rfl
 ·obtain⟨x,lx,AN,lt,n,AK,ps,wy,rfl,hT,q⟩:=h
  have PQ:AU 6 _:=hr.mono (by decide)
  have Hy:AU 5 _:=hr.mono (by decide)
  have Cy:AU 2 _:=hr.mono (by decide)
  have Er:=lt_of_le_of_lt (add_le_add_left (show 1 <= 64 by decide) _) hr.units
  have hn:=hT.CB
  have h40:=hT.By
  refine⟨_,af (au (i:=1) EY.nd rfl (Or.inl rfl) (aq Gl hr rfl ml kl bl .nil ax (aa (pv 0) ae)))
   (af (aL (ay fR (pv 1) bE (a9 _)) (ag (ap (bu (aa dq (aa (pv 1) ae))))) aA)
   (af (au (i:=2) EY.nd rfl (Or.inl rfl) (aq Gm PQ rfl mm km bm .nil ax (aa (pv 0) ae)))
   (af (au (i:=3) EY.nd rfl (Or.inl rfl) (aq Ga Hy rfl ma ka ba .nil ax (aa (pv 0) (aa (pv 2) ae))))
   (af (au (i:=4) EY.nd rfl (Or.inr rfl) (aq Gb Cy rfl mb kb bb .nil ax (aa (pv 3) ae)))
   (af (aL (ay gb (aE ug rfl T.len PySem.boot_len (aa (pv 4) ae)) (aE aD rfl T.len PySem.boot_len (aa (pv 2) ae)) (a9 _))
    (ag (ap (bu (aa dq (aa (aq Gr Cy rfl mr kr br .nil ax (aa (pv 3) (aa (pv 4) ae))) ae))))) aA)
   (ag (ap (bu (aa dq (aa (bu (aa (cU cf rfl T.tuple PySem.Pv.boot_tuple (aa (bX (own:=["lane"]) (capN:=["numbers"]) (cap:=[4]) PN rfl
     (aR rfl T.range (aa (aE aD rfl T.len PySem.boot_len (aa (pv 2) ae)) ae))
     (fun C s' H' fp=>⟨ao (i:=0) KU rfl (Or.inl rfl),cx,jq Er (pv 1) (pv 0) (fun _ _=>rfl)⟩)) ae)) (aa (pv 2) ae))) ae)))))))))),?_⟩
  refine⟨_,rfl,x,lx,AN,lt,n,AK,ps,wy,rfl,hT,fun v H1 s1 hv=>?_⟩
  refine⟨_,rfl,rfl,_,rfl,?_⟩
  unfold gc at q
  cases LZ:dC wy ps n with
  | some p =>
   rw[LZ]at hv q
   obtain⟨t,rfl,gt⟩:=hv
   refine aI ⟨_,rfl,by show 2 <= sizeLine;decide,fun t2 MD=>?_⟩
   exact q _ _ (s1.new MD) ⟨t2,t,rfl,ad,by rw[ai (ah gt MD)];exact gt⟩
  | none =>
  rw[LZ]at hv q
  have hv:v = .AZ:=hv
  subst hv
  refine aH ⟨_,rfl,x,lx,AN,lt,n,AK,ps,wy,rfl,hT.same W s1,fun Se H2 s2 K1 gS=>?_⟩
  have CK:=eO wy ps n n
  have DN:=gv wy ps n n (Nat.le_refl _)
  refine⟨_,rfl,_,rfl,x,lx,AN,lt,Se,n,AK,ps,wy,cc wy ps n n,rfl,hT.same W (s1.trans s2),gS,CK,DN,fun D ds H3 s3 Eg=>?_⟩
  have AR:Bi (bZ wy ps) (uo (cc wy ps n n)) ps.length (nL wy ps n):=ik
  have Eg:BK H3 D ds (nL wy ps n):=Eg
  dsimp only at q
  generalize nL wy ps n=L at AR Eg q
  have MF:=AR.len
  have BB:∀ w,(L.getD w []).length <= 1000:=fun w=>le_trans (AR.By w) (by omega)
  have AV:∀ w,∀ z ∈ ks (L.getD w []),z < L.length:=fun w z hz=>by
   obtain⟨y,hy,rfl⟩:=gw hz
   rw[MF];exact(AR.of w y hy).1
  obtain⟨m,hN,DR⟩:=nh L
  refine⟨_,rfl,D,ds,L,rfl,Eg,by omega,BB,fun nu H4 s4 EE Eu FO=>?_⟩
  have Lg:=s4 _ _ (s3 _ _ gS)
  have SG:=s1.trans (s2.trans (s3.trans s4))
  generalize cc wy ps n n=S at Lg CK DN q
  generalize fW L=a at FO hN DR q
  have SH:=hN.len
  refine⟨_,rfl,nu,_,rfl,FO,_,rfl,Se,_,rfl, .inr (Ba.of Lg),_,_,rfl,rfl,_,rfl,?_⟩
  rw[kH,aB,CK]
  by_cases hlen:a.length < ps.length
  ·rw[if_pos hlen]at q
   rw[decide_eq_true (show((a.length:Nat):Int) < ((ps.length:Nat):Int) by omega)]
   refine aI ⟨_,rfl,_,rfl,D,nu,ds,L,a,rfl,Eg.same s4,FO,Eu,by omega,BB,AV,DR,by omega,fun R us H5 s5 gR hU=>⟨by show 2 <= sizeLine;decide,fun t ht=>?_⟩⟩
   exact q _ _ ((SG.trans s5).new ht) ⟨t,R,us,rfl,ad,by rw[ai (ah gR ht)];exact gR,AX.same ((AI.refl H5).new ht) hU⟩
  ·rw[if_neg hlen]at q
   rw[decide_eq_false (show ¬ ((a.length:Nat):Int) < ((ps.length:Nat):Int) by omega)]
   have full:∀ z,z < ps.length->z ∈ ks a:=sh hN.nd (fun z hz=>by rw[← MF];exact hN.lt z hz) (by unfold ks;rw[length_map];omega)
   refine aH ⟨_,rfl,Se,_,rfl, .inr (Ba.of Lg),(ps.length:Int),by rw[aB,CK],by omega,by omega,?_⟩
   rw[toNat_natCast]
   refine kI (lo:=0) (fun _=>true) (fun k=>V.int (((eJ a k).getD 0:Nat):Int)) (by rw[sizeLine_eq];omega) (fun i acc N hi h=>?_) (fun Cm Lc=>?_)
   ·rw[Int.zero_add]
    obtain⟨g,hg⟩:=dY (full i hi)
    refine⟨_,rfl,_,rfl,nu, .int (g:Int),rfl,?_,?_⟩
    ·have e:=ku i a
     rw[hg]at e
     have e2:=Bx.k (k:=Sum.inl (i:Int)) FO
     rw[e]at e2
     exact e2
    ·rw[hg]at h
     exact h
   have eN:(List.filter (fun _=>true) (List.range ps.length)).map (fun k:Nat=>V.int (((eJ a k).getD 0:Nat):Int))=nV (numsOf a ps.length):=by
    rw[List.filter_eq_self.mpr (fun _ _=>rfl)]
    unfold nV LkM.numsOf
    rw[map_map];rfl
   rw[eN]
   have s5:=SG.new (o := .lst (nV (numsOf a ps.length))) Lc
   have g5:(aw H4 Cm (.lst (nV (numsOf a ps.length)))) Cm=some (.lst (nV (numsOf a ps.length))):=ad
   have PR:(aw H4 Cm (.lst (nV (numsOf a ps.length)))) Se=some (.tup (nV S)):=by rw[ai (ah Lg Lc)];exact Lg
   generalize aw H4 Cm (.lst (nV (numsOf a ps.length)))=H5 at s5 g5 PR ⊢
   refine⟨Cm,_,rfl, .inl ⟨AQ.of g5,fun ta SI=>?_⟩⟩
   have s6:=s5.new (o := .tup (nV (numsOf a ps.length))) SI
   have g6:(aw H5 ta (.tup (nV (numsOf a ps.length)))) ta=some (.tup (nV (numsOf a ps.length))):=ad
   have Fp:(aw H5 ta (.tup (nV (numsOf a ps.length)))) Se=some (.tup (nV S)):=by rw[ai (ah PR SI)];exact PR
   generalize aw H5 ta (.tup (nV (numsOf a ps.length)))=H6 at s6 g6 Fp ⊢
   refine⟨_,rfl,by show 2 <= sizeLine;decide,fun tp PU=>?_⟩
   have s7:=s6.new (o := .tup [.ref ta, .ref Se]) PU
   have g7:(aw H6 tp (.tup [.ref ta, .ref Se])) tp=some (.tup [.ref ta, .ref Se]):=ad
   have PV:(aw H6 tp (.tup [.ref ta, .ref Se])) ta=some (.tup (nV (numsOf a ps.length))):=by rw[ai (ah g6 PU)];exact g6
   have PX:(aw H6 tp (.tup [.ref ta, .ref Se])) Se=some (.tup (nV S)):=by rw[ai (ah Fp PU)];exact Fp
   generalize aw H6 tp (.tup [.ref ta, .ref Se])=H7 at s7 g7 PV PX ⊢
   refine⟨by show 2 <= sizeLine;decide,fun t ht=>?_⟩
   exact q _ _ (s7.new ht) ⟨t,tp,ta,Se,rfl,ad,by rw[ai (ah g7 ht)];exact g7,by rw[ai (ah PV ht)];exact PV,by rw[ai (ah PX ht)];exact PX⟩
end K25
namespace L2
open PySem
mutual
theorem Den.same {K:Frag}{H H':Hp}(s:AI H H'):∀ {x:V}{d:PyData},Den K H x d->Den K H' x d
 | _,_, .AZ => .AZ
 | _,_, .bl b => .bl b
 | _,_, .int i => .int i
 | _,_, .str x => .str x
 | _,_, .lst h t => .lst (s.seq h) (BJ.same s t)
 | _,_, .tup h t => .tup (AI.K7 s h) (BJ.same s t)
theorem BJ.same {K:Frag}{H H':Hp}(s:AI H H'):∀ {xs:List V}{ds:List PyData},BJ K H xs ds->BJ K H' xs ds
 | _,_, .nil => .nil
 | _,_, .cons h t => .cons (Den.same s h) (BJ.same s t)
end
end L2
namespace K25
open PySem L2
variable {P:Program}{w:World}{K:Frag}{mg:Str->Option Value}{base:Heap}
theorem PY (m k:Nat):decide (V.int (Builtin.bitAnd ((m:Int) / 2 ^ (k:Int).toNat) 1)=V.int 0) = !m.testBit k:=by
 rw[cA,toNat_natCast]
 have e:((m:Int) / 2 ^ k)=((m / 2 ^ k:Nat):Int):=by
  rw[Int.natCast_ediv,natCast_pow]
  rfl
 rw[e,show (1:Int)=((1:Nat):Int) from rfl,Yd.Cu,Nat.testBit_eq_decide_div_mod_eq,Nat.and_one_is_mod]
 rcases (show m / 2 ^ k % 2=0∨m / 2 ^ k % 2=1 by omega) with z | z<;>rw[z]<;>rfl
end K25
namespace K25
open PySem L2 LkM
theorem kQ {S:Nat->Prop}{l:Option Nat}:∀ {ws:List Nat}{a:As},(∀ z ∈ a.map (·.1),S z)->(∀ z ∈ ws,S z)->∀ z ∈ (addW l a ws).map (·.1),S z
 | [],a,h,_=>h
 | x :: ws,a,h,hw=>by
  rw[iQ]
  refine kQ ?_ fun z hz=>hw z (mem_cons_of_mem _ hz)
  split
  ·exact h
  ·intro z hz
   rw[map_append]at hz
   rcases mem_append.mp hz with hz | hz
   ·exact h z hz
   ·rw[mem_singleton.mp hz]
    exact hw x mem_cons_self
theorem oG {S:Nat->Prop}{on:Nat->List Nat}(EC:∀ l,S l->∀ z ∈ on l,S z):∀ (f:Nat)(a:As)(i:Nat),(∀ z ∈ a.map (·.1),S z)->∀ z ∈ (gn on f a i).map (·.1),S z
 | 0,a,i,h=>h
 | f + 1,a,i,h=>by
  cases e:a[i]? with
  | none=>rw[jE e];exact h
  | some x =>
   rw[iB e]
   exact oG EC f _ _ (kQ h (EC x.1 (h x.1 (mem_map.mpr ⟨x,mem_of_getElem? e,rfl⟩))))
theorem sk {S:Nat->Prop}{wy:aX->Nat}{ps:List (Int × Int)}{n g:Nat}(h0:∀ p,p < n->∀ z ∈ wl wy [some (p:Int),some (g:Int),none],S z)(h1:∀ l,S l->∀ z ∈ bZ wy ps g l,S z){z:Nat}(h:kS wy ps n g z):S z:=by
 refine oG h1 _ _ _ (kQ (fun z hz=>by cases hz) fun z hz=>?_) z h
 obtain⟨p,hp,hz⟩:=mem_flatMap.mp hz
 exact h0 p (mem_range.mp hp) z hz
theorem Bo {m p:Nat}:p ∈ bT m↔m.testBit p=true:=Yd.Bq (Yd.BH m)
theorem Cg {S:List Nat}{m:Nat}{q:Nat × Nat}:q ∈ dS S m↔q.1 < m/\(S.getD q.1 0).testBit q.2=true:=by
 unfold dS jW
 rw[mem_flatMap]
 constructor
 ·rintro⟨l,hl,h⟩
  obtain⟨g,hg,rfl⟩:=mem_map.mp h
  exact⟨mem_range.mp hl,Bo.mp hg⟩
 ·rintro⟨h1,h2⟩
  exact⟨q.1,mem_range.mpr h1,mem_map.mpr ⟨q.2,Bo.mpr h2,rfl⟩⟩
theorem nE {S:List Nat}{n l g:Nat}(h:∀ z ∈ S,z < 2 ^ n)(hb:(S.getD l 0).testBit g=true):g < n:=by
 have AV:S.getD l 0 < 2 ^ n:=by
  rw[getD_eq_getElem?_getD]
  cases e:S[l]? with
  | none=>exact two_pow_pos n
  | some y=>exact h y (mem_of_getElem? e)
 refine Classical.byContradiction fun hn=>?_
 rw[testBit_lt_two_pow (lt_of_lt_of_le AV (pow_le_pow_right (by decide) (by omega)))]at hb
 cases hb
structure wM (wy:aX->Nat)(ps:List (Int × Int))(n:Nat)(r:List (Nat × Nat)):Prop where
 ne:r ≠ []
 nd:(r.map (·.1)).Nodup
 By:r.length <= ps.length
 st:∀ k p q,r[if k=0 then r.length - 1 else k - 1]? = some p->r[k]? = some q->p.1 < ps.length/\p.2 < n/\kS wy ps n p.2 p.1/\q.1 ∈ bZ wy ps p.2 p.1
theorem rR {L:Ld}{r:List Nat}{i:Nat}{q:Nat × Nat}(h:(gK L r)[i]? = some q):∃ x y,r[i]? = some x/\(kW r)[i]? = some y/\q=(x,(eJ (L.getD y []) x).getD 0):=by
 unfold gK at h
 rw[getElem?_map]at h
 cases e:(r.zip (kW r))[i]? with
 | none=>rw[e]at h;cases h
 | some p =>
  rw[e]at h
  obtain⟨h1,h2⟩:=List.getElem?_zip_eq_some.mp e
  exact⟨p.1,p.2,h1,h2,(Option.some.inj h).symm⟩
theorem jF (L:Ld)(r:List Nat):(gK L r).length=r.length:=by
 unfold gK
 rw[length_map,List.length_zip,mR,Nat.min_self]
theorem uZ (L:Ld)(r:List Nat):(gK L r).map (·.1)=r:=by
 unfold gK
 rw[map_map]
 have:((fun x:Nat × Nat=>x.1) ∘ fun p:Nat × Nat=>(p.1,(eJ (L.getD p.2 []) p.1).getD 0))=Prod.fst:=rfl
 rw[this,List.map_fst_zip]
 rw[mR];exact Nat.le_refl _
theorem uX {r:List Nat}{k x y:Nat}(hx:(kW r)[if k=0 then r.length - 1 else k - 1]? = some x)(hy:r[k]? = some y):x=y:=by
 have hk:=(gQ0 hy)
 unfold kW at hx
 by_cases h:k=0
 ·subst h
  rw[if_pos rfl,getElem?_append_right (by rw[length_drop];exact Nat.le_refl _),length_drop,Nat.sub_self,List.getElem?_take,if_pos (by omega),hy]at hx
  exact(Option.some.inj hx).symm
 ·rw[if_neg h,getElem?_append_left (by rw[length_drop];omega),List.getElem?_drop,show 1 + (k - 1)=k by omega,hy]at hx
  exact(Option.some.inj hx).symm
theorem xl {wy:aX->Nat}{ps:List (Int × Int)}{n:Nat}(hl:(fW (nL wy ps n)).length < ps.length):wM wy ps n (gK (nL wy ps n) (gF (nL wy ps n) (fW (nL wy ps n))).reverse):=by
 have AR:Bi (bZ wy ps) (uo (cc wy ps n n)) ps.length (nL wy ps n):=ik
 generalize nL wy ps n=L at AR hl
 have MF:=AR.len
 have AV:∀ w,∀ z ∈ ks (L.getD w []),z < L.length:=fun w z hz=>by
  obtain⟨y,hy,rfl⟩:=gw hz
  rw[MF];exact(AR.of w y hy).1
 obtain⟨m,hN,DR⟩:=nh L
 have Cf:=rD AV DR (by omega)
 generalize gF L (fW L)=cy at Cf
 have DE:cy.length <= L.length:=ij _ _ Cf.nd Cf.lt
 refine⟨fun z=>Cf.ne ?_,by rw[uZ];exact List.pairwise_reverse.mpr (Cf.nd.imp fun h=>Ne.symm h),by rw[jF,length_reverse];omega,fun k p q hp hq=>?_⟩
 ·have:=congrArg List.length z
  rw[jF,length_reverse]at this
  exact List.length_eq_zero_iff.mp this
 ·rw[jF]at hp
  obtain⟨x,y,hx,hy,rfl⟩:=rR hp
  obtain⟨x2,y2,Ib,hy2,rfl⟩:=rR hq
  have exy:y=x2:=uX hy Ib
  subst exy
  obtain⟨g,hg⟩:=dY (Cf.fwd _ x y hx hy)
  obtain⟨b1,b2,b3⟩:=AR.of y (x,g) (mj hg)
  dsimp only at b1 b2 b3
  rw[hg]
  have hb:=Bo.mp b2
  exact⟨b1,nE (gv wy ps n n (Nat.le_refl _)) hb,dB hb,b3⟩
theorem qZ (S:List Nat):(iz S).map Int.toNat=S:=by
 unfold iz
 rw[map_map]
 conv=>rhs;rw[← map_id S]
 refine map_congr_left fun z _=>?_
 exact toNat_natCast z
theorem jw (S:List Nat)(l:Nat):(iz S).getD l 0=((S.getD l 0:Nat):Int):=by
 unfold iz
 rw[getD_eq_getElem?_getD,getD_eq_getElem?_getD,getElem?_map]
 cases S[l]?<;>rfl
theorem rh {n:Nat}{ps:List (Int × Int)}{nums:List Int}{S:List Nat}{wy:aX->Nat}(hnl:nums.length=ps.length)(CK:S.length=ps.length)(AV:∀ z ∈ S,z < 2 ^ n)(h1:∀ p g:Nat,p < n->g < n->∀ z ∈ wl wy [some (p:Int),some (g:Int),none],cS S z g=true)
  (h2:∀ l g:Nat,l < ps.length->cS S l g=true->¬ (ps.getD l (0,0)).2=(g:Int)->bZ wy ps g l ≠ []/\∀ z ∈ bZ wy ps g l,cS S z g=true/\nums.getD l 0 < nums.getD z 0):iO wy ps n nums (iz S)=none:=by
 have hsz:gJ ps.length n nums (iz S)=true:=by
  unfold gJ
  rw[decide_eq_true hnl,Bool.true_and,decide_eq_true (by unfold iz;rw[length_map];exact CK),Bool.true_and,all_eq_true]
  intro s hs
  obtain⟨z,hz,rfl⟩:=mem_map.mp hs
  have:=AV z hz
  refine decide_eq_true ⟨by omega,?_⟩
  rw[toNat_natCast,one_mul,show (2:Int) ^ n=((2 ^ n:Nat):Int) by rw[natCast_pow];rfl]
  omega
 unfold iO
 rw[hsz,if_pos rfl,qZ]
 have CY:c6 wy n S=none:=by
  unfold c6
  rw[List.findSome?_eq_none_iff]
  intro z hz
  obtain⟨p,g,rfl,hp,hg⟩:=kj hz
  unfold K8
  rw[List.findSome?_eq_none_iff]
  intro l hl
  rw[if_pos (by show cS S l ((g:Int)).toNat=true;rw[toNat_natCast];exact h1 p g hp hg l hl)]
 have Ew:dE wy ps nums S ps.length=none:=by
  unfold dE
  rw[List.findSome?_eq_none_iff]
  intro l hl
  unfold pc
  rw[List.findSome?_eq_none_iff]
  intro g hg
  have hb:cS S l g=true:=(Yd.Bq (Yd.BH _)).mp hg
  by_cases he:(g:Int)=(ps.getD l (0,0)).2
  ·rw[if_pos he]
  ·rw[if_neg he]
   obtain⟨h3,h4⟩:=h2 l g (mem_range.mp hl) hb (fun z=>he z.symm)
   unfold jX
   rw[if_neg h3,List.findSome?_eq_none_iff]
   intro z hz
   obtain⟨h5,h6⟩:=h4 z hz
   unfold kX
   rw[h5,if_pos rfl,if_neg (by omega)]
 rw[CY,Ew]
 rfl
inductive yw (wy:aX->Nat)(ps:List (Int × Int))(n:Nat):PM->Prop
 | CT {l g:Nat} (h:dC wy ps n=some (l,g)):yw wy ps n (.CT (l,g))
 | ring {r:List (Nat × Nat)} (h:dC wy ps n=none) (hr:wM wy ps n r):yw wy ps n (.ring r)
 | BF {N:List Nat} (h:dC wy ps n=none) (hN:wN (bZ wy ps) (uo (cc wy ps n n)) ps.length N):yw wy ps n (.BF N)
theorem nk (wy:aX->Nat)(ps:List (Int × Int))(n:Nat):yw wy ps n (gc wy ps n):=by
 unfold gc
 cases hl:dC wy ps n with
 | some q=>exact .CT hl
 | none =>
  dsimp only
  by_cases h:(fW (nL wy ps n)).length < ps.length
  ·rw[if_pos h]
   exact .ring hl (xl h)
  ·rw[if_neg h]
   refine .BF hl ?_
   have AR:Bi (bZ wy ps) (uo (cc wy ps n n)) ps.length (nL wy ps n):=ik
   obtain⟨m,hN,_⟩:=nh (nL wy ps n)
   have h1:=hN.len
   have h2:=AR.len
   exact xS (show(fW (nL wy ps n)).length=ps.length by omega)
structure Fr (wy:aX->Nat)(ps:List (Int × Int))(n:Nat)(nums:List Int)(S:List Nat):Prop where
 nl:nums.length=ps.length
 sl:S.length=ps.length
 lt:∀ z ∈ S,z < 2 ^ n
 a:∀ p g:Nat,p < n->g < n->∀ z ∈ wl wy [some (p:Int),some (g:Int),none],cS S z g=true
 b:∀ l g:Nat,l < ps.length->cS S l g=true->¬ (ps.getD l (0,0)).2=(g:Int)->bZ wy ps g l ≠ []/\∀ z ∈ bZ wy ps g l,cS S z g=true/\nums.getD l 0 < nums.getD z 0
theorem Ak {n:Nat}{ps:List (Int × Int)}{nums:List Int}{S:List Nat}{wy:aX->Nat}(hn:n <= 12):iO wy ps n nums (iz S)=none↔Fr wy ps n nums S:=by
 refine⟨fun h=>?_,fun h=>rh h.nl h.sl h.lt h.a h.b⟩
 unfold iO at h
 cases hz:gJ ps.length n nums (iz S) with
 | false=>rw[hz,if_neg (by decide)]at h;cases h
 | true =>
  rw[hz,if_pos rfl,qZ,Option.or_eq_none_iff]at h
  obtain⟨z1,z2,z3⟩:=oq hz
  have AV:=rM hn z3
  rw[qZ]at AV
  obtain⟨CY,Ew⟩:=h
  refine⟨z1,by unfold iz at z2;rw[length_map]at z2;exact z2,AV,fun p g hp hg z hm=>?_,fun l g hl hb he=>?_⟩
  ·unfold c6 at CY
   rw[List.findSome?_eq_none_iff]at CY
   have hs:((p:Int),(g:Int)) ∈ aN wy n n:=by
    refine mem_flatMap.mpr ⟨p,mem_range.mpr hp,mem_map.mpr ⟨g,mem_filter.mpr ⟨mem_range.mpr hg,?_⟩,rfl⟩⟩
    unfold cD
    rw[Bool.not_eq_true',decide_eq_false_iff_not]
    intro e
    have:=Bo.mp hm
    rw[e,zero_testBit]at this
    cases this
   have h1:=CY _ hs
   unfold K8 at h1
   rw[List.findSome?_eq_none_iff]at h1
   have h2:=h1 z hm
   dsimp only at h2
   rw[toNat_natCast]at h2
   cases hb:cS S z g with
   | true=>rfl
   | false=>rw[hb,if_neg (by decide)]at h2;cases h2
  ·unfold dE at Ew
   rw[List.findSome?_eq_none_iff]at Ew
   have h1:=Ew l (mem_range.mpr hl)
   unfold pc at h1
   rw[List.findSome?_eq_none_iff]at h1
   have h2:=h1 g (Bo.mpr hb)
   rw[if_neg (fun e=>he e.symm)]at h2
   unfold jX at h2
   by_cases ho:bZ wy ps g l=[]
   ·rw[if_pos ho]at h2;cases h2
   ·rw[if_neg ho,List.findSome?_eq_none_iff]at h2
    refine⟨ho,fun z Cq=>?_⟩
    have h3:=h2 z Cq
    unfold kX at h3
    cases hb:cS S z g with
    | false=>rw[hb,if_neg (by decide)]at h3;cases h3
    | true =>
     rw[hb,if_pos rfl]at h3
     by_cases hnn:nums.getD z 0 <= nums.getD l 0
     ·rw[if_pos hnn]at h3;cases h3
     ·exact⟨rfl,by omega⟩
theorem qN {wy:aX->Nat}{ps:List (Int × Int)}{g l z:Nat}(h:z ∈ bZ wy ps g l):¬ (ps.getD l (0,0)).2=(g:Int)/\z ∈ wl wy [some (ps.getD l (0,0)).2,some (g:Int),some (l:Int)]:=by
 unfold bZ at h
 split at h
 ·cases h
 ·next e=>exact⟨e,h⟩
theorem Fr.met {wy:aX->Nat}{ps:List (Int × Int)}{n g l:Nat}{nums:List Int}{S:List Nat}(h:Fr wy ps n nums S)(BY:∀ k,∀ z ∈ wl wy k,z < ps.length)(hg:g < n)(hm:kS wy ps n g l):l < ps.length/\cS S l g=true :=
 sk (S:=fun z=>z < ps.length/\cS S z g=true) (fun p hp z hz=>⟨BY _ z hz,h.a p g hp hg z hz⟩) (fun l hl z hz=>⟨lB BY g l z hz,((h.b l g hl.1 hl.2 (qN hz).1).2 z hz).1⟩) hm
theorem Fr.less {wy:aX->Nat}{ps:List (Int × Int)}{n:Nat}{nums:List Int}{S:List Nat}(h:Fr wy ps n nums S)(BY:∀ k,∀ z ∈ wl wy k,z < ps.length):Fr wy ps n nums (cc wy ps n n):=by
 have AV:=gv wy ps n n (Nat.le_refl _)
 refine⟨h.nl,eO _ _ _ _,AV,fun p g hp hg z hz=>c9 hg (BY _ z hz) (lO BY hp hz),fun l g hl hb he=>?_⟩
 have MG:=nE AV hb
 have hm:kS wy ps n g l:=dB hb
 obtain⟨h1,h2⟩:=h.b l g hl (h.met BY MG hm).2 he
 exact⟨h1,fun z hz=>⟨c9 MG (lB BY g l z hz) (oi BY hm hz),(h2 z hz).2⟩⟩
theorem Fr.look {wy:aX->Nat}{ps:List (Int × Int)}{n:Nat}{nums:List Int}(h:Fr wy ps n nums (cc wy ps n n)):dC wy ps n=none/\∃ N,gc wy ps n = .BF N:=by
 have Ci:dC wy ps n=none:=by
  unfold dC
  rw[List.find?_eq_none]
  intro q hq hb
  obtain⟨h1,h2⟩:=Cg.mp hq
  unfold eW at hb
  rw[Bool.and_eq_true,Bool.not_eq_true',decide_eq_false_iff_not,isEmpty_iff]at hb
  exact(h.b q.1 q.2 h1 h2 hb.1).1 hb.2
 refine⟨Ci,?_⟩
 have hk:=nk wy ps n
 cases hr:gc wy ps n with
 | BF N=>exact⟨N,rfl⟩
 | CT q =>
  rw[hr]at hk
  cases hk with
  | CT h'=>rw[Ci]at h';cases h'
 | ring r =>
  rw[hr]at hk
  cases hk with
  | ring _ ho =>
   exfalso
   have up:∀ k p q,r[if k=0 then r.length - 1 else k - 1]? = some p->r[k]? = some q->nums.getD p.1 0 < nums.getD q.1 0:=fun k p q hp hq=>by
    obtain⟨a1,a2,a3,a4⟩:=ho.st k p q hp hq
    exact((h.b p.1 p.2 a1 (c9 a2 a1 a3) (qN a4).1).2 q.1 a4).2
   have hl:0 < r.length:=length_pos_iff.mpr ho.ne
   have all:∀ k (hk:k < r.length),nums.getD (r[0]).1 0 <= nums.getD (r[k]).1 0:=by
    intro k
    induction k with
    | zero=>intro _;exact Int.le_refl _
    | succ k ih =>
     intro hk
     have h1:=ih (by omega)
     have h2:=up (k + 1) r[k] r[k + 1] (by rw[if_neg (by omega)];exact getElem?_eq_getElem (by omega)) (getElem?_eq_getElem hk)
     omega
   have h1:=all (r.length - 1) (by omega)
   have h2:=up 0 r[r.length - 1] r[0] (by rw[if_pos rfl];exact getElem?_eq_getElem (by omega)) (getElem?_eq_getElem hl)
   omega
noncomputable def bQ (w h p:Int):List Int :=
 (((if p % w + 1 < w then [p + 1] else []) ++ (if 0 < p % w then [p - 1] else [])) ++ (if p / w + 1 < h then [p + w] else [])) ++ (if 0 < p / w then [p - w] else [])
noncomputable def av (w h:Int)(m:Nat):List (Int × Int):=(List.range m).flatMap fun p:Nat=>(bQ w h p).map fun e=>((p:Int),e)
noncomputable def near:List (Int × Int):=[(1,0),(-1,0),(0,1),(0,-1)]
noncomputable def PZ (w h p:Int)(d:Int × Int):List (Int × Int):=if (0 <= p % w + d.1/\p % w + d.1 < w)/\(0 <= p / w + d.2/\p / w + d.2 < h) then [(p,(p / w + d.2) * w + (p % w + d.1))] else []
noncomputable def oX (w h:Int)(m:Nat):List (Int × Int):=(List.range m).flatMap fun p:Nat=>near.flatMap fun d=>PZ w h p d
noncomputable def b9 (w p g:Int):Int:=if p % w < g % w then p + 1 else if g % w < p % w then p - 1 else if p < g then p + w else p - w
noncomputable def Lh (i:Int):Int:=if i < 0 then -i else i
noncomputable def jh (w p g:Int):Int:=Lh (p % w - g % w) + Lh (p / w - g / w)
noncomputable def cw (a m:Nat):List (Int × Int):=((List.range m).filter fun b:Nat=>decide (((a:Int) + 1) * ((b:Int) + 1) < 13)).map fun b:Nat=>((a:Int) + 1,(b:Int) + 1)
noncomputable def bO (m:Nat):List (Int × Int):=(List.range m).flatMap fun a=>cw a 12
noncomputable def dA (q:Int × Int):Bool:=decide (1 <= q.1/\1 <= q.2/\q.1 * q.2 <= 12)
theorem uH:(bO 12).all dA=true:=by decide +kernel
theorem sU:(bO 12).length=35:=by decide +kernel
noncomputable def rY (w h:Int)(ls:List (Int × Int))(m:Nat):Bool:=(List.range m).all fun p=>(List.range m).all fun g=>(decide (p=g) && decide (jh w p g=0)) || (!decide (p=g) && (decide (0 < jh w p g) && (ls.contains ((p:Int),b9 w p g) && (decide (0 <= b9 w p g/\b9 w p g < m) && decide (jh w (b9 w p g) g=jh w p g - 1)))))
noncomputable def ow (q:Int × Int):Bool:=decide (av q.1 q.2 (q.1 * q.2).toNat=oX q.1 q.2 (q.1 * q.2).toNat) && (rY q.1 q.2 (av q.1 q.2 (q.1 * q.2).toNat) (q.1 * q.2).toNat && decide ((av q.1 q.2 (q.1 * q.2).toNat).length <= 40)) && (av q.1 q.2 (q.1 * q.2).toNat).all fun e=>decide ((0 <= e.1/\e.1 <= q.1 * q.2 - 1)) && (decide (0 <= e.2/\e.2 <= q.1 * q.2 - 1) && !decide (e.1=e.2))
theorem qm:(bO 12).all ow=true:=by decide +kernel
theorem ou {w h:Int}(ho:dA (w,h)=true):(w,h) ∈ bO 12:=by
 have ⟨h1,h2,h3⟩:=of_decide_eq_true ho
 have h1:1 <= w:=h1
 have h2:1 <= h:=h2
 have h3:w * h <= 12:=h3
 have hw:w <= 12:=by
  have:w * 1 <= w * h:=Int.mul_le_mul_of_nonneg_left h2 (by omega)
  omega
 have hh:h <= 12:=by
  have:1 * h <= w * h:=Int.mul_le_mul_of_nonneg_right h1 (by omega)
  omega
 obtain⟨a,ha⟩:∃ a:Nat,w=(a:Int) + 1:=⟨(w - 1).toNat,by omega⟩
 obtain⟨b,hb⟩:∃ b:Nat,h=(b:Int) + 1:=⟨(h - 1).toNat,by omega⟩
 unfold bO
 refine mem_flatMap.mpr ⟨a,mem_range.mpr (by omega),?_⟩
 unfold cw
 refine mem_map.mpr ⟨b,mem_filter.mpr ⟨mem_range.mpr (by omega),decide_eq_true ?_⟩,by rw[ha,hb]⟩
 rw[← ha,← hb];omega
structure pO (w h:Int)(m:Nat):Prop where
 w1:1 <= w
 SJ:w <= 12
 h1:1 <= h
 m1:1 <= m
 FP:m <= 12
 wh:w * h=(m:Int)
 alike:av w h m=oX w h m
 By:(av w h m).length <= 40
 good:∀ p ∈ av w h m,ie m p=true
 at_:∀ p g:Nat,p < m->g < m->(p=g/\jh w p g=0)∨(p ≠ g/\0 < jh w p g/\((p:Int),b9 w p g) ∈ av w h m/\(0 <= b9 w p g/\b9 w p g < m)/\jh w (b9 w p g) g=jh w p g - 1)
theorem sy {w h:Int}(ho:dA (w,h)=true):pO w h (w * h).toNat:=by
 have ⟨h1,h2,h3⟩:=of_decide_eq_true ho
 have h1:1 <= w:=h1
 have h2:1 <= h:=h2
 have h3:w * h <= 12:=h3
 have hw:w * 1 <= w * h:=Int.mul_le_mul_of_nonneg_left h2 (by omega)
 have hm:w * h=(((w * h).toNat:Nat):Int):=by omega
 have hg:=all_eq_true.mp qm _ (ou ho)
 unfold ow at hg
 simp only[Bool.and_eq_true]at hg
 obtain⟨⟨g1,g2,g3⟩,g4⟩:=hg
 have g1:=of_decide_eq_true g1
 have g3:=of_decide_eq_true g3
 refine⟨h1,by omega,h2,by omega,by omega,hm,g1,g3,fun p hp=>?_,fun p g hp hg=>?_⟩
 ·have:=all_eq_true.mp g4 p hp
  unfold ie
  rw[← hm]
  exact this
 ·unfold rY at g2
  have a1:=all_eq_true.mp g2 p (mem_range.mpr hp)
  have a2:=all_eq_true.mp a1 g (mem_range.mpr hg)
  simp only[Bool.or_eq_true,Bool.and_eq_true,decide_eq_true_eq,Bool.not_eq_true',decide_eq_false_iff_not,List.contains_iff_mem]at a2
  rcases a2 with ⟨b1,b2⟩ | ⟨b1,b2,b3,b4,b5⟩
  ·exact .inl ⟨b1,b2⟩
  ·exact .inr ⟨b1,b2,b3,b4,b5⟩
theorem tV {w h:Int}{m:Nat}(G:pO w h m):cQ (w * h) (av w h m) = .good:=by
 have:=G.m1
 have:=G.FP
 unfold cQ
 rw[G.wh,decide_eq_true (show (1:Int) <= (m:Int)/\(m:Int) <= 12 by omega),if_neg (by decide),if_neg (by have:=G.By;omega),dG G.good]
theorem l4 (w h:Int)(i:Nat):av w h (i + 1)=av w h i ++ (bQ w h i).map fun e=>((i:Int),e):=by
 unfold av
 rw[range_succ,flatMap_append]
 simp
theorem kN (w h p:Int):(bQ w h p).length <= 4:=by
 unfold bQ
 simp only[length_append]
 have e:∀ (c:Prop) [Decidable c] (v:Int),(if c then [v] else []).length <= 1:=fun c _ v=>by split<;>simp
 have a1:=e (p % w + 1 < w) (p + 1)
 have a2:=e (0 < p % w) (p - 1)
 have a3:=e (p / w + 1 < h) (p + w)
 have a4:=e (0 < p / w) (p - w)
 omega
noncomputable def m8:Sp:=fun vs H Q _=>∃ w h:Int,vs=[.int w, .int h]/\EJ w h/\Q (.bl (dA (w,h))) H
noncomputable def uG:Sp:=fun vs H Q _=>∃ w h p:Int,vs=[.int w, .int h, .int p]/\0 < w/\w < 1073741824/\∀ (D:Addr)(H':Hp),AI H H'->H D=none->H' D=some (.lst ((bQ w h p).map V.int))->Q (.ref D) H'
noncomputable def qc:Sp:=fun vs H Q _=>∃ (w h:Int)(m:Nat),vs=[.int w, .int h]/\pO w h m/\∀ (D:Addr)(AY:List V)(H':Hp),AI H H'->H D=none->H' D=some (.lst AY)->AX H' AY (av w h m)->Q (.ref D) H'
noncomputable def uk (H:Hp)(ts:Ts)(x dx:Addr)(lv:V)(w:Int):Prop:=H x=some (.ins ts.rf dx [("land",lv),("wide", .int w)])
noncomputable def yP (c:Cs)(ts:Ts):Sp:=fun vs H Q E=>∃ (x dx:Addr)(w h:Int),vs=[.ref x, .int w, .int h]/\H x=some (.ins ts.rf dx [])/\EJ w h /\
 (dA (w,h)=false->False) /\
 (∀ m:Nat,pO w h m->dA (w,h)=true->∀ H' lx AN lt AK,Off x H H'->uk H' ts x dx (.ref lx) w->bv H' c lx AN lt (w * h) AK (av w h m)->Q .AZ H')
noncomputable def mB (ts:Ts):Sp:=fun vs H Q _=>∃ (x dx:Addr)(lv:V)(w p g:Int),vs=[.ref x, .int p, .int g]/\uk H ts x dx lv w/\0 < w/\Q (.int (b9 w p g)) H
noncomputable def uv (w h:Int)(m p g:Nat):List Int:=if p=g then [] else [((av w h m).idxOf ((p:Int),b9 w p g):Int)]
noncomputable def rG (c:Cs)(ts:Ts):Sp:=fun vs H Q _=>∃ (x dx lx AN lt:Addr)(AK:List V)(w h:Int)(m p g:Nat)(cv:V),vs=[.ref x, .int p, .int g,cv]/\uk H ts x dx (.ref lx) w/\bv H c lx AN lt (w * h) AK (av w h m)/\pO w h m/\p < m/\g < m /\
 ∀ (D:Addr)(H':Hp),AI H H'->H D=none->H' D=some (.lst ((uv w h m p g).map V.int))->Q (.ref D) H'
structure MH (K:Frag)(mg:Str->Option Value)(ts:Ts)(f1:Addr)(d1:FuncData):Prop where
 cl:C8 K ts.rf
 n1:AW K ts.rf "land"
 n2:AW K ts.rf "wide"
 mt:mg "Table" = some (.ref ts.tab)
 cm:pQ K ts.tab "__init__" f1
 bt:Binds K d1 ["self", "land"] []
theorem AX.app {H:Hp}{us:List V}{qs:List (Int × Int)}(h:AX H us qs):∀ {vs:List V}{ps:List (Int × Int)},AX H vs ps->AX H (vs ++ us) (ps ++ qs):=fun AL=>by
 induction AL with
 | nil=>exact h
 | cons q r ih=>exact .cons q ih
theorem lK {ps:List (Int × Int)}{p:Int × Int}(h:p ∈ ps):ps[ps.idxOf p]? = some p/\∀ m q,m < ps.idxOf p->ps[m]? = some q->q ≠ p:=by
 have hl:=idxOf_lt_length_of_mem h
 refine⟨by rw[getElem?_eq_getElem hl,getElem_idxOf],fun m q hm hq e=>?_⟩
 subst e
 obtain⟨F4,e⟩:=List.getElem?_eq_some_iff.mp hq
 have:=List.not_of_lt_findIdx (p:=fun x=>x == q) (xs:=ps) (i:=m) hm
 rw[e]at this
 simp at this
noncomputable def wx (s:Stmt):Scope:=match s with
 | .Expr (.Call _ [.ListComp _ _ sc _] _ _) _=>sc
 | _=>zQ0
noncomputable def ye (s:Stmt):List Stmt:=match s with
 | .For _ _ b _ _=>b
 | _=>[]
theorem yX:ar ["wide", "high"] ["wide", "high"] (aj qx):=L2.Bl
theorem v8 {f fh:Addr}{fd CZ:FuncData}{t1:Tok}(F:Bj K "is_size" "is_size" qx f fd)(T:eX mg)(mh:mg "is_whole" = some (.ref fh))(Fh:Bj K "is_whole" "is_whole" gm fh CZ)(bh:Binds K CZ ["value"] [])(mp:mg "MOST_PLACES" = some (.int 12 t1)) :
  AJ P w K mg base aC 2 f fd ["wide", "high"] m8:=by
 have G:AJ P w K mg base aC 1 fh CZ ["value"] m6:=oO Fh T
 refine F.ok yX (fun vs H Q E h=>?_) (fun Bb A outer s H vs Q E hr h=>?_)
 ·obtain⟨w',h',rfl,_⟩:=h
  rfl
 ·obtain⟨a,b,rfl,hc,q⟩:=h
  refine⟨_,ag (ap (ck (aq G hr rfl mh Fh.kp bh .nil ax (aa (pv 0) ae)) (ck (aq G hr rfl mh Fh.kp bh .nil ax (aa (pv 1) ae)) (ck (bY oN (pv 0) am (a9 _)) (ck (bY oN (pv 1) am (a9 _))
   (dR (bY jY (az dv (pv 0) (pv 1)) (cC (v := .int 12) rfl mp ⟨_,rfl⟩) (a9 _)))))))),?_⟩
  refine⟨_,rfl,a,rfl,true,rfl,aI ⟨_,rfl,b,rfl,true,rfl,aI ⟨_,rfl,_,_,rfl,rfl,_,rfl,?_⟩⟩⟩
  unfold dA at q
  by_cases h1:1 <= a
  ·rw[decide_eq_true h1]
   refine aI ⟨_,rfl,_,_,rfl,rfl,_,rfl,?_⟩
   by_cases h2:1 <= b
   ·rw[decide_eq_true h2]
    refine aI ⟨_,rfl,_,rfl,_,_,rfl,rfl,hc,_,_,rfl,rfl,?_⟩
    have e:decide (a * b <= 12)=decide (1 <= a/\1 <= b/\a * b <= 12):=by
     congr 1;exact propext ⟨fun z=>⟨h1,h2,z⟩,fun z=>z.2.2⟩
    show Q (.bl (decide (a * b <= 12))) H
    rw[e];exact q
   ·rw[decide_eq_false h2]
    refine aH ?_
    rw[decide_eq_false (show ¬ (1 <= a/\1 <= b/\a * b <= 12) from fun z=>h2 z.2.1)]at q
    exact q
  ·rw[decide_eq_false h1]
   refine aH ?_
   rw[decide_eq_false (show ¬ (1 <= a/\1 <= b/\a * b <= 12) from fun z=>h1 z.1)]at q
   exact q
abbrev NBe:List Str:=["wide", "high", "place", "column", "row", "beside"]
theorem Eh:ar NBe ["wide", "high", "place"] (aj zi):=L2.Bl
theorem zU {f:Addr}{fd:FuncData}(F:Bj K "places_beside" "places_beside" zi f fd):AJ P w K mg base aC 1 f fd ["wide", "high", "place"] uG:=by
 refine F.ok Eh (fun vs H Q E h=>?_) (fun Bb A outer s H vs Q E hr h=>?_)
 ·obtain⟨w',h',p',rfl,_⟩:=h
  rfl
 ·obtain⟨a,b,p,rfl,ha,JU,q⟩:=h
  refine⟨_,af (au (i:=3) Eh.nd rfl (Or.inl rfl) (az bF (pv 2) (pv 0)))
   (af (au (i:=4) Eh.nd rfl (Or.inl rfl) (az fS (pv 2) (pv 0)))
   (af (au (i:=5) Eh.nd rfl (Or.inl rfl) (b8 ae))
   (af (aL (ay gb (az bA (pv 3) am) (pv 0) (a9 _)) (ag (aT (cr plainAttrs_list PySem.F.slot_list_append PySem.F.type_list_append aS (pv 5) (aa (az bA (pv 2) am) ae)))) aA)
   (af (aL (ay vt (pv 3) am (a9 _)) (ag (aT (cr plainAttrs_list PySem.F.slot_list_append PySem.F.type_list_append aS (pv 5) (aa (az c8 (pv 2) am) ae)))) aA)
   (af (aL (ay gb (az bA (pv 4) am) (pv 1) (a9 _)) (ag (aT (cr plainAttrs_list PySem.F.slot_list_append PySem.F.type_list_append aS (pv 5) (aa (az bA (pv 2) (pv 0)) ae)))) aA)
   (af (aL (ay vt (pv 4) am (a9 _)) (ag (aT (cr plainAttrs_list PySem.F.slot_list_append PySem.F.type_list_append aS (pv 5) (aa (az c8 (pv 2) (pv 0)) ae)))) aA)
   (ag (ap (pv 5))))))))),?_⟩
  refine⟨_,rfl,_,rfl,_,_,rfl,rfl,ha,_,rfl,_,rfl,_,_,rfl,rfl,⟨ha,JU⟩,zero_le _,fun D hD=>?_⟩
  refine⟨_,rfl,_,_,rfl,rfl,_,rfl,_,_,rfl,rfl,_,rfl,k9 (fun h1=>⟨_,rfl, .inl ⟨rfl,_,AQ.of ad⟩,_,rfl,_,_,rfl,rfl,D,_,_,rfl,rfl,ad,by rw[sizeLine_eq];simp,?_⟩) fun h1=>?_⟩
  all_goals refine⟨_,rfl,_,_,rfl,rfl,_,rfl,k9 (fun h2=>⟨_,rfl, .inl ⟨rfl,_,AQ.of ad⟩,_,rfl,_,_,rfl,rfl,D,_,_,rfl,rfl,ad,by rw[sizeLine_eq];simp,?_⟩) fun h2=>?_⟩
  all_goals refine⟨_,rfl,_,_,rfl,rfl,_,rfl,_,_,rfl,rfl,_,rfl,k9 (fun h3=>⟨_,rfl, .inl ⟨rfl,_,AQ.of ad⟩,_,rfl,_,rfl,_,_,rfl,rfl,D,_,_,rfl,rfl,ad,by rw[sizeLine_eq];simp,?_⟩) fun h3=>?_⟩
  all_goals refine⟨_,rfl,_,_,rfl,rfl,_,rfl,k9 (fun h4=>⟨_,rfl, .inl ⟨rfl,_,AQ.of ad⟩,_,rfl,_,rfl,_,_,rfl,rfl,D,_,_,rfl,rfl,ad,by rw[sizeLine_eq];simp,?_⟩) fun h4=>?_⟩
  all_goals
   simp only[decide_eq_true_eq]at h1 h2 h3 h4
   refine⟨_,rfl,q D _ (fun b o e=>by simp only[ai (ah e hD)];exact e) hD ?_⟩
   rw[ad]
   unfold bQ
   simp only[h1,h2,h3,h4,if_true,if_false]
   rfl
abbrev SK:List Str:=["wide", "high", "lanes", "place"]
abbrev NRf:List Str:=["self", "wide", "high"]
abbrev Qa:List Str:=["self", "place", "goal", "column", "column_there"]
noncomputable def Qb:Stmt:=(ye ((aP o7).getD 1 (.Pass ⟨0,0,0,0⟩))).getD 0 (.Pass ⟨0,0,0,0⟩)
theorem oI (w h:Int):∀ m,(av w h m).length <= 4 * m
 | 0=>by simp[av]
 | m + 1=>by
  rw[l4,length_append,length_map]
  have:=oI w h m
  have:=kN w h m
  omega
theorem HD:ar SK ["wide", "high"] (aj o7):=L2.Bl
theorem Qc:BU SK (aj o7) (wx Qb) ["place"] [3]:=L2.Ds
theorem Qd:(["end", "place"]:List Str).Nodup:=by decide +kernel
theorem xD {f fb:Addr}{fd db:FuncData}(F:Bj K "row_lanes" "row_lanes" o7 f fd)(T:eX mg)(mb:mg "places_beside" = some (.ref fb))(kb:keepIn K (.ref fb)=true)(bb:Binds K db ["wide", "high", "place"] [])
  (Gb:AJ P w K mg base aC 1 fb db ["wide", "high", "place"] uG):AJ P w K mg base aC 2 f fd ["wide", "high"] qc:=by
 refine F.ok HD (fun vs H Q E h=>?_) (fun Bb A outer s H vs Q E hr h=>?_)
 ·obtain⟨w',h',m',rfl,_⟩:=h
  rfl
 ·obtain⟨a,b,m,rfl,G,q⟩:=h
  have g1:=G.w1
  have g2:=G.SJ
  have g3:=G.FP
  refine⟨_,af (au (i:=2) HD.nd rfl (Or.inl rfl) (b8 ae))
   (af (aK PassesOwn.never rfl (aR rfl T.range (aa (az dv (pv 0) (pv 1)) ae)) (ao (i:=3) HD.nd rfl (Or.inr rfl))
    (ag (aT (cr plainAttrs_list PySem.F.slot_list_extend PySem.F.type_list_extend lF (pv 2) (aa (bX (own:=["end"]) (capN:=["place"]) (cap:=[3]) Qc rfl (bB (aq Gb hr rfl mb kb bb .nil ax (aa (pv 0) (aa (pv 1) (aa (pv 3) ae)))))
     (fun C s' H' fp=>⟨ao (i:=0) Qd rfl (Or.inl rfl),cx,bu (aa (pv 1) (aa (pv 0) ae))⟩)) ae)))))
   (ag (ap (pv 2)))),?_⟩
  refine⟨zero_le _,fun D hD=>?_⟩
  have s0:=(AI.refl H).new (o := .lst []) hD
  refine⟨_,rfl,_,rfl,_,_,rfl,rfl, .inl ⟨by omega,by omega⟩,(m:Int),congrArg (fun z:Int=>[V.int z]) G.wh,by omega,by omega,?_⟩
  rw[toNat_natCast]
  refine aZ (n:=m) (fun i σ H2=>∃ (a3:Option V)(AY:List V),AI H H2/\H2 D=some (.lst AY)/\AX H2 AY (av a b i)/\σ=[some (.int a),some (.int b),some (.ref D),a3])
   ⟨none,[],s0,ad, .nil,rfl⟩ ?_ ?_
  ·rintro i σ H2 hi ⟨a3,AY,s2,gD,hL,rfl⟩
   rw[Int.zero_add]
   refine⟨_,rfl, .inl ⟨rfl,_,AQ.of gD⟩,_,rfl,_,rfl,_,rfl,a,b,(i:Int),rfl,by omega,by omega,fun B H3 s3 hB gB=>⟨B,rfl,⟨_,AQ.of gB⟩,?_⟩⟩
   have hbl:((bQ a b i).map V.int).length <= 4:=by rw[length_map];exact kN a b i
   refine bI ((bQ a b i).map V.int).length (by rw[sizeLine_eq];omega) (fun k acc H4=>AI H3 H4/\acc.length=k/\AX H4 acc (((bQ a b i).take k).map fun e=>((i:Int),e))) ⟨AI.refl _,rfl, .nil⟩ (fun k acc H4 h=>le_of_eq h.2.1) ?_ ?_
   ·rintro k acc H4 hk ⟨s4,GD,hA⟩
    have q4:AQ K H4 B ((bQ a b i).map V.int):=AQ.of (s4 _ _ gB)
    refine⟨⟨_,((bQ a b i).map V.int)[k],q4,getElem?_eq_getElem hk⟩,fun y H5 ⟨e5,hy⟩=>?_⟩
    subst e5
    have hy:=hy _ q4
    rw[getElem?_map]at hy
    obtain⟨e,he,rfl⟩:∃ e,(bQ a b i)[k]? = some e/\y=V.int e:=by
     cases ez:(bQ a b i)[k]? with
     | none=>rw[ez]at hy;cases hy
     | some e=>rw[ez]at hy;exact⟨e,rfl,(Option.some.inj hy).symm⟩
    refine⟨_,rfl,_,rfl,by show 2 <= sizeLine;decide,fun t ht=>?_⟩
    refine⟨s4.new ht,by rw[length_append,GD];rfl,?_⟩
    rw[take_succ,he,map_append]
    exact AX.snoc (p:=((i:Int),e)) ⟨t,rfl,ad⟩ (AX.same ((AI.refl _).new ht) hA)
   ·rintro acc H4 ⟨s4,GD,hA⟩
    rw[length_map,take_length]at hA
    refine⟨⟨_,AQ.of (s4 _ _ gB),Nat.le_refl _⟩,fun C hC=>?_⟩
    have SN:=s3.trans s4
    have s5:=SN.new (o := .lst acc) hC
    have nC:C ≠ D:=Ne.symm (ah (SN _ _ gD) hC)
    have Dy:AY.length=(av a b i).length:=Paired.length hL
    have La:=oI a b i
    refine⟨D,C,AY,acc,rfl,rfl,s5 _ _ gD,ad,by rw[sizeLine_eq];omega,?_⟩
    have Lj:AX (aw H4 C (.lst acc)) acc ((bQ a b i).map fun e=>((i:Int),e)):=AX.same ((AI.refl _).new hC) hA
    have Lk:=AX.same s5 hL
    have HE:=s5 _ _ gD
    generalize aw H4 C (.lst acc)=H5 at s5 Lj Lk HE ⊢
    refine⟨_,AY ++ acc,fun b' o e=>by rw[ai (ah e hD)];exact s5 _ _ (s2 _ _ e),ad,?_,rfl⟩
    rw[l4]
    exact eQ HE (AX.app Lj Lk)
  ·rintro σ H2 ⟨a3,AY,s2,gD,hL,rfl⟩
   exact⟨_,rfl,q D AY H2 s2 hD gD hL⟩
theorem Qe:ar NRf ["self", "wide", "high"] (aj OV):=L2.Bl
theorem Ll {c:Cs}{ts:Ts}{f fs fr fi ft:Addr}{fd ds dr di dt:FuncData}(F:Bj K "__init__" "RowFirst.__init__" OV f fd)(B:MH K mg ts ft dt)(G1:AJ P w K mg base aC 1 ft dt ["self", "land"] (ly K))
  (ms:mg "is_size" = some (.ref fs)) (ks:keepIn K (.ref fs)=true) (bs:Binds K ds ["wide", "high"] []) (Gs:AJ P w K mg base aC 2 fs ds ["wide", "high"] m8)
  (mr:mg "row_lanes" = some (.ref fr)) (kr:keepIn K (.ref fr)=true) (br:Binds K dr ["wide", "high"] []) (Gr:AJ P w K mg base aC 2 fr dr ["wide", "high"] qc)
  (M:Mk K c.land fi) (ml:mg "Land" = some (.ref c.land)) (bi:Binds K di ["self", "places", "lanes"] []) (Gi:AJ P w K mg base aC 4 fi di ["self", "places", "lanes"] (iA K c)) :
  AJ P w K mg base aC 6 f fd ["self", "wide", "high"] (yP c ts):=by
 refine F.ok Qe (fun vs H Q E h=>?_) (fun Bb A outer s H vs Q E hr h=>?_)
 ·obtain⟨x,dx,a,b,rfl,_⟩:=h
  rfl
 ·obtain⟨x,dx,a,b,rfl,hx,hc,hE,hQ⟩:=h
  have Cn:AU 1 _:=hr.mono (by decide)
  have Cy:AU 2 _:=hr.mono (by decide)
  refine⟨_,af (aL (dj (cz (aq Gs Cy rfl ms ks bs .nil ax (aa (pv 1) (aa (pv 2) ae)))))
    (ag eu) aA)
   (af (aT (gX (cC (v := .ref ts.tab) rfl B.mt rfl) B.cm G1 Cn B.bt .nil ax (aa (pv 0) (aa (dJ M Gi hr rfl ml bi .nil ax (aa (az dv (pv 1) (pv 2)) (aa (aq Gr Cy rfl mr kr br .nil ax (aa (pv 1) (aa (pv 2) ae))) ae))) ae))))
   (ag (gr (pv 0) (pv 1) rfl))),?_⟩
  refine⟨_,rfl,_,rfl,a,b,rfl,hc,_,rfl,?_⟩
  cases ho:dA (a,b) with
  | false=>exact aI (hE ho)
  | true =>
   have G:=sy ho
   generalize hm:(a * b).toNat=m at G
   refine aH ?_
   refine⟨rfl,_,rfl,_,rfl,_,rfl,_,_,rfl,rfl,hc,_,rfl,_,rfl,a,b,m,rfl,G,fun D AY H1 s1 hD gD hL=>?_⟩
   refine fun lx AN nx Ez E2=>?_
   have Ex:AI H1 (aw (aw H1 AN (.own lx)) lx (.ins c.land AN [])):=AI.new (AI.new (AI.refl H1) Ez) (by rw[ai (Ne.symm E2)];exact nx)
   have gd:=tV G
   have Dy:AY.length=(av a b m).length:=Paired.length hL
   have BB:=G.By
   refine⟨lx,AN,a * b,D,AY,av a b m,rfl,ad,AQ.of (Ex _ _ gD),AX.same Ex hL,by omega,(fun h=>by rw[gd]at h;cases h),(fun k h=>by rw[gd]at h;cases h),(fun k h=>by rw[gd]at h;cases h),fun _ H8 lt AK off Eg=>⟨rfl,?_⟩⟩
   have s8:AI H H8:=fun b' o z=>off b' o (ah (s1 _ _ z) nx) (Ex _ _ (s1 _ _ z))
   have x8:=s8 _ _ hx
   refine⟨x,ts.rf,dx,_,rfl,x8,B.cl,B.n1,?_⟩
   refine⟨_,rfl,_,rfl,x,ts.rf,dx,[("land", .ref lx)],rfl,ad,B.cl,B.n2,by show 1 < 1000;decide,?_⟩
   have Dv:Off x H8 (aw (aw H8 x (.ins ts.rf dx [("land", .ref lx)])) x (.ins ts.rf dx (dQ "wide" (.int a) [("land", .ref lx)]))):=fun b' o hb e=>by rw[ai hb,ai hb];exact e
   exact hQ m G ho _ lx AN lt AK (fun b' o hb e=>Dv b' o hb (s8 _ _ e)) (by unfold uk;rw[ad];rfl) (Off.land Dv x8 Eg)
theorem EZ:ar Qa ["self", "place", "goal"] (aj q0):=L2.Bl
theorem vB {ts:Ts}{f ft:Addr}{fd dt:FuncData}(F:Bj K "next_place" "RowFirst.next_place" q0 f fd)(B:MH K mg ts ft dt):AJ P w K mg base aC 1 f fd ["self", "place", "goal"] (mB ts):=by
 refine F.ok EZ (fun vs H Q E h=>?_) (fun Bb A outer s H vs Q E hr h=>?_)
 ·obtain⟨x,dx,lv,a,p,g,rfl,_⟩:=h
  rfl
 ·obtain⟨x,dx,lv,a,p,g,rfl,hx,ha,q⟩:=h
  refine⟨_,af (au (i:=3) EZ.nd rfl (Or.inl rfl) (az bF (pv 1) (aF (pv 0) rfl)))
   (af (au (i:=4) EZ.nd rfl (Or.inl rfl) (az bF (pv 2) (aF (pv 0) rfl)))
   (af (aL (ay eV (pv 3) (pv 4) (a9 _)) (ag (ap (jS (ay gb (pv 3) (pv 4) (a9 _)) (az bA (pv 1) am) (az c8 (pv 1) am)))) aA)
   (ag (ap (jS (ay gb (pv 1) (pv 2) (a9 _)) (az bA (pv 1) (aF (pv 0) rfl)) (az c8 (pv 1) (aF (pv 0) rfl))))))),?_⟩
  refine⟨_,rfl,_,rfl,x,ts.rf,dx,_,_,rfl,hx,B.cl,B.n2,rfl,_,_,rfl,rfl,ha,?_⟩
  refine⟨_,rfl,_,rfl,x,ts.rf,dx,_,_,rfl,hx,B.cl,B.n2,rfl,_,_,rfl,rfl,ha,?_⟩
  refine⟨_,rfl,_,rfl,rfl,_,rfl,?_⟩
  dsimp only
  rw[cA]
  unfold b9 at q
  by_cases h1:p % a=g % a
  ·refine pf h1 ?_
   rw[if_neg (by omega),if_neg (by omega)]at q
   refine⟨_,rfl,_,rfl,_,_,rfl,rfl,_,rfl,k9 (fun h2=>?_) fun h2=>?_⟩
   ·have CP:p < g:=of_decide_eq_true h2
    rw[if_pos CP]at q
    exact⟨_,rfl,_,rfl,x,ts.rf,dx,_,_,rfl,hx,B.cl,B.n2,rfl,_,_,rfl,rfl,q⟩
   ·have CP:¬ p < g:=fun z=>h2 (decide_eq_true z)
    rw[if_neg CP]at q
    exact⟨_,rfl,_,rfl,x,ts.rf,dx,_,_,rfl,hx,B.cl,B.n2,rfl,_,_,rfl,rfl,q⟩
  ·rw[decide_eq_false h1]
   refine aI ⟨_,rfl,_,rfl,_,_,rfl,rfl,_,rfl,k9 (fun h2=>?_) fun h2=>?_⟩
   ·have CP:p % a < g % a:=of_decide_eq_true h2
    rw[if_pos CP]at q
    exact⟨_,rfl,_,_,rfl,rfl,q⟩
   ·have CP:¬ p % a < g % a:=fun z=>h2 (decide_eq_true z)
    rw[if_neg CP,if_pos (by omega)]at q
    exact⟨_,rfl,_,_,rfl,rfl,q⟩
structure Nx (K:Frag)(ts:Ts)(f:Addr)(d:FuncData):Prop where
 m:g8 K ts.rf "next_place" f
 b:Binds K d ["self", "place", "goal"] []
theorem Qf:ar ["self", "place", "goal", "came"] ["self", "place", "goal", "came"] (aj qr):=L2.Bl
theorem x9 {c:Cs}{ts:Ts}{f fn ft:Addr}{fd dn dt:FuncData}(F:Bj K "ways" "RowFirst.ways" qr f fd)(L:li K c)(B:MH K mg ts ft dt)(N:Nx K ts fn dn)(Gn:AJ P w K mg base aC 1 fn dn ["self", "place", "goal"] (mB ts)) :
  AJ P w K mg base aC 2 f fd ["self", "place", "goal", "came"] (rG c ts):=by
 refine F.ok Qf (fun vs H Q E h=>?_) (fun Bb A outer s H vs Q E hr h=>?_)
 ·obtain⟨x,dx,lx,AN,lt,AK,a,b,m,p,g,cv,rfl,_⟩:=h
  rfl
 ·obtain⟨x,dx,lx,AN,lt,AK,a,b,m,p,g,cv,rfl,hx,hL,G,hp,hg,q⟩:=h
  have hu:=hr.units
  refine⟨_,af (aL (ay cH (pv 1) (pv 2) (a9 _)) (ag (ap (b8 ae))) aA)
   (ag (ap (b8 (aa (JH PySem.F.slot_tuple_index PySem.F.type_tuple_index (tJ hu) (aF (aF (pv 0) rfl) rfl) (aa (bu (aa (pv 1) (aa (bK (pv 0) B.cl N.m Gn hr N.b .nil ax (aa (pv 1) (aa (pv 2) ae))) ae))) ae)) ae)))),?_⟩
  have g1:=G.w1
  refine⟨_,rfl,_,rfl,rfl,_,rfl,?_⟩
  rw[cA]
  by_cases E3:p=g
  ·rw[decide_eq_true (show (p:Int)=(g:Int) by omega)]
   refine aI ⟨zero_le _,fun D hD=>q D _ ((AI.refl H).new hD) hD ?_⟩
   rw[ad];unfold uv;rw[if_pos E3];rfl
  ·rw[decide_eq_false (show ¬ (p:Int)=(g:Int) by omega)]
   refine aH ?_
   refine⟨_,rfl,x,ts.rf,dx,_,_,rfl,hx,B.cl,B.n1,rfl,lx,c.land,AN,_,_,rfl,hL.1,L.cl,L.nl,rfl,⟨lt,AK,rfl,hL.2.1⟩,_,rfl,_,rfl,x,dx,_,rfl,hx,rfl,_,rfl,_,rfl,x,dx,_,a,(p:Int),(g:Int),rfl,hx,by omega,?_⟩
   refine⟨by show 2 <= sizeLine;decide,fun t ht=>?_⟩
   have s1:=(AI.refl H).new (o := .tup [.int p, .int (b9 a p g)]) ht
   have DO:((p:Int),b9 a p g) ∈ av a b m:=by
    rcases G.at_ p g hp hg with h | h
    ·exact absurd h.1 E3
    ·exact h.2.2.1
   obtain⟨i1,i2⟩:=lK DO
   refine⟨lt,t,AK,av a b m,((p:Int),b9 a p g),_,rfl,rfl,Ba.of (s1 _ _ hL.2.1),AX.same s1 hL.2.2,ad,i1,i2,by show 1 <= sizeLine;decide,fun D hD=>?_⟩
   refine q D _ (s1.new hD) (s1.free hD) ?_
   rw[ad];unfold uv;rw[if_neg E3];rfl
noncomputable def m7:Sp:=fun vs H Q _=>vs=[]/\∀ (D:Addr)(AY:List V)(H':Hp),AI H H'->H D=none->H' D=some (.lst AY)->AX H' AY (bO 12)->Q (.ref D) H'
abbrev Qg:List Str:=["_law_found", "_law_wide", "_law_high"]
theorem lw (a i:Nat):cw a (i + 1)=if decide (((a:Int) + 1) * ((i:Int) + 1) < 13) then cw a i ++ [((a:Int) + 1,(i:Int) + 1)] else cw a i:=by
 unfold cw
 rw[range_succ,filter_append]
 cases h:decide (((a:Int) + 1) * ((i:Int) + 1) < 13) with
 | true=>simp[h]
 | false=>simp[h]
theorem jA (m:Nat):bO (m + 1)=bO m ++ cw m 12:=by
 unfold bO
 rw[range_succ,flatMap_append]
 simp
theorem oj (a m:Nat):(cw a m).length <= m:=by
 unfold cw
 rw[length_map]
 exact le_trans (length_filter_le _ _) (by rw[length_range];exact Nat.le_refl _)
theorem iW:∀ m,(bO m).length <= m * 12
 | 0=>by simp[bO]
 | m + 1=>by
  rw[jA,length_append]
  have:=iW m
  have:=oj m 12
  omega
theorem Ei:ar Qg [] (aj qw):=L2.Bl
theorem v7 {f:Addr}{fd:FuncData}(F:Bj K "_law_sizes" "_law_sizes" qw f fd)(T:eX mg):AJ P w K mg base aC 1 f fd [] m7:=by
 refine F.ok Ei (fun vs H Q E h=>?_) (fun Bb A outer s H vs Q E hr h=>?_)
 ·obtain⟨rfl,_⟩:=h
  rfl
 ·obtain⟨rfl,q⟩:=h
  refine⟨_,af (au (i:=0) Ei.nd rfl (Or.inl rfl) (b8 ae))
   (af (aK PassesOwn.never rfl (iC rfl T.range (aa am (aa am ae))) (ao (i:=1) Ei.nd rfl (Or.inl rfl))
    (ag (aK PassesOwn.never rfl (iC rfl T.range (aa am (aa am ae))) (ao (i:=2) Ei.nd rfl (Or.inl rfl))
     (ag (aL (ay gb (az dv (pv 1) (pv 2)) am (a9 _))
      (ag (aT (cr plainAttrs_list PySem.F.slot_list_append PySem.F.type_list_append aS (pv 0) (aa (bu (aa (pv 1) (aa (pv 2) ae))) ae)))) aA)))))
   (ag (ap (pv 0)))),?_⟩
  refine⟨zero_le _,fun D hD=>?_⟩
  have s0:=(AI.refl H).new (o := .lst []) hD
  refine⟨1,13,rfl,⟨by decide,by decide,by decide,by decide⟩,?_⟩
  refine aZ (lo:=1) (n:=12) (fun i σ H2=>∃ (a1 a2:Option V)(AY:List V),AI H H2/\H2 D=some (.lst AY)/\AX H2 AY (bO i)/\σ=[some (.ref D),a1,a2])
   ⟨none,none,[],s0,ad, .nil,rfl⟩ ?_ ?_
  ·rintro i σ H2 hi ⟨a1,a2,AY,s2,gD,hL,rfl⟩
   refine⟨1,13,rfl,⟨by decide,by decide,by decide,by decide⟩,?_⟩
   refine aZ (lo:=1) (n:=12) (fun j σ H3=>∃ (a2:Option V)(AY:List V),AI H H3/\H3 D=some (.lst AY)/\AX H3 AY (bO i ++ cw i j)/\σ=[some (.ref D),some (.int (1 + (i:Int))),a2])
    ⟨_,AY,s2,gD,by simpa [cw] using hL,rfl⟩ ?_ ?_
   ·rintro j σ H3 hj ⟨a2,AY,s3,BM,FQ,rfl⟩
    have Dy:AY.length <= 200:=by
     have e:=Paired.length FQ
     rw[length_append]at e
     have:=iW i
     have:=oj i j
     omega
    refine⟨_,rfl,_,rfl,_,_,rfl,rfl, .inl ⟨by omega,by omega⟩,_,_,rfl,rfl,_,rfl,?_⟩
    have e1:(1:Int) + (i:Int)=(i:Int) + 1:=Int.add_comm _ _
    have e2:(1:Int) + (j:Int)=(j:Int) + 1:=Int.add_comm _ _
    cases hd:decide (((i:Int) + 1) * ((j:Int) + 1) < 13) with
    | false =>
     have CM:decide ((1 + (i:Int)) * (1 + (j:Int)) < 13)=false:=by rw[e1,e2];exact hd
     rw[CM]
     refine aH ⟨_,AY,s3,BM,?_,rfl⟩
     rw[lw,hd];exact FQ
    | true =>
     have CM:decide ((1 + (i:Int)) * (1 + (j:Int)) < 13)=true:=by rw[e1,e2];exact hd
     rw[CM]
     refine aI ⟨_,rfl, .inl ⟨rfl,_,AQ.of BM⟩,_,rfl,_,rfl,by show 2 <= sizeLine;decide,fun t ht=>?_⟩
     have s4:=(AI.refl H3).new (o := .tup [.int (1 + (i:Int)), .int (1 + (j:Int))]) ht
     have gT:(aw H3 t (.tup [.int (1 + (i:Int)), .int (1 + (j:Int))])) t=some (.tup [.int ((i:Int) + 1), .int ((j:Int) + 1)]):=by rw[ad,e1,e2]
     have nT:t ≠ D:=Ne.symm (ah BM ht)
     generalize aw H3 t (.tup [.int (1 + (i:Int)), .int (1 + (j:Int))])=H4 at s4 gT ⊢
     refine⟨D,AY,_,rfl,rfl,s4 _ _ BM,by rw[sizeLine_eq];omega,?_⟩
     refine⟨_,AY ++ [.ref t],fun b o e=>by rw[ai (ah e hD)];exact s4 _ _ (s3 _ _ e),ad,?_,rfl⟩
     rw[lw,hd,if_pos rfl,← append_assoc]
     exact AX.snoc (p:=((i:Int) + 1,(j:Int) + 1)) ⟨t,rfl,by rw[ai nT];exact gT⟩ (eQ (s4 _ _ BM) (AX.same s4 FQ))
   ·rintro σ H3 ⟨a2,AY,s3,BM,FQ,rfl⟩
    refine⟨_,_,AY,s3,BM,?_,rfl⟩
    rw[jA];exact FQ
  ·rintro σ H2 ⟨a1,a2,AY,s2,gD,hL,rfl⟩
   exact⟨_,rfl,q D AY H2 s2 hD gD hL⟩
theorem Qh {a n:Int}(h0:0 <= a)(h1:a < 2 * n):a % n=if a < n then a else a - n:=by
 split
 ·exact emod_eq_of_lt h0 (by assumption)
 ·have e:a=(a - n) + n:=by omega
  rw[e,Int.add_emod_right,emod_eq_of_lt (by omega) (by omega)];omega
noncomputable def cVL:Option Int->V
 | some k => .int k
 | none => .AZ
noncomputable def bJ (n:Nat):List (Int × Int):=(List.range n).map fun k:Nat=>((k:Int),((k:Int) + 1) % (n:Int))
theorem dF (n:Nat):(bJ n).length=n:=by simp[bJ]
theorem uc {n i:Nat}(h:i < n):(bJ n).take (i + 1)=(bJ n).take i ++ [((i:Int),((i:Int) + 1) % (n:Int))]:=by
 have e:(bJ n)[i]? = some ((i:Int),((i:Int) + 1) % (n:Int)):=by simp[bJ,h]
 rw[take_succ,e];rfl
theorem nB {n:Nat}(h:2 <= n):∀ p ∈ bJ n ++ bJ n,ie n p=true:=by
 have one:∀ p ∈ bJ n,ie n p=true:=fun p hp=>by
  obtain⟨k,hk,rfl⟩:=mem_map.mp hp
  have hk:=mem_range.mp hk
  have e:=Qh (a:=(k:Int) + 1) (n:=n) (by omega) (by omega)
  unfold ie
  simp only[Bool.and_eq_true,decide_eq_true_eq,Bool.not_eq_true',decide_eq_false_iff_not]
  rw[e]
  refine⟨⟨by omega,by omega⟩,⟨?_,?_⟩,?_⟩<;>split<;>omega
 intro p hp
 rcases mem_append.mp hp with h | h<;>exact one p h
theorem ud {n:Nat}(h:2 <= n)(h':n <= 12):cQ n (bJ n ++ bJ n) = .good:=by
 unfold cQ
 rw[decide_eq_true (show (1:Int) <= n/\(n:Int) <= 12 by omega),if_neg (by decide),if_neg (by rw[length_append,dF];omega),dG (nB h)]
noncomputable def kT (H:Hp)(ts:Ts)(x dx:Addr)(lv:V)(n:Int):Prop:=H x=some (.ins ts.loop dx [("land",lv),("many", .int n)])
noncomputable def qh (c:Cs)(ts:Ts):Sp:=fun vs H Q E=>∃ (x dx:Addr)(n:Int),vs=[.ref x, .int n]/\H x=some (.ins ts.loop dx []) /\
 (¬ (2 <= n/\n <= 12)->False) /\
 (∀ m:Nat,n=m->2 <= m->m <= 12->∀ H' lx AN lt AK,Off x H H'->kT H' ts x dx (.ref lx) n->bv H' c lx AN lt n AK (bJ m ++ bJ m)->Q .AZ H')
noncomputable def fg (n p g:Int)(c:Option Int):List Int:=if p=g then [] else match c with
 | none=>[p]
 | some k=>if n - 1 <= k then [n + p] else [p]
noncomputable def rJ (ts:Ts):Sp:=fun vs H Q _=>∃ (x dx:Addr)(lv:V)(n p g:Int)(c:Option Int),vs=[.ref x, .int p, .int g,cVL c]/\kT H ts x dx lv n/\∀ D,H D=none->Q (.ref D) (aw H D (.lst ((fg n p g c).map V.int)))
structure A6 (K:Frag)(mg:Str->Option Value)(ts:Ts)(f1:Addr)(d1:FuncData):Prop where
 cl:C8 K ts.loop
 n1:AW K ts.loop "land"
 n2:AW K ts.loop "many"
 mt:mg "Table" = some (.ref ts.tab)
 cm:pQ K ts.tab "__init__" f1
 bt:Binds K d1 ["self", "land"] []
noncomputable def ui (s:Stmt):Scope:=match s with
 | .Assign _ (.ListComp _ _ sc _) _=>sc
 | _=>zQ0
abbrev SO:List Str:=["self", "many", "once"]
theorem Fb:ar SO ["self", "many"] (aj oA):=L2.Bl
theorem Au:BU SO (aj oA) (ui ((aP oA).getD 1 (.Pass ⟨0,0,0,0⟩))) ["many"] [1]:=L2.Ds
theorem zX:(["place", "many"]:List Str).Nodup:=by decide +kernel
theorem xK {c:Cs}{ts:Ts}{f fw fi ft:Addr}{fd dw di dt:FuncData}{t1:Tok}(F:Bj K "__init__" "Loop.__init__" oA f fd)(T:eX mg)(B:A6 K mg ts ft dt)(G1:AJ P w K mg base aC 1 ft dt ["self", "land"] (ly K))
  (mw:mg "is_within" = some (.ref fw)) (kw:keepIn K (.ref fw)=true) (bw:Binds K dw ["value", "least", "most"] []) (Gw:AJ P w K mg base aC 2 fw dw ["value", "least", "most"] dZ)
  (M:Mk K c.land fi) (ml:mg "Land" = some (.ref c.land)) (bi:Binds K di ["self", "places", "lanes"] []) (Gi:AJ P w K mg base aC 4 fi di ["self", "places", "lanes"] (iA K c))
  (mp:mg "MOST_PLACES" = some (.int 12 t1)):AJ P w K mg base aC 6 f fd ["self", "many"] (qh c ts):=by
 refine F.ok Fb (fun vs H Q E h=>?_) (fun Bb A outer s H vs Q E hr h=>?_)
 ·obtain⟨x,dx,n,rfl,_⟩:=h
  rfl
 ·obtain⟨x,dx,n,rfl,hx,hE,hQ⟩:=h
  have Cn:AU 1 _:=hr.mono (by decide)
  have Cy:AU 2 _:=hr.mono (by decide)
  refine⟨_,af (aL (dj (cz (aq Gw Cy rfl mw kw bw .nil ax (aa (pv 1) (aa am (aa (cC (v := .int 12) rfl mp ⟨_,rfl⟩) ae))))))
    (ag eu) aA)
   (af (eK (i:=2) (own:=["place"]) (capN:=["many"]) (cap:=[1]) Au rfl Fb.nd rfl rfl (aR rfl T.range (aa (pv 1) ae))
    (fun C s' H' fp=>⟨ao (i:=0) zX rfl (Or.inl rfl),cx,bu (aa (pv 0) (aa (az bF (az bA (pv 0) am) (pv 1)) ae))⟩))
   (af (aT (gX (cC (v := .ref ts.tab) rfl B.mt rfl) B.cm G1 Cn B.bt .nil ax (aa (pv 0) (aa (dJ M Gi hr rfl ml bi .nil ax (aa (pv 1) (aa (az vx (pv 2) (pv 2)) ae))) ae))))
   (ag (gr (pv 0) (pv 1) rfl)))),?_⟩
  refine⟨_,rfl,n,2,12,rfl,_,rfl,?_⟩
  by_cases hn:2 <= n/\n <= 12
  rotate_left
  ·rw[decide_eq_false hn]
   exact aI (hE hn)
  rw[decide_eq_true hn]
  refine aH ?_
  obtain⟨m,rfl⟩:∃ m:Nat,n=m:=⟨n.toNat,by omega⟩
  have h2:2 <= m:=by omega
  have h12:m <= 12:=by omega
  refine⟨_,rfl,(m:Int),rfl,by omega,by omega,?_⟩
  rw[toNat_natCast]
  refine bI m (by rw[sizeLine_eq];omega) (fun i acc H4=>AI H H4/\acc.length=i/\AX H4 acc ((bJ m).take i)) ⟨AI.refl _,rfl, .nil⟩ (fun i acc H4 h=>le_of_eq h.2.1) ?_ ?_
  ·rintro i acc H4 hi ⟨s4,ha,hA⟩
   refine⟨hi,fun y H5 ⟨e5,ey⟩=>?_⟩
   subst e5 ey
   refine⟨_,rfl,_,rfl,_,_,rfl,rfl,_,rfl,_,_,rfl,rfl,(show (0:Int) < (m:Int) by omega),by show 2 <= sizeLine;decide,fun p hp=>?_⟩
   refine⟨s4.new hp,by rw[length_append,ha];rfl,?_⟩
   rw[uc hi]
   exact AX.snoc ⟨p,rfl,by rw[ad,Int.zero_add]⟩ (AX.same ((AI.refl _).new hp) hA)
  ·rintro acc H4 ⟨s4,ha,hA⟩
   rw[show(bJ m).take m=bJ m by rw[take_of_length_le];rw[dF];exact Nat.le_refl _]at hA
   refine⟨Nat.le_refl _,fun D hD=>?_⟩
   have s5:AI H (aw H4 D (.lst acc)):=s4.new hD
   have g5:(aw H4 D (.lst acc)) D=some (.lst acc):=ad
   have Lj:AX (aw H4 D (.lst acc)) acc (bJ m):=AX.same ((AI.refl _).new hD) hA
   generalize aw H4 D (.lst acc)=H5 at s5 g5 Lj ⊢
   refine⟨rfl,_,rfl,_,rfl,_,rfl,_,rfl,D,D,acc,acc,rfl,rfl,g5,g5,by rw[sizeLine_eq];omega,fun D2 Mp=>?_⟩
   have s6:=s5.new (o := .lst (acc ++ acc)) Mp
   have EB:AX (aw H5 D2 (.lst (acc ++ acc))) acc (bJ m):=AX.same ((AI.refl _).new Mp) Lj
   have g6:(aw H5 D2 (.lst (acc ++ acc))) D2=some (.lst (acc ++ acc)):=ad
   generalize aw H5 D2 (.lst (acc ++ acc))=H6 at s6 EB g6 ⊢
   refine fun lx AN nx Ez E2=>?_
   have Qi:AI H6 (aw (aw H6 AN (.own lx)) lx (.ins c.land AN [])):=AI.new (AI.new (AI.refl H6) Ez) (by rw[ai (Ne.symm E2)];exact nx)
   have gd:=ud h2 h12
   have SQ:=AX.same Qi EB
   refine⟨lx,AN,(m:Int),D2,acc ++ acc,bJ m ++ bJ m,rfl,ad,AQ.of (Qi _ _ g6),AX.app SQ SQ,by rw[length_append];omega,(fun h=>by rw[gd]at h;cases h),(fun k h=>by rw[gd]at h;cases h),(fun k h=>by rw[gd]at h;cases h),fun _ H8 lt AK off hL=>⟨rfl,?_⟩⟩
   have s8:AI H H8:=fun b o z=>off b o (ah (s6 _ _ z) nx) (Qi _ _ (s6 _ _ z))
   have x8:=s8 _ _ hx
   refine⟨x,ts.loop,dx,_,rfl,x8,B.cl,B.n1,?_⟩
   refine⟨_,rfl,_,rfl,x,ts.loop,dx,[("land", .ref lx)],rfl,ad,B.cl,B.n2,by show 1 < 1000;decide,?_⟩
   have Dv:Off x H8 (aw (aw H8 x (.ins ts.loop dx [("land", .ref lx)])) x (.ins ts.loop dx (dQ "many" (.int m) [("land", .ref lx)]))):=fun b o hb e=>by rw[ai hb,ai hb];exact e
   exact hQ m rfl h2 h12 _ lx AN lt AK (fun b o hb e=>Dv b o hb (s8 _ _ e)) (by unfold kT;rw[ad];rfl) (Off.land Dv x8 hL)
theorem yV:ar ["self", "place", "goal", "came"] ["self", "place", "goal", "came"] (aj qu):=L2.Bl
theorem v5 {ts:Ts}{f ft:Addr}{fd dt:FuncData}(F:Bj K "ways" "Loop.ways" qu f fd)(B:A6 K mg ts ft dt):AJ P w K mg base aC 1 f fd ["self", "place", "goal", "came"] (rJ ts):=by
 refine F.ok yV (fun vs H Q E h=>?_) (fun Bb A outer s H vs Q E hr h=>?_)
 ·obtain⟨x,dx,lv,n,p,g,c,rfl,_⟩:=h
  rfl
 ·obtain⟨x,dx,lv,n,p,g,c,rfl,hx,q⟩:=h
  refine⟨_,af (aL (ay cH (pv 1) (pv 2) (a9 _)) (ag (ap (b8 ae))) aA)
   (af (aL (PW.pt (jM (ay fR (pv 3) bE (a9 _)) (gP (ay oN (pv 3) (az c8 (aF (pv 0) rfl) am) (a9 _))))) (ag (ap (b8 (aa (az bA (aF (pv 0) rfl) (pv 1)) ae)))) aA)
   (ag (ap (b8 (aa (pv 1) ae))))),?_⟩
  refine⟨_,rfl,_,rfl,rfl,_,rfl,?_⟩
  rw[cA]
  by_cases E3:p=g
  ·rw[decide_eq_true E3]
   refine aI ⟨zero_le _,fun D hD=>?_⟩
   have:=q D hD
   rw[show fg n p g c=[] by unfold fg;rw[if_pos E3]]at this
   exact this
  rw[decide_eq_false E3]
  refine aH ?_
  cases c with
  | none =>
   refine⟨_,rfl,rfl,_,rfl,aH (aH ?_)⟩
   refine⟨_,rfl,by show 1 <= sizeLine;decide,fun D hD=>?_⟩
   have:=q D hD
   rw[show fg n p g none=[p] by unfold fg;rw[if_neg E3]]at this
   exact this
  | some k =>
   refine⟨_,rfl,rfl,_,rfl,aI ?_⟩
   refine⟨_,rfl,_,rfl,x,ts.loop,dx,_,_,rfl,hx,B.cl,B.n2,rfl,_,_,rfl,rfl,_,_,rfl,rfl,_,rfl,?_⟩
   by_cases hk:n - 1 <= k
   ·rw[decide_eq_true hk]
    refine aI ⟨_,rfl,x,ts.loop,dx,_,_,rfl,hx,B.cl,B.n2,rfl,_,rfl,_,_,rfl,rfl,by show 1 <= sizeLine;decide,fun D hD=>?_⟩
    have:=q D hD
    rw[show fg n p g (some k)=[n + p] by unfold fg;rw[if_neg E3];show(if n - 1 <= k then [n + p] else [p])=_;rw[if_pos hk]]at this
    exact this
   ·rw[decide_eq_false hk]
    refine aH ⟨_,rfl,by show 1 <= sizeLine;decide,fun D hD=>?_⟩
    have:=q D hD
    rw[show fg n p g (some k)=[p] by unfold fg;rw[if_neg E3];show(if n - 1 <= k then [n + p] else [p])=_;rw[if_neg hk]]at this
    exact this
noncomputable def par (ps:List Nat)(k:Nat):Nat:=min (ps.getD k 0) k
theorem du (ps:List Nat)(k:Nat):par ps k <= k:=by unfold par;omega
noncomputable def upF (ps:List Nat):Nat->Nat->List Nat
 | 0,_=>[0]
 | f + 1,p=>if p=0 then [0] else p :: upF ps f (par ps (p - 1))
noncomputable def At (ps:List Nat)(pl:Nat):Nat->Nat->Option Nat
 | 0,_=>none
 | f + 1,g=>if g=0 then none else if par ps (g - 1)=pl then some g else At ps pl f (par ps (g - 1))
noncomputable def ct (ps:List Nat)(pl g:Nat):Option Nat:=At ps pl g g
theorem yl (ps:List Nat)(pl:Nat):∀ f p:Nat,p <= f->At ps pl f p=At ps pl p p:=by
 intro f
 induction f using Nat.strongRecOn with
 | ind f ih =>
  intro p hp
  cases p with
  | zero=>cases f<;>rfl
  | succ p =>
   cases f with
   | zero=>omega
   | succ f =>
    have h:=du ps p
    show(if p + 1=0 then none else if par ps p=pl then some (p + 1) else At ps pl f (par ps p))=if p + 1=0 then none else if par ps p=pl then some (p + 1) else At ps pl p (par ps p)
    rw[ih f (by omega) _ (by omega),ih p (by omega) _ h]
noncomputable def E4 (ps:List Nat):Prop:=ps.length <= 11/\∀ k q:Nat,ps[k]? = some q->q <= k
theorem E4.at_ {ps:List Nat}(h:E4 ps){k q:Nat}(e:ps[k]? = some q):par ps k=q:=by
 have:=h.2 k q e
 unfold par
 rw[getD_eq_getElem?_getD,e]
 show min q k=q
 omega
theorem i4 (ps:List Nat)(pl:Nat):ct ps pl 0=none:=rfl
theorem eR (ps:List Nat)(pl g:Nat):ct ps pl (g + 1)=if par ps g=pl then some (g + 1) else ct ps pl (par ps g):=by
 show(if g + 1=0 then none else if par ps g=pl then some (g + 1) else At ps pl g (par ps g))=_
 rw[if_neg (Nat.succ_ne_zero g),yl ps pl g _ (du ps g)]
 rfl
noncomputable def sO (ps:List Nat)(p g:Nat):List Nat:=if p=g then [] else match ct ps p g with | none=>[2 * (p - 1)] | some b=>[2 * (b - 1) + 1]
noncomputable def bR (ps:List Nat):Nat->List (Int × Int)
 | 0=>[]
 | k + 1=>bR ps k ++ [((k:Int) + 1,((ps.getD k 0:Nat):Int)),(((ps.getD k 0:Nat):Int),(k:Int) + 1)]
theorem cZ (ps:List Nat):∀ k,(bR ps k).length=2 * k
 | 0=>rfl
 | k + 1=>by unfold bR;rw[length_append,cZ ps k];simp;omega
theorem oh (ps:List Nat):∀ {m k:Nat},k < m->(bR ps m)[2 * k]? = some ((k:Int) + 1,((ps.getD k 0:Nat):Int))/\(bR ps m)[2 * k + 1]? = some (((ps.getD k 0:Nat):Int),(k:Int) + 1)
 | 0,k,h=>by omega
 | m + 1,k,h=>by
  unfold bR
  have hl:=cZ ps m
  by_cases e:k=m
  ·subst e
   rw[getElem?_append_right (by omega),getElem?_append_right (by omega),hl]
   constructor
   ·rw[show 2 * k - 2 * k=0 by omega];rfl
   ·rw[show 2 * k + 1 - 2 * k=1 by omega];rfl
  ·rw[getElem?_append_left (by omega),getElem?_append_left (by omega)]
   exact oh ps (by omega)
theorem p4 {ps:List Nat}(h:E4 ps){k:Nat}(hk:k < ps.length):ps.getD k 0=par ps k:=by
 have e:=getElem?_eq_getElem hk
 rw[h.at_ e,getD_eq_getElem?_getD,e];rfl
noncomputable def wG (s:Stmt):Scope:=match s with
 | .Return (some (.Call _ [.ListComp _ _ sc _] _ _)) _=>sc
 | _=>ig
noncomputable def isI:V->Bool
 | .int _=>true
 | _=>false
noncomputable def Qj:V->Int->Int->Bool
 | .int i,a,b=>decide (a <= i/\i <= b)
 | _,_,_=>false
inductive AA:V->Prop
 | int (i:Int):AA (.int i)
 | bl (b:Bool):AA (.bl b)
 | AZ:AA .AZ
structure wO (K:Frag):Prop where
 ii:kitOne K (.type "int") (.type "int")=some true
 ib:kitOne K (.type "int") (.type "bool")=some false
 bi:kitOne K (.type "bool") (.type "int")=some true
 bb:kitOne K (.type "bool") (.type "bool")=some true
 ni:kitOne K (.type "NoneType") (.type "int")=some false
noncomputable def om:Sp:=fun vs H Q _=>∃ v,vs=[v]/\AA v/\Q (.bl (isI v)) H
noncomputable def i9:Sp:=fun vs H Q _=>∃ (v:V)(a b:Int),vs=[v, .int a, .int b]/\AA v/\Q (.bl (Qj v a b)) H
noncomputable def mX (xs:List V)(m:Nat):List Bool:=(List.range m).map fun i:Nat=>Qj (xs.getD i .AZ) 0 (i:Int)
noncomputable def iZ (xs:List V):Bool:=decide (xs.length < 12) && (mX xs xs.length).all id
noncomputable def uC (K:Frag):Sp:=fun vs H Q _=>∃ (a:Addr)(xs:List V),vs=[.ref a]/\AQ K H a xs/\(∀ x ∈ xs,AA x)/\xs.length <= 1000/\∀ H',AI H H'->Q (.bl (iZ xs)) H'
noncomputable def u8 (K:Frag):Sp:=fun vs H Q _=>∃ (a:Addr)(ps:List Nat),vs=[.ref a]/\AQ K H a (nV ps)/\ps.length <= 100/\∀ (D:Addr)(AY:List V)(H':Hp),AI H H'->H D=none->H' D=some (.lst AY)->AX H' AY (bR ps ps.length)->Q (.ref D) H'
noncomputable def wL (H:Hp)(ts:Ts)(x dx:Addr)(lv:V)(t:Addr)(ps:List Nat):Prop:=H x=some (.ins ts.tree dx [("land",lv),("parents", .ref t)])/\H t=some (.tup (nV ps))
noncomputable def qa (K:Frag)(c:Cs)(ts:Ts):Sp:=fun vs H Q E=>∃ (x dx a:Addr)(xs:List V),vs=[.ref x, .ref a]/\H x=some (.ins ts.tree dx [])/\AQ K H a xs/\(∀ v ∈ xs,AA v)/\xs.length <= 1000 /\
 (iZ xs=false->False) /\
 (iZ xs=true->∃ ps,xs=nV ps/\E4 ps/\∀ H' lx AN lt AK t,Off x H H'->wL H' ts x dx (.ref lx) t ps->bv H' c lx AN lt ((ps.length:Int) + 1) AK (bR ps ps.length)->Q .AZ H')
noncomputable def oVT:Option Nat->V
 | some k => .int (k:Int)
 | none => .AZ
noncomputable def mG (ts:Ts):Sp:=fun vs H Q _=>∃ (x dx:Addr)(lv:V)(t:Addr)(ps:List Nat)(p g:Nat),vs=[.ref x, .int p, .int g]/\wL H ts x dx lv t ps/\E4 ps/\g <= ps.length/\Q (oVT (ct ps p g)) H
noncomputable def rF (ts:Ts):Sp:=fun vs H Q _=>∃ (x dx:Addr)(lv:V)(t:Addr)(ps:List Nat)(p g:Nat)(cv:V),vs=[.ref x, .int p, .int g,cv]/\wL H ts x dx lv t ps/\E4 ps/\p <= ps.length/\g <= ps.length /\
 ∀ (D:Addr)(H':Hp),AI H H'->H D=none->H' D=some (.lst (nV (sO ps p g)))->Q (.ref D) H'
structure yt (K:Frag)(mg:Str->Option Value)(ts:Ts)(f1:Addr)(d1:FuncData):Prop where
 cl:C8 K ts.tree
 n1:AW K ts.tree "land"
 n2:AW K ts.tree "parents"
 mt:mg "Table" = some (.ref ts.tab)
 cm:pQ K ts.tab "__init__" f1
 bt:Binds K d1 ["self", "land"] []
theorem t4 (xs:List V)(i:Nat){v:V}(h:xs[i]? = some v):mX xs (i + 1)=mX xs i ++ [Qj v 0 (i:Int)]:=by
 unfold mX
 rw[range_succ,map_append,List.map_singleton,getD_eq_getElem?_getD,h];rfl
theorem vm (xs:List V)(m:Nat):(mX xs m).length=m:=by simp[mX]
theorem t7 {f:Addr}{fd:FuncData}(F:Bj K "is_whole" "is_whole" gm f fd)(T:eX mg)(Z:wO K):AJ P w K mg base aC 1 f fd ["value"] om:=by
 refine F.ok rO (fun vs H Q E h=>?_) (fun Bb A outer s H vs Q E hr h=>?_)
 ·obtain⟨m,rfl,_⟩:=h
  rfl
 ·obtain⟨v,rfl,hv,q⟩:=h
  refine⟨_,ag (ap (ck (aE kL rfl T.Ic PyProof.Rows.boot_isinstance (aa (pv 0) (aa (gY (v := .ty "int") rfl T.int PySem.Pv.boot_int rfl) ae)))
   (dR (vi (aE kL rfl T.Ic PyProof.Rows.boot_isinstance (aa (pv 0) (aa (gY (v := .ty "bool") rfl T.bool PySem.Pv.boot_bool rfl) ae))))))),?_⟩
  cases hv with
  | int i=>exact⟨_,rfl, .int i,_, "int",true,rfl, .int i,Z.ii,true,rfl,aI ⟨_,rfl, .int i,_, "bool",false,rfl, .int i,Z.ib,false,rfl,q⟩⟩
  | bl b=>exact⟨_,rfl, .bl b,_, "int",true,rfl, .bl b,Z.bi,true,rfl,aI ⟨_,rfl, .bl b,_, "bool",true,rfl, .bl b,Z.bb,true,rfl,q⟩⟩
  | AZ=>exact⟨_,rfl, .AZ,_, "int",false,rfl, .AZ,Z.ni,false,rfl,aH q⟩
theorem qO {f fh:Addr}{fd CZ:FuncData}(F:Bj K "is_within" "is_within" jm f fd)(T:eX mg)(Z:wO K)(mh:mg "is_whole" = some (.ref fh))(Fh:Bj K "is_whole" "is_whole" gm fh CZ)(bh:Binds K CZ ["value"] []) :
  AJ P w K mg base aC 2 f fd ["value", "least", "most"] i9:=by
 have G:AJ P w K mg base aC 1 fh CZ ["value"] om:=t7 Fh T Z
 refine F.ok oz (fun vs H Q E h=>?_) (fun Bb A outer s H vs Q E hr h=>?_)
 ·obtain⟨i,a,b,rfl,_⟩:=h
  rfl
 ·obtain⟨v,a,b,rfl,hv,q⟩:=h
  refine⟨_,ag (ap (ck (aq G hr rfl mh Fh.kp bh .nil ax (aa (pv 0) ae)) (dR (oM jY jY (pv 1) (pv 0) (pv 2))))),?_⟩
  cases hv with
  | bl x=>exact⟨_,rfl,_,rfl, .bl x,false,rfl,aH q⟩
  | AZ=>exact⟨_,rfl,_,rfl, .AZ,false,rfl,aH q⟩
  | int i =>
   refine⟨_,rfl,_,rfl, .int i,true,rfl,aI ?_⟩
   refine⟨_,rfl,_,rfl,_,_,rfl,rfl,_,rfl,?_⟩
   have q:Q (V.bl (decide (a <= i/\i <= b))) H:=q
   by_cases h1:a <= i
   ·rw[decide_eq_true h1]
    refine aI ⟨_,rfl,_,_,rfl,rfl,?_⟩
    show Q (V.bl (decide (i <= b))) H
    by_cases h2:i <= b
    ·rw[decide_eq_true h2];rw[decide_eq_true ⟨h1,h2⟩]at q;exact q
    ·rw[decide_eq_false h2];rw[decide_eq_false fun z=>h2 z.2]at q;exact q
   ·rw[decide_eq_false h1]
    refine aH ?_
    rw[decide_eq_false fun z=>h1 z.1]at q;exact q
theorem Lo:ar ["parents"] ["parents"] (aj uO):=L2.Bl
theorem Lp:BU ["parents"] (aj uO) (wG ((aP uO).getD 1 (.Pass ⟨0,0,0,0⟩))) [] []:=L2.Ds
theorem y9:(["number", "above"]:List Str).Nodup:=by decide +kernel
theorem zM {f fw:Addr}{fd dw:FuncData}{t1:Tok}(F:Bj K "are_parents" "are_parents" uO f fd)(T:eX mg)
  (mw:mg "is_within" = some (.ref fw)) (kw:keepIn K (.ref fw)=true) (bw:Binds K dw ["value", "least", "most"] []) (Gw:AJ P w K mg base aC 2 fw dw ["value", "least", "most"] i9)
  (mp:mg "MOST_PLACES" = some (.int 12 t1)):AJ P w K mg base aC 3 f fd ["parents"] (uC K):=by
 refine F.ok Lo (fun vs H Q E h=>?_) (fun Bb A outer s H vs Q E hr h=>?_)
 ·obtain⟨a,xs,rfl,_⟩:=h
  rfl
 ·obtain⟨a,xs,rfl,hS,Qk,hlen,q⟩:=h
  refine⟨_,af (aL (ay oN (aE aD rfl T.len PySem.boot_len (aa (pv 0) ae)) (cC (v := .int 12) rfl mp ⟨_,rfl⟩) (a9 _)) (ag (ap jU)) aA)
   (ag (ap (aE (kM rfl) rfl T.all PyProof.Rows.boot_all (aa (bX (own:=["number", "above"]) (capN:=[]) (cap:=[]) Lp rfl (gW rfl T.enum (aa (pv 0) ae))
    (fun C s' H' fp=>⟨(show PG _ _ (wu K 2 _) from c7 rfl (aG (ao (i:=0) y9 rfl (Or.inl rfl)) (aG (ao (i:=1) y9 rfl (Or.inl rfl)) bW))),cx,aq Gw hr rfl mw kw bw .nil ax (aa (pv 1) (aa am (aa (pv 0) ae)))⟩)) ae)))),?_⟩
  refine⟨_,rfl,a,_,rfl, .inl hS,_,_,rfl,rfl,_,rfl,?_⟩
  by_cases hm:xs.length < 12
  rotate_left
  ·rw[decide_eq_true (show (12:Int) <= (xs.length:Nat) by omega)]
   have:=q H (AI.refl H)
   unfold iZ at this
   rw[decide_eq_false hm]at this
   exact aI this
  rw[decide_eq_false (show ¬ (12:Int) <= (xs.length:Nat) by omega)]
  refine aH ?_
  refine⟨_,rfl,a,rfl,⟨_,hS⟩,bI xs.length (by rw[sizeLine_eq];omega) (fun i acc H4=>AI H H4/\acc=(mX xs i).map V.bl) ⟨AI.refl _,rfl⟩ (fun i acc H4 h=>by rw[h.2,length_map,vm];exact Nat.le_refl _) ?_ ?_⟩
  ·rintro i acc H4 hi ⟨s4,rfl⟩
   have q4:AQ K H4 a xs:=s4.seq hS
   refine⟨⟨xs,xs[i],q4,getElem?_eq_getElem hi⟩,fun y H5 ⟨r,Eb,ey,h5⟩=>?_⟩
   obtain⟨v,hv,rfl⟩:=h5 xs q4
   subst ey
   have s5:AI H (aw H4 r (.tup [.int i,v])):=s4.new Eb
   refine⟨r,_,rfl,Ba.of ad,rfl,_,_,rfl,_,_,rfl,rfl,?_⟩
   refine⟨_,rfl,_,rfl,v,0,(i:Int),rfl,Qk v (mem_of_getElem? hv),s5,?_⟩
   rw[t4 xs i hv,map_append];rfl
  ·rintro acc H4 ⟨s4,rfl⟩
   refine⟨⟨xs,s4.seq hS,rfl⟩,fun D hD=>?_⟩
   refine⟨D,mX xs xs.length,rfl,AQ.of ad,?_⟩
   have:=q _ (s4.new (o := .lst ((mX xs xs.length).map V.bl)) hD)
   unfold iZ at this
   rw[decide_eq_true hm]at this
   exact this
abbrev NTr:List Str:=["parents", "lanes", "number", "above"]
theorem Ej:ar NTr ["parents"] (aj zb):=L2.Bl
theorem zI {f:Addr}{fd:FuncData}(F:Bj K "tree_lanes" "tree_lanes" zb f fd)(T:eX mg):AJ P w K mg base aC 1 f fd ["parents"] (u8 K):=by
 refine F.ok Ej (fun vs H Q E h=>?_) (fun Bb A outer s H vs Q E hr h=>?_)
 ·obtain⟨a,ps,rfl,_⟩:=h
  rfl
 ·obtain⟨a,ps,rfl,hS,hlen,q⟩:=h
  refine⟨_,af (au (i:=1) Ej.nd rfl (Or.inl rfl) (b8 ae))
   (af (aK PassesOwn.never rfl (gW rfl T.enum (aa (pv 0) ae)) (c7 rfl (aG (ao (i:=2) Ej.nd rfl (Or.inl rfl)) (aG (ao (i:=3) Ej.nd rfl (Or.inl rfl)) bW)))
    (af (aT (cr plainAttrs_list PySem.F.slot_list_append PySem.F.type_list_append aS (pv 1) (aa (bu (aa (az bA (pv 2) am) (aa (pv 3) ae))) ae)))
    (ag (aT (cr plainAttrs_list PySem.F.slot_list_append PySem.F.type_list_append aS (pv 1) (aa (bu (aa (pv 3) (aa (az bA (pv 2) am) ae))) ae))))))
   (ag (ap (pv 1)))),?_⟩
  have two:(2:Nat) <= sizeLine:=by decide
  refine⟨zero_le _,fun D hD=>?_⟩
  have s0:=(AI.refl H).new (o := .lst []) hD
  refine⟨_,rfl,a,rfl,⟨_,s0.seq hS⟩,?_⟩
  refine fI (sq:=fun H=>AQ K H a) (xs:=nV ps) (fun i σ H2=>∃ (a2 a3:Option V)(AY:List V),AI H H2/\H2 D=some (.lst AY)/\AX H2 AY (bR ps i)/\σ=[some (.ref a),some (.ref D),a2,a3])
   ⟨none,none,[],s0,ad, .nil,rfl⟩ (fun i σ H2 _ AL=>by obtain⟨_,_,_,s2,_⟩:=AL;exact s2.seq hS) ?_ ?_
  ·rintro i v r σ H2 hv ⟨a2,a3,AY,s2,gD,hL,rfl⟩ Cy
   have hi:i < ps.length:=by have:=(gQ0 hv);rw[aB]at this;exact this
   have B5:=bG (getElem?_eq_getElem hi)
   rw[B5]at hv
   have hv:=Option.some.inj hv
   subst hv
   have eD:ps.getD i 0=ps[i]:=by rw[getD_eq_getElem?_getD,getElem?_eq_getElem hi];rfl
   generalize hpi:ps[i]=pi at *
   have s3:=(AI.refl H2).new (o := .tup [.int i, .int pi]) Cy
   refine⟨r,_,rfl,Ba.of ad,rfl,_,_,rfl,_,_,rfl,rfl,?_⟩
   generalize aw H2 r (.tup [.int i, .int pi])=H3 at s3 ⊢
   have BM:=s3 _ _ gD
   have Dy:AY.length=2 * i:=(Paired.length hL).trans (cZ ps i)
   refine⟨_,rfl, .inl ⟨rfl,_,AQ.of BM⟩,_,rfl,_,_,rfl,rfl,_,rfl,two,fun t1 h1=>?_⟩
   have u1:=(AI.refl H3).new (o := .tup [.int ((i:Int) + 1), .int pi]) h1
   have v1:(aw H3 t1 (.tup [.int ((i:Int) + 1), .int pi])) t1=some (.tup [.int ((i:Int) + 1), .int pi]):=ad
   have n1:t1 ≠ D:=Ne.symm (ah BM h1)
   generalize aw H3 t1 (.tup [.int ((i:Int) + 1), .int pi])=H4 at u1 v1 ⊢
   have SR:=u1 _ _ BM
   refine⟨D,AY,_,rfl,rfl,SR,by rw[sizeLine_eq];omega,?_⟩
   have HE:(aw H4 D (.lst (AY ++ [.ref t1]))) D=some (.lst (AY ++ [.ref t1])):=ad
   have Lk:AX (aw H4 D (.lst (AY ++ [.ref t1]))) (AY ++ [.ref t1]) (bR ps i ++ [((i:Int) + 1,(pi:Int))]):=AX.snoc (p:=((i:Int) + 1,(pi:Int))) ⟨t1,rfl,by rw[ai n1];exact v1⟩ (eQ SR (AX.same u1 (AX.same s3 hL)))
   have s5:AI H (aw H4 D (.lst (AY ++ [.ref t1]))):=fun b o e=>by rw[ai (ah e hD)];exact u1 _ _ (s3 _ _ (s2 _ _ e))
   generalize aw H4 D (.lst (AY ++ [.ref t1]))=H5 at HE Lk s5 ⊢
   refine⟨_,rfl, .inl ⟨rfl,_,AQ.of HE⟩,_,rfl,_,rfl,_,_,rfl,rfl,two,fun t2 h2=>?_⟩
   have u2:=(AI.refl H5).new (o := .tup [.int pi, .int ((i:Int) + 1)]) h2
   have v2:(aw H5 t2 (.tup [.int pi, .int ((i:Int) + 1)])) t2=some (.tup [.int pi, .int ((i:Int) + 1)]):=ad
   have n2:t2 ≠ D:=Ne.symm (ah HE h2)
   generalize aw H5 t2 (.tup [.int pi, .int ((i:Int) + 1)])=H6 at u2 v2 ⊢
   have SS:=u2 _ _ HE
   refine⟨D,_,_,rfl,rfl,SS,by rw[sizeLine_eq,length_append];simp;omega,?_⟩
   refine⟨_,_,(AY ++ [.ref t1]) ++ [.ref t2],fun b o e=>by rw[ai (ah e hD)];exact u2 _ _ (s5 _ _ e),ad,?_,rfl⟩
   have e2:bR ps (i + 1)=(bR ps i ++ [((i:Int) + 1,(pi:Int))]) ++ [((pi:Int),(i:Int) + 1)]:=by
    show bR ps i ++ [((i:Int) + 1,((ps.getD i 0:Nat):Int)),(((ps.getD i 0:Nat):Int),(i:Int) + 1)]=_
    rw[eD,append_assoc];rfl
   rw[e2]
   exact AX.snoc (p:=((pi:Int),(i:Int) + 1)) ⟨t2,rfl,by rw[ai n2];exact v2⟩ (eQ SS (AX.same u2 Lk))
  ·rintro σ H2 ⟨a2,a3,AY,s2,gD,hL,rfl⟩
   rw[aB]at hL
   exact⟨_,rfl,q D AY H2 s2 hD gD hL⟩
theorem iy (ps:List Nat):∀ g,g ≠ 0->ct ps 0 g ≠ none:=by
 intro g
 induction g using Nat.strongRecOn with
 | ind g ih =>
  intro h
  match g with
  | 0=>exact absurd rfl h
  | g + 1 =>
   rw[eR]
   by_cases e:par ps g=0
   ·rw[if_pos e];intro z;cases z
   ·rw[if_neg e];exact ih _ (by have:=du ps g;omega) e
theorem wB {ps:List Nat}{p b:Nat}:∀ g,ct ps p g=some b->1 <= b:=by
 intro g
 induction g using Nat.strongRecOn with
 | ind g ih =>
  intro h
  match g with
  | 0=>rw[i4]at h;cases h
  | g + 1 =>
   rw[eR]at h
   by_cases e:par ps g=p
   ·rw[if_pos e]at h;have:=Option.some.inj h;omega
   ·rw[if_neg e]at h;exact ih _ (by have:=du ps g;omega) h
theorem Lq {ps:List Nat}{p b:Nat}:∀ g,ct ps p g=some b->b <= g:=by
 intro g
 induction g using Nat.strongRecOn with
 | ind g ih =>
  intro h
  match g with
  | 0=>rw[i4]at h;cases h
  | g + 1 =>
   rw[eR]at h
   have hl:=du ps g
   by_cases e:par ps g=p
   ·rw[if_pos e]at h;have:=Option.some.inj h;omega
   ·rw[if_neg e]at h;have:=ih _ (by omega) h;omega
theorem jl {ps:List Nat}(hP:E4 ps):∀ m,m <= ps.length->∀ p ∈ bR ps m,ie ((ps.length:Int) + 1) p=true
 | 0,_,p,hp=>by cases hp
 | m + 1,hm,p,hp=>by
  unfold bR at hp
  have h2:ps.getD m 0 <= m:=by rw[p4 hP (by omega)];exact du ps m
  generalize ps.getD m 0=q at hp h2
  rcases mem_append.mp hp with hp | hp
  ·exact jl hP m (by omega) p hp
  ·simp only[mem_cons,not_mem_nil,or_false]at hp
   unfold ie
   simp only[Bool.and_eq_true,decide_eq_true_eq,Bool.not_eq_true',decide_eq_false_iff_not]
   rcases hp with rfl | rfl
   ·refine⟨⟨?_,?_⟩,⟨?_,?_⟩,?_⟩<;>dsimp only<;>omega
   ·refine⟨⟨?_,?_⟩,⟨?_,?_⟩,?_⟩<;>dsimp only<;>omega
theorem u6 {ps:List Nat}(hP:E4 ps):cQ ((ps.length:Int) + 1) (bR ps ps.length) = .good:=by
 have:=hP.1
 unfold cQ
 rw[decide_eq_true (show (1:Int) <= (ps.length:Int) + 1/\(ps.length:Int) + 1 <= 12 by omega),if_neg (by decide),if_neg (by rw[cZ];omega),dG (jl hP _ (Nat.le_refl _))]
theorem yW:ar ["self", "parents"] ["self", "parents"] (aj uN):=L2.Bl
theorem xB {c:Cs}{ts:Ts}{f fp fr fi ft:Addr}{fd dp dr di dt:FuncData}(F:Bj K "__init__" "Tree.__init__" uN f fd)(T:eX mg)(B:yt K mg ts ft dt)(G1:AJ P w K mg base aC 1 ft dt ["self", "land"] (ly K))
  (mq:mg "are_parents" = some (.ref fp)) (kq:keepIn K (.ref fp)=true) (bq:Binds K dp ["parents"] []) (Gq:AJ P w K mg base aC 3 fp dp ["parents"] (uC K))
  (mr:mg "tree_lanes" = some (.ref fr)) (kr:keepIn K (.ref fr)=true) (br:Binds K dr ["parents"] []) (Gr:AJ P w K mg base aC 1 fr dr ["parents"] (u8 K))
  (M:Mk K c.land fi) (ml:mg "Land" = some (.ref c.land)) (bi:Binds K di ["self", "places", "lanes"] []) (Gi:AJ P w K mg base aC 4 fi di ["self", "places", "lanes"] (iA K c)) :
  AJ P w K mg base aC 6 f fd ["self", "parents"] (qa K c ts):=by
 refine F.ok yW (fun vs H Q E h=>?_) (fun Bb A outer s H vs Q E hr h=>?_)
 ·obtain⟨x,dx,a,xs,rfl,_⟩:=h
  rfl
 ·obtain⟨x,dx,a,xs,rfl,hx,hS,Qk,hlen,hE,hQ⟩:=h
  have Cn:AU 1 _:=hr.mono (by decide)
  have KG:AU 3 _:=hr.mono (by decide)
  refine⟨_,af (aL (dj (cz (aq Gq KG rfl mq kq bq .nil ax (aa (pv 1) ae))))
    (ag eu) aA)
   (af (aT (gX (cC (v := .ref ts.tab) rfl B.mt rfl) B.cm G1 Cn B.bt .nil ax (aa (pv 0) (aa (dJ M Gi hr rfl ml bi .nil ax (aa (az bA (aE aD rfl T.len PySem.boot_len (aa (pv 1) ae)) am) (aa (aq Gr Cn rfl mr kr br .nil ax (aa (pv 1) ae)) ae))) ae))))
   (ag (gr (pv 0) (cU cf rfl T.tuple PySem.Pv.boot_tuple (aa (pv 1) ae)) rfl))),?_⟩
  refine⟨_,rfl,a,xs,rfl,hS,Qk,hlen,fun H0 s0=>⟨_,rfl,?_⟩⟩
  cases ho:iZ xs with
  | false=>exact aI (hE ho)
  | true =>
   obtain⟨ps,rfl,hP,hQ⟩:=hQ ho
   rw[aB]at hlen
   refine aH ?_
   refine⟨rfl,_,rfl,_,rfl,a,_,rfl, .inl (s0.seq hS),_,_,rfl,rfl,_,rfl,a,ps,rfl,s0.seq hS,by have:=hP.1;omega,fun D AY H1 s1 hD gD hL=>?_⟩
   refine fun lx AN nx Ez E2=>?_
   have Ex:AI H1 (aw (aw H1 AN (.own lx)) lx (.ins c.land AN [])):=AI.new (AI.new (AI.refl H1) Ez) (by rw[ai (Ne.symm E2)];exact nx)
   have gd:=u6 hP
   have Dy:AY.length=2 * ps.length:=(Paired.length hL).trans (cZ ps _)
   have h11:=hP.1
   have Ik:=s0.trans s1
   refine⟨lx,AN,(ps.length:Int) + 1,D,AY,bR ps ps.length,?_,ad,AQ.of (Ex _ _ gD),AX.same Ex hL,by omega,(fun h=>by rw[gd]at h;cases h),(fun k h=>by rw[gd]at h;cases h),(fun k h=>by rw[gd]at h;cases h),fun _ H8 lt AK off Eg=>⟨rfl,?_⟩⟩
   ·show [V.ref lx,V.int (((nV ps).length:Nat) + 1),V.ref D]=_
    rw[aB]
   have s8:AI H H8:=fun b' o z=>off b' o (ah (Ik _ _ z) nx) (Ex _ _ (Ik _ _ z))
   have x8:=s8 _ _ hx
   refine⟨x,ts.tree,dx,_,rfl,x8,B.cl,B.n1,?_⟩
   have HF:Off x H8 (aw H8 x (.ins ts.tree dx [("land", .ref lx)])):=fun b' o hb e=>by rw[ai hb];exact e
   refine⟨_,rfl,a,nV ps,rfl, .inl ⟨HF.sq x8 (s8.seq hS),fun t ht=>?_⟩⟩
   have SU:(aw (aw H8 x (.ins ts.tree dx [("land", .ref lx)])) t (.tup (nV ps))) x=some (.ins ts.tree dx [("land", .ref lx)]):=by
    rw[ai (ah ad ht)];exact ad
   have Dv:Off x H8 (aw (aw H8 x (.ins ts.tree dx [("land", .ref lx)])) t (.tup (nV ps))):=fun b' o hb e=>by rw[ai (ah (HF _ _ hb e) ht)];exact HF _ _ hb e
   have SV:(aw (aw H8 x (.ins ts.tree dx [("land", .ref lx)])) t (.tup (nV ps))) t=some (.tup (nV ps)):=ad
   have ntx:t ≠ x:=Ne.symm (ah ad ht)
   generalize aw (aw H8 x (.ins ts.tree dx [("land", .ref lx)])) t (.tup (nV ps))=H9 at SU Dv SV ⊢
   refine⟨_,rfl,x,ts.tree,dx,[("land", .ref lx)],rfl,SU,B.cl,B.n2,by show 1 < 1000;decide,?_⟩
   have GF:Off x H8 (aw H9 x (.ins ts.tree dx (dQ "parents" (.ref t) [("land", .ref lx)]))):=fun b' o hb e=>by rw[ai hb];exact Dv _ _ hb e
   exact hQ _ lx AN lt AK t (fun b' o hb e=>GF b' o hb (s8 _ _ e)) ⟨by rw[ad];rfl,by rw[ai ntx];exact SV⟩ (Off.land GF x8 Eg)
abbrev NCh:List Str:=["self", "place", "goal", "child", "above"]
theorem FR:ar NCh ["self", "place", "goal"] (aj qE):=L2.Bl
theorem vI {ts:Ts}{f ft:Addr}{fd dt:FuncData}(F:Bj K "child_towards" "Tree.child_towards" qE f fd)(B:yt K mg ts ft dt):AJ P w K mg base aC 1 f fd ["self", "place", "goal"] (mG ts):=by
 refine F.ok FR (fun vs H Q E h=>?_) (fun Bb A outer s H vs Q E hr h=>?_)
 ·obtain⟨x,dx,lv,t,ps,p,g,rfl,_⟩:=h
  rfl
 ·obtain⟨x,dx,lv,t,ps,p,g,rfl,hx,hP,hg,q⟩:=h
  refine⟨_,af (au (i:=3) FR.nd rfl (Or.inl rfl) (pv 2))
   (af (eh PassesOwn.never (ay eV (pv 3) am (a9 _))
    (af (au (i:=4) FR.nd rfl (Or.inl rfl) (aU Bd (aF (pv 0) rfl) (az c8 (pv 3) am) (fun _ _=>rfl)))
    (af (aL (ay cH (pv 4) (pv 1) (a9 _)) (ag (ap (pv 3))) aA)
    (ag (au (i:=3) FR.nd rfl (Or.inl rfl) (pv 4))))))
   (ag (ap bE))),?_⟩
  refine⟨_,rfl,?_⟩
  refine⟨fun m σ H'=>∃ a4:Option V,H' = H/\m <= ps.length/\ct ps p m=ct ps p g/\σ=[some (.ref x),some (.int p),some (.int g),some (.int (m:Nat)),a4],⟨g,none,rfl,hg,rfl,rfl⟩,?_⟩
  rintro m σ H' ⟨a4,rfl,hm,hc,rfl⟩
  refine⟨_,rfl,rfl,_,rfl,?_⟩
  rw[cA]
  match m with
  | 0 =>
   rw[i4]at hc
   rw[← hc]at q
   exact pf rfl q
  | r + 1 =>
   rw[decide_eq_false (show ¬ ((r + 1:Nat):Int)=0 by omega)]
   have La:r < ps.length:=by omega
   have Fj:ps[r]? = some (par ps r):=by
    have e:=getElem?_eq_getElem La
    rw[e,hP.at_ e]
   have Ql:=du ps r
   refine aI ⟨fun σ' H2=>∃ a4:Option V,H2=H'/\ct ps p (par ps r)=ct ps p g/\σ' = [some (.ref x),some (.int p),some (.int g),some (.int (par ps r:Nat)),a4],fun σ' H2 AL=>by obtain⟨a4,e1,e2,e3⟩:=AL;exact⟨par ps r,by omega,a4,e1,by omega,e2,e3⟩,?_⟩
   refine⟨_,rfl,x,ts.tree,dx,_,_,rfl,hx.1,B.cl,B.n2,rfl,_,rfl,_,_,rfl,rfl,t,_,_,_,rfl,rfl,Ba.of hx.2,(by show r6 (nV ps) (((r + 1:Nat):Int) - 1)=_;rw[show((r + 1:Nat):Int) - 1=(r:Nat) by omega];exact aJ (bG Fj)),?_⟩
   refine⟨_,rfl,_,rfl,rfl,_,rfl,?_⟩
   rw[cA]
   rw[eR]at hc
   by_cases SW:par ps r=p
   ·rw[decide_eq_true (show((par ps r:Nat):Int)=(p:Int) by omega)]
    rw[if_pos SW]at hc
    rw[← hc]at q
    exact aI ⟨_,rfl,q⟩
   ·rw[decide_eq_false (show ¬ ((par ps r:Nat):Int)=(p:Int) by omega)]
    rw[if_neg SW]at hc
    exact aH ⟨_,rfl,_,rfl,hc,rfl⟩
structure Ch (K:Frag)(ts:Ts)(f:Addr)(d:FuncData):Prop where
 m:g8 K ts.tree "child_towards" f
 b:Binds K d ["self", "place", "goal"] []
abbrev NWy:List Str:=["self", "place", "goal", "came", "child"]
theorem GG:ar NWy ["self", "place", "goal", "came"] (aj qq):=L2.Bl
theorem vz {ts:Ts}{f fn ft:Addr}{fd dn dt:FuncData}(F:Bj K "ways" "Tree.ways" qq f fd)(B:yt K mg ts ft dt)(N:Ch K ts fn dn)(Gn:AJ P w K mg base aC 1 fn dn ["self", "place", "goal"] (mG ts)) :
  AJ P w K mg base aC 2 f fd ["self", "place", "goal", "came"] (rF ts):=by
 refine F.ok GG (fun vs H Q E h=>?_) (fun Bb A outer s H vs Q E hr h=>?_)
 ·obtain⟨x,dx,lv,t,ps,p,g,cv,rfl,_⟩:=h
  rfl
 ·obtain⟨x,dx,lv,t,ps,p,g,cv,rfl,hx,hP,hp,hg,q⟩:=h
  have h11:=hP.1
  refine⟨_,af (aL (ay cH (pv 1) (pv 2) (a9 _)) (ag (ap (b8 ae))) aA)
   (af (au (i:=4) GG.nd rfl (Or.inl rfl) (bK (pv 0) B.cl N.m Gn hr N.b .nil ax (aa (pv 1) (aa (pv 2) ae))))
   (af (aL (ay qL (pv 4) bE (a9 _)) (ag (ap (b8 (aa (az dv am (az c8 (pv 1) am)) ae)))) aA)
   (ag (ap (b8 (aa (az bA (az dv am (az c8 (pv 4) am)) am) ae)))))),?_⟩
  refine⟨_,rfl,_,rfl,rfl,_,rfl,?_⟩
  rw[cA]
  by_cases E3:p=g
  ·rw[decide_eq_true (show (p:Int)=(g:Int) by omega)]
   refine aI ⟨zero_le _,fun D hD=>q D _ ((AI.refl H).new hD) hD ?_⟩
   rw[ad];unfold sO;rw[if_pos E3];rfl
  ·rw[decide_eq_false (show ¬ (p:Int)=(g:Int) by omega)]
   refine aH ?_
   refine⟨_,rfl,x,dx,_,rfl,hx.1,rfl,_,rfl,_,rfl,x,dx,lv,t,ps,p,g,rfl,hx,hP,hg,?_⟩
   unfold sO at q
   rw[if_neg E3]at q
   cases hc:ct ps p g with
   | none =>
    rw[hc]at q
    have hp0:1 <= p:=by
     rcases Nat.eq_zero_or_pos p with z | z
     ·subst z;exact absurd hc (iy ps g (by omega))
     ·exact z
    refine⟨_,rfl,rfl,_,rfl,aI ?_⟩
    refine⟨_,rfl,_,_,rfl,rfl,_,_,rfl,rfl, .inl ⟨by decide,by decide⟩,by show 1 <= sizeLine;decide,fun D hD=>q D _ ((AI.refl H).new hD) hD ?_⟩
    rw[ad]
    show some (HO.lst [V.int (2 * ((p:Int) - 1))])=some (HO.lst [V.int ((2 * (p - 1):Nat):Int)])
    rw[show 2 * ((p:Int) - 1)=((2 * (p - 1):Nat):Int) by omega]
   | some b =>
    rw[hc]at q
    have Il:=wB g hc
    refine⟨_,rfl,rfl,_,rfl,aH ?_⟩
    refine⟨_,rfl,_,_,rfl,rfl,_,_,rfl,rfl, .inl ⟨by decide,by decide⟩,_,_,rfl,rfl,by show 1 <= sizeLine;decide,fun D hD=>q D _ ((AI.refl H).new hD) hD ?_⟩
    rw[ad]
    show some (HO.lst [V.int (2 * ((b:Int) - 1) + 1)])=some (HO.lst [V.int ((2 * (b - 1) + 1:Nat):Int)])
    rw[show 2 * ((b:Int) - 1) + 1=((2 * (b - 1) + 1:Nat):Int) by omega]
abbrev Es:=List (Nat × Nat)
noncomputable def dD (fs:Es)(p:Nat):Option Nat:=(fs.find? fun x=>decide (x.1=p)).map (·.2)
theorem dM {fs:Es}{p d:Nat}(h:dD fs p=some d):(p,d) ∈ fs:=by
 unfold dD at h
 cases e:fs.find? (fun x=>decide (x.1=p)) with
 | none=>rw[e]at h;cases h
 | some x =>
  rw[e]at h
  have h1:=List.find?_some e
  have h2:=List.mem_of_find?_eq_some e
  have h3:x.2=d:=Option.some.inj h
  have h4:x.1=p:=of_decide_eq_true h1
  rw[← h3,← h4];exact h2
theorem CU {fs:Es}{p:Nat}:dD fs p=none↔p ∉ fs.map (·.1):=by
 unfold dD
 rw[Option.map_eq_none_iff,List.find?_eq_none]
 constructor
 ·intro h m
  obtain⟨x,hx,e⟩:=mem_map.mp m
  exact h x hx (decide_eq_true e)
 ·intro h x hx e
  exact h (mem_map.mpr ⟨x,hx,of_decide_eq_true e⟩)
theorem iE {fs:Es}(hn:(fs.map (·.1)).Nodup){p d:Nat}(h:(p,d) ∈ fs):dD fs p=some d:=by
 cases e:dD fs p with
 | none=>exact absurd (mem_map.mpr ⟨_,h,rfl⟩) (CU.mp e)
 | some d' =>
  have h':=dM e
  have:∀ {l:Es},(l.map (·.1)).Nodup->(p,d) ∈ l->(p,d') ∈ l->d' = d:=by
   intro l
   induction l with
   | nil=>intro _ h;cases h
   | cons x l ih =>
    intro hn h1 h2
    rw[map_cons,nodup_cons]at hn
    rcases mem_cons.mp h1 with h1 | h1
    ·rcases mem_cons.mp h2 with h2 | h2
     ·rw[← h1]at h2;exact(Prod.mk.inj h2).2
     ·exact absurd (mem_map.mpr ⟨_,h2,by rw[← h1]⟩) hn.1
    ·rcases mem_cons.mp h2 with h2 | h2
     ·exact absurd (mem_map.mpr ⟨_,h1,by rw[← h2]⟩) hn.1
     ·exact ih hn.2 h1 h2
  rw[this hn h h']
structure Ek (n:Nat)(es:Es)(g:Nat)(fs:Es)(i:Nat):Prop where
 nd:(fs.map (·.1)).Nodup
 lt:∀ x ∈ fs,x.1 < n
 g0:(g,0) ∈ fs
 up:∀ p d,(p,d) ∈ fs->(p=g/\d=0)∨∃ q d',d=d' + 1/\(q,d') ∈ fs/\(p,q) ∈ es
 sorted:fs.Pairwise fun x y=>x.2 <= y.2
 near:∀ y,fs[i]? = some y->∀ x ∈ fs,x.2 <= y.2 + 1
 cl:∀ k q d:Nat,k < i->fs[k]? = some (q,d)->∀ s,(s,q) ∈ es->∃ d',(s,d') ∈ fs/\d' <= d + 1
 ix:∀ j p d:Nat,fs[j]? = some (p,d)->d <= j
 le:i <= fs.length
theorem Ek.By {n:Nat}{es:Es}{g:Nat}{fs:Es}{i:Nat}(b:Ek n es g fs i):fs.length <= n:=by
 have:=cI n (fs.map (·.1)) b.nd fun x hx=>by
  obtain⟨y,hy,rfl⟩:=mem_map.mp hx
  exact b.lt y hy
 rwa [length_map]at this
theorem uh {n:Nat}{es:Es}{g:Nat}(hg:g < n):Ek n es g [(g,0)] 0 where
 nd:=by simp
 lt:=fun x hx=>by rw[mem_singleton.mp hx];exact hg
 g0:=mem_singleton.mpr rfl
 up:=fun p d h=>by
  have:=mem_singleton.mp h
  exact .inl (Prod.mk.inj this)
 sorted:=by simp
 near:=fun y hy x hx=>by rw[mem_singleton.mp hx];exact zero_le _
 cl:=fun k _ _ h=>absurd h (not_lt_zero _)
 ix:=fun j p d h=>by
  cases j with
  | zero=>have:=Option.some.inj h;have:=(Prod.mk.inj this).2;omega
  | succ j=>simp at h
 le:=zero_le _
theorem Ek.push {n:Nat}{es:Es}{g:Nat}{fs:Es}{i s p d:Nat}(b:Ek n es g fs i)(hy:fs[i]? = some (p,d))(hs:s < n)(hl:(s,p) ∈ es)(hn:dD fs s=none):Ek n es g (fs ++ [(s,d + 1)]) i where
 nd:=by
  rw[map_append,nodup_append]
  refine⟨b.nd,by simp,fun a ha c hc=>?_⟩
  have hc:c=s:=by simpa using hc
  intro z
  rw[z,hc]at ha
  exact CU.mp hn ha
 lt:=fun x hx=>by
  rcases mem_append.mp hx with h | h
  ·exact b.lt x h
  ·rw[mem_singleton.mp h];exact hs
 g0:=mem_append_left _ b.g0
 up:=fun q e h=>by
  rcases mem_append.mp h with h | h
  ·rcases b.up q e h with h | ⟨q',d',h1,h2,h3⟩
   ·exact .inl h
   ·exact .inr ⟨q',d',h1,mem_append_left _ h2,h3⟩
  ·obtain⟨h1,h2⟩:=Prod.mk.inj (mem_singleton.mp h)
   subst h1 h2
   exact .inr ⟨p,d,rfl,mem_append_left _ (mem_of_getElem? hy),hl⟩
 sorted:=by
  rw[pairwise_append]
  refine⟨b.sorted,by simp,fun x hx y hy'=>?_⟩
  rw[mem_singleton.mp hy']
  exact b.near _ hy x hx
 near:=fun y hy' x hx=>by
  have hi:i < fs.length:=(gQ0 hy)
  rw[getElem?_append_left hi,hy]at hy'
  rw[← Option.some.inj hy']
  rcases mem_append.mp hx with h | h
  ·exact b.near _ hy x h
  ·rw[mem_singleton.mp h];exact Nat.le_refl _
 cl:=fun k q e hk hq t ht=>by
  have hi:i < fs.length:=(gQ0 hy)
  rw[getElem?_append_left (by omega)]at hq
  obtain⟨d',h1,h2⟩:=b.cl k q e hk hq t ht
  exact⟨d',mem_append_left _ h1,h2⟩
 ix:=fun j q e h=>by
  have hi:i < fs.length:=(gQ0 hy)
  have hd:=b.ix i p d hy
  rcases lt_or_ge j fs.length with hj | hj
  ·rw[getElem?_append_left hj]at h;exact b.ix j q e h
  ·rw[getElem?_append_right hj]at h
   have hj0:j - fs.length=0:=by
    have:=(gQ0 h)
    simp at this;omega
   rw[hj0]at h
   have:=(Prod.mk.inj (Option.some.inj h)).2
   omega
 le:=le_trans b.le (by rw[length_append];omega)
theorem Ek.next {n:Nat}{es:Es}{g:Nat}{fs:Es}{i p d:Nat}(b:Ek n es g fs i)(hy:fs[i]? = some (p,d))(hc:∀ s,(s,p) ∈ es->s ∈ fs.map (·.1)):Ek n es g fs (i + 1) where
 nd:=b.nd
 lt:=b.lt
 g0:=b.g0
 up:=b.up
 sorted:=b.sorted
 near:=fun y hy' x hx=>by
  have hi:i < fs.length:=(gQ0 hy)
  have HX:i + 1 < fs.length:=(gQ0 hy')
  have h1:=b.near _ hy x hx
  have h2:=pairwise_iff_getElem.mp b.sorted i (i + 1) hi HX (lt_succ_self _)
  have e1:fs[i]=(p,d):=(List.getElem?_eq_some_iff.mp hy).2
  have e2:fs[i + 1]=y:=(List.getElem?_eq_some_iff.mp hy').2
  rw[e1,e2]at h2
  have h2:d <= y.2:=h2
  have h1:x.2 <= d + 1:=h1
  omega
 cl:=fun k q e hk hq s hs=>by
  rcases lt_or_ge k i with h | h
  ·exact b.cl k q e h hq s hs
  ·have:k=i:=by omega
   subst this
   rw[hy]at hq
   obtain⟨h1,h2⟩:=Prod.mk.inj (Option.some.inj hq)
   subst h1 h2
   obtain⟨x,hx,e⟩:=mem_map.mp (hc s hs)
   exact⟨x.2,by rw[← e];exact hx,b.near _ hy x hx⟩
 ix:=b.ix
 le:=(gQ0 hy)
structure g9 (n:Nat)(es:Es)(g:Nat)(fs:Es):Prop where
 nd:(fs.map (·.1)).Nodup
 lt:∀ x ∈ fs,x.1 < n
 g0:dD fs g=some 0
 up:∀ p d,dD fs p=some d->(p=g/\d=0)∨∃ q d',d=d' + 1/\dD fs q=some d'/\(p,q) ∈ es
 cl:∀ s q d,(s,q) ∈ es->dD fs q=some d->∃ d',dD fs s=some d'/\d' <= d + 1
 By:∀ p d,dD fs p=some d->d < n
theorem Ek.far {n:Nat}{es:Es}{g:Nat}{fs:Es}(b:Ek n es g fs fs.length):g9 n es g fs where
 nd:=b.nd
 lt:=b.lt
 g0:=iE b.nd b.g0
 up:=fun p d h=>by
  rcases b.up p d (dM h) with h | ⟨q,d',h1,h2,h3⟩
  ·exact .inl h
  ·exact .inr ⟨q,d',h1,iE b.nd h2,h3⟩
 cl:=fun s q d hs hq=>by
  obtain⟨k,hk⟩:=List.getElem?_of_mem (dM hq)
  obtain⟨d',h1,h2⟩:=b.cl k q d (gQ0 hk) hk s hs
  exact⟨d',iE b.nd h1,h2⟩
 By:=fun p d h=>by
  obtain⟨k,hk⟩:=List.getElem?_of_mem (dM h)
  have h1:=b.ix k p d hk
  have h2:=(gQ0 hk)
  have h3:=b.By
  omega
noncomputable def fk (x:Nat × Nat):Key × V:=(Sum.inl (x.1:Int),V.int (x.2:Int))
noncomputable def zp (x:Nat × Nat):Int × Int:=((x.1:Int),(x.2:Int))
theorem gG (p:Nat):∀ fs:Es,ci (fs.map fk) (Sum.inl (p:Int))=(dD fs p).map fun d:Nat=>V.int (d:Int)
 | []=>rfl
 | x :: fs=>by
  have ih:=gG p fs
  unfold ci dD at ih ⊢
  rw[map_cons,find?_cons,find?_cons]
  by_cases h:x.1=p
  ·have h1:(fk x).1=(Sum.inl (p:Int):Key):=by rw[← h];rfl
   rw[decide_eq_true h,decide_eq_true h1];rfl
  ·have h1:¬ (fk x).1=(Sum.inl (p:Int):Key):=fun z=>h (by have:=Sum.inl.inj z;omega)
   rw[decide_eq_false h,decide_eq_false h1];exact ih
theorem zo {fs:Es}{s d:Nat}(h:dD fs s=none):cj (fs.map fk) (Sum.inl (s:Int)) (V.int (d:Int))=(fs ++ [(s,d)]).map fk:=by
 rw[jN _ (by rw[gG,h];rfl),map_append];rfl
noncomputable def io (es:Es)(p:Nat):List Nat:=(List.range es.length).filter fun k=>decide ((es.getD k (0,0)).2=p)
noncomputable def eU (es:Es)(p:Nat):List Nat:=(List.range es.length).filter fun k=>decide ((es.getD k (0,0)).1=p)
theorem gA (es:Es)(k:Nat):(es.map zp).getD k (0,0)=zp (es.getD k (0,0)):=by
 rw[getD_eq_getElem?_getD,getD_eq_getElem?_getD,getElem?_map]
 cases es[k]?<;>rfl
theorem Lr (es:Es)(p:Nat):tP Prod.snd (es.map zp) (p:Int) (es.map zp).length=nV (io es p):=by
 unfold tP io nV
 rw[length_map]
 congr 1
 refine filter_congr fun k _=>?_
 rw[gA]
 show decide (((es.getD k (0,0)).2:Int)=(p:Int))=decide ((es.getD k (0,0)).2=p)
 by_cases h:(es.getD k (0,0)).2=p
 ·rw[decide_eq_true h,decide_eq_true (by omega)]
 ·rw[decide_eq_false h,decide_eq_false (by omega)]
theorem zB (es:Es)(p:Nat):tP Prod.fst (es.map zp) (p:Int) (es.map zp).length=nV (eU es p):=by
 unfold tP eU nV
 rw[length_map]
 congr 1
 refine filter_congr fun k _=>?_
 rw[gA]
 show decide (((es.getD k (0,0)).1:Int)=(p:Int))=decide ((es.getD k (0,0)).1=p)
 by_cases h:(es.getD k (0,0)).1=p
 ·rw[decide_eq_true h,decide_eq_true (by omega)]
 ·rw[decide_eq_false h,decide_eq_false (by omega)]
theorem sd (es:Es)(p:Nat):(eU es p).length <= es.length:=by
 unfold eU
 exact le_trans (length_filter_le _ _) (by rw[length_range];exact Nat.le_refl _)
theorem Ls {es:Es}{p k:Nat}(h:k ∈ io es p):∃ s,es[k]? = some (s,p)/\es.getD k (0,0)=(s,p):=by
 obtain⟨h1,h2⟩:=mem_filter.mp h
 have hk:=mem_range.mp h1
 have e:=getElem?_eq_getElem hk
 have e2:es.getD k (0,0)=es[k]:=by rw[getD_eq_getElem?_getD,e];rfl
 have h2:(es.getD k (0,0)).2=p:=of_decide_eq_true h2
 refine⟨es[k].1,?_,?_⟩
 ·rw[e,← h2,e2]
 ·rw[e2,← h2,e2]
noncomputable def AE (n:Nat)(es:Es):Prop:=∀ e ∈ es,e.1 < n/\e.2 < n
noncomputable def uE (c:Cs):Sp:=fun vs H Q _=>∃ (lx AN lt:Addr)(AK:List V)(n:Nat)(es:Es)(g:Nat),vs=[.ref lx, .int g]/\bv H c lx AN lt (n:Int) AK (es.map zp)/\AE n es/\es.length <= 100/\n <= 100/\g < n /\
 ∀ (fa:Addr)(fs:Es)(H':Hp),AI H H'->H fa=none->g9 n es g fs->H' fa=some (.dK (fs.map fk))->Q (.ref fa) H'
structure Lm (K:Frag)(c:Cs)(fs fe fo fi:Addr)(ds de Hv di:FuncData):Prop where
 ms:g8 K c.land "start_of" fs
 bs:Binds K ds ["self", "lane"] []
 me:g8 K c.land "end_of" fe
 be:Binds K de ["self", "lane"] []
 mo:g8 K c.land "out_of" fo
 bo:Binds K Hv ["self", "place"] []
 mi:g8 K c.land "into" fi
 bi:Binds K di ["self", "place"] []
abbrev NH:List Str:=["land", "goal", "far", "line", "looked_at", "place", "lane", "start"]
theorem GH:ar NH ["land", "goal"] (aj zg):=L2.Bl
theorem zS {c:Cs}{f f1 f2 f3 f4:Addr}{fd d1 d2 d3 d4:FuncData}(F:Bj K "how_far" "how_far" zg f fd)(T:eX mg)(L:li K c)(M:Lm K c f1 f2 f3 f4 d1 d2 d3 d4)
  (Gs:AJ P w K mg base aC 1 f1 d1 ["self", "lane"] (mH c Prod.fst)) (Gi:AJ P w K mg base aC 1 f4 d4 ["self", "place"] (xc c Prod.snd)):AJ P w K mg base aC 2 f fd ["land", "goal"] (uE c):=by
 refine F.ok GH (fun vs H Q E h=>?_) (fun Bb A outer s H vs Q E hr h=>?_)
 ·obtain⟨lx,AN,lt,AK,n,es,g,rfl,_⟩:=h
  rfl
 ·obtain⟨lx,AN,lt,AK,n,es,g,rfl,hL,CC,Im,hn,hg,q⟩:=h
  have hu:=ph hr
  refine⟨_,af (au (i:=2) GH.nd rfl (Or.inl rfl) (xx (vg (pv 1) am xt) rfl rfl (by intro z;cases z) (by decide)))
   (af (au (i:=3) GH.nd rfl (Or.inl rfl) (b8 (aa (pv 1) ae)))
   (af (au (i:=4) GH.nd rfl (Or.inl rfl) am)
   (af (eh PassesOwn.never (ay gb (pv 4) (aE aD rfl T.len PySem.boot_len (aa (pv 3) ae)) (a9 _))
    (af (au (i:=5) GH.nd rfl (Or.inl rfl) (aU Bf (pv 3) (pv 4) (fun _ _=>rfl)))
    (af (mT (i:=4) GH.nd rfl (Or.inl rfl) am nq)
    (ag (aK PassesOwn.never rfl (bB (bK (pv 0) L.cl M.mi Gi hr M.bi .nil ax (aa (pv 5) ae))) (ao (i:=6) GH.nd rfl (Or.inl rfl))
     (af (au (i:=7) GH.nd rfl (Or.inl rfl) (bK (pv 0) L.cl M.ms Gs hr M.bs .nil ax (aa (pv 6) ae)))
     (ag (aL (jP (e9 hu (pv 7) (pv 2)))
      (af (jn hu (pv 2) (pv 7) (az bA (jq hu (pv 2) (pv 5) (fun _ _=>rfl)) am) rfl)
      (ag (aT (cr plainAttrs_list PySem.F.slot_list_append PySem.F.type_list_append aS (pv 3) (aa (pv 7) ae))))) aA))))))))
   (ag (ap (pv 2)))))),?_⟩
  have land:∀ {H':Hp},AI H H'->bv H' c lx AN lt (n:Int) AK (es.map zp):=fun s'=>⟨s' _ _ hL.1,s' _ _ hL.2.1,AX.same s' hL.2.2⟩
  refine fun fa C0=>⟨_,rfl,ad,[fk (g,0)],rfl,(by show 1 <= 15;decide),?_⟩
  have s0:AI H (aw (aw H fa (.dK [])) fa (.dK (fF [] [fk (g,0)]))):=fun b o e=>by rw[ai (ah e C0),ai (ah e C0)];exact e
  have Hw:(aw (aw H fa (.dK [])) fa (.dK (fF [] [fk (g,0)]))) fa=some (.dK ([(g,0)].map fk)):=ad
  generalize aw (aw H fa (.dK [])) fa (.dK (fF [] [fk (g,0)]))=H0 at s0 Hw ⊢
  refine⟨_,rfl,by show 1 <= sizeLine;decide,fun ln Ew=>?_⟩
  have s1:=s0.new (o := .lst [.int g]) Ew
  have Hx:H ln=none:=s0.free Ew
  have KW:(aw H0 ln (.lst [.int g])) ln=some (.lst (nV ([(g,0)].map (·.1)))):=ad
  have Mz:(aw H0 ln (.lst [.int g])) fa=some (.dK ([(g,0)].map fk)):=by rw[ai (ah Hw Ew)];exact Hw
  generalize aw H0 ln (.lst [.int g])=H1 at s1 KW Mz ⊢
  refine⟨fun m σ H'=>∃ (fs:Es)(i:Nat)(a5 a6 a7:Option V),m=n - i/\Ek n es g fs i/\AI H H'/\H' fa=some (.dK (fs.map fk))/\H' ln=some (.lst (nV (fs.map (·.1))))/\σ=[some (.ref lx),some (.int g),some (.ref fa),some (.ref ln),some (.int (i:Nat)),a5,a6,a7],
   ⟨n - 0,[(g,0)],0,none,none,none,rfl,uh hg,s1,Mz,KW,rfl⟩,?_⟩
  rintro m σ H2 ⟨fs,i,a5,a6,a7,rfl,hB,s2,gf,gl,rfl⟩
  have BB:=hB.By
  refine⟨_,rfl,_,rfl,ln,_,rfl, .inl (AQ.of gl),_,_,rfl,rfl,_,rfl,?_⟩
  by_cases hi:i < fs.length
  rotate_left
  ·have e:i=fs.length:=by have:=hB.le;omega
   subst e
   rw[decide_eq_false (by rw[aB,length_map];omega)]
   exact aH ⟨_,rfl,q fa fs H2 s2 C0 hB.far gf⟩
  rw[decide_eq_true (by rw[aB,length_map];omega)]
  have hy:=getElem?_eq_getElem hi
  generalize fs[i]=pd at hy
  obtain⟨p,d⟩:=pd
  have hp:p < n:=hB.lt _ (mem_of_getElem? hy)
  have BS:(nV (fs.map (·.1)))[i]? = some (.int (p:Int)):=bG (by rw[getElem?_map,hy];rfl)
  refine aI ⟨fun σ' H'=>∃ (Bh:Es)(a5 a6 a7:Option V),Ek n es g Bh (i + 1)/\AI H H'/\H' fa=some (.dK (Bh.map fk))/\H' ln=some (.lst (nV (Bh.map (·.1))))/\σ' = [some (.ref lx),some (.int g),some (.ref fa),some (.ref ln),some (.int ((i:Int) + 1)),a5,a6,a7],
   fun σ' H' AL=>by obtain⟨Bh,a5,a6,a7,h1,h2,h3,h4,h5⟩:=AL;exact⟨n - (i + 1),by omega,Bh,i + 1,a5,a6,a7,rfl,h1,h2,h3,h4,h5⟩,?_⟩
  refine⟨_,rfl,_,rfl,ln,_,_,_,rfl,rfl,AQ.of gl,aJ BS,?_⟩
  refine⟨_,rfl,_,_,rfl,rfl,?_⟩
  refine⟨_,rfl,lx,AN,_,rfl,(land s2).1,rfl,_,rfl,lx,AN,lt,(n:Int),AK,es.map zp,(p:Int),rfl,land s2,by rw[length_map];omega,fun H3 Ia s3 Qm=>?_⟩
  rw[Lr]
  have u3:=s3.new (o := .lst (nV (io es p))) Qm
  have gI:(aw H3 Ia (.lst (nV (io es p)))) Ia=some (.lst (nV (io es p))):=ad
  have nIl:Ia ≠ ln:=Ne.symm (ah (s3 _ _ gl) Qm)
  have nIf:Ia ≠ fa:=Ne.symm (ah (s3 _ _ gf) Qm)
  have K0:ln ≠ fa:=fB gl gf (by intro z;cases z)
  generalize aw H3 Ia (.lst (nV (io es p)))=H4 at u3 gI ⊢
  refine⟨Ia,rfl,⟨_,AQ.of gI⟩,?_⟩
  refine bH (K:=K) (a:=Ia) (xs:=nV (io es p)) (fun m σ H5=>∃ (Bh:Es)(a6 a7:Option V),Ek n es g Bh i/\Bh[i]? = some (p,d)/\(∀ k ∈ (io es p).take m,(es.getD k (0,0)).1 ∈ Bh.map (·.1))/\AI H H5/\H5 Ia=some (.lst (nV (io es p)))/\H5 fa=some (.dK (Bh.map fk))/\H5 ln=some (.lst (nV (Bh.map (·.1)))) /\
    σ=[some (.ref lx),some (.int g),some (.ref fa),some (.ref ln),some (.int ((i:Int) + 1)),some (.int p),a6,a7])
   ⟨fs,_,_,hB,hy,fun k hk=>by simp at hk,s2.trans u3,gI,u3 _ _ gf,u3 _ _ gl,rfl⟩ (fun m σ H5 _ AL=>by obtain⟨_,_,_,_,_,_,_,g5,_⟩:=AL;exact AQ.of g5) ?_ ?_
  ·rintro m v σ H5 hv ⟨Bh,a6,a7,CS,hy',BC,s5,Qn,Io,MJ,rfl⟩
   have hm:m < (io es p).length:=by have:=(gQ0 hv);rw[aB]at this;exact this
   have hk0:=getElem?_eq_getElem hm
   have B5:=bG hk0
   rw[B5]at hv
   have hv:=Option.some.inj hv
   subst hv
   generalize hke:(io es p)[m]=k at hk0
   obtain⟨st,hk1,hk2⟩:=Ls (mem_of_getElem? hk0)
   have DO:=mem_of_getElem? hk1
   have CY:=(CC _ DO).1
   have step:∀ {M6:Es},(∀ x ∈ Bh.map (·.1),x ∈ M6.map (·.1))->st ∈ M6.map (·.1)->∀ k ∈ (io es p).take (m + 1),(es.getD k (0,0)).1 ∈ M6.map (·.1):=fun Jw Dq k' Ko=>by
    rw[take_succ,hk0]at Ko
    rcases mem_append.mp Ko with h | h
    ·exact Jw _ (BC k' h)
    ·have:k' = k:=by simpa using h
     rw[this,hk2];exact Dq
   refine⟨_,rfl,lx,AN,_,rfl,(land s5).1,rfl,_,rfl,lx,AN,lt,(n:Int),AK,es.map zp,k,zp (st,p),rfl,land s5,by rw[getElem?_map,hk1];rfl,?_⟩
   refine⟨_,rfl,_,rfl,fa,_,rfl,Bx.k (k:=Sum.inl (st:Int)) Io,_,rfl,?_⟩
   rw[gG]
   have SX:=CS.By
   cases FU:dD Bh st with
   | some d'=>exact aH ⟨Bh,_,_,CS,hy',step (fun x hx=>hx) (mem_map.mpr ⟨_,dM FU,rfl⟩),s5,Qn,Io,MJ,rfl⟩
   | none =>
    refine aI ?_
    refine⟨_,rfl,_,rfl,fa, .int (d:Int),rfl,?_,_,_,rfl,rfl,_,rfl,_,rfl,fa,_,rfl,Dl.k (k:=Sum.inl (st:Int)) Io (by rw[sizeLine_eq,length_map];omega),?_⟩
    ·have:=Bx.k (k:=Sum.inl (p:Int)) Io
     rw[gG,iE CS.nd (mem_of_getElem? hy')]at this
     exact this
    dsimp only
    have ep:cj (Bh.map fk) (Sum.inl (st:Int)) (V.int ((d:Int) + 1))=(Bh ++ [(st,d + 1)]).map fk:=zo (d:=d + 1) FU
    have SY:(aw H5 fa (.dK (cj (Bh.map fk) (Sum.inl (st:Int)) (V.int ((d:Int) + 1))))) Ia=some (.lst (nV (io es p))):=by rw[ai nIf];exact Qn
    have Fn:(aw H5 fa (.dK (cj (Bh.map fk) (Sum.inl (st:Int)) (V.int ((d:Int) + 1))))) ln=some (.lst (nV (Bh.map (·.1)))):=by rw[ai K0];exact MJ
    have Fm:(aw H5 fa (.dK (cj (Bh.map fk) (Sum.inl (st:Int)) (V.int ((d:Int) + 1))))) fa=some (.dK ((Bh ++ [(st,d + 1)]).map fk)):=by rw[ad,ep]
    have s6:AI H (aw H5 fa (.dK (cj (Bh.map fk) (Sum.inl (st:Int)) (V.int ((d:Int) + 1))))):=fun b o e=>by rw[ai (ah e C0)];exact s5 _ _ e
    generalize aw H5 fa (.dK (cj (Bh.map fk) (Sum.inl (st:Int)) (V.int ((d:Int) + 1))))=H6 at SY Fn Fm s6 ⊢
    refine⟨_,rfl, .inl ⟨rfl,_,AQ.of Fn⟩,_,rfl,ln,_,_,rfl,rfl,Fn,by rw[sizeLine_eq,aB,length_map];omega,?_⟩
    have HX:i < Bh.length:=(gQ0 hy')
    refine⟨Bh ++ [(st,d + 1)],_,_,CS.push hy' CY DO FU,by rw[getElem?_append_left HX];exact hy',step (fun x hx=>by rw[map_append];exact mem_append_left _ hx) (by rw[map_append];exact mem_append_right _ (by simp)),fun b o e=>by rw[ai (ah e Hx)];exact s6 _ _ e,by rw[ai nIl];exact SY,by rw[ai (Ne.symm K0)];exact Fm,?_,rfl⟩
    rw[ad,map_append,fD];rfl
  ·rintro σ H5 ⟨Bh,a6,a7,CS,hy',BC,s5,Qn,Io,MJ,rfl⟩
   rw[aB,take_length]at BC
   refine⟨Bh,_,_,_,CS.next hy' (fun st CY=>?_),s5,Io,MJ,rfl⟩
   obtain⟨k,hk⟩:=List.getElem?_of_mem CY
   have hk1:es.getD k (0,0)=(st,p):=by rw[getD_eq_getElem?_getD,hk];rfl
   have:=BC k (mem_filter.mpr ⟨mem_range.mpr (gQ0 hk),by rw[hk1];exact decide_eq_true rfl⟩)
   rw[hk1]at this
   exact this
noncomputable def eA (fs:Es)(d:Nat)(e:Nat):Bool:=match dD fs e with
 | some d'=>decide (d' + 1=d)
 | none=>false
noncomputable def cn (es fs:Es)(p d:Nat):List Nat:=(eU es p).filter fun k=>eA fs d (es.getD k (0,0)).2
theorem vp (es:Es)(p:Nat):(eU es p).Pairwise (· < ·):=List.Pairwise.filter _ pairwise_lt_range
theorem tH (es fs:Es)(p d:Nat):(cn es fs p d).Pairwise (· < ·):=List.Pairwise.filter _ (vp es p)
theorem sf {es fs:Es}{p d k:Nat}(h:k ∈ cn es fs p d):k < es.length:=mem_range.mp (mem_filter.mp (mem_filter.mp h).1).1
theorem oU {ks:List Nat}(h:ks.Pairwise (· < ·)):cJ (Yd.Bk ks 0)=nV ks:=by
 rw[xW,qS (ks:=ks) (ms:=iz ks) ?_ (fun k=>Iff.rfl),wf];rfl
 unfold iz
 exact List.Pairwise.map _ (fun a b E9=>by show (a:Int) < (b:Int);omega) h
theorem zC {es:Es}{p k:Nat}(h:k ∈ eU es p):∃ e,es[k]? = some (p,e)/\es.getD k (0,0)=(p,e):=by
 obtain⟨h1,h2⟩:=mem_filter.mp h
 have hk:=mem_range.mp h1
 have e:=getElem?_eq_getElem hk
 have e2:es.getD k (0,0)=es[k]:=by rw[getD_eq_getElem?_getD,e];rfl
 have h2:(es.getD k (0,0)).1=p:=of_decide_eq_true h2
 refine⟨es[k].2,?_,?_⟩
 ·rw[e,← h2,e2]
 ·rw[e2,← h2,e2]
noncomputable def vN:V->Nat
 | .int z=>z.toNat
 | _=>0
theorem jc (es fs:Es)(d:Nat):∀ l:List Nat,((nV l).filter fun v=>eA fs d (es.getD (vN v) (0,0)).2).map (fun v=>v)=nV (l.filter fun k=>eA fs d (es.getD k (0,0)).2)
 | []=>rfl
 | x :: l=>by
  have ih:=jc es fs d l
  show((V.int (x:Int) :: nV l).filter _).map _=_
  rw[List.filter_cons,List.filter_cons]
  have e:vN (V.int (x:Int))=x:=toNat_natCast x
  rw[e]
  cases eA fs d (es.getD x (0,0)).2 with
  | true=>rw[if_pos rfl,if_pos rfl,map_cons,ih];rfl
  | false=>rw[if_neg (by decide),if_neg (by decide),ih]
noncomputable def yQ (c:Cs):Sp:=fun vs H Q _=>∃ (lx AN lt fa:Addr)(AK:List V)(n:Nat)(es fs:Es)(g p d:Nat),vs=[.ref lx, .ref fa, .int p]/\bv H c lx AN lt (n:Int) AK (es.map zp)/\es.length <= 100/\Rd H fa (.dK (fs.map fk))/\g9 n es g fs/\dD fs p=some d /\
 ∀ (D:Addr)(H':Hp),AI H H'->H D=none->H' D=some (.lst (nV (cn es fs p d)))->Q (.ref D) H'
theorem va {H:Hp}{fa:Addr}{fs:Es}(h:Rd H fa (.dK (fs.map fk)))(p:Nat):Bx H fa (.int (p:Int)) ((dD fs p).map fun d:Nat=>V.int (d:Int)) := .inl ⟨_,Sum.inl (p:Int),h,rfl,(gG p fs).symm⟩
theorem mS {H H':Hp}{a:Addr}{u:HO}(s:AI H H')(h:Rd H a u):Rd H' a u:=by
 rcases h with h | ⟨o,h⟩
 ·exact .inl (s _ _ h)
 ·exact .inr ⟨o,s _ _ h⟩
noncomputable def Qo (s:Stmt):Scope:=match aP s with
 | .Return (some (.ListComp _ _ sc _)) _ :: _=>sc
 | _=>zQ0
theorem Qp:ar ["land", "far", "place"] ["land", "far", "place"] (aj Kh):=L2.Bl
theorem Qq:BU ["land", "far", "place"] (aj Kh) (Qo Kh) ["land", "far", "place"] [0,1,2]:=L2.Ds
theorem Qr:(["lane", "land", "far", "place"]:List Str).Nodup:=by decide +kernel
theorem Lu {c:Cs}{f f1 f2 f3 f4:Addr}{fd d1 d2 d3 d4:FuncData}(F:Bj K "nearer_lanes" "nearer_lanes" Kh f fd)(T:eX mg)(L:li K c)(M:Lm K c f1 f2 f3 f4 d1 d2 d3 d4)
  (Ge:AJ P w K mg base aC 1 f2 d2 ["self", "lane"] (mH c Prod.snd)) (Go:AJ P w K mg base aC 1 f3 d3 ["self", "place"] (xc c Prod.fst)):AJ P w K mg base aC 2 f fd ["land", "far", "place"] (yQ c):=by
 refine F.ok Qp (fun vs H Q E h=>?_) (fun Bb A outer s H vs Q E hr h=>?_)
 ·obtain⟨lx,AN,lt,fa,AK,n,es,fs,g,p,d,rfl,_⟩:=h
  rfl
 ·obtain⟨lx,AN,lt,fa,AK,n,es,fs,g,p,d,rfl,hL,Im,C0,hF,FU,q⟩:=h
  have hu:=ph hr
  refine⟨_,ag (ap (bX (own:=["lane"]) (capN:=["land", "far", "place"]) (cap:=[0,1,2]) Qq rfl (bB (bK (pv 0) L.cl M.mo Go hr M.bo .nil ax (aa (pv 2) ae)))
   (fun C s' H' fp=>⟨ao (i:=0) Qr rfl (Or.inl rfl),fP (ay cH (vj hu (pv 2) (bK (pv 1) L.cl M.me Ge hr M.be .nil ax (aa (pv 0) ae)) ⟨rfl,rfl,rfl,rfl⟩) (az c8 (jq hu (pv 2) (pv 3) (fun _ _=>rfl)) am) (a9 _)),pv 0⟩))),?_⟩
  refine⟨_,rfl,lx,AN,_,rfl,hL.1,rfl,_,rfl,lx,AN,lt,(n:Int),AK,es.map zp,(p:Int),rfl,hL,by rw[length_map];omega,fun H1 O s1 hO=>?_⟩
  rw[zB]
  have s2:=s1.new (o := .lst (nV (eU es p))) hO
  have gO:(aw H1 O (.lst (nV (eU es p)))) O=some (.lst (nV (eU es p))):=ad
  generalize aw H1 O (.lst (nV (eU es p)))=H2 at s2 gO ⊢
  have Hc:=sd es p
  refine⟨O,rfl,⟨_,AQ.of gO⟩,wC (fun v=>eA fs d (es.getD (vN v) (0,0)).2) (fun v=>v) (by rw[sizeLine_eq,aB];omega) (AQ.of gO) ?_ ?_⟩
  ·intro v acc N hv hN
   obtain⟨k,hk,rfl⟩:=zZ hv
   obtain⟨e,he1,G5⟩:=zC hk
   have ek:vN (V.int (k:Int))=k:=toNat_natCast k
   rw[ek,G5]at hN
   have hN:N (if eA fs d e=true then acc ++ [V.int (k:Int)] else acc) H2:=hN
   have gd:=va (mS s2 C0) p
   rw[FU]at gd
   refine⟨_,rfl,fa,rfl, .inl ⟨_,mS s2 C0⟩,_,rfl,lx,AN,_,rfl,s2 _ _ hL.1,rfl,_,rfl,lx,AN,lt,(n:Int),AK,es.map zp,k,zp (p,e),rfl,⟨s2 _ _ hL.1,s2 _ _ hL.2.1,AX.same s2 hL.2.2⟩,by rw[getElem?_map,he1];rfl,_,va (mS s2 C0) e,?_⟩
   refine⟨_,rfl,_,rfl,fa,_,rfl,gd,_,_,rfl,rfl,?_⟩
   unfold eA at hN
   cases hle:dD fs e with
   | none =>
    rw[hle]at hN
    refine⟨rfl,_,rfl,?_⟩
    exact aH hN
   | some d' =>
    rw[hle]at hN
    refine⟨rfl,_,rfl,?_⟩
    show(if decide (V.int (d':Int)=V.int ((d:Int) - 1))=true then _ else _)
    by_cases hd:d' + 1=d
    ·have hN:N (if decide (d' + 1=d)=true then acc ++ [V.int (k:Int)] else acc) H2:=hN
     rw[decide_eq_true hd,if_pos rfl]at hN
     rw[decide_eq_true (by rw[show (d:Int) - 1=(d':Int) by omega])]
     exact aI ⟨_,rfl,hN⟩
    ·have hN:N (if decide (d' + 1=d)=true then acc ++ [V.int (k:Int)] else acc) H2:=hN
     rw[decide_eq_false hd,if_neg (by decide)]at hN
     rw[decide_eq_false (fun z=>hd (by injection z with z;omega))]
     exact aH hN
  ·intro D hD
   rw[jc]
   exact q D _ (s2.new hD) (s2.free hD) ad
noncomputable def kk (p g:Nat):aX:=[some (p:Int),some (g:Int)]
theorem DS {p g p' g':Nat}:kk p g=kk p' g'↔p=p'/\g=g':=by
 unfold kk
 constructor
 ·intro h
  have h1:=List.cons.inj h
  have h2:=List.cons.inj h1.2
  have e1:=Option.some.inj h1.1
  have e2:=Option.some.inj h2.1
  omega
 ·rintro⟨rfl,rfl⟩;rfl
noncomputable def tX (es fs:Es)(p:Nat):Option V:=(dD fs p).map fun d=>V.int (Yd.Bk (cn es fs p d) 0:Nat)
noncomputable def r8 (n:Nat)(es:Es)(kvs:List eZ)(G:Nat):Prop:=(∀ g,g < G->∃ fs,g9 n es g fs/\∀ p,cY kvs (kk p g)=tX es fs p)/\∀ g,G <= g->∀ p,cY kvs (kk p g)=none
noncomputable def wP (n:Nat)(es:Es)(kvs:List eZ)(G:Nat)(fs:Es)(j:Nat):Prop:=(∀ g,g < G->∃ fs,g9 n es g fs/\∀ p,cY kvs (kk p g)=tX es fs p)/\(∀ p,cY kvs (kk p G)=if p ∈ (fs.take j).map (·.1) then tX es fs p else none)/\∀ g,G < g->∀ p,cY kvs (kk p g)=none
theorem tW {n:Nat}{es:Es}{kvs:List eZ}{G:Nat}{fs:Es}(h:r8 n es kvs G):wP n es kvs G fs 0 :=
 ⟨h.1,fun p=>by rw[h.2 G (Nat.le_refl _) p,if_neg (by simp)],fun g hg p=>h.2 g (by omega) p⟩
theorem yj {n:Nat}{es:Es}{kvs:List eZ}{G:Nat}{fs:Es}(f:g9 n es G fs)(h:wP n es kvs G fs fs.length):r8 n es kvs (G + 1):=by
 refine⟨fun g hg=>?_,fun g hg p=>h.2.2 g (by omega) p⟩
 rcases lt_or_ge g G with h1 | h1
 ·exact h.1 g h1
 ·have e:g=G:=by omega
  subst e
  refine⟨fs,f,fun p=>?_⟩
  rw[h.2.1 p,take_length]
  by_cases hp:p ∈ fs.map (·.1)
  ·rw[if_pos hp]
  ·rw[if_neg hp];unfold tX;rw[CU.mpr hp];rfl
theorem w4 {n:Nat}{es:Es}{kvs:List eZ}{G:Nat}{fs:Es}{j p d:Nat}{b:Addr}(hn:(fs.map (·.1)).Nodup)(hj:fs[j]? = some (p,d))(h:wP n es kvs G fs j) :
  wP n es (gq kvs (kk p G) b (.int (Yd.Bk (cn es fs p d) 0:Nat))) G fs (j + 1):=by
 have FU:=iE hn (mem_of_getElem? hj)
 refine⟨fun g hg=>?_,fun p'=>?_,fun g hg p'=>?_⟩
 ·obtain⟨Bh,f',h'⟩:=h.1 g hg
  refine⟨Bh,f',fun p'=>?_⟩
  rw[j4,if_neg (fun z=>by have:=(DS.mp z).2;omega),h' p']
 ·rw[j4]
  by_cases e:p' = p
  ·subst e
   rw[if_pos rfl,if_pos (by rw[take_succ,hj,map_append];exact mem_append_right _ (by simp))]
   unfold tX;rw[FU];rfl
  ·rw[if_neg (fun z=>e (DS.mp z).1),h.2.1 p',take_succ,hj,map_append]
   by_cases hm:p' ∈ (fs.take j).map (·.1)
   ·rw[if_pos hm,if_pos (mem_append_left _ hm)]
   ·rw[if_neg hm,if_neg]
    intro z
    rcases mem_append.mp z with z | z
    ·exact hm z
    ·exact e (by simpa using z)
 ·rw[j4,if_neg (fun z=>by have:=(DS.mp z).2;omega),h.2.2 g hg p']
noncomputable def ul (P:Program)(w:World)(H:Hp)(ts:Ts)(x dx:Addr)(lx:Addr)(de:Addr)(kvs:List eZ):Prop:=H x=some (.ins ts.near dx [("land", .ref lx),("entries", .ref de)])/\BD P w H de kvs
noncomputable def qg (P:Program)(w:World)(c:Cs)(ts:Ts):Sp:=fun vs H Q _=>∃ (x dx lx AN lt:Addr)(AK:List V)(n:Nat)(es:Es),vs=[.ref x, .ref lx]/\H x=some (.ins ts.near dx [])/\bv H c lx AN lt (n:Int) AK (es.map zp)/\AE n es/\es.length <= 100/\n <= 100 /\
 ∀ H' de kvs,Off x H H'->ul P w H' ts x dx lx de kvs->r8 n es kvs n->Q .AZ H'
structure A5 (K:Frag)(mg:Str->Option Value)(ts:Ts)(f1:Addr)(d1:FuncData):Prop where
 cl:C8 K ts.near
 n1:AW K ts.near "land"
 n2:AW K ts.near "entries"
 mt:mg "Table" = some (.ref ts.tab)
 cm:pQ K ts.tab "__init__" f1
 bt:Binds K d1 ["self", "land"] []
abbrev NNr:List Str:=["self", "land", "goal", "far", "place"]
theorem FW:ar NNr ["self", "land"] (aj uR):=L2.Bl
theorem xH {c:Cs}{ts:Ts}{f ft fh fn fs:Addr}{fd dt dh dn ds:FuncData}(F:Bj K "__init__" "Nearer.__init__" uR f fd)(T:eX mg)(L:li K c)(B:A5 K mg ts ft dt)(G1:AJ P w K mg base aC 1 ft dt ["self", "land"] (ly K))
  (mh:mg "how_far" = some (.ref fh)) (kh:keepIn K (.ref fh)=true) (bh:Binds K dh ["land", "goal"] []) (Gh:AJ P w K mg base aC 2 fh dh ["land", "goal"] (uE c))
  (mn:mg "nearer_lanes" = some (.ref fn)) (kn:keepIn K (.ref fn)=true) (bn:Binds K dn ["land", "far", "place"] []) (Gn:AJ P w K mg base aC 2 fn dn ["land", "far", "place"] (yQ c))
  (ms:mg "set_of" = some (.ref fs)) (ks:keepIn K (.ref fs)=true) (bs:Binds K ds ["numbers"] []) (Gs:AJ P w K mg base aC 1 fs ds ["numbers"] (uA K)) :
  AJ P w K mg base aC 3 f fd ["self", "land"] (qg P w c ts):=by
 refine F.ok FW (fun vs H Q E h=>?_) (fun Bb A outer s H vs Q E hr h=>?_)
 ·obtain⟨x,dx,lx,AN,lt,AK,n,es,rfl,_⟩:=h
  rfl
 ·obtain⟨x,dx,lx,AN,lt,AK,n,es,rfl,hx,hL,CC,Im,hn,q⟩:=h
  have Cn:AU 1 _:=hr.mono (by decide)
  have hu:=ph hr
  refine⟨_,af (aT (gX (cC (v := .ref ts.tab) rfl B.mt rfl) B.cm G1 Cn B.bt .nil ax (aa (pv 0) (aa (pv 1) ae))))
   (af (gr (pv 0) (show PE _ _ (yy P w) from xu) rfl)
   (ag (aK PassesOwn.never rfl (aR rfl T.range (aa (aF (pv 1) rfl) ae)) (ao (i:=2) FW.nd rfl (Or.inl rfl))
    (af (au (i:=3) FW.nd rfl (Or.inl rfl) (aq Gh hr rfl mh kh bh .nil ax (aa (pv 1) (aa (pv 2) ae))))
    (ag (aK PassesOwn.never rfl (jo (pv 3)) (ao (i:=4) FW.nd rfl (Or.inl rfl))
     (ag (xq hu (aF (pv 0) rfl) (bu (aa (pv 4) (aa (pv 2) ae))) (aq Gs Cn rfl ms ks bs .nil ax (aa (aq Gn hr rfl mn kn bn .nil ax (aa (pv 1) (aa (pv 3) (aa (pv 4) ae)))) ae)) rfl)))))))),?_⟩
  refine⟨rfl,_,rfl,_,rfl,x,ts.near,dx,_,rfl,hx,B.cl,B.n1,?_⟩
  refine fun de MK=>⟨_,rfl,x,ts.near,dx,[("land", .ref lx)],rfl,by rw[ai (ah ad MK)];exact ad,B.cl,B.n2,by show 1 < 1000;decide,?_⟩
  have Qs:x ≠ de:=ah ad MK
  have Lv:H de=none:=by rw[ai (Ne.symm Qs)]at MK;exact MK
  generalize GY:aw (aw (aw H x (.ins ts.near dx [("land", .ref lx)])) de (nK P w de [])) x (.ins ts.near dx (dQ "entries" (.ref de) [("land", .ref lx)]))=H2
  have o2:Off x H H2:=fun b o hb e=>by rw[← GY,ai hb,ai (ah e Lv),ai hb];exact e
  have x2:H2 x=some (.ins ts.near dx [("land", .ref lx),("entries", .ref de)]):=by rw[← GY,ad];rfl
  have d2:BD P w H2 de []:=⟨by rw[← GY,ai (Ne.symm Qs),ad],fun y hy=>by cases hy⟩
  have ML:=Off.land o2 hx hL
  refine⟨_,rfl,lx,c.land,AN,_,_,rfl,ML.1,L.cl,L.np,rfl,(n:Int),rfl,by omega,by omega,?_⟩
  rw[toNat_natCast]
  refine aZ (n:=n) (fun G σ H3=>∃ (a2 a3 a4:Option V)(kvs:List eZ),Off x H H3/\ul P w H3 ts x dx lx de kvs/\kvs.length <= G * 100/\r8 n es kvs G/\σ=[some (.ref x),some (.ref lx),a2,a3,a4])
   ⟨none,none,none,[],o2,⟨x2,d2⟩,zero_le _,⟨fun g hg=>absurd hg (not_lt_zero _),fun g _ p=>rfl⟩,rfl⟩ ?_ ?_
  ·rintro G σ H3 hG ⟨a2,a3,a4,kvs,o3,n3,l3,e3,rfl⟩
   rw[Int.zero_add]
   have FQ:=Off.land o3 hx hL
   refine⟨_,rfl,_,rfl,lx,AN,lt,AK,n,es,G,rfl,FQ,CC,Im,hn,hG,fun fa Bh H4 s4 C0 hF Ph=>?_⟩
   have BB:Bh.length <= n:=by
    have:=cI n (Bh.map (·.1)) hF.nd fun y hy=>by
     obtain⟨z,hz,rfl⟩:=mem_map.mp hy
     exact hF.lt z hz
    rwa [length_map]at this
   refine⟨_,rfl,fa,_,rfl,Ph,fun ob=>?_⟩
   have K2:(aw H4 fa (.B2 ob (.dK (Bh.map fk)))) fa=some (.B2 ob (.dK (Bh.map fk))):=ad
   have s5:AI H3 (aw H4 fa (.B2 ob (.dK (Bh.map fk)))):=fun b o e=>by rw[ai (ah e C0)];exact s4 _ _ e
   generalize aw H4 fa (.B2 ob (.dK (Bh.map fk)))=H5 at K2 s5 ⊢
   have nfa:H fa=none∨fa=x:=by
    by_cases h:fa=x
    ·exact .inr h
    ·exact .inl (by cases e:H fa with | none=>rfl | some o=>rw[o3 _ _ h e]at C0;cases C0)
   refine p5 (a:=fa) (o:=ob) (kvs:=Bh.map fk) (fun j σ H6=>∃ (a4:Option V)(kvs:List eZ),Off x H H6/\ul P w H6 ts x dx lx de kvs/\kvs.length <= G * 100 + j/\wP n es kvs G Bh j/\H6 fa=some (.B2 ob (.dK (Bh.map fk)))/\σ=[some (.ref x),some (.ref lx),some (.int G),some (.ref fa),a4])
    ⟨_,kvs,o3.same s5,⟨s5 _ _ n3.1,n3.2.same s5⟩,l3,tW e3,K2,rfl⟩ (fun j σ H6 _ AL=>by obtain⟨_,_,_,_,_,_,g6,_⟩:=AL;exact g6) ?_ ?_
   ·rintro j k σ H6 hk ⟨a4,kvs,o6,n6,l6,e6,g6,rfl⟩
    have hj:j < Bh.length:=by have:=(gQ0 hk);simpa using this
    have hjp:=getElem?_eq_getElem hj
    generalize Bh[j]=pd at hjp
    obtain⟨p,d⟩:=pd
    have ek:k=Sum.inl (p:Int):=by
     rw[getElem?_map,getElem?_map,hjp]at hk
     exact(Option.some.inj hk).symm
    subst ek
    rw[show kV (Sum.inl (p:Int))=V.int (p:Int) from rfl]
    have FU:=iE hF.nd (mem_of_getElem? hjp)
    have hL6:=Off.land o6 hx hL
    refine⟨_,rfl,_,rfl,_,rfl,lx,AN,lt,fa,AK,n,es,Bh,G,p,d,rfl,hL6,Im, .inr ⟨_,g6⟩,hF,FU,fun O H7 s7 hO gO=>?_⟩
    refine⟨O,cn es Bh p d,rfl,AQ.of gO,fun k hk=>by have:=sf hk;omega,?_⟩
    have n7x:=s7 _ _ n6.1
    refine⟨_,rfl,x,ts.near,dx,_,_,rfl,n7x,B.cl,B.n2,rfl,_,rfl,_,rfl,by show 2 <= sizeLine;decide,fun kt hkt=>?_⟩
    have s8:=s7.new (o := .tup [.int p, .int G]) hkt
    have k8:(aw H7 kt (.tup [.int p, .int G])) kt=some (.tup ((kk p G).map xQ)):=ad
    generalize aw H7 kt (.tup [.int p, .int G])=H8 at s8 k8 ⊢
    have d8:=n6.2.same s8
    refine⟨de,kvs,kk p G,kt,rfl,d8,rfl,k8,by rw[sizeLine_eq];have:G * 100 <= 100 * 100:=Nat.mul_le_mul_right _ (by omega);omega,?_⟩
    have nfd:fa ≠ de:=fun z=>by
     have h1:=s8 _ _ g6
     rw[z,d8.1]at h1
     cases h1
    have Lw:∀ b ks,H8 b=some (.tup ks)->(aw H8 de (nK P w de (gq kvs (kk p G) kt (.int (Yd.Bk (cn es Bh p d) 0:Nat))))) b=some (.tup ks):=fun b ks e=>by
     rw[ai (fun z=>by rw[z,d8.1]at e;cases e)];exact e
    refine⟨_,gq kvs (kk p G) kt (.int (Yd.Bk (cn es Bh p d) 0:Nat)),fun b o hb e=>?_,⟨?_,ad,tf (F:=fun k a=>(aw H8 de (nK P w de (gq kvs (kk p G) kt (.int (Yd.Bk (cn es Bh p d) 0:Nat))))) a=some (.tup (k.map xQ))) (fun y hy=>Lw _ _ (d8.2 y hy)) (Lw _ _ k8)⟩,?_,w4 hF.nd hjp e6,?_,rfl⟩
    ·rw[ai (ah e Lv)];exact s8 _ _ (o6 _ _ hb e)
    ·rw[ai Qs];exact s8 _ _ n6.1
    ·have:=iY (kvs:=kvs) (k:=kk p G) (b:=kt) (v := .int (Yd.Bk (cn es Bh p d) 0:Nat));omega
    ·rw[ai nfd];exact s8 _ _ g6
   ·rintro σ H6 ⟨a4,kvs,o6,n6,l6,e6,g6,rfl⟩
    rw[length_map]at l6 e6
    refine⟨_,_,_,kvs,o6,n6,?_,yj hF e6,rfl⟩
    rw[succ_mul];omega
  ·rintro σ H3 ⟨a2,a3,a4,kvs,o3,n3,l3,e3,rfl⟩
   exact q H3 de kvs o3 n3 e3
noncomputable def cp (es fs:Es)(p:Nat):List Nat:=match dD fs p with
 | some d=>cn es fs p d
 | none=>[]
theorem nS (es fs:Es)(p:Nat):(cp es fs p).Pairwise (· < ·):=by
 unfold cp
 split
 ·exact tH _ _ _ _
 ·exact List.Pairwise.nil
theorem lZ {es fs:Es}{p k:Nat}(h:k ∈ cp es fs p):k < es.length:=by
 unfold cp at h
 split at h
 ·exact sf h
 ·cases h
noncomputable def rH (P:Program)(w:World)(ts:Ts):Sp:=fun vs H Q _=>∃ (x dx lx de:Addr)(kvs:List eZ)(n:Nat)(es:Es)(p g:Nat)(cv:V),vs=[.ref x, .int p, .int g,cv]/\ul P w H ts x dx lx de kvs/\r8 n es kvs n/\g < n/\es.length <= 100 /\
 ∀ fs,g9 n es g fs->∀ (D:Addr)(H':Hp),AI H H'->H D=none->H' D=some (.lst (nV (cp es fs p)))->Q (.ref D) H'
theorem Lx:ar ["self", "place", "goal", "came"] ["self", "place", "goal", "came"] (aj qt):=L2.Bl
theorem v0 {ts:Ts}{f fm f1:Addr}{fd dm d1:FuncData}(F:Bj K "ways" "Nearer.ways" qt f fd)(B:A5 K mg ts f1 d1)(mm:mg "members" = some (.ref fm))(km:keepIn K (.ref fm)=true)(bm:Binds K dm ["some"] [])
  (Gm:AJ P w K mg base aC 2 fm dm ["some"] lz):AJ P w K mg base aC 3 f fd ["self", "place", "goal", "came"] (rH P w ts):=by
 refine F.ok Lx (fun vs H Q E h=>?_) (fun Bb A outer s H vs Q E hr h=>?_)
 ·obtain⟨x,dx,lx,de,kvs,n,es,p,g,cv,rfl,_⟩:=h
  rfl
 ·obtain⟨x,dx,lx,de,kvs,n,es,p,g,cv,rfl,hx,hE,hg,Im,q⟩:=h
  have hu:=ph hr
  refine⟨_,ag (ap (aq Gm hr rfl mm km bm .nil ax (aa (vh hu (aF (pv 0) rfl) (aa (bu (aa (pv 1) (aa (pv 2) ae))) (aa am ae))) ae))),?_⟩
  refine⟨_,rfl,x,ts.near,dx,_,_,rfl,hx.1,B.cl,B.n2,rfl,de,kvs,rfl,hx.2,?_⟩
  refine⟨_,rfl,_,rfl,by show 2 <= sizeLine;decide,fun t ht=>?_⟩
  have s1:AI H (aw H t (.tup [.int p, .int g])):=(AI.refl H).new ht
  refine⟨_,_,cY kvs (kk p g),rfl,⟨kvs,kk p g,t,hx.2.same s1,rfl,ad,rfl⟩,?_⟩
  obtain⟨fs,hF,hv⟩:=hE.1 g hg
  have ev:(cY kvs (kk p g)).getD (.int 0) = .int (Yd.Bk (cp es fs p) 0:Nat):=by
   rw[hv p]
   unfold tX cp
   cases dD fs p<;>rfl
  rw[ev]
  refine⟨_,rfl,lt_of_lt_of_le (uJ fun k hk=>lZ hk) (pow_le_pow_right (by decide) (by omega)),fun D hD=>?_⟩
  exact q fs hF D _ (s1.new hD) (s1.free hD) (by rw[ad,oU (nS es fs p)])
abbrev Wf:=Nat->Nat->Option Int->List Nat
noncomputable def bC (n:Nat)(f:Wf):aX->Nat
 | [some p,some g,c]=>if (0 <= p/\p < n)/\(0 <= g/\g < n) then Yd.Bk (f p.toNat g.toNat c) 0 else 0
 | _=>0
theorem vT:∀ {a b:List Nat},nV a=nV b->a=b
 | [],[],_=>rfl
 | [],_ :: _,h=>by simp[nV]at h
 | _ :: _,[],h=>by simp[nV]at h
 | x :: a,y :: b,h=>by
  unfold nV at h
  rw[map_cons,map_cons]at h
  obtain⟨h1,h2⟩:=List.cons.inj h
  injection h1 with h1
  rw[vT (a:=a) (b:=b) h2,show x=y by omega]
theorem Ly {n:Nat}{f:Wf}{p g:Nat}{c:Option Int}(hp:p < n)(hg:g < n):bC n f [some (p:Int),some (g:Int),c]=Yd.Bk (f p g c) 0:=by
 show(if (0 <= (p:Int)/\(p:Int) < n)/\(0 <= (g:Int)/\(g:Int) < n) then _ else _)=_
 rw[if_pos (by omega)]
 rfl
theorem fZ {n:Nat}{f:Wf}(hf:∀ p g c,(f p g c).Pairwise (· < ·)){p g:Nat}{c:Option Int}(hp:p < n)(hg:g < n):wl (bC n f) [some (p:Int),some (g:Int),c]=f p g c:=by
 have h:=oU (hf p g c)
 rw[← Ly hp hg (f:=f)]at h
 rw[ju]at h
 exact vT h
theorem cT {wy:aX->Nat}{k:aX}(h:wy k=0):wl wy k=[]:=by
 refine List.eq_nil_iff_forall_not_mem.mpr fun z hz=>?_
 unfold wl at hz
 rw[h]at hz
 have:=(Bo (m:=0) (p:=z)).mp hz
 rw[zero_testBit]at this
 cases this
theorem nR {n:Nat}{f:Wf}(hf:∀ p g c,(f p g c).Pairwise (· < ·))(k:aX):wl (bC n f) k=[]∨∃ p g c,p < n/\g < n/\wl (bC n f) k=f p g c:=by
 match k with
 | [some p,some g,c] =>
  by_cases h:(0 <= p/\p < n)/\(0 <= g/\g < n)
  ·refine .inr ⟨p.toNat,g.toNat,c,by omega,by omega,?_⟩
   have:=fZ hf (n:=n) (p:=p.toNat) (g:=g.toNat) (c:=c) (by omega) (by omega)
   rw[toNat_of_nonneg h.1.1,toNat_of_nonneg h.2.1]at this
   exact this
  ·refine .inl (cT ?_)
   show(if _ then _ else _)=0
   rw[if_neg h]
 | []=>exact .inl (cT rfl)
 | [_]=>exact .inl (cT (by cases ‹Option Int›<;>rfl))
 | [none,_]=>exact .inl (cT rfl)
 | [some _,_]=>exact .inl (cT (by cases ‹Option Int›<;>rfl))
 | [none,_,_]=>exact .inl (cT rfl)
 | [some _,none,_]=>exact .inl (cT rfl)
 | a :: b :: c :: d :: e=>exact .inl (cT (by cases a<;>cases b<;>rfl))
theorem rC {n L:Nat}{f:Wf}(hf:∀ p g c,(f p g c).Pairwise (· < ·))(h:∀ p g c,p < n->g < n->∀ z ∈ f p g c,z < L):∀ k,∀ z ∈ wl (bC n f) k,z < L:=fun k z hz=>by
 rcases nR hf (n:=n) k with e | ⟨p,g,c,hp,hg,e⟩
 ·rw[e]at hz;cases hz
 ·rw[e]at hz;exact h p g c hp hg z hz
theorem lY {n L:Nat}{f:Wf}(hf:∀ p g c,(f p g c).Pairwise (· < ·))(h:∀ p g c,p < n->g < n->(f p g c).length <= L):∀ k,(wl (bC n f) k).length <= L:=fun k=>by
 rcases nR hf (n:=n) k with e | ⟨p,g,c,hp,hg,e⟩
 ·rw[e];exact zero_le _
 ·rw[e];exact h p g c hp hg
noncomputable def A9 (wy:aX->Nat)(n:Nat):Prop:=∀ (p g:Nat)(c:Option Int),p < n->g < n->(p=g/\wl wy [some (p:Int),some (g:Int),c]=[])∨(p ≠ g/\∃ z,wl wy [some (p:Int),some (g:Int),c]=[z])
noncomputable def bS (nx:Nat->Nat->Option Int->Nat):Wf:=fun p g c=>if p=g then [] else [nx p g c]
theorem bL (nx:Nat->Nat->Option Int->Nat)(p g:Nat)(c:Option Int):(bS nx p g c).Pairwise (· < ·):=by
 unfold bS
 split
 ·exact .nil
 ·exact pairwise_singleton _ _
theorem ng (nx:Nat->Nat->Option Int->Nat)(p g:Nat)(c:Option Int):(bS nx p g c).length <= 40:=by
 unfold bS
 split<;>simp
theorem nc (nx:Nat->Nat->Option Int->Nat)(n:Nat):A9 (bC n (bS nx)) n:=fun p g c hp hg=>by
 rw[fZ (bL nx) hp hg]
 unfold bS
 by_cases e:p=g
 ·exact .inl ⟨e,by rw[if_pos e]⟩
 ·exact .inr ⟨e,_,by rw[if_neg e]⟩
theorem qM {n:Nat}{ps:List (Int × Int)}{nx:Nat->Nat->Option Int->Nat}(num:Nat->Int)(B:Nat->Nat->Bool)
  (h1:∀ p g,p < n->g < n->p ≠ g->B (nx p g none) g=true)
  (h2:∀ l g e:Nat,l < ps.length->g < n->B l g=true->(ps.getD l (0,0)).2=(e:Int)->e ≠ g->e < n/\B (nx e g (some (l:Int))) g=true/\num l < num (nx e g (some (l:Int)))/\nx e g (some (l:Int)) < ps.length)
  (h3:∀ p g,p < n->g < n->p ≠ g->nx p g none < ps.length) (hk:∀ q ∈ ps,ie n q=true) :
  Fr (bC n (bS nx)) ps n ((List.range ps.length).map num) ((List.range ps.length).map fun l=>Yd.Bk ((List.range n).filter fun g=>B l g) 0):=by
 have bit:∀ l g,l < ps.length->cS ((List.range ps.length).map fun l=>Yd.Bk ((List.range n).filter fun g=>B l g) 0) l g=decide (g < n/\B l g=true):=fun l g hl=>by
  unfold cS
  rw[getD_eq_getElem?_getD,getElem?_map,List.getElem?_range hl]
  show(Yd.Bk _ 0).testBit g=_
  rw[sR]
  refine decide_eq_decide.mpr ?_
  unfold iz
  rw[mem_map]
  constructor
  ·rintro⟨a,ha,e⟩
   have e:a=g:=by omega
   subst e
   obtain⟨h1,h2⟩:=mem_filter.mp ha
   exact⟨mem_range.mp h1,h2⟩
  ·rintro⟨h1,h2⟩
   exact⟨g,mem_filter.mpr ⟨mem_range.mpr h1,h2⟩,rfl⟩
 have nat:∀ l,l < ps.length->((List.range ps.length).map num).getD l 0=num l:=fun l hl=>by
  rw[getD_eq_getElem?_getD,getElem?_map,List.getElem?_range hl]
  rfl
 refine⟨by simp,by simp,fun z hz=>?_,fun p g hp hg z hz=>?_,fun l g hl hb he=>?_⟩
 ·obtain⟨l,_,rfl⟩:=mem_map.mp hz
  exact uJ fun k hk=>mem_range.mp (mem_filter.mp hk).1
 ·rw[fZ (bL nx) hp hg]at hz
  unfold bS at hz
  by_cases e:p=g
  ·rw[if_pos e]at hz;cases hz
  ·rw[if_neg e]at hz
   obtain rfl:=mem_singleton.mp hz
   rw[bit _ _ (h3 p g hp hg e)]
   exact decide_eq_true ⟨hg,h1 p g hp hg e⟩
 ·rw[bit _ _ hl]at hb
  obtain⟨hg,hb⟩:=of_decide_eq_true hb
  have hq:=jr (hk _ (getElem_mem hl))
  have eq:ps.getD l (0,0)=ps[l]:=by rw[getD_eq_getElem?_getD,getElem?_eq_getElem hl];rfl
  rw[← eq]at hq
  obtain⟨e,ee⟩:∃ e:Nat,(ps.getD l (0,0)).2=(e:Int):=⟨(ps.getD l (0,0)).2.toNat,by omega⟩
  have Bu:e ≠ g:=by omega
  obtain⟨a1,a2,a3,a4⟩:=h2 l g e hl hg hb ee Bu
  have on:bZ (bC n (bS nx)) ps g l=[nx e g (some (l:Int))]:=by
   unfold bZ
   rw[if_neg he,ee,fZ (bL nx) a1 hg]
   unfold bS
   rw[if_neg Bu]
  rw[on]
  refine⟨by simp,fun z hz=>?_⟩
  obtain rfl:=mem_singleton.mp hz
  rw[bit _ _ a4,nat _ hl,nat _ a4]
  exact⟨decide_eq_true ⟨hg,a2⟩,a3⟩
noncomputable def vL (n:Nat)(p _g:Nat)(c:Option Int):Nat:=match c with
 | none=>p
 | some k=>if (n:Int) - 1 <= k then n + p else p
noncomputable def BL (n l g:Nat):Bool:=if l < n then decide (g ≠ l) else decide (l - n < g)
theorem wD {n l:Nat}(h:l < 2 * n):(bJ n ++ bJ n).getD l (0,0)=if l < n then ((l:Int),((l:Int) + 1) % (n:Int)) else (((l - n:Nat):Int),(((l - n:Nat):Int) + 1) % (n:Int)):=by
 rw[getD_eq_getElem?_getD]
 by_cases e:l < n
 ·rw[if_pos e,getElem?_append_left (by rw[dF];exact e)]
  unfold bJ
  rw[getElem?_map,List.getElem?_range e];rfl
 ·rw[if_neg e,getElem?_append_right (by rw[dF];omega),dF]
  unfold bJ
  rw[getElem?_map,List.getElem?_range (by omega)];rfl
theorem xY {n:Nat}(h2:2 <= n):Fr (bC n (bS (vL n))) (bJ n ++ bJ n) n ((List.range (bJ n ++ bJ n).length).map fun l:Nat=>(l:Int)) ((List.range (bJ n ++ bJ n).length).map fun l=>Yd.Bk ((List.range n).filter fun g=>BL n l g) 0):=by
 have hl:(bJ n ++ bJ n).length=2 * n:=by rw[length_append,dF];omega
 refine qM (fun l:Nat=>(l:Int)) (BL n) (fun p g hp hg ne=>?_) (fun l g e E6 hg hb he Bu=>?_) (fun p g hp hg ne=>by rw[hl];show p < 2 * n;omega) (nB h2)
 ·show BL n p g=true
  unfold BL
  rw[if_pos hp]
  exact decide_eq_true (Ne.symm ne)
 ·rw[hl]at E6
  rw[wD E6]at he
  unfold BL at hb
  by_cases c1:l < n
  ·rw[if_pos c1]at hb he
   have hb:=of_decide_eq_true hb
   dsimp only at he
   rw[Qh (by omega) (by omega)]at he
   by_cases c2:(l:Int) + 1 < n
   ·rw[if_pos c2]at he
    have ee:e=l + 1:=by omega
    subst ee
    have en:vL n (l + 1) g (some (l:Int))=l + 1:=by
     show(if (n:Int) - 1 <= (l:Int) then _ else _)=_
     rw[if_neg (by omega)]
    rw[en,hl]
    refine⟨by omega,?_,by show (l:Int) < ((l + 1:Nat):Int);omega,by omega⟩
    unfold BL
    rw[if_pos (by omega)]
    exact decide_eq_true (by omega)
   ·rw[if_neg c2]at he
    have ee:e=0:=by omega
    subst ee
    have en:vL n 0 g (some (l:Int))=n:=by
     show(if (n:Int) - 1 <= (l:Int) then _ else _)=_
     rw[if_pos (by omega)];rfl
    rw[en,hl]
    refine⟨by omega,?_,by show (l:Int) < ((n:Nat):Int);omega,by omega⟩
    unfold BL
    rw[if_neg (by omega)]
    exact decide_eq_true (by omega)
  ·rw[if_neg c1]at hb he
   have hb:=of_decide_eq_true hb
   dsimp only at he
   rw[Qh (by omega) (by omega),if_pos (by omega)]at he
   have ee:e=l - n + 1:=by omega
   subst ee
   have en:vL n (l - n + 1) g (some (l:Int))=l + 1:=by
    show(if (n:Int) - 1 <= (l:Int) then _ else _)=_
    rw[if_pos (by omega)];omega
   rw[en,hl]
   refine⟨by omega,?_,by show (l:Int) < ((l + 1:Nat):Int);omega,by omega⟩
   unfold BL
   rw[if_neg (by omega)]
   exact decide_eq_true (by omega)
noncomputable def y8 (w h:Int)(m:Nat)(p g:Nat)(_c:Option Int):Nat:=(av w h m).idxOf ((p:Int),b9 w p g)
noncomputable def fA (w h:Int)(q:Int × Int):Int:=if q.1 / w=q.2 / w then (if q.1 < q.2 then q.1 % w else w - q.1 % w) else 100 + (if q.1 < q.2 then q.1 / w else h - q.1 / w)
noncomputable def Lz (w h:Int)(m:Nat):Bool:=(List.range m).all fun p=>(List.range m).all fun g=>decide (p=g) || decide (b9 w p g=(g:Int)) || decide (fA w h ((p:Int),b9 w p g) < fA w h (b9 w p g,b9 w (b9 w p g) g))
theorem ql:(bO 12).all (fun q=>Lz q.1 q.2 (q.1 * q.2).toNat)=true:=by decide +kernel
theorem zj {w h:Int}{m:Nat}(G:pO w h m):Fr (bC m (bS (y8 w h m))) (av w h m) m ((List.range (av w h m).length).map fun l=>fA w h ((av w h m).getD l (0,0))) ((List.range (av w h m).length).map fun l=>Yd.Bk ((List.range m).filter fun g=>decide (((av w h m).getD l (0,0)).1 ≠ (g:Int)/\b9 w ((av w h m).getD l (0,0)).1 g=((av w h m).getD l (0,0)).2)) 0):=by
 have ho:dA (w,h)=true:=by
  have e:=G.wh
  have:=G.FP
  unfold dA
  exact decide_eq_true ⟨G.w1,G.h1,by show w * h <= 12;omega⟩
 have hr:=all_eq_true.mp ql (w,h) (ou ho)
 rw[show(((w,h):Int × Int).1 * ((w,h):Int × Int).2).toNat=m by show(w * h).toNat=m;rw[G.wh];rfl]at hr
 have rise:∀ p g:Nat,p < m->g < m->p ≠ g->b9 w p g ≠ (g:Int)->fA w h ((p:Int),b9 w p g) < fA w h (b9 w p g,b9 w (b9 w p g) g):=fun p g hp hg ne ne2=>by
  have:=all_eq_true.mp (all_eq_true.mp hr p (mem_range.mpr hp)) g (mem_range.mpr hg)
  rw[decide_eq_false ne,decide_eq_false ne2]at this
  simpa using this
 have at':∀ p g c,p < m->g < m->p ≠ g->y8 w h m p g c < (av w h m).length/\(av w h m).getD (y8 w h m p g c) (0,0)=((p:Int),b9 w p g)/\0 <= b9 w p g/\b9 w p g < m:=fun p g c hp hg ne=>by
  rcases G.at_ p g hp hg with ⟨e,_⟩ | ⟨_,_,hm,hn,_⟩
  ·exact absurd e ne
  ·have:=(lK hm).1
   refine⟨(gQ0 this),?_,hn⟩
   rw[getD_eq_getElem?_getD]
   show((av w h m)[(av w h m).idxOf ((p:Int),b9 w p g)]?).getD (0,0)=_
   rw[this];rfl
 refine qM (fun l=>fA w h ((av w h m).getD l (0,0))) (fun l g=>decide (((av w h m).getD l (0,0)).1 ≠ (g:Int)/\b9 w ((av w h m).getD l (0,0)).1 g=((av w h m).getD l (0,0)).2)) (fun p g hp hg ne=>?_) (fun l g e hl hg hb he Bu=>?_) (fun p g hp hg ne=>(at' p g none hp hg ne).1) G.good
 ·obtain⟨_,a2,_⟩:=at' p g none hp hg ne
  rw[a2]
  exact decide_eq_true ⟨by show (p:Int) ≠ g;omega,rfl⟩
 ·obtain⟨b1,b2⟩:=of_decide_eq_true hb
  have hq:ie m ((av w h m).getD l (0,0))=true:=by
   rw[getD_eq_getElem?_getD,getElem?_eq_getElem hl]
   exact G.good _ (getElem_mem hl)
  have F7:=jr hq
  have Fg:0 <= ((av w h m).getD l (0,0)).1/\((av w h m).getD l (0,0)).1 < m:=by
   unfold ie at hq
   simp only[Bool.and_eq_true,decide_eq_true_eq]at hq
   omega
  generalize (av w h m).getD l (0,0)=q at *
  obtain⟨q1,q2⟩:=q
  dsimp only at b1 b2 he Fg F7 ⊢
  obtain⟨s,rfl⟩:∃ s:Nat,q1=(s:Int):=⟨q1.toNat,by omega⟩
  have Mg:e < m:=by omega
  obtain⟨a1,a2,a3⟩:=at' e g (some (l:Int)) Mg hg Bu
  refine⟨Mg,?_,?_,a1⟩
  ·rw[a2]
   exact decide_eq_true ⟨by show (e:Int) ≠ g;omega,rfl⟩
  ·rw[a2]
   have:=rise s g (by omega) hg (by omega) (by rw[b2,he];omega)
   rw[b2,he]at this
   rw[he]
   exact this
theorem Ar {ps:List Nat}{p b:Nat}:∀ g,ct ps p g=some b->par ps (b - 1)=p:=by
 intro g
 induction g using Nat.strongRecOn with
 | ind g ih =>
  intro h
  match g with
  | 0=>rw[i4]at h;cases h
  | g + 1 =>
   rw[eR]at h
   by_cases e:par ps g=p
   ·rw[if_pos e]at h;rw[← Option.some.inj h];exact e
   ·rw[if_neg e]at h;exact ih _ (by have:=du ps g;omega) h
theorem L3 {ps:List Nat}{p b:Nat}:∀ g,ct ps p g=some b->b ≠ g->ct ps b g ≠ none:=by
 intro g
 induction g using Nat.strongRecOn with
 | ind g ih =>
  intro h ne
  match g with
  | 0=>rw[i4]at h;cases h
  | g + 1 =>
   rw[eR]at h
   by_cases e:par ps g=p
   ·rw[if_pos e]at h;exact absurd (Option.some.inj h).symm ne
   ·rw[if_neg e]at h
    rw[eR]
    by_cases e2:par ps g=b
    ·rw[if_pos e2];intro z;cases z
    ·rw[if_neg e2]
     exact ih _ (by have:=du ps g;omega) h (fun z=>e2 z.symm)
noncomputable def qP (ps:List Nat)(p g:Nat)(_c:Option Int):Nat:=match ct ps p g with | none=>2 * (p - 1) | some b=>2 * (b - 1) + 1
theorem wV (ps:List Nat)(p g:Nat)(c:Option Int):sO ps p g=bS (qP ps) p g c:=by
 unfold sO bS qP
 split
 ·rfl
 ·cases ct ps p g<;>rfl
noncomputable def vO (l:Nat):Int:=if l % 2=0 then 50 - (l / 2:Nat) else 100 + (l / 2:Nat)
noncomputable def BT (ps:List Nat)(l g:Nat):Bool:=if l % 2=0 then decide (ct ps (l / 2 + 1) g=none/\l / 2 + 1 ≠ g) else decide (ct ps (par ps (l / 2)) g=some (l / 2 + 1))
theorem jZ {ps:List Nat}{p g:Nat}(c:Option Int)(hp:p <= ps.length)(hg:g <= ps.length)(ne:p ≠ g):qP ps p g c < 2 * ps.length/\BT ps (qP ps p g c) g=true/\((qP ps p g c=2 * (p - 1)/\1 <= p)∨∃ b,ct ps p g=some b/\qP ps p g c=2 * (b - 1) + 1/\p < b):=by
 unfold qP
 cases h:ct ps p g with
 | none =>
  have h0:p ≠ 0:=fun z=>by
   subst z
   exact iy ps g (Ne.symm ne) h
  dsimp only
  refine⟨by omega,?_, .inl ⟨rfl,by omega⟩⟩
  unfold BT
  rw[if_pos (by omega),show 2 * (p - 1) / 2 + 1=p by omega]
  exact decide_eq_true ⟨h,ne⟩
 | some b =>
  have b1:=wB g h
  have b2:=Lq g h
  have b3:=Ar g h
  have b4:=du ps (b - 1)
  dsimp only
  refine⟨by omega,?_, .inr ⟨b,rfl,rfl,by omega⟩⟩
  unfold BT
  rw[if_neg (by omega),show(2 * (b - 1) + 1) / 2=b - 1 by omega,b3,show b - 1 + 1=b by omega]
  exact decide_eq_true h
theorem wX {ps:List Nat}(hP:E4 ps):Fr (bC (ps.length + 1) (bS (qP ps))) (bR ps ps.length) (ps.length + 1) ((List.range (bR ps ps.length).length).map vO) ((List.range (bR ps ps.length).length).map fun l=>Yd.Bk ((List.range (ps.length + 1)).filter fun g=>BT ps l g) 0):=by
 have hl:=cZ ps ps.length
 refine qM vO (BT ps) (fun p g hp hg ne=>(jZ none (by omega) (by omega) ne).2.1) (fun l g e E6 hg hb he Bu=>?_) (fun p g hp hg ne=>by rw[hl];exact(jZ none (by omega) (by omega) ne).1) (fun q hq=>by
  have:=jl hP ps.length (Nat.le_refl _) q hq
  rw[show((ps.length + 1:Nat):Int)=(ps.length:Int) + 1 by omega];exact this)
 rw[hl]at E6 ⊢
 obtain⟨k,hk⟩:∃ k,k=l / 2:=⟨_,rfl⟩
 have Ta:k < ps.length:=by omega
 obtain⟨t1,t2⟩:=oh ps Ta
 have hpar:=p4 hP Ta
 have Ql:=du ps k
 unfold BT at hb
 rw[← hk]at hb
 by_cases ev:l % 2=0
 ·rw[if_pos ev]at hb
  obtain⟨b1,b2⟩:=of_decide_eq_true hb
  rw[getD_eq_getElem?_getD,show l=2 * k by omega,t1]at he
  have he:(ps.getD k 0:Int)=(e:Int):=he
  have ee:e=par ps k:=by omega
  obtain⟨c1,c2,c3⟩:=jZ (some (l:Int)) (show e <= ps.length by omega) (show g <= ps.length by omega) Bu
  refine⟨by omega,c2,?_,c1⟩
  rcases c3 with ⟨c3,c4⟩ | ⟨b,_,c3,_⟩
  ·rw[c3]
   unfold vO
   rw[if_pos ev,if_pos (by omega),← hk,show 2 * (e - 1) / 2=e - 1 by omega]
   omega
  ·rw[c3]
   unfold vO
   rw[if_pos ev,if_neg (by omega)]
   omega
 ·rw[if_neg ev]at hb
  have hb:=of_decide_eq_true hb
  rw[getD_eq_getElem?_getD,show l=2 * k + 1 by omega,t2]at he
  have he:(k:Int) + 1=(e:Int):=he
  have ee:e=k + 1:=by omega
  obtain⟨c1,c2,c3⟩:=jZ (some (l:Int)) (show e <= ps.length by omega) (show g <= ps.length by omega) Bu
  refine⟨by omega,c2,?_,c1⟩
  have EC:=L3 g hb (by omega)
  rw[← ee]at EC
  rcases c3 with ⟨c3,c4⟩ | ⟨b,_,c3,c4⟩
  ·exfalso
   have c5:qP ps e g (some (l:Int))=2 * (e - 1):=c3
   unfold qP at c5
   cases h:ct ps e g with
   | none=>exact EC h
   | some b =>
    rw[h]at c5
    dsimp only at c5
    omega
  ·rw[c3]
   unfold vO
   rw[if_neg ev,if_neg (by omega),← hk,show(2 * (b - 1) + 1) / 2=b - 1 by omega]
   omega
theorem yE {wy:aX->Nat}{k:aX}(h:wl wy k=[]):wy k=0:=by
 refine eq_of_testBit_eq fun i=>?_
 rw[zero_testBit]
 cases hb:(wy k).testBit i with
 | false=>rfl
 | true =>
  have:i ∈ wl wy k:=(Bo (m:=wy k) (p:=i)).mpr hb
  rw[h]at this
  cases this
theorem start_iff {wy:aX->Nat}{p g:Nat}:cD wy p g=true↔wl wy [some (p:Int),some (g:Int),none] ≠ []:=by
 unfold cD
 rw[Bool.not_eq_true',decide_eq_false_iff_not]
 exact⟨fun h e=>h (yE e),fun h e=>h (cT e)⟩
theorem sV {wy:aX->Nat}{n p g:Nat}(h:A9 wy n)(hp:p < n)(hg:g < n):cD wy p g=decide (p ≠ g):=by
 rw[Bool.eq_iff_iff,start_iff,decide_eq_true_iff]
 rcases h p g none hp hg with ⟨e,h⟩ | ⟨e,z,h⟩
 ·rw[h];exact⟨fun z=>absurd rfl z,fun z=>absurd e z⟩
 ·rw[h];exact⟨fun _=>e,fun _ z=>by cases z⟩
theorem vR (p:Nat):∀ n,((List.range n).filter fun g=>decide (p ≠ g)).length=if p < n then n - 1 else n
 | 0=>rfl
 | n + 1=>by
  rw[range_succ,filter_append,length_append,vR p n]
  by_cases e:p=n
  ·subst e
   rw[if_neg (lt_irrefl _),if_pos (by omega),filter_cons_of_neg (by rw[decide_eq_true_iff];exact fun z=>z rfl)]
   rfl
  ·have e1:([n].filter fun g=>decide (p ≠ g))=[n]:=filter_cons_of_pos (p:=fun g=>decide (p ≠ g)) (l:=[]) (decide_eq_true e)
   rw[e1]
   by_cases h:p < n
   ·rw[if_pos h,if_pos (by omega)]
    show n - 1 + 1=n + 1 - 1
    omega
   ·rw[if_neg h,if_neg (by omega)]
    rfl
theorem xf {wy:aX->Nat}{n p:Nat}(h:A9 wy n)(hp:p < n):(aY wy p n).length=n - 1:=by
 unfold aY
 rw[length_map]
 have e:(List.range n).filter (fun g=>cD wy p g)=(List.range n).filter fun g=>decide (p ≠ g):=filter_congr fun g hg=>sV h hp (mem_range.mp hg)
 rw[e,vR,if_pos hp]
theorem jB {wy:aX->Nat}{n:Nat}(h:A9 wy n):∀ m,m <= n->(aN wy n m).length=m * (n - 1)
 | 0,_=>by simp[aN]
 | m + 1,hm=>by
  rw[dI,length_append,jB h m (by omega),xf h (by omega),succ_mul]
theorem El {wy:aX->Nat}{n m:Nat}{q:Int × Int}:q ∈ aN wy n m↔∃ p g:Nat,p < m/\g < n/\cD wy p g=true/\q=((p:Int),(g:Int)):=by
 unfold aN aY
 rw[mem_flatMap]
 constructor
 ·rintro⟨p,hp,hq⟩
  obtain⟨g,hg,rfl⟩:=mem_map.mp hq
  obtain⟨h1,h2⟩:=mem_filter.mp hg
  exact⟨p,g,mem_range.mp hp,mem_range.mp h1,h2,rfl⟩
 ·rintro⟨p,g,hp,hg,hs,rfl⟩
  exact⟨p,mem_range.mpr hp,mem_map.mpr ⟨g,mem_filter.mpr ⟨mem_range.mpr hg,hs⟩,rfl⟩⟩
theorem iS {wy:aX->Nat}{n:Nat}:∀ m,(aN wy n m).Pairwise yA
 | 0=>by simp[aN]
 | m + 1=>by
  rw[dI]
  refine pairwise_append.mpr ⟨iS m,?_,fun a ha b hb=>?_⟩
  ·unfold aY
   refine List.Pairwise.map _ (fun a b E9=>?_) (List.Pairwise.filter _ (pairwise_lt_range (n:=n)))
   exact .inr ⟨rfl,by show (a:Int) < (b:Int);omega⟩
  ·obtain⟨p,g,hp,_,_,rfl⟩:=El.mp ha
   unfold aY at hb
   obtain⟨g',_,rfl⟩:=mem_map.mp hb
   exact .inl (by show (p:Int) < (m:Int);omega)
theorem rQ:∀ {a b:List (Int × Int)},a.Pairwise yA->b.Pairwise yA->(∀ q,q ∈ a↔q ∈ b)->a=b
 | [],[],_,_,_=>rfl
 | [],y :: b,_,_,h=>by have:=(h y).mpr mem_cons_self;cases this
 | x :: a,[],_,_,h=>by have:=(h x).mp mem_cons_self;cases this
 | x :: a,y :: b,ha,hb,h=>by
  have Qt:∀ {p q:Int × Int},yA p q->yA q p->False:=fun {p q} h1 h2=>by unfold yA at h1 h2;omega
  obtain⟨G8,JU⟩:=pairwise_cons.mp ha
  obtain⟨Il,hb2⟩:=pairwise_cons.mp hb
  have e:x=y:=by
   rcases mem_cons.mp ((h x).mp mem_cons_self) with e | hx
   ·exact e
   ·rcases mem_cons.mp ((h y).mpr mem_cons_self) with e | hy
    ·exact e.symm
    ·exact(Qt (Il x hx) (G8 y hy)).elim
  subst e
  congr 1
  refine rQ JU hb2 fun q=>⟨fun hq=>?_,fun hq=>?_⟩
  ·rcases mem_cons.mp ((h q).mp (mem_cons_of_mem _ hq)) with e | hx
   ·subst e;exact(Qt (G8 q hq) (G8 q hq)).elim
   ·exact hx
  ·rcases mem_cons.mp ((h q).mpr (mem_cons_of_mem _ hq)) with e | hx
   ·subst e;exact(Qt (Il q hq) (Il q hq)).elim
   ·exact hx
theorem j3 {n:Nat}{es fs:Es}{g p:Nat}(f:g9 n es g fs):cp es fs p ≠ []↔p ≠ g/\dD fs p ≠ none:=by
 unfold cp
 cases h:dD fs p with
 | none=>exact⟨fun z=>absurd rfl z,fun z=>absurd rfl z.2⟩
 | some d =>
  dsimp only
  constructor
  ·intro Bu
   refine⟨fun e=>Bu ?_,fun z=>by cases z⟩
   subst e
   rw[f.g0]at h
   cases h
   unfold cn
   refine List.filter_eq_nil_iff.mpr fun k _=>?_
   unfold eA
   split
   ·simp
   ·simp
  ·rintro⟨Bu,_⟩ CD
   rcases f.up p d h with ⟨e,_⟩ | ⟨q,d',e,hq,he⟩
   ·exact Bu e
   ·obtain⟨k,hk,ek⟩:=getElem_of_mem he
    have:k ∈ cn es fs p d:=by
     unfold cn eU
     have eg:es.getD k (0,0)=(p,q):=by rw[getD_eq_getElem?_getD,getElem?_eq_getElem hk,ek];rfl
     refine mem_filter.mpr ⟨mem_filter.mpr ⟨mem_range.mpr hk,by rw[eg];exact decide_eq_true rfl⟩,?_⟩
     rw[eg]
     unfold eA
     rw[hq]
     exact decide_eq_true e.symm
    rw[CD]at this
    cases this
theorem lm {es fs:Es}{p k:Nat}(h:k ∈ cp es fs p):dD fs (es.getD k (0,0)).2 ≠ none:=by
 unfold cp at h
 split at h
 ·have:=(mem_filter.mp h).2
  unfold eA at this
  intro z
  rw[z]at this
  cases this
 ·cases h
noncomputable def fN (es:Es)(F:Nat->Es):Wf:=fun p g _=>cp es (F g) p
theorem dO (es:Es)(F:Nat->Es)(p g:Nat)(c:Option Int):(fN es F p g c).Pairwise (· < ·):=nS _ _ _
theorem L4 {es:Es}{F:Nat->Es}{n:Nat}:∀ k,∀ z ∈ wl (bC n (fN es F)) k,z < (es.map zp).length:=rC (dO es F) fun p g c _ _ z hz=>by rw[length_map];exact lZ hz
theorem lE {n:Nat}{es:Es}{F:Nat->Es}(hF:∀ g,g < n->g9 n es g (F g))(hL:AE n es):dC (bC n (fN es F)) (es.map zp) n=none:=by
 unfold dC
 rw[List.find?_eq_none]
 intro q hq hb
 obtain⟨h1,h2⟩:=Cg.mp hq
 have hg:=nE (gv _ _ n n (Nat.le_refl _)) h2
 have hm:=dB h2
 have key:∀ {z:Nat},kS (bC n (fN es F)) (es.map zp) n q.2 z->z < es.length/\dD (F q.2) (es.getD z (0,0)).2 ≠ none:=fun {z} hz =>
  sk (S:=fun z=>z < es.length/\dD (F q.2) (es.getD z (0,0)).2 ≠ none) (fun p hp z hz=>by
   rw[fZ (dO es F) hp hg]at hz
   exact⟨lZ hz,lm hz⟩) (fun l hl z hz=>by
   obtain⟨_,hz⟩:=qN hz
   rw[gA]at hz
   have AV:(es.getD l (0,0)).2 < n:=by
    rw[getD_eq_getElem?_getD,getElem?_eq_getElem hl.1]
    exact(hL _ (getElem_mem hl.1)).2
   have hz:z ∈ wl (bC n (fN es F)) [some (((es.getD l (0,0)).2:Nat):Int),some ((q.2:Nat):Int),some (l:Int)]:=hz
   rw[fZ (dO es F) AV hg]at hz
   exact⟨lZ hz,lm hz⟩) hz
 obtain⟨k1,k2⟩:=key hm
 unfold eW at hb
 rw[Bool.and_eq_true,Bool.not_eq_true',decide_eq_false_iff_not,isEmpty_iff]at hb
 obtain⟨Bu,CD⟩:=hb
 unfold bZ at CD
 rw[if_neg Bu,gA]at CD
 rw[gA]at Bu
 have AV:(es.getD q.1 (0,0)).2 < n:=by
  rw[getD_eq_getElem?_getD,getElem?_eq_getElem k1]
  exact(hL _ (getElem_mem k1)).2
 have CD:wl (bC n (fN es F)) [some (((es.getD q.1 (0,0)).2:Nat):Int),some ((q.2:Nat):Int),some (q.1:Int)]=[]:=CD
 rw[fZ (dO es F) AV hg]at CD
 have Bu:¬ (((es.getD q.1 (0,0)).2:Nat):Int)=(q.2:Int):=Bu
 exact(j3 (hF _ hg)).mpr ⟨by omega,k2⟩ CD
theorem tI {n:Nat}{es:Es}{F:Nat->Es}(hF:∀ g,g < n->g9 n es g (F g))(hL:AE n es):(∃ N,gc (bC n (fN es F)) (es.map zp) n = .BF N)∨∃ r,gc (bC n (fN es F)) (es.map zp) n = .ring r:=by
 have hk:=nk (bC n (fN es F)) (es.map zp) n
 cases hr:gc (bC n (fN es F)) (es.map zp) n with
 | BF N=>exact .inl ⟨N,rfl⟩
 | ring r=>exact .inr ⟨r,rfl⟩
 | CT q =>
  rw[hr]at hk
  cases hk with
  | CT h'=>rw[lE hF hL]at h';cases h'
theorem oR {n:Nat}{es:Es}{F:Nat->Es}(hF:∀ g,g < n->g9 n es g (F g)){q:Int × Int}:q ∈ aN (bC n (fN es F)) n n↔∃ p g:Nat,g < n/\p ≠ g/\dD (F g) p ≠ none/\q=((p:Int),(g:Int)):=by
 rw[El]
 constructor
 ·rintro⟨p,g,hp,hg,hs,rfl⟩
  have:=start_iff.mp hs
  rw[fZ (dO es F) hp hg]at this
  obtain⟨h1,h2⟩:=(j3 (hF g hg)).mp this
  exact⟨p,g,hg,h1,h2,rfl⟩
 ·rintro⟨p,g,hg,h1,h2,rfl⟩
  have hp:p < n:=by
   cases h:dD (F g) p with
   | none=>exact absurd h h2
   | some d=>exact(hF g hg).lt _ (dM h)
  refine⟨p,g,hp,hg,start_iff.mpr ?_,rfl⟩
  rw[fZ (dO es F) hp hg]
  exact(j3 (hF g hg)).mpr ⟨h1,h2⟩
noncomputable def gN (fd:List Nat)(e:Nat × Nat):List Nat:=if e.2 ∈ fd/\e.1 ∉ fd then fd ++ [e.1] else fd
noncomputable def Qu (es:Es)(fd:List Nat):List Nat:=es.foldl gN fd
noncomputable def ed (es:Es)(g:Nat):Nat->List Nat
 | 0=>[g]
 | k + 1=>Qu es (ed es g k)
structure Rc (n:Nat)(es fs:Es)(k:Nat)(pre:Es)(fd:List Nat):Prop where
 nd:fd.Nodup
 ok:∀ p ∈ fd,dD fs p ≠ none
 al:∀ p d,dD fs p=some d->d <= k->p ∈ fd
 nw:∀ p d q,dD fs p=some d->d <= k + 1->(p,q) ∈ pre->(∃ d',dD fs q=some d'/\d' <= k)->p ∈ fd
theorem Rc.step {n:Nat}{es:Es}{g:Nat}{fs:Es}(f:g9 n es g fs){k:Nat}{pre:Es}{fd:List Nat}{e:Nat × Nat}(r:Rc n es fs k pre fd)(he:e ∈ es):Rc n es fs k (pre ++ [e]) (gN fd e):=by
 obtain⟨s,q⟩:=e
 unfold gN
 dsimp only
 by_cases c:q ∈ fd/\s ∉ fd
 ·rw[if_pos c]
  have hs:dD fs s ≠ none:=by
   cases h:dD fs q with
   | none=>exact absurd h (r.ok q c.1)
   | some d =>
    obtain⟨d',h',_⟩:=f.cl s q d he h
    rw[h']
    intro z
    cases z
  refine⟨?_,fun p hp=>?_,fun p d h1 h2=>mem_append_left _ (r.al p d h1 h2),fun p d q' h1 h2 h3 h4=>?_⟩
  ·refine nodup_append.mpr ⟨r.nd,pairwise_singleton _ _,fun a ha b hb=>?_⟩
   rw[mem_singleton]at hb
   subst hb
   exact fun z=>c.2 (z ▸ ha)
  ·rcases mem_append.mp hp with hp | hp
   ·exact r.ok p hp
   ·rw[mem_singleton]at hp;subst hp;exact hs
  ·rcases mem_append.mp h3 with h3 | h3
   ·exact mem_append_left _ (r.nw p d q' h1 h2 h3 h4)
   ·rw[mem_singleton]at h3
    cases h3
    exact mem_append_right _ mem_cons_self
 ·rw[if_neg c]
  refine⟨r.nd,r.ok,r.al,fun p d q' h1 h2 h3 h4=>?_⟩
  rcases mem_append.mp h3 with h3 | h3
  ·exact r.nw p d q' h1 h2 h3 h4
  ·rw[mem_singleton]at h3
   cases h3
   obtain⟨d',h5,h6⟩:=h4
   have hq:=r.al _ d' h5 h6
   by_cases hs:s ∈ fd
   ·exact hs
   ·exact absurd ⟨hq,hs⟩ c
theorem Rc.fold {n:Nat}{es:Es}{g:Nat}{fs:Es}(f:g9 n es g fs){k:Nat}:∀ (l pre:Es){fd:List Nat},(∀ e ∈ l,e ∈ es)->Rc n es fs k pre fd->Rc n es fs k (pre ++ l) (l.foldl gN fd)
 | [],pre,fd,_,r=>by rw[append_nil];exact r
 | e :: l,pre,fd,h,r=>by
  have:=Rc.fold f l (pre ++ [e]) (fun x hx=>h x (mem_cons_of_mem _ hx)) (r.step f (h e mem_cons_self))
  rw[append_assoc]at this
  exact this
theorem jI {n:Nat}{es:Es}{g:Nat}{fs:Es}(f:g9 n es g fs):∀ k,Rc n es fs k [] (ed es g k)
 | 0=>by
  refine⟨pairwise_singleton _ _,fun p hp=>?_,fun p d h1 h2=>?_,fun _ _ _ _ _ h=>by cases h⟩
  ·rw[ed,mem_singleton]at hp
   subst hp
   rw[f.g0]
   intro z;cases z
  ·rcases f.up p d h1 with ⟨e,_⟩ | ⟨q,d',e,_⟩
   ·subst e;exact mem_cons_self
   ·omega
 | k + 1=>by
  have r:=Rc.fold f es [] (fun e he=>he) (jI f k)
  rw[nil_append]at r
  refine⟨r.nd,r.ok,fun p d h1 h2=>?_,fun _ _ _ _ _ h=>by cases h⟩
  by_cases e:d <= k
  ·exact r.al p d h1 e
  ·rcases f.up p d h1 with ⟨_,e0⟩ | ⟨q,d',e1,hq,he⟩
   ·omega
   ·exact r.nw p d q h1 h2 he ⟨d',hq,by omega⟩
theorem rT {n:Nat}{es:Es}{g:Nat}{fs:Es}(f:g9 n es g fs){p:Nat}:p ∈ ed es g n↔dD fs p ≠ none:=by
 have r:=jI f n
 refine⟨r.ok p,fun h=>?_⟩
 cases hp:dD fs p with
 | none=>exact absurd hp h
 | some d=>exact r.al p d hp (Nat.le_of_lt (f.By p d hp))
theorem zm {n:Nat}{es:Es}{g:Nat}{fs:Es}(f:g9 n es g fs)(k:Nat):(ed es g k).length <= n:=by
 have r:=jI f k
 exact cI n _ r.nd fun p hp=>by
  cases h:dD fs p with
  | none=>exact absurd h (r.ok p hp)
  | some d=>exact f.lt _ (dM h)
theorem nA {H H':Hp}{D:Addr}{o:HO}(s:AI H H')(hn:H D=none)(h:H' D=some o):∃ Qv,AI H Qv/\Qv D=none/\aw Qv D o=H':=by
 refine⟨fun a=>if a=D then none else H' a,fun b u hb=>?_,if_pos rfl,?_⟩
 ·have:b ≠ D:=fun e=>by rw[e,hn]at hb;cases hb
  show(if b=D then none else H' b)=_
  rw[if_neg this]
  exact s b u hb
 ·funext a
  unfold aw
  by_cases e:a=D
  ·subst e;simp[h]
  ·simp[e]
theorem jt {n:Nat}{f:Wf}(hf:∀ p g c,(f p g c).Pairwise (· < ·)){p g:Nat}{c:Option Int}(hp:p < n)(hg:g < n):cJ (bC n f [some (p:Int),some (g:Int),c])=nV (f p g c):=by
 rw[ju,fZ hf hp hg]
noncomputable def JR (c:Cs)(ts:Ts):eE:=fun H x n wy=>∃ (dx lx AN lt:Addr)(AK:List V)(w h:Int),uk H ts x dx (.ref lx) w/\bv H c lx AN lt (w * h) AK (av w h n)/\pO w h n/\wy=bC n (bS (y8 w h n))
noncomputable def JL (ts:Ts):eE:=fun H x n wy=>∃ (dx:Addr)(lv:V),kT H ts x dx lv (n:Int)/\wy=bC n (bS (vL n))
noncomputable def JT (ts:Ts):eE:=fun H x n wy=>∃ (dx:Addr)(lv:V)(t:Addr)(ps:List Nat),wL H ts x dx lv t ps/\E4 ps/\n=ps.length + 1/\wy=bC n (bS (qP ps))
noncomputable def JN (P:Program)(w:World)(ts:Ts):eE:=fun H x n wy=>∃ (dx lx de:Addr)(kvs:List eZ)(es:Es)(F:Nat->Es),ul P w H ts x dx lx de kvs/\r8 n es kvs n/\es.length <= 100/\(∀ g,g < n->g9 n es g (F g))/\wy=bC n (fN es F)
theorem rj {n:Nat}{es:Es}{g:Nat}{fs Bh:Es}(f:g9 n es g fs)(f':g9 n es g Bh):∀ (d p:Nat),dD fs p=some d->∃ d',dD Bh p=some d'/\d' <= d:=by
 intro d
 induction d with
 | zero =>
  intro p h
  rcases f.up p 0 h with ⟨e,_⟩ | ⟨q,d',e,_⟩
  ·subst e;exact⟨0,f'.g0,Nat.le_refl _⟩
  ·omega
 | succ d ih =>
  intro p h
  rcases f.up p (d + 1) h with ⟨e,e2⟩ | ⟨q,d',e,hq,he⟩
  ·omega
  ·have e:d' = d:=by omega
   subst e
   obtain⟨d2,h2,l2⟩:=ih q hq
   obtain⟨d3,h3,l3⟩:=f'.cl p q d2 he h2
   exact⟨d3,h3,by omega⟩
theorem Al {n:Nat}{es:Es}{g:Nat}{fs Bh:Es}(f:g9 n es g fs)(f':g9 n es g Bh):dD fs=dD Bh:=by
 funext p
 cases h:dD fs p with
 | none =>
  cases h':dD Bh p with
  | none=>rfl
  | some d =>
   obtain⟨d',h2,_⟩:=rj f' f d p h'
   rw[h]at h2;cases h2
 | some d =>
  obtain⟨d',h2,l2⟩:=rj f f' d p h
  obtain⟨d3,h3,l3⟩:=rj f' f d' p h2
  rw[h]at h3
  cases h3
  rw[h2]
  congr 1
  omega
theorem yf {n:Nat}{es:Es}{g:Nat}{fs Bh:Es}(f:g9 n es g fs)(f':g9 n es g Bh)(p:Nat):cp es fs p=cp es Bh p:=by
 have e:=Al f f'
 have e2:eA fs=eA Bh:=by funext d q;unfold eA;rw[e]
 unfold cp
 rw[e]
 unfold cn
 rw[e2]
section
variable {P:Program}{w:World}{K:Frag}{mg:Str->Option Value}{base:Heap}{f:Addr}{fd:FuncData}{c:Cs}{ts:Ts}{k:Nat}
theorem L5 (h:AJ P w K mg base aC k f fd ["self", "place", "goal", "came"] (rG c ts)):AJ P w K mg base aC k f fd ["self", "place", "goal", "came"] (cu (JR c ts)) :=
 h.imp fun vs H Q E ⟨x,n,wy,r,e,⟨dx,lx,AN,lt,AK,a,b,h1,h2,G,ew⟩,hp,hg,q⟩=>by
  subst e ew
  obtain⟨rp,rg,rc,rs⟩:=r
  dsimp only at hp hg q ⊢
  obtain⟨p,rfl⟩:∃ p:Nat,rp=(p:Int):=⟨rp.toNat,by omega⟩
  obtain⟨g,rfl⟩:∃ g:Nat,rg=(g:Int):=⟨rg.toNat,by omega⟩
  refine⟨x,dx,lx,AN,lt,AK,a,b,n,p,g,cV rc,rfl,h1,h2,G,by omega,by omega,fun D H' s hn hD=>?_⟩
  obtain⟨H2,s2,n2,rfl⟩:=nA s hn hD
  have e:(uv a b n p g).map V.int=cJ (bC n (bS (y8 a b n)) (cM ⟨(p:Int),(g:Int),rc,rs⟩)):=by
   show _=cJ (bC n (bS (y8 a b n)) [some (p:Int),some (g:Int),rc.map fun k:Nat=>(k:Int)])
   rw[jt (bL _) (by omega) (by omega)]
   unfold uv bS
   split<;>rfl
  rw[e]
  exact q H2 D s2 n2
theorem L6 (h:AJ P w K mg base aC k f fd ["self", "place", "goal", "came"] (rJ ts)):AJ P w K mg base aC k f fd ["self", "place", "goal", "came"] (cu (JL ts)) :=
 h.imp fun vs H Q E ⟨x,n,wy,r,e,⟨dx,lv,h1,ew⟩,hp,hg,q⟩=>by
  subst e ew
  obtain⟨rp,rg,rc,rs⟩:=r
  dsimp only at hp hg q ⊢
  obtain⟨p,rfl⟩:∃ p:Nat,rp=(p:Int):=⟨rp.toNat,by omega⟩
  obtain⟨g,rfl⟩:∃ g:Nat,rg=(g:Int):=⟨rg.toNat,by omega⟩
  refine⟨x,dx,lv,n,p,g,rc.map fun k:Nat=>(k:Int),by cases rc<;>rfl,h1,fun D hD=>?_⟩
  have e:(fg (n:Int) p g (rc.map fun k:Nat=>(k:Int))).map V.int=cJ (bC n (bS (vL n)) (cM ⟨(p:Int),(g:Int),rc,rs⟩)):=by
   show _=cJ (bC n (bS (vL n)) [some (p:Int),some (g:Int),rc.map fun k:Nat=>(k:Int)])
   rw[jt (bL _) (by omega) (by omega)]
   unfold fg bS vL
   by_cases e:p=g
   ·rw[if_pos e,if_pos (by omega)];rfl
   ·rw[if_neg e,if_neg (by omega)]
    cases rc with
    | none=>rfl
    | some k =>
     show List.map V.int (if (n:Int) - 1 <= (k:Int) then _ else _)=nV [if (n:Int) - 1 <= (k:Int) then _ else _]
     split
     ·show [V.int ((n:Int) + p)]=[V.int ((n + p:Nat):Int)]
      rw[natCast_add]
     ·rfl
  rw[e]
  exact q H D (AI.refl H) hD
theorem L7 (h:AJ P w K mg base aC k f fd ["self", "place", "goal", "came"] (rF ts)):AJ P w K mg base aC k f fd ["self", "place", "goal", "came"] (cu (JT ts)) :=
 h.imp fun vs H Q E ⟨x,n,wy,r,e,⟨dx,lv,t,ps,h1,hP,en,ew⟩,hp,hg,q⟩=>by
  subst e ew
  obtain⟨rp,rg,rc,rs⟩:=r
  dsimp only at hp hg q ⊢
  obtain⟨p,rfl⟩:∃ p:Nat,rp=(p:Int):=⟨rp.toNat,by omega⟩
  obtain⟨g,rfl⟩:∃ g:Nat,rg=(g:Int):=⟨rg.toNat,by omega⟩
  refine⟨x,dx,lv,t,ps,p,g,cV rc,rfl,h1,hP,by omega,by omega,fun D H' s hn hD=>?_⟩
  obtain⟨H2,s2,n2,rfl⟩:=nA s hn hD
  have e:nV (sO ps p g)=cJ (bC n (bS (qP ps)) (cM ⟨(p:Int),(g:Int),rc,rs⟩)):=by
   show _=cJ (bC n (bS (qP ps)) [some (p:Int),some (g:Int),rc.map fun k:Nat=>(k:Int)])
   rw[jt (bL _) (by omega) (by omega),wV]
  rw[e]
  exact q H2 D s2 n2
theorem L8 (h:AJ P w K mg base aC k f fd ["self", "place", "goal", "came"] (rH P w ts)):AJ P w K mg base aC k f fd ["self", "place", "goal", "came"] (cu (JN P w ts)) :=
 h.imp fun vs H Q E ⟨x,n,wy,r,e,⟨dx,lx,de,kvs,es,F,h1,h2,h3,hF,ew⟩,hp,hg,q⟩=>by
  subst e ew
  obtain⟨rp,rg,rc,rs⟩:=r
  dsimp only at hp hg q ⊢
  obtain⟨p,rfl⟩:∃ p:Nat,rp=(p:Int):=⟨rp.toNat,by omega⟩
  obtain⟨g,rfl⟩:∃ g:Nat,rg=(g:Int):=⟨rg.toNat,by omega⟩
  refine⟨x,dx,lx,de,kvs,n,es,p,g,cV rc,rfl,h1,h2,by omega,h3,fun fs S4 D H' s hn hD=>?_⟩
  obtain⟨H2,s2,n2,rfl⟩:=nA s hn hD
  have e:nV (cp es fs p)=cJ (bC n (fN es F) (cM ⟨(p:Int),(g:Int),rc,rs⟩)):=by
   show _=cJ (bC n (fN es F) [some (p:Int),some (g:Int),rc.map fun k:Nat=>(k:Int)])
   rw[jt (dO es F) (by omega) (by omega)]
   show _=nV (cp es (F g) p)
   rw[yf S4 (hF g (by omega))]
  rw[e]
  exact q H2 D s2 n2
theorem cW {H H':Hp}{lx AN lt:Addr}{n:Int}{AK:List V}{ps:List (Int × Int)}(h:bv H c lx AN lt n AK ps)(s:AI H H'):bv H' c lx AN lt n AK ps:=⟨s _ _ h.1,s _ _ h.2.1,AX.same s h.2.2⟩
theorem W_R (cl:C8 K ts.rf)(m:g8 K ts.rf "ways" f)(b:Binds K fd ["self", "place", "goal", "came"] []):gy K ts.rf f fd (JR c ts) :=
 ⟨cl,m,b,fun H x n wy AL=>by obtain⟨dx,lx,AN,lt,AK,a,b,h1,_⟩:=AL;exact⟨dx,_,h1,rfl⟩,fun H H' x n wy ⟨dx,lx,AN,lt,AK,a,b,h1,h2,h3,h4⟩ s=>⟨dx,lx,AN,lt,AK,a,b,s _ _ h1,cW h2 s,h3,h4⟩⟩
theorem W_L (cl:C8 K ts.loop)(m:g8 K ts.loop "ways" f)(b:Binds K fd ["self", "place", "goal", "came"] []):gy K ts.loop f fd (JL ts) :=
 ⟨cl,m,b,fun H x n wy AL=>by obtain⟨dx,lv,h1,_⟩:=AL;exact⟨dx,_,h1,rfl⟩,fun H H' x n wy ⟨dx,lv,h1,h2⟩ s=>⟨dx,lv,s _ _ h1,h2⟩⟩
theorem W_T (cl:C8 K ts.tree)(m:g8 K ts.tree "ways" f)(b:Binds K fd ["self", "place", "goal", "came"] []):gy K ts.tree f fd (JT ts) :=
 ⟨cl,m,b,fun H x n wy AL=>by obtain⟨dx,lv,t,ps,h1,_⟩:=AL;exact⟨dx,_,h1.1,rfl⟩,fun H H' x n wy ⟨dx,lv,t,ps,h1,h2⟩ s=>⟨dx,lv,t,ps,⟨s _ _ h1.1,s _ _ h1.2⟩,h2⟩⟩
theorem W_N (cl:C8 K ts.near)(m:g8 K ts.near "ways" f)(b:Binds K fd ["self", "place", "goal", "came"] []):gy K ts.near f fd (JN P w ts) :=
 ⟨cl,m,b,fun H x n wy AL=>by obtain⟨dx,lx,de,kvs,es,F,h1,_⟩:=AL;exact⟨dx,_,h1.1,rfl⟩,fun H H' x n wy ⟨dx,lx,de,kvs,es,F,h1,h2⟩ s=>⟨dx,lx,de,kvs,es,F,⟨s _ _ h1.1,h1.2.same s⟩,h2⟩⟩
end
structure AD (n:Nat)(ps:List (Int × Int))(wy:aX->Nat):Prop where
 sg:A9 wy n
 fr:∃ nums S,Fr wy ps n nums S
theorem L9 {c:Cs}{ts:Ts}{H:Hp}{x dx lx AN lt:Addr}{AK:List V}{w h:Int}{m:Nat}(G:pO w h m)(h1:uk H ts x dx (.ref lx) w)(h2:bv H c lx AN lt (w * h) AK (av w h m)) :
  Bc c ts.rf (JR c ts) H x lx AN lt m AK (av w h m) (bC m (bS (y8 w h m)))/\AD m (av w h m) (bC m (bS (y8 w h m))):=by
 refine⟨⟨⟨dx,lx,AN,lt,AK,w,h,h1,h2,G,rfl⟩,⟨dx,_,h1,rfl⟩,by rw[← G.wh];exact h2,G.FP,G.By,rC (bL _) fun p g c hp hg z hz=>?_,lY (bL _) fun p g c _ _=>ng _ p g c,G.good⟩,nc _ _,_,_,zj G⟩
 unfold bS at hz
 split at hz
 ·cases hz
 ·next ne =>
  obtain rfl:=mem_singleton.mp hz
  rcases G.at_ p g hp hg with ⟨e,_⟩ | ⟨_,_,hm,_⟩
  ·exact absurd e ne
  ·exact idxOf_lt_length_of_mem hm
theorem LA {c:Cs}{ts:Ts}{H:Hp}{x dx lx AN lt:Addr}{AK:List V}{m:Nat}(m2:2 <= m)(FP:m <= 12)(h1:kT H ts x dx (.ref lx) (m:Int))(h2:bv H c lx AN lt (m:Int) AK (bJ m ++ bJ m)) :
  Bc c ts.loop (JL ts) H x lx AN lt m AK (bJ m ++ bJ m) (bC m (bS (vL m)))/\AD m (bJ m ++ bJ m) (bC m (bS (vL m))):=by
 have hl:(bJ m ++ bJ m).length=2 * m:=by rw[length_append,dF];omega
 refine⟨⟨⟨dx,_,h1,rfl⟩,⟨dx,_,h1,rfl⟩,h2,FP,by omega,rC (bL _) fun p g c hp hg z hz=>?_,lY (bL _) fun p g c _ _=>ng _ p g c,nB m2⟩,nc _ _,_,_,xY m2⟩
 unfold bS at hz
 split at hz
 ·cases hz
 ·obtain rfl:=mem_singleton.mp hz
  rw[hl]
  unfold vL
  cases c with
  | none=>show p < 2 * m;omega
  | some k =>
   show(if (m:Int) - 1 <= k then m + p else p) < 2 * m
   by_cases e:(m:Int) - 1 <= k
   ·rw[if_pos e];omega
   ·rw[if_neg e];omega
theorem LB {c:Cs}{ts:Ts}{H:Hp}{x dx lx AN lt t:Addr}{AK:List V}{ps:List Nat}(hP:E4 ps)(h1:wL H ts x dx (.ref lx) t ps)(h2:bv H c lx AN lt ((ps.length:Int) + 1) AK (bR ps ps.length)) :
  Bc c ts.tree (JT ts) H x lx AN lt (ps.length + 1) AK (bR ps ps.length) (bC (ps.length + 1) (bS (qP ps)))/\AD (ps.length + 1) (bR ps ps.length) (bC (ps.length + 1) (bS (qP ps))):=by
 have h11:=hP.1
 have hl:=cZ ps ps.length
 refine⟨⟨⟨dx,_,t,ps,h1,hP,rfl,rfl⟩,⟨dx,_,h1.1,rfl⟩,by rw[natCast_add];exact h2,by omega,by omega,rC (bL _) fun p g c hp hg z hz=>?_,lY (bL _) fun p g c _ _=>ng _ p g c,fun q hq=>by
  have:=jl hP ps.length (Nat.le_refl _) q hq
  rw[natCast_add];exact this⟩,nc _ _,_,_,wX hP⟩
 unfold bS at hz
 split at hz
 ·cases hz
 ·next ne =>
  obtain rfl:=mem_singleton.mp hz
  rw[hl]
  exact(jZ c (by omega) (by omega) ne).1
theorem LC {P:Program}{w:World}{c:Cs}{ts:Ts}{H:Hp}{x dx lx AN lt de:Addr}{AK:List V}{n:Nat}{es:Es}{kvs:List eZ}(CB:n <= 12)(hE:es.length <= 40)(hL:AE n es)(hk:∀ q ∈ es.map zp,ie n q=true)(h1:ul P w H ts x dx lx de kvs)(h2:r8 n es kvs n)(h3:bv H c lx AN lt (n:Int) AK (es.map zp)) :
  ∃ F:Nat->Es,(∀ g,g < n->g9 n es g (F g))/\Bc c ts.near (JN P w ts) H x lx AN lt n AK (es.map zp) (bC n (fN es F)):=by
 have ex:∀ g,∃ fs,g < n->g9 n es g fs:=fun g=>by
  by_cases hg:g < n
  ·obtain⟨fs,h,_⟩:=h2.1 g hg
   exact⟨fs,fun _=>h⟩
  ·exact⟨[],fun h=>absurd h hg⟩
 refine⟨fun g=>(ex g).choose,fun g hg=>(ex g).choose_spec hg,⟨dx,lx,de,kvs,es,_,h1,h2,by omega,fun g hg=>(ex g).choose_spec hg,rfl⟩,⟨dx,_,h1.1,rfl⟩,h3,CB,by rw[length_map];exact hE,L4,lY (dO _ _) fun p g c _ _=>?_,hk⟩
 show(cp es _ p).length <= 40
 have:(cp es (ex g).choose p).length <= es.length:=by
  unfold cp
  split
  ·exact le_trans (length_filter_le _ _) (sd es p)
  ·exact zero_le _
 exact le_trans this hE
end K25
namespace L2
open PySem PySem.Spec PyProof.Rows
theorem vv {X:Cx}:fU X (binaryOp .FloorDiv) (rI (fun _ j=>0 < j/\j < 2 ^ 200) fun i j => .int (i / j)):=zG fun i j _ _ _ _ _ hc q=>by
 have h1:(0:Int) < j:=hc.1
 have h2:j < 2 ^ 200:=hc.2
 refine floordiv_int (by omega) (by rw[fdiv_eq_ediv_of_nonneg i (by omega)];exact q) (.inl (PyProof.noPylong_of_log2 ?_))
 have h3:j.natAbs < 2 ^ 200:=by omega
 have h4:j.natAbs ≠ 0:=by omega
 have:=(Nat.log2_lt h4).mpr h3
 omega
end L2
namespace K25
open PySem L2
variable {P:Program}{w:World}{K:Frag}{mg:Str->Option Value}{base:Heap}
noncomputable def qj (K:Frag):Sp:=fun vs H Q _=>∃ (a:Addr)(ns:List Int)(k:Nat),vs=[.ref a, .int k]/\AQ K H a (ns.map V.int)/\∀ d,Q (.int d) H
noncomputable def uD:Sp:=fun vs H Q _=>∃ (c k:Int),vs=[.int c, .int k]/\∀ d,0 <= d->d < 2147483647->Q (.int d) H
theorem yZ:ar ["_law_script", "_law_k"] ["_law_script", "_law_k"] (aj uV):=L2.Bl
theorem xO {f:Addr}{fd:FuncData}(F:Bj K "_law_cell_at" "_law_cell_at" uV f fd)(T:eX mg):AJ P w K mg base aC 1 f fd ["_law_script", "_law_k"] (qj K):=by
 refine F.ok yZ (fun vs H Q E h=>?_) (fun Bb A outer s H vs Q E hr h=>?_)
 ·obtain⟨a,ns,k,rfl,_⟩:=h
  rfl
 ·obtain⟨a,ns,k,rfl,hS,q⟩:=h
  refine⟨_,af (aL (ay gb (pv 1) (aE aD rfl T.len PySem.boot_len (aa (pv 0) ae)) (a9 _))
    (ag (ap (aU Bf (pv 0) (pv 1) (fun _ _=>rfl)))) aA) (ag (ap am)),?_⟩
  refine⟨_,rfl,_,rfl,a,_,rfl, .inl hS,_,_,rfl,rfl,_,rfl,?_⟩
  refine k9 (fun h=>?_) fun _=>q _
  have h':(k:Int) < ((ns.map V.int).length:Nat):=of_decide_eq_true h
  rw[length_map]at h'
  have hk:k < ns.length:=by omega
  exact⟨_,rfl,_,rfl,a,_,k,V.int ns[k],rfl,rfl,hS,aJ (by simp[hk]),q _⟩
theorem GI:ar ["_law_cell", "_law_k", "_law_number"] ["_law_cell", "_law_k"] (aj zf):=L2.Bl
theorem zO {f:Addr}{fd:FuncData}(F:Bj K "_law_mixed" "_law_mixed" zf f fd):AJ P w K mg base aC 1 f fd ["_law_cell", "_law_k"] uD:=by
 refine F.ok GI (fun vs H Q E h=>?_) (fun Bb A outer s H vs Q E hr h=>?_)
 ·obtain⟨c,k,rfl,_⟩:=h
  rfl
 ·obtain⟨c,k,rfl,q⟩:=h
  refine⟨_,af (au (i:=2) GI.nd rfl (Or.inl rfl) (az bF (az dv (az bA (az bA (az bF (pv 0) am) (az dv am (pv 1))) am) am) am))
   (ag (ap (az bF (az dv (pv 2) (az bA (az fS (pv 2) am) am)) am))),?_⟩
  have pos:(0:Int) < 2147483647:=by decide
  refine⟨_,rfl,_,_,rfl,rfl,pos,_,rfl,_,_,rfl,rfl, .inl ⟨by decide,by decide⟩,_,_,rfl,rfl,_,_,rfl,rfl,_,_,rfl,rfl, .inr ⟨by decide,by decide⟩,_,_,rfl,rfl,pos,?_⟩
  dsimp only
  have h1:=emod_nonneg ((c % 2147483647 + 7919 * k + 1) * 48271) (show (2147483647:Int) ≠ 0 by decide)
  have h2:=emod_lt_of_pos ((c % 2147483647 + 7919 * k + 1) * 48271) pos
  generalize (c % 2147483647 + 7919 * k + 1) * 48271 % 2147483647=m at h1 h2
  refine⟨_,rfl,_,rfl,_,_,rfl,rfl,⟨by decide,by decide⟩,_,_,rfl,rfl,_,_,rfl,rfl, .inl ⟨by omega,by omega⟩,_,_,rfl,rfl,pos,?_⟩
  exact q _ (emod_nonneg _ (by decide)) (emod_lt_of_pos _ pos)
noncomputable def yS:Sp:=fun vs H Q _=>∃ (c b:Int)(m:Nat),vs=[.int c, .int m, .int b]/\m <= 200/\0 < b/\b < 2 ^ 200/\∀ (D:Addr)(ds:List Int)(H':Hp),AI H H'->H D=none->H' D=some (.lst (ds.map V.int))->ds.length=m->Q (.ref D) H'
abbrev MM:List Str:=["_law_cell", "_law_amount", "_law_base"]
abbrev NDr:List Str:=["_law_cell", "_law_amount", "_law_base", "_law_drawn", "_law_rest", "_law_k", "_law_number"]
theorem E5:ar NDr MM (aj qD):=L2.Bl
theorem tR (ds:List Int)(i:Int):ds.map V.int ++ [V.int i]=(ds ++ [i]).map V.int:=by rw[map_append];rfl
theorem vH {f fm:Addr}{fd dm:FuncData}(F:Bj K "_law_draws" "_law_draws" qD f fd)(T:eX mg)
  (mm:mg "_law_mixed" = some (.ref fm)) (km:keepIn K (.ref fm)=true) (bm:Binds K dm ["_law_cell", "_law_k"] []) (Gm:AJ P w K mg base aC 1 fm dm ["_law_cell", "_law_k"] uD) :
  AJ P w K mg base aC 2 f fd MM yS:=by
 refine F.ok E5 (fun vs H Q E h=>?_) (fun Bb A outer s H vs Q E hr h=>?_)
 ·obtain⟨c,b,m,rfl,_⟩:=h
  rfl
 ·obtain⟨c,b,m,rfl,hm,Tb,Il,q⟩:=h
  refine⟨_,af (au (i:=3) E5.nd rfl (Or.inl rfl) (b8 ae))
   (af (au (i:=4) E5.nd rfl (Or.inl rfl) (az fS (pv 0) am))
   (af (aK PassesOwn.never rfl (aR rfl T.range (aa (pv 1) ae)) (ao (i:=5) E5.nd rfl (Or.inl rfl))
    (ag (aL (ay cH (az bF (pv 0) am) am (a9 _))
     (af (aT (cr plainAttrs_list PySem.F.slot_list_append PySem.F.type_list_append aS (pv 3) (aa (az bF (pv 4) (pv 2)) ae)))
      (ag (au (i:=4) E5.nd rfl (Or.inl rfl) (az vv (pv 4) (pv 2)))))
     (af (au (i:=6) E5.nd rfl (Or.inl rfl) (aq Gm hr rfl mm km bm .nil ax (aa (pv 4) (aa (pv 5) ae))))
      (ag (aT (cr plainAttrs_list PySem.F.slot_list_append PySem.F.type_list_append aS (pv 3) (aa (az bF (az dv (pv 6) (az bA (az fS (pv 6) am) am)) am) ae))))))))
   (ag (ap (pv 3))))),?_⟩
  refine⟨zero_le _,fun D hD=>?_⟩
  have s0:=(AI.refl H).new (o := .lst []) hD
  refine⟨_,rfl,_,_,rfl,rfl,⟨by decide,by decide⟩,?_⟩
  refine⟨_,rfl,(m:Int),rfl,by omega,by omega,?_⟩
  rw[toNat_natCast]
  refine aZ (n:=m) (fun i σ H2=>∃ (a5 a6:Option V)(r:Int)(ds:List Int),AI H H2/\H2 D=some (.lst (ds.map V.int))/\ds.length=i/\σ=[some (.int c),some (.int m),some (.int b),some (.ref D),some (.int r),a5,a6])
   ⟨none,none,_,[],s0,ad,rfl,rfl⟩ ?_ ?_
  ·rintro i σ H2 hi ⟨a5,a6,r,ds,s2,gD,hl,rfl⟩
   have Dy:(ds.map V.int).length < sizeLine:=by rw[length_map,sizeLine_eq];omega
   have put:∀ z:Int,AI H (aw H2 D (.lst (ds.map V.int ++ [.int z])))/\(aw H2 D (.lst (ds.map V.int ++ [.int z]))) D=some (.lst ((ds ++ [z]).map V.int))/\(ds ++ [z]).length=i + 1:=fun z =>
    ⟨fun a o e=>by rw[ai (ah e hD)];exact s2 _ _ e,by rw[ad,tR],by rw[length_append,hl];rfl⟩
   refine⟨_,rfl,_,_,rfl,rfl,(by decide:(0:Int) < 2),rfl,_,rfl,?_⟩
   refine k9 (fun _=>?_) fun _=>?_
   ·refine⟨_,rfl, .inl ⟨rfl,_,AQ.of gD⟩,_,rfl,_,rfl,_,_,rfl,rfl,Tb,D,_,_,rfl,rfl,gD,Dy,?_⟩
    refine⟨_,rfl,_,rfl,_,_,rfl,rfl,⟨Tb,Il⟩,?_⟩
    obtain⟨p1,p2,p3⟩:=put (r % b)
    exact⟨_,_,_,_,p1,p2,p3,rfl⟩
   ·refine⟨_,rfl,_,rfl,_,_,rfl,fun d h0 h1=>?_⟩
    refine⟨_,rfl, .inl ⟨rfl,_,AQ.of gD⟩,_,rfl,_,rfl,_,_,rfl,rfl,⟨by decide,by decide⟩,_,_,rfl,rfl,_,_,rfl,rfl, .inl ⟨by omega,by omega⟩,_,_,rfl,rfl,(by decide:(0:Int) < 2147483399),D,_,_,rfl,rfl,gD,Dy,?_⟩
    obtain⟨p1,p2,p3⟩:=put (d * (d / 613 + 40692) % 2147483399)
    exact⟨_,_,_,_,p1,p2,p3,rfl⟩
  ·rintro σ H2 ⟨a5,a6,r,ds,s2,gD,hl,rfl⟩
   exact⟨_,rfl,q D ds H2 s2 hD gD hl⟩
theorem vK {n a e:Int}(h1:0 <= a)(h2:a < n)(h3:0 <= e)(h4:e < n - 1):ie n (a,(a + 1 + e) % n)=true:=by
 have hb:(a + 1 + e) % n=if a + 1 + e < n then a + 1 + e else a + 1 + e - n:=by
  split
  ·exact emod_eq_of_lt (by omega) (by omega)
  ·rw[← Int.sub_emod_right,emod_eq_of_lt (by omega) (by omega)]
 unfold ie
 dsimp only
 rw[hb]
 simp only[Bool.and_eq_true,decide_eq_true_eq,Bool.not_eq_true',decide_eq_false_iff_not]
 by_cases h:a + 1 + e < n
 ·rw[if_pos h];omega
 ·rw[if_neg h];omega
theorem t0 {ps:List Nat}(hP:E4 ps):iZ (nV ps)=true:=by
 unfold iZ
 rw[aB,decide_eq_true (show ps.length < 12 by have:=hP.1;omega),Bool.true_and,all_eq_true]
 intro b hb
 obtain⟨i,hi,rfl⟩:=mem_map.mp hb
 have hi:=mem_range.mp hi
 have e:=getElem?_eq_getElem hi
 have h2:=hP.2 i _ e
 rw[getD_eq_getElem?_getD,bG e]
 show id (decide (0 <= ((ps[i]:Nat):Int)/\((ps[i]:Nat):Int) <= (i:Int)))=true
 exact decide_eq_true ⟨by omega,by omega⟩
theorem se {n:Nat}:∀ {ps:List (Int × Int)},(∀ q ∈ ps,ie n q=true)->∃ es:Es,ps=es.map zp/\AE n es
 | [],_=>⟨[],rfl,fun e he=>by cases he⟩
 | q :: ps,h=>by
  obtain⟨es,e,hl⟩:=se (ps:=ps) fun z hz=>h z (mem_cons_of_mem _ hz)
  have hq:=h q mem_cons_self
  unfold ie at hq
  simp only[Bool.and_eq_true,decide_eq_true_eq]at hq
  refine⟨(q.1.toNat,q.2.toNat) :: es,?_,fun z hz=>?_⟩
  ·rw[map_cons,← e]
   unfold zp
   congr 1
   exact Prod.ext (by show q.1=((q.1.toNat:Nat):Int);omega) (by show q.2=((q.2.toNat:Nat):Int);omega)
  ·rcases mem_cons.mp hz with rfl | hz
   ·exact⟨by show q.1.toNat < n;omega,by show q.2.toNat < n;omega⟩
   ·exact hl z hz
theorem qX {n:Nat}{ps:List (Int × Int)}(h1:1 <= n)(h12:n <= 12)(hl:ps.length <= 40)(AR:∀ q ∈ ps,ie n q=true):cQ (n:Int) ps = .good:=by
 unfold cQ
 rw[decide_eq_true (show (1:Int) <= (n:Int)/\(n:Int) <= 12 by omega),if_neg (by decide),if_neg (by omega),dG AR]
noncomputable def Nr (n:Nat)(ps:List (Int × Int))(wy:aX->Nat):Prop:=∃ (es:Es)(F:Nat->Es),ps=es.map zp/\(∀ g,g < n->g9 n es g (F g))/\AE n es/\wy=bC n (fN es F)
inductive um (P:Program)(w:World)(c:Cs)(ts:Ts)(H:Hp)(x lx AN lt:Addr)(n:Nat)(AK:List V)(ps:List (Int × Int))(wy:aX->Nat):Prop
 | r (h:Bc c ts.rf (JR c ts) H x lx AN lt n AK ps wy) (o:AD n ps wy):um P w c ts H x lx AN lt n AK ps wy
 | l (h:Bc c ts.loop (JL ts) H x lx AN lt n AK ps wy) (o:AD n ps wy):um P w c ts H x lx AN lt n AK ps wy
 | t (h:Bc c ts.tree (JT ts) H x lx AN lt n AK ps wy) (o:AD n ps wy):um P w c ts H x lx AN lt n AK ps wy
 | n (h:Bc c ts.near (JN P w ts) H x lx AN lt n AK ps wy) (o:Nr n ps wy):um P w c ts H x lx AN lt n AK ps wy
noncomputable def qi (P:Program)(w:World)(K:Frag)(c:Cs)(ts:Ts):Sp:=fun vs H Q _=>∃ (a:Addr)(ns:List Int),vs=[.ref a]/\AQ K H a (ns.map V.int)/\ns.length <= 63 /\
 ∀ (x lx AN lt:Addr)(n:Nat)(AK:List V)(ps:List (Int × Int))(wy:aX->Nat)(H':Hp),AI H H'->um P w c ts H' x lx AN lt n AK ps wy->Q (.ref x) H'
structure FLt (P:Program)(w:World)(K:Frag)(mg:Str->Option Value)(base:Heap)(c:Cs)(ts:Ts)(fc fz fd fr fl ft fn fi:Addr)(dc dz dd dr dl dt dn di:FuncData):Prop where
 mc:mg "_law_cell_at" = some (.ref fc)
 kc:keepIn K (.ref fc)=true
 bc:Binds K dc ["_law_script", "_law_k"] []
 Gc:AJ P w K mg base aC 1 fc dc ["_law_script", "_law_k"] (qj K)
 mz:mg "_law_sizes" = some (.ref fz)
 kz:keepIn K (.ref fz)=true
 bz:Binds K dz [] []
 Gz:AJ P w K mg base aC 1 fz dz [] m7
 md:mg "_law_draws" = some (.ref fd)
 kd:keepIn K (.ref fd)=true
 bd:Binds K dd MM []
 Gd:AJ P w K mg base aC 2 fd dd MM yS
 mr:mg "RowFirst" = some (.ref ts.rf)
 Mr:Mk K ts.rf fr
 br:Binds K dr ["self", "wide", "high"] []
 Gr:AJ P w K mg base aC 6 fr dr ["self", "wide", "high"] (yP c ts)
 ml:mg "Loop" = some (.ref ts.loop)
 Ml:Mk K ts.loop fl
 bl:Binds K dl ["self", "many"] []
 Gl:AJ P w K mg base aC 6 fl dl ["self", "many"] (qh c ts)
 mt:mg "Tree" = some (.ref ts.tree)
 Mt:Mk K ts.tree ft
 bt:Binds K dt ["self", "parents"] []
 Gt:AJ P w K mg base aC 6 ft dt ["self", "parents"] (qa K c ts)
 mn:mg "Nearer" = some (.ref ts.near)
 Mn:Mk K ts.near fn
 bn:Binds K dn ["self", "land"] []
 Gn:AJ P w K mg base aC 3 fn dn ["self", "land"] (qg P w c ts)
 mi:mg "Land" = some (.ref c.land)
 Mi:Mk K c.land fi
 bi:Binds K di ["self", "places", "lanes"] []
 Gi:AJ P w K mg base aC 4 fi di ["self", "places", "lanes"] (iA K c)
abbrev Tc:List Str:=["_law_script", "_law_cell", "_law_kind", "_law_sizes_here", "_law_wide", "_law_high", "_law_draws_here", "_law_k", "_law_places", "_law_lanes", "_law_draw"]
noncomputable def ifB (s:Stmt):List Stmt:=match s with
 | .If _ b _ _=>b
 | _=>[]
theorem Cw:ar Tc ["_law_script"] (aj oC):=L2.Bl
theorem Qw:BU Tc (aj oC) (rS ((ifB ((aP oC).getD 4 (.Pass ⟨0,0,0,0⟩))).getD 1 (.Pass ⟨0,0,0,0⟩))) ["_law_draws_here"] [6]:=L2.Ds
theorem Qx:(["_law_k", "_law_draws_here"]:List Str).Nodup:=by decide +kernel
theorem xI {c:Cs}{ts:Ts}{f fc fz fd fr fl ft fn fi:Addr}{df dc dz dd dr dl dt dn di:FuncData}(F:Bj K "_law_table" "_law_table" oC f df)(T:eX mg)(D:FLt P w K mg base c ts fc fz fd fr fl ft fn fi dc dz dd dr dl dt dn di) :
  AJ P w K mg base aC 8 f df ["_law_script"] (qi P w K c ts):=by
 refine F.ok Cw (fun vs H Q E h=>?_) (fun Bb A outer s H vs Q E hr h=>?_)
 ·obtain⟨a,ns,rfl,_⟩:=h
  rfl
 ·obtain⟨a,ns,rfl,hS,Td,q⟩:=h
  have Cn:AU 1 _:=hr.mono (by decide)
  have Cy:AU 2 _:=hr.mono (by decide)
  have Eb:AU 4 _:=hr.mono (by decide)
  have Hy:AU 5 _:=hr.mono (by decide)
  refine⟨_,(af (au (i:=1) Cw.nd rfl (Or.inl rfl) (aq D.Gc Cn rfl D.mc D.kc D.bc .nil ax (aa (pv 0) (aa am ae))))
   (af (au (i:=2) Cw.nd rfl (Or.inl rfl) (az bF (aq D.Gc Cn rfl D.mc D.kc D.bc .nil ax (aa (pv 0) (aa am ae))) am))
   (af (aL (ay cH (pv 2) am (a9 _))
    (af (au (i:=3) Cw.nd rfl (Or.inl rfl) (vk D.Gz Cn rfl D.mz D.kz D.bz .nil ax))
   (af (qG (aU Bf (pv 3) (az bF (pv 1) (aE aD rfl T.len PySem.boot_len (aa (pv 3) ae))) (fun _ _=>rfl)) (c7 rfl (aG (ao (i:=4) Cw.nd rfl (Or.inl rfl)) (aG (ao (i:=5) Cw.nd rfl (Or.inl rfl)) bW))))
   (ag (ap (dJ D.Mr D.Gr hr rfl D.mr D.br .nil ax (aa (pv 4) (aa (pv 5) ae)))))))
    aA)
   (af (aL (ay cH (pv 2) am (a9 _))
    (ag (ap (dJ D.Ml D.Gl hr rfl D.ml D.bl .nil ax (aa (az bA am (az bF (pv 1) am)) ae))))
    aA)
   (af (aL (ay cH (pv 2) am (a9 _))
    (af (au (i:=6) Cw.nd rfl (Or.inr rfl) (aq D.Gd Cy rfl D.md D.kd D.bd .nil ax (aa (az fS (pv 1) am) (aa (az bF (pv 1) am) (aa am ae)))))
   (ag (ap (dJ D.Mt D.Gt hr rfl D.mt D.bt .nil ax (aa (bX (own:=["_law_k"]) (capN:=["_law_draws_here"]) (cap:=[6]) Qw rfl (aR rfl T.range (aa (aE aD rfl T.len PySem.boot_len (aa (pv 6) ae)) ae)) (fun C s' H' fp=>⟨ao (i:=0) Qx rfl (Or.inl rfl),cx,az bF (aU (show D7 _ (xm K) from Bf) (pv 1) (pv 0) (fun _ _=>rfl)) (az bA (pv 0) am)⟩)) ae)))))
    aA)
   (af (au (i:=8) Cw.nd rfl (Or.inl rfl) (az bA am (az bF (pv 1) am)))
   (af (au (i:=9) Cw.nd rfl (Or.inl rfl) (b8 ae))
   (af (aK PassesOwn.never rfl (iC rfl T.range (aa am (aa (aE (uf rfl) rfl T.min PyProof.Rows.boot_min (aa (aE aD rfl T.len PySem.boot_len (aa (pv 0) ae)) (aa am ae))) ae))) (ao (i:=7) Cw.nd rfl (Or.inl rfl))
    (af (au (i:=10) Cw.nd rfl (Or.inl rfl) (aU Bf (aq D.Gd Cy rfl D.md D.kd D.bd .nil ax (aa (aU Bf (pv 0) (pv 7) (fun _ _=>rfl)) (aa am (aa (az zD am am) ae)))) am (fun _ _=>rfl)))
   (ag (aT (cr plainAttrs_list PySem.F.slot_list_append PySem.F.type_list_append aS (pv 9) (aa (bu (aa (az bF (pv 10) (pv 8)) (aa (az bF (az bA (az bA (az bF (pv 10) (pv 8)) am) (az bF (az fS (pv 10) (pv 8)) (az c8 (pv 8) am))) (pv 8)) ae))) ae))))))
   (ag (ap (dJ D.Mn D.Gn Eb rfl D.mn D.bn .nil ax (aa (dJ D.Mi D.Gi Hy rfl D.mi D.bi .nil ax (aa (pv 8) (aa (pv 9) ae))) ae)))))))))))),?_⟩
  refine⟨_,rfl,a,ns,1,rfl,hS,fun d1=>?_⟩
  refine⟨_,rfl,a,ns,0,rfl,hS,fun d0=>⟨_,_,rfl,rfl,(by show (0:Int) < 4;decide),?_⟩⟩
  refine⟨_,rfl,rfl,_,rfl,k9 (fun _=>?_) fun _=>?_⟩
  ·refine⟨rfl,fun Z FX H0 s0 hZ gZ Te=>?_⟩
   have zl:FX.length=35:=by rw[Paired.length Te,sU]
   obtain⟨j,hj,hj35⟩:∃ j:Nat,d1 % (FX.length:Int)=(j:Int)/\j < 35:=⟨(d1 % (FX.length:Int)).toNat,by rw[zl];omega,by rw[zl];omega⟩
   have Qy:FX[j]? = some (FX[j]'(by omega)):=getElem?_eq_getElem (by omega)
   obtain⟨wh,hwh,tz,ez,hz⟩:=AX.get Te Qy
   rw[ez]at Qy
   obtain⟨ww,hh⟩:=wh
   have AR:dA (ww,hh)=true:=all_eq_true.mp uH _ (mem_of_getElem? hwh)
   have G:=sy AR
   generalize hm:(ww * hh).toNat=m at G
   have g1:=G.w1
   have g2:=G.SJ
   have g3:=G.FP
   have g4:=G.m1
   refine⟨_,rfl,_,rfl,_,rfl,Z,_,rfl, .inl (AQ.of gZ),_,_,rfl,rfl,(by show (0:Int) < (FX.length:Int);rw[zl];decide),Z,FX,_,_,rfl,rfl,AQ.of gZ,(by show r6 FX (d1 % (FX.length:Int))=_;rw[hj];exact aJ Qy),?_⟩
   refine⟨tz,_,rfl,Ba.of hz,rfl,_,_,rfl,_,_,rfl,rfl,?_⟩
   refine⟨_,rfl,_,rfl,fun x dx nx Ez E2=>?_⟩
   have Ik:AI H0 (aw (aw H0 dx (.own x)) x (.ins ts.rf dx [])):=AI.new (AI.new (AI.refl H0) Ez) (by rw[ai (Ne.symm E2)];exact nx)
   refine⟨x,dx,ww,hh,rfl,ad, .inl ⟨by omega,by omega⟩,(fun Dx=>by rw[AR]at Dx;cases Dx),fun m' G' _ H1 lx AN lt AK off hx hL=>⟨rfl,?_⟩⟩
   obtain⟨h1,h2⟩:=L9 G' hx hL
   exact q x lx AN lt m' AK _ _ H1 (fun b o z=>off b o (ah (s0 _ _ z) nx) (Ik _ _ (s0 _ _ z))) (.r h1 h2)
  refine⟨_,rfl,rfl,_,rfl,k9 (fun _=>?_) fun _=>?_⟩
  ·refine⟨_,rfl,_,_,rfl,rfl,(by show (0:Int) < 11;decide),_,_,rfl,rfl,fun x dx nx Ez E2=>?_⟩
   have Ik:AI H (aw (aw H dx (.own x)) x (.ins ts.loop dx [])):=AI.new (AI.new (AI.refl H) Ez) (by rw[ai (Ne.symm E2)];exact nx)
   refine⟨x,dx,2 + d1 % 11,rfl,ad,(fun Dx=>by omega),fun m em m2 FP H1 lx AN lt AK off hx hL=>⟨rfl,?_⟩⟩
   rw[em]at hx hL
   obtain⟨h1,h2⟩:=LA (c:=c) m2 FP hx hL
   exact q x lx AN lt m AK _ _ H1 (fun b o z=>off b o (ah z nx) (Ik _ _ z)) (.l h1 h2)
  refine⟨_,rfl,rfl,_,rfl,k9 (fun _=>?_) fun _=>?_⟩
  ·obtain⟨m,hm,hm12⟩:∃ m:Nat,d1 % 12=(m:Int)/\m < 12:=⟨(d1 % 12).toNat,by omega,by omega⟩
   refine⟨_,rfl,_,_,rfl,rfl,⟨by decide,by decide⟩,_,rfl,_,_,rfl,rfl,(by show (0:Int) < 12;decide),d1 / 12,27720,m,congrArg (fun z=>[V.int (d1 / 12),V.int z,V.int 27720]) hm,by omega,by decide,by decide +kernel,fun Dr ds H1 s1 hDr Tf E7=>?_⟩
   refine⟨_,rfl,Dr,_,rfl, .inl (AQ.of Tf),_,rfl,by omega,by rw[length_map];omega,?_⟩
   refine bI (n:=m) (by rw[sizeLine_eq];omega) (fun i acc H5=>H5=H1/\∃ ps:List Nat,acc=nV ps/\ps.length=i/\∀ k p:Nat,ps[k]? = some p->p <= k) ⟨rfl,[],rfl,rfl,fun k p h=>by cases h⟩ (fun i acc H5 h=>?_) ?_ ?_
   ·obtain⟨_,ps,rfl,hl,_⟩:=h
    rw[aB];omega
   ·rintro i acc H5 hi ⟨rfl,ps,rfl,hl,hle⟩
    refine⟨(by show i < ((((ds.map V.int).length:Nat):Int)).toNat;rw[toNat_natCast,length_map,E7];exact hi),fun y H6 hy=>?_⟩
    obtain⟨rfl,rfl⟩:=hy
    have HX:i < ds.length:=by omega
    have ei:(0:Int) + (i:Int)=(i:Int):=by omega
    rw[ei]
    refine⟨_,rfl,_,rfl,Dr,_,_,V.int ds[i],rfl,rfl,AQ.of Tf,aJ (by simp[HX]),_,rfl,_,_,rfl,rfl,_,_,rfl,rfl,(by show (0:Int) < (i:Int) + 1;omega),rfl,ps ++ [(ds[i] % ((i:Int) + 1)).toNat],?_,by rw[length_append,hl];rfl,fun k p hk=>?_⟩
    ·have e1:=emod_nonneg ds[i] (show (i:Int) + 1 ≠ 0 by omega)
     unfold nV
     rw[map_append]
     show _=_ ++ [V.int (((ds[i] % ((i:Int) + 1)).toNat:Nat):Int)]
     rw[toNat_of_nonneg e1]
    ·by_cases c1:k < ps.length
     ·rw[getElem?_append_left c1]at hk
      exact hle k p hk
     ·rw[getElem?_append_right (by omega)]at hk
      have hk0:k - ps.length=0:=by
       obtain⟨h',_⟩:=List.getElem?_eq_some_iff.mp hk
       simp at h'
       omega
      rw[hk0]at hk
      have:=Option.some.inj hk
      have e2:=emod_lt_of_pos ds[i] (show 0 < (i:Int) + 1 by omega)
      omega
   ·rintro acc H5 ⟨rfl,ps,rfl,hl,hle⟩
    have hP:E4 ps:=⟨by omega,hle⟩
    refine⟨(by show((((ds.map V.int).length:Nat):Int)).toNat <= m;rw[toNat_natCast,length_map,E7];exact Nat.le_refl _),fun Li hLi=>?_⟩
    have u2:=(AI.refl H5).new (o := .lst (nV ps)) hLi
    have Tg:(aw H5 Li (.lst (nV ps))) Li=some (.lst (nV ps)):=ad
    generalize aw H5 Li (.lst (nV ps))=H2 at u2 Tg ⊢
    refine fun x dx nx Ez E2=>?_
    have Th:AI H2 (aw (aw H2 dx (.own x)) x (.ins ts.tree dx [])):=AI.new (AI.new (AI.refl H2) Ez) (by rw[ai (Ne.symm E2)];exact nx)
    refine⟨x,dx,Li,nV ps,rfl,ad,AQ.of (Th _ _ Tg),(fun v hv=>by
     unfold nV at hv
     obtain⟨z,_,rfl⟩:=mem_map.mp hv
     exact .int _),by rw[aB];omega,(fun Dx=>by rw[t0 hP]at Dx;cases Dx),fun _=>⟨ps,rfl,hP,fun H3 lx AN lt AK t off hx hL=>⟨rfl,?_⟩⟩⟩
    obtain⟨h1,h2⟩:=LB (c:=c) hP hx hL
    exact q x lx AN lt _ AK _ _ H3 (fun b o z=>off b o (ah (u2 _ _ (s1 _ _ z)) nx) (Th _ _ (u2 _ _ (s1 _ _ z)))) (.t h1 h2)
  refine⟨_,rfl,_,_,rfl,rfl,(by show (0:Int) < 11;decide),_,_,rfl,rfl,?_⟩
  obtain⟨n,hn,HR,Qz⟩:∃ n:Nat,2 + d1 % 11=(n:Int)/\2 <= n/\n <= 12:=⟨(2 + d1 % 11).toNat,by omega,by omega,by omega⟩
  show ip 8 (V.int (2 + d1 % 11)) _ _ _
  rw[hn]
  refine⟨zero_le _,fun D hD=>?_⟩
  have s0:=(AI.refl H).new (o := .lst []) hD
  refine⟨_,rfl,a,_,rfl, .inl (s0.seq hS),_,_,rfl,?_⟩
  obtain⟨m,hm,hm43⟩:∃ m:Nat,(if (43:Int) < ((ns.map V.int).length:Nat) then (43:Int) else ((ns.map V.int).length:Nat))=(m:Int)/\(m <= 43/\m <= ns.length):=by
   rw[length_map]
   split
   ·exact⟨43,rfl,by omega,by omega⟩
   ·exact⟨ns.length,rfl,by omega,by omega⟩
  rw[hm]
  refine⟨3,(m:Int),rfl,⟨by omega,by omega,by omega,by omega⟩,?_⟩
  refine aZ (lo:=3) (n:=((m:Int) - 3).toNat) (fun i σ H2=>∃ (a3 a4 a5 a6 a7 Q0:Option V)(AY:List V)(ps:List (Int × Int)),AI H H2/\H2 D=some (.lst AY)/\AX H2 AY ps/\ps.length=i/\(∀ q ∈ ps,ie n q=true)/\σ=[some (.ref a),some (.int d1),some (.int (d0 % 4)),a3,a4,a5,a6,a7,some (.int n),some (.ref D),Q0])
   ⟨none,none,none,none,none,none,[],[],s0,ad, .nil,rfl,(fun e he=>by cases he),rfl⟩ ?_ ?_
  ·rintro i σ H2 hi ⟨a3,a4,a5,a6,a7,Q0,AY,ps,s2,gD,FY,hl,AR,rfl⟩
   have hk:3 + i < ns.length:=by omega
   have ek:(3:Int) + (i:Int)=((3 + i:Nat):Int):=by omega
   rw[ek]
   refine⟨_,rfl,_,rfl,a,_,_,V.int ns[3 + i],rfl,rfl,s2.seq hS,aJ (by simp[hk]),_,_,rfl,rfl,⟨by decide,by decide,by decide⟩,ns[3 + i],_,1,rfl,by decide,by decide +kernel,by decide +kernel,fun E ds H3 s3 hE gE E7=>?_⟩
   obtain⟨d,rfl⟩:∃ d,ds=[d]:=List.length_eq_one_iff.mp E7
   refine⟨E,_,0,V.int d,rfl,rfl,AQ.of gE,aJ (j:=0) rfl,?_⟩
   have LD:0 <= d % (n:Int)/\d % (n:Int) < n:=⟨emod_nonneg _ (by omega),emod_lt_of_pos _ (by omega)⟩
   have GJ:0 <= d / (n:Int) % ((n:Int) - 1)/\d / (n:Int) % ((n:Int) - 1) < (n:Int) - 1:=⟨emod_nonneg _ (by omega),emod_lt_of_pos _ (by omega)⟩
   have np:(0:Int) < (n:Int):=by omega
   have BM:=s3 _ _ gD
   refine⟨_,rfl, .inl ⟨rfl,_,AQ.of BM⟩,_,rfl,_,rfl,_,_,rfl,rfl,np,_,rfl,_,rfl,_,_,rfl,rfl,np,_,_,rfl,rfl,_,rfl,_,rfl,_,_,rfl,rfl,⟨np,by omega⟩,_,rfl,_,_,rfl,rfl,_,_,rfl,rfl,(by show (0:Int) < (n:Int) - 1;omega),_,_,rfl,rfl,_,rfl,_,_,rfl,rfl,np,?_⟩
   refine⟨by show 2 <= sizeLine;decide,fun t ht=>?_⟩
   have s9:=s3.new (o := .tup [.int (d % (n:Int)), .int ((d % (n:Int) + 1 + d / (n:Int) % ((n:Int) - 1)) % (n:Int))]) ht
   have Dy:AY.length=ps.length:=Paired.length FY
   refine⟨D,AY,_,rfl,rfl,s9 _ _ gD,by rw[sizeLine_eq];omega,?_⟩
   have nlt:D ≠ t:=ah BM ht
   refine⟨_,_,_,_,_,_,AY ++ [.ref t],ps ++ [(d % (n:Int),(d % (n:Int) + 1 + d / (n:Int) % ((n:Int) - 1)) % (n:Int))],fun b o e=>?_,ad,?_,by rw[length_append,hl];rfl,fun q hq=>?_,rfl⟩
   ·rw[ai (ah e hD)];exact s9 _ _ (s2 _ _ e)
   ·refine AX.snoc ⟨t,rfl,by rw[ai (Ne.symm nlt)];exact ad⟩ ?_
    have z:AX _ AY ps:=AX.same s9 FY
    exact eQ (s9 _ _ gD) z
   ·rcases mem_append.mp hq with z | z
    ·exact AR q z
    ·rw[mem_singleton.mp z];exact vK LD.1 LD.2 GJ.1 GJ.2
  ·rintro σ H2 ⟨a3,a4,a5,a6,a7,Q0,AY,ps,s2,gD,FY,hl,AR,rfl⟩
   have Dy:AY.length=ps.length:=Paired.length FY
   obtain⟨es,rfl,CC⟩:=se AR
   rw[length_map]at hl Dy
   refine⟨_,rfl,_,rfl,fun lx AN nx Ez E2=>?_⟩
   have Q2:AI H2 (aw (aw H2 AN (.own lx)) lx (.ins c.land AN [])):=AI.new (AI.new (AI.refl H2) Ez) (by rw[ai (Ne.symm E2)];exact nx)
   have gd:=qX (n:=n) (by omega) (by omega) (by rw[length_map];omega) AR
   refine⟨lx,AN,(n:Int),D,AY,es.map zp,rfl,ad,AQ.of (Q2 _ _ gD),AX.same Q2 FY,by omega,(fun h=>by rw[gd]at h;cases h),(fun k h=>by rw[gd]at h;cases h),(fun k h=>by rw[gd]at h;cases h),fun _ H3 lt AK off Eg=>⟨rfl,?_⟩⟩
   have s3:AI H2 H3:=fun b o e=>off b o (ah e nx) (Q2 _ _ e)
   refine fun x dx Ti Q3 Q4=>?_
   have Ie:AI H3 (aw (aw H3 dx (.own x)) x (.ins ts.near dx [])):=AI.new (AI.new (AI.refl H3) Q3) (by rw[ai (Ne.symm Q4)];exact Ti)
   refine⟨x,dx,lx,AN,lt,AK,n,es,rfl,ad,⟨Ie _ _ Eg.1,Ie _ _ Eg.2.1,AX.same Ie Eg.2.2⟩,CC,by omega,by omega,fun H4 de kvs Q5 hN hE=>⟨rfl,?_⟩⟩
   have s4:AI H3 H4:=fun b o e=>Q5 b o (ah e Ti) (Ie _ _ e)
   obtain⟨F',hF,hT⟩:=LC (c:=c) Qz (by omega) CC AR hN hE (cW Eg s4)
   exact q x lx AN lt n AK _ _ H4 (s2.trans (s3.trans s4)) (.n hT ⟨es,F',rfl,hF,CC,rfl⟩)
end K25
namespace K25
open PySem L2 LkM
theorem vn {n:Nat}{ps:List (Int × Int)}{N:List Nat}{wy:aX->Nat}(BY:∀ k,∀ z ∈ wl wy k,z < ps.length)(h:gc wy ps n = .BF N):Fr wy ps n (iz N) (cc wy ps n n):=by
 have hk:=nk wy ps n
 rw[h]at hk
 cases hk with
 | BF Ci hN =>
  have AV:=gv wy ps n n (Nat.le_refl _)
  refine⟨by unfold iz;rw[length_map];exact hN.len,eO _ _ _ _,AV,fun p g hp hg z hz=>c9 hg (BY _ z hz) (lO BY hp hz),fun l g hl hb hf=>?_⟩
  have MG:=nE AV hb
  have hm:kS wy ps n g l:=dB hb
  refine⟨fun e=>?_,fun z hz=>⟨c9 MG (lB BY g l z hz) (oi BY hm hz),?_⟩⟩
  ·unfold dC at Ci
   rw[List.find?_eq_none]at Ci
   refine Ci (l,g) (Cg.mpr ⟨hl,hb⟩) ?_
   show eW wy ps l g=true
   unfold eW
   rw[decide_eq_false hf,e]
   rfl
  ·have:=hN.up l g z hl (lB BY g l z hz) (Bo.mpr hb) hz
   rw[jw,jw]
   omega
structure Wk (ps:List (Int × Int))(N S:List Nat)(g pl:Nat)(cm:Option Nat)(tr:List Nat):Prop where
 hd:cm=tr.head?
 lt:∀ l ∈ tr,l < ps.length
 up:tr.Pairwise fun a b=>N.getD b 0 < N.getD a 0
 bt:∀ l,cm=some l->cS S l g=true/\(ps.getD l (0,0)).2=(pl:Int)
theorem Wk.step {wy:aX->Nat}{ps:List (Int × Int)}{n:Nat}{N S:List Nat}{g pl:Nat}{cm:Option Nat}{tr:List Nat}(h:Wk ps N S g pl cm tr)(hf:Fr wy ps n (iz N) S)(hs:A9 wy n)(BY:∀ k,∀ z ∈ wl wy k,z < ps.length)(hk:∀ q ∈ ps,ie n q=true)(hp:pl < n)(hg:g < n)(ne:pl ≠ g) :
  ∃ (z Ip:Nat),wl wy [some (pl:Int),some (g:Int),cm.map fun k:Nat=>(k:Int)]=[z]/\z < ps.length/\cS S z g=true/\(∀ l,cm=some l->N.getD l 0 < N.getD z 0)/\Ip < n/\(ps.getD z (0,0)).2=(Ip:Int)/\Wk ps N S g Ip (some z) (z :: tr):=by
 rcases hs pl g (cm.map fun k:Nat=>(k:Int)) hp hg with ⟨e,_⟩ | ⟨_,z,hz⟩
 ·exact absurd e ne
 have Cv:z ∈ wl wy [some (pl:Int),some (g:Int),cm.map fun k:Nat=>(k:Int)]:=by rw[hz];exact mem_cons_self
 have EW:=BY _ z Cv
 have hq:=jr (hk _ (getElem_mem EW))
 have eq:ps.getD z (0,0)=ps[z]:=by rw[getD_eq_getElem?_getD,getElem?_eq_getElem EW];rfl
 rw[← eq]at hq
 have key:cS S z g=true/\∀ l,cm=some l->N.getD l 0 < N.getD z 0:=by
  cases hc:cm with
  | none =>
   rw[hc]at Cv
   exact⟨hf.a pl g hp hg z Cv,fun l hl=>by cases hl⟩
  | some l =>
   obtain⟨b1,b2⟩:=h.bt l hc
   have Dy:l < ps.length:=h.lt l (List.mem_of_mem_head? (by rw[← h.hd];exact hc))
   have Bu:¬ (ps.getD l (0,0)).2=(g:Int):=by rw[b2];omega
   have EC:z ∈ bZ wy ps g l:=by
    unfold bZ
    rw[if_neg Bu,b2]
    rw[hc]at Cv
    exact Cv
   obtain⟨_,h2⟩:=hf.b l g Dy b1 Bu
   obtain⟨h3,h4⟩:=h2 z EC
   rw[jw,jw]at h4
   exact⟨h3,fun l' E6=>by cases E6;omega⟩
 refine⟨z,(ps.getD z (0,0)).2.toNat,hz,EW,key.1,key.2,by omega,by omega,rfl,fun l hl=>?_,?_,fun l hl=>?_⟩
 ·rcases mem_cons.mp hl with rfl | hl
  ·exact EW
  ·exact h.lt l hl
 ·refine pairwise_cons.mpr ⟨fun b hb=>?_,h.up⟩
  have hd:=h.hd
  cases tr with
  | nil=>cases hb
  | cons y tr =>
   have hy:=key.2 y hd
   rcases mem_cons.mp hb with rfl | hb
   ·exact hy
   ·have:=(pairwise_cons.mp h.up).1 b hb
    omega
 ·cases hl
  exact⟨key.1,by omega⟩
theorem Wk.nd {ps:List (Int × Int)}{N S:List Nat}{g pl:Nat}{cm:Option Nat}{tr:List Nat}(h:Wk ps N S g pl cm tr):tr.length <= ps.length :=
 cI _ _ (h.up.imp fun {a b} E9 e=>by rw[e]at E9;omega) h.lt
noncomputable def sS (c:Cs)(C:Addr)(J:eE):Sp:=fun vs H Q _=>∃ (x lx AN lt na sa:Addr)(n:Nat)(AK:List V)(ps:List (Int × Int))(wy:aX->Nat)(N S:List Nat)(s g:Nat),vs=[.ref x, .ref na, .ref sa, .int s, .int g]/\Bc c C J H x lx AN lt n AK ps wy/\H na=some (.tup (nV N))/\H sa=some (.tup (nV S))/\Fr wy ps n (iz N) S/\A9 wy n/\s < n/\g < n/\∀ H',AI H H'->Q (.bl true) H'
abbrev MN:List Str:=["_law_table_here", "_law_numbers", "_law_sets", "_law_start", "_law_goal"]
abbrev NWk:List Str:=["_law_table_here", "_law_numbers", "_law_sets", "_law_start", "_law_goal", "_law_place", "_law_came", "_law_k", "_law_ways"]
theorem DT:ar NWk MN (aj mL):=L2.Bl
set_option hygiene false in
local macro_rules | `(tactic| and_intros) => `(tactic| (
 refine⟨_,rfl,U,_,_,_,rfl,rfl,AQ.of gU,gz,?_⟩
 refine⟨_,rfl,x,C,dx,fs,_,rfl,Q6,W.cl,nl,Ed,lx,AN,_,rfl,FZ.l.1,rfl,_,rfl,lx,AN,lt,(n:Int),AK,ps,z,_,rfl,FZ.l,hpz,?_⟩
 refine⟨Ip,some z,z :: tr,some (V.int (0 + (i:Int))),some (V.ref U),GK,Q7,by rw[length_cons,M3],Q8,?_⟩
 rw[hze]
 rfl))
theorem t8 {c:Cs}{J:eE}{C f fw fe:Addr}{fd dw de:FuncData}(F:Bj K "_law_walked" "_law_walked" mL f fd)(T:eX mg)(L:li K c)(W:gy K C fw dw J)(nl:AW K C "land")(Gw:AJ P w K mg base aC 3 fw dw ["self", "place", "goal", "came"] (cu J))
  (M:wQ K c fe de) (Ge:AJ P w K mg base aC 1 fe de ["self", "lane"] (mH c Prod.snd)):AJ P w K mg base aC 4 f fd MN (sS c C J):=by
 refine F.ok DT (fun vs H Q E h=>?_) (fun Bb A outer s H vs Q E hr h=>?_)
 ·obtain⟨x,lx,AN,lt,na,sa,n,AK,ps,wy,N,S,s,g,rfl,_⟩:=h
  rfl
 ·obtain⟨x,lx,AN,lt,na,sa,n,AK,ps,wy,N,S,s0,g,rfl,hT,JV,hsa,hf,hs,hs0,hg,q⟩:=h
  have Cn:AU 1 _:=hr.mono (by decide)
  have hu:=hr.units
  refine⟨_,(af (au (i:=5) DT.nd rfl (Or.inl rfl) (pv 3))
   (af (au (i:=6) DT.nd rfl (Or.inl rfl) bE)
   (af (aK PassesOwn.never rfl (aR rfl T.range (aa (aE aD rfl T.len PySem.boot_len (aa (pv 1) ae)) ae)) (ao (i:=7) DT.nd rfl (Or.inl rfl))
    (af (au (i:=8) DT.nd rfl (Or.inl rfl) (bK (pv 0) W.cl W.m Gw hr W.b .nil ax (aa (pv 5) (aa (pv 4) (aa (pv 6) ae)))))
   (af (aL (PW.pt (jL (ay cH (pv 5) (pv 4) (a9 _)) (jK (ay eV (aE aD rfl T.len PySem.boot_len (aa (pv 8) ae)) am (a9 _)))))
    (ag (ap (ck (bY cH (pv 5) (pv 4) (a9 _)) (dR (bY (zF hu) (pv 8) (b8 ae) (a9 _))))))
    aA)
   (af (aL (PW.pt (jL (ay cH (az vy (az vq (aU Bd (pv 2) (aU Bf (pv 8) am (fun _ _=>rfl)) (fun _ _=>rfl)) (pv 4)) am) am (a9 _)) (jK (PW.pt (jM (ay fR (pv 6) bE (a9 _)) (gP (ay jY (aU Bd (pv 1) (aU Bf (pv 8) am (fun _ _=>rfl)) (fun _ _=>rfl)) (aU Bd (pv 1) (pv 6) (fun _ _=>rfl)) (a9 _))))))))
    (ag (ap jU))
    aA)
   (af (au (i:=6) DT.nd rfl (Or.inl rfl) (aU Bf (pv 8) am (fun _ _=>rfl)))
   (ag (au (i:=5) DT.nd rfl (Or.inl rfl) (bK (aF (pv 0) rfl) L.cl M.m Ge Cn M.b .nil ax (aa (pv 6) ae)))))))))
   (ag (ap (bY cH (pv 5) (pv 4) (a9 _))))))),?_⟩
  have SH:N.length=ps.length:=by have:=hf.nl;unfold iz at this;rw[length_map]at this;exact this
  have CK:=hf.sl
  have Tj:∀ {l:Nat},l < ps.length->r6 (nV N) (l:Int)=some (V.int ((N.getD l 0:Nat):Int)):=fun {l} hl=>aJ (fT (by omega))
  have atS:∀ {l:Nat},l < ps.length->r6 (nV S) (l:Int)=some (V.int ((S.getD l 0:Nat):Int)):=fun {l} hl=>aJ (fT (by omega))
  have Tn:(nV N).length=ps.length:=by rw[aB];exact SH
  have BB:=hT.By
  refine⟨_,rfl,?_⟩
  refine⟨_,rfl,na,_,rfl, .inr (Ba.of JV),_,rfl,by omega,by rw[Tn];omega,?_⟩
  rw[toNat_natCast,Tn]
  refine aZ (n:=ps.length) (fun i σ H2=>∃ (pl:Nat)(cm:Option Nat)(tr:List Nat)(a7 a8:Option V),AI H H2/\pl < n/\tr.length=i/\Wk ps N S g pl cm tr/\σ=[some (.ref x),some (.ref na),some (.ref sa),some (.int s0),some (.int g),some (.int pl),some (cV cm),a7,a8])
   ⟨s0,none,[],none,none,AI.refl H,hs0,rfl,⟨rfl,(fun l hl=>by cases hl), .nil,(fun l hl=>by cases hl)⟩,rfl⟩ ?_ ?_
  ·rintro i σ H2 hi ⟨pl,cm,tr,a7,a8,s2,BS,M3,hw,rfl⟩
   have EF:=hT.same W s2
   obtain⟨dx,fs,hx,Ed⟩:=EF.i
   obtain⟨Mx,Bh,B3,FD⟩:=W.inst _ _ _ _ EF.j
   rw[hx]at B3
   injection B3 with B3
   injection B3 with _ e1 e2
   subst e1 e2
   refine⟨_,rfl,x,dx,fs,rfl,hx,FD,_,rfl,_,rfl,_,rfl,x,n,wy,⟨(pl:Int),(g:Int),cm,[]⟩,rfl,EF.j,⟨natCast_nonneg pl,ofNat_lt.mpr BS⟩,⟨natCast_nonneg g,ofNat_lt.mpr hg⟩,fun Tp U s3' hU=>?_⟩
   have s3:=s3'.new (o := .lst (cJ (wy (cM ⟨(pl:Int),(g:Int),cm,[]⟩)))) hU
   have Q9:(aw Tp U (.lst (cJ (wy (cM ⟨(pl:Int),(g:Int),cm,[]⟩))))) U=some (.lst (cJ (wy (cM ⟨(pl:Int),(g:Int),cm,[]⟩)))):=ad
   generalize aw Tp U (.lst (cJ (wy (cM ⟨(pl:Int),(g:Int),cm,[]⟩))))=H3 at s3 Q9 ⊢
   have gU:H3 U=some (.lst (nV (wl wy [some (pl:Int),some (g:Int),cm.map fun k:Nat=>(k:Int)]))):=Q9
   clear Q9
   have GK:=s2.trans s3
   refine⟨_,rfl,_,rfl,rfl,_,rfl,?_⟩
   rw[cA]
   by_cases e:pl=g
   ·rw[decide_eq_true (show (pl:Int)=(g:Int) by omega)]
    refine aI (aI ?_)
    have CD:wl wy [some (pl:Int),some (g:Int),cm.map fun k:Nat=>(k:Int)]=[]:=by
     rcases hs pl g (cm.map fun k:Nat=>(k:Int)) BS hg with ⟨_,h⟩ | ⟨ne,_⟩
     ·exact h
     ·exact absurd e ne
    rw[CD]at gU
    refine⟨_,rfl,_,rfl,rfl,_,rfl,?_⟩
    rw[cA,decide_eq_true (show (pl:Int)=(g:Int) by omega)]
    refine aI ⟨_,rfl,zero_le _,fun L0 HA=>⟨U,L0,[],[],rfl,rfl,AQ.of (by rw[ai (ah gU HA)];exact gU),AQ.of ad,?_⟩⟩
    exact q _ (GK.new HA)
   rw[decide_eq_false (show ¬ (pl:Int)=(g:Int) by omega)]
   refine aH ?_
   obtain⟨z,Ip,hz,EW,hzb,hzn,Q7,hze,Q8⟩:=hw.step hf hs hT.ok hT.pk BS hg e
   rw[hz]at gU
   have gz:r6 (nV [z]) (0:Int)=some (V.int (z:Int)):=rfl
   refine⟨_,rfl,U,_,rfl, .inl (AQ.of gU),rfl,_,rfl,pf rfl ?_⟩
   refine⟨_,rfl,_,rfl,U,_,_,_,rfl,rfl,AQ.of gU,gz,sa,_,_,_,rfl,rfl,Ba.of (GK _ _ hsa),atS EW,_,rfl,_,_,rfl,rfl,(by show (0:Int) <= (g:Int);omega),_,_,rfl,rfl,rfl,_,rfl,?_⟩
   have QA:(S.getD z 0).testBit g=true:=hzb
   rw[PY,QA]
   refine aH ?_
   refine⟨_,rfl,rfl,_,rfl,?_⟩
   have FZ:=EF.same W s3
   have Q6:=s3 _ _ hx
   have hpz:ps[z]? = some (ps.getD z (0,0)):=by rw[getD_eq_getElem?_getD,getElem?_eq_getElem EW];rfl
   cases cm with
   | none =>
    rw[decide_eq_true (show cV none=V.AZ from rfl)]
    refine aH (aH ?_)
    and_intros
   | some l =>
    have hl:l < ps.length:=hw.lt l (List.mem_of_mem_head? (by rw[← hw.hd];rfl))
    have hup:=hzn l rfl
    rw[decide_eq_false (show ¬ cV (some l)=V.AZ from fun z=>by cases z)]
    refine aI ?_
    refine⟨_,rfl,_,rfl,U,_,_,_,rfl,rfl,AQ.of gU,gz,na,_,_,_,rfl,rfl,Ba.of (GK _ _ JV),Tj EW,_,rfl,_,rfl,na,_,_,_,rfl,rfl,Ba.of (GK _ _ JV),Tj hl,_,_,rfl,rfl,_,rfl,?_⟩
    rw[decide_eq_false (by omega)]
    refine aH ?_
    and_intros
  ·rintro σ H2 ⟨pl,cm,tr,a7,a8,s2,BS,M3,hw,rfl⟩
   refine⟨_,rfl,_,rfl,rfl,?_⟩
   have e:pl=g:=by
    by_cases e:pl=g
    ·exact e
    ·obtain⟨z,Ip,_,_,_,_,_,_,Q8⟩:=hw.step hf hs hT.ok hT.pk BS hg e
     have:=Q8.nd
     rw[length_cons]at this
     omega
   rw[cA,decide_eq_true (show (pl:Int)=(g:Int) by omega)]
   exact q _ s2
end K25
namespace K25
open PySem L2 LkM
theorem vb {n:Nat}{es:Es}{g:Nat}{fs:Es}(f:g9 n es g fs)(k j:Nat):((es.take j).foldl gN (ed es g k)).length <= n:=by
 have r:=Rc.fold f (es.take j) [] (fun e he=>mem_of_mem_take he) (jI f k)
 exact cI n _ r.nd fun p hp=>by
  cases h:dD fs p with
  | none=>exact absurd h (r.ok p hp)
  | some d=>exact f.lt _ (dM h)
theorem vc {es:Es}{fd:List Nat}{j:Nat}{e:Nat × Nat}(h:es[j]? = some e):(es.take (j + 1)).foldl gN fd=gN ((es.take j).foldl gN fd) e:=by
 rw[take_succ,h,foldl_append];rfl
noncomputable def uB (c:Cs):Sp:=fun vs H Q _=>∃ (lx AN lt:Addr)(AK:List V)(n:Nat)(es:Es)(g:Nat),vs=[.ref lx, .int g]/\bv H c lx AN lt (n:Int) AK (es.map zp)/\n <= 12/\es.length <= 40/\(∃ fs,g9 n es g fs)/\∀ (D:Addr)(H':Hp),AI H H'->H D=none->H' D=some (.lst (nV (ed es g n)))->Q (.ref D) H'
abbrev NRc:List Str:=["_law_land", "_law_goal", "_law_found", "_law_again", "_law_start", "_law_end"]
theorem Fc:ar NRc ["_law_land", "_law_goal"] (aj qy):=L2.Bl
theorem v9 {c:Cs}{f:Addr}{fd:FuncData}(F:Bj K "_law_reached" "_law_reached" qy f fd)(T:eX mg)(L:li K c):AJ P w K mg base aC 1 f fd ["_law_land", "_law_goal"] (uB c):=by
 refine F.ok Fc (fun vs H Q E h=>?_) (fun Bb A outer s H vs Q E hr h=>?_)
 ·obtain⟨lx,AN,lt,AK,n,es,g,rfl,_⟩:=h
  rfl
 ·obtain⟨lx,AN,lt,AK,n,es,g,rfl,hL,hn,Im,⟨fs,hF⟩,q⟩:=h
  refine⟨_,(af (au (i:=2) Fc.nd rfl (Or.inl rfl) (b8 (aa (pv 1) ae)))
   (af (aK PassesOwn.never rfl (aR rfl T.range (aa (aF (pv 0) rfl) ae)) (ao (i:=3) Fc.nd rfl (Or.inl rfl))
    (ag (aK PassesOwn.never rfl (mW (aF (pv 0) rfl)) (c7 rfl (aG (ao (i:=4) Fc.nd rfl (Or.inl rfl)) (aG (ao (i:=5) Fc.nd rfl (Or.inl rfl)) bW)))
    (ag (aL (PW.pt (jM (ay lA (pv 5) (pv 2) (by with_unfolding_all rfl)) (gP (ay hV (pv 4) (pv 2) (by with_unfolding_all rfl)))))
    (ag (aT (cr plainAttrs_list PySem.F.slot_list_append PySem.F.type_list_append aS (pv 2) (aa (pv 4) ae))))
    aA)))))
   (ag (ap (pv 2))))),?_⟩
  refine⟨_,rfl,(by show 1 <= sizeLine;decide),fun D hD=>?_⟩
  have s0:=(AI.refl H).new (o := .lst [.int (g:Int)]) hD
  have Tq:(aw H D (.lst [.int (g:Int)])) D=some (.lst (nV [g])):=ad
  generalize aw H D (.lst [.int (g:Int)])=H0 at s0 Tq ⊢
  have HA:=cW hL s0
  refine⟨_,rfl,lx,c.land,AN,_,_,rfl,HA.1,L.cl,L.np,rfl,(n:Int),rfl,by omega,by omega,?_⟩
  rw[toNat_natCast]
  refine aZ (n:=n) (fun i σ H2=>∃ (a3 a4 a5:Option V),AI H H2/\H2 D=some (.lst (nV (ed es g i)))/\σ=[some (.ref lx),some (.int g),some (.ref D),a3,a4,a5])
   ⟨none,none,none,s0,Tq,rfl⟩ ?_ ?_
  ·rintro i σ H2 hi ⟨a3,a4,a5,s2,gD,rfl⟩
   have ML:=cW hL s2
   refine⟨_,rfl,lx,c.land,AN,_,_,rfl,ML.1,L.cl,L.nl,rfl,lt,rfl,⟨_,Ba.of ML.2.1⟩,?_⟩
   refine yd (K:=K) (a:=lt) (xs:=AK) (fun j σ H3=>∃ (a4 a5:Option V),AI H H3/\H3 D=some (.lst (nV ((es.take j).foldl gN (ed es g i))))/\σ=[some (.ref lx),some (.int g),some (.ref D),some (.int (0 + (i:Int))),a4,a5])
    ⟨a4,a5,s2,gD,rfl⟩ (fun j σ H3 _ AL=>by obtain⟨_,_,s3,_⟩:=AL;exact Ba.of (cW hL s3).2.1) ?_ ?_
   ·rintro j v σ H3 hv ⟨a4,a5,s3,BM,rfl⟩
    have FQ:=cW hL s3
    obtain⟨pq,G7,tz,rfl,hz⟩:=AX.get FQ.2.2 hv
    rw[getElem?_map]at G7
    obtain⟨e,he,rfl⟩:=Option.map_eq_some_iff.mp G7
    obtain⟨Tr,Tt⟩:=e
    have hlen:=vb hF i j
    have QB:=vc (fd:=ed es g i) he
    refine⟨tz,_,rfl,Ba.of hz,rfl,_,_,rfl,_,_,rfl,rfl,?_⟩
    refine⟨_,rfl,_,rfl,D,_,rfl, .inl (AQ.of BM),rfl,n0 _,_,rfl,?_⟩
    show if (wn (.int ((Tt:Nat):Int)) (nV _))=true then _ else _
    rw[wm]
    by_cases c1:Tt ∈ (es.take j).foldl gN (ed es g i)
    ·rw[decide_eq_true c1]
     refine aI ?_
     refine⟨_,rfl,_,rfl,D,_,rfl, .inl (AQ.of BM),rfl,n0 _,_,rfl,?_⟩
     show if (!wn (.int ((Tr:Nat):Int)) (nV _))=true then _ else _
     rw[wm]
     by_cases c2:Tr ∈ (es.take j).foldl gN (ed es g i)
     ·rw[decide_eq_true c2]
      refine aH ⟨_,_,s3,?_,rfl⟩
      rw[QB]
      unfold gN
      rw[if_neg (fun z=>z.2 c2)]
      exact BM
     ·rw[decide_eq_false c2]
      refine aI ⟨_,rfl, .inl ⟨rfl,_,AQ.of BM⟩,_,rfl,D,_,_,rfl,rfl,BM,by rw[aB,sizeLine_eq];omega,_,_,fun b o e=>?_,?_,rfl⟩
      ·rw[ai (ah e hD)];exact s3 _ _ e
      ·rw[ad,QB]
       unfold gN
       rw[if_pos ⟨c1,c2⟩,fD]
       rfl
    ·rw[decide_eq_false c1]
     refine aH (aH ⟨_,_,s3,?_,rfl⟩)
     rw[QB]
     unfold gN
     rw[if_neg (fun z=>c1 z.1)]
     exact BM
   ·rintro σ H3 ⟨a4,a5,s3,BM,rfl⟩
    refine⟨_,_,_,s3,?_,rfl⟩
    have hl:AK.length=es.length:=by have:=Paired.length hL.2.2;rw[length_map]at this;exact this
    rw[hl,take_length]at BM
    exact BM
  ·rintro σ H2 ⟨a3,a4,a5,s2,gD,rfl⟩
   exact⟨_,rfl,q D H2 s2 hD gD⟩
theorem qJ (ps:List (Int × Int)):DG (.list (ps.map vo)) 64:=(uI (m:=1) fun z hz=>by
 obtain⟨p,_,rfl⟩:=mem_map.mp hz
 exact l0 (m:=0) fun y hy=>by
  simp only[mem_cons,not_mem_nil,or_false]at hy
  rcases hy with rfl | rfl<;>exact rL _).le (by decide)
noncomputable def qH (es:Es)(n:Nat)(g j:Nat):List (Int × Int):=(((ed es g n).take j).filter fun p=>decide (p ≠ g)).map fun p:Nat=>((p:Int),(g:Int))
noncomputable def rX (es:Es)(n:Nat)(m:Nat):List (Int × Int):=(List.range m).flatMap fun g=>qH es n g (ed es g n).length
theorem jQ (es:Es)(n m:Nat):rX es n (m + 1)=rX es n m ++ qH es n m (ed es m n).length:=by
 unfold rX
 rw[range_succ,flatMap_append];simp
theorem vf {es:Es}{n g j p:Nat}(h:(ed es g n)[j]? = some p):qH es n g (j + 1)=if p ≠ g then qH es n g j ++ [((p:Int),(g:Int))] else qH es n g j:=by
 unfold qH
 rw[take_succ,h,filter_append]
 by_cases e:p=g
 ·rw[if_neg (fun z=>z e),show(some p).toList=[p] from rfl,filter_cons_of_neg (by simp[e]),List.filter_nil,append_nil]
 ·have e1:([p].filter fun p=>decide (p ≠ g))=[p]:=filter_cons_of_pos (p:=fun p=>decide (p ≠ g)) (l:=[]) (decide_eq_true e)
  rw[if_pos e,show(some p).toList=[p] from rfl,e1,map_append]
  rfl
theorem CV {es:Es}{n m:Nat}{q:Int × Int}:q ∈ rX es n m↔∃ p g:Nat,g < m/\p ≠ g/\p ∈ ed es g n/\q=((p:Int),(g:Int)):=by
 unfold rX qH
 rw[mem_flatMap]
 constructor
 ·rintro⟨g,hg,hq⟩
  obtain⟨p,hp,rfl⟩:=mem_map.mp hq
  obtain⟨h1,h2⟩:=mem_filter.mp hp
  rw[take_length]at h1
  exact⟨p,g,mem_range.mp hg,of_decide_eq_true h2,h1,rfl⟩
 ·rintro⟨p,g,hg,ne,hp,rfl⟩
  refine⟨g,mem_range.mpr hg,mem_map.mpr ⟨p,mem_filter.mpr ⟨by rw[take_length];exact hp,decide_eq_true ne⟩,rfl⟩⟩
theorem l5 {es:Es}{n:Nat}{F:Nat->Es}(hF:∀ g,g < n->g9 n es g (F g)):∀ m,m <= n->(rX es n m).Nodup
 | 0,_=>by simp[rX]
 | m + 1,hm=>by
  rw[jQ]
  refine nodup_append.mpr ⟨l5 hF m (by omega),?_,fun a ha b hb e=>?_⟩
  ·unfold qH
   refine List.Pairwise.map _ (fun a b E9 z=>?_) (List.Pairwise.filter _ (List.Pairwise.sublist (take_sublist _ _) (jI (hF m (by omega)) n).nd))
   have:=(Prod.mk.inj z).1
   exact E9 (by omega)
  ·subst e
   obtain⟨p,g,hg,_,_,rfl⟩:=CV.mp ha
   unfold qH at hb
   obtain⟨p',_,e⟩:=mem_map.mp hb
   have:=(Prod.mk.inj e).2
   omega
theorem rV (es:Es)(n g j:Nat){fs:Es}(f:g9 n es g fs):(qH es n g j).length <= n:=by
 unfold qH
 rw[length_map]
 refine le_trans (length_filter_le _ _) (le_trans ?_ (zm f n))
 rw[length_take]
 omega
theorem rW {es:Es}{n:Nat}{F:Nat->Es}(hF:∀ g,g < n->g9 n es g (F g)):∀ m,m <= n->(rX es n m).length <= m * n
 | 0,_=>by simp[rX]
 | m + 1,hm=>by
  rw[jQ,length_append,succ_mul]
  have h1:=rW hF m (by omega)
  have h2:=rV es n m (ed es m n).length (hF m (by omega))
  omega
noncomputable def yR (P:Program)(w:World)(c:Cs)(ts:Ts):Sp:=fun vs H Q _=>∃ (x lx AN lt:Addr)(n:Nat)(AK:List V)(ps:List (Int × Int))(wy:aX->Nat),vs=[.ref x]/\Bc c ts.near (JN P w ts) H x lx AN lt n AK ps wy/\Nr n ps wy/\∀ H',AI H H'->Q (.bl true) H'
structure FNe (P:Program)(w:World)(K:Frag)(mg:Str->Option Value)(base:Heap)(c:Cs)(ts:Ts)(fr fl fs fk:Addr)(dr dl ds dk:FuncData):Prop where
 mr:mg "_law_reached" = some (.ref fr)
 kr:keepIn K (.ref fr)=true
 br:Binds K dr ["_law_land", "_law_goal"] []
 Gr:AJ P w K mg base aC 1 fr dr ["_law_land", "_law_goal"] (uB c)
 ml:mg "lost" = some (.ref fl)
 kl:keepIn K (.ref fl)=true
 bl:Binds K dl ["table"] []
 Gl:AJ P w K mg base aC 7 fl dl ["table"] (j8 c ts.near (JN P w ts))
 ms:mg "starts" = some (.ref fs)
 ks:keepIn K (.ref fs)=true
 bs:Binds K ds ["table"] []
 Gs:AJ P w K mg base aC 4 fs ds ["table"] (cG c ts.near (JN P w ts))
 mo:mg "look" = some (.ref fk)
 ko:keepIn K (.ref fk)=true
 bo:Binds K dk ["table"] []
 Go:AJ P w K mg base aC 8 fk dk ["table"] (gk c ts.near (JN P w ts))
abbrev NNe:List Str:=["_law_table_here", "_law_pairs", "_law_goal", "_law_place"]
theorem Gg:ar NNe ["_law_table_here"] (aj qA):=L2.Bl
theorem tE {c:Cs}{ts:Ts}{f fr fl fs fk fw:Addr}{fd dr dl ds dk dw:FuncData}(F:Bj K "_law_nearer" "_law_nearer" qA f fd)(T:eX mg)(L:li K c)(W:gy K ts.near fw dw (JN P w ts))(nl:AW K ts.near "land")(D:FNe P w K mg base c ts fr fl fs fk dr dl ds dk):AJ P w K mg base aC 9 f fd ["_law_table_here"] (yR P w c ts):=by
 refine F.ok Gg (fun vs H Q E h=>?_) (fun Bb A outer s H vs Q E hr h=>?_)
 ·obtain⟨x,lx,AN,lt,n,AK,ps,wy,rfl,_⟩:=h
  rfl
 ·obtain⟨x,lx,AN,lt,n,AK,ps,wy,rfl,hT,⟨es,F,rfl,hF,CC,F9⟩,q⟩:=h
  have Cn:AU 1 _:=hr.mono (by decide)
  have Eb:AU 4 _:=hr.mono (by decide)
  have QC:AU 7 _:=hr.mono (by decide)
  have hu:=hr.units
  refine⟨_,(af (au (i:=1) Gg.nd rfl (Or.inl rfl) (b8 ae))
   (af (aK PassesOwn.never rfl (aR rfl T.range (aa (aF (aF (pv 0) rfl) rfl) ae)) (ao (i:=2) Gg.nd rfl (Or.inl rfl))
    (ag (aK PassesOwn.never rfl (bB (aq D.Gr Cn rfl D.mr D.kr D.br .nil ax (aa (aF (pv 0) rfl) (aa (pv 2) ae)))) (ao (i:=3) Gg.nd rfl (Or.inl rfl))
    (ag (aL (ay eV (pv 3) (pv 2) (a9 _))
    (ag (aT (cr plainAttrs_list PySem.F.slot_list_append PySem.F.type_list_append aS (pv 1) (aa (bu (aa (pv 3) (aa (pv 2) ae))) ae))))
    aA)))))
   (ag (ap (ck (bY qL (aq D.Gl QC rfl D.ml D.kl D.bl .nil ax (aa (pv 0) ae)) bE (a9 _)) (ck (bY (vw hu) (aq D.Gs Eb rfl D.ms D.ks D.bs .nil ax (aa (pv 0) ae)) (aE nD rfl T.sorted PyProof.Rows.boot_sorted (aa (pv 1) ae)) (a9 _)) (dR (bY lA (aU Bd (aq D.Go hr rfl D.mo D.ko D.bo .nil ax (aa (pv 0) ae)) am (fun _ _=>rfl)) (bu (aa dq (aa dq ae))) (by with_unfolding_all rfl))))))))),?_⟩
  have CB:=hT.CB
  have BB:=hT.By
  rw[length_map]at BB
  obtain⟨dx,Bh,hx,Ed⟩:=hT.i
  refine⟨zero_le _,fun B hB=>?_⟩
  have s0:=(AI.refl H).new (o := .lst []) hB
  have hT0:=hT.same W s0
  refine⟨_,rfl,x,ts.near,dx,_,_,rfl,s0 _ _ hx,W.cl,nl,Ed,lx,c.land,AN,_,_,rfl,hT0.l.1,L.cl,L.np,rfl,(n:Int),rfl,by omega,by omega,?_⟩
  rw[toNat_natCast]
  refine aZ (n:=n) (fun i σ H2=>∃ (a2 a3:Option V)(AY:List V),AI H H2/\H2 B=some (.lst AY)/\AX H2 AY (rX es n i)/\σ=[some (.ref x),some (.ref B),a2,a3])
   ⟨none,none,[],s0,ad, .nil,rfl⟩ ?_ ?_
  ·rintro i σ H2 hi ⟨a2,a3,AY,s2,gB,FY,rfl⟩
   have EF:=hT.same W s2
   have Tu:=hF i hi
   have ei:(0:Int) + (i:Int)=(i:Int):=by omega
   rw[ei]
   refine⟨_,rfl,x,ts.near,dx,_,_,rfl,s2 _ _ hx,W.cl,nl,Ed,_,rfl,lx,AN,lt,AK,n,es,i,rfl,EF.l,CB,BB,⟨_,Tu⟩,fun U H3 s3 hU gU=>⟨U,rfl,⟨_,AQ.of gU⟩,?_⟩⟩
   have nBU:B ≠ U:=ah gB hU
   refine bH (K:=K) (a:=U) (xs:=nV (ed es i n)) (fun j σ H4=>∃ (a3:Option V)(AY:List V),AI H H4/\H4 U=some (.lst (nV (ed es i n)))/\H4 B=some (.lst AY)/\AX H4 AY (rX es n i ++ qH es n i j)/\σ=[some (.ref x),some (.ref B),some (.int (i:Int)),a3])
    ⟨a3,AY,s2.trans s3,gU,s3 _ _ gB,?_,rfl⟩ (fun j σ H4 _ AL=>by obtain⟨_,_,_,g4,_⟩:=AL;exact AQ.of g4) ?_ ?_
   ·have:qH es n i 0=[]:=by unfold qH;simp
    rw[this,append_nil]
    exact AX.same s3 FY
   ·rintro j v σ H4 hv ⟨a3,AY,s4,QD,Gj,Dw,rfl⟩
    unfold nV at hv
    rw[getElem?_map]at hv
    obtain⟨p,hp,rfl⟩:=Option.map_eq_some_iff.mp hv
    have hlen:AY.length <= 200:=by
     have h1:=Paired.length Dw
     have h2:=rW hF i (by omega)
     have h3:=rV es n i j Tu
     have h4:i * n <= 11 * 12:=Nat.mul_le_mul (by omega) CB
     rw[length_append]at h1
     omega
    refine⟨_,rfl,_,rfl,rfl,_,rfl,?_⟩
    rw[vf hp]
    show if (!decide (V.int (p:Int)=V.int (i:Int)))=true then _ else _
    rw[cA]
    by_cases e:p=i
    ·rw[decide_eq_true (show (p:Int)=(i:Int) by omega)]
     refine aH ⟨_,AY,s4,QD,Gj,?_,rfl⟩
     rw[if_neg (fun z=>z e)]
     exact Dw
    ·rw[decide_eq_false (show ¬ (p:Int)=(i:Int) by omega)]
     refine aI ⟨_,rfl, .inl ⟨rfl,_,AQ.of Gj⟩,_,rfl,_,rfl,by show 2 <= sizeLine;decide,fun t ht=>?_⟩
     have s5:=(AI.refl H4).new (o := .tup [.int (p:Int), .int (i:Int)]) ht
     refine⟨B,AY,_,rfl,rfl,s5 _ _ Gj,by rw[sizeLine_eq];omega,?_⟩
     have nBt:B ≠ t:=ah Gj ht
     refine⟨_,AY ++ [.ref t],fun b o e=>?_,?_,ad,?_,rfl⟩
     ·rw[ai (ah e hB)];exact s5 _ _ (s4 _ _ e)
     ·rw[ai (Ne.symm nBU)];exact s5 _ _ QD
     ·rw[if_pos e,← append_assoc]
      refine AX.snoc ⟨t,rfl,by rw[ai (Ne.symm nBt)];exact ad⟩ ?_
      have z:AX _ AY (rX es n i ++ qH es n i j):=AX.same s5 Dw
      exact eQ (s5 _ _ Gj) z
   ·rintro σ H4 ⟨a3,AY,s4,QD,Gj,Dw,rfl⟩
    refine⟨_,_,AY,s4,Gj,?_,rfl⟩
    rw[aB]at Dw
    rw[jQ]
    exact Dw
  ·rintro σ H2 ⟨a2,a3,AY,s2,gB,FY,rfl⟩
   have EF:=hT.same W s2
   have Ci:dC wy (es.map zp) n=none:=by rw[F9];exact lE hF CC
   refine⟨_,rfl,x,lx,AN,lt,n,AK,es.map zp,wy,rfl,EF,fun v H3 s3 hv=>?_⟩
   rw[Ci]at hv
   have hv:v = .AZ:=hv
   subst hv
   refine⟨rfl,_,rfl,aI ?_⟩
   have GK:=s2.trans s3
   have FZ:=EF.same W s3
   refine⟨_,rfl,x,dx,lx,AN,lt,Bh,n,AK,es.map zp,wy,rfl,FZ.j,GK _ _ hx,Ed,FZ.l,CB,fun St us H4 s4 hSt QE QF=>?_⟩
   have Dw:AX H4 AY (rX es n n):=AX.same s4 (AX.same s3 FY)
   have Gj:=s4 _ _ (s3 _ _ gB)
   have nd:=l5 hF n (Nat.le_refl _)
   refine⟨_,rfl,B,AY,rX es n n,rfl,AQ.of Gj,Dw,nd,fun z hz=>?_,fun So Hs Kf hSo ES Mv hri=>?_⟩
   ·obtain⟨p,g,hg,_,_,rfl⟩:=CV.mp hz
    exact⟨by show (0:Int) <= (g:Int);omega,by show (g:Int) < 1000;omega⟩
   have s5:=(AI.refl H4).new (o := .lst Hs) hSo
   have eq:Kf = aN wy n n:=by
    rw[F9]
    refine rQ hri (iS n) fun z=>?_
    rw[Mv.mem_iff,CV,oR hF]
    constructor
    ·rintro⟨p,g,hg,ne,hp,rfl⟩
     exact⟨p,g,hg,ne,(rT (hF g hg)).mp hp,rfl⟩
    ·rintro⟨p,g,hg,ne,hp,rfl⟩
     exact⟨p,g,hg,ne,(rT (hF g hg)).mpr hp,rfl⟩
   subst eq
   have Tv:(aw H4 So (.lst Hs)) So=some (.lst Hs):=ad
   generalize aw H4 So (.lst Hs)=H5 at s5 Tv ⊢
   refine eqS (d := .list ((aN wy n n).map vo)) (.lst (AQ.of (s5 _ _ QE)) (kG (AX.same s5 QF))) (.lst (AQ.of Tv) (kG (AX.same s5 ES))) (qJ _) ⟨_,rfl,aI ?_⟩
   have QG:=FZ.same W (s4.trans s5)
   refine⟨_,rfl,x,lx,AN,lt,n,AK,es.map zp,wy,rfl,QG,fun v H6 s6 hv=>?_⟩
   have sH6:=(GK.trans (s4.trans s5)).trans s6
   have key:∃ (t:Addr)(wd:Str)(p:V),v = .ref t/\H6 t=some (.tup [.str wd,p])/\(wd = "ring"∨wd = "paper"):=by
    rw[F9]at hv
    rcases tI hF CC with ⟨N,e⟩ | ⟨r,e⟩
    ·rw[e]at hv
     obtain⟨t,p,a,b,e1,g1,_⟩:=hv
     exact⟨t,_,_,e1,g1, .inr rfl⟩
    ·rw[e]at hv
     obtain⟨t,p,us,e1,g1,_⟩:=hv
     exact⟨t,_,_,e1,g1, .inl rfl⟩
   obtain⟨t,wd,p,rfl,gt,hwd⟩:=key
   refine⟨t,_,0,V.str wd,rfl,rfl,Ba.of gt,rfl,by show 2 <= sizeLine;decide,fun t2 MD=>?_⟩
   refine⟨t2,_,rfl, .inr (Ba.of ad),rfl,rfl,?_⟩
   have e:wn (.str wd) [.str "ring", .str "paper"]=true:=by
    rcases hwd with rfl | rfl
    ·decide +kernel
    ·decide +kernel
   show Q (.bl (wn (.str wd) [.str "ring", .str "paper"])) _
   rw[e]
   exact q _ (sH6.new MD)
end K25
namespace L2
open PySem PySem.Spec
theorem AJ.or {P:Program}{w:World}{K:Frag}{mg:Str->Option Value}{base:Heap}{CX:r9}{k:Nat}{f:Addr}{fd:FuncData}{ps:List Str}{sp IU:Sp}(F:AJ P w K mg base CX k f fd ps sp)(G:AJ P w K mg base CX k f fd ps IU):AJ P w K mg base CX k f fd ps (fun vs H Q E=>sp vs H Q E∨IU vs H Q E) :=
 ⟨fun vs H Q E q=>q.elim (F.len vs H Q E) (G.len vs H Q E),fun A outer s H args us vs Q E hr he hb hv hs=>hs.elim (F.run A outer s H args us vs Q E hr he hb hv) (G.run A outer s H args us vs Q E hr he hb hv)⟩
section
variable {X:Cx}
noncomputable def QH (K:Frag):List V->Hp->VK->Prop:=fun xs H Q=>∃ (v:V)(t:Value)(C:Addr)(b:Bool),xs=[v, .ref C]/\i8 K H v t/\kitOne K t (.ref C)=some b/\Q (.bl b) H
theorem wE:eF X (.builtin "isinstance") (QH X.K):=by
 intro pins s σ H xs us Q I r h
 obtain⟨v,t,c,b,rfl,ty,hk,q⟩:=h
 cases r with
 | cons r1 r2=>cases r2 with
  | cons r2 r3 =>
   cases r3
   cases r2
   exact lJ I r1 ty hk fun tk=>⟨.bl b,H,I.tok _,rfl,q⟩
end
end L2
namespace K25
open PySem L2 LkM
theorem n9 {K:Frag}{H:Hp}:∀ S:List Nat,BJ K H (nV S) (S.map fun k:Nat=>PyData.int (k:Int))
 | [] => .nil
 | k :: S => .cons (.int _) (n9 S)
theorem yU (S:List Nat):DG (.tuple (S.map fun k:Nat=>PyData.int (k:Int))) 64:=(l0 (m:=0) fun z hz=>by
 obtain⟨p,_,rfl⟩:=mem_map.mp hz
 exact rL _).le (by decide)
noncomputable def yT (c:Cs)(ts:Ts)(sp:Addr->eE->Sp):Sp:=fun vs H Q E=>sp ts.rf (JR c ts) vs H Q E∨sp ts.loop (JL ts) vs H Q E∨sp ts.tree (JT ts) vs H Q E
theorem wF {P:Program}{w:World}{K:Frag}{mg:Str->Option Value}{base:Heap}{k:Nat}{f:Addr}{fd:FuncData}{l:List Str}{c:Cs}{ts:Ts}{sp:Addr->eE->Sp}(h1:AJ P w K mg base aC k f fd l (sp ts.rf (JR c ts)))(h2:AJ P w K mg base aC k f fd l (sp ts.loop (JL ts)))(h3:AJ P w K mg base aC k f fd l (sp ts.tree (JT ts))):AJ P w K mg base aC k f fd l (yT c ts sp):=h1.or (h2.or h3)
structure uq (K:Frag)(C near:Addr)(b:Bool):Prop where
 cl:C8 K C
 nl:AW K C "land"
 kt:kitOne K (.ref C) (.ref near)=some b
 ha:findIn K (.ref C) "__class__" = some (some (.builtin "object.__class__"))
 hn:PySem.W.specialIn K (.builtin "object.__class__") "__get__" = some (some (.builtin "getset_descriptor.__get__"))
 DX:PySem.W.takesIn K (.builtin "object.__class__")=some true
 hm:PySem.W.mroIn K C (.type "object")=some true
noncomputable def rK (K:Frag):Sp:=fun vs H Q _=>∃ (a:Addr)(ns:List Int),vs=[.ref a]/\AQ K H a (ns.map V.int)/\ns.length <= 63/\∀ H',Q (.bl true) H'
structure FLw (P:Program)(w:World)(K:Frag)(mg:Str->Option Value)(base:Heap)(c:Cs)(ts:Ts)(ft fn fo ff fm fs fw:Addr)(dt dn Fq df dm ds dw:FuncData):Prop where
 mt:mg "_law_table" = some (.ref ft)
 kt:keepIn K (.ref ft)=true
 bt:Binds K dt ["_law_script"] []
 Gt:AJ P w K mg base aC 8 ft dt ["_law_script"] (qi P w K c ts)
 mn:mg "_law_nearer" = some (.ref fn)
 kn:keepIn K (.ref fn)=true
 bn:Binds K dn ["_law_table_here"] []
 Gn:AJ P w K mg base aC 9 fn dn ["_law_table_here"] (yR P w c ts)
 mo:mg "look" = some (.ref fo)
 ko:keepIn K (.ref fo)=true
 bo:Binds K Fq ["table"] []
 Go:AJ P w K mg base aC 8 fo Fq ["table"] (yT c ts (gk c))
 mf:mg "fault" = some (.ref ff)
 kf:keepIn K (.ref ff)=true
 bf:Binds K df ["table", "paper"] []
 Gf:AJ P w K mg base aC 7 ff df ["table", "paper"] (yT c ts (fM K c))
 mm:mg "met" = some (.ref fm)
 km:keepIn K (.ref fm)=true
 bm:Binds K dm ["table"] []
 Gm:AJ P w K mg base aC 6 fm dm ["table"] (yT c ts (iV c))
 ms:mg "starts" = some (.ref fs)
 ks:keepIn K (.ref fs)=true
 bs:Binds K ds ["table"] []
 Gs:AJ P w K mg base aC 4 fs ds ["table"] (yT c ts (cG c))
 mw:mg "_law_walked" = some (.ref fw)
 kw:keepIn K (.ref fw)=true
 bw:Binds K dw MN []
 Gw:AJ P w K mg base aC 4 fw dw MN (yT c ts (sS c))
 mN:mg "Nearer" = some (.ref ts.near)
 ktt:kitOne K (.type "tuple") (.type "tuple")=some true
 iR:uq K ts.rf ts.near false
 iL:uq K ts.loop ts.near false
 iT:uq K ts.tree ts.near false
 iN:uq K ts.near ts.near true
structure Tri (K:Frag)(c:Cs)(ts:Ts)(C:Addr)(J:eE):Prop where
 i:uq K C ts.near false
 up:∀ (sp:Addr->eE->Sp) vs H Q E,sp C J vs H Q E->yT c ts sp vs H Q E
 st:∀ H H' x lx AN lt n AK ps wy,Bc c C J H x lx AN lt n AK ps wy->AI H H'->Bc c C J H' x lx AN lt n AK ps wy
abbrev QI:List Str:=["_law_script", "_law_table_here", "_law_places", "_law_found", "_law_numbers", "_law_sets", "_law_start", "_law_goal"]
theorem yq {c:Cs}{ts:Ts}{f1 f2 f3:Addr}{d1 d2 d3:FuncData}{H:Hp}{x lx AN lt:Addr}{n:Nat}{AK:List V}{ps:List (Int × Int)}{wy:aX->Nat}(W1:gy K ts.rf f1 d1 (JR c ts))(W2:gy K ts.loop f2 d2 (JL ts))(W3:gy K ts.tree f3 d3 (JT ts))(i1:uq K ts.rf ts.near false)(i2:uq K ts.loop ts.near false)(i3:uq K ts.tree ts.near false)
  (h:um P w c ts H x lx AN lt n AK ps wy):(∃ C J,Tri K c ts C J/\Bc c C J H x lx AN lt n AK ps wy/\AD n ps wy)∨(Bc c ts.near (JN P w ts) H x lx AN lt n AK ps wy/\Nr n ps wy):=by
 cases h with
 | r h o=>exact .inl ⟨_,_,⟨i1,fun sp vs H Q E z => .inl z,fun H H' x lx AN lt n AK ps wy z s=>z.same W1 s⟩,h,o⟩
 | l h o=>exact .inl ⟨_,_,⟨i2,fun sp vs H Q E z => .inr (.inl z),fun H H' x lx AN lt n AK ps wy z s=>z.same W2 s⟩,h,o⟩
 | t h o=>exact .inl ⟨_,_,⟨i3,fun sp vs H Q E z => .inr (.inr z),fun H H' x lx AN lt n AK ps wy z s=>z.same W3 s⟩,h,o⟩
 | n h o=>exact .inr ⟨h,o⟩
theorem Cj:ar QI ["_law_script"] (aj mO):=L2.Bl
theorem zR {c:Cs}{ts:Ts}{f ft fn fo ff fm fs fw f1 f2 f3:Addr}{fd dt dn Fq df dm ds dw d1 d2 d3:FuncData}(F:Bj K "law" "law" mO f fd)(T:eX mg)(L:li K c)(W1:gy K ts.rf f1 d1 (JR c ts))(W2:gy K ts.loop f2 d2 (JL ts))(W3:gy K ts.tree f3 d3 (JT ts))(D:FLw P w K mg base c ts ft fn fo ff fm fs fw dt dn Fq df dm ds dw):AJ P w K mg base aC 10 f fd ["_law_script"] (rK K):=by
 refine F.ok Cj (fun vs H Q E h=>?_) (fun Bb A outer s H vs Q E hr h=>?_)
 ·obtain⟨a,ns,rfl,_⟩:=h
  rfl
 ·obtain⟨a,ns,rfl,hS,Td,q⟩:=h
  have Eb:AU 4 _:=hr.mono (by decide)
  have PQ:AU 6 _:=hr.mono (by decide)
  have QC:AU 7 _:=hr.mono (by decide)
  have Tw:AU 8 _:=hr.mono (by decide)
  have hu:=hr.units
  refine⟨_,(af (au (i:=1) Cj.nd rfl (Or.inl rfl) (aq D.Gt Tw rfl D.mt D.kt D.bt .nil ax (aa (pv 0) ae)))
   (af (au (i:=2) Cj.nd rfl (Or.inl rfl) (aF (aF (pv 1) rfl) rfl))
   (af (aL (cz (aE wE rfl T.Ic PyProof.Rows.boot_isinstance (aa (pv 1) (aa (cC (v := .ref ts.near) rfl D.mN rfl) ae))))
    (ag (ap (aq D.Gn hr rfl D.mn D.kn D.bn .nil ax (aa (pv 1) ae))))
    aA)
   (af (au (i:=3) Cj.nd rfl (Or.inl rfl) (aq D.Go Tw rfl D.mo D.ko D.bo .nil ax (aa (pv 1) ae)))
   (af (aL (PW.pt (jL (dj (cz (aE kL rfl T.Ic PyProof.Rows.boot_isinstance (aa (pv 3) (aa (gY (v := .ty "tuple") rfl T.tuple PySem.Pv.boot_tuple rfl) ae))))) (jL (ay eV (aE aD rfl T.len PySem.boot_len (aa (pv 3) ae)) am (a9 _)) (jL (ay eV (aU Bd (pv 3) am (fun _ _=>rfl)) dq (a9 _)) (jK (ay fR (aq D.Gf QC rfl D.mf D.kf D.bf .nil ax (aa (pv 1) (aa (aU Bd (pv 3) am (fun _ _=>rfl)) ae))) bE (a9 _)))))))
    (ag (ap jU))
    aA)
   (af (qG (aU Bd (pv 3) am (fun _ _=>rfl)) (c7 rfl (aG (ao (i:=4) Cj.nd rfl (Or.inl rfl)) (aG (ao (i:=5) Cj.nd rfl (Or.inl rfl)) bW))))
   (af (aL (PW.pt (jL (ay (zE hu) (pv 5) (aq D.Gm PQ rfl D.mm D.km D.bm .nil ax (aa (pv 1) ae)) (a9 _)) (jK (ay eV (aE aD rfl T.len PySem.boot_len (aa (aq D.Gs Eb rfl D.ms D.ks D.bs .nil ax (aa (pv 1) ae)) ae)) (az dv (pv 2) (az c8 (pv 2) am)) (a9 _)))))
    (ag (ap jU))
    aA)
   (af (aK PassesOwn.never rfl (aR rfl T.range (aa (pv 2) ae)) (ao (i:=6) Cj.nd rfl (Or.inl rfl))
    (ag (aK PassesOwn.never rfl (aR rfl T.range (aa (pv 2) ae)) (ao (i:=7) Cj.nd rfl (Or.inl rfl))
    (ag (aL (dj (cz (aq D.Gw Eb rfl D.mw D.kw D.bw .nil ax (aa (pv 1) (aa (pv 4) (aa (pv 5) (aa (pv 6) (aa (pv 7) ae))))))))
    (ag (ap jU))
    aA)))))
   (ag (ap jU)))))))))),?_⟩
  refine⟨_,rfl,a,ns,rfl,hS,Td,fun x lx AN lt n AK ps wy H1 s1 hA=>?_⟩
  rcases yq W1 W2 W3 D.iR D.iL D.iT hA with ⟨C,J,R,hT,hO⟩ | ⟨hT,hN⟩
  rotate_left
  ·obtain⟨dx,fl,hx,Ed⟩:=hT.i
   refine⟨_,rfl,x,ts.near,dx,_,_,rfl,hx,D.iN.cl,D.iN.nl,Ed,lx,c.land,AN,_,_,rfl,hT.l.1,L.cl,L.np,rfl,?_⟩
   refine⟨_,rfl,_,_,_,true,rfl, .ins hx D.iN.cl D.iN.ha D.iN.hn D.iN.DX D.iN.hm,D.iN.kt,_,rfl,aI ?_⟩
   exact⟨_,rfl,x,lx,AN,lt,n,AK,ps,wy,rfl,hT,hN,fun H' s'=>q _⟩
  obtain⟨dx,fl,hx,Ed⟩:=hT.i
  obtain⟨Tx,Tz,S0,QJ⟩:=hO
  have CB:=hT.CB
  refine⟨_,rfl,x,C,dx,_,_,rfl,hx,R.i.cl,R.i.nl,Ed,lx,c.land,AN,_,_,rfl,hT.l.1,L.cl,L.np,rfl,?_⟩
  refine⟨_,rfl,_,_,_,false,rfl, .ins hx R.i.cl R.i.ha R.i.hn R.i.DX R.i.hm,R.i.kt,_,rfl,aH ?_⟩
  refine⟨_,rfl,R.up (gk c) _ _ _ _ ⟨x,lx,AN,lt,n,AK,ps,wy,rfl,hT,fun v H2 s2 hv=>?_⟩⟩
  obtain⟨N,hN⟩:=(QJ.less hT.ok).look.2
  rw[hN]at hv
  have DR:=vn hT.ok hN
  generalize K1:cc wy ps n n=S at hv DR
  obtain⟨t,p,na,sa,rfl,gt,gp,T1,QK⟩:=hv
  have EF:=R.st _ _ _ _ _ _ _ _ _ _ hT s2
  have CK:=DR.sl
  have BB:=hT.By
  refine⟨_,rfl,_,_,_,true,rfl, .tup gt,D.ktt,_,rfl,aH ?_⟩
  refine⟨_,rfl,t,_,rfl, .inr (Ba.of gt),rfl,_,rfl,aH ?_⟩
  refine⟨_,rfl,t,_,0,_,rfl,rfl,Ba.of gt,rfl,rfl,_,rfl,pf rfl ?_⟩
  refine⟨_,rfl,_,rfl,t,_,1,_,rfl,rfl,Ba.of gt,rfl,R.up (fM K c) _ _ _ _ ⟨x,lx,AN,lt,p,na,sa,n,AK,ps,wy,iz N,iz S,rfl,EF,gp,?_,?_,by unfold iz;rw[length_map];omega,fun v H3 s3 hv=>?_⟩⟩
  ·rw[wf];exact .inr (Ba.of T1)
  ·rw[wf];exact .inr (Ba.of QK)
  rw[(Ak CB).mpr DR]at hv
  have hv:v = .AZ:=hv
  subst hv
  refine⟨rfl,_,rfl,aH ?_⟩
  have FZ:=R.st _ _ _ _ _ _ _ _ _ _ EF s3
  have Q6:=s3 _ _ (s2 _ _ hx)
  refine⟨_,rfl,t,_,1,_,rfl,rfl,Ba.of (s3 _ _ gt),rfl,?_⟩
  refine⟨p,_,rfl,Ba.of (s3 _ _ gp),rfl,_,_,rfl,_,_,rfl,rfl,?_⟩
  refine⟨_,rfl,_,rfl,R.up (iV c) _ _ _ _ ⟨x,lx,AN,lt,n,AK,ps,wy,rfl,FZ,fun M H4 s4 hM gM=>?_⟩⟩
  rw[K1]at gM
  refine neS (d := .tuple (S.map fun k:Nat=>PyData.int (k:Int))) (.tup (Ba.of (s4 _ _ (s3 _ _ QK))) (n9 S)) (.tup (Ba.of gM) (n9 S)) (yU S) ⟨_,rfl,aH ?_⟩
  have QL:=R.st _ _ _ _ _ _ _ _ _ _ FZ s4
  refine⟨_,rfl,R.up (cG c) _ _ _ _ ⟨x,dx,lx,AN,lt,fl,n,AK,ps,wy,rfl,QL.j,s4 _ _ Q6,Ed,QL.l,CB,fun St us H5 s5 hSt QE QF=>?_⟩⟩
  have M7:us.length=n * (n - 1):=by rw[Paired.length QF,jB Tx n (Nat.le_refl _)]
  refine⟨St,_,rfl, .inl (AQ.of QE),_,rfl,_,rfl,_,_,rfl,rfl,_,_,rfl,rfl, .inl ⟨by omega,by omega⟩,rfl,_,rfl,?_⟩
  have QM:V.int ((us.length:Nat):Int)=V.int ((n:Int) * ((n:Int) - 1)):=by
   rw[M7]
   congr 1
   cases n with
   | zero=>rfl
   | succ k=>rw[Nat.add_sub_cancel,Int.natCast_mul,natCast_add];congr 1;omega
  refine pf QM ?_
  have QN:=s5 _ _ (s4 _ _ (s3 _ _ T1))
  have QO:=s5 _ _ (s4 _ _ (s3 _ _ QK))
  have QG:=R.st _ _ _ _ _ _ _ _ _ _ QL s5
  refine⟨_,rfl,(n:Int),rfl,by omega,by omega,?_⟩
  rw[toNat_natCast]
  refine aZ (n:=n) (fun i σ H6=>∃ (a6 a7:Option V),AI H5 H6/\σ=[some (.ref a),some (.ref x),some (.int n),some (.ref t),some (.ref na),some (.ref sa),a6,a7]) ⟨none,none,AI.refl _,rfl⟩ ?_ ?_
  ·rintro i σ H6 hi ⟨a6,a7,s6,rfl⟩
   have ei:(0:Int) + (i:Int)=(i:Int):=by omega
   rw[ei]
   refine⟨_,rfl,(n:Int),rfl,by omega,by omega,?_⟩
   rw[toNat_natCast]
   refine aZ (n:=n) (fun j σ H7=>∃ (a7:Option V),AI H5 H7/\σ=[some (.ref a),some (.ref x),some (.int n),some (.ref t),some (.ref na),some (.ref sa),some (.int (i:Int)),a7]) ⟨a7,s6,rfl⟩ ?_ ?_
   ·rintro j σ H7 hj ⟨a7,s7,rfl⟩
    have ej:(0:Int) + (j:Int)=(j:Int):=by omega
    rw[ej]
    refine⟨_,rfl,_,rfl,_,rfl,_,rfl,_,rfl,R.up (sS c) _ _ _ _ ⟨x,lx,AN,lt,na,sa,n,AK,ps,wy,N,S,i,j,rfl,R.st _ _ _ _ _ _ _ _ _ _ QG s7,s7 _ _ QN,s7 _ _ QO,DR,Tx,hi,hj,fun H8 s8=>⟨_,rfl,aH ⟨_,s7.trans s8,rfl⟩⟩⟩⟩
   ·rintro σ H7 ⟨a7,s7,rfl⟩
    exact⟨_,_,s7,rfl⟩
  ·rintro σ H6 ⟨a6,a7,s6,rfl⟩
   exact q _
theorem len_of0 {α:Type}{P:List α->Prop}(h:P []):∀ us:List α,us.length=0->P us
 | [],_=>h
theorem len_of1 {α:Type}{P:List α->Prop}(h:∀ a0,P [a0]):∀ us:List α,us.length=1->P us
 | [a0],_=>h a0
theorem len_of2 {α:Type}{P:List α->Prop}(h:∀ a0 a1,P [a0,a1]):∀ us:List α,us.length=2->P us
 | [a0,a1],_=>h a0 a1
theorem len_of3 {α:Type}{P:List α->Prop}(h:∀ a0 a1 a2,P [a0,a1,a2]):∀ us:List α,us.length=3->P us
 | [a0,a1,a2],_=>h a0 a1 a2
theorem len_of4 {α:Type}{P:List α->Prop}(h:∀ a0 a1 a2 a3,P [a0,a1,a2,a3]):∀ us:List α,us.length=4->P us
 | [a0,a1,a2,a3],_=>h a0 a1 a2 a3
theorem len_of5 {α:Type}{P:List α->Prop}(h:∀ a0 a1 a2 a3 a4,P [a0,a1,a2,a3,a4]):∀ us:List α,us.length=5->P us
 | [a0,a1,a2,a3,a4],_=>h a0 a1 a2 a3 a4
structure FT (K:Frag)(mg:Str->Option Value)(n:Str)(st:Stmt)(ps:List Str)(f:Addr)(fd:FuncData):Prop where
 F:Bj K n n st f fd
 m:mg n=some (.ref f)
 k:keepIn K (.ref f)=true
 b:Binds K fd ps []
structure FM (K:Frag)(C:Addr)(n q:Str)(st:Stmt)(ps:List Str)(f:Addr)(fd:FuncData):Prop where
 F:Bj K n q st f fd
 m:g8 K C n f
 b:Binds K fd ps []
section
variable {K:Frag}{mg:Str->Option Value}{C f:Addr}{n q:Str}{st:Stmt}{ps:List Str}{h:Heap}{oc:Value}{od an:Option Addr}{EK:Array (Option Value)}{kV doc pm Bb ct:Value}
theorem mkT (X:K.In h)(G:h.Ns mainGlobals mg)(hb:∀ (kV doc pm:Value) (an:Option Addr) (Bb ct:Value) (us:List Value),us.length=ps.length->bindArgs (fnOf n n (cF st) (aP st) (aj st) .none kV doc pm an Bb ct) ⟨us,[]⟩ = pure (ps.zip us))
  (a:nsIn K mainGlobals n=some (some (.ref f))) (l:K.lookup f=some ⟨oc,od, .func (fnOf n n (cF st) (aP st) (aj st) .none kV doc pm an Bb ct),EK⟩) (c:codeIn K Bb n=true) (k:keepIn K (.ref f)=true):∃ fd,FT K mg n st ps f fd :=
 ⟨_,kD l c k,mg_of X G a,k,(kD l c k).binds hb⟩
theorem mkM (hb:∀ (kV doc pm:Value) (an:Option Addr) (Bb ct:Value) (us:List Value),us.length=ps.length->bindArgs (fnOf n q (cF st) (aP st) (aj st) .none kV doc pm an Bb ct) ⟨us,[]⟩ = pure (ps.zip us))
  (a:findIn K (.ref C) n=some (some (.ref f))) (l:K.lookup f=some ⟨oc,od, .func (fnOf n q (cF st) (aP st) (aj st) .none kV doc pm an Bb ct),EK⟩) (c:codeIn K Bb q=true) (k:keepIn K (.ref f)=true) (i:isFn K (.ref f)=true):∃ fd,FM K C n q st ps f fd :=
 ⟨_,kD l c k,⟨a,i,k⟩,(kD l c k).binds hb⟩
end
section
variable {l:PySem.W.OpenLaw}{w:World}{K:Frag}{h:Heap}{mg:Str->Option Value}{fa cL cB cR cO cE cN f1 f2 f3 f4 f5 f6 f7 f8 f9 T2 Jr T3 QP T4 T5 T6 T7 T8 QQ T9 TB TC TF TH TJ TK TL TM TN TQ TU QR TV TX TY TZ Ua QS Ub Uc QT QU Ud MO Ue Ug HG QV QW QX QY QZ Ra Rb Rf Rg Rh:Addr}{t1 t2:Tok}
theorem all_mk (X:K.In h)(G:h.Ns mainGlobals mg)(C0:mg "law" = some (.ref fa))
  {Ri LF:Option Addr} {Rj:Array (Option Value)} {Rk LG LH LI HH LJ:Value}
  (gcL:nsIn K mainGlobals "Land" = some (some (.ref cL)))
  (gcB:nsIn K mainGlobals "Table" = some (some (.ref cB)))
  (gcR:nsIn K mainGlobals "RowFirst" = some (some (.ref cR)))
  (gcO:nsIn K mainGlobals "Loop" = some (some (.ref cO)))
  (gcE:nsIn K mainGlobals "Tree" = some (some (.ref cE)))
  (gcN:nsIn K mainGlobals "Nearer" = some (some (.ref cN)))
  (h1:∃ d,FT K mg "has" xk ["some", "number"] f1 d)
  (h2:∃ d,FT K mg "members" uT ["some"] f2 d)
  (h3:∃ d,FT K mg "set_of" ze ["numbers"] f3 d)
  (h4:∃ d,FT K mg "is_whole" gm ["value"] f4 d)
  (h5:∃ d,FT K mg "is_within" jm ["value", "least", "most"] f5 d)
  (h6:∃ d,FT K mg "are_two_places" za ["places", "one", "other"] f6 d)
  (h7:∃ d,FT K mg "onward" OU ["table", "lane", "goal"] f7 d)
  (h8:∃ d,FT K mg "starts" mM ["table"] f8 d)
  (h9:∃ d,FT K mg "first_lanes" qB ["table", "goal"] f9 d)
  (h10:∃ d,FT K mg "lanes_ahead" qF ["table", "goal"] T2 d)
  (h11:∃ d,FT K mg "met" uS ["table"] Jr d)
  (h12:∃ d,FT K mg "is_lost" mP ["table", "lane", "goal"] T3 d)
  (h13:∃ d,FT K mg "lost" uU ["table"] QP d)
  (h14:∃ d,FT K mg "leads_of" jC ["table", "sets"] T4 d)
  (h15:∃ d,FT K mg "lanes_next" o9 ["leads", "numbers"] T5 d)
  (h16:∃ d,FT K mg "number_lanes" uQ ["leads"] T6 d)
  (h17:∃ d,FT K mg "walk_back" jD ["leads", "numbers"] T7 d)
  (h18:∃ d,FT K mg "find_ring" o8 ["leads", "numbers"] T8 d)
  (h19:∃ d,FT K mg "look" oB ["table"] QQ d)
  (h20:∃ d,FT K mg "is_size" qx ["wide", "high"] T9 d)
  (h21:∃ d,FT K mg "places_beside" zi ["wide", "high", "place"] TB d)
  (h22:∃ d,FT K mg "row_lanes" o7 ["wide", "high"] TC d)
  (h23:∃ d,FT K mg "are_parents" uO ["parents"] TF d)
  (h24:∃ d,FT K mg "tree_lanes" zb ["parents"] TH d)
  (h25:∃ d,FT K mg "how_far" zg ["land", "goal"] TJ d)
  (h26:∃ d,FT K mg "nearer_lanes" Kh ["land", "far", "place"] TK d)
  (h27:∃ d,FT K mg "has_size" o5 ["land", "numbers", "sets"] TL d)
  (h28:∃ d,FT K mg "start_fault" zd ["table", "sets"] TM d)
  (h29:∃ d,FT K mg "way_fault" uM ["numbers", "sets", "lane", "goal", "way"] TN d)
  (h30:∃ d,FT K mg "pair_fault" qz ["table", "numbers", "sets", "lane", "goal"] TQ d)
  (h31:∃ d,FT K mg "lane_fault" q5 ["table", "numbers", "sets", "lane"] TU d)
  (h32:∃ d,FT K mg "fault" qC ["table", "paper"] QR d)
  (h33:∃ d,FT K mg "_law_cell_at" uV ["_law_script", "_law_k"] TV d)
  (h34:∃ d,FT K mg "_law_mixed" zf ["_law_cell", "_law_k"] TX d)
  (h35:∃ d,FT K mg "_law_draws" qD ["_law_cell", "_law_amount", "_law_base"] TY d)
  (h36:∃ d,FT K mg "_law_sizes" qw [] TZ d)
  (h37:∃ d,FT K mg "_law_table" oC ["_law_script"] Ua d)
  (h38:∃ d,FT K mg "_law_walked" mL ["_law_table_here", "_law_numbers", "_law_sets", "_law_start", "_law_goal"] QS d)
  (h39:∃ d,FT K mg "_law_reached" qy ["_law_land", "_law_goal"] Ub d)
  (h40:∃ d,FT K mg "_law_nearer" qA ["_law_table_here"] Uc d)
  (a41:nsIn K mainGlobals "law" = some (some (.ref QT)))
  (l41:K.lookup QT=some ⟨Rk,Ri, .func (fnOf "law" "law" (cF mO) (aP mO) (aj mO) .none LG LH LI LF HH LJ),Rj⟩)
  (c41:codeIn K HH "law" = true)
  (k41:keepIn K (.ref QT)=true)
  (h42:∃ d,FM K cL "__init__" "Land.__init__" oF ["self", "places", "lanes"] QU d)
  (h43:∃ d,FM K cL "start_of" "Land.start_of" qv ["self", "lane"] Ud d)
  (h44:∃ d,FM K cL "end_of" "Land.end_of" zh ["self", "lane"] MO d)
  (h45:∃ d,FM K cL "out_of" "Land.out_of" uP ["self", "place"] Ue d)
  (h46:∃ d,FM K cL "into" "Land.into" oE ["self", "place"] Ug d)
  (h47:∃ d,FM K cB "__init__" "Table.__init__" zc ["self", "land"] HG d)
  (h48:∃ d,FM K cR "__init__" "RowFirst.__init__" OV ["self", "wide", "high"] QV d)
  (h49:∃ d,FM K cR "ways" "RowFirst.ways" qr ["self", "place", "goal", "came"] QW d)
  (h50:∃ d,FM K cR "next_place" "RowFirst.next_place" q0 ["self", "place", "goal"] QX d)
  (h51:∃ d,FM K cO "__init__" "Loop.__init__" oA ["self", "many"] QY d)
  (h52:∃ d,FM K cO "ways" "Loop.ways" qu ["self", "place", "goal", "came"] QZ d)
  (h53:∃ d,FM K cE "__init__" "Tree.__init__" uN ["self", "parents"] Ra d)
  (h54:∃ d,FM K cE "ways" "Tree.ways" qq ["self", "place", "goal", "came"] Rb d)
  (h55:∃ d,FM K cE "child_towards" "Tree.child_towards" qE ["self", "place", "goal"] Rf d)
  (h56:∃ d,FM K cN "__init__" "Nearer.__init__" uR ["self", "land"] Rg d)
  (h57:∃ d,FM K cN "ways" "Nearer.ways" qt ["self", "place", "goal", "came"] Rh d)
  (mp:nsIn K mainGlobals "MOST_PLACES" = some (some (.int 12 t1)))
  (ml:nsIn K mainGlobals "MOST_LANES" = some (some (.int 40 t2)))
  (p1cL:plainGet K cL Str.empty=true)
  (p2cL:hasDictIn K cL=true)
  (p3cL:plainOver K cL=true)
  (p4cL:findIn K (.ref cL) "__setattr__" = some (some (.builtin "object.__setattr__")))
  (p5cL:makesIn K cL=true)
  (p6cL:keepIn K (.ref cL)=true)
  (ncLplaces:findIn K (.ref cL) "places" = some none)
  (ncLlanes:findIn K (.ref cL) "lanes" = some none)
  (p1cR:plainGet K cR Str.empty=true)
  (p2cR:hasDictIn K cR=true)
  (p3cR:plainOver K cR=true)
  (p4cR:findIn K (.ref cR) "__setattr__" = some (some (.builtin "object.__setattr__")))
  (p5cR:makesIn K cR=true)
  (p6cR:keepIn K (.ref cR)=true)
  (ncRland:findIn K (.ref cR) "land" = some none)
  (ncRwide:findIn K (.ref cR) "wide" = some none)
  (p1cO:plainGet K cO Str.empty=true)
  (p2cO:hasDictIn K cO=true)
  (p3cO:plainOver K cO=true)
  (p4cO:findIn K (.ref cO) "__setattr__" = some (some (.builtin "object.__setattr__")))
  (p5cO:makesIn K cO=true)
  (p6cO:keepIn K (.ref cO)=true)
  (ncOland:findIn K (.ref cO) "land" = some none)
  (ncOmany:findIn K (.ref cO) "many" = some none)
  (p1cE:plainGet K cE Str.empty=true)
  (p2cE:hasDictIn K cE=true)
  (p3cE:plainOver K cE=true)
  (p4cE:findIn K (.ref cE) "__setattr__" = some (some (.builtin "object.__setattr__")))
  (p5cE:makesIn K cE=true)
  (p6cE:keepIn K (.ref cE)=true)
  (ncEland:findIn K (.ref cE) "land" = some none)
  (ncEparents:findIn K (.ref cE) "parents" = some none)
  (p1cN:plainGet K cN Str.empty=true)
  (p2cN:hasDictIn K cN=true)
  (p3cN:plainOver K cN=true)
  (p4cN:findIn K (.ref cN) "__setattr__" = some (some (.builtin "object.__setattr__")))
  (p5cN:makesIn K cN=true)
  (p6cN:keepIn K (.ref cN)=true)
  (ncNland:findIn K (.ref cN) "land" = some none)
  (ncNentries:findIn K (.ref cN) "entries" = some none)
  (w1cB:PySem.W.readsIn K cB (.type "type")=true)
  (w2cB:PySem.W.findCls K (.ref cB) (.type "type") "__init__" = some (.val (.ref HG)))
  (w3cB:PySem.W.specialIn K (.ref cB) "__getattribute__" = some (some (.builtin "type.__getattribute__")))
  (kk1:kitOne K (.type "int") (.type "int")=some true)
  (kk2:kitOne K (.type "int") (.type "bool")=some false)
  (kk3:kitOne K (.type "bool") (.type "int")=some true)
  (kk4:kitOne K (.type "bool") (.type "bool")=some true)
  (kk5:kitOne K (.type "NoneType") (.type "int")=some false)
  (kk6:kitOne K (.type "tuple") (.type "tuple")=some true)
  (kg1:PySem.W.specialIn K (.builtin "object.__class__") "__get__" = some (some (.builtin "getset_descriptor.__get__")))
  (kg2:PySem.W.takesIn K (.builtin "object.__class__")=some true)
  (i1cR:kitOne K (.ref cR) (.ref cN)=some false)
  (i2cR:findIn K (.ref cR) "__class__" = some (some (.builtin "object.__class__")))
  (i3cR:PySem.W.mroIn K cR (.type "object")=some true)
  (i1cO:kitOne K (.ref cO) (.ref cN)=some false)
  (i2cO:findIn K (.ref cO) "__class__" = some (some (.builtin "object.__class__")))
  (i3cO:PySem.W.mroIn K cO (.type "object")=some true)
  (i1cE:kitOne K (.ref cE) (.ref cN)=some false)
  (i2cE:findIn K (.ref cE) "__class__" = some (some (.builtin "object.__class__")))
  (i3cE:PySem.W.mroIn K cE (.type "object")=some true)
  (i1cN:kitOne K (.ref cN) (.ref cN)=some true)
  (i2cN:findIn K (.ref cN) "__class__" = some (some (.builtin "object.__class__")))
  (i3cN:PySem.W.mroIn K cN (.type "object")=some true)
  (z0:nsIn K mainGlobals "isinstance" = some none)
  (z1:nsIn K mainGlobals "int" = some none)
  (z2:nsIn K mainGlobals "bool" = some none)
  (z3:nsIn K mainGlobals "len" = some none)
  (z4:nsIn K mainGlobals "enumerate" = some none)
  (z5:nsIn K mainGlobals "tuple" = some none)
  (z6:nsIn K mainGlobals "range" = some none)
  (z7:nsIn K mainGlobals "list" = some none)
  (z8:nsIn K mainGlobals "all" = some none)
  (z9:nsIn K mainGlobals "min" = some none)
  (z10:nsIn K mainGlobals "reversed" = some none)
  (z11:nsIn K mainGlobals "zip" = some none)
  (z12:nsIn K mainGlobals "sorted" = some none)
  : ∃ fd:FuncData,(∀ (s:Shared)(v:Value),BindsTo s fd ⟨[v],[]⟩ [("_law_script",v)])/\∀ base:Heap,K.In base->base.Ns mainGlobals mg->AJ l.prog w K mg base aC 10 fa fd ["_law_script"] (rK K):=by
 have e:=C0.symm.trans (mg_of X G a41)
 cases e
 have T:eX mg:=⟨mg_none_of X G z0,mg_none_of X G z1,mg_none_of X G z2,mg_none_of X G z3,mg_none_of X G z4,mg_none_of X G z5,mg_none_of X G z6,mg_none_of X G z7,mg_none_of X G z8,mg_none_of X G z9,mg_none_of X G z10,mg_none_of X G z11,mg_none_of X G z12⟩
 obtain⟨d1,H1⟩:=h1
 obtain⟨d2,H2⟩:=h2
 obtain⟨d3,H3⟩:=h3
 obtain⟨d4,H4⟩:=h4
 obtain⟨d5,H5⟩:=h5
 obtain⟨d6,H6⟩:=h6
 obtain⟨d7,H7⟩:=h7
 obtain⟨d8,H8⟩:=h8
 obtain⟨d9,H9⟩:=h9
 obtain⟨d10,F3⟩:=h10
 obtain⟨d11,Fs⟩:=h11
 obtain⟨d12,MQ⟩:=h12
 obtain⟨d13,HJ⟩:=h13
 obtain⟨d14,MR⟩:=h14
 obtain⟨d15,MS⟩:=h15
 obtain⟨d16,MT⟩:=h16
 obtain⟨d17,MU⟩:=h17
 obtain⟨d18,MV⟩:=h18
 obtain⟨d19,HK⟩:=h19
 obtain⟨d20,MW⟩:=h20
 obtain⟨d21,MX⟩:=h21
 obtain⟨d22,MY⟩:=h22
 obtain⟨d23,MZ⟩:=h23
 obtain⟨d24,Na⟩:=h24
 obtain⟨d25,Nb⟩:=h25
 obtain⟨d26,Nc⟩:=h26
 obtain⟨d27,Nd⟩:=h27
 obtain⟨d28,Nf⟩:=h28
 obtain⟨d29,Ng⟩:=h29
 obtain⟨d30,Nh⟩:=h30
 obtain⟨d31,Ni⟩:=h31
 obtain⟨d32,Nj⟩:=h32
 obtain⟨d33,Nk⟩:=h33
 obtain⟨d34,Nl⟩:=h34
 obtain⟨d35,Nm⟩:=h35
 obtain⟨d36,Nn⟩:=h36
 obtain⟨d37,Np⟩:=h37
 obtain⟨d38,Nq⟩:=h38
 obtain⟨d39,Nt⟩:=h39
 obtain⟨d40,Nu⟩:=h40
 obtain⟨d42,HL⟩:=h42
 obtain⟨d43,Rl⟩:=h43
 obtain⟨d44,LK⟩:=h44
 obtain⟨d45,Rm⟩:=h45
 obtain⟨d46,Ro⟩:=h46
 obtain⟨d47,Gk⟩:=h47
 obtain⟨d48,Nv⟩:=h48
 obtain⟨d49,Rp⟩:=h49
 obtain⟨d50,Rq⟩:=h50
 obtain⟨d51,Nw⟩:=h51
 obtain⟨d52,Rr⟩:=h52
 obtain⟨d53,Ny⟩:=h53
 obtain⟨d54,Rt⟩:=h54
 obtain⟨d55,Ru⟩:=h55
 obtain⟨d56,Nz⟩:=h56
 obtain⟨d57,Rv⟩:=h57
 have F41:=kD (st:=mO) l41 c41 k41
 have L:li K ⟨cL⟩:=⟨⟨p1cL,p2cL,p3cL,p4cL⟩,ncLplaces,ncLlanes⟩
 have Z:wO K:=⟨kk1,kk2,kk3,kk4,kk5⟩
 have BR:MH K mg ⟨cB,cR,cO,cE,cN⟩ HG _:=⟨⟨p1cR,p2cR,p3cR,p4cR⟩,ncRland,ncRwide,(mg_of X G gcB),⟨w1cB,w2cB,w3cB,Gk.m.kp⟩,Gk.b⟩
 have BL:A6 K mg ⟨cB,cR,cO,cE,cN⟩ HG _:=⟨⟨p1cO,p2cO,p3cO,p4cO⟩,ncOland,ncOmany,(mg_of X G gcB),⟨w1cB,w2cB,w3cB,Gk.m.kp⟩,Gk.b⟩
 have BT:yt K mg ⟨cB,cR,cO,cE,cN⟩ HG _:=⟨⟨p1cE,p2cE,p3cE,p4cE⟩,ncEland,ncEparents,(mg_of X G gcB),⟨w1cB,w2cB,w3cB,Gk.m.kp⟩,Gk.b⟩
 have BN:A5 K mg ⟨cB,cR,cO,cE,cN⟩ HG _:=⟨⟨p1cN,p2cN,p3cN,p4cN⟩,ncNland,ncNentries,(mg_of X G gcB),⟨w1cB,w2cB,w3cB,Gk.m.kp⟩,Gk.b⟩
 have ME:wQ K ⟨cL⟩ MO _:=⟨LK.m,LK.b⟩
 have LM:Lm K ⟨cL⟩ Ud MO Ue Ug _ _ _ _:=⟨Rl.m,Rl.b,LK.m,LK.b,Rm.m,Rm.b,Ro.m,Ro.b⟩
 have Mi:Mk K cL QU:=⟨p5cL,HL.m.at_,HL.m.fn,p6cL⟩
 have Mr:Mk K cR QV:=⟨p5cR,Nv.m.at_,Nv.m.fn,p6cR⟩
 have Ml:Mk K cO QY:=⟨p5cO,Nw.m.at_,Nw.m.fn,p6cO⟩
 have Mt:Mk K cE Ra:=⟨p5cE,Ny.m.at_,Ny.m.fn,p6cE⟩
 have Mn:Mk K cN Rg:=⟨p5cN,Nz.m.at_,Nz.m.fn,p6cN⟩
 have iR:uq K cR cN false:=⟨⟨p1cR,p2cR,p3cR,p4cR⟩,ncRland,i1cR,i2cR,kg1,kg2,i3cR⟩
 have iL:uq K cO cN false:=⟨⟨p1cO,p2cO,p3cO,p4cO⟩,ncOland,i1cO,i2cO,kg1,kg2,i3cO⟩
 have iT:uq K cE cN false:=⟨⟨p1cE,p2cE,p3cE,p4cE⟩,ncEland,i1cE,i2cE,kg1,kg2,i3cE⟩
 have iN:uq K cN cN true:=⟨⟨p1cN,p2cN,p3cN,p4cN⟩,ncNland,i1cN,i2cN,kg1,kg2,i3cN⟩
 refine⟨fnOf "law" "law" (cF mO) (aP mO) (aj mO) .none LG LH LI LF HH LJ,fun s v => .of_eq rfl,fun base _ _=>?_⟩
 have Gm:AJ l.prog w K mg base aC 2 f2 _ _ lz:=zQ H2.F T H1.m H1.F H1.b
 have Gw:AJ l.prog w K mg base aC 2 f5 _ _ dZ:=t6 H5.F T H4.m H4.F H4.b
 have GwV:AJ l.prog w K mg base aC 2 f5 _ _ i9:=qO H5.F T Z H4.m H4.F H4.b
 have G2:AJ l.prog w K mg base aC 3 f6 _ _ u7:=zH H6.F H5.m H5.k H5.b Gw
 have Gi:AJ l.prog w K mg base aC 4 QU _ _ (iA K ⟨cL⟩):=xN HL.F T L H5.m H5.k H5.b Gw H6.m H6.k H6.b G2 (mg_of X G mp) (mg_of X G ml)
 have G1:AJ l.prog w K mg base aC 1 HG _ _ (ly K):=zJ Gk.F
 have Gse:AJ l.prog w K mg base aC 1 f3 _ _ (uA K):=zL H3.F
 have Ge:AJ l.prog w K mg base aC 1 MO _ _ (mH ⟨cL⟩ Prod.snd):=zT LK.F L
 have Gsz:AJ l.prog w K mg base aC 2 T9 _ _ m8:=v8 MW.F T H4.m H4.F H4.b (mg_of X G mp)
 have Gbe:AJ l.prog w K mg base aC 1 TB _ _ uG:=zU MX.F
 have Grl:AJ l.prog w K mg base aC 2 TC _ _ qc:=xD MY.F T MX.m MX.k MX.b Gbe
 have Gir:AJ l.prog w K mg base aC 6 QV _ _ (yP ⟨cL⟩ ⟨cB,cR,cO,cE,cN⟩):=Ll Nv.F BR G1 MW.m MW.k MW.b Gsz MY.m MY.k MY.b Grl Mi (mg_of X G gcL) HL.b Gi
 have Gil:AJ l.prog w K mg base aC 6 QY _ _ (qh ⟨cL⟩ ⟨cB,cR,cO,cE,cN⟩):=xK Nw.F T BL G1 H5.m H5.k H5.b Gw Mi (mg_of X G gcL) HL.b Gi (mg_of X G mp)
 have Gpa:AJ l.prog w K mg base aC 3 TF _ _ (uC K):=zM MZ.F T H5.m H5.k H5.b GwV (mg_of X G mp)
 have Gtr:AJ l.prog w K mg base aC 1 TH _ _ (u8 K):=zI Na.F T
 have Git:AJ l.prog w K mg base aC 6 Ra _ _ (qa K ⟨cL⟩ ⟨cB,cR,cO,cE,cN⟩):=xB Ny.F T BT G1 MZ.m MZ.k MZ.b Gpa Na.m Na.k Na.b Gtr Mi (mg_of X G gcL) HL.b Gi
 have Gho:AJ l.prog w K mg base aC 2 TJ _ _ (uE ⟨cL⟩):=zS Nb.F T L LM (v6 Rl.F L) (xM Ro.F T L)
 have Gnl:AJ l.prog w K mg base aC 2 TK _ _ (yQ ⟨cL⟩):=Lu Nc.F T L LM Ge (zN Rm.F T L)
 have Gin:AJ l.prog w K mg base aC 3 Rg _ _ (qg l.prog w ⟨cL⟩ ⟨cB,cR,cO,cE,cN⟩):=xH Nz.F T L BN G1 Nb.m Nb.k Nb.b Gho Nc.m Nc.k Nc.b Gnl H3.m H3.k H3.b Gse
 have Gnp:AJ l.prog w K mg base aC 1 QX _ _ (mB ⟨cB,cR,cO,cE,cN⟩):=vB Rq.F BR
 have Gch:AJ l.prog w K mg base aC 1 Rf _ _ (mG ⟨cB,cR,cO,cE,cN⟩):=vI Ru.F BT
 have NX:Nx K ⟨cB,cR,cO,cE,cN⟩ QX _:=⟨Rq.m,Rq.b⟩
 have CH:Ch K ⟨cB,cR,cO,cE,cN⟩ Rf _:=⟨Ru.m,Ru.b⟩
 have Wr:AJ l.prog w K mg base aC 3 QW _ _ (cu (JR ⟨cL⟩ ⟨cB,cR,cO,cE,cN⟩)):=(L5 (x9 Rp.F L BR NX Gnp)).mono (by decide)
 have Wl:AJ l.prog w K mg base aC 3 QZ _ _ (cu (JL ⟨cB,cR,cO,cE,cN⟩)):=(L6 (v5 Rr.F BL)).mono (by decide)
 have Wt:AJ l.prog w K mg base aC 3 Rb _ _ (cu (JT ⟨cB,cR,cO,cE,cN⟩)):=(L7 (vz Rt.F BT CH Gch)).mono (by decide)
 have Wn:AJ l.prog w K mg base aC 3 Rh _ _ (cu (JN l.prog w ⟨cB,cR,cO,cE,cN⟩)):=L8 (v0 Rv.F BN H2.m H2.k H2.b Gm)
 have V1:gy K cR QW _ (JR ⟨cL⟩ ⟨cB,cR,cO,cE,cN⟩):=W_R (ts:=⟨cB,cR,cO,cE,cN⟩) ⟨p1cR,p2cR,p3cR,p4cR⟩ Rp.m Rp.b
 have V2:gy K cO QZ _ (JL ⟨cB,cR,cO,cE,cN⟩):=W_L (ts:=⟨cB,cR,cO,cE,cN⟩) ⟨p1cO,p2cO,p3cO,p4cO⟩ Rr.m Rr.b
 have V3:gy K cE Rb _ (JT ⟨cB,cR,cO,cE,cN⟩):=W_T (ts:=⟨cB,cR,cO,cE,cN⟩) ⟨p1cE,p2cE,p3cE,p4cE⟩ Rt.m Rt.b
 have V4:gy K cN Rh _ (JN l.prog w ⟨cB,cR,cO,cE,cN⟩):=W_N (ts:=⟨cB,cR,cO,cE,cN⟩) ⟨p1cN,p2cN,p3cN,p4cN⟩ Rv.m Rv.b
 have XH:AG l.prog w K mg base f1 _:=⟨H1.m,H1.k,H1.b,vE H1.F⟩
 have Gnx:AJ l.prog w K mg base aC 1 T5 _ _ qf:=xG MS.F T
 have Gnb:AJ l.prog w K mg base aC 2 T6 _ _ qe:=xF MT.F MS.m MS.k MS.b Gnx
 have Gbk:AJ l.prog w K mg base aC 1 T7 _ _ qk:=xP MU.F T
 have Grg:AJ l.prog w K mg base aC 2 T8 _ _ qd:=xE MV.F T MU.m MU.k MU.b Gbk
 have Ghs:AJ l.prog w K mg base aC 3 TL _ _ (qb K ⟨cL⟩):=xC Nd.F T L H5.m H5.k H5.b Gw
 have Gwf:AJ l.prog w K mg base aC 2 TN _ _ (pZ K):=xA Ng.F XH
 have N0:∀ {Cc fw:Addr}{dw:FuncData}{J:eE},gy K Cc fw dw J->AW K Cc "land"->AJ l.prog w K mg base aC 3 fw dw ["self", "place", "goal", "came"] (cu J) ->
   AJ l.prog w K mg base aC 4 f8 d8 ["table"] (cG ⟨cL⟩ Cc J)/\AJ l.prog w K mg base aC 6 Jr d11 ["table"] (iV ⟨cL⟩ Cc J)/\AJ l.prog w K mg base aC 7 QP d13 ["table"] (j8 ⟨cL⟩ Cc J)/\AJ l.prog w K mg base aC 8 QQ d19 ["table"] (gk ⟨cL⟩ Cc J)/\AJ l.prog w K mg base aC 7 QR d32 ["table", "paper"] (fM K ⟨cL⟩ Cc J)/\AJ l.prog w K mg base aC 4 QS d38 ["_law_table_here", "_law_numbers", "_law_sets", "_law_start", "_law_goal"] (sS ⟨cL⟩ Cc J):=fun {Cc fw dw J} W1 nl LL=>by
  have N1:AJ l.prog w K mg base aC 4 f7 _ _ (sT ⟨cL⟩ Cc J):=Kv H7.F L W1 nl LL ME Ge
  have Uh:AJ l.prog w K mg base aC 4 f8 _ _ (cG ⟨cL⟩ Cc J):=tD H8.F T L W1 nl LL
  have Gfi:AJ l.prog w K mg base aC 4 f9 _ _ (mF ⟨cL⟩ Cc J):=vF H9.F T L W1 nl LL
  have Gah:AJ l.prog w K mg base aC 5 T2 _ _ (mI ⟨cL⟩ Cc J):=vJ F3.F T W1 H9.m H9.k H9.b Gfi H7.m H7.k H7.b N1
  have Rx:AJ l.prog w K mg base aC 6 Jr _ _ (iV ⟨cL⟩ Cc J):=zP Fs.F T L W1 nl F3.m F3.k F3.b Gah
  have Gis:AJ l.prog w K mg base aC 5 T3 _ _ (j9 ⟨cL⟩ Cc J):=tF MQ.F L W1 nl ME Ge H7.m H7.k H7.b N1
  have Ui:AJ l.prog w K mg base aC 7 QP _ _ (j8 ⟨cL⟩ Cc J):=xJ HJ.F T W1 Fs.m Fs.k Fs.b Rx H2.m H2.k H2.b Gm MQ.m MQ.k MQ.b Gis
  have Gle:AJ l.prog w K mg base aC 5 T4 _ _ (mD ⟨cL⟩ Cc J):=vC MR.F T W1 H2.m H2.k H2.b Gm H7.m H7.k H7.b N1
  have Glk:AJ l.prog w K mg base aC 8 QQ _ _ (gk ⟨cL⟩ Cc J):=xL HK.F T W1 HJ.m HJ.k HJ.b Ui Fs.m Fs.k Fs.b Rx MR.m MR.k MR.b Gle MT.m MT.k MT.b Gnb MV.m MV.k MV.b Grg
  have Gsf:AJ l.prog w K mg base aC 5 TM _ _ (u9 K ⟨cL⟩ Cc J):=zK Nf.F W1 LL XH H8.m H8.k H8.b Uh
  have Gpf:AJ l.prog w K mg base aC 5 TQ _ _ (m9 K ⟨cL⟩ Cc J):=vA Nh.F W1 H7.m H7.k H7.b N1 Ng.m Ng.k Ng.b Gwf
  have Glf:AJ l.prog w K mg base aC 6 TU _ _ (mE K ⟨cL⟩ Cc J):=vD Ni.F L W1 nl ME Ge H2.m H2.k H2.b Gm Nh.m Nh.k Nh.b Gpf
  have Gfa:AJ l.prog w K mg base aC 7 QR _ _ (fM K ⟨cL⟩ Cc J):=vG Nj.F T W1 nl Nd.m Nd.k Nd.b Ghs Nf.m Nf.k Nf.b Gsf Ni.m Ni.k Ni.b Glf
  have Gwk:AJ l.prog w K mg base aC 4 QS _ _ (sS ⟨cL⟩ Cc J):=t8 Nq.F T L W1 nl LL ME Ge
  exact⟨Uh,Rx,Ui,Glk,Gfa,Gwk⟩
 obtain⟨s1,m1,o1,k1,u1,v1⟩:=N0 V1 ncRland Wr
 obtain⟨s2,m2,o2,k2,u2,v2⟩:=N0 V2 ncOland Wl
 obtain⟨s3,m3,o3,k3,u3,v3⟩:=N0 V3 ncEland Wt
 obtain⟨s4,m4,o4,k4,u4,v4⟩:=N0 V4 ncNland Wn
 have Gc:AJ l.prog w K mg base aC 1 TV _ _ (qj K):=xO Nk.F T
 have Gx:AJ l.prog w K mg base aC 1 TX _ _ uD:=zO Nl.F
 have Gd:AJ l.prog w K mg base aC 2 TY _ _ yS:=vH Nm.F T Nl.m Nl.k Nl.b Gx
 have Gz:AJ l.prog w K mg base aC 1 TZ _ _ m7:=v7 Nn.F T
 have Gta:AJ l.prog w K mg base aC 8 Ua _ _ (qi l.prog w K ⟨cL⟩ ⟨cB,cR,cO,cE,cN⟩):=xI Np.F T ⟨Nk.m,Nk.k,Nk.b,Gc,Nn.m,Nn.k,Nn.b,Gz,Nm.m,Nm.k,Nm.b,Gd,(mg_of X G gcR),Mr,Nv.b,Gir,(mg_of X G gcO),Ml,Nw.b,Gil,(mg_of X G gcE),Mt,Ny.b,Git,(mg_of X G gcN),Mn,Nz.b,Gin,(mg_of X G gcL),Mi,HL.b,Gi⟩
 have Grc:AJ l.prog w K mg base aC 1 Ub _ _ (uB ⟨cL⟩):=v9 Nt.F T L
 have Gne:AJ l.prog w K mg base aC 9 Uc _ _ (yR l.prog w ⟨cL⟩ ⟨cB,cR,cO,cE,cN⟩):=tE Nu.F T L V4 ncNland ⟨Nt.m,Nt.k,Nt.b,Grc,HJ.m,HJ.k,HJ.b,o4,H8.m,H8.k,H8.b,s4,HK.m,HK.k,HK.b,k4⟩
 exact zR (c:=⟨cL⟩) (ts:=⟨cB,cR,cO,cE,cN⟩) F41 T L V1 V2 V3 ⟨Np.m,Np.k,Np.b,Gta,Nu.m,Nu.k,Nu.b,Gne,HK.m,HK.k,HK.b,wF (c:=⟨cL⟩) (ts:=⟨cB,cR,cO,cE,cN⟩) (sp:=gk ⟨cL⟩) k1 k2 k3,Nj.m,Nj.k,Nj.b,wF (c:=⟨cL⟩) (ts:=⟨cB,cR,cO,cE,cN⟩) (sp:=fM K ⟨cL⟩) u1 u2 u3,Fs.m,Fs.k,Fs.b,wF (c:=⟨cL⟩) (ts:=⟨cB,cR,cO,cE,cN⟩) (sp:=iV ⟨cL⟩) m1 m2 m3,H8.m,H8.k,H8.b,wF (c:=⟨cL⟩) (ts:=⟨cB,cR,cO,cE,cN⟩) (sp:=cG ⟨cL⟩) s1 s2 s3,Nq.m,Nq.k,Nq.b,wF (c:=⟨cL⟩) (ts:=⟨cB,cR,cO,cE,cN⟩) (sp:=sS ⟨cL⟩) v1 v2 v3,(mg_of X G gcN),kk6,iR,iL,iT,iN⟩
end
theorem walk {l:PySem.W.OpenLaw}{q:Program}{loose:List Str}{XP:(Str->Option Value)->Heap->Prop}{YP:World->Heap->Prop}{d:DefRec}{K:Params->Frag}(hn:l.most=some 63)(Ji:d.params.defaults=[])
  (hY:∀ (w:World)(h:Heap),YP w h->(K w.params).In h)
  (F:∀ (w:World)(mg:Str->Option Value)(fa:Addr)(h:Heap),(K w.params).In h->h.Ns mainGlobals mg->mg d.name=some (.ref fa) ->
   ∃ fd:FuncData,(∀ (s:Shared)(u:Value),BindsTo s fd ⟨[u],[]⟩ [("_law_script",u)])/\∀ base:Heap,(K w.params).In base->base.Ns mainGlobals mg->AJ l.prog w (K w.params) mg base aC 10 fa fd ["_law_script"] (rK (K w.params))) :
  PySem.W.WalkO q loose XP YP l.row.toRowW d [] (fun f vs=>PySem.call f vs) :=
 L2.Cp (n:=63) (k:=10) (x := "_law_script") (CX:=fun _=>aC) (sp:=fun w=>rK (K w.params)) hn (by decide) Ji ⟨rfl,by decide,by decide⟩ hY F (fun _ _ a ns hl _ hS=>⟨a,ns,rfl,hS,hl,fun _=>rfl⟩) fun _ _ _ _ _ z=>z
end K25
structure PySem.W.Fast:Prop where
 (tw13125637953075523355 tw17194409425925243911 tw10143836635081515007 tw10484226672327677017 tw17020477904463322921 tw8770701202285159023 tw34026864865088167 tw17910474343865339902 tw16380410839009564116 tw10170516615350837129 tw11611026516398434827 tw12250110962298310208 tw3166215229428927050 tw16389871095449006633 tw15949062317202197765 tw11836831391440869104 tw15611412805866539958 tw16205979843464328741 tw4263492230283667634 tw17749248056077999057 tw9510718424888041065 tw10650853097161423051 tw7851911713970823457 tw18161416172431599331 tw9945252131845070725 tw7120698838671357199 tw7613012915625171807 tw17597818307167292569 tw1097687877676064569 tw314771670297676134 tw6482696848700940822 tw12257039513413600299 tw12686246379371146821 tw14813867433513421048 tw12514749052744326381 tw2625734338613271774 tw16410787939917579104 tw3198979940570915675 tw10419459026244094351 tw15630331176576460894 tw15375577103405768674 tw10065565117932653793 tw1308730337713234032 tw1125271865477895944 tw15339352107224838264 tw619873862194501023 tw12701819165812326316 tw15592582300297454691 tw1819406614654420122 tw1898459210459781188 tw4213806643933946221 tw9214320876866412146 tw3070117569179061553 tw5184683344597986992 tw18179950696395730568 tw17086077217556717336 tw9772150756448277316 tw7428559604937338688 tw6791200907261601635 tw18324016564997486814 tw9105041050662911582 tw12033875244235084961 tw12728958774658416761 tw7970392278155493139 tw15989643128523943280 tw4987516283629224329 tw5604901344289882427 tw17696650895651950013 tw1084756920015575312 tw318005990225363666 tw13227703516058455781 tw1101682613847416082 tw3585629905301032406 tw1772962668724991189 tw53217127768076543 tw4336170153798076310 tw5882792936028506664 tw4531815966428923748 tw15842092920159409046 tw1920229698449096578 tw10209603138447841715 tw7823028835326554409 tw16703818871115759715 tw5361249146112095706 tw18376450495470283396 tw2875275442940590329 tw8852668083176489976 tw1945849196654956208 tw14720269410091198525 tw2660459752915359049 tw18028057991573471061 tw17960960648598487223 tw3152527404278867877 tw12987869020464550215 tw6987746182328853158 tw4740318760934475343 tw7765936486896403616 tw13922789017729338953 tw12170068410386590463 tw15931059414164941108 tw16019241100883491216 tw9212646608272982934 tw2199827354984422526 tw15723008092646877380 tw6503505878076319315 tw3762711434475434585 tw2708237602233875253 tw16931254658795735472 tw10832507649600708 tw4508687031102704615 tw13727729801832494279 tw4363788157153964954 tw1895235676740464370 tw5084218565937638274 tw16216177575957889022 tw13352159798828044394 tw18070225323773626928 tw7062553442314421203 tw15099601882798609141 tw17425637086766280160 tw4491681358439649131 tw6860544372685306938 tw2798326036363273931 tw8255370460896578366 tw9845066438177977766 tw17642351900340908010 tw6657195891878503418 tw9289597622473096371 tw1467781003269280819 tw12499508271027457619 tw5789221327727072218 tw4284224831105106248 tw11523559339065204686 tw8040159070187862972 tw12175734531915497104 tw7473617638556289828 tw7213511023666665075 tw5525877696522884577 tw10801388421348062338 tw17668770293983151023 tw16373489854369945437 tw4943523461687666581 tw10350476035376325765 tw932391844344642848 tw10359700981124751391 tw18092995877558949220 tw8638627725229862649 tw12206958965728799431 tw14239855217674568320 tw1726767978989129328 tw11406663285456467438 tw16402975895555440940 tw9595307121373444562 tw16916595965794579739 tw2027561186133823708 tw17042838003797074529 tw8722074859747399901 tw16262487452275919415 tw5386518114943762458 tw17157043957197216334 tw14936482554330306364 tw13290798621976198165 tw16282835659625805289 tw16795699035659984996 tw15595446137223583713 tw5914096949415757642 tw11593209117222698594 tw15573727721587511538 tw7694886382233264017 tw9554301962891073470 tw18089188856441970711 tw3485358163858520869 tw3826076726818345485 tw7372297658866798553 tw16966211436704433334 tw2996062556367061179 tw13095923826556598374 tw13710952306345618180 tw1800717453406710475 tw18289390644751000025 tw4128218454307357089 tw1611951776920158476 tw9968633974711100225 tw2110450289421235620 tw1928058656113874412 tw13075316545369688876 tw13717555278615740220 tw6135916004399607370 tw10462483392152908688 tw3008121514173166082 tw10833322944574018848 tw18192197240564953847 tw5760352234690408940 tw15881681301677220234 tw7532465951812789963 tw15385235395627034502 tw2135014757557589488 tw6142853241216785788 tw15701082381371808360 tw3340261748252771873 tw5344684883786330676 tw10871340424182625145 tw2452059539081129854 tw10304468085753315867 tw8756059836830002537 tw6432317394244917253 tw3991817288859336314 tw18353493084712442805 tw14063568028650088174 tw8948532258225690692 tw11180139707951344201 tw2100999889283056353 tw12439782765475350975 tw17016662452568952213 tw8408100205574742347 tw1254049054988547689 tw9999500931306790703 tw9982647411737856586 tw228144205122433873 tw5088811012310217913 tw17922182992011843109 tw3216963592368707565 tw1384243653647889832 tw6361295621723505111 tw15895712627345955178 tw927359462507492001 tw8867429264182908462 tw3428397399766127657 tw8287563919436582096 tw12986951868108330355 tw3887683977130931819 tw15487076280857884001 tw5114872171026184903 tw17867083992145337965 tw10309240561356565167 tw2963594225249906864 tw6324234595932362063 tw5647358777332820876 tw3592117649925976209 tw8402245572041797627 tw15630398541550114310 tw13605605307585855670 tw1123712012243584229 tw11103285245676248029 tw1435987453297952599 tw1180086687846259738 tw11376135997363107378 tw7425894361858843548 tw6738689537897751452 tw16245889303047186890 tw5877922023362461806 tw3210167847694254187 tw12629298166265399743 tw1894691116503058166 tw11312693106245052173 tw7912081543558792258 tw14021243859051541053 tw5049925820184636541 tw6159770491341545191 tw3722727265939771740 tw120592423791912334 tw18189287160256929817 tw7342405944735041785 tw6497493728755046452 tw11948226023668922090 tw8417494777096545818 tw12708727668952798305 tw10701517792672979707 tw5849216922051700211 tw17189818286374311826 tw409478130790559221 tw9176400426513904678 tw4874207905478366346 tw3668842355612685165 tw13405043187953207334 tw9081516187509288729 tw7127259741713221727 tw7801630645136851152 tw6181304227262113567 tw583239738700534045 tw5169536143122239881 tw9970995989149702381 tw6591082756969736081 tw17480907106813971512 tw12644494285916608606 tw13275858077423753332 tw3691115263506417611 tw9574415050762706480 tw8999255734312285208 tw12951324068933612245 tw16946623587359864201 tw14521597383511771788 tw6515926017549032972 tw3853474595681259076 tw12258317907323688251 tw11236606657183461947 tw6014115587405274162 tw6083249238014380430 tw1694407584993870087 tw10099922643416539418 tw12176996840630883976 tw1764951861157320433 tw4675431285673728468 tw15224500619978464309 tw15220174835100147341 tw4961286548863779478 tw4566166450860321853 tw10832256822223445568 tw16561094384148155921 tw3166150643254583347 tw12329731504321693371 tw18090240845051615951 tw11603962662303918086 tw10407500939610898541 tw9732830143964814529 tw884223401913564188 tw15649782449565615369 tw12436182383131859504 tw14622511584543170842 tw3011082751916765829 tw9967022263647654432 tw7996530007924110415 tw7421962206476773949 tw500062980692521967 tw16570163708844092829 tw12237997357986980380 tw8024234888881785008 tw8071515204058184581 tw236236053760920272 tw17964538225996561929 tw10005066743221499715 tw6681701792748756569 tw11567602626462419875 tw4610253586412783719 tw9956585231289021220 tw4282005350661151216 tw17358997475769668070 tw8696235064384217634 tw13675537259798366831 tw13568187360093668420 tw12578656956995733993 tw11934861404002972988 tw8833557485588129335 tw6108143242681244262 tw6025161177023155484 tw5467174865385122756 tw3301243567549461140 tw3239463995732637626 tw1953495689170579860 tw1621021400820274172 tw1508427427998930588 tw11731121914308392979 tw11166107450841611661 tw9783033153765099514 tw7047330759809149854 tw409092132063073036 tw343869393128437989 tw2425286396505328587 tw18399589794568558863 tw16914957459527706972 tw14834010181758795673 tw10909232194662747596 tw10463108487271834860 tw17109721632410913757 tw9518587930746925765 tw8354439375755222351 tw7455220199632484666 tw5962420543316559293 tw498754096704899716 tw17712624198813219095 tw16616292787227772518 tw8887253607373381004 tw6651893108194325782 tw5048547350197076289 tw416921947543540405 tw17948725716377041621 tw16506372124697943959 tw16031214483594116637 tw14884441652428520088 tw10484785437768321032 tw1029011906250085181 tw9643242199693324311 tw9356042096705341373 tw9296470515742022361 tw9280672951295089608 tw9259981456782527489 tw9256297163469156711 tw8943855454079946698 tw8912972612153448916 tw8912877580764983097 tw8754766463170352189 tw8637779036961759367 tw8307593158095047275 tw8254972079106664330 tw7604702505719721508 tw7331914102982228298 tw7180244970977296313 tw6733582057623777858 tw6638413155121731111 tw6375093108023550203 tw6336866152887455487 tw6266128153522421177 tw6125000112524922994 tw6024554998062075765 tw6020309279414917875 tw5804254624839347538 tw5753329488973212 tw5627614990447173370 tw5575106795399124410 tw5572736409215177231 tw546220358689013679 tw524457519473146634 tw5230687000646484685 tw5223882402224020984 tw5061873036342218783 tw5052325009980851975 tw499308348228577137 tw498213021217200821 tw4944685545023810891 tw4528106761799625863 tw4392403405867849348 tw4328644665348260901 tw4318915054654510591 tw4315111427879666036 tw4313698598727594919 tw4190763732841537862 tw3886974912301509669 tw3669480569164513084 tw3625840914246690800 tw3176794222353676657 tw3009309539617661860 tw2331190405013070788 tw1944702965887152138 tw1931454380059886809 tw1919980771673008824 tw18422282225535705584 tw18336234778548309026 tw18085195244869745840 tw18039570396085017851 tw17733581304887237287 tw1762254556686862947 tw17538842496461378668 tw17486646434764078057 tw17425357958663247750 tw17343407116895266510 tw17230355500198937783 tw1720640708554179682 tw16817475086384557862 tw16670424005575817705 tw16506341079385274231 tw16438577598932778199 tw16394076556585191213 tw16207604980414422609 tw16148150946712532819 tw16007014742972377138 tw16002666869724541260 tw15868649756073101516 tw15833321360837715990 tw15621283411955145504 tw15483765816302630291 tw15296005341306593886 tw15142802669867222756 tw15079499207980557680 tw15007581632422589260 tw14791457348659295100 tw14579418601581607754 tw14571594908541635010 tw14509959669262800599 tw14476956867742795042 tw14363001863310552357 tw14354512142118254434 tw14183276895235208289 tw13875334409125089192 tw13842364595715862922 tw13821417390890591995 tw13805879572974754537 tw13758279170995617595 tw13472125227222835055 tw13441041849360231067 tw1334870139845555819 tw13112624688392211548 tw13077851846540099302 tw12646956429577372219 tw12607486508680120863 tw12589185431262787157 tw12368609950483225444 tw1231248708427597389 tw12250368295013402532 tw12014920082330527951 tw11978522970480230852 tw11966547215711854011 tw11921906936286542954 tw11866100290992651830 tw11450977943102832781 tw11060865022772245638 tw10870451025185906341 tw10640661086955351130 tw10456928232573055760 tw10095645770692118941 tw10069823952297609428:True)
open PySem PySem.W PyProof.Rows
set_option maxRecDepth 100000 in
set_option maxHeartbeats 0 in
theorem PySem.Challenge.cw_wormyard_k25_whole_made_tables_holds : PySem.Challenge.rw_wormyard_k25_whole_made_tables.Holds := by
 w_on;o_law;k_head; (case hw=>w_witness2)
 k_fill
 refine K25.walk (l:=PySem.Challenge.rw_wormyard_k25_whole_made_tables) rfl rfl (fun w h Y=>PySem.W.kIn_of Y) ?F
 case F =>
  intro w mg fa h KX G hmg
  refine' K25.all_mk KX G hmg ?Aa ?Ab ?Ac ?Ad ?Ae ?Af ?Ag ?Ah ?Ai ?Aj ?Ak ?Al ?Am ?An ?Ao ?Ap ?Aq ?Ar ?As ?At ?Au ?Av ?Aw ?Ax ?Ay ?Az ?Ba ?Bb ?Bc ?Bd ?Be ?Bf ?Bg ?Bh ?Bi ?Bj ?Bk ?Bl ?Bm ?Bn ?Bo ?Bp ?Bq ?Br ?Bs ?Bt ?Bu ?Bv ?Bw ?Bx ?By ?Bz ?Ca ?Cb ?Cc ?Cd ?Ce ?Cf ?Cg ?Ch ?Ci ?Cj ?Ck ?Cl ?Cm ?Cn ?Co ?Cp ?Cq ?Cr ?Cs ?Ct ?Cu ?Cv ?Cw ?Cx ?Cy ?Cz ?Da ?Db ?Dc ?Dd ?De ?Df ?Dg ?Dh ?Di ?Dj ?Dk ?Dl ?Dm ?Dn ?Do ?Dp ?Dq ?Dr ?Ds ?Dt ?Du ?Dv ?Dw ?Dx ?Dy ?Dz ?Ea ?Eb ?Ec ?Ed ?Ee ?Ef ?Eg ?Eh ?Ei ?Ej ?Ek ?El ?Em ?En ?Eo ?Ep ?Eq ?Er ?Es ?Et ?Eu ?Ev ?Ew ?Ex ?Ey ?Ez ?Fa ?Fb ?Fc ?Fd ?Fe ?Ff ?Fg ?Fh ?Fi ?Fj ?Fk ?Fl ?Fm ?Fn
  case Aa|Ab|Ac|Ad|Ae|Af=>k_is
  case Ag|Ah|Ai|Aj|Ak|Al|Am|An|Ao|Ap|Aq|Ar|As|At|Au|Av|Aw|Ax|Ay|Az|Ba|Bb|Bc|Bd|Be|Bf|Bg|Bh|Bi|Bj|Bk|Bl|Bm|Bn|Bo|Bp|Bq|Br|Bs|Bt|Bu|Bv|Bw|Bx|By|Bz|Ca|Cb|Cc|Cd|Ce|Cf|Cg|Ch|Ci|Cj|Ck|Cl|Cm|Cn=>first |(refine' K25.mkT (by assumption) (by assumption) ?b ?a ?l ?c ?k;(case b=>first|exact fun _ _ _ _ _ _=>K25.len_of0 rfl|exact fun _ _ _ _ _ _=>K25.len_of1 (fun _=>rfl)|exact fun _ _ _ _ _ _=>K25.len_of2 (fun _ _=>rfl)|exact fun _ _ _ _ _ _=>K25.len_of3 (fun _ _ _=>rfl)|exact fun _ _ _ _ _ _=>K25.len_of4 (fun _ _ _ _=>rfl)|exact fun _ _ _ _ _ _=>K25.len_of5 (fun _ _ _ _ _=>rfl));(case a=>k_is);(case l=>k_is);(case c=>k_is);(case k=>k_is))|(refine' K25.mkM ?b ?a ?l ?c ?k ?i;(case b=>first|exact fun _ _ _ _ _ _=>K25.len_of0 rfl|exact fun _ _ _ _ _ _=>K25.len_of1 (fun _=>rfl)|exact fun _ _ _ _ _ _=>K25.len_of2 (fun _ _=>rfl)|exact fun _ _ _ _ _ _=>K25.len_of3 (fun _ _ _=>rfl)|exact fun _ _ _ _ _ _=>K25.len_of4 (fun _ _ _ _=>rfl)|exact fun _ _ _ _ _ _=>K25.len_of5 (fun _ _ _ _ _=>rfl));(case a=>k_is);(case l=>k_is);(case c=>k_is);(case k=>k_is);(case i=>k_is))|k_is
  case Co|Cp|Cq|Cr|Cs|Ct|Cu|Cv|Cw|Cx|Cy|Cz|Da|Db|Dc|Dd|De|Df|Dg|Dh|Di|Dj|Dk|Dl|Dm|Dn|Do|Dp|Dq|Dr|Ds|Dt|Du|Dv|Dw|Dx|Dy|Dz|Ea|Eb|Ec|Ed=>k_is
  case Ee|Ef|Eg=>first | k_is | kernel_rfl
  case Eh|Ei|Ej|Ek|El|Em=>kit_is
  case En|Eo=>k_is
  case Ep=>kit_is
  case Eq=>k_is
  case Er=>first | k_is | kernel_rfl
  case Es=>kit_is
  case Et=>k_is
  case Eu=>first | k_is | kernel_rfl
  case Ev=>kit_is
  case Ew=>k_is
  case Ex=>first | k_is | kernel_rfl
  case Ey=>kit_is
  case Ez=>k_is
  case Fa=>first | k_is | kernel_rfl
  case Fb|Fc|Fd|Fe|Ff|Fg|Fh|Fi|Fj|Fk|Fl|Fm|Fn=>k_is
