import PyProof.Rows.All
import Wide.All
import OpenK.AllK
import Wide.FinOn
import Lean
import PyProof.EqAt
import PyProof.EqKinds
import PyProof.TupleCall
import PyProof.ExcBaseAll.ValueError
import PyProof.EnumMake
import PyProof.Rows.EnumRows
import PyProof.TupleIter
import PyProof.DictValues
import PyProof.CollectStr
import PySem.Builtin.Int.W1All
import PyProof.DictRoadsH
import PyProof.DictKinds
import PyProof.FactsAll.NoneType
import KE.KRevIter
import PyProof.FactsAll.list_3
import KE.KDictList
import PyProof.DictIter
import PyProof.DictWalks
import PyProof.ListRange
import PyProof.Rows.SumAny
import PyProof.Rows.SeqCalls
import PyProof.P3In
import PyProof.DictItems
import KE.KPairComp
import PyProof.FactsAll.dict_3
import PyProof.CollectIter
import PyProof.TupleOfGen
import PyProof.TupleOfSeq
import PyProof.FactsAll.subtypes_4
import PyProof.ZipIter
import KE.KDictLaws
import KE.KSortTup
import PyProof.FactsAll.tuple_2
import PyProof.FactsAll.tuple_3
import PySem.Challenge.RW_wormyard_k47_moves_listed
set_option compiler.extract_closed false
set_option Elab.async false
set_option linter.all false
set_option maxRecDepth 100000
set_option maxHeartbeats 4000000
theorem η0(h:1=1:=by rfl):1=1:=h
def η:=η0._auto_1
theorem θ0(h:1=1:=by decide):1=1:=h
def θ:=θ0._auto_1
theorem ζ0(h:1=1:=by first | exact .inl rfl | exact .inr rfl | assumption):1=1:=h
def ζ:=ζ0._auto_1
theorem ξ0(h:1=1:=by decide +kernel):1=1:=h
def ξ:=ξ0._auto_1
theorem ψ0(h:1=1:=by intro _;rfl):1=1:=h
def ψ:=ψ0._auto_1
open PySem.W (Frag keepIn findIn fnOf codeIn nsIn mg_of isFn kitOne hasDictIn mg_none_of plainGet plainOver makesIn)
open List (getElem?_eq_getElem getElem?_map getElem?_append_left find?_cons getElem?_set_ne getElem?_concat_length getElem?_append_right all_cons all_eq_true all_map any_cons any_eq_false append_assoc append_nil contains_cons eq_nil_of_length_eq_zero eq_of_mem_replicate filterMap_cons filter_append filter_congr filter_cons_of_neg filter_cons_of_pos filter_map getD_eq_getElem?_getD getElem_idxOf getElem_mem idxOf_lt_length_of_mem length_append length_cons length_filter_le length_map length_nil length_range length_replicate length_set length_singleton length_take length_take_le lookup_cons map_append map_cons map_map map_nil map_take mem_append mem_append_left mem_append_right mem_cons mem_cons_of_mem mem_cons_self mem_filter mem_flatMap mem_map mem_of_getElem? mem_of_head? mem_of_mem_drop mem_of_mem_take mem_range mem_reverse mem_singleton nodup_cons nodup_nil not_mem_nil of_mem_zip pairwise_cons pairwise_iff_getElem pairwise_lt_range range_succ size_toArray sum_cons take_length take_of_length_le take_succ)
open Nat (le_of_eq le_of_lt le_refl le_succ le_trans lt_irrefl lt_of_le_of_lt lt_of_lt_of_le lt_or_ge lt_succ_self lt_trans min_eq_left min_eq_right ne_of_gt ne_of_lt not_lt_zero pow_le_pow_right testBit_lt_two_pow zero_le)
open Int (emod_lt_of_pos emod_nonneg toNat_natCast zero_add)
open PySem.F (args_tuple_add_2 entry_dict_get entry_tuple_add plainAttrs_list slot_dict_get slot_list_extend slot_list_index slot_tuple_add type_list_extend)
open PySem.Heap (lt_size size_push)
noncomputable section
abbrev L2.zQ0:PySem.Scope:={kind:=.function,names:=[],isGenerator:=false,isCoroutine:=false}
theorem L2.gQ0{α:Type}{l:List α}{a:α}(h:l[i]?=some a):i<l.length:=(List.getElem?_eq_some_iff.mp h).1
namespace L2
theorem FP{α:Type}{l:List α}(h:l.length=n + 1):∃a t,l=a :: t/\t.length=n:=by
 cases l with
 | nil=>cases h
 | cons a t=>exact⟨a,t,rfl,Nat.succ.inj h⟩
open PySem PySem.Spec PyProof.Rows
abbrev Key:=Sum Int Str
noncomputable def j6:Key->Value->Bool
 | .inl k,v=>Value.isInt k v
 | .inr x,v=>Value.isStrOf x v
noncomputable def QM(w:World):Key->Int
 | .inl k=>hashInt k
 | .inr x=>hashStr w x
theorem bH:∀{k:Key}{v:Value},j6 k v=true->(∃i t,k=Sum.inl i/\v=Value.int i t)∨(∃x t,k=Sum.inr x/\v=Value.str x t)
 | .inl i,v,h=>by
  obtain⟨t,e⟩:=Value.isInt_shape (k:=i) (v:=v) h
  exact .inl ⟨i,t,rfl,e⟩
 | .inr x,v,h=>by
  obtain⟨t,e⟩:=Value.isStrOf_shape (x:=x) (v:=v) h
  exact .inr ⟨x,t,rfl,e⟩
theorem rM(i:Int)(t:Tok):j6 (.inl i) (.int i t)=true:=by simp[j6,Value.isInt]
theorem rL(x:Str)(t:Tok):j6 (.inr x) (.str x t)=true:=by simp[j6,Value.isStrOf]
theorem Ao(a b:Int):decide ((Sum.inl a:Key)=Sum.inl b)=(a == b):=by
 by_cases e:a=b
 ·subst e;simp
 ·have h:¬(Sum.inl a:Key)=Sum.inl b:=λq=>e (Sum.inl.inj q)
  rw[decide_eq_false h]
  exact(beq_eq_false_iff_ne.mpr e).symm
theorem Ak(a b:Str):decide ((Sum.inr a:Key)=Sum.inr b)=decide (a=b):=by
 by_cases e:a=b
 ·subst e;simp
 ·have h:¬(Sum.inr a:Key)=Sum.inr b:=λq=>e (Sum.inr.inj q)
  rw[decide_eq_false h,decide_eq_false e]
theorem An(a:Int)(b:Str):decide ((Sum.inl a:Key)=Sum.inr b)=false:=decide_eq_false (λq=>nomatch q)
theorem Al(a:Str)(b:Int):decide ((Sum.inr a:Key)=Sum.inl b)=false:=decide_eq_false (λq=>nomatch q)
noncomputable def aY(prog:Program)(w:World):PySem.KeyKind prog w Key where
 is:=j6
 hash:=QM w
 inj:=λv a b ha hb=>by
  rcases bH ha with ⟨i,t,rfl,rfl⟩ | ⟨x,t,rfl,rfl⟩
  ·rcases bH hb with ⟨j,u,rfl,e⟩ | ⟨y,u,rfl,e⟩
   ·injection e with e1 _;rw[e1]
   ·exact nomatch e
  ·rcases bH hb with ⟨j,u,rfl,e⟩ | ⟨y,u,rfl,e⟩
   ·exact nomatch e
   ·injection e with e1 _;rw[e1]
 byValue:=λk v h=>by
  rcases bH h with ⟨i,t,rfl,rfl⟩ | ⟨x,t,rfl,rfl⟩<;>rfl
 pyHash:=λhv h=>by
  rcases bH hv with ⟨i,t,rfl,rfl⟩ | ⟨x,t,rfl,rfl⟩
  ·exact wpAny_pyHash_int h
  ·exact wpAny_pyHash_str h
 eqBool:=λhu hv h=>by
  rcases bH hu with ⟨i,t,rfl,rfl⟩ | ⟨x,t,rfl,rfl⟩
  ·rcases bH hv with ⟨j,u,rfl,rfl⟩ | ⟨y,u,rfl,rfl⟩
   ·rw[Ao]at h;exact wpAny_eqBool_int h
   ·rw[An]at h;exact SeqAt.EqAt.int_str i t y u _ _ _ _ h
  ·rcases bH hv with ⟨j,u,rfl,rfl⟩ | ⟨y,u,rfl,rfl⟩
   ·rw[Al]at h;exact SeqAt.EqAt.str_int x t j u _ _ _ _ h
   ·rw[Ak]at h;exact wpAny_eqBool_str h
 «strs»:=λk x t v h=>by
  rcases bH h with ⟨i,u,rfl,e⟩ | ⟨y,u,rfl,e⟩
  ·exact nomatch e
  ·injection e with e1 _
   subst e1
   cases v<;>rfl
theorem mP(prog:Program)(w:World)(i:Int)(t:Tok):(aY prog w).is (.inl i) (.int i t)=true:=rM i t
theorem mO(prog:Program)(w:World)(x:Str)(t:Tok):(aY prog w).is (.inr x) (.str x t)=true:=rL x t
open PySem.Spec PyProof.Rows
inductive V where
 | Bj | bl (b:Bool) | int (i:Int) | str (x:Str) | Ew (b:Array UInt8) | IL (b:UInt64) | ref (a:Addr) | ty (n:String)
 deriving DecidableEq
def RelV:V->Value->Prop
 | .Bj,u=>u=Value.none
 | .bl b,u=>u=Value.bool b
 | .int i,u=>∃t,u=Value.int i t
 | .str x,u=>∃t,u=Value.str x t
 | .Ew b,u=>∃t,u=Value.bytes b t
 | .IL b,u=>∃t,u=Value.float b t
 | .ref a,u=>u=Value.ref a
 | .ty n,u=>u=Value.type n
abbrev Vals:List V->List Value->Prop:=Paired RelV
theorem Vals.length(r:Vals xs us):xs.length=us.length:=Paired.length r
theorem Vals.get:∀{xs:List V}{us:List Value}{i:Nat}{x:V},Vals xs us->xs[i]? = some x->∃u,us[i]? = some u/\RelV x u
 | _,_,_,_, .nil,e=>by simp at e
 | _,_,0,_, .cons r _,e=>by simp at e;subst e;exact⟨_,rfl,r⟩
 | _,_,i + 1,x, .cons _ t,e=>by
  obtain⟨u,h1,h2⟩:=Vals.get (i:=i) (x:=x) t (by simpa using e)
  exact⟨u,by simpa using h1,h2⟩
theorem Vals.set(r:RelV x u):∀{xs:List V}{us:List Value}(i:Nat),Vals xs us->Vals (xs.set i x) (us.set i u)
 | _,_,_, .nil => .nil
 | _,_,0, .cons _ t => .cons r t
 | _,_,i + 1, .cons q t => .cons q (Vals.set r i t)
theorem Vals.append:∀{xs ys:List V}{us ws:List Value},Vals xs us->Vals ys ws->Vals (xs ++ ys) (us ++ ws)
 | _,_,_,_, .nil,s=>s
 | _,_,_,_, .cons r t,s => .cons r (Vals.append t s)
theorem Vals.take:∀{xs:List V}{us:List Value}(n:Nat),Vals xs us->Vals (xs.take n) (us.take n)
 | _,_,0,_ => .nil
 | _,_,_ + 1, .nil => .nil
 | _,_,n + 1, .cons r t => .cons r (Vals.take n t)
theorem Vals.drop:∀{xs:List V}{us:List Value}(n:Nat),Vals xs us->Vals (xs.drop n) (us.drop n)
 | _,_,0,r=>r
 | _,_,_ + 1, .nil => .nil
 | _,_,n + 1, .cons _ t=>Vals.drop n t
def BC:Option V->Option Value->Prop
 | some v,some u=>RelV v u
 | none,none=>True
 | _,_=>False
def KV{κ:Type}:List (κ × V)->List (κ × Value)->Prop:=Paired λ(p:κ × V)(q:κ × Value)=>p.1=q.1/\RelV p.2 q.2
noncomputable def kV:Key->V
 | .inl i => .int i
 | .inr x => .str x
inductive HO where
  | lst (xs:List V)
  | tup (xs:List V)
  | dK (kvs:List (Key × V)) | dT (kvs:List (List Key × V))
  | set (S:Int->Bool) (n:Nat)
  | ins (C dx:Addr) (fs:List (Str × V))
  | own (x:Addr)
  | xd (fs:List (Str × V))
  | met (f x:Addr)
  | OR (lo hi:Int)
  | Cy (o:Obj) (u:HO)
  | G5 (ps:Array Value)
  | ext (φ:Heap->Prop)
abbrev Hp:=Addr->Option HO
noncomputable def upd(H:Hp)(a:Addr)(o:HO):Hp:=λb=>if b=a then some o else H b
theorem ad :upd H a o a=some o:=by unfold upd;rw[if_pos rfl]
theorem ah(h:b ≠ a):upd H a o b=H b:=by unfold upd;rw[if_neg h]
theorem b7{H:Hp}(h:H a=some o)(h':H b=some u)(d:o ≠ u):a ≠ b:=by
 intro e;subst e;rw[h]at h';exact d (Option.some.inj h')
theorem aj{H:Hp}(h:H a=some o)(h':H b=none):a ≠ b:=by
 intro e;subst e;rw[h]at h';cases h'
def BM(h:Heap)(a:Addr)(items:Array Value):Prop:=∃o,h.get? a=some o/\(o.cls = .type "tuple"/\∃n,o.data = .seq items n)/\o.dict=none
theorem BM.isTup :BM h a items->IsTup h a items:=λAU=>by obtain⟨o,e,c,_⟩:=AU;exact⟨o,e,c⟩
theorem BM.new(h:Heap)(items:Array Value):BM (h.push { cls := .type "tuple",data := .seq items }) h.objs.size items:=⟨_,Heap.get?_push_size _ rfl,⟨rfl,_,rfl⟩,rfl⟩
section
variable (P:Program)(w:World)
def Bn(H:Hp)(h:Heap)(a:Addr):HO->Prop
 | .lst xs=>xs.length <= sizeLine/\∃(AW:List Value)(n:Nat),Vals xs AW/\h.get? a=some { cls := .type "list",data := .seq AW.toArray n }
 | .tup xs=>xs.length <= sizeLine/\∃AW:List Value,Vals xs AW/\BM h a AW.toArray
 | .dK kvs=>kvs.length <= sizeLine/\(a == sysModules)=false/\∃vs,KV kvs vs/\h.DictOf (aY P w) a vs
 | .dT kvs=>kvs.length <= sizeLine/\(a == sysModules)=false/\∃xs:List (List Key × Addr × Value),
   Paired (λ(p:List Key × V)(q:List Key × Addr × Value)=>p.1=q.1/\H q.2.1=some (.tup (p.1.map kV))/\RelV p.2 q.2.2) kvs xs /\
   ∃o es ep,h.get? a=some o/\o.ExactDict/\o.data = .dict es ep/\es.toList=xs.map (entryOfKey (tupleKind (aY P w)))/\(xs.map (·.1)).Nodup
 | .set S n=>h.SetOf (intKind P w) a S n
 | .ins C dx fs=>H dx=some (.own a)/\fs.length <= 1000/\dx ≠ a/\h.get? a=some (PySem.W.instObj C dx) /\
   ∃mA,h.Ns1 dx mA/\(∀f,BC (fs.lookup f) (mA f))/\PySem.Within mA (fs.map (·.1))
 | .own _=>∃o,h.get? a=some o
 | .xd fs=>∃mA,h.Ns1 a mA/\∀f,BC (fs.lookup f) (mA f)
 | .OR lo hi=>∃t u v,h.get? a=some { cls := .type "range",data := .fields #[.int lo t, .int hi u, .int 1 v] }
 | .Cy o u=>h.get? a=some o/\Bn H h a u
 | .G5 ps=>h.get? a=some { cls := .none,data := .fields ps }
 | .met f x=>h.get? a=some (PySem.W.methodObj (.ref f) (.ref x))
 | .ext φ=>φ h/\(∃o,h.get? a=some o)/\∀h1 h2:Heap,φ h1->(∀o,h1.get? a=some o->h2.get? a=some o)->φ h2
def BI(H:Hp)(h:Heap):Prop:=∀a o,H a=some o->Bn P w H h a o
end
section
variable {P:Program}{w:World}{H H':Hp}{h h':Heap}{a:Addr}{o:HO}
theorem Bn.lt(x:Bn P w H h a o):a < h.objs.size:=by
 cases o with
 | lst xs=>obtain⟨_,_,_,_,e⟩:=x;exact lt_size e
 | tup xs=>obtain⟨_,_,_,p⟩:=x;exact p.isTup.lt
 | dK kvs=>obtain⟨_,_,_,_,o,_,_,e,_⟩:=x;exact lt_size e
 | dT kvs=>obtain⟨_,_,_,_,o,_,_,e,_⟩:=x;exact lt_size e
 | set S n=>obtain⟨o,_,_,_,e,_⟩:=x;exact lt_size e
 | ins C dx fs=>obtain⟨_,_,_,e,_⟩:=x;exact lt_size e
 | own y=>obtain⟨_,e⟩:=x;exact lt_size e
 | xd fs=>obtain⟨_,⟨_,_,_,e,_⟩,_⟩:=x;exact lt_size e
 | OR lo hi=>obtain⟨_,_,_,e⟩:=x;exact lt_size e
 | Cy ob u=>obtain⟨e,_⟩:=x;exact lt_size e
 | G5 ps=>exact lt_size (show h.get? a=some _ from x)
 | met f y=>exact lt_size (show h.get? a=some _ from x)
 | ext φ=>obtain⟨_,⟨_,e⟩,_⟩:=x;exact lt_size e
theorem Paired.IM :∀{l₁:List α}{l₂:List β},Paired F l₁ l₂->(∀a b,F a b->G a b)->Paired G l₁ l₂
 | _,_, .nil,_ => .nil
 | _,_, .cons r t,f => .cons (f _ _ r) (Paired.IM t f)
theorem Bn.C1(x:Bn P w H h a o)(k:∀b u,(b=a∨H b=some (.own a))->h.get? b=some u->h'.get? b=some u)
  (ho:∀b,H b=some (.own a)->H' b=some (.own a)) (ht:∀b xs,H b=some (.tup xs)->H' b=some (.tup xs)):Bn P w H' h' a o:=by
 induction o with
 | lst xs=>obtain⟨z,AW,n,r,e⟩:=x;exact⟨z,AW,n,r,k _ _ (.inl rfl) e⟩
 | tup xs=>obtain⟨z,AW,r,ob,e,c⟩:=x;exact⟨z,AW,r,ob,k _ _ (.inl rfl) e,c⟩
 | dK kvs=>obtain⟨z,y,vs,r,ob,es,ep,e,c⟩:=x;exact⟨z,y,vs,r,ob,es,ep,k _ _ (.inl rfl) e,c⟩
 | dT kvs =>
  obtain⟨z,y,xs,r,ob,es,ep,e,c⟩:=x
  exact⟨z,y,xs,Paired.IM r λp q z=>⟨z.1,ht _ _ z.2.1,z.2.2⟩,ob,es,ep,k _ _ (.inl rfl) e,c⟩
 | set S n=>obtain⟨ob,es,ep,t,e,c⟩:=x;exact⟨ob,es,ep,t,k _ _ (.inl rfl) e,c⟩
 | ins C dx fs =>
  obtain⟨d,z,ne,e,mA,⟨od,es,ep,e2,c⟩,r⟩:=x
  exact⟨ho _ d,z,ne,k _ _ (.inl rfl) e,mA,⟨od,es,ep,k _ _ (.inr d) e2,c⟩,r⟩
 | own y=>obtain⟨ob,e⟩:=x;exact⟨ob,k _ _ (.inl rfl) e⟩
 | xd fs=>obtain⟨mA,⟨od,es,ep,e,c⟩,r⟩:=x;exact⟨mA,⟨od,es,ep,k _ _ (.inl rfl) e,c⟩,r⟩
 | OR lo hi=>obtain⟨t,u,v,e⟩:=x;exact⟨t,u,v,k _ _ (.inl rfl) e⟩
 | Cy ob u ih=>obtain⟨e,q⟩:=x;exact⟨k _ _ (.inl rfl) e,ih q⟩
 | G5 ps =>
  have e:h.get? a=some { cls := .none,data := .fields ps }:=x
  show h'.get? a=some { cls := .none,data := .fields ps }
  exact k a _ (.inl rfl) e
 | met f y =>
  have e:h.get? a=some (PySem.W.methodObj (.ref f) (.ref y)):=x
  show h'.get? a=some (PySem.W.methodObj (.ref f) (.ref y))
  exact k a _ (.inl rfl) e
 | ext φ=>obtain⟨p,⟨o,e⟩,st⟩:=x;exact⟨st _ _ p λo q=>k _ _ (.inl rfl) q,⟨o,k _ _ (.inl rfl) e⟩,st⟩
theorem BI.lt(x:BI P w H h)(e:H a=some o):a < h.objs.size:=(x a o e).lt
theorem BI.fresh(x:BI P w H h)(e:h.objs.size <= a):H a=none:=by
 cases q:H a with
 | none=>rfl
 | some u=>exact absurd (lt_of_lt_of_le (x.lt q) e) (lt_irrefl _)
theorem BI.kept(x:BI P w H h)(k:∀b u,h.get? b=some u->h'.get? b=some u):BI P w H h':=λa o e =>
 (x a o e).C1 (λb u _ q=>k b u q) (λ_ q=>q) λ_ _ q=>q
theorem BI.laid(x:BI P w H h)(k:∀b u,h.get? b=some u->h'.get? b=some u)(hp:h.objs.size <= a)(new:Bn P w (upd H a o) h' a o):BI P w (upd H a o) h':=λb u e=>by
 have hn:=x.fresh hp
 by_cases hb:b=a
 ·subst hb;rw[ad]at e;cases e;exact new
 ·rw[ah hb]at e
  exact(x b u e).C1 (λc v _ q=>k c v q) (λc q=>by rw[ah (aj q hn)];exact q) λc xs q=>by rw[ah (aj q hn)];exact q
end
def Rd(H:Hp)(a:Addr)(u:HO):Prop:=H a=some u∨∃o,H a=some (.Cy o u)
theorem Rd.ok(r:Rd H a u)(x:BI P w H h):Bn P w H h a u:=by
 rcases r with r | ⟨o,r⟩
 ·exact x a u r
 ·obtain⟨_,q⟩:=x a _ r
  exact q
def K5:Option HO->Prop
 | some (.lst _)=>True
 | some (.dK _)=>True
 | some (.dT _)=>True
 | some (.set _ _)=>True
 | some (.ins _ _ _)=>True
 | some (.ext _)=>True
 | _=>False
section
variable {P:Program}{w:World}{H:Hp}{h h':Heap}{x e:Addr}{o':HO}
theorem BI.write(ok:BI P w H h)(mu:K5 (H x))(he:e=x∨H e=some (.own x))(k:∀b u,b ≠ e->h.get? b=some u->h'.get? b=some u)(JS:∃u,h'.get? e=some u)
  (new:Bn P w (upd H x o') h' x o'):BI P w (upd H x o') h':=λb u q=>by
 have K6:∀c y,H c=some (.own y)->c ≠ x:=λc y r z=>by subst z;rw[r]at mu;exact mu
 have QN:∀c xs,H c=some (.tup xs)->c ≠ x:=λc xs r z=>by subst z;rw[r]at mu;exact mu
 by_cases hb:b=x
 ·subst hb;rw[ad]at q;cases q;exact new
 ·rw[ah hb]at q
  by_cases Dv:b=e
  ·have q':H b=some (.own x):=by
    rcases he with z | z
    ·exact absurd (Dv.trans z) hb
    ·rw[Dv];exact z
   rw[q]at q';cases q'
   obtain⟨v,hv⟩:=JS
   exact⟨v,by rw[Dv];exact hv⟩
  ·refine(ok b u q).C1 (λc v hc r=>k c v ?_ r) (λc r=>by rw[ah (K6 c b r)];exact r) λc xs r=>by rw[ah (QN c xs r)];exact r
   rcases hc with rfl | hc
   ·exact Dv
   ·rintro rfl
    rcases he with z | z
    ·exact K6 c b hc z
    ·rw[hc]at z;cases z;exact hb rfl
end
structure Un(fs ex:List Addr)(H H':Hp)(h h':Heap):Prop where
 keep:∀b o,h.get? b=some o->H b=none->b ∉ fs->b ∉ ex->h'.get? b=some o
 slot:∀b o,h.get? b=some o->H b=none->b ∈ fs->b ∉ ex->∃sl,h'.get? b=some { o with slots:=sl }
 free:∀b o,h.get? b=some o->H b=none->b ∉ ex->H' b=none
 there:∀b o,h.get? b=some o->b ∉ ex->∃o',h'.get? b=some o'
 CC:∀b xs,H b=some (.tup xs)->H' b=some (.tup xs)
 C2:∀b o u,H b=some (.Cy o u)->H' b=some (.Cy o u)
 CD:∀b ps,H b=some (.G5 ps)->∃more,H' b=some (.G5 (ps ++ more))
section
variable {fs B3 ex JT:List Addr}{H H1 H2:Hp}{h h1 h2 h':Heap}{a x e:Addr}{o:HO}
theorem Un.any(u:Un fs ex H H1 h h1)(q:h.get? b=some ob)(n:H b=none)(hx:b ∉ ex):∃sl,h1.get? b=some { ob with slots:=sl }:=by
 by_cases hb:b ∈ fs
 ·exact u.slot b ob q n hb hx
 ·exact⟨ob.slots,u.keep b ob q n hb hx⟩
theorem Un.kept(k:∀b u,h.get? b=some u->h'.get? b=some u):Un fs ex H H h h' :=
 ⟨λb ob q _ _ _=>k b ob q,λb ob q _ _ _=>⟨ob.slots,k b ob q⟩,λ_ _ _ n _=>n,λb ob q _=>⟨ob,k b ob q⟩,λ_ _ q=>q,λ_ _ _ q=>q,λ_ ps q=>⟨#[],by rw[q];simp⟩⟩
theorem Un.refl:Un fs ex H H h h:=Un.kept λ_ _ q=>q
theorem Un.laid(k:∀b u,h.get? b=some u->h'.get? b=some u)(hp:h.objs.size <= a)(hn:H a=none):Un fs ex H (upd H a o) h h' where
 keep:=λb u q _ _ _=>k b u q
 slot:=λb u q _ _ _=>⟨u.slots,k b u q⟩
 free:=λb u q n _=>by rw[ah (ne_of_lt (lt_of_lt_of_le (lt_size q) hp))];exact n
 there:=λb u q _=>⟨u,k b u q⟩
 CC:=λb xs q=>by rw[ah (aj q hn)];exact q
 C2:=λb u xs q=>by rw[ah (aj q hn)];exact q
 CD:=λb ps q=>⟨#[],by rw[ah (aj q hn),q];simp⟩
theorem Un.write(mu:K5 (H x))(he:e=x∨H e=some (.own x))(k:∀b u,b ≠ e->h.get? b=some u->h'.get? b=some u)(JS:∃u,h'.get? e=some u):Un fs ex H (upd H x o) h h':=by
 have hx:∀b,H b=none->b ≠ x:=λb n z=>by subst z;rw[n]at mu;exact mu
 have hb:∀b,H b=none->b ≠ e:=λb n z=>by
  subst z
  rcases he with r | r
  ·exact hx b n r
  ·rw[n]at r;cases r
 have hm:∀b u,H b=some u->¬K5 (some u)->b ≠ x:=λb u q nm z=>by subst z;rw[q]at mu;exact nm mu
 refine⟨λb u q n _ _=>k b u (hb b n) q,λb u q n _ _=>⟨u.slots,k b u (hb b n) q⟩,λb u q n _=>by rw[ah (hx b n)];exact n,λb u q _=>?_,
  λb xs q=>by rw[ah (hm b _ q λz=>z)];exact q,λb u xs q=>by rw[ah (hm b _ q λz=>z)];exact q,λb ps q=>⟨#[],by rw[ah (hm b _ q λz=>z),q];simp⟩⟩
 by_cases Dv:b=e
 ·subst Dv;exact JS
 ·exact⟨u,k b u Dv q⟩
end
noncomputable def OS(h:Heap)(H:Hp):List Addr:=(List.range h.objs.size).filter λa=>(H a).isSome
noncomputable def lE(h:Heap)(H:Hp):Heap:=PySem.W.hideAll h (OS h H)
theorem rQ(h:Heap)(H:Hp):(lE h H).objs.size=h.objs.size:=PySem.W.hideAll_size _ _
theorem vq(e:h.get? b=some o)(n:H b=none):(lE h H).get? b=some o :=
 PySem.W.hideAll_get _ e λhm=>by
  have q:(H b).isSome=true:=(mem_filter.mp hm).2
  rw[n]at q;simp at q
theorem xx(e:(lE h H).get? b=some o):h.get? b=some o/\H b=none:=by
 have e':h.get? b=some o:=PySem.W.of_hideAll (OS h H) e
 refine⟨e',?_⟩
 cases q:H b with
 | none=>rfl
 | some x =>
  have hm:b ∈ OS h H:=mem_filter.mpr ⟨mem_range.mpr (lt_size e'),by simp[q]⟩
  have z:(lE h H).get? b=none:=PySem.W.hideAll_none (OS h H) hm
  rw[z]at e;cases e
structure Mod(K:Frag)(mg:Str->Option Value)(base:Heap):Prop where
 Ex:K.In base
 glob:base.Ns mainGlobals mg
 blt:∃mb,base.Ns builtinsNs mb/\∀x:Str,x ≠ "__name__"->mb x=bootBuiltins x
 nolimit:base.NoLimit
structure Cx where
 prog:Program
 w:World
 K:Frag
 mg:Str->Option Value
 base:Heap
 A:Around
 N:List Str
 s₀:Shared
 H₀:Hp
 env:Env
 outer:List Env
 stack:List Env
 ex:List Addr
 fn:Str->Bool
 calm:Bool
 pn:List (Addr × Obj)
 xe:Value->Shared->Prop
noncomputable def kE(l:List Env):List Addr:=l.filterMap (·.frame)
abbrev Cx.fs(X:Cx):List Addr:=kE X.outer
def OT(sc:Scope)(x:Str):Prop:=sc.names.lookup x=some .local∨sc.names.lookup x=some .cell∨sc.names.lookup x=some .free
def Loc(sc:Scope)(x:Str):Prop:=sc.names.lookup x=some .local∨sc.names.lookup x=some .cell
def Look(env:Env)(h:Heap)(m:Str->Option Value)(x:Str)(u:Value):Prop :=
 (env.kindOf x=some .local/\m x=some u)∨((env.kindOf x=some .cell∨env.kindOf x=some .free)/\∃c,env.cells.lookup x=some c/\h.IsCell c (some u))
structure Cx.Ok(X:Cx):Prop where
 mod:Mod X.K X.mg X.base
 kind:X.env.scope.kind = .function
 glob:X.env.globals=mainGlobals
 blt:X.env.builtins=builtinsNs
 above:X.s₀.heap.objs.size <= X.env.locals
 inj:∀x y c,X.env.cells.lookup x=some c->X.env.cells.lookup y=some c->x=y
 has:∀x,(X.env.kindOf x=some .cell∨X.env.kindOf x=some .free)->∃c,X.env.cells.lookup x=some c
 JU:∀x c,X.fn x=true->X.env.cells.lookup x=some c->X.s₀.heap.objs.size <= c
 hd:X.calm=true->X.A.handled=none
 frames:X.A.frames=some X.stack
 K7:X.stack=X.outer∨(X.stack=X.env :: X.outer/\X.env.frame=some X.env.locals)
 QO:∀b ∈ X.ex,b ≠ X.env.locals/\∀x c,X.env.cells.lookup x=some c->c ≠ b
 bs:∀b o,X.base.get? b=some o->X.s₀.heap.get? b=some o/\X.H₀ b=none
 FQ:X.base.objs.size <= X.s₀.heap.objs.size
 EE:∀b o,X.base.get? b=some o->b ∉ X.ex
 Fv:∀b ∈ X.ex,b ∉ X.fs
 Ci:X.s₀.heap.FunFrames X.base X.outer
 HF:∀b ∈ X.fs,X.H₀ b=none
structure Inv(X:Cx)(pins:List (Addr × Obj))(σ:List (Option V))(H:Hp)(s:Shared):Prop where
 ok:X.Ok
 os:s.os=X.s₀.os
 bare:AllBare s.gens
 base:Un X.fs X.ex X.H₀ H X.s₀.heap s.heap
 loc:∃m,s.heap.Ns X.env.locals m/\∀(i:Nat)(x:Str)(v:V),X.N[i]? = some x->σ[i]? = some (some v)->OT X.env.scope x->∃u,RelV v u/\Look X.env s.heap m x u
 cell:∀x c,X.env.cells.lookup x=some c->∃v,s.heap.IsCell c v
 free:H X.env.locals=none
 Bz:∀x c,X.env.cells.lookup x=some c->H c=none
 pin:∀p ∈ X.pn ++ pins,s.heap.get? p.1=some p.2/\H p.1=none/\p.1 ≠ X.env.locals/\p.1 ∉ X.fs/\∀v,p.2.data ≠ .cell v
 Bb:BI X.prog X.w H s.heap
 len:σ.length=X.N.length
section
variable {X:Cx}{pins:List (Addr × Obj)}{σ:List (Option V)}{H H':Hp}{s:Shared}{h':Heap}
theorem Cx.Ok.QP(ok:X.Ok)(e:X.base.get? b=some o):b ∉ X.fs:=λhb=>by
 have:=(ok.Ci.mem hb).1
 rw[e]at this;cases this
theorem Inv.bs(I:Inv X pins σ H s):∀b o,X.base.get? b=some o->s.heap.get? b=some o/\H b=none:=λb o e =>
 ⟨I.base.keep b o (I.ok.bs b o e).1 (I.ok.bs b o e).2 (I.ok.QP e) (I.ok.EE b o e),I.base.free b o (I.ok.bs b o e).1 (I.ok.bs b o e).2 (I.ok.EE b o e)⟩
theorem Inv.bk(I:Inv X pins σ H s):∀b o,X.base.get? b=some o->s.heap.get? b=some o:=λb o e=>(I.bs b o e).1
theorem Inv.mod(I:Inv X pins σ H s):Mod X.K X.mg X.base:=I.ok.mod
theorem Inv.BO(I:Inv X pins σ H s):X.K.In s.heap:=I.ok.mod.Ex.keeps I.bk
theorem Inv.lt(I:Inv X pins σ H s):X.env.locals < s.heap.objs.size:=let ⟨_,hn,_⟩:=I.loc;hn.lt
theorem Inv.sz(I:Inv X pins σ H s):X.s₀.heap.objs.size <= s.heap.objs.size:=le_trans I.ok.above (le_of_lt I.lt)
theorem Inv.QQ(I:Inv X pins σ H s){a:Addr}(h:s.heap.objs.size <= a):a ∉ X.fs:=λhb=>by
 obtain⟨_,o,ho,_⟩:=I.ok.Ci.mem hb
 exact absurd (lt_of_lt_of_le (lt_size ho) (le_trans I.sz h)) (lt_irrefl _)
theorem Inv.Fw(I:Inv X pins σ H s):∀x c,X.env.cells.lookup x=some c->c ≠ X.env.locals:=λx c e z=>by
 obtain⟨v,o,ho,hd⟩:=I.cell x c e
 obtain⟨m,⟨o',es,ep,DW,FR,_⟩,_⟩:=I.loc
 rw[z,DW]at ho;cases ho;rw[FR]at hd;cases hd
theorem Inv.Ci(I:Inv X pins σ H s):s.heap.FunFrames X.base X.outer:=by
 have all:∀(l:List Env),(∀b ∈ kE l,b ∈ X.fs)->X.s₀.heap.FunFrames X.base l->s.heap.FunFrames X.base l:=by
  intro l
  induction l with
  | nil=>intro _ _;trivial
  | cons env r ih =>
   intro hs hl
   obtain⟨hk,⟨L,o,hf,hn,ho,hd⟩,hr⟩:=hl
   have hL:L ∈ X.fs:=hs L (by unfold kE;rw[filterMap_cons,hf];exact mem_cons_self)
   obtain⟨sl,e⟩:=I.base.slot L o ho (I.ok.HF L hL) hL λz=>I.ok.Fv L z hL
   exact⟨hk,⟨L,_,hf,hn,e,hd⟩,ih (λb hb=>hs b (by unfold kE;rw[filterMap_cons,hf];exact mem_cons_of_mem _ hb)) hr⟩
 exact all X.outer (λ_ hb=>hb) I.ok.Ci
theorem Inv.stack(I:Inv X pins σ H s):s.heap.FunFrames X.base X.stack:=by
 rcases I.ok.K7 with e | ⟨e,hf⟩
 ·rw[e];exact I.Ci
 ·rw[e]
  obtain⟨m,hn,_⟩:=I.loc
  refine .cons (by rw[I.ok.kind];decide) hf hn ?_ I.Ci
  exact Heap.get?_none_of_le (le_trans I.ok.FQ I.ok.above)
theorem Inv.Cq(I:Inv X pins σ H s):∀b ∈ kE X.stack,b ∈ X.env.locals :: X.fs:=λb hb=>by
 rcases I.ok.K7 with e | ⟨e,hf⟩
 ·rw[e]at hb;exact mem_cons_of_mem _ hb
 ·rw[e]at hb
  unfold kE at hb
  rw[filterMap_cons,hf]at hb
  exact hb
theorem Inv.Dg(I:Inv X pins σ H s):∀b ∈ kE X.stack,H b=none:=λb hb=>by
 rcases mem_cons.mp (I.Cq b hb) with e | hb
 ·rw[e];exact I.free
 ·obtain⟨_,o,ho,_⟩:=I.ok.Ci.mem hb
  exact I.base.free b o ho (I.ok.HF b hb) λz=>I.ok.Fv b z hb
theorem Inv.step{ch:List Addr}(I:Inv X pins σ H s)
  (Cr:∀b ∈ ch,(b ∈ X.ex∨X.s₀.heap.objs.size <= b)/\b ≠ X.env.locals/\(∀x c,X.env.cells.lookup x=some c->c ≠ b)/\∀p ∈ X.pn ++ pins,p.1 ≠ b)
  (keep:∀b o,b ≠ X.env.locals->b ∉ X.fs->b ∉ ch->s.heap.get? b=some o->H b=none->h'.get? b=some o)
  (slot:∀b o,b ≠ X.env.locals->b ∈ X.fs->b ∉ ch->s.heap.get? b=some o->H b=none->∃sl,h'.get? b=some { o with slots:=sl }) (free:∀b o,b ∉ ch->s.heap.get? b=some o->H b=none->H' b=none)
  (there:∀b o,b ∉ ch->s.heap.get? b=some o->∃o',h'.get? b=some o')
  (CC:∀b xs,H b=some (.tup xs)->H' b=some (.tup xs)) (C2:∀b o u,H b=some (.Cy o u)->H' b=some (.Cy o u)) (CD:∀b ps,H b=some (.G5 ps)->∃more,H' b=some (.G5 (ps ++ more)))
  (ns:∀m,s.heap.Ns X.env.locals m->h'.Ns X.env.locals m) (Bb:BI X.prog X.w H' h') (hg:AllBare g') :
  Inv X pins σ H' { s with heap:=h',gens:=g',drawn:=d',toks:=t' }:=by
 have Wh:∀b o,X.s₀.heap.get? b=some o->b ≠ X.env.locals:=λb o e=>ne_of_lt (lt_of_lt_of_le (lt_size e) I.ok.above)
 have OU:∀b o,X.s₀.heap.get? b=some o->b ∉ X.ex->b ∉ ch:=λb o e hx hb=>by
  rcases (Cr b hb).1 with z | z
  ·exact hx z
  ·exact absurd (lt_of_lt_of_le (lt_size e) z) (lt_irrefl _)
 have cellK:∀x c,X.env.cells.lookup x=some c->∀v,s.heap.IsCell c v->h'.IsCell c v:=λx c e v ⟨o,ho,hd⟩=>by
  have K8:c ∉ ch:=λz=>(Cr c z).2.2.1 x c e rfl
  by_cases hc:c ∈ X.fs
  ·obtain⟨sl,q⟩:=slot c o (I.Fw x c e) hc K8 ho (I.Bz x c e)
   exact⟨_,q,hd⟩
  ·exact⟨o,keep c o (I.Fw x c e) hc K8 ho (I.Bz x c e),hd⟩
 refine⟨I.ok,I.os,hg,⟨λb o e n hb hx=>?_,λb o e n hb hx=>?_,λb o e n hx=>?_,λb o e hx=>?_,λb xs e=>CC b xs (I.base.CC b xs e),λb o xs e=>C2 b o xs (I.base.C2 b o xs e),λb ps e=>?_⟩,?_,λx c e=>?_,?_,λx c e=>?_,λp hp=>?_,Bb,I.len⟩
 ·exact keep b o (Wh b o e) hb (OU b o e hx) (I.base.keep b o e n hb hx) (I.base.free b o e n hx)
 ·obtain⟨sl,e1⟩:=I.base.slot b o e n hb hx
  obtain⟨QR,e2⟩:=slot b _ (Wh b o e) hb (OU b o e hx) e1 (I.base.free b o e n hx)
  exact⟨QR,e2⟩
 ·obtain⟨o',e1⟩:=I.base.there b o e hx
  exact free b o' (OU b o e hx) e1 (I.base.free b o e n hx)
 ·obtain⟨o',e1⟩:=I.base.there b o e hx
  exact there b o' (OU b o e hx) e1
 ·obtain⟨m1,e1⟩:=I.base.CD b ps e
  obtain⟨m2,e2⟩:=CD b _ e1
  exact⟨m1 ++ m2,by rw[e2,Array.append_assoc]⟩
 ·obtain⟨m,hn,hl⟩:=I.loc
  refine⟨m,ns m hn,λi x v e1 e2 e3=>?_⟩
  obtain⟨u,r,l⟩:=hl i x v e1 e2 e3
  refine⟨u,r,?_⟩
  rcases l with l | ⟨k,c,e,z⟩
  ·exact .inl l
  ·exact .inr ⟨k,c,e,cellK x c e _ z⟩
 ·obtain⟨v,z⟩:=I.cell x c e
  exact⟨v,cellK x c e v z⟩
 ·obtain⟨m,⟨o,_,_,ho,_⟩,_⟩:=I.loc
  exact free _ o (λz=>(Cr _ z).2.1 rfl) ho I.free
 ·obtain⟨v,o,ho,hd⟩:=I.cell x c e
  exact free c o (λz=>(Cr c z).2.2.1 x c e rfl) ho (I.Bz x c e)
 ·obtain⟨e,n,ne,nf,d⟩:=I.pin p hp
  have K8:p.1 ∉ ch:=λz=>(Cr p.1 z).2.2.2 p hp rfl
  exact⟨keep p.1 p.2 ne nf K8 e n,free p.1 p.2 K8 e n,ne,nf,d⟩
theorem Inv.un(I:Inv X pins σ H s)(u:Un X.fs [] H H' s.heap h')(Bb:BI X.prog X.w H' h'):Inv X pins σ H' { s with heap:=h',toks:=t' }:=by
 obtain⟨m,⟨o,es,ep,ho,r⟩,_⟩:=id I.loc
 obtain⟨sl,hL⟩:=u.any ho I.free (by simp)
 exact I.step (g':=s.gens) (d':=s.drawn) (ch:=[]) (λ_ z=>nomatch z) (λb o _ hb _ e n=>u.keep b o e n hb (by simp)) (λb o _ hb _ e n=>u.slot b o e n hb (by simp)) (λb o _ e n=>u.free b o e n (by simp)) (λb o _ e=>u.there b o e (by simp)) u.CC u.C2 u.CD (λm' hm=>by
  obtain⟨o',OV,QS,DW,r'⟩:=hm
  rw[ho]at DW;cases DW
  exact⟨_,OV,QS,hL,r'⟩) Bb I.bare
theorem Inv.call(I:Inv X pins σ H s)(u:Un (kE X.stack) ch H H' s.heap h')(Bb:BI X.prog X.w H' h')(hg:AllBare g')
  (Cr:∀b ∈ ch,(b ∈ X.ex∨X.s₀.heap.objs.size <= b)/\b ≠ X.env.locals/\(∀x c,X.env.cells.lookup x=some c->c ≠ b)/\∀p ∈ X.pn ++ pins,p.1 ≠ b) :
  Inv X pins σ H' { s with heap:=h',gens:=g',drawn:=d',toks:=t' }:=by
 obtain⟨m,⟨o,es,ep,ho,r⟩,_⟩:=id I.loc
 obtain⟨sl,hL⟩:=u.any ho I.free λz=>(Cr _ z).2.1 rfl
 exact I.step (ch:=ch) Cr (λb o hL hb hc e n=>u.keep b o e n (λz=>(mem_cons.mp (I.Cq b z)).elim hL hb) hc) (λb o _ _ hc e n=>u.any e n hc) (λb o hc e n=>u.free b o e n hc) (λb o hc e=>u.there b o e hc) u.CC u.C2 u.CD (λm' hm=>by
  obtain⟨o',OV,QS,DW,r'⟩:=hm
  rw[ho]at DW;cases DW
  exact⟨_,OV,QS,hL,r'⟩) Bb hg
theorem Inv.turned(I:Inv X pins σ H s)(k:∀b o,b ≠ it->s.heap.get? b=some o->h'.get? b=some o)(hn:H it=none)(hL:it ≠ X.env.locals)
  (h1:it ∈ X.ex∨X.s₀.heap.objs.size <= it) (h2:∀x c,X.env.cells.lookup x=some c->c ≠ it) (h3:∀p ∈ X.pn ++ pins,p.1 ≠ it):Inv X pins σ H { s with heap:=h',toks:=t' }:=by
 have Wi:∀b u,H b=some u->b ≠ it:=λb u e z=>by rw[z,hn]at e;cases e
 refine I.step (g':=s.gens) (d':=s.drawn) (ch:=[it]) (λb hb=>?_) (λb o _ _ hc e _=>k b o (λz=>hc (by simp[z])) e) (λb o _ _ hc e _=>⟨o.slots,k b o (λz=>hc (by simp[z])) e⟩) (λ_ _ _ _ n=>n)
  (λb o hc e=>⟨o,k b o (λz=>hc (by simp[z])) e⟩) (λ_ _ e=>e) (λ_ _ _ e=>e) (λb ps e=>⟨#[],by rw[e];simp⟩) (λm hm=>?_) (λb u e=>?_) I.bare
 ·have e:b=it:=by simpa using hb
  subst e
  exact⟨h1,hL,h2,h3⟩
 ·obtain⟨o,es,ep,ho,r⟩:=hm
  exact⟨o,es,ep,k _ o (Ne.symm hL) ho,r⟩
 ·refine(I.Bb b u e).C1 (λc v hc q=>k c v ?_ q) (λ_ q=>q) λ_ _ q=>q
  rcases hc with z | z
  ·rw[z];exact Wi b u e
  ·exact Wi c _ z
theorem Inv.tok(I:Inv X pins σ H s)(t:Nat):Inv X pins σ H { s with toks:=t }:=I.un (h':=s.heap) (t':=t) Un.refl I.Bb
theorem Inv.kept(I:Inv X pins σ H s)(k:∀b u,s.heap.get? b=some u->h'.get? b=some u):Inv X pins σ H { s with heap:=h',toks:=t' }:=I.un (Un.kept k) (I.Bb.kept k)
theorem Inv.laid{a:Addr}(I:Inv X pins σ H s)(k:∀b u,s.heap.get? b=some u->h'.get? b=some u)(hp:s.heap.objs.size <= a)(new:Bn X.prog X.w (upd H a o) h' a o) :
  Inv X pins σ (upd H a o) { s with heap:=h',toks:=t' }:=I.un (Un.laid k hp (I.Bb.fresh hp)) (I.Bb.laid k hp new)
theorem Inv.write(I:Inv X pins σ H s)(mu:K5 (H x))(he:e=x∨H e=some (.own x))(k:∀b u,b ≠ e->s.heap.get? b=some u->h'.get? b=some u)(JS:∃u,h'.get? e=some u)
  (new:Bn X.prog X.w (upd H x o) h' x o):Inv X pins σ (upd H x o) { s with heap:=h',toks:=t' }:=I.un (Un.write mu he k JS) (I.Bb.write mu he k JS new)
theorem Inv.BU(I:Inv X pins σ H s)(h:∀p ∈ D9,s.heap.get? p.1=some p.2/\H p.1=none/\p.1 ≠ X.env.locals/\p.1 ∉ X.fs/\∀v,p.2.data ≠ .cell v):Inv X D9 σ H s :=
 ⟨I.ok,I.os,I.bare,I.base,I.loc,I.cell,I.free,I.Bz,λp hp=>(mem_append.mp hp).elim (λz=>I.pin p (mem_append_left _ z)) (h p),I.Bb,I.len⟩
theorem jz{N:List Str}(hN:N.Nodup){i j:Nat}(a:N[i]? = some x)(b:N[j]? = some x):i=j:=by
 obtain⟨h1,e1⟩:=List.getElem?_eq_some_iff.mp a
 obtain⟨h2,e2⟩:=List.getElem?_eq_some_iff.mp b
 exact(List.getElem_inj hN).mp (e1.trans e2.symm)
theorem jW(I:Inv X pins σ H s)(hN:X.N.Nodup)(hi:X.N[i]? = some x)(hx:Loc X.env.scope x)(r:RelV v u)
  (h:∀s',Inv X pins (σ.set i (some v)) H s'->(∃a,Heap.SameBut a s.heap s'.heap/\(a=X.env.locals∨X.env.cells.lookup x=some a))->Q () s') (hf:autoParam (X.fn x=true∨X.env.scope.names.lookup x=some .local) ζ):wpAny M A (storeName X.env x u) Q E s:=by
 obtain⟨m,hn,hl⟩:=id I.loc
 have IP:(X.env.scope.kind == .class || (X.env.scope.kind == .module && X.env.locals != X.env.globals))=false:=by rw[I.ok.kind];rfl
 have KA:i < σ.length:=by rw[I.len];exact(gQ0 hi)
 have Fw:=I.Fw
 have tracked:∀{a:Addr}{h':Heap},(∃o,s.heap.get? a=some o/\H a=none)->Heap.SameBut a s.heap h'->BI X.prog X.w H h':=λ{a h'} ha hs b ob e=>by
  obtain⟨_,_,HG⟩:=ha
  refine(I.Bb b ob e).C1 (λc w' hc q=>(hs.2 c ?_).trans q) (λ_ q=>q) λ_ _ q=>q
  rintro rfl
  rcases hc with rfl | hc
  ·rw[HG]at e;cases e
  ·rw[HG]at hc;cases hc
 rcases hx with hk | hk
 ·refine wpAny_storeName_local hk hn (λh' KC hs=>?_) IP
  obtain⟨oL,_,_,Wj,_⟩:=id hn
  refine h _ ⟨I.ok,I.os,I.bare,⟨λb o e n hb hx=>?_,λb o e n hb hx=>?_,I.base.free,λb o e hx=>?_,I.base.CC,I.base.C2,I.base.CD⟩,⟨_,KC,λj y v' e1 e2 e3=>?_⟩,λy c e=>?_,I.free,I.Bz,λp hp=>?_,tracked ⟨oL,Wj,I.free⟩ hs,by simpa using I.len⟩ ⟨_,hs, .inl rfl⟩
  ·exact(hs.2 b (ne_of_lt (lt_of_lt_of_le (lt_size e) I.ok.above))).trans (I.base.keep b o e n hb hx)
  ·obtain⟨sl,e1⟩:=I.base.slot b o e n hb hx
   exact⟨sl,(hs.2 b (ne_of_lt (lt_of_lt_of_le (lt_size e) I.ok.above))).trans e1⟩
  ·obtain⟨o',e1⟩:=I.base.there b o e hx
   exact⟨o',(hs.2 b (ne_of_lt (lt_of_lt_of_le (lt_size e) I.ok.above))).trans e1⟩
  ·by_cases hj:j=i
   ·subst hj
    rw[hi]at e1;cases e1
    rw[List.getElem?_set_self KA]at e2
    cases e2
    exact⟨u,r, .inl ⟨hk,by simp⟩⟩
   ·rw[getElem?_set_ne (Ne.symm hj)]at e2
    obtain⟨u',r',q⟩:=hl j y v' e1 e2 e3
    refine⟨u',r',?_⟩
    rcases q with ⟨k,e⟩ | ⟨k,c,e,z⟩
    ·refine .inl ⟨k,?_⟩
     have:y ≠ x:=λe=>hj (jz hN e1 (e ▸ hi))
     simp[this,e]
    ·exact .inr ⟨k,c,e,z.sameBut hs (Fw y c e)⟩
  ·obtain⟨w',z⟩:=I.cell y c e
   exact⟨w',z.sameBut hs (Fw y c e)⟩
  ·obtain⟨e,n,ne,nf,d⟩:=I.pin p hp
   exact⟨(hs.2 p.1 ne).trans e,n,ne,nf,d⟩
 ·have QT:X.fn x=true:=by
   rcases hf with z | z
   ·exact z
   ·rw[z]at hk;cases hk
  obtain⟨c,hc⟩:=I.ok.has x (.inl hk)
  obtain⟨w',z⟩:=I.cell x c hc
  refine wpAny_storeName_cell I.ok.kind hk hc z (λh' HH hs=>?_)
  obtain⟨oc,Wk,QU⟩:=id z
  refine h { s with heap:=h' } ⟨I.ok,I.os,I.bare,⟨λb o e n hb hx=>?_,λb o e n hb hx=>?_,I.base.free,λb o e hx=>?_,I.base.CC,I.base.C2,I.base.CD⟩,⟨m,hn.sameBut hs (Ne.symm (Fw x c hc)),λj y v' e1 e2 e3=>?_⟩,λy c' e=>?_,I.free,I.Bz,λp hp=>?_,tracked ⟨oc,Wk,I.Bz x c hc⟩ hs,by simpa using I.len⟩ ⟨c,hs, .inr hc⟩
  ·exact(hs.2 b (ne_of_lt (lt_of_lt_of_le (lt_size e) (I.ok.JU x c QT hc)))).trans (I.base.keep b o e n hb hx)
  ·obtain⟨sl,e1⟩:=I.base.slot b o e n hb hx
   exact⟨sl,(hs.2 b (ne_of_lt (lt_of_lt_of_le (lt_size e) (I.ok.JU x c QT hc)))).trans e1⟩
  ·obtain⟨o',e1⟩:=I.base.there b o e hx
   exact⟨o',(hs.2 b (ne_of_lt (lt_of_lt_of_le (lt_size e) (I.ok.JU x c QT hc)))).trans e1⟩
  ·by_cases hj:j=i
   ·subst hj
    rw[hi]at e1;cases e1
    rw[List.getElem?_set_self KA]at e2
    cases e2
    exact⟨u,r, .inr ⟨.inl hk,c,hc,HH⟩⟩
   ·rw[getElem?_set_ne (Ne.symm hj)]at e2
    obtain⟨u',r',q⟩:=hl j y v' e1 e2 e3
    refine⟨u',r',?_⟩
    rcases q with q | ⟨k,c',e,z'⟩
    ·exact .inl q
    ·refine .inr ⟨k,c',e,z'.sameBut hs ?_⟩
     rintro rfl
     exact hj (jz hN e1 (I.ok.inj _ _ _ e hc ▸ hi))
  ·by_cases OW:c' = c
   ·subst OW;exact⟨_,HH⟩
   ·obtain⟨w2,z2⟩:=I.cell y c' e
    exact⟨w2,z2.sameBut hs OW⟩
  ·obtain⟨e,n,ne,nf,d⟩:=I.pin p hp
   refine⟨(hs.2 p.1 ?_).trans e,n,ne,nf,d⟩
   intro q
   rw[q,Wk]at e
   have q':oc=p.2:=Option.some.inj e
   exact d w' (by rw[←q'];exact QU)
theorem gA(I:Inv X pins σ H s)(hN:X.N.Nodup)(hi:X.N[i]? = some x)(hx:Loc X.env.scope x)(r:RelV v u)
  (h:∀s',Inv X pins (σ.set i (some v)) H s'->Q () s') (hf:autoParam (X.fn x=true∨X.env.scope.names.lookup x=some .local) ζ):wpAny M A (storeName X.env x u) Q E s :=
 jW I hN hi hx r (λs' I' _=>h s' I') hf
theorem Inv.HI(I:Inv X pins σ H s)(ho:s'.os=s.os)(u:Un (kE X.stack) ch H H' s.heap s'.heap)(Bb:BI X.prog X.w H' s'.heap)(hg:AllBare s'.gens)
  (Cr:∀b ∈ ch,(b ∈ X.ex∨X.s₀.heap.objs.size <= b)/\b ≠ X.env.locals/\(∀x c,X.env.cells.lookup x=some c->c ≠ b)/\∀p ∈ X.pn ++ pins,p.1 ≠ b):Inv X pins σ H' s':=by
 obtain⟨h',g',d',t',o'⟩:=s'
 have e:o' = s.os:=ho
 subst e
 exact I.call (g':=g') (t':=t') (d':=d') u Bb hg Cr
end
abbrev XK:=Value->Option Addr->Hp->Prop
abbrev St:=List (Option V)
abbrev VK:=V->Hp->Prop
abbrev TE:=St->Hp->VK->Prop
abbrev TT:=St->Hp->(Bool->Hp->Prop)->Prop
abbrev TA:=St->Hp->(List V->Hp->Prop)->Prop
structure i3 where
 nx:St->Hp->Prop
 rt:VK
 bk:St->Hp->Prop:=λ_ _=>False
 ct:St->Hp->Prop:=λ_ _=>False
abbrev TS:=i3->St->Hp->Prop
def EP(X:Cx)(pins:List (Addr × Obj))(σ:St)(Q:VK)(u:Value)(s':Shared):Prop:=∃v H',Inv X pins σ H' s'/\RelV v u/\Q v H'
def TP(X:Cx)(pins:List (Addr × Obj))(σ:St)(Q:Bool->Hp->Prop)(b:Bool)(s':Shared):Prop:=∃H',Inv X pins σ H' s'/\Q b H'
def AP(X:Cx)(pins:List (Addr × Obj))(σ:St)(Q:List V->Hp->Prop)(us:List Value)(s':Shared):Prop:=∃vs H',Inv X pins σ H' s'/\Vals vs us/\Q vs H'
def SP(X:Cx)(pins:List (Addr × Obj))(D:i3)(f:Flow)(s':Shared):Prop :=
 match f with
 | .next=>∃σ' H',Inv X pins σ' H' s'/\D.nx σ' H'
 | .brk=>∃σ' H',Inv X pins σ' H' s'/\D.bk σ' H'
 | .cont=>∃σ' H',Inv X pins σ' H' s'/\D.ct σ' H'
 | .ret u=>∃v σ' H',Inv X pins σ' H' s'/\RelV v u/\D.rt v H'
def PE(X:Cx)(e:Expr)(t:TE):Prop :=
 ∀(pins:List (Addr × Obj))(s:Shared)(σ:St)(H:Hp)(Q:VK),Inv X pins σ H s->t σ H Q->wpAny (model X.prog X.w) X.A (eval e X.env) (EP X pins σ Q) X.xe s
def PT(X:Cx)(e:Expr)(t:TT):Prop :=
 ∀(pins:List (Addr × Obj))(s:Shared)(σ:St)(H:Hp)(Q:Bool->Hp->Prop),Inv X pins σ H s->t σ H Q->wpAny (model X.prog X.w) X.A (isTrue e X.env (eval e X.env)) (TP X pins σ Q) X.xe s
def PW(X:Cx)(e:Expr)(t:TT):Prop :=
 ∀(whole:Sem Value)(pins:List (Addr × Obj))(s:Shared)(σ:St)(H:Hp)(Q:Bool->Hp->Prop),Inv X pins σ H s->t σ H Q->wpAny (model X.prog X.w) X.A (isTrue e X.env whole) (TP X pins σ Q) X.xe s
theorem PW.pt(h:PW X e t):PT X e t:=h _
def PA(X:Cx)(es:List Expr)(t:TA):Prop :=
 ∀(pos:Pos)(pins:List (Addr × Obj))(s:Shared)(σ:St)(H:Hp)(Q:List V->Hp->Prop),Inv X pins σ H s->t σ H Q->wpAny (model X.prog X.w) X.A (spliced (backTo pos (starEach es X.env))) (AP X pins σ Q) X.xe s
def PS(X:Cx)(st:Stmt)(t:TS):Prop :=
 ∀(pins:List (Addr × Obj))(s:Shared)(σ:St)(H:Hp)(D:i3),Inv X pins σ H s->t D σ H->wpAny (model X.prog X.w) X.A (exec st X.env) (SP X pins D) X.xe s
def DX(X:Cx)(st:List Stmt)(t:TS):Prop :=
 ∀(pins:List (Addr × Obj))(s:Shared)(σ:St)(H:Hp)(D:i3),Inv X pins σ H s->t D σ H->wpAny (model X.prog X.w) X.A (execs st X.env) (SP X pins D) X.xe s
theorem aZ{M:Model}{A:Around}{E:Value->Shared->Prop}{s:Shared}(h:wpAny M A t Q E s)(hQ:∀a s,Q a s->Q' a s):wpAny M A t Q' E s:=wpAny_mono h hQ λ_ _ x=>x
section
variable {X:Cx}
def jO(i:Nat):TE:=λσ H Q=>∃v,σ[i]? = some (some v)/\Q v H
def tC(v:V):TE:=λ_ H Q=>Q v H
theorem zx(hN:X.N[i]? = some x)(hv:OT X.env.scope x)(hd:autoParam ((x == ("__debug__":Str))=false) θ)(Ea:autoParam ((x == ("__classdict__":Str))=false) θ):PE X (.Name x pos) (jO i):=by
 intro pins s σ H Q I h
 obtain⟨v,e,h⟩:=h
 obtain⟨m,hn,hl⟩:=I.loc
 obtain⟨u,r,l⟩:=hl i x v hN e hv
 have fin:EP X pins σ Q u s:=⟨v,H,I,r,h⟩
 rcases l with ⟨hk,hm⟩ | ⟨hk,c,hc,CW⟩
 ·exact wpAny_Name (wpAny_loadName_local I.ok.kind hk hn hm fin) hd
 ·rcases hk with hk | hk
  ·exact wpAny_Name (wpAny_loadName_cell I.ok.kind hk hc CW fin) hd
  ·exact wpAny_Name (wpAny_loadName_free I.ok.kind hk hc CW fin Ea) hd
theorem af :PE X (.Constant (.int i) j pos) (tC (.int i)):=λ_ _ _ H _ I h=>wpAny_Constant_int ⟨.int i,H,I.tok _,⟨_,rfl⟩,h⟩
theorem eP :PE X (.Constant (.bool b) j pos) (tC (.bl b)):=λ_ _ _ H _ I h=>Constant_bool ⟨.bl b,H,I,rfl,h⟩
theorem cM :PE X (.Constant .none j pos) (tC .Bj):=λ_ _ _ H _ I h=>Constant_none ⟨.Bj,H,I,rfl,h⟩
theorem aO :PE X (.Constant (.str x) j pos) (tC (.str x)):=λ_ _ _ H _ I h=>Calls.Constant_str ⟨.str x,H,I.tok _,⟨_,rfl⟩,h⟩
def Gl(X:Cx)(x:Str):Prop:=X.env.kindOf x=some .globalImplicit
theorem gU{σ:St}(I:Inv X pins σ H s)(hg:Gl X x)(hm:X.mg x=some u)(h:Q u s)
  (hd:autoParam ((x == ("__debug__":Str))=false) θ):wpAny (model X.prog X.w) X.A (eval (.Name x pos) X.env) Q E s :=
 Calls.Name_function_global I.ok.kind hg (Calls.loadGlobal_global (by rw[I.ok.glob];exact I.mod.glob.keeps I.bk) hm h) hd
theorem gj{σ:St}(I:Inv X pins σ H s)(hg:Gl X x)(hm:X.mg x=none)(hv:bootBuiltins x=some u)(h:Q u s)
  (hn:autoParam (x ≠ "__name__") θ) (hd:autoParam ((x == ("__debug__":Str))=false) θ):wpAny (model X.prog X.w) X.A (eval (.Name x pos) X.env) Q E s:=by
 obtain⟨mb,h1,h2⟩:=I.mod.blt
 exact Calls.Name_function_global I.ok.kind hg (Calls.loadGlobal_builtin (by rw[I.ok.glob];exact I.mod.glob.keeps I.bk) hm (by rw[I.ok.blt];exact h1.keeps I.bk) ((h2 x hn).trans hv) h) hd
theorem dq(hg:Gl X x)(hm:X.mg x=some u)(r:RelV v u)(hd:autoParam ((x == ("__debug__":Str))=false) θ):PE X (.Name x pos) (tC v) :=
 λ_ _ _ H _ I h=>gU I hg hm ⟨v,H,I,r,h⟩ hd
theorem dQ(hg:Gl X x)(hm:X.mg x=none)(hv:bootBuiltins x=some u)(r:RelV v u)(hn:autoParam (x ≠ "__name__") θ)(hd:autoParam ((x == ("__debug__":Str))=false) θ):PE X (.Name x pos) (tC v) :=
 λ_ _ _ H _ I h=>gj I hg hm hv ⟨v,H,I,r,h⟩ hn hd
variable {a b:Expr}{ta tb:TE}{pos:Pos}
def PC(X:Cx)(op:CmpOp)(a b:Expr)(t:TE):Prop :=
 ∀(pins:List (Addr × Obj))(s:Shared)(σ:St)(H:Hp)(Q:VK),Inv X pins σ H s->t σ H Q ->
  wpAny (model X.prog X.w) X.A (eval a X.env) (λv s₁=>wpAny (model X.prog X.w) X.A (eval b X.env) (λu s₂=>wpAny (model X.prog X.w) X.A (compareOp op v u) (EP X pins σ Q) X.xe s₂) X.xe s₁) X.xe s
def tB(t:TE):TT:=λσ H Q=>t σ H λx H1=>∃c,x = .bl c/\Q c H1
theorem uv(h:PC X op a b t)(h1:behindInMarks op b=false:=by first | exact KD _ (by decide) (by decide) | rfl):PT X (.Compare a [op] [b] pos) (tB t):=by
 intro pins s σ H Q I hw
 refine wpAny_isTrue_Compare1 (aZ (h pins s σ H _ I hw) λv s1 h1=>aZ h1 λu s2 h2=>aZ h2 λc s3 AU=>?_) h1
 obtain⟨x,H1,I1,r1,q1⟩:=AU
 obtain⟨d,rfl,q⟩:=q1
 cases r1
 exact wpAny_truthy_bool ⟨H1,I1,q⟩
theorem bE(h:PE X e t)(he:autoParam (∀whole,isTrue e X.env whole=(do let v ← whole;standAt e.pos;holding [v] (truthy v))) ψ):PT X e (tB t):=by
 intro pins s σ H Q I hw
 refine isTrue_plain (aZ (h pins s σ H _ I hw) λv s1 AU=>?_) (he _)
 obtain⟨x,H1,I1,r1,q1⟩:=AU
 obtain⟨d,rfl,q⟩:=q1
 cases r1
 exact wpAny_truthy_bool ⟨H1,I1,q⟩
variable {tA OX:TT}{rest:List Expr}
def QV(t u:TT):TT:=λσ H Q=>t σ H λc H1=>if c=true then u σ H1 Q else Q false H1
def tOr(t u:TT):TT:=λσ H Q=>t σ H λc H1=>if c=true then Q true H1 else u σ H1 Q
def QW(t:TT):TT:=λσ H Q=>t σ H λc H1=>Q (!c) H1
theorem gM(ha:PT X a tA):PW X (.BoolOp .And [a] pos) tA:=by
 intro wh pins s σ H Q I h
 refine isTrue_and (aZ (ha pins s σ H Q I h) λc s1 e=>?_)
 cases c with
 | true=>exact isTrue_and_nil e
 | false=>exact e
theorem dH(ha:PT X a tA):PW X (.BoolOp .Or [a] pos) tA:=by
 intro wh pins s σ H Q I h
 refine isTrue_or (aZ (ha pins s σ H Q I h) λc s1 e=>?_)
 cases c with
 | false=>exact isTrue_or_nil e
 | true=>exact e
theorem im(ha:PT X a tA)(hb:PW X (.BoolOp .And (b :: rest) pos) OX):PW X (.BoolOp .And (a :: b :: rest) pos) (QV tA OX):=by
 intro wh pins s σ H Q I h
 refine isTrue_and (aZ (ha pins s σ H _ I h) λc s1 AU=>?_)
 obtain⟨H1,I1,q1⟩:=AU
 cases c with
 | true=>exact hb wh pins s1 σ H1 Q I1 q1
 | false=>exact⟨H1,I1,q1⟩
theorem eX(ha:PT X a tA)(hb:PW X (.BoolOp .Or (b :: rest) pos) OX):PW X (.BoolOp .Or (a :: b :: rest) pos) (tOr tA OX):=by
 intro wh pins s σ H Q I h
 refine isTrue_or (aZ (ha pins s σ H _ I h) λc s1 AU=>?_)
 obtain⟨H1,I1,q1⟩:=AU
 cases c with
 | true=>exact⟨H1,I1,q1⟩
 | false=>exact hb wh pins s1 σ H1 Q I1 q1
theorem bW(ha:PT X a tA):PT X (.UnaryOp .Not a pos) (QW tA):=by
 intro pins s σ H Q I h
 exact isTrue_not (ha pins s σ H (λc H1=>Q (!c) H1) I h)
def KG(ta tb:TE):TE:=λσ H Q=>ta σ H λx H1=>∃c,x = .bl c/\if c=true then tb σ H1 Q else Q (.bl false) H1
def QX(ta tb:TE):TE:=λσ H Q=>ta σ H λx H1=>∃c,x = .bl c/\if c=true then Q (.bl true) H1 else tb σ H1 Q
def KH(ta:TE):TE:=λσ H Q=>ta σ H λx H1=>∃c,x = .bl c/\Q (.bl (!c)) H1
theorem dz(h:PE X a t):PE X (.BoolOp op [a] pos) t:=λpins s σ H Q I hw=>BoolOp_one (h pins s σ H Q I hw)
theorem cE(ha:PE X a ta)(hb:PE X (.BoolOp .And (b :: rest) pos) tb):PE X (.BoolOp .And (a :: b :: rest) pos) (KG ta tb):=by
 intro pins s σ H Q I h
 refine BoolOp_and (aZ (ha pins s σ H _ I h) λv s1 AU=>?_)
 obtain⟨x,H1,I1,r1,q1⟩:=AU
 obtain⟨c,rfl,q1⟩:=q1
 cases r1
 refine wpAny_truthy_bool ?_
 cases c with
 | true=>exact hb pins s1 σ H1 Q I1 q1
 | false=>exact⟨.bl false,H1,I1,rfl,q1⟩
theorem KI(ha:PE X a ta)(hb:PE X (.BoolOp .Or (b :: rest) pos) tb):PE X (.BoolOp .Or (a :: b :: rest) pos) (QX ta tb):=by
 intro pins s σ H Q I h
 refine BoolOp_or (aZ (ha pins s σ H _ I h) λv s1 AU=>?_)
 obtain⟨x,H1,I1,r1,q1⟩:=AU
 obtain⟨c,rfl,q1⟩:=q1
 cases r1
 refine wpAny_truthy_bool ?_
 cases c with
 | false=>exact hb pins s1 σ H1 Q I1 q1
 | true=>exact⟨.bl true,H1,I1,rfl,q1⟩
theorem u7(ha:PE X a ta):PE X (.UnaryOp .Not a pos) (KH ta):=by
 intro pins s σ H Q I h
 refine UnaryOp_ (aZ (ha pins s σ H _ I h) λv s1 AU=>?_)
 obtain⟨x,H1,I1,r1,q1⟩:=AU
 obtain⟨c,rfl,q1⟩:=q1
 cases r1
 exact not_of (wpAny_truthy_bool ⟨.bl (!c),H1,I1,rfl,q1⟩)
def tIf(t:TT)(ta tb:TE):TE:=λσ H Q=>t σ H λc H1=>if c=true then ta σ H1 Q else tb σ H1 Q
theorem cP(hc:PT X c tA)(ha:PE X a ta)(hb:PE X b tb):PE X (.IfExp c a b pos) (tIf tA ta tb):=by
 intro pins s σ H Q I h
 refine wpAny_IfExp (aZ (hc pins s σ H _ I h) λd s1 AU=>?_)
 obtain⟨H1,I1,q1⟩:=AU
 cases d with
 | true=>exact ha pins s1 σ H1 Q I1 q1
 | false=>exact hb pins s1 σ H1 Q I1 q1
end
def AV(K:Frag)(H:Hp)(a:Addr)(xs:List V):Prop :=
 Rd H a (.lst xs) ∨
  ∃(o:Obj)(AW:Array Value)(n:Nat),K.lookup a=some o/\o.cls = .type "list"/\o.dict=none/\o.data = .seq AW n/\AW.size <= sizeLine/\Vals xs AW.toList
def AZ(K:Frag)(H:Hp)(a:Addr)(xs:List V):Prop :=
 Rd H a (.tup xs) ∨
  ∃(o:Obj)(AW:Array Value)(n:Nat),K.lookup a=some o/\o.cls = .type "tuple"/\o.data = .seq AW n/\AW.size <= sizeLine/\Vals xs AW.toList
noncomputable def QY:Value->Option V
 | .none=>some .Bj
 | .bool b=>some (.bl b)
 | .int i _=>some (.int i)
 | .str x _=>some (.str x)
 | .bytes b _=>some (.Ew b)
 | .float b _=>some (.IL b)
 | .ref a=>some (.ref a)
 | .type n=>some (.ty n)
 | _=>none
theorem RelV.abs(r:RelV x u):QY u=some x:=by
 cases x with
 | Bj=>cases r;rfl
 | bl _=>cases r;rfl
 | int _=>obtain⟨t,rfl⟩:=r;rfl
 | str _=>obtain⟨t,rfl⟩:=r;rfl
 | Ew _=>obtain⟨t,rfl⟩:=r;rfl
 | IL _=>obtain⟨t,rfl⟩:=r;rfl
 | ref _=>cases r;rfl
 | ty _=>cases r;rfl
theorem RelV.inj(r:RelV x u)(q:RelV y u):x=y:=Option.some.inj (r.abs.symm.trans q.abs)
theorem Vals.inj:∀{xs ys:List V}{us:List Value},Vals xs us->Vals ys us->xs=ys
 | _,_,_, .nil, .nil=>rfl
 | _,_,_, .cons r t, .cons r' t'=>by rw[r.inj r',Vals.inj t t']
section
variable {X:Cx}{pins:List (Addr × Obj)}{σ:St}{H:Hp}{s:Shared}{a:Addr}{xs ys:List V}
theorem AV.of{K:Frag}(h:H a=some (.lst xs)):AV K H a xs := .inl (.inl h)
theorem AZ.of{K:Frag}(h:H a=some (.tup xs)):AZ K H a xs := .inl (.inl h)
theorem Inv.list(I:Inv X pins σ H s)(h:AV X.K H a xs):∃AW:List Value,Vals xs AW/\PlainL s.heap a AW.toArray/\xs.length <= sizeLine:=by
 rcases h with h | ⟨o,AW,n,hk,hc,hd,hs,hz,r⟩
 ·obtain⟨z,AW,n,r,e⟩:=h.ok I.Bb
  exact⟨AW,r,⟨_,n,e,rfl,rfl,rfl⟩,z⟩
 ·refine⟨AW.toList,r,⟨o,n,I.BO a o hk,hc,hd,by simpa using hs⟩,?_⟩
  have e:=r.length
  simp only[Array.length_toList]at e
  omega
theorem Inv.tuple(I:Inv X pins σ H s)(h:AZ X.K H a xs):∃AW:List Value,Vals xs AW/\IsTup s.heap a AW.toArray/\xs.length <= sizeLine:=by
 rcases h with h | ⟨o,AW,n,hk,hc,hs,hz,r⟩
 ·obtain⟨z,AW,r,p⟩:=h.ok I.Bb
  exact⟨AW,r,p.isTup,z⟩
 ·refine⟨AW.toList,r,⟨o,I.BO a o hk,hc,n,by simpa using hs⟩,?_⟩
  have e:=r.length
  simp only[Array.length_toList]at e
  omega
theorem Inv.DA(I:Inv X pins σ H s)(h:AV X.K H a xs)(h':AV X.K H a ys):xs=ys:=by
 obtain⟨AW,r,⟨o,n,e,_,_,d⟩,_⟩:=I.list h
 obtain⟨its',r',⟨o',n',e',_,_,d'⟩,_⟩:=I.list h'
 rw[e]at e';cases e'
 rw[d]at d'
 injection d' with d1 _
 have:AW=its':=by simpa using congrArg Array.toList d1
 subst this
 exact r.inj r'
theorem Inv.CY(I:Inv X pins σ H s)(h:AZ X.K H a xs)(h':AZ X.K H a ys):xs=ys:=by
 obtain⟨AW,r,⟨o,e,_,n,d⟩,_⟩:=I.tuple h
 obtain⟨its',r',⟨o',e',_,n',d'⟩,_⟩:=I.tuple h'
 rw[e]at e';cases e'
 rw[d]at d'
 injection d' with d1 _
 have:AW=its':=by simpa using congrArg Array.toList d1
 subst this
 exact r.inj r'
end
abbrev Cx.C3(X:Cx)(E:Value->Shared->Prop):Cx:={ X with xe:=E }
abbrev Cx.FU(X:Cx):Cx:=X.C3 λ_ _=>False
theorem Cx.Ok.C3{X:Cx}(ok:X.Ok)(E:Value->Shared->Prop):(X.C3 E).Ok :=
 ⟨ok.mod,ok.kind,ok.glob,ok.blt,ok.above,ok.inj,ok.has,ok.JU,ok.hd,ok.frames,ok.K7,ok.QO,ok.bs,ok.FQ,ok.EE,ok.Fv,ok.Ci,ok.HF⟩
theorem Cx.Ok.BD{X:Cx}(ok:(X.C3 E).Ok):X.Ok :=
 ⟨ok.mod,ok.kind,ok.glob,ok.blt,ok.above,ok.inj,ok.has,ok.JU,ok.hd,ok.frames,ok.K7,ok.QO,ok.bs,ok.FQ,ok.EE,ok.Fv,ok.Ci,ok.HF⟩
section
variable {X:Cx}{pins:List (Addr × Obj)}{σ:St}{H:Hp}{s:Shared}{E:Value->Shared->Prop}
theorem Inv.C3(I:Inv X pins σ H s)(E:Value->Shared->Prop):Inv (X.C3 E) pins σ H s:=⟨I.ok.C3 E,I.os,I.bare,I.base,I.loc,I.cell,I.free,I.Bz,I.pin,I.Bb,I.len⟩
theorem Inv.BD(I:Inv (X.C3 E) pins σ H s):Inv X pins σ H s:=⟨I.ok.BD,I.os,I.bare,I.base,I.loc,I.cell,I.free,I.Bz,I.pin,I.Bb,I.len⟩
theorem SP.BD(h:SP (X.C3 E) pins D f s'):SP X pins D f s':=by
 cases f with
 | next=>obtain⟨σ',H',I,q⟩:=h;exact⟨σ',H',I.BD,q⟩
 | brk=>obtain⟨σ',H',I,q⟩:=h;exact⟨σ',H',I.BD,q⟩
 | cont=>obtain⟨σ',H',I,q⟩:=h;exact⟨σ',H',I.BD,q⟩
 | ret u=>obtain⟨v,σ',H',I,r,q⟩:=h;exact⟨v,σ',H',I.BD,r,q⟩
theorem DX.FU{st:List Stmt}(h:DX X.FU st t):DX X st t:=λpins s σ H D I hw =>
 wpAny_mono (h pins s σ H D (I.C3 _) hw) (λ_ _ q=>q.BD) λ_ _ z=>False.elim z
end
section
variable {X:Cx}{st:Stmt}{rest:List Stmt}{t u:TS}{e:Expr}{te:TE}{pos:Pos}
def KJ:TS:=λD σ H=>D.nx σ H
def KL(t u:TS):TS:=λD σ H=>t { D with nx:=u D } σ H
theorem aB:DX X [] KJ:=λ_ _ σ H _ I h=>wpAny_execs_nil ⟨σ,H,I,h⟩
theorem ae(h1:PS X st t)(h2:DX X rest u):DX X (st :: rest) (KL t u):=by
 intro pins s σ H D I h
 refine wpAny_execs_cons (aZ (h1 pins s σ H { D with nx:=u D } I h) λf s1 q=>?_)
 cases f with
 | next =>
  obtain⟨σ',H',I',q⟩:=q
  exact h2 pins s1 σ' H' D I' q
 | ret v=>exact q
 | brk=>exact q
 | cont=>exact q
theorem ag(h1:PS X st t):DX X [st] t:=by
 intro pins s σ H D I h
 refine wpAny_execs_cons (aZ (h1 pins s σ H D I h) λf s1 q=>?_)
 cases f with
 | next=>exact wpAny_execs_nil q
 | ret v=>exact q
 | brk=>exact q
 | cont=>exact q
theorem Inv.quiet{σ:St}(I:Inv X pins σ H s):interactive X.env=false:=by simp[interactive,I.ok.kind]
def KN(te:TE):TS:=λD σ H=>te σ H λ_ H1=>D.nx σ H1
theorem aS(he:PE X e te)(hs:autoParam (swapsWith e none pos.line X.env=pure false) η):PS X (.Expr e pos) (KN te):=by
 intro pins s σ H D I h
 exact wpAny_Expr_any (aZ (he pins s σ H _ I h) λv s1 AU=>by obtain⟨x,H1,I1,r1,q1⟩:=AU;exact⟨σ,H1,I1,q1⟩) I.quiet hs
def QZ(te:TE):TS:=λD σ H=>te σ H D.rt
theorem aq(he:PE X e te):PS X (.Return (some e) pos) (QZ te):=by
 intro pins s σ H D I h
 exact wpAny_Return_some (aZ (he pins s σ H _ I h) λv s1 AU=>by obtain⟨x,H1,I1,r1,q1⟩:=AU;exact⟨x,σ,H1,I1,r1,q1⟩)
def Ra(c:TT)(t u:TS):TS:=λD σ H=>c σ H λb H1=>if b=true then t D σ H1 else u D σ H1
theorem aM(hc:PT X c tc)(ha:DX X a t)(hb:DX X b u):PS X (.If c a b pos) (Ra tc t u):=by
 intro pins s σ H D I h
 refine wpAny_If (aZ (hc pins s σ H _ I h) λd s1 AU=>?_)
 obtain⟨H1,I1,q1⟩:=AU
 cases d with
 | true=>exact ha pins s1 σ H1 D I1 q1
 | false=>exact hb pins s1 σ H1 D I1 q1
def yL:TS:=λ_ _ _=>False
theorem bA:PS X st yL:=λ_ _ _ _ _ _ h=>h.elim
end
abbrev TG:=V->St->Hp->(St->Hp->Prop)->Prop
abbrev AJ:=List V->St->Hp->(St->Hp->Prop)->Prop
def PG(X:Cx)(target:Expr)(t:TG):Prop :=
 ∀(pins:List (Addr × Obj))(s:Shared)(σ:St)(H:Hp)(v:V)(u:Value)(Q:St->Hp->Prop),Inv X pins σ H s->RelV v u->t v σ H Q ->
  wpAny (model X.prog X.w) X.A (assign target X.env u) (λ_ s'=>∃σ' H',Inv X pins σ' H' s'/\Q σ' H') X.xe s
def OY(X:Cx)(ts:List Expr)(t:AJ):Prop :=
 ∀(pins:List (Addr × Obj))(s:Shared)(σ:St)(H:Hp)(vs:List V)(us:List Value)(Q:St->Hp->Prop),Inv X pins σ H s->Vals vs us->t vs σ H Q ->
  wpAny (model X.prog X.w) X.A (assignInOrder ((assignEach ts X.env).map (·.2)) us) (λ_ s'=>∃σ' H',Inv X pins σ' H' s'/\Q σ' H') X.xe s
abbrev AI:=V->V->V->Hp->(Hp->Prop)->Prop
def KO(X:Cx)(t:AI):Prop :=
 ∀(pins:List (Addr × Obj))(s:Shared)(σ:St)(H:Hp)(o i v:V)(ov iv u:Value)(Q:Hp->Prop),Inv X pins σ H s->RelV o ov->RelV i iv->RelV v u->t o i v H Q ->
  wpAny (model X.prog X.w) X.A (setItem ov iv u) (λ_ s'=>∃H',Inv X pins σ H' s'/\Q H') X.xe s
abbrev OZ:=V->V->Hp->VK->Prop
def Wl(X:Cx)(op:Operator)(t:OZ):Prop :=
 ∀(pins:List (Addr × Obj))(s:Shared)(σ:St)(H:Hp)(x y:V)(v u:Value)(Q:VK),Inv X pins σ H s->RelV x v->RelV y u->t x y H Q ->
  wpAny (model X.prog X.w) X.A (inplaceOp op v u) (EP X pins σ Q) X.xe s
section
variable {X:Cx}{pos:Pos}
def dB(i:Nat):TG:=λv σ H Q=>Q (σ.set i (some v)) H
theorem au(hN:X.N.Nodup)(hi:X.N[i]? = some x)(hx:Loc X.env.scope x)(hf:autoParam (X.fn x=true∨X.env.scope.names.lookup x=some .local) ζ):PG X (.Name x pos) (dB i):=by
 intro pins s σ H v u Q I r h
 exact wpAny_assign_Name (gA I hN hi hx r (λs' I'=>⟨_,H,I',h⟩) hf)
noncomputable def Rb:AJ:=λvs σ H Q=>vs=[]/\Q σ H
noncomputable def KP(t:TG)(u:AJ):AJ:=λvs σ H Q=>∃v r,vs=v :: r/\t v σ H λσ' H'=>u r σ' H' Q
theorem dP:OY X [] Rb:=by
 intro pins s σ H vs us Q I r h
 obtain⟨e,h⟩:=h
 subst e
 cases r
 exact assignInOrder_nil ⟨σ,H,I,h⟩
theorem aW(h1:PG X e t)(h2:OY X es u)
  (hs:autoParam ((assignEach (e :: es) X.env).map (·.2)=assign e X.env :: (assignEach es X.env).map (·.2)) η):OY X (e :: es) (KP t u):=by
 intro pins s σ H vs us Q I r h
 obtain⟨v,vr,e1,h⟩:=h
 subst e1
 cases r with
 | cons r rr =>
  rw[hs]
  refine assignInOrder_cons (aZ (h1 pins s σ H _ _ _ I r h) λ_ s1 AU=>?_)
  obtain⟨σ1,H1,I1,q1⟩:=AU
  exact h2 pins s1 σ1 H1 _ _ Q I1 rr q1
def At(K:Frag)(n:Nat)(t:AJ):TG:=λv σ H Q=>∃a xs,v = .ref a/\AZ K H a xs/\xs.length=n/\t xs σ H Q
theorem fj(hc:X.calm=true)(h:OY X es t)
  (hn:autoParam ((assignEach es X.env).length=n) η) (Dx:autoParam ((assignEach es X.env).findIdx? (·.1)=none) η):PG X (.Tuple es k pos) (At X.K n t):=by
 intro pins s σ H v u Q I r hw
 obtain⟨a,xs,e1,hq,hl,hw⟩:=hw
 subst e1
 cases r
 obtain⟨AW,rv,ht,hz⟩:=I.tuple hq
 refine assign_Tuple_tuple (I.ok.hd hc) ht (by simp[hn,←hl,rv.length]) Dx λh' hx=>?_
 have I1:Inv X pins σ H { s with heap:=h' }:=I.kept (t':=s.toks) λb o e=>hx b o (ne_of_lt (lt_size e)) e
 exact h pins _ σ H xs _ Q I1 (by simpa using rv) hw
def Rc(to ti:TE)(t:AI):TG:=λv σ H Q=>to σ H λo H1=>ti σ H1 λi H2=>t o i v H2 λH3=>Q σ H3
theorem oV(ho:PE X o to)(hi:PE X i ti)(hs:KO X t)
  (ha:∀v,assign (.Subscript o i pos) X.env v=(do
   let ov ← holding [v] (eval o X.env)
   let iv ← holding [v,ov] (eval i X.env)
   standAt pos
   holding [v,ov,iv] (setItem ov iv v)
   release [v,ov,iv] []):=by intro _;rfl):PG X (.Subscript o i pos) (Rc to ti t):=by
 intro pins s σ H v u Q I r h
 rw[ha]
 refine wpAny_bind (wpAny_holding (aZ (ho pins s σ H _ I h) λov s1 AU=>?_))
 obtain⟨x,H1,I1,r1,q1⟩:=AU
 refine wpAny_bind (wpAny_holding (aZ (hi pins s1 σ H1 _ I1 q1) λiv s2 AU=>?_))
 obtain⟨y,H2,I2,r2,q2⟩:=AU
 refine wpAny_bind (wpAny_standAt (wpAny_bind (wpAny_holding (aZ (hs pins s2 σ H2 x y v ov iv u _ I2 r1 r2 r q2) λ_ s3 AU=>?_))))
 obtain⟨H3,I3,q3⟩:=AU
 exact wpAny_release ⟨σ,H3,I3,q3⟩
def wo(te:TE)(g:TG):TS:=λD σ H=>te σ H λx H1=>g x σ H1 D.nx
theorem gh(he:PE X e te)(hg:PG X tg g)(hs:autoParam (swapsWithSole [tg] e pos.line X.env=pure false) η)(hw:autoParam (swappedStores [tg] e X.env=pure none) η)
  (h1:autoParam ((assignEach [tg] X.env).map (·.2)=[assign tg X.env]) η):PS X (.Assign [tg] e pos) (wo te g):=by
 intro pins s σ H D I h
 refine wpAny_Assign_stores (aZ (he pins s σ H _ I h) λv s1 AU=>?_) hs hw
 obtain⟨x,H1,I1,r1,q1⟩:=AU
 rw[h1]
 exact aZ (hg pins s1 σ H1 x v _ I1 r1 q1) λ_ s2 q=>q
theorem ay(hN:X.N.Nodup)(hi:X.N[i]? = some x)(hx:Loc X.env.scope x)(he:PE X e te)(hs:autoParam (swapsWith e (some (.Name x pos')) pos.line X.env=pure false) η)(hf:autoParam (X.fn x=true∨X.env.scope.names.lookup x=some .local) ζ) :
  PS X (.Assign [.Name x pos'] e pos) (wo te (dB i)):=by
 intro pins s σ H D I h
 refine wpAny_Assign_Name (aZ (he pins s σ H _ I h) λv s1 AU=>?_) hs
 obtain⟨y,H1,I1,r1,q1⟩:=AU
 exact gA I1 hN hi hx r1 (λs2 I2=>⟨_,H1,I2,q1⟩) hf
def Rf(i:Nat)(te:TE)(ti:OZ):TS:=λD σ H=>∃x,σ[i]? = some (some x)/\te σ H λy H1=>ti x y H1 λz H2=>D.nx (σ.set i (some z)) H2
theorem zw(hN:X.N.Nodup)(hi:X.N[i]? = some x)(hx:Loc X.env.scope x)(he:PE X e te)(ho:Wl X op ti)(hf:autoParam (X.fn x=true∨X.env.scope.names.lookup x=some .local) ζ) :
  PS X (.AugAssign (.Name x pos') op e pos) (Rf i te ti):=by
 intro pins s σ H D I h
 obtain⟨v,e1,h⟩:=h
 obtain⟨m,hn,hl⟩:=I.loc
 have vis:OT X.env.scope x:=by rcases hx with k | k;exact .inl k;exact .inr (.inl k)
 obtain⟨u,r,l⟩:=hl i x v hi e1 vis
 refine wpAny_AugAssign_Name ?_
 have go:wpAny (model X.prog X.w) X.A (eval e X.env) (λw s₂=>wpAny (model X.prog X.w) X.A (inplaceOp op u w) (λr s₃=>wpAny (model X.prog X.w) X.A (storeName X.env x r) (λ_=>SP X pins D .next) X.xe s₃) X.xe s₂) X.xe s:=by
  refine aZ (he pins s σ H _ I h) λw s1 AU=>?_
  obtain⟨y,H1,I1,r1,q1⟩:=AU
  refine aZ (ho pins s1 σ H1 v y u w _ I1 r r1 q1) λz s2 AU=>?_
  obtain⟨zv,H2,I2,r2,q2⟩:=AU
  exact gA I2 hN hi hx r2 (λs3 I3=>⟨_,H2,I3,q2⟩) hf
 rcases l with ⟨hk,hm⟩ | ⟨hk,c,hc,CW⟩
 ·exact wpAny_loadName_local I.ok.kind hk hn hm go
 ·rcases hk with hk | hk
  ·exact wpAny_loadName_cell I.ok.kind hk hc CW go
  ·rcases hx with k | k
   ·have:X.env.scope.names.lookup x=some .free:=hk
    rw[k]at this;cases this
   ·have:X.env.scope.names.lookup x=some .free:=hk
    rw[k]at this;cases this
noncomputable def ipI(f:Int->Int->Int):OZ:=λx y H Q=>∃i j,x = .int i/\y = .int j/\Q (.int (f i j)) H
theorem Aq:Wl X .Add (ipI λi j=>i + j):=by
 intro pins s σ H x y v u Q I r1 r2 h
 obtain⟨i,j,e1,e2,q⟩:=h
 subst e1;subst e2
 obtain⟨t,rfl⟩:=r1
 obtain⟨t',rfl⟩:=r2
 exact iadd_int ⟨.int _,H,I.tok _,⟨_,rfl⟩,q⟩
end
section
variable {X:Cx}{pos:Pos}
def yF(c:TT)(tb:TS):TS:=λD σ H=>∃W:Nat->St->Hp->Prop,(∃m,W m σ H)/\∀m σ H,W m σ H ->
 c σ H λb H1=>if b=true then ∃N:St->Hp->Prop,(∀σ' H',N σ' H'->∃m',m' < m/\W m' σ' H')/\tb { D with nx:=N,ct:=N,bk:=D.nx } σ H1 else D.nx σ H1
theorem uw(hp:PassesOwn (model X.prog X.w) X.A X.env X.xe)(hc:PT X c tc)(hb:DX X body tb):PS X (.While c body [] pos) (yF tc tb):=by
 intro pins s σ H D I h
 obtain⟨W,⟨m0,w0⟩,turn⟩:=h
 refine wpAny_While (codeAny_whileLoop (λn s'=>∃σ' H',Inv X pins σ' H' s'/\W n σ' H') ?_ m0 ⟨σ,H,I,w0⟩)
 rintro n s1 ⟨σ1,H1,I1,w1⟩
 refine wpAny_passesOwn hp (aZ (hc pins s1 σ1 H1 _ I1 (turn n σ1 H1 w1)) λb s2 AU=>?_)
 obtain⟨H2,I2,q2⟩:=AU
 cases b with
 | true =>
  obtain⟨N,hN,q2⟩:=q2
  rw[if_pos rfl]
  refine wpAny_passesOwn hp (aZ (hb pins s2 σ1 H2 _ I2 q2) λf s3 q3=>?_)
  cases f with
  | next =>
   obtain⟨σ3,H3,I3,n3⟩:=q3
   obtain⟨m',hm,w3⟩:=hN σ3 H3 n3
   exact⟨m',hm,σ3,H3,I3,w3⟩
  | cont =>
   obtain⟨σ3,H3,I3,n3⟩:=q3
   obtain⟨m',hm,w3⟩:=hN σ3 H3 n3
   exact⟨m',hm,σ3,H3,I3,w3⟩
  | brk=>exact q3
  | ret v=>exact q3
 | false =>
  rw[if_neg Bool.false_ne_true]
  exact wpAny_execs_nil ⟨σ1,H2,I2,q2⟩
end
structure It where
 go:Nat->Hp->Prop
 FV:Nat->Hp->V->Hp->Prop
 stop:Nat->Hp->Prop
def fS(X:Cx)(pins:List (Addr × Obj))(H:Hp)(b:Addr):Prop :=
 H b=none/\b ≠ X.env.locals/\b ∉ X.fs/\(b ∈ X.ex∨X.s₀.heap.objs.size <= b)/\(∀x c,X.env.cells.lookup x=some c->c ≠ b)/\∀p ∈ X.pn ++ pins,p.1 ≠ b
theorem Inv.EF{σ:St}{b:Addr}(I:Inv X pins σ H s)(hb:s.heap.objs.size <= b)(hn:H' b=none):fS X pins H' b:=by
 refine⟨hn,ne_of_gt (lt_of_lt_of_le I.lt hb),I.QQ hb, .inr (le_trans I.sz hb),λx c e z=>?_,λp hp z=>?_⟩
 ·obtain⟨v,q⟩:=I.cell x c e
  exact absurd (lt_of_lt_of_le q.lt (by rw[z];exact hb)) (lt_irrefl _)
 ·exact absurd (lt_of_lt_of_le (lt_size (I.pin p hp).1) (by rw[z];exact hb)) (lt_irrefl _)
structure nK(P:Program)(w:World)(K:Frag)(tg:Expr)(J:It)(fp:List Addr)(it:Addr)(tn:Nat->Heap->Prop):Prop where
 mem:it ∈ fp
 obj:∀i h,tn i h->∀b ∈ fp,∃o,h.get? b=some o/\∀v,o.data ≠ .cell v
 keep:∀i h h',tn i h->(∀b ∈ fp,∀o,h.get? b=some o->h'.get? b=some o)->tn i h'
 item:∀(X:Cx),X.prog=P->X.w=w->X.K=K->X.calm=true->∀(i:Nat)(pins:List (Addr × Obj))(s:Shared)(σ:St)(H:Hp)(E:Value->Shared->Prop),Inv X pins σ H s->(∀b ∈ fp,fS X pins H b)->tn i s.heap->J.go i H ->
  wpAny (model P w) X.A (pyNext (.ref it)) (λr s1=>∃u,r=some u /\
   wpAny (model P w) X.A (letOwnedTupleGo tg (.ref it) u) (λ_ s2=>∃x H',Inv X pins σ H' s2/\RelV x u/\J.FV i H x H'/\tn (i + 1) s2.heap/\∀b ∈ fp,H' b=none) E s1) E s
 done:∀(X:Cx),X.prog=P->X.w=w->X.K=K->X.calm=true->∀(i:Nat)(pins:List (Addr × Obj))(s:Shared)(σ:St)(H:Hp)(E:Value->Shared->Prop),Inv X pins σ H s->(∀b ∈ fp,fS X pins H b)->tn i s.heap->J.stop i H ->
  wpAny (model P w) X.A (pyNext (.ref it)) (λr s1=>r=none/\Inv X pins σ H s1) E s
 self:∀(A:Around)(i:Nat)(s:Shared)(Q:Value->Shared->Prop)(E:Value->Shared->Prop),tn i s.heap->Q (.ref it) s->wpAny (model P w) A (pyIter (.ref it)) Q E s
abbrev TI:=St->Hp->(It->Hp->Prop)->Prop
def Wm(X:Cx)(pins:List (Addr × Obj))(σ:St)(tg:Expr)(R:It->Hp->Prop)(Pa:Value)(s2:Shared):Prop :=
 ∃(it:Addr)(fp:List Addr)(tn:Nat->Heap->Prop)(J:It)(H':Hp),Pa = .ref it/\Inv X pins σ H' s2/\nK X.prog X.w X.K tg J fp it tn/\tn 0 s2.heap/\(∀b ∈ fp,fS X pins H' b)/\R J H'
def PI(X:Cx)(tg iter:Expr)(wi:TI):Prop :=
 ∀(pins:List (Addr × Obj))(s:Shared)(σ:St)(H:Hp)(R:It->Hp->Prop),Inv X pins σ H s->wi σ H R ->
  wpAny (model X.prog X.w) X.A (eval iter X.env) (λv s1=>wpAny (model X.prog X.w) X.A (pyIter v) (Wm X pins σ tg R) X.xe s1) X.xe s
theorem qG(ho:s.heap.get? it=some o)(hc:o.cls = .type n)(hd:o.data = .fields vs)
  (hn:["enumerate", "zip", "dict_itemiterator", "dict_reverseitemiterator", "odict_iterator", "itertools.zip_longest", "itertools.pairwise"].contains n=false) (hQ:Q () s):wpAny M A (letOwnedTupleGo tg (.ref it) u) Q E s:=by
 unfold letOwnedTupleGo
 cases tg<;>first
  | exact wpAny_pure hQ
  | (cases u<;>first
    | exact wpAny_pure hQ
    | (refine wpAny_bind (wpAny_load ho ?_)
       rw[hc,hd]
       show wpAny M A (if (["enumerate", "zip", "dict_itemiterator", "dict_reverseitemiterator", "odict_iterator", "itertools.zip_longest", "itertools.pairwise"].contains n && vs[0]? == some (rawInt _))=true then _ else _) Q E s
       rw[if_neg (by intro h;rw[hn,Bool.false_and]at h;cases h)]
       exact wpAny_pure hQ))
noncomputable def vZ(K:Frag)(a:Addr):It :=
 ⟨λi H=>∃xs x,AV K H a xs/\xs[i]? = some x,λi H x H'=>H' = H/\∀xs,AV K H a xs->xs[i]? = some x,λi H=>∃xs,AV K H a xs/\xs.length <= i⟩
noncomputable def Pb(K:Frag)(a:Addr):It :=
 ⟨λi H=>∃xs x,AZ K H a xs/\xs[i]? = some x,λi H x H'=>H' = H/\∀xs,AZ K H a xs->xs[i]? = some x,λi H=>∃xs,AZ K H a xs/\xs.length <= i⟩
noncomputable def so(lo:Int)(n:Nat):It:=⟨λi _=>i < n,λi H x H'=>H' = H/\x = .int (lo + i),λi _=>n <= i⟩
theorem qT{K:Frag}(a it:Addr):nK P w K tg (vZ K a) [it] it (λi h=>h.IsListIter it a i) where
 mem:=by simp
 obj:=λi h st b hb=>by
  have e:b=it:=by simpa using hb
  subst e
  obtain⟨o,e,c,d⟩:=st
  exact⟨o,e,λv z=>by rw[d]at z;cases z⟩
 keep:=λi h h' st k=>st.at λo e=>k it (by simp) o e
 item:=by
  intro X hP hw hK hc i pins s σ H E I hf st hg
  subst hP hw hK
  obtain⟨xs,x,hq,hx⟩:=hg
  obtain⟨AW,rv,p,hz⟩:=I.list hq
  obtain⟨u,hu,ru⟩:=rv.get hx
  obtain⟨f0,f1,f2,f3,f4,f5⟩:=hf it (by simp)
  refine wpAny_pyNext_list_item st p.isList (x:=u) (by simpa using hu) λh' Fb sb=>?_
  have I1:Inv X pins σ H { s with heap:=h' }:=I.turned (t':=s.toks) (λb o hb e=>(sb.2 b hb).trans e) f0 f1 f3 f4 f5
  obtain⟨o,e,c,d⟩:=id Fb
  exact⟨u,rfl,qG (s:={ s with heap:=h' }) e c d (by decide) ⟨x,H,I1,ru,⟨rfl,λys hy=>by rw[I.DA hy hq];exact hx⟩,Fb,λb hb=>(hf b hb).1⟩⟩
 done:=by
  intro X hP hw hK hc i pins s σ H E I hf st hg
  subst hP hw hK
  obtain⟨xs,hq,hx⟩:=hg
  obtain⟨AW,rv,p,hz⟩:=I.list hq
  obtain⟨f0,f1,f2,f3,f4,f5⟩:=hf it (by simp)
  have hl:=rv.length
  exact wpAny_pyNext_list_end (I.ok.hd hc) st p.isList (by simp;omega) λh' eb=>⟨rfl,I.turned (t':=s.toks) (λb o hb e=>eb b o hb e) f0 f1 f3 f4 f5⟩
 self:=λ_ _ _ _ _ st h=>wpAny_pyIter_listiter st h
theorem nS{K:Frag}(a it:Addr):nK P w K tg (Pb K a) [it] it (λi h=>h.IsTupleIter it a i) where
 mem:=by simp
 obj:=λi h st b hb=>by
  have e:b=it:=by simpa using hb
  subst e
  obtain⟨o,e,c,d⟩:=st
  exact⟨o,e,λv z=>by rw[d]at z;cases z⟩
 keep:=λi h h' st k=>st.at λo e=>k it (by simp) o e
 item:=by
  intro X hP hw hK hc i pins s σ H E I hf st hg
  subst hP hw hK
  obtain⟨xs,x,hq,hx⟩:=hg
  obtain⟨AW,rv,p,hz⟩:=I.tuple hq
  obtain⟨u,hu,ru⟩:=rv.get hx
  obtain⟨f0,f1,f2,f3,f4,f5⟩:=hf it (by simp)
  refine wpAny_pyNext_tuple_item st (show s.heap.IsTuple a AW.toArray from p) (x:=u) (by simpa using hu) λh' Fb sb=>?_
  have I1:Inv X pins σ H { s with heap:=h' }:=I.turned (t':=s.toks) (λb o hb e=>(sb.2 b hb).trans e) f0 f1 f3 f4 f5
  obtain⟨o,e,c,d⟩:=id Fb
  exact⟨u,rfl,qG (s:={ s with heap:=h' }) e c d (by decide) ⟨x,H,I1,ru,⟨rfl,λys hy=>by rw[I.CY hy hq];exact hx⟩,Fb,λb hb=>(hf b hb).1⟩⟩
 done:=by
  intro X hP hw hK hc i pins s σ H E I hf st hg
  subst hP hw hK
  obtain⟨xs,hq,hx⟩:=hg
  obtain⟨AW,rv,p,hz⟩:=I.tuple hq
  obtain⟨f0,f1,f2,f3,f4,f5⟩:=hf it (by simp)
  have hl:=rv.length
  exact wpAny_pyNext_tuple_end (I.ok.hd hc) st (show s.heap.IsTuple a AW.toArray from p) (by simp;omega) λh' eb=>⟨rfl,I.turned (t':=s.toks) (λb o hb e=>eb b o hb e) f0 f1 f3 f4 f5⟩
 self:=λ_ _ _ _ _ st h=>wpAny_pyIter_tupleiter st h
theorem nU{K:Frag}(it:Addr)(lo:Int)(n:Nat):nK P w K tg (so lo n) [it] it (λi h=>IsRangeIter h it (lo + (i:Nat) * 1) ((n:Int) - (i:Nat)) 1) where
 mem:=by simp
 obj:=λi h st b hb=>by
  have e:b=it:=by simpa using hb
  subst e
  exact⟨_,st,λv z=>by
   have z':Data.fields _=Data.cell v:=z
   cases z'⟩
 keep:=λi h h' st k=>k it (by simp) _ st
 item:=by
  intro X hP hw hK hc i pins s σ H E I hf st hg
  subst hP hw hK
  obtain⟨f0,f1,f2,f3,f4,f5⟩:=hf it (by simp)
  have W:=Walks.range (prog:=X.prog) (w:=X.w) (I.ok.hd hc) it lo 1 n
  refine W.item i s _ _ hg st λv h' tk hv Fb kk=>?_
  obtain⟨t,rfl⟩:=hv
  have I1:Inv X pins σ H { s with heap:=h',toks:=tk }:=I.turned (λb o hb e=>kk b o (by simpa using hb) e) f0 f1 f3 f4 f5
  refine⟨_,rfl,qG (s:={ s with heap:=h',toks:=tk }) (n := "range_iterator") Fb rfl rfl (by decide) ⟨.int (lo + i),H,I1,⟨t,?_⟩,⟨rfl,rfl⟩,Fb,λb hb=>(hf b hb).1⟩⟩
  rw[Int.mul_one]
 done:=by
  intro X hP hw hK hc i pins s σ H E I hf st hg
  subst hP hw hK
  obtain⟨f0,f1,f2,f3,f4,f5⟩:=hf it (by simp)
  exact wpAny_pyNext_range_end (I.ok.hd hc) st (by have:n <= i:=hg;omega) λh' eb=>⟨rfl,I.turned (t':=s.toks) (λb o hb e=>eb b o hb e) f0 f1 f3 f4 f5⟩
 self:=λ_ _ _ _ _ st h=>wpAny_pyIter_rangeiter st h
section
variable {X:Cx}{tg:Expr}
def KQ(K:Frag)(tl:TE):TI:=λσ H R=>tl σ H λx H1=>∃a,x = .ref a/\(∃xs,AV K H1 a xs)/\R (vZ K a) H1
def Rg(K:Frag)(tl:TE):TI:=λσ H R=>tl σ H λx H1=>∃a,x = .ref a/\(∃xs,AZ K H1 a xs)/\R (Pb K a) H1
theorem bF(hl:PE X l tl):PI X tg l (KQ X.K tl):=by
 intro pins s σ H R I h
 refine aZ (hl pins s σ H _ I h) λv s1 AU=>?_
 obtain⟨x,H1,I1,r1,q1⟩:=AU
 obtain⟨a,e,⟨xs,hq⟩,q⟩:=q1
 subst e
 cases r1
 obtain⟨AW,rv,p,hz⟩:=I1.list hq
 refine wpAny_pyIter_list p.isList ?_
 refine⟨s1.heap.objs.size,[s1.heap.objs.size],_,_,H1,rfl,I1.kept (t':=s1.toks) λb o e=>Heap.get?_push_of_some _ e,qT a _,⟨_,Heap.get?_push_size _ rfl,rfl,rfl⟩,λb hb=>?_,q⟩
 have e:b=s1.heap.objs.size:=by simpa using hb
 subst e
 exact I1.EF (le_refl _) (I1.Bb.fresh (le_refl _))
theorem lw(hl:PE X l tl):PI X tg l (Rg X.K tl):=by
 intro pins s σ H R I h
 refine aZ (hl pins s σ H _ I h) λv s1 AU=>?_
 obtain⟨x,H1,I1,r1,q1⟩:=AU
 obtain⟨a,e,⟨xs,hq⟩,q⟩:=q1
 subst e
 cases r1
 obtain⟨AW,rv,p,hz⟩:=I1.tuple hq
 refine wpAny_pyIter_tuple (show s1.heap.IsTuple a AW.toArray from p) ?_
 refine⟨s1.heap.objs.size,[s1.heap.objs.size],_,_,H1,rfl,I1.kept (t':=s1.toks) λb o e=>Heap.get?_push_of_some _ e,nS a _,⟨_,Heap.get?_push_size _ rfl,rfl,rfl⟩,λb hb=>?_,q⟩
 have e:b=s1.heap.objs.size:=by simpa using hb
 subst e
 exact I1.EF (le_refl _) (I1.Bb.fresh (le_refl _))
theorem m9{σ:St}{lo hi:Int}(I:Inv X pins σ H s)(h1:-(2 ^ 62) <= lo)(h2:lo < 2 ^ 62)(h3:-(2 ^ 62) <= hi)(h4:hi < 2 ^ 62)
  (q:R (so lo (hi - lo).toNat) H):wpAny (model X.prog X.w) X.A (pyIter (.ref s.heap.objs.size)) (Wm X pins σ tg R) E { s with heap:=s.heap.push { cls := .type "range",data := .fields #[.int lo t, .int hi u, .int 1 v] },toks:=tk }:=by
 refine wpAny_pyIter_range (IsRange.new ..) (small_one h1 h2 h3 h4) ?_
 have I1:Inv X pins σ H { s with heap:=s.heap.push { cls := .type "range",data := .fields #[.int lo t, .int hi u, .int 1 v] },toks:=tk }:=I.kept λb o e=>Heap.get?_push_of_some _ e
 refine⟨(s.heap.push { cls := .type "range",data := .fields #[.int lo t, .int hi u, .int 1 v] }).objs.size,[(s.heap.push { cls := .type "range",data := .fields #[.int lo t, .int hi u, .int 1 v] }).objs.size],_,_,H,rfl,
  I1.kept (t':=tk) λb o e=>Heap.get?_push_of_some _ e,nU _ lo (hi - lo).toNat,?_,λb hb=>?_,q⟩
 ·have e1:lo + ((0:Nat):Int) * 1=lo:=by simp
  have e2:(((hi - lo).toNat:Nat):Int) - ((0:Nat):Int)=Builtin.Range.rangeSize lo hi 1:=by rw[rangeSize_one];split<;>omega
  show IsRangeIter _ _ (lo + ((0:Nat):Int) * 1) ((((hi - lo).toNat:Nat):Int) - ((0:Nat):Int)) 1
  rw[e1,e2]
  exact Heap.get?_push_size _ rfl
 ·have e:b=(s.heap.push { cls := .type "range",data := .fields #[.int lo t, .int hi u, .int 1 v] }).objs.size:=by simpa using hb
  subst e
  exact I1.EF (le_refl _) (I1.Bb.fresh (le_refl _))
def KR(ta:TA):TI:=λσ H R=>ta σ H λvs H1=>∃j:Int,vs=[.int j]/\-(2 ^ 62) <= j/\j < 2 ^ 62/\R (so 0 j.toNat) H1
def KS(ta:TA):TI:=λσ H R=>ta σ H λvs H1=>∃i j:Int,vs=[.int i, .int j]/\(-(2 ^ 62) <= i/\i < 2 ^ 62/\-(2 ^ 62) <= j/\j < 2 ^ 62)/\R (so i (j - i).toNat) H1
theorem aQ(hg:Gl X "range")(hm:X.mg "range" = none)(ha:PA X [a] ta)(hs:autoParam (starEach [a] X.env=[(false,eval a X.env)]) η):PI X tg (.Call (.Name "range" p) [a] [] pos) (KR ta):=by
 intro pins s σ H R I h
 refine Call_ (gj I hg hm boot_range (PyProof.Rows.callWith_type1 (aZ (ha pos pins s σ H _ I h) λus s1 AU=>?_) hs rfl))
 obtain⟨vs,H1,I1,r1,q1⟩:=AU
 obtain⟨j,e,q1,q2,q⟩:=q1
 subst e
 cases r1 with
 | cons r rr =>
  cases rr
  obtain⟨t,rfl⟩:=r
  exact call_range_1 (m9 I1 (by omega) (by omega) q1 q2 (by simpa using q))
theorem rh(hg:Gl X "range")(hm:X.mg "range" = none)(ha:PA X [a,b] ta)(hs:autoParam (starEach [a,b] X.env=[(false,eval a X.env),(false,eval b X.env)]) η)(EG:autoParam (starEach [b] X.env=[(false,eval b X.env)]) η) :
  PI X tg (.Call (.Name "range" p) [a,b] [] pos) (KS ta):=by
 intro pins s σ H R I h
 refine Call_ (gj I hg hm boot_range (PyProof.Rows.callWith_type1 (aZ (ha pos pins s σ H _ I h) λus s1 AU=>?_) (by rw[hs,EG]) (by rw[EG];rfl)))
 obtain⟨vs,H1,I1,r1,q1⟩:=AU
 obtain⟨i,j,e,⟨q1,q2,q3,q4⟩,q⟩:=q1
 subst e
 cases r1 with
 | cons r rr =>
  cases rr with
  | cons r' rr =>
   cases rr
   obtain⟨t,rfl⟩:=r
   obtain⟨t',rfl⟩:=r'
   exact call_range_2 (m9 I1 q1 q2 q3 q4 q)
def Rh(wi:TI)(g:TG)(tb:TS):TS:=λD σ H=>wi σ H λJ H1=>∃W:Nat->Nat->St->Hp->Prop,(∃m,W 0 m σ H1)/\∀i m σ H,W i m σ H ->
 (J.stop i H/\D.nx σ H)∨(J.go i H/\∃N:St->Hp->Prop,(∀σ' H',N σ' H'->∃m',m' < m/\W (i + 1) m' σ' H')/\∀x H',J.FV i H x H'->g x σ H' λσ2 H2=>tb { D with nx:=N,ct:=N,bk:=D.nx } σ2 H2)
noncomputable def eK(fp:List Addr)(h:Heap):List (Addr × Obj):=fp.filterMap λb=>(h.get? b).map λo=>(b,o)
theorem eM(hb:b ∈ fp)(e:h.get? b=some o):(b,o) ∈ eK fp h:=List.mem_filterMap.mpr ⟨b,hb,by rw[e];rfl⟩
theorem kq(hp:p ∈ eK fp h):p.1 ∈ fp/\h.get? p.1=some p.2:=by
 obtain⟨b,hb,e⟩:=List.mem_filterMap.mp hp
 cases q:h.get? b with
 | none=>rw[q]at e;cases e
 | some o =>
  rw[q]at e
  have e':(b,o)=p:=Option.some.inj e
  subst e'
  exact⟨hb,q⟩
theorem Inv.pinned{σ:St}(I:Inv X pins σ H s)(hf:∀b ∈ fp,fS X pins H b)(ho:∀b ∈ fp,∃o,s.heap.get? b=some o/\∀v,o.data ≠ .cell v):Inv X (pins ++ eK fp s.heap) σ H s :=
 I.BU λp hp=>(mem_append.mp hp).elim (λz=>I.pin p (mem_append_right _ z)) λz=>by
  obtain⟨hb,e⟩:=kq z
  obtain⟨f0,f1,f2,_⟩:=hf p.1 hb
  obtain⟨o,e',d⟩:=ho p.1 hb
  rw[e]at e';cases e'
  exact⟨e,f0,f1,f2,d⟩
theorem Inv.Cj{σ:St}(I:Inv X (pins ++ pl) σ H s):Inv X pins σ H s:=I.BU λp hp=>I.pin p (mem_append_right _ (mem_append_left _ hp))
theorem bK(hp:PassesOwn (model X.prog X.w) X.A X.env X.xe)(hc:X.calm=true)(hi:PI X tg iter wi)(hg:PG X tg g)(hb:DX X body tb)
  (hs:autoParam (∀x,foldedSetIterable iter X.env x=pure x) ψ):PS X (.For tg iter body [] pos) (Rh wi g tb):=by
 intro pins s σ H D I h
 refine wpAny_For (aZ (hi pins s σ H _ I h) λv s1 h1=>aZ h1 λPa s2 h2=>?_) hs
 obtain⟨it,fp,tn,J,H2,e,I2,T,KU,f2,W,⟨m0,w0⟩,turn⟩:=h2
 subst e
 have stat:∀{H':Hp},(∀b ∈ fp,H' b=none)->∀b ∈ fp,fS X pins H' b:=λhn b hb=>⟨hn b hb,(f2 b hb).2⟩
 refine codeAny_forLoop_any (λn s'=>∃i σ' H',Inv X pins σ' H' s'/\tn i s'.heap/\(∀b ∈ fp,H' b=none)/\W i n σ' H') ?_ m0 ⟨0,σ,H2,I2,KU,λb hb=>(f2 b hb).1,w0⟩
 rintro n s3 ⟨i,σ3,H3,I3,Wn,Wo,w3⟩
 rcases turn i n σ3 H3 w3 with ⟨stop,qn⟩ | ⟨go,N,hN,step⟩
 ·refine wpAny_passesOwn hp (aZ (T.done X rfl rfl rfl hc i pins s3 σ3 H3 X.xe I3 (stat Wo) Wn stop) λr s4 AU=>?_)
  obtain⟨hr,I4⟩:=AU
  subst hr
  exact wpAny_execs_nil ⟨σ3,H3,I4,qn⟩
 ·refine wpAny_passesOwn hp (aZ (T.item X rfl rfl rfl hc i pins s3 σ3 H3 X.xe I3 (stat Wo) Wn go) λr s4 AU=>?_)
  obtain⟨u,hr,h4⟩:=AU
  subst hr
  refine wpAny_passesOwn hp (aZ h4 λ_ s5 AU=>?_)
  obtain⟨x,H5,I5,r5,y5,JV,Pc⟩:=AU
  have I5':=I5.pinned (stat Pc) (T.obj _ _ JV)
  refine wpAny_passesOwn hp (aZ (hg _ s5 σ3 H5 x u _ I5' r5 (step x H5 y5)) λ_ s6 AU=>?_)
  obtain⟨σ6,H6,I6,q6⟩:=AU
  refine wpAny_passesOwn hp (aZ (hb _ s6 σ6 H6 _ I6 q6) λf s7 q7=>?_)
  have again:∀{σ7:St}{H7:Hp},Inv X (pins ++ eK fp s5.heap) σ7 H7 s7->N σ7 H7->∃m,m < n/\∃i σ' H',Inv X pins σ' H' s7/\tn i s7.heap/\(∀b ∈ fp,H' b=none)/\W i m σ' H':=λ{σ7 H7} I7 n7=>by
   obtain⟨m',hm,w7⟩:=hN σ7 H7 n7
   refine⟨m',hm,i + 1,σ7,H7,I7.Cj,T.keep _ _ _ JV λb hb o e=>(I7.pin (b,o) (mem_append_right _ (mem_append_right _ (eM hb e)))).1,λb hb=>?_,w7⟩
   obtain⟨o,e,d⟩:=T.obj _ _ JV b hb
   exact(I7.pin (b,o) (mem_append_right _ (mem_append_right _ (eM hb e)))).2.1
  cases f with
  | next=>obtain⟨σ7,H7,I7,n7⟩:=q7;exact again I7 n7
  | cont=>obtain⟨σ7,H7,I7,n7⟩:=q7;exact again I7 n7
  | brk=>obtain⟨σ7,H7,I7,q7⟩:=q7;exact⟨σ7,H7,I7.Cj,q7⟩
  | ret v=>obtain⟨x7,σ7,H7,I7,r7,q7⟩:=q7;exact⟨x7,σ7,H7,I7.Cj,r7,q7⟩
end
theorem fG{K:Frag}{g:TG}{tb:TS}{D:i3}(Pv:Nat->St->Hp->Prop)(h0:Pv 0 σ H)(hl:∀i σ H,i <= xs.length->Pv i σ H->AV K H a xs)
  (hs:∀i x σ H,xs[i]? = some x->Pv i σ H->g x σ H λσ2 H2=>tb { D with nx:=Pv (i + 1),ct:=Pv (i + 1),bk:=D.nx } σ2 H2) (hd:∀σ H,Pv xs.length σ H->D.nx σ H) :
  ∃W:Nat->Nat->St->Hp->Prop,(∃m,W 0 m σ H)/\∀i m σ H,W i m σ H ->
   ((vZ K a).stop i H/\D.nx σ H)∨((vZ K a).go i H/\∃N:St->Hp->Prop,(∀σ' H',N σ' H'->∃m',m' < m/\W (i + 1) m' σ' H')/\∀x H',(vZ K a).FV i H x H'->g x σ H' λσ2 H2=>tb { D with nx:=N,ct:=N,bk:=D.nx } σ2 H2):=by
 refine⟨λi m σ H=>m=xs.length - i/\i <= xs.length/\Pv i σ H,⟨xs.length,by simp,zero_le _,h0⟩,?_⟩
 rintro i m σ H ⟨rfl,hi,p⟩
 have q:=hl i σ H hi p
 by_cases B5:i < xs.length
 ·refine .inr ⟨⟨xs,xs[i],q,by simp[B5]⟩,Pv (i + 1),λσ' H' p'=>⟨xs.length - (i + 1),by omega,rfl,B5,p'⟩,λx H' y=>?_⟩
  obtain⟨e,y⟩:=y
  subst e
  exact hs i x σ _ (y xs q) p
 ·have e:i=xs.length:=by omega
  subst e
  exact .inl ⟨⟨xs,q,le_refl _⟩,hd σ H p⟩
theorem b6{lo:Int}{g:TG}{tb:TS}{D:i3}(Pv:Nat->St->Hp->Prop)(h0:Pv 0 σ H)
  (hs:∀i σ H,i < n->Pv i σ H->g (.int (lo + i)) σ H λσ2 H2=>tb { D with nx:=Pv (i + 1),ct:=Pv (i + 1),bk:=D.nx } σ2 H2) (hd:∀σ H,Pv n σ H->D.nx σ H) :
  ∃W:Nat->Nat->St->Hp->Prop,(∃m,W 0 m σ H)/\∀i m σ H,W i m σ H ->
   ((so lo n).stop i H/\D.nx σ H)∨((so lo n).go i H/\∃N:St->Hp->Prop,(∀σ' H',N σ' H'->∃m',m' < m/\W (i + 1) m' σ' H')/\∀x H',(so lo n).FV i H x H'->g x σ H' λσ2 H2=>tb { D with nx:=N,ct:=N,bk:=D.nx } σ2 H2):=by
 refine⟨λi m σ H=>m=n - i/\i <= n/\Pv i σ H,⟨n,by simp,zero_le _,h0⟩,?_⟩
 rintro i m σ H ⟨rfl,hi,p⟩
 by_cases B5:i < n
 ·refine .inr ⟨B5,Pv (i + 1),λσ' H' p'=>⟨n - (i + 1),by omega,rfl,B5,p'⟩,λx H' y=>?_⟩
  obtain⟨e,y⟩:=y
  subst e y
  exact hs i σ _ B5 p
 ·have e:i=n:=by omega
  subst e
  exact .inl ⟨le_refl _,hd σ H p⟩
abbrev R2:=V->V->Hp->VK->Prop
def eO(X:Cx)(f:Value->Value->Sem Value)(r:R2):Prop :=
 ∀(pins:List (Addr × Obj))(s:Shared)(σ:St)(H:Hp)(x y:V)(v u:Value)(Q:VK),Inv X pins σ H s->RelV x v->RelV y u->r x y H Q ->
  wpAny (model X.prog X.w) X.A (f v u) (EP X pins σ Q) X.xe s
def Ri(X:Cx)(f:Value->Sem Value)(r:V->Hp->VK->Prop):Prop :=
 ∀(pins:List (Addr × Obj))(s:Shared)(σ:St)(H:Hp)(x:V)(v:Value)(Q:VK),Inv X pins σ H s->RelV x v->r x H Q ->
  wpAny (model X.prog X.w) X.A (f v) (EP X pins σ Q) X.xe s
def eR(X:Cx)(f:Value)(r:List V->Hp->VK->Prop):Prop :=
 ∀(pins:List (Addr × Obj))(s:Shared)(σ:St)(H:Hp)(xs:List V)(us:List Value)(Q:VK),Inv X pins σ H s->Vals xs us->r xs H Q ->
  wpAny (model X.prog X.w) X.A (call f us) (EP X pins σ Q) X.xe s
def Rj(X:Cx)(r:V->Hp->(Bool->Hp->Prop)->Prop):Prop :=
 ∀(pins:List (Addr × Obj))(s:Shared)(σ:St)(H:Hp)(x:V)(v:Value)(Q:Bool->Hp->Prop),Inv X pins σ H s->RelV x v->r x H Q ->
  wpAny (model X.prog X.w) X.A (truthy v) (TP X pins σ Q) X.xe s
def wk(r:R2)(ta tb:TE):TE:=λσ H Q=>ta σ H λx H1=>tb σ H1 λy H2=>r x y H2 Q
def Wq(r:V->Hp->VK->Prop)(ta:TE):TE:=λσ H Q=>ta σ H λx H1=>r x H1 Q
def rI(C:Int->Int->Prop)(g:Int->Int->V):R2:=λx y H Q=>∃i j,x = .int i/\y = .int j/\C i j/\Q (g i j) H
def qf(g:Int->Int->V):R2:=λx y H Q=>∃i j,x = .int i/\y = .int j/\Q (g i j) H
def rU(g:Int->V):V->Hp->VK->Prop:=λx H Q=>∃i,x = .int i/\Q (g i) H
section
variable {X:Cx}{a b c:Expr}{ta tb tc:TE}{pos:Pos}
theorem AD(ha:PE X a ta)(hb:PE X b tb){σ:St}{R:V->V->Hp->Prop}(I:Inv X pins σ H s)
  (h:ta σ H λx H1=>tb σ H1 λy H2=>R x y H2) {f:Value->Value->Sem Value}
  (hf:∀v u s2 x y H2,Inv X pins σ H2 s2->RelV x v->RelV y u->R x y H2->wpAny (model X.prog X.w) X.A (f v u) Q X.xe s2) :
  wpAny (model X.prog X.w) X.A (eval a X.env) (λv s₁=>wpAny (model X.prog X.w) X.A (eval b X.env) (λu s₂=>wpAny (model X.prog X.w) X.A (f v u) Q X.xe s₂) X.xe s₁) X.xe s:=by
 refine aZ (ha pins s σ H _ I h) λv s1 AU=>?_
 obtain⟨x,H1,I1,r1,q1⟩:=AU
 refine aZ (hb pins s1 σ H1 _ I1 q1) λu s2 AU=>?_
 obtain⟨y,H2,I2,r2,q2⟩:=AU
 exact hf v u s2 x y H2 I2 r1 r2 q2
theorem aw(ho:eO X (binaryOp op) r)(ha:PE X a ta)(hb:PE X b tb):PE X (.BinOp a op b pos) (wk r ta tb):=by
 intro pins s σ H Q I h
 exact wpAny_BinOp (AD ha hb I h λv u s2 x y H2 I2 rx ry q=>ho pins s2 σ H2 x y v u Q I2 rx ry q)
theorem mE(ho:Ri X (unaryOp op) r)(ha:PE X a ta):PE X (.UnaryOp op a pos) (Wq r ta):=by
 intro pins s σ H Q I h
 exact UnaryOp_ (aZ (ha pins s σ H _ I h) λv s1 AU=>by obtain⟨x,H1,I1,r1,q1⟩:=AU;exact ho pins s1 σ H1 x v Q I1 r1 q1)
theorem JW{g:Int->Int->Int}
  (rule:∀(i j:Int)(t u:Tok)(s:Shared)(Q:Value->Shared->Prop)(E:Value->Shared->Prop),C i j->Q (.int (g i j) s.toks) { s with toks:=s.toks + 1 }->wpAny (model X.prog X.w) X.A (f (.int i t) (.int j u)) Q E s) :
  eO X f (rI C λi j => .int (g i j)):=by
 intro pins s σ H x y v u Q I rx ry h
 obtain⟨i,j,rfl,rfl,hc,q⟩:=h
 obtain⟨t,rfl⟩:=rx
 obtain⟨t',rfl⟩:=ry
 exact rule i j t t' s _ _ hc ⟨.int (g i j),H,I.tok _,⟨_,rfl⟩,q⟩
theorem rq{g:Int->Int->Int}
  (rule:∀(i j:Int)(t u:Tok)(s:Shared)(Q:Value->Shared->Prop)(E:Value->Shared->Prop),Q (.int (g i j) s.toks) { s with toks:=s.toks + 1 }->wpAny (model X.prog X.w) X.A (f (.int i t) (.int j u)) Q E s) :
  eO X f (qf λi j => .int (g i j)):=by
 intro pins s σ H x y v u Q I rx ry h
 obtain⟨i,j,rfl,rfl,q⟩:=h
 obtain⟨t,rfl⟩:=rx
 obtain⟨t',rfl⟩:=ry
 exact rule i j t t' s _ _ ⟨.int (g i j),H,I.tok _,⟨_,rfl⟩,q⟩
theorem wQ{g:Int->Int->Bool}
  (rule:∀(i j:Int)(t u:Tok)(s:Shared)(Q:Value->Shared->Prop)(E:Value->Shared->Prop),Q (.bool (g i j)) s->wpAny (model X.prog X.w) X.A (f (.int i t) (.int j u)) Q E s) :
  eO X f (qf λi j => .bl (g i j)):=by
 intro pins s σ H x y v u Q I rx ry h
 obtain⟨i,j,rfl,rfl,q⟩:=h
 obtain⟨t,rfl⟩:=rx
 obtain⟨t',rfl⟩:=ry
 exact rule i j t t' s _ _ ⟨.bl (g i j),H,I,rfl,q⟩
def KW(i j:Int):Prop:=0 < j/\j < 1073741824
def KY(i j:Int):Prop:=0 <= j/\j <= 1000000/\i.natAbs < 2 ^ 64
def Fx(i j:Int):Prop:=(-(2 ^ 64) < i/\i < 2 ^ 64)∨(-(2 ^ 64) < j/\j < 2 ^ 64)
theorem Fx.ok(h:Fx i j):IntMulOk i j:=by
 rcases h with ⟨h1,h2⟩ | ⟨h1,h2⟩
 ·exact .of_left (intBits_le_64 h1 h2)
 ·exact .of_right (intBits_le_64 h1 h2)
theorem nR(k:Nat):(0:Int) <= 2 ^ k:=by
 rw[two_pow_cast]
 exact Int.natCast_nonneg _
theorem bv:eO X (binaryOp .Add) (qf λi j => .int (i + j)):=rq λ_ _ _ _ _ _ _ q=>add_int q
theorem cr:eO X (binaryOp .Sub) (qf λi j => .int (i - j)):=rq λ_ _ _ _ _ _ _ q=>sub_int q
theorem fu:eO X (binaryOp .Mult) (rI Fx λi j => .int (i * j)):=JW λ_ _ _ _ _ _ _ hc q=>mul_int q hc.ok
theorem cf:eO X (binaryOp .FloorDiv) (rI KW λi j => .int (i / j)):=JW λi j _ _ _ _ _ hc q=>by
 have h1:(0:Int) < j:=hc.1
 have h2:j < 1073741824:=hc.2
 exact floordiv_int (by omega) (by rw[Int.fdiv_eq_ediv_of_nonneg i (by omega)];exact q) (.inl (PyProof.noPylong_small (by omega)))
theorem bz:eO X (binaryOp .Mod) (rI (λ_ j=>0 < j) λi j => .int (i % j)):=JW λi j _ _ _ _ _ hc q=>by
 have h1:(0:Int) < j:=hc
 exact mod_int' (by omega) (by rw[Int.fmod_eq_emod_of_nonneg i (by omega)];exact q)
theorem oW:eO X (binaryOp .Pow) (rI KY λi j => .int (i ^ j.toNat)):=JW λ_ _ _ _ _ _ _ hc q=>pow_int_small hc.1 hc.2.1 hc.2.2 q
theorem zE:eO X (binaryOp .LShift) (rI KY λi j => .int (i * 2 ^ j.toNat)):=JW λ_ _ _ _ _ _ _ hc q=>lshift_int_small hc.1 hc.2.1 hc.2.2 q
theorem uC:eO X (binaryOp .RShift) (rI (λ_ j=>0 <= j) λi j => .int (i / 2 ^ j.toNat)):=JW λi j _ _ _ _ _ hc q =>
 rshift_int hc (by rw[Int.fdiv_eq_ediv_of_nonneg i (nR _)];exact q)
theorem uD:eO X (binaryOp .BitAnd) (qf λi j => .int (Builtin.bitAnd i j)):=rq λ_ _ _ _ _ _ _ q=>and_int q
theorem KZ:eO X (binaryOp .BitOr) (qf λi j => .int (Builtin.bitOr i j)):=rq λ_ _ _ _ _ _ _ q=>or_int q
theorem lD:eO X (inplaceOp .Add) (qf λi j => .int (i + j)):=rq λ_ _ _ _ _ _ _ q=>iadd_int q
theorem qD:eO X (inplaceOp .Sub) (qf λi j => .int (i - j)):=rq λ_ _ _ _ _ _ _ q=>isub_int q
theorem unI{g:Int->Int}
  (rule:∀(i:Int)(t:Tok)(s:Shared)(Q:Value->Shared->Prop)(E:Value->Shared->Prop),Q (.int (g i) s.toks) { s with toks:=s.toks + 1 }->wpAny (model X.prog X.w) X.A (f (.int i t)) Q E s) :
  Ri X f (rU λi => .int (g i)):=by
 intro pins s σ H x v Q I rx h
 obtain⟨i,rfl,q⟩:=h
 obtain⟨t,rfl⟩:=rx
 exact rule i t s _ _ ⟨.int (g i),H,I.tok _,⟨_,rfl⟩,q⟩
theorem jb:Ri X (unaryOp .USub) (rU λi => .int (-i)):=unI λ_ _ _ _ _ q=>neg_int q
end
noncomputable def yT:V->V->Bool
 | .Bj, .Bj=>true | .Bj, .int _=>true | .int _, .Bj=>true | .Bj, .bl _=>true | .bl _, .Bj=>true | .Bj, .str _=>true | .str _, .Bj=>true
 | .int _, .int _=>true | .bl _, .bl _=>true | .str _, .str _=>true | .Ew _, .Ew _=>true
 | .int _, .str _=>true | .str _, .int _=>true | .bl _, .str _=>true | .str _, .bl _=>true
 | _,_=>false
def rEq:R2:=λx y H Q=>yT x y=true/\Q (.bl (decide (x=y))) H
def rNe:R2:=λx y H Q=>yT x y=true/\Q (.bl (!decide (x=y))) H
theorem qL :decide (V.int i=V.int j)=(i == j):=by
 rw[Bool.eq_iff_iff]
 simp
theorem vM :decide (V.bl i=V.bl j)=(i == j):=by
 rw[Bool.eq_iff_iff]
 simp
theorem qK :decide (V.str i=V.str j)=(i == j):=by
 rw[Bool.eq_iff_iff]
 simp
theorem qM :decide (V.Ew i=V.Ew j)=(i.toList == j.toList):=by
 rw[Bool.eq_iff_iff]
 cases i
 cases j
 simp
section
variable {X:Cx}{a b c:Expr}{ta tb tc:TE}{pos:Pos}
theorem aV{σ:St}(I:Inv X pins σ H s)(q:Q (.bl k) H)(e:k=k'):EP X pins σ Q (.bool k') s:=by
 subst e
 exact⟨.bl k,H,I,rfl,q⟩
theorem bq:eO X (compareOp .Eq) rEq:=by
 intro pins s σ H x y v u Q I rx ry h
 obtain⟨hs,q⟩:=h
 cases x with
 | Bj =>
  cases rx
  cases y with
  | Bj=>cases ry;exact PySem.EqNone.eq_none_none (aV I q (by simp))
  | bl j=>cases ry;exact PySem.EqNone.eq_none_bool (aV I q (by simp))
  | int j=>obtain⟨t',rfl⟩:=ry;exact PySem.EqNone.eq_none_int (aV I q (by simp))
  | str j=>obtain⟨t',rfl⟩:=ry;exact PySem.EqNone.eq_none_str (aV I q (by simp))
  | _=>exact absurd (show false=true from hs) Bool.false_ne_true
 | bl i =>
  cases rx
  cases y with
  | Bj=>cases ry;exact PySem.EqNone.eq_bool_none (aV I q (by simp))
  | bl j=>cases ry;exact eq_bool (aV I q vM)
  | str j=>obtain⟨t',rfl⟩:=ry;exact PySem.EqMixed.eq_bool_str (aV I q (by simp))
  | _=>exact absurd (show false=true from hs) Bool.false_ne_true
 | int i =>
  obtain⟨t,rfl⟩:=rx
  cases y with
  | Bj=>cases ry;exact PySem.EqNone.eq_int_none (aV I q (by simp))
  | int j=>obtain⟨t',rfl⟩:=ry;exact eq_int (aV I q qL)
  | str j=>obtain⟨t',rfl⟩:=ry;exact PySem.EqMixed.eq_int_str (aV I q (by simp))
  | _=>exact absurd (show false=true from hs) Bool.false_ne_true
 | str i =>
  obtain⟨t,rfl⟩:=rx
  cases y with
  | Bj=>cases ry;exact PySem.EqNone.eq_str_none (aV I q (by simp))
  | bl j=>cases ry;exact PySem.EqMixed.eq_str_bool (aV I q (by simp))
  | int j=>obtain⟨t',rfl⟩:=ry;exact PySem.EqMixed.eq_str_int (aV I q (by simp))
  | str j=>obtain⟨t',rfl⟩:=ry;exact eq_str (aV I q qK)
  | _=>exact absurd (show false=true from hs) Bool.false_ne_true
 | Ew i =>
  obtain⟨t,rfl⟩:=rx
  cases y with
  | Ew j=>obtain⟨t',rfl⟩:=ry;exact PySem.W.eq_bytes (aV I q qM)
  | _=>exact absurd (show false=true from hs) Bool.false_ne_true
 | _=>cases y<;>exact absurd (show false=true from hs) Bool.false_ne_true
theorem jw:eO X (compareOp .NotEq) rNe:=by
 intro pins s σ H x y v u Q I rx ry h
 obtain⟨hs,q⟩:=h
 cases x with
 | Bj =>
  cases rx
  cases y with
  | Bj=>cases ry;exact PySem.EqNone.ne_none_none (aV I q (by simp))
  | bl j=>cases ry;exact PySem.EqNone.ne_none_bool (aV I q (by simp))
  | int j=>obtain⟨t',rfl⟩:=ry;exact PySem.EqNone.ne_none_int (aV I q (by simp))
  | str j=>obtain⟨t',rfl⟩:=ry;exact PySem.EqNone.ne_none_str (aV I q (by simp))
  | _=>exact absurd (show false=true from hs) Bool.false_ne_true
 | bl i =>
  cases rx
  cases y with
  | Bj=>cases ry;exact PySem.EqNone.ne_bool_none (aV I q (by simp))
  | bl j=>cases ry;exact ne_bool (aV I q (congrArg not vM))
  | str j=>obtain⟨t',rfl⟩:=ry;exact PySem.EqMixed.ne_bool_str (aV I q (by simp))
  | _=>exact absurd (show false=true from hs) Bool.false_ne_true
 | int i =>
  obtain⟨t,rfl⟩:=rx
  cases y with
  | Bj=>cases ry;exact PySem.EqNone.ne_int_none (aV I q (by simp))
  | int j=>obtain⟨t',rfl⟩:=ry;exact ne_int (aV I q (congrArg not qL))
  | str j=>obtain⟨t',rfl⟩:=ry;exact PySem.EqMixed.ne_int_str (aV I q (by simp))
  | _=>exact absurd (show false=true from hs) Bool.false_ne_true
 | str i =>
  obtain⟨t,rfl⟩:=rx
  cases y with
  | Bj=>cases ry;exact PySem.EqNone.ne_str_none (aV I q (by simp))
  | bl j=>cases ry;exact PySem.EqMixed.ne_str_bool (aV I q (by simp))
  | int j=>obtain⟨t',rfl⟩:=ry;exact PySem.EqMixed.ne_str_int (aV I q (by simp))
  | str j=>obtain⟨t',rfl⟩:=ry;exact ne_str (aV I q (congrArg not qK))
  | _=>exact absurd (show false=true from hs) Bool.false_ne_true
 | Ew i =>
  obtain⟨t,rfl⟩:=rx
  cases y with
  | Ew j=>obtain⟨t',rfl⟩:=ry;exact PySem.W.ne_bytes (aV I q (congrArg not qM))
  | _=>exact absurd (show false=true from hs) Bool.false_ne_true
 | _=>cases y<;>exact absurd (show false=true from hs) Bool.false_ne_true
theorem fv:eO X (compareOp .Lt) (qf λi j => .bl (decide (i < j))):=wQ λ_ _ _ _ _ _ _ q=>lt_int q
theorem mI:eO X (compareOp .LtE) (qf λi j => .bl (decide (i <= j))):=wQ λ_ _ _ _ _ _ _ q=>le_int q
theorem kg:eO X (compareOp .Gt) (qf λi j => .bl (decide (j < i))):=wQ λ_ _ _ _ _ _ _ q=>gt_int q
theorem qr:eO X (compareOp .GtE) (qf λi j => .bl (decide (j <= i))):=wQ λ_ _ _ _ _ _ _ q=>ge_int q
theorem jx:eO X (compareOp .Is) (λx y H Q=>y = .Bj/\Q (.bl (decide (x = .Bj))) H):=by
 intro pins s σ H x y v u Q I rx ry h
 obtain⟨rfl,q⟩:=h
 cases ry
 refine is_none_gen (aV I q ?_)
 cases x<;>first
  | (cases rx;rfl)
  | (obtain⟨t,rfl⟩:=rx;rfl)
theorem wN:eO X (compareOp .IsNot) (λx y H Q=>y = .Bj/\Q (.bl (!decide (x = .Bj))) H):=by
 intro pins s σ H x y v u Q I rx ry h
 obtain⟨rfl,q⟩:=h
 cases ry
 refine isnot_none_gen (aV I q ?_)
 cases x<;>first
  | (cases rx;rfl)
  | (obtain⟨t,rfl⟩:=rx;rfl)
theorem ax(b:Expr)(h:autoParam (op ≠ .In) θ)(h2:autoParam (op ≠ .NotIn) θ):behindInMarks op b=false:=by
 have e1:(op == CmpOp.In)=false:=by cases op<;>first | rfl | exact absurd rfl h
 have e2:(op == CmpOp.NotIn)=false:=by cases op<;>first | rfl | exact absurd rfl h2
 cases b<;>simp[behindInMarks,e1,e2]
theorem cb(ho:eO X (compareOp op) r)(ha:PE X a ta)(hb:PE X b tb)(hm:behindInMarks op b=false):PE X (.Compare a [op] [b] pos) (wk r ta tb):=by
 intro pins s σ H Q I h
 exact wpAny_Compare1 (AD ha hb I h λv u s2 x y H2 I2 rx ry q=>ho pins s2 σ H2 x y v u Q I2 rx ry q) hm
def Lb(t:TE):TT:=λσ H Q=>t σ H λx H'=>∃k,x = .bl k/\Q k H'
theorem ap(ho:eO X (compareOp op) r)(ha:PE X a ta)(hb:PE X b tb)(hm:behindInMarks op b=false):PT X (.Compare a [op] [b] pos) (Lb (wk r ta tb)):=by
 intro pins s σ H Q I h
 refine wpAny_isTrue_Compare1 (aZ (ha pins s σ H _ I h) λv s1 ⟨x,H1,I1,r1,q1⟩=>aZ (hb pins s1 σ H1 _ I1 q1) λu s2 ⟨y,H2,I2,r2,q2⟩ =>
  aZ (ho pins s2 σ H2 x y v u _ I2 r1 r2 q2) λc s3 ⟨z,H3,I3,r3,k,e,q3⟩=>?_) hm
 subst e
 cases r3
 exact wpAny_truthy_bool ⟨H3,I3,q3⟩
def yO(r r':R2)(ta tb tc:TE):TE:=λσ H Q=>ta σ H λx H1=>tb σ H1 λy H2=>r x y H2 λz H3=>∃k,z = .bl k /\
 (if k=true then tc σ H3 λw' H4=>r' y w' H4 Q else Q (.bl false) H3)
theorem mG(ho:eO X (compareOp op) r)(DW:eO X (compareOp Rk) r')(ha:PE X a ta)(hb:PE X b tb)(hc:PE X c tc)
  (hm:lastMarks [op,Rk] [b,c]=false:=by with_unfolding_all rfl):PE X (.Compare a [op,Rk] [b,c] pos) (yO r r' ta tb tc):=by
 intro pins s σ H Q I h
 refine Compare_chain (aZ (ha pins s σ H _ I h) λv s1 ⟨x,H1,I1,r1,q1⟩=>chain_link (aZ (hb pins s1 σ H1 _ I1 q1) λu s2 ⟨y,H2,I2,r2,q2⟩ =>
  aZ (ho pins s2 σ H2 x y v u _ I2 r1 r2 q2) λd s3 ⟨z,H3,I3,r3,k,e,q3⟩=>?_)) hm
 subst e
 cases r3
 refine wpAny_truthy_bool ?_
 cases k with
 | false=>exact ite_ff ⟨.bl false,H3,I3,rfl,q3⟩
 | true=>exact ite_tt (chain_last (aZ (hc pins s3 σ H3 _ I3 q3) λw' s4 AU=>by obtain⟨z',H4,I4,r4,q4⟩:=AU;exact DW pins s4 σ H4 y z' u w' Q I4 r2 r4 q4))
def Lc(K:Frag)(x:V)(H:Hp)(k:Bool):Prop :=
 match x with
 | .Bj=>k=false
 | .bl b=>k=b
 | .int i=>k=(i != 0)
 | .str y=>y.length <= sizeLine/\k=((y.length:Int) != 0)
 | .Ew y=>y.size <= sizeLine/\k=((y.size:Int) != 0)
 | .ref p=>(∃xs,AV K H p xs/\k = !xs.isEmpty)∨(∃xs,AZ K H p xs/\k = !xs.isEmpty)∨∃kvs,H p=some (.dK kvs)/\k = !kvs.isEmpty
 | _=>False
theorem pz(r:KV kvs vs):(!vs.isEmpty) = !kvs.isEmpty:=by
 cases r<;>rfl
theorem j8(r:Vals xs AW):(!AW.toArray.isEmpty) = !xs.isEmpty:=by
 cases r<;>simp
theorem j3:(sizeLine:Nat) < 2 ^ 63:=by rw[sizeLine_eq];decide
theorem yD:Rj X (λx H Q=>∃k,Lc X.K x H k/\Q k H):=by
 intro pins s σ H x v Q I rx h
 obtain⟨k,e,q⟩:=h
 have hl:=j3
 have hs:sizeLine=16777216:=sizeLine_eq
 cases x with
 | Bj =>
  cases rx
  have e':k=false:=e
  subst e'
  exact truthy_none ⟨H,I,q⟩
 | bl b =>
  cases rx
  have e':k=b:=e
  subst e'
  exact wpAny_truthy_bool ⟨H,I,q⟩
 | int i =>
  obtain⟨t,rfl⟩:=rx
  have e':k=(i != 0):=e
  subst e'
  exact PySem.P.truthy_int ⟨H,I,q⟩
 | str y =>
  obtain⟨t,rfl⟩:=rx
  obtain⟨hy,e'⟩:y.length <= sizeLine/\k=((y.length:Int) != 0):=e
  subst e'
  exact PySem.P.truthy_str (by omega) ⟨H,I.tok _,q⟩
 | Ew y =>
  obtain⟨t,rfl⟩:=rx
  obtain⟨hy,e'⟩:y.size <= sizeLine/\k=((y.size:Int) != 0):=e
  subst e'
  exact PySem.W.truthy_bytes (by omega) ⟨H,I.tok _,q⟩
 | ref p =>
  cases rx
  have e':(∃xs,AV X.K H p xs/\k = !xs.isEmpty)∨(∃xs,AZ X.K H p xs/\k = !xs.isEmpty)∨∃kvs,H p=some (.dK kvs)/\k = !kvs.isEmpty:=e
  rcases e' with ⟨xs,hx,e'⟩ | ⟨xs,hx,e'⟩ | ⟨kvs,hx,e'⟩
  ·subst e'
   obtain⟨AW,r,pl,hz⟩:=I.list hx
   have hlen:=r.length
   exact wpAny_truthy_list pl.isList (by simp only[size_toArray];omega) ⟨H,I.tok _,by rw[j8 r];exact q⟩
  ·subst e'
   obtain⟨AW,r,pl,hz⟩:=I.tuple hx
   have hlen:=r.length
   exact truthy_tuple pl (by simp only[size_toArray];omega) ⟨H,I.tok _,by rw[j8 r];exact q⟩
  ·subst e'
   obtain⟨hz,hS,vs,r,m⟩:kvs.length <= sizeLine/\(p == sysModules)=false/\∃vs,KV kvs vs/\s.heap.DictOf (aY X.prog X.w) p vs:=I.Bb p _ hx
   have hlen:kvs.length=vs.length:=Paired.length r
   exact wpAny_truthy_dict hS m (by omega) ⟨H,I.tok _,by rw[pz r];exact q⟩
 | _=>exact(show False from e).elim
theorem js(ha:PE X a ta)(he:∀whole,isTrue a X.env whole=(do let v ← whole;standAt a.pos;holding [v] (truthy v))) :
  PT X a (λσ H Q=>ta σ H λx H'=>∃k,Lc X.K x H' k/\Q k H'):=by
 intro pins s σ H Q I h
 exact isTrue_plain (aZ (ha pins s σ H _ I h) λv s1 AU=>by obtain⟨x,H1,I1,r1,q1⟩:=AU;exact yD pins s1 σ H1 x v Q I1 r1 q1) (he _)
theorem lQ(r:Vals [x] us):∃u,us=[u]/\RelV x u:=by
 cases r with
 | cons r1 r2=>cases r2;exact⟨_,rfl,r1⟩
theorem vals2(r:Vals [x,y] us):∃u w',us=[u,w']/\RelV x u/\RelV y w':=by
 cases r with
 | cons r1 r2 =>
  cases r2 with
  | cons r3 r4=>cases r4;exact⟨_,_,rfl,r1,r3⟩
theorem vQ:eR X (.builtin "abs") (λxs H Q=>∃i,xs=[.int i]/\Q (.int (if i < 0 then -i else i)) H):=by
 intro pins s σ H xs us Q I r h
 obtain⟨i,rfl,q⟩:=h
 obtain⟨u,rfl,t,rfl⟩:=lQ r
 exact call_abs_int λu tk=>⟨.int (if i < 0 then -i else i),H,I.tok _,⟨_,rfl⟩,q⟩
theorem sh(hc:X.calm=true):eR X (.builtin "min") (λxs H Q=>∃i j,xs=[.int i, .int j]/\Q (.int (if j < i then j else i)) H):=by
 intro pins s σ H xs us Q I r h
 obtain⟨i,j,rfl,q⟩:=h
 obtain⟨u,w',rfl,⟨t,rfl⟩,⟨t',rfl⟩⟩:=vals2 r
 refine min_two_ints (I.ok.hd hc) λh' tk k=>⟨_,H,I.kept k,?_,q⟩
 by_cases hj:j < i
 ·rw[if_pos hj,if_pos hj];exact⟨_,rfl⟩
 ·rw[if_neg hj,if_neg hj];exact⟨_,rfl⟩
end
structure Eb(h:Heap)(x dx C:Addr)(mA:Str->Option Value):Prop where
 obj:h.get? x=some (PySem.W.instObj C dx)
 ns:h.Ns1 dx mA
 ne:dx ≠ x
theorem rG{h:Heap}(n:h.Ns1 dx mA):∃od,h.get? dx=some od/\∀name,PySem.W.lookIn name od=some (mA name):=by
 obtain⟨o,es,ep,ho,hd,hk,_,hm⟩:=n
 refine⟨o,ho,λname=>?_⟩
 have e:=hm name
 unfold nsFind findBy at e
 rw[←Array.find?_toList]at e
 unfold PySem.W.lookIn
 rw[hd]
 dsimp only
 split
 ·rename_i y q
  rw[q]at e
  exact congrArg some e
 ·rename_i q
  rw[q]at e
  have a:es.toList.any (·.refKey)=false:=by
   rw[any_eq_false]
   intro y hy
   obtain⟨z,t,Rl⟩:=hk y (Array.mem_toList_iff.mp hy)
   simp[DictEntry.refKey,Rl]
  have a':¬es.toList.any (·.refKey)=true:=by rw[a];exact Bool.false_ne_true
  rw[if_neg a']
  exact congrArg some e
theorem Eb.look(I:Eb h x dx C mA):∃od,PySem.W.InstAt h x (PySem.W.instObj C dx) C (some od)/\∀name,PySem.W.lookIn name od=some (mA name) :=
 let ⟨od,ho,hl⟩:=rG I.ns
 ⟨od,⟨I.obj,rfl,rfl,ho⟩,hl⟩
section
variable {prog:Program}{w:World}{A:Around}{E:Value->Shared->Prop}{s:Shared}{K:Frag}{x dx C f:Addr}{mA:Str->Option Value}{name:Str}{v:Value}
theorem xJ(X:K.In s.heap)(I:Eb s.heap x dx C mA)(hg:plainGet K C name=true)(hh:hasDictIn K C=true)
  (ha:findIn K (.ref C) name=some none) (hv:mA name=some v) (JX:PySem.W.handedIn v=true) (h:Q v { s with toks:=s.toks + 1 }) :
  wpAny (model prog w) A (getAttr (.ref x) name expr) Q E s:=by
 obtain⟨od,J,hl⟩:=I.look
 exact PySem.W.get_value X J (PySem.W.plainGet_of hg).1 (PySem.W.findObj_own hh ha rfl (by rw[hl,hv])) JX h
theorem vy(X:K.In s.heap)(I:Eb s.heap x dx C mA)(hg:plainGet K C name=true)
  (hf:findIn K (.ref C) name=some (some (.ref f))) (ht:isFn K (.ref f)=true) (hv:mA name=none) (h:Q (.ref f,[.ref x]) s) :
  wpAny (model prog w) A (getMethod (.ref x) name pl) Q E s:=by
 obtain⟨od,J,hl⟩:=I.look
 exact PySem.W.method_fn X J (PySem.W.plainGet_of hg).1 (PySem.W.plainGet_of hg).2 hf (beq_iff_eq.mp ht) (by show(PySem.W.lookIn name od).map (·.isSome)=some false;rw[hl,hv];rfl) h
theorem ww(X:K.In s.heap)(I:Eb s.heap x dx C mA)
  (hs:findIn K (.ref C) "__setattr__" = some (some (.builtin "object.__setattr__"))) (hp:plainOver K C=true) (ht:PySem.W.takerIn K C name=some none) (hh:hasDictIn K C=true)
  (hw:PySem.Within mA ns) (hsz:ns.length <= sizeLine)
  (h:∀h',Eb h' x dx C (λy=>if y=name then some v else mA y)->Heap.SameBut dx s.heap h'->Q () { s with heap:=h',toks:=s.toks + 2 }) :
  wpAny (model prog w) A (setAttr (.ref x) name v) Q E s:=by
 obtain⟨od,J,hl⟩:=I.look
 refine PySem.W.set_plain X J hs (PySem.W.osa_open (s:={ s with toks:=s.toks + 1 }) (r:=none) X J hp ht λb=>?_)
 obtain⟨cd,hc,FR⟩:=PySem.W.any_some hh
 have hx:s.heap.get? x=some ⟨.ref C,some dx, .plain,#[]⟩:=I.obj
 refine wpAny_bind (wpAny_pure (wpAny_bind (wpAny_bind (wpAny_loadPart hx (wpAny_bind (PySem.W.Looks.here (s:={ s with toks:=s.toks + 1 }) (PySem.W.looks_clsIn X hc) ?_))))))
 rw[FR]
 refine wpAny_pure (a:=some dx) (wpAny_bind (wpAny_pure (wpAny_bind ?_)))
 refine wpAny_nsSet1 (s:={ s with toks:=s.toks + 1 }) I.ns λh' EH EG=>?_
 obtain⟨oD,esD,epD,hoD,hdD,G6⟩:=EH.count (PySem.Within.cons name v hw)
 refine wpAny_bind (wpAny_lookBehind hoD (by rw[hdD];exact pastItsLine_dict (le_trans G6 (by rw[length_cons];omega))) ?_)
 exact wpAny_pure (h _ ⟨(EG.2 _ (Ne.symm I.ne)).trans I.obj,EH,I.ne⟩ EG)
theorem vi(X:K.In s.heap)(hm:makesIn K C=true)
  (hi:findIn K (.ref C) "__init__" = some (some (.ref f))) (hf:PySem.W.typeIn K (.ref f)=some (.type "function"))
  (h:codeAny (model prog w) (A.under (.builtin "type.__call__" ⟨.ref C :: vs,kw⟩)) (.call (.ref f) ⟨.ref (s.heap.objs.size + 1) :: vs,kw⟩) (PySem.W.InitBack (s.heap.objs.size + 1) R)
   { s with heap:=(s.heap.push PySem.W.emptyDict).push (PySem.W.instObj C s.heap.objs.size) }) :
  codeAny (model prog w) A (.call (.ref C) ⟨vs,kw⟩) R s:=by
 obtain⟨hh,g,d,t,os⟩:=s
 exact PySem.W.make_core (PySem.W.makes_of X hm) (PySem.W.looks_findIn X hi) (λself=>PySem.W.bind_fn X self hf) (.inl rfl) h
end
noncomputable def aR(f:Str)(v:V):List (Str × V)->List (Str × V)
 | []=>[(f,v)]
 | (g,x) :: r=>if g=f then (g,v) :: r else (g,x) :: aR f v r
theorem i9(f g:Str)(v:V):∀fs:List (Str × V),(aR f v fs).lookup g=if g=f then some v else fs.lookup g
 | []=>by
  show List.lookup g [(f,v)]=_
  by_cases h:g=f
  ·have hb:(g == f)=true:=beq_iff_eq.mpr h
   simp only[List.lookup,hb,if_pos h]
  ·have hb:(g == f)=false:=beq_eq_false_iff_ne.mpr h
   simp only[List.lookup,hb,if_neg h]
 | (k,x) :: r=>by
  have ih:=i9 f g v r
  rw[show aR f v ((k,x) :: r)=(if k=f then (k,v) :: r else (k,x) :: aR f v r) from rfl]
  by_cases hk:k=f
  ·rw[if_pos hk]
   by_cases h:g=k
   ·have hb:(g == k)=true:=beq_iff_eq.mpr h
    simp only[List.lookup,hb,if_pos (h.trans hk)]
   ·have hb:(g == k)=false:=beq_eq_false_iff_ne.mpr h
    simp only[List.lookup,hb,if_neg (λe:g=f=>h (e.trans hk.symm))]
  ·rw[if_neg hk]
   by_cases h:g=k
   ·have hb:(g == k)=true:=beq_iff_eq.mpr h
    simp only[List.lookup,hb,if_neg (λe:g=f=>hk (h.symm.trans e))]
   ·have hb:(g == k)=false:=beq_eq_false_iff_ne.mpr h
    simp only[List.lookup,hb]
    exact ih
theorem iu(f:Str)(v:V):∀fs:List (Str × V),f ∈ (aR f v fs).map (·.1)/\∀g,g ∈ fs.map (·.1)->g ∈ (aR f v fs).map (·.1)
 | []=>⟨by simp[aR],λg h=>by simp at h⟩
 | (k,x) :: r=>by
  obtain⟨i1,i2⟩:=iu f v r
  rw[show aR f v ((k,x) :: r)=(if k=f then (k,v) :: r else (k,x) :: aR f v r) from rfl]
  by_cases hk:k=f
  ·rw[if_pos hk]
   subst hk
   exact⟨by simp,λg h=>by simpa using h⟩
  ·rw[if_neg hk]
   refine⟨?_,λg h=>?_⟩
   ·rw[map_cons]
    exact mem_cons_of_mem _ i1
   ·rw[map_cons]at h ⊢
    rcases mem_cons.mp h with e | e
    ·exact mem_cons.mpr (.inl e)
    ·exact mem_cons_of_mem _ (i2 g e)
theorem iA(f:Str)(v:V):∀fs:List (Str × V),(aR f v fs).length <= fs.length + 1
 | []=>by simp[aR]
 | (k,x) :: r=>by
  have ih:=iA f v r
  rw[show aR f v ((k,x) :: r)=(if k=f then (k,v) :: r else (k,x) :: aR f v r) from rfl]
  by_cases hk:k=f
  ·rw[if_pos hk,length_cons,length_cons];omega
  ·rw[if_neg hk,length_cons,length_cons];omega
theorem BC.some_of(r:BC (some v) o):∃u,o=some u/\RelV v u:=by
 cases o with
 | none=>exact(show False from r).elim
 | some u=>exact⟨u,rfl,r⟩
theorem BC.none_of(r:BC none o):o=none:=by
 cases o with
 | none=>rfl
 | some u=>exact(show False from r).elim
theorem rS(r:RelV v u):PySem.W.handedIn u=true:=by
 cases v with
 | Bj=>cases (show u=Value.none from r);rfl
 | bl b=>cases (show u=Value.bool b from r);rfl
 | int i=>obtain⟨t,e⟩:=(show ∃t,u=Value.int i t from r);cases e;rfl
 | str x=>obtain⟨t,e⟩:=(show ∃t,u=Value.str x t from r);cases e;rfl
 | Ew b=>obtain⟨t,e⟩:=(show ∃t,u=Value.bytes b t from r);cases e;rfl
 | IL b=>obtain⟨t,e⟩:=(show ∃t,u=Value.float b t from r);cases e;rfl
 | ref a=>cases (show u=Value.ref a from r);rfl
 | ty n=>cases (show u=Value.type n from r);rfl
section
variable {P:Program}{w:World}{H H':Hp}{h h':Heap}{a C dx:Addr}{fs B3:List (Str × V)}
theorem iS(Bb:BI P w H h)(e:H a=some (.ins C dx fs)):∃mA,Eb h a dx C mA/\(∀f,BC (fs.lookup f) (mA f))/\PySem.Within mA (fs.map (·.1))/\fs.length <= 1000/\H dx=some (.own a):=by
 obtain⟨d,z,ne,ob,mA,n,r,q⟩:=(show Bn P w H h a (.ins C dx fs) from Bb a _ e)
 exact⟨mA,⟨ob,n,ne⟩,r,q,z,d⟩
end
structure CO(K:Frag)(C:Addr):Prop where
 pg:plainGet K C Str.empty=true
 hd:hasDictIn K C=true
 po:plainOver K C=true
 sa:findIn K (.ref C) "__setattr__" = some (some (.builtin "object.__setattr__"))
theorem CO.get{K:Frag}(c:CO K C)(f:Str):plainGet K C f=true:=c.pg
def Bd(K:Frag)(C:Addr)(f:Str):Prop:=findIn K (.ref C) f=some none
theorem Bd.Ld{K:Frag}(n:Bd K C f):PySem.W.takerIn K C f=some none:=by
 unfold PySem.W.takerIn
 rw[show findIn K (.ref C) f=some none from n]
 rfl
structure bG(K:Frag)(C:Addr)(m:Str)(f:Addr):Prop where
 at_:findIn K (.ref C) m=some (some (.ref f))
 fn:isFn K (.ref f)=true
 kp:keepIn K (.ref f)=true
section
variable {X:Cx}{pins:List (Addr × Obj)}{σ:St}{H:Hp}{s:Shared}{a C dx:Addr}{fs:List (Str × V)}{f:Str}{v:V}{A:Around}{E:Value->Shared->Prop}
theorem jA(I:Inv X pins σ H s)(e:H a=some (.ins C dx fs))(c:CO X.K C)(n:Bd X.K C f)(l:fs.lookup f=some v)
  (h:∀u s',Inv X pins σ H s'->RelV v u->Q u s'):wpAny (model X.prog X.w) A (getAttr (.ref a) f b) Q E s:=by
 obtain⟨mA,O,r,_,_,_⟩:=iS I.Bb e
 obtain⟨u,hu,ru⟩:=BC.some_of (v:=v) (o:=mA f) (by rw[←l];exact r f)
 exact xJ I.BO O (c.get f) c.hd n hu (rS ru) (h u _ (I.tok _) ru)
theorem gk(I:Inv X pins σ H s)(e:H a=some (.ins C dx fs))(c:CO X.K C)(k:bG X.K C m g)(l:fs.lookup m=none)
  (h:Q (.ref g,[.ref a]) s):wpAny (model X.prog X.w) A (getMethod (.ref a) m pl) Q E s:=by
 obtain⟨mA,O,r,_,_,_⟩:=iS I.Bb e
 have hn:mA m=none:=BC.none_of (by rw[←l];exact r m)
 exact vy I.BO O (c.get m) k.at_ k.fn hn h
theorem jj(I:Inv X pins σ H s)(e:H a=some (.ins C dx fs))(c:CO X.K C)(n:Bd X.K C f)(hl:fs.length < 1000)(ry:RelV y u)
  (h:∀s',Inv X pins σ (upd H a (.ins C dx (aR f y fs))) s'->Q () s'):wpAny (model X.prog X.w) A (setAttr (.ref a) f u) Q E s:=by
 obtain⟨mA,O,r,wi,_,ho⟩:=iS I.Bb e
 have hz:(fs.map (·.1)).length <= sizeLine:=by rw[length_map,sizeLine_eq];omega
 refine ww I.BO O c.sa c.po n.Ld c.hd wi hz λh' O' sb=>h _ ?_
 have hd:∃o,h'.get? dx=some o:=let ⟨o,_,_,e',_⟩:=O'.ns; ⟨o,e'⟩
 refine I.write (x:=a) (e:=dx) (by rw[e];exact True.intro) (.inr ho) (λb q hb z=>(sb.2 b hb).trans z) hd ?_
 refine⟨by rw[ah O.ne];exact ho,?_,O.ne,O'.obj,_,O'.ns,λg=>?_,λg hg=>?_⟩
 ·have:=iA f y fs;omega
 ·show BC ((aR f y fs).lookup g) (if g=f then some u else mA g)
  rw[i9]
  by_cases q:g=f
  ·rw[if_pos q,if_pos q];exact ry
  ·rw[if_neg q,if_neg q];exact r g
 ·by_cases q:g=f
  ·rw[q];exact(iu f y fs).1
  ·refine(iu f y fs).2 g (wi g λz=>hg ?_)
   show(if g=f then some u else mA g)=none
   rw[if_neg q];exact z
theorem Inv.made(I:Inv X pins σ H s):Inv X pins σ (upd (upd H s.heap.objs.size (.own (s.heap.objs.size + 1))) (s.heap.objs.size + 1) (.ins C s.heap.objs.size []))
  { s with heap:=(s.heap.push PySem.W.emptyDict).push (PySem.W.instObj C s.heap.objs.size) }:=by
 have e1:(s.heap.push PySem.W.emptyDict).get? s.heap.objs.size=some PySem.W.emptyDict:=Heap.get?_push_size s.heap rfl
 have e2:((s.heap.push PySem.W.emptyDict).push (PySem.W.instObj C s.heap.objs.size)).get? (s.heap.objs.size + 1)=some (PySem.W.instObj C s.heap.objs.size):=by
  have:=Heap.get?_push_size (s.heap.push PySem.W.emptyDict) (o:=PySem.W.instObj C s.heap.objs.size) rfl
  rwa [size_push]at this
 have e3:(s.heap.push PySem.W.emptyDict).Ns s.heap.objs.size (λ_=>none):=⟨PySem.W.emptyDict,#[],_,e1,rfl,(λe he=>absurd he (by simp)),λ_=>rfl⟩
 have I1:=I.laid (a:=s.heap.objs.size) (o := .own (s.heap.objs.size + 1)) (h':=s.heap.push PySem.W.emptyDict) (t':=s.toks) (λb u q=>Heap.get?_push_of_some _ q) (le_refl _) ⟨_,e1⟩
 refine I1.laid (a:=s.heap.objs.size + 1) (o := .ins C s.heap.objs.size []) (t':=s.toks) (λb u q=>Heap.get?_push_of_some _ q) (le_of_eq (size_push _ _)) ?_
 have ne:s.heap.objs.size ≠ s.heap.objs.size + 1:=ne_of_lt (lt_succ_self _)
 refine⟨by rw[ah ne,ad],zero_le _,ne,e2,λ_=>none,(Heap.Ns1.of_empty e3).at λo q=>Heap.get?_push_of_some _ q,λ_=>True.intro,λy hy=>absurd rfl hy⟩
theorem xX(hb:attributeBase e f env (eval e env)=eval e env)
  (h:wpAny (model prog w) A (eval e env) (λo s₁=>wpAny (model prog w) A (getAttr o f true) Q E s₁) E s):wpAny (model prog w) A (eval (.Attribute e f pos) env) Q E s :=
 Attribute_any_ h (by rw[arm_eval_Attribute,hb])
end
def sJ(K:Frag)(ta:TE)(f:Str):TE:=λσ H Q=>ta σ H λx H1=>∃a C dx fs v,x = .ref a/\H1 a=some (.ins C dx fs)/\CO K C/\Bd K C f/\fs.lookup f=some v/\Q v H1
def Rm(K:Frag)(ta tv:TE)(f:Str):TS:=λD σ H=>tv σ H λy H1=>ta σ H1 λx H2=>∃a C dx fs,x = .ref a/\H2 a=some (.ins C dx fs)/\CO K C/\Bd K C f/\fs.length < 1000 /\
 D.nx σ (upd H2 a (.ins C dx (aR f y fs)))
def Rp(X:Cx)(op:Operator)(rd:V->V->Hp->VK->Prop):Prop :=
 ∀(pins:List (Addr × Obj))(s:Shared)(σ:St)(H:Hp)(x y:V)(u v:Value)(Q:VK),Inv X pins σ H s->RelV x u->RelV y v->rd x y H Q->wpAny (model X.prog X.w) X.A (inplaceOp op u v) (EP X pins σ Q) X.xe s
def wB(K:Frag)(ta tv:TE)(rd:V->V->Hp->VK->Prop)(f:Str):TS:=λD σ H=>ta σ H λx H1=>∃a C dx fs v,x = .ref a/\H1 a=some (.ins C dx fs)/\CO K C/\Bd K C f/\fs.lookup f=some v /\
 tv σ H1 λy H2=>rd v y H2 λz H3=>∃EI B3,H3 a=some (.ins C EI B3)/\B3.length < 1000/\D.nx σ (upd H3 a (.ins C EI (aR f z B3)))
section
variable {X:Cx}{o e value:Expr}{f:Str}{pos pos' DB:Pos}{ta tv:TE}
theorem al(he:PE X e ta)(hb:attributeBase e f X.env (eval e X.env)=eval e X.env):PE X (.Attribute e f pos) (sJ X.K ta f):=by
 intro pins s σ H Q I h
 refine xX hb (aZ (he pins s σ H _ I h) λu s1 AU=>?_)
 obtain⟨x,H1,I1,rx,a,C,dx,fs,v,ex,ea,c,n,l,q⟩:=AU
 subst ex
 obtain rfl:u=Value.ref a:=rx
 exact jA I1 ea c n l λu' s2 I2 ru=>⟨v,H1,I2,ru,q⟩
theorem bu(ha:PE X o ta)(hv:PE X value tv)(hs:swapsWith value (some (.Attribute o f pos')) pos.line X.env=pure false):PS X (.Assign [.Attribute o f pos'] value pos) (Rm X.K ta tv f):=by
 intro pins s σ H D I h
 refine plainObj_wpAny_Assign_Attribute (aZ (hv pins s σ H _ I h) λu s1 ⟨y,H1,I1,ry,q⟩=>aZ (ha pins s1 σ H1 _ I1 q) λov s2 AU=>?_) hs
 obtain⟨x,H2,I2,rx,a,C,dx,fs,ex,ea,c,n,l,q2⟩:=AU
 subst ex
 obtain rfl:ov=Value.ref a:=rx
 exact jj I2 ea c n l ry λs3 I3=>⟨σ,_,I3,q2⟩
theorem ed(ha:PE X o ta)(hv:PE X value tv)(Le:Rp X op rd):PS X (.AugAssign (.Attribute o f DB) op value pos) (wB X.K ta tv rd f):=by
 intro pins s σ H D I h
 refine wpAny_AugAssign_AttributeAny (aZ (ha pins s σ H _ I h) λov s1 AU=>?_)
 obtain⟨x,H1,I1,rx,a,C,dx,fs,v,ex,ea,c,n,l,q⟩:=AU
 subst ex
 obtain rfl:ov=Value.ref a:=rx
 refine jA I1 ea c n l λu s2 I2 ru=>aZ (hv pins s2 σ H1 _ I2 q) λw3 s3 ⟨y,H2,I3,ry,q3⟩=>aZ (Le pins s3 σ H2 v y u w3 _ I3 ru ry q3) λw4 s4 AU=>?_
 obtain⟨z,H3,I4,rz,EI,B3,ea',l',q4⟩:=AU
 exact jj I4 ea' c n l' rz λs5 I5=>⟨σ,_,I5,q4⟩
end
section
variable {X:Cx}{pins:List (Addr × Obj)}{σ:St}{H:Hp}{s:Shared}{A:Around}{E:Value->Shared->Prop}{Q:Value->Shared->Prop}{c:Value}{b:Bool}
inductive i0(K:Frag)(H:Hp):V->Value->Prop where
 | Bj:i0 K H .Bj (.type "NoneType")
 | bl (x:Bool):i0 K H (.bl x) (.type "bool")
 | int (i:Int):i0 K H (.int i) (.type "int")
 | str (x:Str):i0 K H (.str x) (.type "str")
 | IL (x:UInt64):i0 K H (.IL x) (.type "float")
 | lst {a:Addr} {xs:List V} (e:H a=some (.lst xs)):i0 K H (.ref a) (.type "list")
 | Cy {a:Addr} {o:Obj} {xs:List V} (e:H a=some (.Cy o (.lst xs))):i0 K H (.ref a) (.type "list")
 | tup {a:Addr} {xs:List V} (e:H a=some (.tup xs)):i0 K H (.ref a) (.type "tuple")
 | dK {a:Addr} {kvs:List (Key × V)} (e:H a=some (.dK kvs)):i0 K H (.ref a) (.type "dict")
 | dT {a:Addr} {kvs:List (List Key × V)} (e:H a=some (.dT kvs)):i0 K H (.ref a) (.type "dict")
 | ins {a C dx:Addr} {fs:List (Str × V)} (e:H a=some (.ins C dx fs)) (cl:CO K C) (ha:findIn K (.ref C) "__class__" = some (some (.builtin "object.__class__")))
   (hn:PySem.W.specialIn K (.builtin "object.__class__") "__get__" = some (some (.builtin "getset_descriptor.__get__"))) (Pe:PySem.W.takesIn K (.builtin "object.__class__")=some true)
   (hm:PySem.W.mroIn K C (.type "object")=some true):i0 K H (.ref a) (.ref C)
theorem rN(I:Inv X pins σ H s)(rx:RelV x u)(ty:i0 X.K H x t)(e:kitOne X.K t c=some b)(h:∀tk,Q (.bool b) { s with toks:=tk }) :
  wpAny (model X.prog X.w) A (call (.builtin "isinstance") [u,c]) Q E s:=by
 cases ty with
 | Bj=>cases (show u=Value.none from rx);exact PySem.W.kia_one PySem.W.kitx_none I.BO True.intro e (λz=>nomatch z) h
 | bl y=>cases (show u=Value.bool y from rx);exact PySem.W.kia_one PySem.W.kitx_bool I.BO True.intro e (λz=>nomatch z) h
 | int i=>obtain⟨t,q⟩:=(show ∃t,u=Value.int i t from rx);cases q;exact PySem.W.kia_one PySem.W.kitx_int I.BO True.intro e (λz=>nomatch z) h
 | str y=>obtain⟨t,q⟩:=(show ∃t,u=Value.str y t from rx);cases q;exact PySem.W.kia_one PySem.W.kitx_str I.BO True.intro e (λz=>nomatch z) h
 | IL y=>obtain⟨t,q⟩:=(show ∃t,u=Value.float y t from rx);cases q;exact PySem.W.kia_one PySem.W.kitx_float I.BO True.intro e (λz=>nomatch z) h
 | @lst a xs ea =>
  cases (show u=Value.ref a from rx)
  obtain⟨_,_,n,_,h1⟩:=(show Bn X.prog X.w H s.heap a (.lst xs) from I.Bb a _ ea)
  exact PySem.W.kia_one PySem.W.kitx_list I.BO ⟨_,h1,rfl⟩ e (λz=>nomatch z) h
 | @Cy a ob xs ea =>
  cases (show u=Value.ref a from rx)
  obtain⟨_,_,_,n,_,h1⟩:=(show Bn X.prog X.w H s.heap a (.Cy ob (.lst xs)) from I.Bb a _ ea)
  exact PySem.W.kia_one PySem.W.kitx_list I.BO ⟨_,h1,rfl⟩ e (λz=>nomatch z) h
 | @tup a xs ea =>
  cases (show u=Value.ref a from rx)
  obtain⟨_,_,_,p⟩:=(show Bn X.prog X.w H s.heap a (.tup xs) from I.Bb a _ ea)
  obtain⟨o,h1,⟨h2,_⟩,_⟩:=p
  exact PySem.W.kia_one PySem.W.kitx_tuple I.BO ⟨o,h1,h2⟩ e (λz=>nomatch z) h
 | @dK a kvs ea =>
  cases (show u=Value.ref a from rx)
  obtain⟨_,_,vs,_,p⟩:=(show Bn X.prog X.w H s.heap a (.dK kvs) from I.Bb a _ ea)
  obtain⟨o,es,ep,h1,h2,_⟩:=p
  exact PySem.W.kia_one PySem.W.kitx_dict I.BO ⟨o,h1,h2.1⟩ e (λz=>nomatch z) h
 | @dT a kvs ea =>
  cases (show u=Value.ref a from rx)
  obtain⟨_,_,xs,_,o,es,ep,h1,h2,_⟩:=(show Bn X.prog X.w H s.heap a (.dT kvs) from I.Bb a _ ea)
  exact PySem.W.kia_one PySem.W.kitx_dict I.BO ⟨o,h1,h2.1⟩ e (λz=>nomatch z) h
 | @ins a C dx fs ea cl ha hn Pe hm =>
  cases (show u=Value.ref a from rx)
  obtain⟨mA,O,_⟩:=iS I.Bb ea
  obtain⟨od,J,_⟩:=O.look
  exact PySem.W.kia_one (PySem.W.kitx_own (cl.get _) cl.hd ha hn Pe hm) I.BO J e (λz=>nomatch z) h
end
structure Bc(k:Nat)(A:Around):Prop where
 hd:A.handled=none
 dp:A.depth + 3 * k + 5 < recursionLimit
 un:A.units + 16 * k + 200 < cLine
theorem Bc.mono(r:Bc k A)(h:j <= k):Bc j A:=⟨r.hd,by have:=r.dp;omega,by have:=r.un;omega⟩
theorem Bc.deeper(r:Bc (k + 1) A)(env:Env):Bc k (A.deeper env) :=
 ⟨r.hd,by have:=r.dp;show A.depth + 1 + 3 * k + 5 < _;omega,by have:=r.un;show A.units + 3 + 16 * k + 200 < _;omega⟩
theorem ph{A:Around}:(A.under (.builtin "type.__call__" ⟨.ref C :: us,kw⟩)).depth=A.depth + 1:=by
 first | rfl | simp[Around.under,Code.weight,Code.isCreation,Code.isGuard,Code.isCaller,Code.frames,Code.isFrame,guardIds]
theorem pf{A:Around}:(A.under (.builtin "type.__call__" ⟨.ref C :: us,kw⟩)).units=A.units + 1:=by
 first | rfl | simp[Around.under,Code.cUnits,Code.frames,Code.isFrame]
theorem Bc.make(r:Bc (k + 1) A)(C:Addr)(us:List Value)(kw:List (Str × Value)):Bc k (A.under (.builtin "type.__call__" ⟨.ref C :: us,kw⟩)) :=
 ⟨r.hd,by have:=r.dp;rw[ph];omega,by have:=r.un;rw[pf];omega⟩
theorem Bc.depth(r:Bc k A):A.depth < recursionLimit:=by have:=r.dp;omega
theorem Bc.units(r:Bc k A):A.units + 64 < cLine:=by have:=r.un;omega
def wm:TA:=λ_ H Q=>Q [] H
def lT(ta:TE)(tr:TA):TA:=λσ H Q=>ta σ H λx H1=>tr σ H1 λxs H2=>Q (x :: xs) H2
section
variable {X:Cx}{e:Expr}{es:List Expr}{te:TE}{t:TA}{pos:Pos}
theorem ac:PA X [] wm:=λ_ _ _ _ H Q I h=>Calls.spliced_nil ⟨[],H,I, .nil,h⟩
theorem aa(ha:PE X e te)(hr:PA X es t)(hs:autoParam (starEach (e :: es) X.env=(false,eval e X.env) :: starEach es X.env) η):PA X (e :: es) (lT te t):=by
 intro pos pins s σ H Q I h
 rw[hs]
 show wpAny _ _ (spliced ((false,eval e X.env) :: backTo pos (starEach es X.env))) _ _ s
 refine Calls.spliced_cons (aZ (ha pins s σ H _ I h) λu s1 AU=>?_)
 obtain⟨x,H1,I1,r1,q1⟩:=AU
 exact aZ (hr pos pins s1 σ H1 _ I1 q1) λus s2 AU=>by obtain⟨xs,H2,I2,r2,q2⟩:=AU;exact⟨x :: xs,H2,I2, .cons r1 r2,q2⟩
def Lf(t:TA):TE:=λσ H Q=>t σ H λxs H1=>xs.length <= sizeLine/\∀p,H1 p=none->Q (.ref p) (upd H1 p (.tup xs))
def yM(t:TA):TE:=λσ H Q=>t σ H λxs H1=>xs.length <= sizeLine/\∀p,H1 p=none->Q (.ref p) (upd H1 p (.lst xs))
theorem aK(h:PA X es t):PE X (.Tuple es x1 pos) (Lf t):=by
 intro pins s σ H Q I hq
 refine wpAny_Tuple_spliced (aZ (h pos pins s σ H _ I hq) λus s1 ⟨xs,H1,I1,r,z,q⟩=>⟨by rw[←r.length];exact z,?_⟩)
 have hf:H1 s1.heap.objs.size=none:=I1.Bb.fresh (le_refl _)
 refine⟨.ref s1.heap.objs.size,upd H1 s1.heap.objs.size (.tup xs),I1.laid (t':=s1.toks) (λb u e=>Heap.get?_push_of_some _ e) (le_refl _) ?_,rfl,q _ hf⟩
 exact⟨z,us,r,⟨_,Heap.get?_push_size _ rfl,⟨rfl,_,rfl⟩,rfl⟩⟩
theorem aP(h:PA X es t):PE X (.List es pos) (yM t):=by
 intro pins s σ H Q I hq
 refine wpAny_List_spliced (aZ (h pos pins s σ H _ I hq) λus s1 ⟨xs,H1,I1,r,z,q⟩=>⟨by rw[←r.length];exact z,?_⟩)
 have hf:H1 s1.heap.objs.size=none:=I1.Bb.fresh (le_refl _)
 refine⟨.ref s1.heap.objs.size,upd H1 s1.heap.objs.size (.lst xs),I1.laid (t':=s1.toks) (λb u e=>Heap.get?_push_of_some _ e) (le_refl _) ?_,rfl,q _ hf⟩
 exact⟨z,us,0,r,Heap.get?_push_size _ rfl⟩
end
abbrev Sp:=List V->Hp->VK->XK->Prop
abbrev nQ:=List Env->Hp->Shared->XK->Value->Shared->Prop
structure Ec(P:Program)(w:World)(K:Frag)(mg:Str->Option Value)(base:Heap)(A:Around)(outer:List Env)(s:Shared)(H:Hp):Prop where
 frames:A.frames=some outer
 mod:Mod K mg base
 bs:∀b o,base.get? b=some o->s.heap.get? b=some o/\H b=none
 FQ:base.objs.size <= s.heap.objs.size
 Ci:s.heap.FunFrames base outer
 HF:∀b ∈ kE outer,H b=none
 Bb:BI P w H s.heap
 bare:AllBare s.gens
def CE(outer:List Env)(P:Program)(w:World)(H:Hp)(s:Shared)(Q:VK)(u:Value)(s':Shared):Prop :=
 ∃v H',s'.os=s.os/\AllBare s'.gens/\Un (kE outer) [] H H' s.heap s'.heap/\BI P w H' s'.heap/\RelV v u/\Q v H'
def CR(CX:nQ)(outer:List Env)(P:Program)(w:World)(H:Hp)(s:Shared)(Q:VK)(E:XK)(r:Result)(s':Shared):Prop :=
 match r with
 | .ok (.ret u)=>CE outer P w H s Q u s'
 | .ok _=>False
 | .error e=>CX outer H s E e s'
structure AQ(P:Program)(w:World)(K:Frag)(mg:Str->Option Value)(base:Heap)(CX:nQ)(k:Nat)(f:Addr)(fd:FuncData)(ps:List Str)(sp:Sp):Prop where
 len:∀vs H Q E,sp vs H Q E->vs.length=ps.length
 run:∀(A:Around)(outer:List Env)(s:Shared)(H:Hp)(args:Args)(us:List Value)(vs:List V)(Q:VK)(E:XK),Bc k A->Ec P w K mg base A outer s H->BindsTo s fd args (ps.zip us)->Vals vs us->sp vs H Q E ->
  codeAny (model P w) A (.call (.ref f) args) (CR CX outer P w H s Q E) s
theorem AQ.mono{K:Frag}(F:AQ P w K mg base CX j f fd ps sp)(h:j <= k) :
  AQ P w K mg base CX k f fd ps sp:=⟨F.len,λA outer s H args us vs Q E hr=>F.run A outer s H args us vs Q E (hr.mono h)⟩
theorem AQ.imp{K:Frag}(F:AQ P w K mg base CX k f fd ps sp)
  (h:∀vs H Q E,Ws vs H Q E->sp vs H Q E):AQ P w K mg base CX k f fd ps Ws :=
 ⟨λvs H Q E q=>F.len vs H Q E (h _ _ _ _ q),λA outer s H args us vs Q E hr he hb hv hs=>F.run A outer s H args us vs Q E hr he hb hv (h _ _ _ _ hs)⟩
theorem Ec.make{K:Frag}(e:Ec P w K mg base A outer s H)(C:Addr)(us:List Value)(kw:List (Str × Value)) :
  Ec P w K mg base (A.under (.builtin "type.__call__" ⟨.ref C :: us,kw⟩)) outer s H:=⟨by first | exact e.frames | (simpa [Around.under,Code.envs,Code.isFrame,pushEnvs] using e.frames),e.mod,e.bs,e.FQ,e.Ci,e.HF,e.Bb,e.bare⟩
section
variable {X:Cx}{pins:List (Addr × Obj)}{σ:St}{H:Hp}{s s':Shared}
theorem Inv.IQ(I:Inv X pins σ H s):Ec X.prog X.w X.K X.mg X.base X.A X.stack s H :=
 ⟨I.ok.frames,I.ok.mod,I.bs,le_trans I.ok.FQ I.sz,I.stack,I.Dg,I.Bb,I.bare⟩
theorem Inv.after(I:Inv X pins σ H s)(h:CE X.stack X.prog X.w H s Q u s'):EP X pins σ Q u s':=by
 obtain⟨v,H',os,bare,un,Bb,r,q⟩:=h
 obtain⟨hh,g,d,t,os'⟩:=s'
 obtain rfl:os' = s.os:=os
 exact⟨v,H',I.call (h':=hh) (g':=g) (d':=d) (t':=t) (ch:=[]) un Bb bare (λb z=>absurd z (by simp)),r,q⟩
end
def Lg(sp:Sp)(B4:List V)(E:XK)(t:TA):TE:=λσ H Q=>t σ H λvs H1=>sp (vs ++ B4) H1 Q E
def sI(C:Addr)(m:Str)(sp:Sp)(B4:List V)(E:XK)(ta:TE)(t:TA):TE:=λσ H Q=>ta σ H λx H1=>∃a dx fs,x = .ref a/\H1 a=some (.ins C dx fs)/\fs.lookup m=none /\
 t σ H1 λvs H2=>sp (x :: (vs ++ B4)) H2 Q E
def Lh(C:Addr)(sp:Sp)(B4:List V)(E:XK)(t:TA):TE:=λσ H Q=>t σ H λvs H1=>∀x dx,H1 x=none->H1 dx=none->dx ≠ x ->
 sp (.ref x :: (vs ++ B4)) (upd (upd H1 dx (.own x)) x (.ins C dx [])) (λv H2=>v = .Bj/\Q (.ref x) H2) E
def Binds(K:Frag)(fd:FuncData)(ps:List Str)(ds:List Value):Prop :=
 ∀(s:Shared)(us:List Value),K.In s.heap->(us ++ ds).length=ps.length->BindsTo s fd ⟨us,[]⟩ (ps.zip (us ++ ds))
theorem Binds.all{K:Frag}(h:∀us:List Value,us.length=ps.length->bindArgs fd ⟨us,[]⟩ = pure (ps.zip us)):Binds K fd ps []:=λs us _ hl=>by
 rw[append_nil]at hl ⊢
 exact .of_eq (h us hl)
def fI(CX:nQ)(X:Cx)(E:XK):Prop:=∀(pins:List (Addr × Obj))(σ:St)(H:Hp)(s:Shared)(e:Value)(s':Shared),Inv X pins σ H s->CX X.stack H s E e s'->X.xe e s'
section
variable {X:Cx}{CX:nQ}{k:Nat}{f C:Addr}{fd:FuncData}{ps:List Str}{sp:Sp}{B4:List V}{ds:List Value}{E:XK}{x m:Str}{p pos apos:Pos}{e o:Expr}{es:List Expr}{ta:TE}{t:TA}
theorem lq{σ:St}(F:AQ X.prog X.w X.K X.mg X.base CX k f fd ps sp)(hr:Bc k X.A)(hb:Binds X.K fd ps ds)(hd:Vals B4 ds)(hx:fI CX X E)
  (I:Inv X pins σ H s) (r:Vals vs us) (h:sp (vs ++ B4) H Q E):wpAny (model X.prog X.w) X.A (call (.ref f) us) (EP X pins σ Q) X.xe s:=by
 have r2:Vals (vs ++ B4) (us ++ ds):=r.append hd
 have hl:(us ++ ds).length=ps.length:=by rw[←r2.length];exact F.len _ _ _ _ h
 refine wpAny_call (codeAny_mono (F.run X.A X.stack s H ⟨us,[]⟩ (us ++ ds) (vs ++ B4) Q E hr I.IQ (hb s us I.BO hl) r2 h) λr s' hq=>?_)
 cases r with
 | error e=>exact hx pins σ H s e s' I hq
 | ok fl =>
  cases fl with
  | ret u=>exact I.after hq
  | next=>exact False.elim hq
  | brk=>exact False.elim hq
  | cont=>exact False.elim hq
theorem az(F:AQ X.prog X.w X.K X.mg X.base CX k f fd ps sp)(hr:Bc k X.A)(hg:Gl X x)(hm:X.mg x=some (.ref f))(hk:keepIn X.K (.ref f)=true)(hb:Binds X.K fd ps ds)(hd:Vals B4 ds)(hx:fI CX X E)
  (ha:PA X (e :: es) t) (Fy:autoParam ((x == ("__debug__":Str))=false) θ) (he:autoParam (starEach (e :: es) X.env=(false,eval e X.env) :: starEach es X.env) η) (Cz:autoParam ((backTo pos (starEach es X.env)).any (·.1)=false) η) :
  PE X (.Call (.Name x p) (e :: es) [] pos) (Lg sp B4 E t):=by
 intro pins s σ H Q I h
 refine wpAny_Call_Name_kw (gU I hg hm ?_ Fy)
 refine PySem.W.callWith_K (h₀:=X.base) I.ok.mod.Ex hk (aZ (ha pos pins s σ H _ I h) λus s1 ⟨vs,H1,I1,r,q⟩=>⟨I1.BO,?_⟩) he Cz
 exact lq F hr hb hd hx I1 r q
theorem aE(he:PE X o ta)(c:CO X.K C)(hm:bG X.K C m f)(F:AQ X.prog X.w X.K X.mg X.base CX k f fd ps sp)(hr:Bc k X.A)(hb:Binds X.K fd ps ds)(hd:Vals B4 ds)(hx:fI CX X E)(ha:PA X (e :: es) t)
  (Dx:autoParam (starEach (e :: es) X.env=(false,eval e X.env) :: starEach es X.env) η) (Cz:autoParam ((backTo pos (starEach es X.env)).any (·.1)=false) η)
  (ht:eval (.Call (.Attribute o m apos) (e :: es) [] pos) X.env=(do
   let ov ← eval o X.env
   standAt apos.atName
   let (f,first) ← holding [ov] (getMethod ov m pl)
   callWith pos f first (backTo pos (starEach (e :: es) X.env)) (backToKw pos (keywordEach [] X.env))):=by rfl) :
  PE X (.Call (.Attribute o m apos) (e :: es) [] pos) (sI C m sp B4 E ta t):=by
 intro pins s σ H Q I h
 refine PySem.W.methodCall_KW (pl:=pl) (aZ (he pins s σ H _ I h) λu s1 AU=>?_) ht
 obtain⟨x,H1,I1,rx,a,dx,fs,ex,ea,l,q⟩:=AU
 subst ex
 obtain rfl:u=Value.ref a:=rx
 refine gk I1 ea c hm l ?_
 refine PySem.W.callWith_K (first:=[.ref a]) (h₀:=X.base) I.ok.mod.Ex hm.kp (aZ (ha pos pins s1 σ H1 _ I1 q) λus s2 ⟨vs,H2,I2,r,q2⟩=>⟨I2.BO,?_⟩) Dx Cz
 exact lq (us := .ref a :: us) (vs := .ref a :: vs) F hr hb hd hx I2 (.cons rfl r) q2
theorem bM(he:PE X o ta)(c:CO X.K C)(hm:bG X.K C m f)(F:AQ X.prog X.w X.K X.mg X.base CX k f fd ps sp)(hr:Bc k X.A)(hb:Binds X.K fd ps ds)(hd:Vals B4 ds)(hx:fI CX X E)
  (ht:eval (.Call (.Attribute o m apos) [] [] pos) X.env=(do
   let ov ← eval o X.env
   standAt apos.atName
   let (f,first) ← holding [ov] (getMethod ov m pl)
   callWith pos f first (backTo pos (starEach [] X.env)) (backToKw pos (keywordEach [] X.env))):=by rfl) :
  PE X (.Call (.Attribute o m apos) [] [] pos) (sI C m sp B4 E ta wm):=by
 intro pins s σ H Q I h
 refine PySem.W.methodCall_KW (pl:=pl) (aZ (he pins s σ H _ I h) λu s1 AU=>?_) ht
 obtain⟨x,H1,I1,rx,a,dx,fs,ex,ea,l,q⟩:=AU
 subst ex
 obtain rfl:u=Value.ref a:=rx
 refine gk I1 ea c hm l ?_
 exact PySem.W.callWith_K0 (first:=[.ref a]) I1.BO hm.kp (lq (us:=[.ref a]) (vs:=[.ref a]) F hr hb hd hx I1 (.cons rfl .nil) q)
structure Mk(K:Frag)(C f:Addr):Prop where
 makes:makesIn K C=true
 init:findIn K (.ref C) "__init__" = some (some (.ref f))
 fn:isFn K (.ref f)=true
 kp:keepIn K (.ref C)=true
theorem uj{σ:St}(M:Mk X.K C f)(F:AQ X.prog X.w X.K X.mg X.base CX k f fd ps sp)(hr:Bc (k + 1) X.A)(hb:Binds X.K fd ps ds)(hd:Vals B4 ds)
  (hx:fI CX X E) (I:Inv X pins σ H s) (r:Vals vs us)
  (h:∀x dx,H x=none->H dx=none->dx ≠ x->sp (.ref x :: (vs ++ B4)) (upd (upd H dx (.own x)) x (.ins C dx [])) (λv H2=>v = .Bj/\Q (.ref x) H2) E) :
  wpAny (model X.prog X.w) X.A (call (.ref C) us) (EP X pins σ Q) X.xe s:=by
 have hq:=h (s.heap.objs.size + 1) s.heap.objs.size (I.Bb.fresh (le_succ _)) (I.Bb.fresh (le_refl _)) (ne_of_lt (lt_succ_self _))
 have I2:=Inv.made (C:=C) I
 have r2:Vals (V.ref (s.heap.objs.size + 1) :: (vs ++ B4)) (Value.ref (s.heap.objs.size + 1) :: (us ++ ds)) := .cons rfl (r.append hd)
 have hl:(Value.ref (s.heap.objs.size + 1) :: us ++ ds).length=ps.length:=by
  have e:=r2.length
  rw[F.len _ _ _ _ hq]at e
  exact e.symm
 refine wpAny_call (vi (f:=f) I.BO M.makes M.init (beq_iff_eq.mp M.fn) (codeAny_mono (F.run _ X.stack _ _ ⟨Value.ref (s.heap.objs.size + 1) :: us,[]⟩ (Value.ref (s.heap.objs.size + 1) :: (us ++ ds)) _ _ E (hr.make C us [])
  (I2.IQ.make C us []) (hb _ (Value.ref (s.heap.objs.size + 1) :: us) I2.BO hl) r2 hq) λr s' DC=>?_))
 cases r with
 | error e=>exact hx pins σ _ _ e s' I2 DC
 | ok fl =>
  cases fl with
  | ret u =>
   obtain⟨v,H',I3,rv,ev,q3⟩:=I2.after DC
   subst ev
   exact⟨rv,⟨V.ref (s.heap.objs.size + 1),H',I3,rfl,q3⟩⟩
  | next=>exact False.elim DC
  | brk=>exact False.elim DC
  | cont=>exact False.elim DC
theorem cN(M:Mk X.K C f)(F:AQ X.prog X.w X.K X.mg X.base CX k f fd ps sp)(hr:Bc (k + 1) X.A)(hg:Gl X x)(hm:X.mg x=some (.ref C))(hb:Binds X.K fd ps ds)(hd:Vals B4 ds)(hx:fI CX X E)
  (ha:PA X (e :: es) t) (Fy:autoParam ((x == ("__debug__":Str))=false) θ) (he:autoParam (starEach (e :: es) X.env=(false,eval e X.env) :: starEach es X.env) η) (Cz:autoParam ((backTo pos (starEach es X.env)).any (·.1)=false) η) :
  PE X (.Call (.Name x p) (e :: es) [] pos) (Lh C sp B4 E t):=by
 intro pins s σ H Q I h
 refine wpAny_Call_Name_kw (gU I hg hm ?_ Fy)
 refine PySem.W.callWith_K (h₀:=X.base) I.ok.mod.Ex M.kp (aZ (ha pos pins s σ H _ I h) λus s1 ⟨vs,H1,I1,r,q⟩=>⟨I1.BO,?_⟩) he Cz
 exact uj M F hr hb hd hx I1 r q
end
section
variable {X:Cx}{CX:nQ}{k:Nat}{f C:Addr}{fd:FuncData}{ps ks:List Str}{sp:Sp}{E:XK}{x m:Str}{p pos apos kpos:Pos}{e o:Expr}{es:List Expr}{kws:List Keyword}{te ta:TE}{t tk:TA}{nm:Option Str}
variable {g:List Value->List Value->List Value}{gV:List V->List V->List V}
end
structure ao(N P:List Str)(sc:Scope):Prop where
 kind:sc.kind = .function
 co:sc.isCoroutine=false
 gen:sc.isGenerator=false
 nd:N.Nodup
 pre:N.take P.length=P
 par:∀x ∈ P,sc.names.lookup x=some .local∨sc.names.lookup x=some .cell
 IS:∀y ∈ sc.names,y.2 ≠ .free
theorem kN{kindOf:Str->Option NameKind}:∀{binds:List (Str × Value)}{m:Str->Option Value},(∀v,(x,v) ∉ binds)->bindL kindOf binds m x=m x
 | [],_,_=>rfl
 | (n,v) :: r,m,h=>by
  unfold bindL
  rw[kN λw hw=>h w (mem_cons_of_mem _ hw)]
  split
  ·have:x ≠ n:=by rintro rfl;exact h v mem_cons_self
   simp[this]
  ·rfl
theorem kP{kindOf:Str->Option NameKind}:∀{binds:List (Str × Value)}{m:Str->Option Value},(∀v,(x,v) ∉ binds)->bindC kindOf binds m x=m x
 | [],_,_=>rfl
 | (n,v) :: r,m,h=>by
  unfold bindC
  rw[kP λw hw=>h w (mem_cons_of_mem _ hw)]
  split
  ·rfl
  ·have:x ≠ n:=by rintro rfl;exact h v mem_cons_self
   simp[this]
theorem kO{kindOf:Str->Option NameKind}:∀{P:List Str}{vs:List Value}{i:Nat}{m:Str->Option Value},P.Nodup->P[i]? = some x->vs[i]? = some v->kindOf x=some .local ->
  bindL kindOf (P.zip vs) m x=some v
 | [],_,_,_,_,h,_,_=>by simp at h
 | _ :: _,[],_,_,_,_,h,_=>by simp at h
 | p :: P,w :: vs,0,m,nd,h1,h2,hk=>by
  simp at h1 h2;subst h1;subst h2
  show bindL kindOf ((p,w) :: P.zip vs) m p=_
  unfold bindL
  rw[kN λv hv=>(nodup_cons.mp nd).1 (of_mem_zip hv).1,if_pos hk]
  simp
 | p :: P,w :: vs,i + 1,m,nd,h1,h2,hk=>by
  show bindL kindOf ((p,w) :: P.zip vs) m x=_
  unfold bindL
  exact kO (i:=i) (nodup_cons.mp nd).2 (by simpa using h1) (by simpa using h2) hk
theorem kQ{kindOf:Str->Option NameKind}:∀{P:List Str}{vs:List Value}{i:Nat}{m:Str->Option Value},P.Nodup->P[i]? = some x->vs[i]? = some v->kindOf x ≠ some .local ->
  bindC kindOf (P.zip vs) m x=some v
 | [],_,_,_,_,h,_,_=>by simp at h
 | _ :: _,[],_,_,_,_,h,_=>by simp at h
 | p :: P,w :: vs,0,m,nd,h1,h2,hk=>by
  simp at h1 h2;subst h1;subst h2
  show bindC kindOf ((p,w) :: P.zip vs) m p=_
  unfold bindC
  rw[kP λv hv=>(nodup_cons.mp nd).1 (of_mem_zip hv).1,if_neg hk]
  simp
 | p :: P,w :: vs,i + 1,m,nd,h1,h2,hk=>by
  show bindC kindOf ((p,w) :: P.zip vs) m x=_
  unfold bindC
  exact kQ (i:=i) (nodup_cons.mp nd).2 (by simpa using h1) (by simpa using h2) hk
noncomputable def start(N:List Str)(vs:List V):St:=vs.map some ++ List.replicate (N.length - vs.length) none
noncomputable def lJ(CX:nQ)(P:Program)(w:World)(K:Frag)(mg:Str->Option Value)(base:Heap)(N:List Str)(qual:Str)(scope:Scope)(f:Addr)(cd:Value)(A:Around)(outer:List Env)(s:Shared)(H:Hp)(E:XK):Cx where
 prog:=P
 w:=w
 K:=K
 mg:=mg
 base:=base
 A:=A.deeper (envOfC qual scope s.heap.objs.size f cd)
 N:=N
 s₀:=s
 H₀:=H
 env:=envOfC qual scope s.heap.objs.size f cd
 outer:=outer
 stack:=envOfC qual scope s.heap.objs.size f cd :: outer
 ex:=[]
 calm:=true
 fn:=λ_=>true
 pn:=[]
 xe:=λe s'=>wpAny (model P w) (A.deeper (envOfC qual scope s.heap.objs.size f cd)) (leaving (envOfC qual scope s.heap.objs.size f cd) e) (λ_ Li=>CX outer H s E e Li) (λe' Li=>CX outer H s E e' Li) s'
theorem nA{sc:Scope}(h:sc.names.lookup x=some .cell):∃c,(cellsFrom n sc.names []).lookup x=some c:=by
 have q:=PySem.W.cellsFrom_some sc.names n [] (.inl h)
 exact Option.isSome_iff_exists.mp q
theorem rO{K:Frag}
  (S:ao N ps scope) (hd:A.handled=none) (e0:Ec P w K mg base A outer s H) (hl:vs.length=ps.length) (r:Vals vs us)
  (x:InCallC s s.heap.objs.size (bindL (envOfC qual scope s.heap.objs.size f cd).kindOf (ps.zip us) λ_=>none) (cellsFrom (s.heap.objs.size + 1) scope.names []) (bindC (envOfC qual scope s.heap.objs.size f cd).kindOf (ps.zip us) λ_=>none) s1) :
  Inv (lJ CX P w K mg base N qual scope f cd A outer s H E) [] (start N vs) H s1:=by
 have Cz:ps.length <= N.length:=by have:=congrArg List.length S.pre;rw[length_take]at this;omega
 obtain⟨h1,tk,rfl,hk⟩:=x.done
 have Lj:∀b:Addr,b ∉ (lJ CX P w K mg base N qual scope f cd A outer s H E).ex:=λb z=>absurd (show b ∈ ([]:List Addr) from z) (by simp)
 refine⟨⟨e0.mod,S.kind,rfl,rfl,le_refl _,λy z c h1 h2=>?_,λy hy=>?_,λy c _ h=>?_,λ_=>hd,Around.frames_deeper e0.frames, .inr ⟨rfl,rfl⟩,λb z=>absurd z (Lj b),e0.bs,e0.FQ,λb _ _=>Lj b,λb z=>absurd z (Lj b),e0.Ci,e0.HF⟩,
  rfl,e0.bare,Un.kept hk,⟨_,x.toInCall.ns,λi y v h1 h2 h3=>?_⟩,λy c h=>⟨_,x.cell y c h⟩,e0.Bb.fresh (le_refl _),λy c h=>?_,λp hp=>absurd (show p ∈ ([]:List (Addr × Obj)) from hp) (by simp),e0.Bb.kept hk,?_⟩
 ·exact name_of_addr x.apart (PySem.mem_of_lookup h1) (PySem.mem_of_lookup h2)
 ·have hy:scope.names.lookup y=some .cell∨scope.names.lookup y=some .free:=hy
  rcases hy with hy | hy
  ·exact nA hy
  ·exact absurd rfl (S.IS _ (PySem.mem_of_lookup hy))
 ·exact le_of_lt (x.above y c (PySem.mem_of_lookup h))
 ·have hi:i < vs.length:=by
   unfold start at h2
   by_cases hi:i < vs.length
   ·exact hi
   ·rw[getElem?_append_right (by simpa using hi)]at h2
    rw[List.getElem?_replicate]at h2
    split at h2<;>cases h2
  have ha:vs[i]? = some v:=by
   unfold start at h2
   rw[getElem?_append_left (by simpa using hi),getElem?_map]at h2
   cases e:vs[i]? with
   | none=>rw[e]at h2;cases h2
   | some a=>rw[e]at h2;cases h2;rfl
  obtain⟨u,hu,rv⟩:=r.get ha
  have hp:ps[i]? = some y:=by
   rw[←S.pre,List.getElem?_take_of_lt (by omega)];exact h1
  have Wt:ps.Nodup:=by rw[←S.pre];exact S.nd.sublist (List.take_sublist _ _)
  refine⟨u,rv,?_⟩
  rcases S.par y (mem_of_getElem? hp) with k | k
  ·exact .inl ⟨k,kO Wt hp hu k⟩
  ·obtain⟨c,e⟩:=nA (n:=s.heap.objs.size + 1) k
   refine .inr ⟨.inl k,c,e,?_⟩
   have q:=x.cell y c e
   rw[kQ Wt hp hu (by show scope.names.lookup y ≠ _;rw[k];decide)]at q
   exact q
 ·exact e0.Bb.fresh (le_of_lt (x.above y c (PySem.mem_of_lookup h)))
 ·unfold start
  show _=N.length
  rw[length_append,length_map,length_replicate]
  omega
theorem v7{K:Frag}{dV kV doc pm cdv ct oc:Value}
  (lk:K.lookup f=some ⟨oc,od, .func (fnOf name qual params body scope dV kV doc pm an cdv ct),Ed⟩) (Ea:codeIn K cdv qual=true) (S:ao N ps scope)
  (len:∀vs H Q E,sp vs H Q E->vs.length=ps.length)
  (CF:∀(A:Around)(outer:List Env)(s:Shared)(H:Hp)(vs:List V)(Q:VK)(E:XK),Bc k (A.deeper (envOfC qual scope s.heap.objs.size f cdv))->sp vs H Q E ->
   ∃t,DX (lJ CX P w K mg base N qual scope f cdv A outer s H E) body t/\t { nx:=λ_ H'=>Q .Bj H',rt:=Q } (start N vs) H) :
  AQ P w K mg base CX (k + 1) f (fnOf name qual params body scope dV kV doc pm an cdv ct) ps sp:=by
 refine⟨len,λA outer s H args us vs Q E hr e0 hb r Fc=>?_⟩
 have hl:=len _ _ _ _ Fc
 have KX:K.In s.heap:=e0.mod.Ex.keeps λb o e=>(e0.bs b o e).1
 have lim:s.heap.NoLimit:=e0.mod.nolimit.keeps λb o e=>(e0.bs b o e).1
 have Lk:∀y ∈ ps.zip us,scope.names.lookup y.1=some .local∨(scope.names.lookup y.1=some .cell/\((cellsFrom (s.heap.objs.size + 1) scope.names []).lookup y.1).isSome=true):=fun⟨n,v⟩ hy=>by
  rcases S.par n (of_mem_zip hy).1 with q | q
  ·exact .inl q
  ·exact .inr ⟨q,PySem.W.cellsFrom_some _ _ _ (.inl q)⟩
 refine codeAny_call_function hr.depth (KX _ _ lk) rfl S.co S.gen rfl (PySem.W.codeRec_of KX Ea) (hb _ _ _ _ ?_)
 refine wpAny_newFunctionEnv_cells S.kind Lk λenv he s1 x=>?_
 subst he
 refine⟨lim.keeps x.toInCall.keep,codeAny_func ?_⟩
 obtain⟨t,ht,hq⟩:=CF A outer s H vs Q E (hr.deeper _) Fc
 have I:Inv (lJ CX P w K mg base N qual scope f cdv A outer s H E) [] (start N vs) H s1:=rO S hr.hd e0 hl r x
 refine wpAny_mono (ht [] s1 (start N vs) H _ I hq) (λfl s' hs=>?_) λe s' hs=>hs
 have fin:∀{σ':St}{H':Hp}{v:V}{u:Value},Inv (lJ CX P w K mg base N qual scope f cdv A outer s H E) [] σ' H' s'->RelV v u->Q v H'->CE outer P w H s Q u s' :=
  λ{σ' H' v u} J rv q=>⟨v,H',J.os,J.bare,J.base,J.Bb,rv,q⟩
 cases fl with
 | ret u =>
  obtain⟨v,σ',H',J,rv,q⟩:=hs
  exact fin J rv q
 | next =>
  obtain⟨σ',H',J,q⟩:=hs
  exact fin (v:=V.Bj) (u:=Value.none) J rfl q
 | brk =>
  obtain⟨_,_,_,q⟩:=hs
  exact False.elim q
 | cont =>
  obtain⟨_,_,_,q⟩:=hs
  exact False.elim q
section
variable {X:Cx}{x:Str}{p pos:Pos}{e:Expr}{es:List Expr}{t:TA}{id T:String}{r:List V->Hp->VK->Prop}
def Wu(r:List V->Hp->VK->Prop)(t:TA):TE:=λσ H Q=>t σ H λvs H1=>r vs H1 Q
theorem aC(hc:eR X (.builtin id) r)(hg:Gl X x)(hm:X.mg x=none)(hv:bootBuiltins x=some (.builtin id))(ha:PA X (e :: es) t)(hn:autoParam (x ≠ "__name__") θ)(Fy:autoParam ((x == ("__debug__":Str))=false) θ)
  (he:autoParam (starEach (e :: es) X.env=(false,eval e X.env) :: starEach es X.env) η) (Cz:autoParam ((backTo pos (starEach es X.env)).any (·.1)=false) η):PE X (.Call (.Name x p) (e :: es) [] pos) (Wu r t):=by
 intro pins s σ H Q I h
 refine wpAny_Call_Name_kw (gj I hg hm hv ?_ hn Fy)
 exact PyProof.Rows.callWith_builtin1 (aZ (ha pos pins s σ H _ I h) λus s1 AU=>by obtain⟨vs,H1,I1,r1,q1⟩:=AU;exact hc pins s1 σ H1 vs us Q I1 r1 q1) he Cz
theorem c3(hc:eR X (.type T) r)(hg:Gl X x)(hm:X.mg x=none)(hv:bootBuiltins x=some (.type T))(ha:PA X (e :: es) t)(hn:autoParam (x ≠ "__name__") θ)(Fy:autoParam ((x == ("__debug__":Str))=false) θ)
  (he:autoParam (starEach (e :: es) X.env=(false,eval e X.env) :: starEach es X.env) η) (Cz:autoParam ((backTo pos (starEach es X.env)).any (·.1)=false) η):PE X (.Call (.Name x p) (e :: es) [] pos) (Wu r t):=by
 intro pins s σ H Q I h
 refine wpAny_Call_Name_kw (gj I hg hm hv ?_ hn Fy)
 exact PyProof.Rows.callWith_type1 (aZ (ha pos pins s σ H _ I h) λus s1 AU=>by obtain⟨vs,H1,I1,r1,q1⟩:=AU;exact hc pins s1 σ H1 vs us Q I1 r1 q1) he Cz
end
end L2
namespace HT
open PySem PyProof.Rows
section
open PySem.SeqAt
open PySem.AutoSeq1 (wpAny_loadPart')
open PySem.MeetsSeq PySem.MeetsSeq2 PySem.MeetsSeq3
end
section
variable {prog:Program}{w:World}{A:Around}{E:Value->Shared->Prop}{s:Shared}
theorem G7(ht:IsTup s.heap t vs.toArray)(hb:IsTup s.heap b ws.toArray)(hv:vs ≠ [])
  (h1:ws=[]->Q (.ref t) s) (h2:ws ≠ []->Q (.ref s.heap.objs.size) { s with heap:=s.heap.push { cls := .type "tuple",data := .seq (vs ++ ws).toArray } })
  (hsz:vs.length + ws.length <= sizeLine):wpAny (model prog w) A (binaryOp .Add (.ref t) (.ref b)) Q E s:=by
 obtain⟨⟨cls,dd,data,sl⟩,ho,hc,n,hd⟩:=id ht
 obtain⟨⟨Rq,Pf,data2,JY⟩,Ct,Dy,n2,hd2⟩:=id hb
 simp only at hc hd Dy hd2
 subst hc hd Dy hd2
 have e:vs.toArray ++ ws.toArray=(vs ++ ws).toArray:=by simp
 by_cases hw:ws=[]
 ·exact concat_meets ⟨_,ho,rfl⟩ ⟨_,Ct,rfl⟩ noFill_tuple_add seq_tuple_add slot_tuple_add entry_tuple_add (args_tuple_add_2 _ _)
   (tuple_addW1 t b vs.toArray ws.toArray n n2 dd Pf sl JY (by simpa using hv) (by simp[hw])) ⟨ho,Ct,h1 hw⟩
 ·refine concat_meets ⟨_,ho,rfl⟩ ⟨_,Ct,rfl⟩ noFill_tuple_add seq_tuple_add slot_tuple_add entry_tuple_add (args_tuple_add_2 _ _)
   (tuple_addW2 t b vs.toArray ws.toArray n n2 dd Pf sl JY (by simpa using hv) (by simpa using hw) (by rw[size_toArray,size_toArray];exact hsz)) ⟨ho,Ct,?_⟩
  rw[e]
  exact h2 hw
noncomputable def CP(n d:Nat):Option Int->Nat
 | none=>d
 | some v=>if v < 0 then (v + (n:Int)).toNat else min v.toNat n
theorem C8(n d k:Nat):CP n d (some (k:Int))=min k n:=by
 show(if (k:Int) < 0 then ((k:Int) + (n:Int)).toNat else min (k:Int).toNat n)=min k n
 rw[if_neg (by omega),toNat_natCast]
end
end HT
namespace L2
open PySem PySem.Spec PyProof.Rows
abbrev TO:=St->Hp->(Option Int->Hp->Prop)->Prop
def PO(X:Cx)(e:Option Expr)(t:TO):Prop :=
 ∀(pins:List (Addr × Obj))(s:Shared)(σ:St)(H:Hp)(Q:Option Int->Hp->Prop),Inv X pins σ H s->t σ H Q ->
  wpAny (model X.prog X.w) X.A (evalPart e X.env) (λu s'=>∃o H',Inv X pins σ H' s'/\IsPart u o/\Q o H') X.xe s
def wl:TO:=λ_ H Q=>Q none H
def Ll(t:TE):TO:=λσ H Q=>t σ H λx H1=>∃i,x = .int i/\Q (some i) H1
theorem p5 :∀{us:List Value},Vals (ns.map V.int) us->IntsAre us ns:=by
 induction ns with
 | nil=>intro us r;rw[map_nil]at r;cases r;exact .nil
 | cons n ns ih =>
  intro us r
  rw[map_cons]at r
  cases r with
  | cons r1 r2 =>
   obtain⟨t,e⟩:=r1
   subst e
   exact .cons n t (ih r2)
section
variable {X:Cx}{e:Expr}{te:TE}{lo hi:Option Expr}{tl th:TO}{pos p2:Pos}
theorem qi:PO X none wl:=by
 intro pins s σ H Q I h
 rw[evalPart_none]
 exact wpAny_pure ⟨none,H,I, .none,h⟩
theorem iN(h:PE X e te):PO X (some e) (Ll te):=by
 intro pins s σ H Q I hw
 rw[evalPart_some]
 refine aZ (h pins s σ H _ I hw) λu s1 AU=>?_
 obtain⟨x,H1,I1,r1,q1⟩:=AU
 obtain⟨i,rfl,q⟩:=q1
 obtain⟨t,rfl⟩:=r1
 exact⟨some i,H1,I1, .int i t,q⟩
def Wv(X:Cx)(r:V->Option Int->Option Int->Hp->VK->Prop):Prop :=
 ∀(pins:List (Addr × Obj))(s:Shared)(σ:St)(H:Hp)(x:V)(v vl vu:Value)(lo hi:Option Int)(sl:Addr)(Q:VK),Inv X pins σ H s->RelV x v->s.heap.IsSliceOf sl vl vu .none->IsPart vl lo->IsPart vu hi->r x lo hi H Q ->
  ∃T id,typeLookup (.type T) "__getitem__" = pure (some (.builtin id))/\s.TypeIs v T/\wpAny (model X.prog X.w) X.A (getItem v (.ref sl)) (EP X pins σ Q) X.xe s
def tSl(r:V->Option Int->Option Int->Hp->VK->Prop)(te:TE)(tl th:TO):TE:=λσ H Q=>te σ H λx H1=>tl σ H1 λl H2=>th σ H2 λu H3=>r x l u H3 Q
theorem jt(hr:Wv X r)(he:PE X e te)(hl:PO X lo tl)(hu:PO X hi th):PE X (.Subscript e (.Slice lo hi none p2) pos) (tSl r te tl th):=by
 intro pins s σ H Q I h
 refine Subscript_ (aZ (he pins s σ H _ I h) λv s1 AU=>?_)
 obtain⟨x,H1,I1,r1,q1⟩:=AU
 refine wpAny_Slice (aZ (hl pins s1 σ H1 _ I1 q1) λvl s2 ⟨l,H2,I2,pl,q2⟩=>aZ (hu pins s2 σ H2 _ I2 q2) λvu s3 AU=>?_)
 obtain⟨u,H3,I3,pu,q3⟩:=AU
 rw[evalPart_none]
 refine wpAny_pure ?_
 have I4:Inv X pins σ H3 { s3 with heap:=s3.heap.push { cls := .type "slice",data := .fields #[vl,vu, .none] } }:=I3.kept (t':=s3.toks) λb ob q=>Heap.get?_push_of_some _ q
 obtain⟨T,id,hT,ht,hg⟩:=hr pins { s3 with heap:=s3.heap.push { cls := .type "slice",data := .fields #[vl,vu, .none] } } σ H3 x v vl vu l u s3.heap.objs.size Q I4 r1 (Heap.IsSliceOf.new ..) pl pu q3
 show wpAny (model X.prog X.w) X.A (subscriptTail e (.Slice lo hi none p2) v (.ref s3.heap.objs.size)) (EP X pins σ Q) X.xe { s3 with heap:=s3.heap.push { cls := .type "slice",data := .fields #[vl,vu, .none] } }
 exact tail_any (ops:=[.ref s3.heap.objs.size,v]) ht hT hg (by with_unfolding_all rfl)
noncomputable def iF(xs:List V)(lo hi:Option Int):List V:=(xs.drop (HT.CP xs.length 0 lo)).take (HT.CP xs.length xs.length hi - HT.CP xs.length 0 lo)
theorem nr(xs:List V)(lo hi:Option Int):(iF xs lo hi).length <= xs.length:=by
 unfold iF
 rw[length_take,List.length_drop]
 omega
def Ln(K:Frag):R2:=λx y H Q=>∃a b xs ys,x = .ref a/\y = .ref b/\AZ K H a xs/\AZ K H b ys/\xs ≠ []/\xs.length + ys.length <= sizeLine /\
 (ys=[]->Q (.ref a) H)/\(ys ≠ []->∀p,H p=none->Q (.ref p) (upd H p (.tup (xs ++ ys))))
theorem Vals.C9(r:Vals xs us):us=[]↔xs=[]:=by
 cases r with
 | nil=>simp
 | cons _ _=>simp
theorem wO:eO X (binaryOp .Add) (Ln X.K):=by
 intro pins s σ H x y v u Q I rx ry h
 obtain⟨a,b,xs,ys,rfl,rfl,ha,hb,hx,hz,q1,q2⟩:=h
 cases rx
 cases ry
 obtain⟨AW,r1,p1,_⟩:=I.tuple ha
 obtain⟨CS,r2,p2,_⟩:=I.tuple hb
 refine HT.G7 p1 p2 (λz=>hx (r1.C9.mp z)) (λz=>⟨.ref a,H,I,rfl,q1 (r2.C9.mp z)⟩) (λz=>?_) (by rw[←r1.length,←r2.length];exact hz)
 refine⟨.ref s.heap.objs.size,_,I.laid (t':=s.toks) (o := .tup (xs ++ ys)) (λb ob q=>Heap.get?_push_of_some _ q) (le_refl _) ?_,rfl,q2 (λw=>z (r2.C9.mpr w)) _ (I.Bb.fresh (le_refl _))⟩
 exact⟨by rw[length_append];exact hz,_,r1.append r2,BM.new _ _⟩
end
noncomputable def xF(n:Nat)(i:Int):Option Nat:=if 0 <= i then (if i < n then some i.toNat else none) else if -(n:Int) <= i then some (i + n).toNat else none
noncomputable def JZ{α:Type}(xs:List α)(i:Int):Option α:=(xF xs.length i).bind λj=>xs[j]?
theorem qA(h:xF n i=some j):seqIndex? i n=some j/\j < n/\-(n:Int) <= i/\i < n:=by
 unfold xF at h
 by_cases h0:0 <= i
 ·rw[if_pos h0]at h
  by_cases h1:i < n
  ·rw[if_pos h1]at h
   have e:i.toNat=j:=Option.some.inj h
   exact⟨by rw[seqIndex_of h0 h1,e],by omega,by omega,h1⟩
  ·rw[if_neg h1]at h;cases h
 ·rw[if_neg h0]at h
  by_cases h1:-(n:Int) <= i
  ·rw[if_pos h1]at h
   have e:(i + n).toNat=j:=Option.some.inj h
   exact⟨by rw[seqIndex_neg (by omega) h1,e],by omega,h1,by omega⟩
  ·rw[if_neg h1]at h;cases h
theorem qP(h:JZ xs i=some v):∃j,seqIndex? i xs.length=some j/\xs[j]? = some v/\j < xs.length/\-(xs.length:Int) <= i/\i < xs.length:=by
 unfold JZ at h
 cases e:xF xs.length i with
 | none=>rw[e]at h;cases h
 | some j =>
  rw[e]at h
  obtain⟨h1,h2,h3,h4⟩:=qA e
  exact⟨j,h1,h,h2,h3,h4⟩
theorem ak{j:Nat}{v:α}(h:xs[j]? = some v):JZ xs (j:Int)=some v:=by
 have hj:j < xs.length:=(gQ0 h)
 have e:xF xs.length (j:Int)=some j:=by
  unfold xF
  rw[if_pos (by omega),if_pos (by omega)];simp
 unfold JZ;rw[e];exact h
def ye(b:Expr):Prop:=∀o i,subscripted b false o i=operate [o,i] (getItem o i)
def kR(X:Cx)(r:R2):Prop :=
 ∀(value slice:Expr)(pins:List (Addr × Obj))(s:Shared)(σ:St)(H:Hp)(x y:V)(v u:Value)(Q:VK),Inv X pins σ H s->RelV x v->RelV y u->r x y H Q ->
  subscripted slice false v u=operate [v,u] (getItem v u)->wpAny (model X.prog X.w) X.A (subscriptTail value slice v u) (EP X pins σ Q) X.xe s
def Ka(X:Cx)(id:String)(r:V->List V->Hp->VK->Prop):Prop :=
 ∀(pins:List (Addr × Obj))(s:Shared)(σ:St)(H:Hp)(x:V)(xs:List V)(v:Value)(us:List Value)(Q:VK),Inv X pins σ H s->RelV x v->Vals xs us->r x xs H Q ->
  wpAny (model X.prog X.w) X.A (call (.builtin id) (v :: us)) (EP X pins σ Q) X.xe s
section
variable {X:Cx}{a b:Expr}{ta tb:TE}{pos:Pos}
theorem ar(hr:kR X r)(ha:PE X a ta)(hb:PE X b tb)(hs:ye b):PE X (.Subscript a b pos) (wk r ta tb):=by
 intro pins s σ H Q I h
 exact Subscript_ (AD ha hb I h λv u s2 x y H2 I2 rx ry q=>hr a b pins s2 σ H2 x y v u Q I2 rx ry q (hs _ _))
def qZ(K:Frag):R2:=λx y H Q=>∃p xs i v,x = .ref p/\y = .int i/\AV K H p xs/\JZ xs i=some v/\Q v H
def il(K:Frag):R2:=λx y H Q=>∃p xs i v,x = .ref p/\y = .int i/\AZ K H p xs/\JZ xs i=some v/\Q v H
theorem aF:kR X (qZ X.K):=by
 intro value slice pins s σ H x y v u Q I rx ry h hs
 obtain⟨p,xs,i,z,rfl,rfl,hq,he,q⟩:=h
 cases rx
 obtain⟨t,rfl⟩:=ry
 obtain⟨AW,r,pl,hz⟩:=I.list hq
 obtain⟨j,h1,h2,h3,h4,h5⟩:=qP he
 obtain⟨w,ew,DD⟩:=r.get h2
 have hl:=r.length
 have hn:=j3
 have fin:EP X pins σ Q w s:=⟨z,H,I,DD,q⟩
 by_cases h0:0 <= i
 ·have hj:i.toNat=j:=by
   rw[seqIndex_of h0 h5]at h1
   exact Option.some.inj h1
  exact item_listR pl.isList h0 (by omega) (by rw[hj];simpa using ew) fin hs
 ·have hj:(i + (AW.toArray.size:Int)).toNat=j:=by
   rw[seqIndex_neg (by omega) h4]at h1
   rw[size_toArray,←hl]
   exact Option.some.inj h1
  exact subscriptTail_builtinR (x:=w) pl.isList.typeIs slot_list_getitem.lookup
   (wpAny_getItem_list_neg (Q:=λr s'=>r=w/\EP X pins σ Q r s') pl.isList (by omega) (by rw[size_toArray]<;>omega) (by omega) (by rw[hj];simpa using ew) ⟨rfl,fin⟩) hs
theorem aA:kR X (il X.K):=by
 intro value slice pins s σ H x y v u Q I rx ry h hs
 obtain⟨p,xs,i,z,rfl,rfl,hq,he,q⟩:=h
 cases rx
 obtain⟨t,rfl⟩:=ry
 obtain⟨AW,r,pl,hz⟩:=I.tuple hq
 obtain⟨j,h1,h2,h3,h4,h5⟩:=qP he
 obtain⟨w,ew,DD⟩:=r.get h2
 have hl:=r.length
 have hn:=j3
 have fin:EP X pins σ Q w s:=⟨z,H,I,DD,q⟩
 exact subscriptTail_builtinR (x:=w) pl.typeIs slot_tuple_getitem.lookup
  (getItem_tuple (j:=j) (Q:=λr s'=>r=w/\EP X pins σ Q r s') pl (by omega) (by omega) (by rw[size_toArray,←hl];exact h1) (by simpa using ew) ⟨rfl,fin⟩) hs
theorem pe(AW:List Value)(n j:Nat)(u:Value):Obj.mapSeq (·.setIfInBounds j u) { cls := .type "list",data := .seq AW.toArray n } = { cls := .type "list",data := .seq (AW.set j u).toArray n }:=by
 simp[Obj.mapSeq]
theorem Inv.lst{σ:St}{H:Hp}{s:Shared}{p:Addr}{xs:List V}(I:Inv X pins σ H s)(h:H p=some (.lst xs)) :
  ∃(AW:List Value)(n:Nat),Vals xs AW/\s.heap.get? p=some { cls := .type "list",data := .seq AW.toArray n }/\xs.length <= sizeLine:=by
 obtain⟨z,AW,n,r,e⟩:=I.Bb p _ h
 exact⟨AW,n,r,e,z⟩
theorem Inv.IT{σ:St}{AW its':List Value}(I:Inv X pins σ H s)(h:H p=some (.lst xs))
  (ho:s.heap.get? p=some { cls := .type "list",data := .seq AW.toArray n }) (hf:f { cls := .type "list",data := .seq AW.toArray n } = { cls := .type "list",data := .seq its'.toArray n' }) (r:Vals ys its') (hz:ys.length <= sizeLine) (t:Nat) :
  Inv X pins σ (upd H p (.lst ys)) { s with heap:=s.heap.update p f,toks:=t }:=by
 have e:(s.heap.update p f).get? p=some { cls := .type "list",data := .seq its'.toArray n' }:=by
  rw[Heap.get?_update_self f ho (by rw[hf]<;>rfl),hf]
 refine I.write (x:=p) (e:=p) (by rw[h];trivial) (.inl rfl) (λb u hb q=>(Heap.get?_update_other _ _ (Ne.symm hb)).trans q) ⟨_,e⟩ ?_
 exact⟨hz,its',n',r,e⟩
def Lo:V->V->V->Hp->(Hp->Prop)->Prop:=λo i v H Q=>∃p xs k j,o = .ref p/\i = .int k/\H p=some (.lst xs)/\xF xs.length k=some j/\Q (upd H p (.lst (xs.set j v)))
theorem jk:KO X Lo:=by
 intro pins s σ H o i v ov iv u Q I ro ri rv h
 obtain⟨p,xs,k,j,rfl,rfl,hp,hj,q⟩:=h
 cases ro
 obtain⟨t,rfl⟩:=ri
 obtain⟨AW,n,r,ho,hz⟩:=I.lst hp
 obtain⟨h1,h2,h3,h4⟩:=qA hj
 have hl:=r.length
 have hn:=j3
 have I':Inv X pins σ (upd H p (.lst (xs.set j v))) { s with heap:=s.heap.update p (Obj.mapSeq (·.setIfInBounds j u)) } :=
  I.IT hp ho (pe AW n j u) (r.set rv j) (by rw[length_set];exact hz) s.toks
 by_cases h0:0 <= k
 ·have hk:k.toNat=j:=by
   rw[seqIndex_of h0 h4]at h1
   exact Option.some.inj h1
  exact PySem.W.ki_setAt ho h0 (by omega) (by rw[size_toArray,←hl];exact h4) (by rw[hk];exact⟨_,I',q⟩)
 ·have hk:(k + (AW.toArray.size:Int)).toNat=j:=by
   rw[seqIndex_neg (by omega) h3]at h1
   rw[size_toArray,←hl]
   exact Option.some.inj h1
  exact PySem.W.ki_setBack ho (by omega) (by rw[size_toArray,←hl];exact h3) (by omega) (by rw[hk];exact⟨_,I',q⟩)
theorem lf(lo hi:Option Int)(n:Nat):(sliceBounds lo hi none n).1=((HT.CP n 0 lo:Nat):Int)/\(sliceBounds lo hi none n).2.1=((HT.CP n n hi:Nat):Int)/\(sliceBounds lo hi none n).2.2=1:=by
 refine⟨?_,?_,rfl⟩
 ·cases lo with
  | none=>simp[sliceBounds,HT.CP]
  | some i =>
   simp only[sliceBounds,HT.CP,Option.getD_none,show (1:Int) > 0 by decide,if_true]
   by_cases h:i < 0
   ·simp only[h,if_true]<;>omega
   ·simp only[h,if_false]<;>omega
 ·cases hi with
  | none=>simp[sliceBounds,HT.CP]
  | some i =>
   simp only[sliceBounds,HT.CP,Option.getD_none,show (1:Int) > 0 by decide,if_true]
   by_cases h:i < 0
   ·simp only[h,if_true]<;>omega
   ·simp only[h,if_false]<;>omega
theorem jQ(AW:List Value)(lo hi:Option Int):slicePick AW.toArray lo hi none=((AW.drop (HT.CP AW.length 0 lo)).take (HT.CP AW.length AW.length hi - HT.CP AW.length 0 lo)).toArray:=by
 obtain⟨h1,h2,h3⟩:=lf lo hi AW.toArray.size
 unfold slicePick
 rw[h1,h2,h3]
 simp only[sliceRange_one,pick_run,size_toArray]<;>rfl
def Rr(K:Frag):V->Option Int->Option Int->Hp->VK->Prop:=λx lo hi H Q=>∃a xs,x = .ref a/\AV K H a xs/\∀p,H p=none->Q (.ref p) (upd H p (.lst (iF xs lo hi)))
theorem lg:Wv X (Rr X.K):=by
 intro pins s σ H x v vl vu lo hi sl Q I rx hs pl pu h
 obtain⟨a,xs,rfl,hx,q⟩:=h
 cases rx
 obtain⟨AW,r,ht,hz⟩:=I.list hx
 have hlen:=r.length
 refine⟨"list",_,slot_list_getitem.lookup,ht.isList.typeIs,?_⟩
 refine wpAny_getItem_list_slice ht.isList hs pl pu .none (by simp) ?_ (by rw[size_toArray]<;>omega)
 rw[jQ,←hlen]
 refine⟨.ref s.heap.objs.size,_,I.laid (t':=s.toks) (o := .lst (iF xs lo hi)) (λb ob q=>Heap.get?_push_of_some _ q) (le_refl _) ?_,rfl,q _ (I.Bb.fresh (le_refl _))⟩
 exact⟨le_trans (nr xs lo hi) hz,_,0,(r.drop (HT.CP xs.length 0 lo)).take (HT.CP xs.length xs.length hi - HT.CP xs.length 0 lo),Heap.get?_push_size _ rfl⟩
noncomputable def gZ:V->Bool
 | .Bj=>true
 | .bl _=>true
 | .int _=>true
 | .str _=>true
 | _=>false
noncomputable def y3:V->V->Bool
 | .Bj, .Bj=>true
 | .bl a, .bl b=>a == b
 | .bl a, .int b=>(if a then 1 else 0) == b
 | .int a, .bl b=>a == (if b then 1 else 0)
 | .int a, .int b=>a == b
 | .str a, .str b=>a == b
 | _,_=>false
theorem Aw(ry:RelV y u)(rx:RelV x v)(fy:gZ y=true)(fx:gZ x=true):SeqAt.EqAt A s u v (y3 y x):=by
 cases y with
 | Bj =>
  cases ry
  cases x with
  | Bj=>cases rx;exact SeqAt.EqAt.same _
  | bl b=>cases rx;exact SeqAt.EqAt.none_bool b
  | int b=>obtain⟨t,rfl⟩:=rx;exact SeqAt.EqAt.none_int b t
  | str b=>obtain⟨t,rfl⟩:=rx;exact SeqAt.EqAt.none_str b t
  | _=>exact absurd (show false=true from fx) Bool.false_ne_true
 | bl a =>
  cases ry
  cases x with
  | Bj=>cases rx;exact SeqAt.EqAt.bool_none a
  | bl b=>cases rx;exact SeqAt.EqAt.bool_bool a b
  | int b=>obtain⟨t,rfl⟩:=rx;exact SeqAt.EqAt.bool_int a b t
  | str b=>obtain⟨t,rfl⟩:=rx;exact SeqAt.EqAt.bool_str a b t
  | _=>exact absurd (show false=true from fx) Bool.false_ne_true
 | int a =>
  obtain⟨t',rfl⟩:=ry
  cases x with
  | Bj=>cases rx;exact SeqAt.EqAt.int_none a t'
  | bl b=>cases rx;exact SeqAt.EqAt.int_bool a t' b
  | int b=>obtain⟨t,rfl⟩:=rx;exact SeqAt.EqAt.int_int a t' b t
  | str b=>obtain⟨t,rfl⟩:=rx;exact SeqAt.EqAt.int_str a t' b t
  | _=>exact absurd (show false=true from fx) Bool.false_ne_true
 | str a =>
  obtain⟨t',rfl⟩:=ry
  cases x with
  | Bj=>cases rx;exact SeqAt.EqAt.str_none a t'
  | bl b=>cases rx;exact SeqAt.EqAt.str_bool a t' b
  | int b=>obtain⟨t,rfl⟩:=rx;exact SeqAt.EqAt.str_int a t' b t
  | str b=>obtain⟨t,rfl⟩:=rx;exact SeqAt.EqAt.str_str a t' b t
  | _=>exact absurd (show false=true from fx) Bool.false_ne_true
 | _=>exact absurd (show false=true from fy) Bool.false_ne_true
noncomputable def p8(x:V)(u:Value):Bool:=match u with
 | .none=>y3 .Bj x
 | .bool b=>y3 (.bl b) x
 | .int i _=>y3 (.int i) x
 | .str z _=>y3 (.str z) x
 | _=>false
theorem vA(r:RelV y u)(f:gZ y=true):p8 x u=y3 y x:=by
 cases y with
 | Bj=>cases r;rfl
 | bl b=>cases r;rfl
 | int i=>obtain⟨t,rfl⟩:=r;rfl
 | str z=>obtain⟨t,rfl⟩:=r;rfl
 | _=>exact absurd (show false=true from f) Bool.false_ne_true
theorem ie :∀{xs:List V}{us:List Value},Vals xs us->xs.all gZ=true->us.any (p8 x)=xs.any λy=>y3 y x
 | _,_, .nil,_=>rfl
 | y :: xs,u :: us, .cons r t,f=>by
  rw[all_cons,Bool.and_eq_true]at f
  rw[any_cons,any_cons,vA r f.1,ie t f.2]
theorem fD(rx:RelV x v)(fx:gZ x=true):∀{xs:List V}{us:List Value},Vals xs us->xs.all gZ=true->∀u ∈ us,SeqAt.EqAt A s u v (p8 x u)
 | _,_, .nil,_=>λu hu=>by cases hu
 | y :: xs,u :: us, .cons r t,f=>λu' hu=>by
  rw[all_cons,Bool.and_eq_true]at f
  rcases mem_cons.mp hu with rfl | hu
  ·rw[vA r f.1];exact Aw r rx f.1 fx
  ·exact fD rx fx t f.2 u' hu
noncomputable def Kb(x:V)(xs:List V):Bool:=xs.any λy=>y3 y x
def Pg(K:Frag)(neg:Bool):R2:=λx y H Q=>∃p xs,y = .ref p/\(AV K H p xs∨AZ K H p xs)/\gZ x=true/\xs.all gZ=true/\Q (.bl (if neg then !Kb x xs else Kb x xs)) H
theorem rp:eO X (compareOp .In) (Pg X.K false):=by
 intro pins s σ H x y v u Q I rx ry h
 obtain⟨p,xs,rfl,hq,fx,fs,q⟩:=h
 cases ry
 rcases hq with hq | hq
 ·obtain⟨AW,r,pl,hz⟩:=I.list hq
  refine SeqAt.in_listAt (p8 x) pl.isList (λw hw=>fD rx fx r fs w (by simpa using hw)) ⟨.bl _,H,I,rfl,?_⟩
  rw[show AW.toArray.any (p8 x)=AW.any (p8 x) by simp,ie r fs]
  exact q
 ·obtain⟨AW,r,pl,hz⟩:=I.tuple hq
  refine SeqAt.in_tupleAt (p8 x) pl (λw hw=>fD rx fx r fs w (by simpa using hw)) ⟨.bl _,H,I,rfl,?_⟩
  rw[show AW.toArray.any (p8 x)=AW.any (p8 x) by simp,ie r fs]
  exact q
theorem gN:eO X (compareOp .NotIn) (Pg X.K true):=by
 intro pins s σ H x y v u Q I rx ry h
 obtain⟨p,xs,rfl,hq,fx,fs,q⟩:=h
 cases ry
 rcases hq with hq | hq
 ·obtain⟨AW,r,pl,hz⟩:=I.list hq
  refine SeqAt.notIn_listAt (p8 x) pl.isList (λw hw=>fD rx fx r fs w (by simpa using hw)) ⟨.bl _,H,I,rfl,?_⟩
  rw[show AW.toArray.any (p8 x)=AW.any (p8 x) by simp,ie r fs]
  exact q
 ·obtain⟨AW,r,pl,hz⟩:=I.tuple hq
  refine SeqAt.notIn_tupleAt (p8 x) pl (λw hw=>fD rx fx r fs w (by simpa using hw)) ⟨.bl _,H,I,rfl,?_⟩
  rw[show AW.toArray.any (p8 x)=AW.any (p8 x) by simp,ie r fs]
  exact q
theorem av:eR X (.builtin "len") (λxs H Q=>∃p ys,xs=[.ref p]/\(AV X.K H p ys∨AZ X.K H p ys)/\Q (.int ys.length) H):=by
 intro pins s σ H xs us Q I r h
 obtain⟨p,ys,rfl,hq,q⟩:=h
 obtain⟨u,rfl,rx⟩:=lQ r
 cases rx
 have hn:=j3
 rcases hq with hq | hq
 ·obtain⟨AW,r',pl,hz⟩:=I.list hq
  have hlen:=r'.length
  exact Calls.call_len_list pl.isList (by simp only[size_toArray]<;>omega) ⟨.int ys.length,H,I.tok _,⟨s.toks + 1,by rw[size_toArray,hlen]⟩,q⟩
 ·obtain⟨AW,r',pl,hz⟩:=I.tuple hq
  have hlen:=r'.length
  exact len_tuple pl (by simp only[size_toArray]<;>omega) ⟨.int ys.length,H,I.tok _,⟨s.toks + 1,by rw[size_toArray,hlen]⟩,q⟩
theorem c4:eR X (.type "list") (λxs H Q=>∃p ys,xs=[.ref p]/\(AV X.K H p ys∨AZ X.K H p ys)/\∀l,H l=none->Q (.ref l) (upd H l (.lst ys))):=by
 intro pins s σ H xs us Q I r h
 obtain⟨p,ys,rfl,hq,q⟩:=h
 obtain⟨u,rfl,rx⟩:=lQ r
 cases rx
 have fin:∀(AW:List Value),Vals ys AW->ys.length <= sizeLine->∀(h':Heap)(c':Nat),(∀b o',s.heap.get? b=some o'->h'.get? b=some o') ->
   h'.get? s.heap.objs.size=some { cls := .type "list",dict:=none,data := .seq AW.toArray c',slots:=#[] }->EP X pins σ Q (.ref s.heap.objs.size) { s with heap:=h' }:=λAW r' hz h' c' kp e =>
  ⟨.ref s.heap.objs.size,_,I.laid (t':=s.toks) kp (le_refl _) (show Bn X.prog X.w _ h' _ (.lst ys) from ⟨hz,AW,c',r',e⟩),rfl,q _ (I.Bb.fresh (le_refl _))⟩
 rcases hq with hq | hq
 ·obtain⟨AW,r',pl,hz⟩:=I.list hq
  have hlen:=r'.length
  obtain⟨o,ho,hc,n,hd⟩:=pl.isList
  exact call_list_seq p (.inl rfl) ho hc hd (λh' c' kp e=>fin AW r' hz h' c' kp e) (by simp only[size_toArray]<;>omega)
 ·obtain⟨AW,r',pl,hz⟩:=I.tuple hq
  have hlen:=r'.length
  obtain⟨o,ho,hc,n,hd⟩:=pl
  exact call_list_seq p (.inr rfl) ho hc hd (λh' c' kp e=>fin AW r' hz h' c' kp e) (by simp only[size_toArray]<;>omega)
theorem dU:eR X (.type "tuple") (λxs H Q=>∃p ys,xs=[.ref p]/\((AV X.K H p ys/\∀l,H l=none->Q (.ref l) (upd H l (.tup ys)))∨(AZ X.K H p ys/\Q (.ref p) H))):=by
 intro pins s σ H xs us Q I r h
 obtain⟨p,ys,rfl,h⟩:=h
 obtain⟨u,rfl,rx⟩:=lQ r
 cases rx
 rcases h with ⟨hq,q⟩ | ⟨hq,q⟩
 ·obtain⟨AW,r',pl,hz⟩:=I.list hq
  have hlen:=r'.length
  refine call_tuple_list pl.isList (λh' kp=>?_) (by simp only[size_toArray]<;>omega)
  have I1:Inv X pins σ H { s with heap:=h' }:=I.kept (t':=s.toks) kp
  have I2:Inv X pins σ (upd H h'.objs.size (.tup ys)) { s with heap:=h'.push { cls := .type "tuple",data := .seq AW.toArray } } :=
   I1.laid (t':=s.toks) (λb o e=>Heap.get?_push_of_some _ e) (le_refl _) (show Bn X.prog X.w _ _ _ (.tup ys) from ⟨hz,AW,r',BM.new _ _⟩)
  exact⟨.ref h'.objs.size,_,I2,rfl,q _ (I1.Bb.fresh (le_refl _))⟩
 ·obtain⟨AW,r',pl,hz⟩:=I.tuple hq
  exact call_tuple_same pl ⟨.ref p,H,I,rfl,q⟩
def Rt(K:Frag)(T:String)(x:V)(H:Hp):Prop:=match x with
 | .str _=>T = "str"
 | .int _=>T = "int"
 | .ref p=>(T = "list"/\∃xs,AV K H p xs)∨(T = "tuple"/\∃o,K.lookup p=some o/\o.cls = .type "tuple"/\o.dict=none) ∨
   (T = "dict"/\((∃kvs,H p=some (.dK kvs))∨∃kvs,H p=some (.dT kvs)))∨(T = "set"/\∃S n,H p=some (.set S n))
 | _=>False
theorem sF{σ:St}(I:Inv X pins σ H s)(r:RelV x v)(ty:Rt X.K T x H) :
  s.TypeIs v T/\∀a,v = .ref a->∃ob,s.heap.get? a=some ob/\ob.dict=none:=by
 cases x with
 | str z =>
  obtain⟨t,rfl⟩:=r
  cases (show T = "str" from ty)
  exact⟨typeIs_str s z t,λ_ e=>nomatch e⟩
 | int i =>
  obtain⟨t,rfl⟩:=r
  cases (show T = "int" from ty)
  exact⟨typeIs_int s i t,λ_ e=>nomatch e⟩
 | ref p =>
  cases r
  rcases ty with ⟨rfl,xs,hq⟩ | ⟨rfl,o,hk,hc,hd⟩ | ⟨rfl,hk⟩ | ⟨rfl,S,n,hk⟩
  ·obtain⟨AW,_,pl,_⟩:=I.list hq
   refine⟨pl.isList.typeIs,λa e=>?_⟩
   cases e
   obtain⟨o,n,e,c,hd,_⟩:=pl
   exact⟨o,e,hd⟩
  ·refine⟨⟨o,I.BO p o hk,hc⟩,λa e=>?_⟩
   cases e
   exact⟨o,I.BO _ o hk,hd⟩
  ·have z:∃o,s.heap.get? p=some o/\o.ExactDict:=by
    rcases hk with ⟨kvs,hk⟩ | ⟨kvs,hk⟩
    ·obtain⟨_,_,_,_,o,_,_,e,ex,_⟩:=I.Bb p _ hk
     exact⟨o,e,ex⟩
    ·obtain⟨_,_,_,_,o,_,_,e,ex,_⟩:=I.Bb p _ hk
     exact⟨o,e,ex⟩
   obtain⟨o,e,ex⟩:=z
   refine⟨⟨o,e,ex.1⟩,λa e2=>?_⟩
   cases e2
   exact⟨o,e,ex.2.1⟩
  ·obtain⟨o,_,_,_,e,ex,_⟩:=I.Bb p _ hk
   refine⟨⟨o,e,ex.1⟩,λa e2=>?_⟩
   cases e2
   exact⟨o,e,ex.2.1⟩
 | _=>exact False.elim ty
def Ru(K:Frag)(T:String)(r:V->List V->Hp->VK->Prop)(to:TE):TE:=λσ H Q=>to σ H λx H1=>Rt K T x H1/\r x [] H1 Q
def tBM(K:Frag)(T:String)(r:V->List V->Hp->VK->Prop)(to:TE)(t:TA):TE:=λσ H Q=>to σ H λx H1=>Rt K T x H1/\t σ H1 λxs H2=>r x xs H2 Q
variable {o e:Expr}{es:List Expr}{to:TE}{t:TA}{name:Str}{apos Bu:Pos}{T id:String}{r:V->List V->Hp->VK->Prop}
theorem zy(pa:PlainAttrs T)(slot:Slot T name id)(Lp:typeOf (.builtin id)=pure (.type "method_descriptor"))(hm:Ka X id r)(ho:PE X o to)
  (CG:autoParam (attributeBase o name X.env (eval o X.env)=eval o X.env) η) (DE:autoParam ((apos.endLine == Bu.line)=true) η):PE X (.Call (.Attribute o name apos) [] [] Bu) (Ru X.K T r to):=by
 intro pins s σ H Q I h
 refine wpAny_Call_method0_late CG DE (aZ (ho pins s σ H _ I h) λv s1 AU=>?_)
 obtain⟨x,H1,I1,r1,ty,q1⟩:=AU
 obtain⟨h1,h2⟩:=sF I1 r1 ty
 exact⟨T,id,pa,slot,Lp,h1,h2,Calls.callWith_builtin rfl (PySem.evalArgs_none (hm pins s1 σ H1 x [] v [] Q I1 r1 .nil q1))⟩
theorem ce(pa:PlainAttrs T)(slot:Slot T name id)(Lp:typeOf (.builtin id)=pure (.type "method_descriptor"))(hm:Ka X id r)(ho:PE X o to)(ha:PA X (e :: es) t)
  (CG:autoParam (attributeBase o name X.env (eval o X.env)=eval o X.env) η)
  (Ck:((backTo Bu (starEach (e :: es) X.env)).all (λx=>!x.1) && (backToKw Bu (keywordEach [] X.env)).all (λx=>x.1.isSome)
   && decide ((e :: es).length + ([]:List Keyword).length + (if ([]:List Keyword).isEmpty then 0 else 1) < 30))=true:=by rfl)
  (DE:autoParam ((apos.endLine == Bu.line)=true) η) (hs:autoParam (starEach (e :: es) X.env=(false,eval e X.env) :: starEach es X.env) η) (Ee:autoParam ((backTo Bu (starEach es X.env)).any (·.1)=false) η) :
  PE X (.Call (.Attribute o name apos) (e :: es) [] Bu) (tBM X.K T r to t):=by
 intro pins s σ H Q I h
 refine wpAny_Call_method_late CG Ck DE rfl (aZ (ho pins s σ H _ I h) λv s1 AU=>?_)
 obtain⟨x,H1,I1,r1,ty,q1⟩:=AU
 obtain⟨h1,h2⟩:=sF I1 r1 ty
 refine⟨T,id,pa,slot,Lp,h1,h2,?_⟩
 have hA:=ha Bu pins s1 σ H1 _ I1 q1
 rw[hs]at hA ⊢
 refine Calls.callWith_builtin (by show(false || (backTo Bu (starEach es X.env)).any (·.1))=false;rw[Ee]<;>rfl) (Calls.evalArgs_plain ?_)
 exact aZ hA λus s2 AU=>by obtain⟨vs,H2,I2,r2,q2⟩:=AU;exact hm pins s2 σ H2 x vs v us Q I2 r1 r2 q2
end
def Rv(X:Cx)(id:String)(r:V->List V->Hp->VK->Prop):Prop :=
 ∀(pins:List (Addr × Obj))(s:Shared)(σ:St)(H:Hp)(x:V)(xs:List V)(v:Value)(us:List Value)(Q:VK),Inv X pins σ H s->RelV x v->Vals xs us->r x xs H Q ->
  wpAny (model X.prog X.w) X.A (call (.builtin id) (v :: us)) (EP X pins σ Q) X.xe s
theorem Vals.one:∀{x:V}{us:List Value},Vals [x] us->∃u,us=[u]/\RelV x u:=by
 intro x us h
 cases h with
 | cons r t=>cases t;exact⟨_,rfl,r⟩
theorem Vals.eraseIdx:∀{xs:List V}{us:List Value}(i:Nat),Vals xs us->Vals (xs.eraseIdx i) (us.eraseIdx i)
 | _,_,_, .nil => .nil
 | _,_,0, .cons _ t=>t
 | _,_,i + 1, .cons r t => .cons r (Vals.eraseIdx i t)
theorem k9{α:Type}:∀(l:List α)(i:Nat),(l.eraseIdx i).length <= l.length
 | [],_=>le_refl _
 | _ :: _,0=>le_succ _
 | _ :: r,i + 1=>Nat.succ_le_succ (k9 r i)
section
variable {X:Cx}{pins:List (Addr × Obj)}{σ:St}{H:Hp}{s:Shared}{l b:Addr}{xs ys zs:List V}
theorem Inv.IU{AW its':List Value}(I:Inv X pins σ H s)(hH:H l=some (.lst xs))
  (e:s.heap.get? l=some { cls := .type "list",data := .seq AW.toArray n }) (hf:f AW.toArray=its'.toArray) (hv:Vals ys its') (hz:ys.length <= sizeLine) :
  Inv X pins σ (upd H l (.lst ys)) { s with heap:=s.heap.update l (Obj.mapSeq f),toks:=t' }:=by
 have q:=PySem.IsL.update e f
 rw[hf]at q
 refine I.write (x:=l) (e:=l) (by rw[hH];exact trivial) (.inl rfl) (λb' u hb hu=>(Heap.get?_update_other s.heap (Obj.mapSeq f) (Ne.symm hb)).trans hu) ⟨_,q⟩ ?_
 exact⟨hz,its',_,hv,q⟩
theorem Inv.Rx(I:Inv X pins σ H s)(hv:Vals ys AW)(hz:ys.length <= sizeLine) :
  Inv X pins σ (upd H s.heap.objs.size (.lst ys)) { s with heap:=s.heap.push { cls := .type "list",data := .seq AW.toArray },toks:=t' } :=
 I.laid (λ_ _ q=>Heap.get?_push_of_some _ q) (le_refl _) ⟨hz,AW,0,hv,Heap.get?_push_size _ rfl⟩
theorem Inv.fresh(I:Inv X pins σ H s):H s.heap.objs.size=none:=I.Bb.fresh (le_refl _)
theorem Inv.Ef(I:Inv X pins σ H s)(hH:H l=some (.lst xs)):xs.length <= sizeLine/\∃(AW:List Value)(n:Nat),Vals xs AW/\xs.length=AW.length/\s.heap.get? l=some { cls := .type "list",data := .seq AW.toArray n }:=by
 obtain⟨z,AW,n,r,e⟩:=I.Bb l _ hH
 exact⟨z,AW,n,r,r.length,e⟩
theorem uZ(h:n <= sizeLine):Builtin.List.listTooLong n=false:=by
 unfold Builtin.List.listTooLong
 exact decide_eq_false (by omega)
end
section
variable {X:Cx}
def qg:V->List V->Hp->VK->Prop:=λx vs H Q=>∃l xs y,x = .ref l/\vs=[y]/\H l=some (.lst xs)/\xs.length < sizeLine/\Q .Bj (upd H l (.lst (xs ++ [y])))
theorem bj:Rv X "list.append" qg:=by
 intro pins s σ H x vs v us Q I rx rv h
 obtain⟨l,xs,y,rfl,rfl,hH,hz,q⟩:=h
 cases rx
 obtain⟨u,rfl,ru⟩:=rv.one
 obtain⟨z,AW,n,r,hl,e⟩:=I.Ef hH
 refine call_meets F.slot_list_append ⟨_,e,rfl⟩ F.entry_list_append (F.args_list_append_2 _ _) (PySem.list_append l AW.toArray n u (by rw[size_toArray];omega)) ⟨e,?_⟩
 refine⟨.Bj,_,I.IU (its':=AW ++ [u]) hH e (by simp) (r.append (.cons ru .nil)) ?_,rfl,q⟩
 rw[length_append,length_singleton]
 omega
def wG:V->List V->Hp->VK->Prop:=λx vs H Q=>∃l b xs zs,x = .ref l/\vs=[.ref b]/\H l=some (.lst xs)/\H b=some (.lst zs)/\xs.length + zs.length <= sizeLine/\Q .Bj (upd H l (.lst (xs ++ zs)))
theorem e9:Rv X "list.extend" wG:=by
 intro pins s σ H x vs v us Q I rx rv h
 obtain⟨l,b,xs,zs,rfl,rfl,hH,hB,hz,q⟩:=h
 cases rx
 obtain⟨u,rfl,ru⟩:=rv.one
 cases ru
 obtain⟨z,AW,n,r,hl,e⟩:=I.Ef hH
 obtain⟨z2,CS,n2,r2,HJ,e2⟩:=I.Ef hB
 have hsz:AW.toArray.size + CS.toArray.size <= sizeLine:=by rw[size_toArray,size_toArray];omega
 have Lq:¬(!AW.toArray.isEmpty && Builtin.List.listTooLong (AW.toArray.size + CS.toArray.size))=true:=by
  rw[uZ hsz,Bool.and_false]
  exact Bool.false_ne_true
 refine call_meets F.slot_list_extend ⟨_,e,rfl⟩ F.entry_list_extend (F.args_list_extend_2 _ _)
  (AutoSeq1.list_extend_list_list_0 l AW.toArray n b CS.toArray n2 Lq (by rw[size_toArray];omega) (by omega)) ⟨e,e2,?_⟩
 refine⟨.Bj,_,I.IU (its':=AW ++ CS) hH e (by simp) (r.append r2) ?_,rfl,q⟩
 rw[length_append]
 omega
def zr:V->List V->Hp->VK->Prop:=λx vs H Q=>∃l xs i k y,x = .ref l/\vs=[.int i]/\H l=some (.lst xs)/\-(2 ^ 63) <= i/\i < 2 ^ 63/\seqIndex? i xs.length=some k/\xs[k]? = some y/\Q y (upd H l (.lst (xs.eraseIdx k)))
theorem vd:Rv X "list.pop" zr:=by
 intro pins s σ H x vs v us Q I rx rv h
 obtain⟨l,xs,i,k,y,rfl,rfl,hH,h1,h2,hk,hy,q⟩:=h
 cases rx
 obtain⟨u,rfl,ru⟩:=rv.one
 obtain⟨t,rfl⟩:=ru
 obtain⟨z,AW,n,r,hl,e⟩:=I.Ef hH
 obtain⟨w,hw,DD⟩:=r.get hy
 refine call_meets F.slot_list_pop ⟨_,e,rfl⟩ F.entry_list_pop (F.args_list_pop_2 _ _)
  (MeetsSeq.list_pop_at l AW.toArray n i t k w (fitsIndex_both h1 h2) (by rw[size_toArray,←hl];exact hk) (by rw[←Array.getElem?_toList];exact hw) (by rw[size_toArray];omega)) ⟨e,?_⟩
 refine⟨y,_,I.IU (its':=AW.eraseIdx k) hH e ?_ (r.eraseIdx k) ?_,DD,q⟩
 ·show AW.toArray.eraseIdxIfInBounds k=(AW.eraseIdx k).toArray
  rw[List.eraseIdxIfInBounds_toArray]
 ·have:=k9 xs k
  omega
def Lr:R2:=λx y H Q=>∃l b xs zs,x = .ref l/\y = .ref b/\H l=some (.lst xs)/\H b=some (.lst zs)/\xs.length + zs.length <= sizeLine/\∀p,H p=none->Q (.ref p) (upd H p (.lst (xs ++ zs)))
theorem fz:eO X (binaryOp .Add) Lr:=by
 intro pins s σ H x y v u Q I rx ry h
 obtain⟨l,b,xs,zs,rfl,rfl,hH,hB,hz,q⟩:=h
 cases rx
 cases ry
 obtain⟨z,AW,n,r,hl,e⟩:=I.Ef hH
 obtain⟨z2,CS,n2,r2,HJ,e2⟩:=I.Ef hB
 refine PySem.P.add_list e e2 ?_ (by rw[size_toArray,size_toArray];omega)
 have ea:AW.toArray ++ CS.toArray=(AW ++ CS).toArray:=by simp
 rw[ea]
 exact⟨.ref _,_,I.Rx (t':=s.toks) (r.append r2) (by rw[length_append];omega),rfl,q _ I.fresh⟩
end
section
variable {prog:Program}{w:World}{A:Around}{E:Value->Shared->Prop}{s:Shared}
set_option maxRecDepth 100000 in
end
section
variable {X:Cx}
end
end L2
namespace Ww
open PySem PySem.W PySem.Calls PyProof.Rows
theorem iD :∀(ns:List Int)(vs:List Value),WellAll P h vs (ns.map WData.int)->IntsAre vs ns:=by
 intro ns
 induction ns with
 | nil =>
  intro vs w
  rw[map_nil]at w
  cases w
  exact .nil
 | cons n ns ih =>
  intro vs w
  rw[map_cons]at w
  cases w with
  | cons a b =>
   cases a
   exact .cons _ _ (ih _ b)
theorem qX{l:OpenLaw}(hn:l.most=some n)
  (G8:l.row.toRowW.claim.pre args=true) (FW:WellAll P h vals args) :
  ∃a vs ns,vals=[Value.ref a]/\args=[WData.list (ns.map WData.int)]/\h.get? a=some { cls := .type "list",data := .seq vs.toArray }/\IntsAre vs ns/\ns.length <= n:=by
 have hsh:WShape.hasAll [] args [.list .int]=true:=(pre_splitW G8).1
 have hc:l.pre.holds [] { args:=args } = true:=(pre_splitW G8).2
 obtain⟨d,r,rfl,h1,h2⟩:=hasAllW_cons hsh
 obtain rfl:=hasAllW_nil h2
 obtain⟨xs,rfl,h3⟩:=hasW_list h1
 obtain⟨ns,rfl⟩:=items_int h3
 have hlen:ns.length <= n:=by
  unfold OpenLaw.pre at hc
  have h4:(WTm.not (.lt (.lit (.int (n:Int))) (.len (.arg 0)))).holds [] { args:=[.list (ns.map .int)] } = true:=by
   have h4:=(holds_andW hc).1
   rw[hn]at h4
   exact h4
  have h5:=condW_of h4 (w_not (w_lt w_lit (w_len_list (w_arg rfl))))
  rw[length_map]at h5
  refine Nat.le_of_not_lt λq=>?_
  have q':(n:Int) < ((ns.length:Nat):Int):=by omega
  first
   | (rw[decide_eq_true q']at h5;exact absurd h5 (by decide))
   | (simp at h5;omega)
 cases FW with
 | cons w1 w2 =>
  cases w2
  cases w1 with
  | list ho Ca=>exact⟨_,_,ns,rfl,rfl,ho,iD ns _ Ca,hlen⟩
theorem re(l:OpenLaw)(args:List WData):l.row.toRowW.claim.post args (.bool true) args=true :=
 postW_of (r:=l.row.toRowW) (X:=(true == true))
  (show WShape.has [] (.bool true) .bool=true by first | rfl | decide | simp[WShape.has,WShape.arms,WShape.armsAll])
  (show(WTm.eq .res (.lit (.bool true))).value [] { args:=args,res:=some (.bool true),after:=args } = some (.bool (true == true)) from w_eq_bool (w_res rfl) w_lit) rfl
theorem DF{l:OpenLaw}
  (hn:l.most=some n) (Ls:d.params.defaults=[])
  (call:∀(w:World)(s₀ s₁:Shared)(mg mb:Str->Option Value)(fa:Addr)(o:Obj)(pm cd doc:Value)(a:Addr)(vs:List Value)(ns:List Int),
   Ground q loose [] XP w s₀ mg mb s₁.heap->YP w s₁.heap ->
   s₁.heap.get? fa=some o->o.data = .func (docDef d.name d.params d.body d.scope pm cd doc)->s₁.heap.CodeRec cd d.name->mg d.name=some (.ref fa) ->
   s₁.heap.get? a=some { cls := .type "list",data := .seq vs.toArray }->IntsAre vs ns->ns.length <= n->s₁.gens = #[] ->
   codeAny (model l.prog w) callerA (.call (.ref fa) ⟨[.ref a],[]⟩) (λr s'=>r = .ok (.ret (.bool true))/\OldK s₁.heap s'.heap/\s'.os=s₁.os/\AllBare s'.gens) s₁) :
  WalkO q loose XP YP l.row.toRowW d [] (λf vs=>PySem.call f vs):=by
 intro w s₀ s₁ mg mb G Y fa o pm cd doc dV kV ho hd Ea hD hmg hg args vals as G8 hlay hrd FW Ph
 obtain rfl:dV = .none:=Dflts.none hD Ls
 obtain rfl:kV = .none:=Dflts.noKw hD
 obtain⟨a,vs,ns,rfl,rfl,IV,hints,hlen⟩:=qX hn G8 FW
 refine enter_call (codeAny_mono (call w s₀ s₁ mg mb fa o pm cd doc a vs ns G Y ho (fd_plain hd) Ea hmg IV hints hlen hg) λr s' hq=>?_)
 obtain⟨rfl,h2,h3,h4⟩:=hq
 exact⟨.inl ⟨.bool true, .bool true,[],rfl,λ_=>rfl, .bool true,re l _,λ_=>⟨List.Pairwise.nil,λ_ hm=>(nomatch hm)⟩⟩,h2,h3,h4⟩
section
variable {prog:Program}{w:World}{A:Around}{E:Value->Shared->Prop}{s:Shared}{K:Frag}
end
end Ww
namespace L2
open PySem PySem.Spec PyProof.Rows
theorem jU:∀{vs:List Value}{ns:List Int},IntsAre vs ns->Vals (ns.map V.int) vs
 | _,_, .nil => .nil
 | _,_, .cons n t h => .cons ⟨t,rfl⟩ (jU h)
def AK(H:Hp):Prop:=∀b,H b=none∨∃o xs,H b=some (.Cy o (.lst xs))
theorem vn{K:Frag}
  (KX:K.In s₁.heap) (Fe:s₁.heap.Ns mainGlobals mg) (hb:s₁.heap.Ns builtinsNs mb) (hbb:∀x:Str,x ≠ "__name__"->mb x=bootBuiltins x) (Ry:s₁.heap.NoLimit) (hg:s₁.gens = #[])
  (ha:s₁.heap.get? a=some { cls := .type "list",data := .seq vs.toArray }) (hi:IntsAre vs ns) (hl:ns.length <= sizeLine) (hr:Bc k callerA)
  (F:∀base:Heap,K.In base->base.Ns mainGlobals mg->AQ P w K mg base CX k fa fd [x] sp) (Lu:∀(s:Shared)(u:Value),BindsTo s fd ⟨[u],[]⟩ [(x,u)])
  (Fc:∀H:Hp,AK H->AV K H a (ns.map V.int)->sp [.ref a] H (λv _=>v = .bl true) λ_ _ _=>False)
  (Rz:∀H e s',CX [] H s₁ (λ_ _ _=>False) e s'->False) :
  codeAny (model P w) callerA (.call (.ref fa) ⟨[.ref a],[]⟩) (λr s'=>r = .ok (.ret (.bool true))/\OldK s₁.heap s'.heap/\s'.os=s₁.os/\AllBare s'.gens) s₁:=by
 have rv:=jU hi
 have R0:=hi.length
 have core:∀H:Hp,AK H->AV K H a (ns.map V.int)->BI P w H s₁.heap->(∀b,H b ≠ none->b=a)->(H a ≠ none->K.lookup a=none) ->
   codeAny (model P w) callerA (.call (.ref fa) ⟨[.ref a],[]⟩) (λr s'=>r = .ok (.ret (.bool true))/\OldK s₁.heap s'.heap/\s'.os=s₁.os/\AllBare s'.gens) s₁:=by
  intro H hO hS Bb hA hK
  have base_of:∀{b:Addr}{o:Obj},s₁.heap.get? b=some o->H b=none->(lE s₁.heap H).get? b=some o:=λe n=>vq e n
  have Lj:∀{b:Addr}{o:Obj}{es:Array DictEntry}{ep:Nat},s₁.heap.get? b=some o->o.data = .dict es ep->H b=none:=λ{b o es ep} e d=>by
   cases q:H b with
   | none=>rfl
   | some u =>
    have e':b=a:=hA b (by rw[q];simp)
    subst e'
    rw[ha]at e;cases e
    have d':Data.seq vs.toArray _=Data.dict es ep:=d
    cases d'
  have Pj:∀{b:Addr}{m:Str->Option Value},s₁.heap.Ns b m->(lE s₁.heap H).Ns b m:=λ{b m} ⟨o,es,ep,e,d,r⟩=>⟨o,es,ep,base_of e (Lj e d),d,r⟩
  have Kc:K.In (lE s₁.heap H):=λb o e=>base_of (KX b o e) (by
   cases q:H b with
   | none=>rfl
   | some u =>
    have e':b=a:=hA b (by rw[q];simp)
    subst e'
    rw[hK (by rw[q];simp)]at e;cases e)
  have hM:Mod K mg (lE s₁.heap H):=⟨Kc,Pj Fe,⟨mb,Pj hb,hbb⟩,let ⟨mc,h1,h2⟩:=Ry; ⟨mc,Pj h1,h2⟩⟩
  have e0:Ec P w K mg (lE s₁.heap H) callerA [] s₁ H:=⟨rfl,hM,λb o e=>xx e,le_of_eq (rQ _ _),trivial,λb hb=>absurd (show b ∈ ([]:List Addr) from hb) (by simp),Bb, .of_eq hg⟩
  refine codeAny_mono ((F _ Kc (Pj Fe)).run callerA [] s₁ H ⟨[.ref a],[]⟩ [.ref a] [.ref a] _ _ hr e0 (Lu s₁ (.ref a)) (.cons rfl .nil) (Fc H hO hS)) λr s' h=>?_
  cases r with
  | error e=>exact(Rz H e s' h).elim
  | ok fl =>
   cases fl with
   | next=>exact False.elim h
   | brk=>exact False.elim h
   | cont=>exact False.elim h
   | ret u =>
    obtain⟨v,H',os,bare,un,R1,r',q⟩:=h
    have q':v = .bl true:=q
    subst q'
    obtain rfl:u=Value.bool true:=r'
    refine⟨rfl,OldK.of_keep λb o e=>?_,os,bare⟩
    cases q:H b with
    | none=>exact un.keep b o e q (by intro z;exact absurd (show b ∈ ([]:List Addr) from z) (by simp)) (by simp)
    | some u =>
     rcases hO b with z | ⟨ob,xs,z⟩
     ·rw[q]at z;cases z
     ·have z2:=un.C2 b ob _ z
      obtain⟨e1,_⟩:=Bb b _ z
      obtain⟨e2,_⟩:=R1 b _ z2
      rw[e]at e1;cases e1
      exact e2
 cases hk:K.lookup a with
 | some o =>
  have e:=KX a o hk
  rw[ha]at e
  cases e
  refine core (λ_=>none) (λ_ => .inl rfl) (.inr ⟨_,vs.toArray,_,hk,rfl,rfl,rfl,by rw[size_toArray,R0];exact hl,by simpa using rv⟩) (λb u z=>by have z':(none:Option HO)=some u:=z;cases z') (λb z=>absurd rfl z) λz=>absurd rfl z
 | none =>
  refine core (λb=>if b=a then some (.Cy { cls := .type "list",data := .seq vs.toArray } (.lst (ns.map V.int))) else none) (λb=>?_) (.inl (.inr ⟨{ cls := .type "list",data := .seq vs.toArray },if_pos rfl⟩)) (λb u z=>?_) (λb z=>?_) λ_=>hk
  ·by_cases hb:b=a
   ·exact .inr ⟨_,_,if_pos hb⟩
   ·exact .inl (if_neg hb)
  ·by_cases hb:b=a
   ·have z':=(if_pos hb).symm.trans z
    cases z'
    subst hb
    exact⟨ha,by rw[length_map];exact hl,vs,_,rv,ha⟩
   ·have z':=(if_neg hb).symm.trans z
    cases z'
  ·by_cases hb:b=a
   ·exact hb
   ·exact absurd (if_neg hb) z
theorem G9{l:PySem.W.OpenLaw}{K:Params->Frag}{CX:World->nQ}{sp:World->Sp}
  (hn:l.most=some n) (EH:n <= sizeLine) (Ls:d.params.defaults=[]) (hr:Bc k callerA)
  (hY:∀(w:World)(h:Heap),YP w h->(K w.params).In h)
  (F:∀(w:World)(mg:Str->Option Value)(fa:Addr)(h:Heap),(K w.params).In h->h.Ns mainGlobals mg->mg d.name=some (.ref fa) ->
   ∃fd:FuncData,(∀(s:Shared)(u:Value),BindsTo s fd ⟨[u],[]⟩ [(x,u)]) /\
    ∀base:Heap,(K w.params).In base->base.Ns mainGlobals mg->AQ l.prog w (K w.params) mg base (CX w) k fa fd [x] (sp w))
  (Fc:∀(w:World)(H:Hp)(a:Addr)(ns:List Int),ns.length <= n->AK H->AV (K w.params) H a (ns.map V.int)->sp w [.ref a] H (λv _=>v = .bl true) λ_ _ _=>False)
  (Rz:∀(w:World)(H:Hp)(s:Shared)(e:Value)(s':Shared),CX w [] H s (λ_ _ _=>False) e s'->False) :
  PySem.W.WalkO q loose XP YP l.row.toRowW d [] (λf vs=>PySem.call f vs):=by
 refine Ww.DF hn Ls λw s₀ s₁ mg mb fa o pm cd doc a vs ns G Y ho hd Ea hmg IV hints hlen hg=>?_
 have KX:=hY w _ Y
 obtain⟨fd,hb,hF⟩:=F w mg fa _ KX G.T.g hmg
 exact vn KX G.T.g G.T.b G.T.builtins G.T.nolimit hg IV hints (le_trans hlen EH) hr hF hb (λH hO hS=>Fc w H a ns hlen hO hS) λH e s'=>Rz w H s₁ e s'
noncomputable def aI(s:Stmt)(j:Nat):Stmt:=match s with
 | .ClassDef _ _ _ body _ _ _ _ _ _ _=>body.getD j (.Pass ⟨0,0,0,0⟩)
 | _ => .Pass ⟨0,0,0,0⟩
noncomputable def bS(s:Stmt):Arguments:=match s with
 | .FunctionDef _ a _ _ _ _ _ _ _ _=>a
 | _=>{ posonlyargs:=[],args:=[],vararg:=none,kwonlyargs:=[],kw_defaults:=[],kwarg:=none,defaults:=[] }
noncomputable def aJ(s:Stmt):List Stmt:=match s with
 | .FunctionDef _ _ b _ _ _ _ _ _ _=>b
 | _=>[]
noncomputable def ai(s:Stmt):Scope:=match s with
 | .FunctionDef _ _ _ _ _ _ sc _ _ _=>sc
 | _=>zQ0
abbrev aD:nQ:=λ_ _ _ _ _ _=>False
abbrev E0:XK:=λ_ _ _=>False
theorem am :fI aD X E0:=λ_ _ _ _ _ _ _ h=>h.elim
structure Bo(K:Frag)(x qual:Str)(st:Stmt)(f:Addr)(fd:FuncData):Prop where
 ex:∃(oc:Value)(od:Option Addr)(kV doc pm:Value)(an:Option Addr)(cdv ct:Value)(Ed:Array (Option Value)),
  fd=fnOf x qual (bS st) (aJ st) (ai st) .none kV doc pm an cdv ct/\K.lookup f=some ⟨oc,od, .func fd,Ed⟩/\codeIn K cdv qual=true
 kp:keepIn K (.ref f)=true
section
variable {P:Program}{w:World}{K:Frag}{mg:Str->Option Value}{base:Heap}
theorem Bo.ok{st:Stmt}(F:Bo K x qual st f fd)(S:ao N ps (ai st))(len:∀vs H Q E,sp vs H Q E->vs.length=ps.length)
  (CF:∀(cdv:Value)(A:Around)(outer:List Env)(s:Shared)(H:Hp)(vs:List V)(Q:VK)(E:XK),Bc k (A.deeper (envOfC qual (ai st) s.heap.objs.size f cdv))->sp vs H Q E ->
   ∃t,DX (lJ aD P w K mg base N qual (ai st) f cdv A outer s H E).FU (aJ st) t/\t { nx:=λ_ H'=>Q .Bj H',rt:=Q } (start N vs) H):AQ P w K mg base aD (k + 1) f fd ps sp:=by
 obtain⟨oc,od,kV,doc,pm,an,cdv,ct,Ed,rfl,lk,Ea⟩:=F.ex
 refine v7 lk Ea S len λA outer s H vs Q E hr Fc=>?_
 obtain⟨t,h,q⟩:=CF cdv A outer s H vs Q E hr Fc
 exact⟨t,h.FU,q⟩
theorem Bo.binds{st:Stmt}(F:Bo K x qual st f fd)
  (h:∀(kV doc pm:Value)(an:Option Addr)(cdv ct:Value)(us:List Value),us.length=ps.length->bindArgs (fnOf x qual (bS st) (aJ st) (ai st) .none kV doc pm an cdv ct) ⟨us,[]⟩ = pure (ps.zip us)):Binds K fd ps []:=by
 obtain⟨oc,od,kV,doc,pm,an,cdv,ct,Ed,rfl,lk,Ea⟩:=F.ex
 exact .all (h kV doc pm an cdv ct)
theorem jB{st:Stmt}{kV doc pm cdv ct:Value}(l:K.lookup f=some ⟨oc,od, .func (fnOf x qual (bS st) (aJ st) (ai st) .none kV doc pm an cdv ct),Ed⟩)
  (c:codeIn K cdv qual=true) (k:keepIn K (.ref f)=true):Bo K x qual st f (fnOf x qual (bS st) (aJ st) (ai st) .none kV doc pm an cdv ct):=⟨⟨oc,od,kV,doc,pm,an,cdv,ct,Ed,rfl,l,c⟩,k⟩
end
theorem kC(hr:Bc k A):A.units + 1 < cLine:=lt_of_le_of_lt (Nat.add_le_add_left (by decide:1 <= 64) _) hr.units
section
variable {X:Cx}
theorem pv(i:Nat)(hN:autoParam (X.N[i]? = some x) η)(hv:OT X.env.scope x:=by first | exact Or.inl rfl | exact Or.inr (Or.inl rfl) | exact Or.inr (Or.inr rfl))(hd:autoParam ((x == ("__debug__":Str))=false) θ)
  (Ea:autoParam ((x == ("__classdict__":Str))=false) θ):PE X (.Name x pos) (jO i):=zx hN hv hd Ea
end
theorem aG{A B:Prop}(h:B):if false=true then A else B:=by
 rw[if_neg Bool.false_ne_true]
 exact h
theorem aH{A B:Prop}(h:A):if true=true then A else B:=by
 rw[if_pos rfl]
 exact h
theorem py{c A B:Prop}[Decidable c](h1:c->A)(h2:¬c->B):if c then A else B:=by
 by_cases h:c
 ·rw[if_pos h]
  exact h1 h
 ·rw[if_neg h]
  exact h2 h
theorem Lv{c A B:Prop}[Decidable c](hc:c)(h:B):if (!decide c)=true then A else B:=by
 rw[decide_eq_true hc]
 exact aG h
def AO(H H':Hp):Prop:=∀b o,H b=some o->H' b=some o
theorem AO.refl(H:Hp):AO H H:=λ_ _ h=>h
theorem AO.trans(a:AO H H1)(b:AO H1 H2):AO H H2:=λc o h=>b c o (a c o h)
theorem AO.free(e:AO H H')(h:H' l=Option.none):H l=Option.none:=by
 cases q:H l with
 | none=>rfl
 | some o =>
  rw[e l o q]at h
  cases h
theorem AO.seq{K:Frag}(e:AO H H')(h:AV K H a xs):AV K H' a xs:=by
 rcases h with (h | ⟨o,h⟩) | h
 ·exact .inl (.inl (e _ _ h))
 ·exact .inl (.inr ⟨o,e _ _ h⟩)
 ·exact .inr h
end L2
namespace Yd
open PySem
theorem pC(a b:Nat):Builtin.bitAnd (a:Int) (b:Int)=((a &&& b:Nat):Int):=by
 unfold Builtin.bitAnd
 simp
theorem dG(x:Int):Builtin.bitNot x = -x - 1:=by
 unfold Builtin.bitNot
 omega
theorem EJ(a b:Nat):Builtin.bitOr (a:Int) (b:Int)=((a ||| b:Nat):Int):=by
 unfold Builtin.bitOr
 have h1:Builtin.bitNot (a:Int) = -(a:Int) - 1:=dG _
 have h2:Builtin.bitNot (b:Int) = -(b:Int) - 1:=dG _
 unfold Builtin.bitAnd
 rw[h1,h2]
 have e1:decide (0 <= -(a:Int) - 1)=false:=decide_eq_false (by omega)
 have e2:decide (0 <= -(b:Int) - 1)=false:=decide_eq_false (by omega)
 rw[e1,e2]
 simp only[]
 have e3:Builtin.bitNot (-(a:Int) - 1)=a:=by rw[dG];omega
 have e4:Builtin.bitNot (-(b:Int) - 1)=b:=by rw[dG];omega
 rw[e3,e4]
 simp only[toNat_natCast]
 rw[dG,dG]
 omega
noncomputable def Bv:List Nat->Nat->Nat
 | [],s=>s
 | n :: r,s=>Bv r (s ||| 2 ^ n)
theorem BP(k:Nat):∀(l:List Nat)(s:Nat),(Bv l s).testBit k=(s.testBit k || decide (k ∈ l))
 | [],s=>by simp[Bv]
 | n :: r,s=>by
  unfold Bv
  rw[BP k r]
  rw[Nat.testBit_or,Nat.testBit_two_pow]
  by_cases h:n=k
  ·subst h;simp
  ·have:¬k=n:=λz=>h z.symm
   simp[h,this]
theorem Fz(l r:List Nat)(s:Nat):Bv (l ++ r) s=Bv r (Bv l s):=by
 induction l generalizing s with
 | nil=>rfl
 | cons n t ih=>exact ih _
noncomputable def jT(l:List Nat):Nat->Nat
 | 0=>0
 | n + 1=>if n ∈ l then jT l n + 2 ^ n else jT l n
theorem Dh(l:List Nat):∀n,jT l n < 2 ^ n
 | 0=>by simp[jT]
 | n + 1=>by
  have:=Dh l n
  unfold jT
  rw[Nat.pow_succ]
  split<;>omega
theorem nj(l:List Nat)(k:Nat):∀n,(jT l n).testBit k=decide (k < n/\k ∈ l)
 | 0=>by simp[jT]
 | n + 1=>by
  have ih:=nj l k n
  have B5:=Dh l n
  unfold jT
  by_cases hn:n ∈ l
  ·rw[if_pos hn,Nat.add_comm]
   rcases Nat.lt_trichotomy k n with h | h | h
   ·rw[Nat.testBit_two_pow_add_gt h,ih]
    simp[h,Nat.lt_succ_of_lt h]
   ·subst h
    rw[Nat.testBit_two_pow_add_eq,testBit_lt_two_pow B5]
    simp[hn]
   ·have hb:2 ^ n + jT l n < 2 ^ k:=by
     have:2 ^ (n + 1) <= 2 ^ k:=pow_le_pow_right (by decide) h
     rw[Nat.pow_succ]at this
     omega
    rw[testBit_lt_two_pow hb]
    have:¬k < n + 1:=by omega
    simp[this]
  ·rw[if_neg hn,ih]
   by_cases h:k=n
   ·subst h;simp[hn]
   ·have:k < n↔k < n + 1:=by omega
    simp[this]
theorem GC(h:∀k ∈ l,k < n):jT l n=Bv l 0:=by
 apply Nat.eq_of_testBit_eq
 intro k
 rw[nj,BP]
 by_cases hk:k ∈ l
 ·simp[hk,h k hk]
 ·simp[hk]
noncomputable def Eg(m b:Nat):List Nat:=(List.range b).filter λk=>m.testBit k
theorem DG(h:m < 2 ^ b):k ∈ Eg m b↔m.testBit k=true:=by
 unfold Eg
 rw[mem_filter,mem_range]
 constructor
 ·exact λz=>z.2
 ·intro z
  refine⟨?_,z⟩
  by_cases hk:k < b
  ·exact hk
  ·have:m < 2 ^ k:=lt_of_lt_of_le h (pow_le_pow_right (by decide) (by omega))
   rw[testBit_lt_two_pow this]at z
   cases z
theorem EK(m b:Nat):(Eg m b).Pairwise (· < ·):=List.Pairwise.filter _ pairwise_lt_range
theorem DH:∀{l r:List Int},l.Pairwise (· < ·)->r.Pairwise (· < ·)->(∀k,k ∈ l↔k ∈ r)->l=r
 | [],[],_,_,_=>rfl
 | [],y :: r,_,_,h=>by
  have:=(h y).mpr mem_cons_self
  cases this
 | x :: l,[],_,_,h=>by
  have:=(h x).mp mem_cons_self
  cases this
 | x :: l,y :: r,hl,hr,h=>by
  obtain⟨hx,EL⟩:=pairwise_cons.mp hl
  obtain⟨hy,HK⟩:=pairwise_cons.mp hr
  have e:x=y:=by
   rcases mem_cons.mp ((h x).mp mem_cons_self) with z | z
   ·exact z
   ·rcases mem_cons.mp ((h y).mpr mem_cons_self) with z' | z'
    ·exact z'.symm
    ·have:=hx y z'
     have:=hy x z
     omega
  subst e
  congr 1
  refine DH EL HK λk=>?_
  constructor
  ·intro z
   rcases mem_cons.mp ((h k).mp (mem_cons_of_mem _ z)) with q | q
   ·have:=hx k z;omega
   ·exact q
  ·intro z
   rcases mem_cons.mp ((h k).mpr (mem_cons_of_mem _ z)) with q | q
   ·have:=hy k z;omega
   ·exact q
theorem Ey(m:Nat):m < 2 ^ (Builtin.Int.intBits (m:Int)):=by
 unfold Builtin.Int.intBits
 by_cases h:m=0
 ·subst h;simp
 ·have e:((m:Int) == 0)=false:=by simp[h]
  rw[e]
  simp only[Bool.false_eq_true,if_false,Int.natAbs_natCast]
  exact Nat.lt_log2_self
theorem bits_le{m b:Nat}(h:m < 2 ^ b):Builtin.Int.intBits (m:Int) <= b:=by
 unfold Builtin.Int.intBits
 by_cases h0:m=0
 ·subst h0;simp
 ·have e:((m:Int) == 0)=false:=by simp[h0]
  rw[e]
  simp only[Bool.false_eq_true,if_false,Int.natAbs_natCast]
  have:=(Nat.log2_lt h0).mpr h
  omega
theorem Ez(m k:Nat):decide (Builtin.bitAnd ((m:Int) / 2 ^ k) 1=1)=m.testBit k:=by
 have e:((m:Int) / 2 ^ k)=((m / 2 ^ k:Nat):Int):=by
  rw[Int.natCast_ediv,Int.natCast_pow]
  rfl
 rw[e,show (1:Int)=((1:Nat):Int) from rfl,pC,Nat.testBit_eq_decide_div_mod_eq]
 rw[Nat.and_one_is_mod]
 congr 1
 exact propext ⟨λz=>by exact_mod_cast z,λz=>by exact_mod_cast z⟩
end Yd
namespace L2
open PySem PySem.Spec PyProof.Rows
noncomputable def c6(cells:List (Str × Addr)):List (Str × NameKind)->List (Str × Addr)->List (Str × Addr)
 | [],acc=>acc
 | (n,k) :: r,acc=>if k == .free then c6 cells r ((n,(cells.lookup n).getD 0) :: acc) else c6 cells r acc
theorem fX(h:∀y ∈ scope.names,y.2 = .free->∃c,env.cells.lookup y.1=some c) :
  closureFor scope env=pure (c6 env.cells scope.names []):=by
 unfold closureFor
 have key:∀(names:List (Str × NameKind))(acc:List (Str × Addr)),(∀y ∈ names,y.2 = .free->∃c,env.cells.lookup y.1=some c) ->
   (forIn names acc λ(x:Str × NameKind)(cs:List (Str × Addr))=>(match x with
    | (name,kind)=>if (kind == NameKind.free)=true then do
      let c ← cellOf env name
      pure (ForInStep.yield ((name,c) :: cs))
     else pure (ForInStep.yield cs):Sem (ForInStep (List (Str × Addr)))))=(pure (c6 env.cells names acc):Sem (List (Str × Addr))):=by
  intro names
  induction names with
  | nil=>intro acc _;rfl
  | cons y r ih =>
   intro acc hy
   obtain⟨n,k⟩:=y
   rw[List.forIn_cons]
   by_cases hk:(k == NameKind.free)=true
   ·obtain⟨c,hc⟩:=hy (n,k) mem_cons_self (by simpa using hk)
    have e1:cellOf env n=pure c:=by
     unfold cellOf
     simp only[]at hc
     rw[hc]
    simp only[hk,if_true,e1,pure_bind]
    rw[ih _ λz hz=>hy z (mem_cons_of_mem _ hz)]
    unfold c6
    simp only[]at hc
    rw[if_pos hk,hc]
    conv=>rhs;unfold c6
    rfl
   ·simp only[hk,Bool.false_eq_true,if_false,pure_bind]
    rw[ih _ λz hz=>hy z (mem_cons_of_mem _ hz)]
    conv=>rhs;unfold c6
    rw[if_neg hk]
 exact(congrArg (λ(m:Sem (List (Str × Addr)))=>m >>= λz=>pure z) (key scope.names [] h)).trans (pure_bind _ _)
theorem dS :∀(names:List (Str × NameKind))(acc:List (Str × Addr)),(∀y ∈ names,y.2 = .free->∃c,cells.lookup y.1=some c) ->
  (∀c,acc.lookup x=some c->cells.lookup x=some c)->(c6 cells names acc).lookup x=some c->cells.lookup x=some c
 | [],acc,_,ha,e=>ha c e
 | (n,k) :: r,acc,hn,ha,e=>by
  unfold c6 at e
  have hr:=λz hz=>hn z (mem_cons_of_mem _ hz)
  split at e
  ·rename_i hk
   refine dS r _ hr (λc' e'=>?_) e
   rw[lookup_cons]at e'
   split at e'
   ·rename_i hx
    have Ff:x=n:=by simpa using hx
    subst Ff
    obtain⟨c0,Eh⟩:=hn (x,k) mem_cons_self (by simpa using hk)
    simp only[]at Eh
    rw[Eh]at e' ⊢
    exact e'
   ·exact ha c' e'
  ·exact dS r acc hr ha e
theorem eN :∀(names:List (Str × NameKind))(acc:List (Str × Addr)),((x,NameKind.free) ∈ names∨∃c,acc.lookup x=some c) ->
  ∃c,(c6 cells names acc).lookup x=some c
 | [],acc,h=>by
  rcases h with h | h
  ·cases h
  ·exact h
 | (n,k) :: r,acc,h=>by
  unfold c6
  split
  ·rename_i hk
   refine eN r _ ?_
   rcases h with h | ⟨c,h⟩
   ·rcases mem_cons.mp h with h | h
    ·refine .inr ⟨(cells.lookup n).getD 0,?_⟩
     injection h with h1 h2
     rw[lookup_cons,h1]
     simp
    ·exact .inl h
   ·refine .inr ?_
    rw[lookup_cons]
    split
    ·exact⟨_,rfl⟩
    ·exact⟨c,h⟩
  ·rename_i hk
   refine eN r _ ?_
   rcases h with h | h
   ·rcases mem_cons.mp h with h | h
    ·injection h with h1 h2
     subst h2
     exact absurd rfl hk
    ·exact .inl h
   ·exact .inr h
theorem gK{env:Env}{x:Str}:∀{names:List (Str × NameKind)},names.lookup x=some .free ->
  (names.map λ(n,k)=>if (k == NameKind.free && env.scope.kind == .function && env.kindOf n == some .cell) then (n,NameKind.cell) else (n,k)).lookup x=some .cell ∨
  (names.map λ(n,k)=>if (k == NameKind.free && env.scope.kind == .function && env.kindOf n == some .cell) then (n,NameKind.cell) else (n,k)).lookup x=some .free
 | [],h=>by simp at h
 | (n,k) :: r,h=>by
  have ih:=@gK env x r
  rw[map_cons]
  cases hx:x == n with
  | true =>
   rw[lookup_cons,hx]at h
   cases h
   simp only[]
   split
   ·left;rw[lookup_cons,hx]
   ·right;rw[lookup_cons,hx]
  | false =>
   rw[lookup_cons,hx]at h
   simp only[]
   split
   ·rw[lookup_cons,hx];exact ih h
   ·rw[lookup_cons,hx];exact ih h
theorem eW{env:Env}{x:Str}{k:NameKind}(hk:k = .cell∨k = .free):∀{names:List (Str × NameKind)},(∀y ∈ names,y.2 ≠ .cell) ->
  (names.map λ(n,k)=>if (k == NameKind.free && env.scope.kind == .function && env.kindOf n == some .cell) then (n,NameKind.cell) else (n,k)).lookup x=some k->(x,NameKind.free) ∈ names
 | [],_,h=>by simp at h
 | (n,k') :: r,hc,h=>by
  have ih:=@eW env x k hk r λy hy=>hc y (mem_cons_of_mem _ hy)
  rw[map_cons]at h
  simp only[]at h
  cases hx:x == n with
  | true =>
   have e:x=n:=by simpa using hx
   subst e
   split at h
   ·rename_i q
    have q':k' = .free:=by
     have:=(Bool.and_eq_true _ _ ▸ q:_/\_).1
     have:=(Bool.and_eq_true _ _ ▸ this:_/\_).1
     simpa using this
    rw[q']
    exact mem_cons_self
   ·rw[lookup_cons,hx]at h
    have e2:k' = k:=Option.some.inj h
    rcases hk with z | z
    ·exact absurd (e2.trans z) (hc (x,k') mem_cons_self)
    ·rw[e2,z];exact mem_cons_self
  | false =>
   split at h
   ·rw[lookup_cons,hx]at h;exact mem_cons_of_mem _ (ih h)
   ·rw[lookup_cons,hx]at h;exact mem_cons_of_mem _ (ih h)
section
variable {prog:Program}{w:World}{A:Around}{R:Result->Shared->Prop}{s:Shared}
abbrev kT(ifs:List Expr)(env:Env):Sem Bool :=
 forIn ifs true λc r=>if r=true then do let ok ← isTrue c env (eval c env);pure (ForInStep.yield ok) else pure (ForInStep.yield r)
theorem n9(I:Nat->Shared->Prop)
  (turn:∀n s,I n s->wpAny (model prog w) A (pyNext it) (λr s1=>match r with
   | none=>R (.ok .next) s1
   | some v=>wpAny (model prog w) A (letOwnedTupleGo tg it v) (λ_ s2=>wpAny (model prog w) A (assign tg env v) (λ_ s3 =>
     wpAny (model prog w) A (kT ifs env) (λok s4 =>
      if ok=true then wpAny (model prog w) A (eval elt env) (λx s5 =>
       wpAny (model prog w) A (call (.builtin "list.append") [acc,x]) (λ_ s6=>∃m,m < n/\I m s6) (λ_ _=>False) s5) (λ_ _=>False) s4
      else ∃m,m < n/\I m s4) (λ_ _=>False) s3) (λ_ _=>False) s2) (λ_ _=>False) s1) (λ_ _=>False) s)
  (n:Nat) (h:I n s):codeAny (model prog w) A (.compLoop (.ListComp elt [⟨tg,iter,ifs,0⟩] scope pos) 0 it acc env) R s:=by
 refine codeAny_loop rfl I (λn s hI=>?_) n h
 have no:∀{E':Value->Shared->Prop}(e:Value)(s':Shared),False->E' e s':=λ_ _ z=>z.elim
 show wpAny _ A (Sem.onRaise (compTurn (.ListComp elt [⟨tg,iter,ifs,0⟩] scope pos) 0 it acc env) λx=>do
  noteFrame x env
  theTreesLotGoes x) _ _ s
 refine wpAny_noted ?_
 rw[compTurn_list]
 refine wpAny_bind (wpAny_standAt (wpAny_bind (wpAny_mono (turn n s hI) (λr s1 h1=>?_) no)))
 cases r with
 | none=>exact wpAny_pure h1
 | some v =>
  refine wpAny_bind (wpAny_mono h1 (λ_ s2 h2=>?_) no)
  refine wpAny_bind (wpAny_mono h2 (λ_ s3 h3=>?_) no)
  refine wpAny_bind (wpAny_mono h3 (λok s4 h4=>?_) no)
  cases ok with
  | false=>exact wpAny_pure ⟨rfl,h4⟩
  | true =>
   refine wpAny_bind (wpAny_bind (wpAny_mono h4 (λx s5 h5=>?_) no))
   exact wpAny_bind (wpAny_mono h5 (λ_ s6 h6=>wpAny_pure (wpAny_pure ⟨rfl,h6⟩)) no)
end
def Lw(X:Cx)(ifs:List Expr)(t:TT):Prop :=
 ∀(pins:List (Addr × Obj))(s:Shared)(σ:St)(H:Hp)(Q:Bool->Hp->Prop),Inv X pins σ H s->t σ H Q->wpAny (model X.prog X.w) X.A (kT ifs X.env) (TP X pins σ Q) X.xe s
def oa:TT:=λ_ H Q=>Q true H
theorem c9 :Lw X [] oa:=λ_ _ _ H _ I h=>wpAny_pure ⟨H,I,h⟩
theorem bQ(h:PT X c t):Lw X [c] t:=λpins s σ H Q I hw=>by
 simp only[kT,List.forIn_cons,List.forIn_nil,if_true]
 exact wpAny_bind (wpAny_bind (aZ (h pins s σ H Q I hw) λb s' hb=>wpAny_pure (wpAny_pure hb)))
structure BG(N:List Str)(sc scope:Scope)(capN:List Str)(cap:List Nat):Prop where
 kind:scope.kind = .function
 Ei:∀y ∈ scope.names,y.2 ≠ .cell
 loc:∀y ∈ scope.names,y.2 = .local->scope.names.lookup y.1=some .local
 free:∀y ∈ scope.names,y.2 = .free->sc.names.lookup y.1=some .cell∨sc.names.lookup y.1=some .free
 len:cap.length=capN.length
 cap:∀p ∈ capN.zip cap,scope.names.lookup p.1=some .free/\N[p.2]? = some p.1
abbrev cx(X:Cx)(scope:Scope)(N:List Str)(C:Addr)(s:Shared)(H:Hp)(fp:List Addr):Cx :=
 { X with N:=N,s₀:=s,H₀:=H,env:=compEnvC scope (c6 X.env.cells scope.names []) C X.env,outer:=X.stack,stack:=X.stack,ex:=fp,fn:=λ_=>false,pn:=[],xe:=λ_ _=>False }
noncomputable def iy(n:Nat)(cap:List Nat)(σ:St):St:=List.replicate n none ++ cap.map λj=>(σ[j]?).join
theorem nG(n:Nat)(cap:List Nat)(σ:St):(iy n cap σ).length=n + cap.length:=by simp[iy]
section
variable {X:Cx}{pins:List (Addr × Obj)}{σ:St}{H:Hp}{s:Shared}{scope:Scope}{own capN:List Str}{cap:List Nat}{fp:List Addr}
theorem BG.IW(B:BG X.N X.env.scope scope capN cap)(ok:X.Ok):∀y ∈ scope.names,y.2 = .free->∃c,X.env.cells.lookup y.1=some c:=λy hy hf=>ok.has y.1 (B.free y hy hf)
theorem BG.cell(B:BG X.N X.env.scope scope capN cap)(ok:X.Ok)(h:(c6 X.env.cells scope.names []).lookup x=some c):X.env.cells.lookup x=some c :=
 dS scope.names [] (B.IW ok) (λ_ e=>by cases e) h
theorem BG.locs(I:Inv X pins σ H s)(B:BG X.N X.env.scope scope capN cap)(k:∀x c v,X.env.cells.lookup x=some c->s.heap.IsCell c v->h'.IsCell c v)(C:Addr)(m0:Str->Option Value) :
  ∀(i:Nat)(x:Str)(v:V),(own ++ capN)[i]? = some x->(iy own.length cap σ)[i]? = some (some v)->∃u,RelV v u/\Look (compEnvC scope (c6 X.env.cells scope.names []) C X.env) h' m0 x u:=by
 intro i x v e1 e2
 have hi:own.length <= i:=by
  by_cases q:own.length <= i
  ·exact q
  ·unfold iy at e2
   rw[getElem?_append_left (by simp;omega),List.getElem?_replicate,if_pos (by omega)]at e2
   cases e2
 have e1':capN[i - own.length]? = some x:=by
  rwa [getElem?_append_right hi]at e1
 unfold iy at e2
 rw[getElem?_append_right (by simpa using hi),length_replicate,getElem?_map]at e2
 cases ej:cap[i - own.length]? with
 | none=>rw[ej]at e2;cases e2
 | some j =>
  rw[ej]at e2
  have Pk:(σ[j]?).join=some v:=Option.some.inj e2
  have e3':σ[j]? = some (some v):=by
   cases q:σ[j]? with
   | none=>rw[q]at Pk;cases Pk
   | some u=>rw[q]at Pk;exact congrArg some Pk
  have hz:(x,j) ∈ capN.zip cap:=by
   refine List.mem_iff_getElem?.mpr ⟨i - own.length,?_⟩
   rw[List.getElem?_zip_eq_some]
   exact⟨e1',ej⟩
  obtain⟨c1,c2⟩:=B.cap (x,j) hz
  have Wx:(x,NameKind.free) ∈ scope.names:=PySem.mem_of_lookup c1
  have hX:=B.free _ Wx rfl
  obtain⟨m,hm,hl⟩:=I.loc
  obtain⟨u,ru,lk⟩:=hl j x v c2 e3' (hX.elim (λz => .inr (.inl z)) λz => .inr (.inr z))
  refine⟨u,ru, .inr ⟨gK c1,?_⟩⟩
  rcases lk with ⟨q,_⟩ | ⟨_,c,ec,ic⟩
  ·have q':X.env.scope.names.lookup x=some .local:=q
   rcases hX with z | z
   ·rw[z]at q';cases q'
   ·rw[z]at q';cases q'
  ·obtain⟨c',Wz⟩:=eN (cells:=X.env.cells) (x:=x) scope.names [] (.inl Wx)
   have:=B.cell I.ok Wz
   rw[ec]at this
   cases this
   exact⟨c,Wz,k x c _ ec ic⟩
theorem Inv.blk{C:Addr}(I:Inv X pins σ H s)(B:BG X.N X.env.scope scope capN cap)(hC:s.heap.objs.size <= C)(k:∀b o,s.heap.get? b=some o->h4.get? b=some o)
  (hn:h4.Ns C m0) (hf:∀b ∈ fp,fS X pins H b) (B5:∀b ∈ fp,b < s.heap.objs.size) :
  Inv (cx X scope (own ++ capN) C s H fp) [] (iy own.length cap σ) H { s with heap:=h4,toks:=tk }:=by
 have R3:∀b ∈ fp,b ∉ kE X.stack:=λb hb z=>by
  obtain⟨_,f1,f2,_⟩:=hf b hb
  rcases mem_cons.mp (I.Cq b z) with e | e
  ·exact f1 e
  ·exact f2 e
 have hinv:∀x,((relabel scope X.env).names.lookup x=some .cell∨(relabel scope X.env).names.lookup x=some .free)->(x,NameKind.free) ∈ scope.names:=λx hx=>by
  rcases hx with q | q
  ·exact eW (.inl rfl) B.Ei q
  ·exact eW (.inr rfl) B.Ei q
 refine⟨⟨I.ok.mod,B.kind,I.ok.glob,I.ok.blt,hC,λx y c h1 h2=>I.ok.inj x y c (B.cell I.ok h1) (B.cell I.ok h2),λx hx=>eN scope.names [] (.inl (hinv x hx)),λ_ _ z=>absurd z Bool.false_ne_true,I.ok.hd,I.ok.frames, .inl rfl,
  λb hb=>⟨ne_of_lt (lt_of_lt_of_le (B5 b hb) hC),λx c e=>(hf b hb).2.2.2.2.1 x c (B.cell I.ok e)⟩,I.bs,le_trans I.ok.FQ I.sz,λb o e hb=>?_,λb hb=>R3 b hb,I.stack,I.Dg⟩,
  rfl,I.bare,Un.kept k,⟨m0,hn,λi x v e1 e2 _=>B.locs I (λ_ _ _ _ q=>q.keeps k) C m0 i x v e1 e2⟩,λx c e=>?_,I.Bb.fresh hC,λx c e=>I.Bz x c (B.cell I.ok e),λp hp=>absurd (show p ∈ ([]:List (Addr × Obj)) from hp) (by simp),I.Bb.kept k,?_⟩
 ·rcases (hf b hb).2.2.2.1 with z | z
  ·exact I.ok.EE b o e z
  ·exact absurd (lt_of_lt_of_le (lt_size e) (le_trans I.ok.FQ z)) (lt_irrefl _)
 ·obtain⟨v,q⟩:=I.cell x c (B.cell I.ok e)
  exact⟨v,q.keeps k⟩
 ·show(iy own.length cap σ).length=(own ++ capN).length
  rw[nG,length_append,B.len]
theorem Inv.reset{σ':St}(I:Inv X pins σ H s)(B:BG X.N X.env.scope scope capN cap)(hf:∀b ∈ fp,fS X pins H b)(J:Inv (cx X scope (own ++ capN) C s H fp) D9 σ' H' s') :
  Inv (cx X scope (own ++ capN) C s H fp) D9 (iy own.length cap σ) H' s':=by
 obtain⟨m,hn,_⟩:=J.loc
 refine⟨J.ok,J.os,J.bare,J.base,⟨m,hn,λi x v e1 e2 _=>?_⟩,J.cell,J.free,J.Bz,J.pin,J.Bb,?_⟩
 ·refine B.locs I (λy c v' ec ic=>?_) C m i x v e1 e2
  obtain⟨o,ho,hd⟩:=ic
  have hx:c ∉ fp:=λz=>(hf c z).2.2.2.2.1 y c ec rfl
  obtain⟨sl,e⟩:=J.base.any ho (I.Bz y c ec) hx
  exact⟨_,e,hd⟩
 ·show(iy own.length cap σ).length=(own ++ capN).length
  rw[nG,length_append,B.len]
theorem Inv.adopt(I:Inv X pins σ H s)(hn:H D=none)(h0:X.s₀.heap.objs.size <= D)(hL:D ≠ X.env.locals)(hc:∀x c,X.env.cells.lookup x=some c->c ≠ D)(hp:∀p ∈ X.pn ++ pins,p.1 ≠ D)
  (new:Bn X.prog X.w (upd H D o) s.heap D o):Inv X pins σ (upd H D o) s:=by
 have ne:∀b u,H b=some u->b ≠ D:=λb u e=>aj e hn
 refine⟨I.ok,I.os,I.bare,⟨I.base.keep,I.base.slot,λb ob e n hx=>?_,I.base.there,λb xs e=>?_,λb ob u e=>?_,λb ps e=>?_⟩,I.loc,I.cell,?_,λx c e=>?_,λp Pl=>?_,λb u e=>?_,I.len⟩
 ·rw[ah (ne_of_lt (lt_of_lt_of_le (lt_size e) h0))]
  exact I.base.free b ob e n hx
 ·have q:=I.base.CC b xs e
  rw[ah (ne b _ q)];exact q
 ·have q:=I.base.C2 b ob u e
  rw[ah (ne b _ q)];exact q
 ·obtain⟨more,q⟩:=I.base.CD b ps e
  exact⟨more,by rw[ah (ne b _ q)];exact q⟩
 ·rw[ah (Ne.symm hL)];exact I.free
 ·rw[ah (hc x c e)];exact I.Bz x c e
 ·obtain⟨e,n,r⟩:=I.pin p Pl
  exact⟨e,by rw[ah (hp p Pl)];exact n,r⟩
 ·by_cases hb:b=D
  ·subst hb;rw[ad]at e;cases e;exact new
  ·rw[ah hb]at e
   exact(I.Bb b u e).C1 (λ_ _ _ q=>q) (λc q=>by rw[ah (ne c _ q)];exact q) λc xs q=>by rw[ah (ne c _ q)];exact q
end
def dC(J:It)(g:TG)(tt:TT)(te:TE)(σ0:St)(Q:VK)(H1:Hp):Prop:=∃W:Nat->Nat->List V->Hp->Prop,(∃m,W 0 m [] H1)/\∀i m acc H,W i m acc H ->
 acc.length < sizeLine/\((J.stop i H/\∀D,H D=none->Q (.ref D) (upd H D (.lst acc)))∨(J.go i H/\∃N:List V->Hp->Prop,(∀Bx H',N Bx H'->∃m',m' < m/\W (i + 1) m' Bx H') /\
  ∀x H',J.FV i H x H'->g x σ0 H' λσ2 H2=>tt σ2 H2 λb H3=>if b=true then te σ2 H3 λy H4=>N (acc ++ [y]) H4 else N acc H3))
def yk(wi:TI)(g:TG)(tt:TT)(te:TE)(n:Nat)(cap:List Nat):TE:=λσ H Q=>wi σ H λJ H1=>dC J g tt te (iy n cap σ) Q H1
section
variable {X:Cx}{tg iter elt:Expr}{ifs:List Expr}{scope:Scope}{pos:Pos}{wi:TI}{g:TG}{tt:TT}{te:TE}{own capN:List Str}{cap:List Nat}
abbrev lA(AW:List Value)(k:Nat):Obj:={ cls := .type "list",data := .seq AW.toArray k }
theorem nu{σ:St}{Q:VK}(B:BG X.N X.env.scope scope capN cap)(hc:X.calm=true)
  (hb:∀(C:Addr)(s:Shared)(H:Hp)(fp:List Addr),PG (cx X scope (own ++ capN) C s H fp) tg g/\Lw (cx X scope (own ++ capN) C s H fp) ifs tt/\PE (cx X scope (own ++ capN) C s H fp) elt te)
  (I:Inv X pins σ H s) (T:nK X.prog X.w X.K tg J fp it tn) (st:tn 0 s.heap) (hf:∀b ∈ fp,fS X pins H b) {W:Nat->Nat->List V->Hp->Prop} (w0:W 0 m0 [] H)
  (turn:∀i m acc H,W i m acc H->acc.length < sizeLine/\((J.stop i H/\∀D,H D=none->Q (.ref D) (upd H D (.lst acc)))∨(J.go i H/\∃N:List V->Hp->Prop,(∀Bx H',N Bx H'->∃m',m' < m/\W (i + 1) m' Bx H') /\
   ∀x H',J.FV i H x H'->g x (iy own.length cap σ) H' λσ2 H2=>tt σ2 H2 λb H3=>if b=true then te σ2 H3 λy H4=>N (acc ++ [y]) H4 else N acc H3)))
  {RR:Value->Addr->Result->Shared->Prop}
  (fin:∀(D C:Addr)(H':Hp)(s':Shared),Q (.ref D) H'->Inv X pins σ H' s'->(∃m,s'.heap.Ns C m)->H' C=none->C ≠ X.env.locals->X.s₀.heap.objs.size <= C->(∀x c,X.env.cells.lookup x=some c->c ≠ C)->(∀p ∈ X.pn ++ pins,p.1 ≠ C) ->
   RR (.ref D) C (.ok .next) s') :
  wpAny (model X.prog X.w) X.A (newList []) (λacc s3=>wpAny (model X.prog X.w) X.A (newFunctionEnv scope X.env.globals (c6 X.env.cells scope.names []) [] X.env.qual none .none (some X.env)) (λLx s4 =>
   codeAny (model X.prog X.w) X.A (.compStart (.ListComp elt [⟨tg,iter,ifs,0⟩] scope pos) 0 (.ref it) acc { Lx with scope:=relabel scope X.env }) (RR acc Lx.locals) s4) X.xe s3) X.xe s:=by
 refine wpAny_newObj_type (wpAny_newFunctionEnv B.Ei (by intro y hy;simp at hy) (λh1 Fe HL=>?_) B.kind)
 dsimp only at Fe HL ⊢
 generalize F0:s.heap.push { cls := .type "list",dict:=none,data := .seq ([]:List Value).toArray } = H2 at Fe HL ⊢
 have hCs:H2.objs.size=s.heap.objs.size + 1:=by rw[←F0,size_push]
 have Ej:s.heap.objs.size <= H2.objs.size:=by omega
 have GD:∀b ∈ fp,b < s.heap.objs.size:=λb hb=>by
  obtain⟨o,e,_⟩:=T.obj 0 s.heap st b hb
  exact lt_size e
 have old:∀b o,s.heap.get? b=some o->h1.get? b=some o:=λb o e =>
  HL.extBut b o (ne_of_lt (lt_of_lt_of_le (lt_size e) Ej)) (Heap.get?_push_of_some _ (F0 ▸ Heap.get?_push_of_some _ e))
 have Pm:s.heap.objs.size ≠ H2.objs.size:=by omega
 have R4:h1.get? s.heap.objs.size=some (lA [] 0):=HL.extBut _ _ Pm (Heap.get?_push_of_some _ (F0 ▸ Heap.get?_push_size _ rfl))
 have I4:Inv (cx X scope (own ++ capN) H2.objs.size s H fp) [] (iy own.length cap σ) H { s with heap:=h1,toks:=s.toks + ([]:List (Str × Value)).length }:=I.blk (own:=own) B Ej old Fe hf GD
 have R3:∀b ∈ fp,b ∉ kE X.stack:=λb hb z=>by
  obtain⟨_,f1,f2,_⟩:=hf b hb
  rcases mem_cons.mp (I.Cq b z) with e | e
  ·exact f1 e
  ·exact f2 e
 have GF:∀b ∈ kE X.stack,b < s.heap.objs.size:=λb hb=>by
  obtain⟨_,o,ho,_⟩:=I.stack.mem hb
  exact lt_size ho
 have Ek:∀x c,X.env.cells.lookup x=some c->c < s.heap.objs.size:=λx c e=>by
  obtain⟨v,q⟩:=I.cell x c e
  exact q.lt
 have HM:∀(H':Hp)(h':Heap)(AW:List Value)(k:Nat),H' s.heap.objs.size=none->h'.get? s.heap.objs.size=some (lA AW k) ->
   ∀p ∈ [(s.heap.objs.size,lA AW k)],h'.get? p.1=some p.2/\H' p.1=none/\p.1 ≠ (cx X scope (own ++ capN) H2.objs.size s H fp).env.locals/\p.1 ∉ (cx X scope (own ++ capN) H2.objs.size s H fp).fs/\∀v,p.2.data ≠ .cell v:=λH' h' AW k hn he p hp=>by
  have e:p=(s.heap.objs.size,lA AW k):=by simpa using hp
  subst e
  exact⟨he,hn,Pm,λz=>absurd (GF _ z) (lt_irrefl _),λv z=>by cases z⟩
 have stat:∀(H':Hp)(AW:List Value)(k:Nat),(∀b ∈ fp,H' b=none)->∀b ∈ fp,fS (cx X scope (own ++ capN) H2.objs.size s H fp) [(s.heap.objs.size,lA AW k)] H' b:=λH' AW k hn b hb =>
  ⟨hn b hb,ne_of_lt (lt_of_lt_of_le (GD b hb) Ej),R3 b hb, .inl hb,λx c e=>(hf b hb).2.2.2.2.1 x c (B.cell I.ok e),λp hp=>by
   have e:p=(s.heap.objs.size,lA AW k):=by simpa using hp
   subst e
   exact ne_of_gt (GD b hb)⟩
 have loop:∀s3:Shared,s3 = { s with heap:=h1,toks:=s.toks + ([]:List (Str × Value)).length } ->
   codeAny (model X.prog X.w) X.A (.compLoop (.ListComp elt [⟨tg,iter,ifs,0⟩] scope pos) 0 (.ref it) (.ref s.heap.objs.size) (compEnvC scope (c6 X.env.cells scope.names []) H2.objs.size X.env))
    (RR (.ref s.heap.objs.size) H2.objs.size) s3:=by
  rintro s3 rfl
  refine n9 (λn s'=>∃i acc AW k H',Inv (cx X scope (own ++ capN) H2.objs.size s H fp) [(s.heap.objs.size,lA AW k)] (iy own.length cap σ) H' s'/\tn i s'.heap/\(∀b ∈ fp,H' b=none)/\Vals acc AW/\W i n acc H') ?_ m0
   ⟨0,[],[],0,H,I4.BU (HM _ _ _ _ (I.Bb.fresh (le_refl _)) R4),T.keep 0 s.heap h1 st λb _ o e=>old b o e,λb hb=>(hf b hb).1, .nil,w0⟩
  rintro n s5 ⟨i,acc,AW,k,H5,I5,JV,Pc,rv,w5⟩
  obtain⟨hsz,Ly⟩:=turn i n acc H5 w5
  obtain⟨hgt,FX,hte⟩:=hb H2.objs.size s H fp
  rcases Ly with ⟨stop,q⟩ | ⟨go,N,hN,step⟩
  ·refine aZ (T.done (cx X scope (own ++ capN) H2.objs.size s H fp) rfl rfl rfl hc i _ s5 _ H5 _ I5 (stat H5 AW k Pc) JV stop) λr s6 AU=>?_
   obtain⟨hr,I6⟩:=AU
   subst hr
   obtain⟨hD,Lz,_⟩:=I6.pin (s.heap.objs.size,lA AW k) (by simp)
   have J1:Inv X pins σ H5 s6:=I.HI (s':=s6) (ch:=fp) I6.os I6.base I6.Bb I6.bare λb hb=>by
    obtain⟨_,f1,_,f3,f4,f5⟩:=hf b hb
    exact⟨f3,f1,f4,f5⟩
   have J2:Inv X pins σ (upd H5 s.heap.objs.size (.lst acc)) s6:=J1.adopt Lz I.sz (ne_of_gt I.lt) (λx c e=>ne_of_lt (Ek x c e)) (λp hp=>ne_of_lt (lt_size (I.pin p hp).1)) ⟨le_of_lt hsz,AW,k,rv,hD⟩
   obtain⟨mC,L4,_⟩:=I6.loc
   refine fin _ _ _ s6 (q _ Lz) J2 ⟨mC,L4⟩ (by rw[ah (Ne.symm Pm)];exact I6.free) (ne_of_gt (lt_of_lt_of_le I.lt Ej)) (le_trans I.sz Ej) (λx c e=>ne_of_lt (lt_of_lt_of_le (Ek x c e) Ej)) λp hp =>
    ne_of_lt (lt_of_lt_of_le (lt_size (I.pin p hp).1) Ej)
  ·refine aZ (T.item (cx X scope (own ++ capN) H2.objs.size s H fp) rfl rfl rfl hc i _ s5 _ H5 _ I5 (stat H5 AW k Pc) JV go) λr s6 AU=>?_
   obtain⟨u,hr,h6⟩:=AU
   subst hr
   refine aZ h6 λ_ s7 AU=>?_
   obtain⟨x,H7,I7,r7,y7,R5,fr7⟩:=AU
   have I7':=I7.pinned (stat H7 AW k fr7) (T.obj _ _ R5)
   refine aZ (hgt _ s7 _ H7 x u _ I7' r7 (step x H7 y7)) λ_ s8 AU=>?_
   obtain⟨σ8,H8,I8,q8⟩:=AU
   refine aZ (FX _ s8 σ8 H8 _ I8 q8) λb s9 AU=>?_
   obtain⟨H9,I9,q9⟩:=AU
   have W0:∀{H':Hp}{s':Shared}{σ':St},Inv (cx X scope (own ++ capN) H2.objs.size s H fp) (eK fp s7.heap) σ' H' s'->tn (i + 1) s'.heap/\∀b ∈ fp,H' b=none:=λ{H' s' σ'} K=>by
    refine⟨T.keep _ _ _ R5 λb hb o e=>(K.pin (b,o) (eM hb e)).1,λb hb=>?_⟩
    obtain⟨o,e,_⟩:=T.obj _ _ R5 b hb
    exact(K.pin (b,o) (eM hb e)).2.1
   cases b with
   | false =>
    rw[if_neg Bool.false_ne_true]
    obtain⟨m',hm,w9⟩:=hN acc H9 (by simpa using q9)
    have K9:Inv (cx X scope (own ++ capN) H2.objs.size s H fp) (eK fp s7.heap) σ8 H9 s9:=I9.BU λp hp=>I9.pin p (mem_append_right _ (mem_append_right _ hp))
    obtain⟨t9,f9⟩:=W0 K9
    exact⟨m',hm,i + 1,acc,AW,k,H9,I.reset B hf I9.Cj,t9,f9,rv,w9⟩
   | true =>
    rw[if_pos rfl]
    have q9':te σ8 H9 λy H4=>N (acc ++ [y]) H4:=by simpa using q9
    refine aZ (hte _ s9 σ8 H9 _ I9 q9') λyv R6 AU=>?_
    obtain⟨y,GG,R7,r10,q10⟩:=AU
    obtain⟨hD,Lz,_⟩:=R7.pin (s.heap.objs.size,lA AW k) (by simp)
    have hlen:=rv.length
    refine wpAny_list_append_plain ⟨k,hD⟩ (λh' Cz IX=>?_) (by rw[size_toArray];omega)
    obtain⟨k',hD'⟩:=Cz
    obtain⟨m',hm,w10⟩:=hN (acc ++ [y]) GG q10
    have K10:Inv (cx X scope (own ++ capN) H2.objs.size s H fp) (eK fp s7.heap) σ8 GG R6:=R7.BU λp hp=>R7.pin p (mem_append_right _ (mem_append_right _ hp))
    have W2:Inv (cx X scope (own ++ capN) H2.objs.size s H fp) (eK fp s7.heap) σ8 GG { R6 with heap:=h' }:=K10.turned (t':=R6.toks) (it:=s.heap.objs.size) (λb o hb e=>(IX.2 b hb).trans e) Lz Pm (.inr (le_refl _))
     (λx c e=>ne_of_lt (Ek x c (B.cell I.ok e))) λp hp=>by
      obtain⟨hb,_⟩:=kq (show p ∈ eK fp s7.heap from hp)
      exact ne_of_lt (GD p.1 hb)
    obtain⟨t11,Po⟩:=W0 W2
    refine⟨m',hm,i + 1,acc ++ [y],AW ++ [yv],k',GG,?_,t11,Po,rv.append (.cons r10 .nil),w10⟩
    refine I.reset B hf (W2.BU (HM _ _ _ _ Lz ?_))
    show h'.get? s.heap.objs.size=some { cls := .type "list",data := .seq (AW ++ [yv]).toArray k' }
    rw[show(AW ++ [yv]).toArray=AW.toArray.push yv by simp]
    exact hD'
 exact codeAny_compStart_list (loop _ rfl) (T.self X.A 0 _ _ _ (T.keep 0 s.heap h1 st λb _ o e=>old b o e) (loop _ rfl))
theorem bd(B:BG X.N X.env.scope scope capN cap)(hc:X.calm=true)(hi:PI X tg iter wi)
  (hb:∀(C:Addr)(s:Shared)(H:Hp)(fp:List Addr),PG (cx X scope (own ++ capN) C s H fp) tg g/\Lw (cx X scope (own ++ capN) C s H fp) ifs tt/\PE (cx X scope (own ++ capN) C s H fp) elt te)
  (hs:autoParam (∀x,foldedSetIterable iter X.env x=pure x) ψ):PE X (.ListComp elt [⟨tg,iter,ifs,0⟩] scope pos) (yk wi g tt te own.length cap):=by
 intro pins s σ H Q I h
 rw[eval_ListComp]
 refine wpAny_comprehension_free (use:=none) rfl hs (fX (B.IW I.ok)) B.kind B.loc (aZ (hi pins s σ H _ I h) λv s1 h1=>aZ h1 λPa s2 h2=>?_)
 obtain⟨it,fp,tn,J,H2,e,I2,T,KU,f2,W,⟨m0,w0⟩,turn⟩:=h2
 subst e
 refine nu (own:=own) B hc hb I2 T KU f2 w0 turn (RR:=λacc C=>compPost (model X.prog X.w) X.A X.xe none (EP X pins σ Q) acc C) λD C H' s' q J2 ⟨mC,L4⟩ fC n1 n2 n3 n4=>?_
 refine⟨mC,L4,λh' HL=>⟨.ref D,H',?_,rfl,q⟩⟩
 exact J2.turned (t':=s'.toks) (it:=C) (λb o hb e=>(HL.2 b hb).trans e) fC n1 (.inr n2) n3 n4
theorem dI(B:BG X.N X.env.scope scope capN cap)(hc:X.calm=true)(hN:X.N.Nodup)(hx:X.N[i]? = some x)(hl:X.env.scope.names.lookup x=some .local)(hi:PI X tg iter wi)
  (hb:∀(C:Addr)(s:Shared)(H:Hp)(fp:List Addr),PG (cx X scope (own ++ capN) C s H fp) tg g/\Lw (cx X scope (own ++ capN) C s H fp) ifs tt/\PE (cx X scope (own ++ capN) C s H fp) elt te)
  (hsw:autoParam (swapsWith (.ListComp elt [⟨tg,iter,ifs,0⟩] scope pos) (some (.Name x px)) L5.line X.env=pure true) η)
  (hs:autoParam (∀x,foldedSetIterable iter X.env x=pure x) ψ):PS X (.Assign [.Name x px] (.ListComp elt [⟨tg,iter,ifs,0⟩] scope pos) L5) (wo (yk wi g tt te own.length cap) (dB i)):=by
 intro pins s σ H D0 I h
 rw[exec_Assign_Name_used _ _ _ _ hsw]
 refine wpAny_bind (wpAny_standAt (wpAny_bind ?_))
 show wpAny _ X.A (do
  let _ ← comprehension (.ListComp elt [⟨tg,iter,ifs,0⟩] scope pos) scope X.env _ (newList []) false (eval iter X.env) (some (assign (.Name x px) X.env))) _ _ s
 refine wpAny_bind (wpAny_mono (wpAny_comprehension_free (use:=some (assign (.Name x px) X.env)) (Q:=λ_ s'=>SP X pins D0 .next s') rfl hs (fX (B.IW I.ok)) B.kind B.loc
  (aZ (hi pins s σ H _ I h) λv s1 h1=>aZ h1 λPa s2 h2=>?_)) (λ_ s' hq=>wpAny_pure (wpAny_pure hq)) λ_ _ e=>e)
 obtain⟨it,fp,tn,J,H2,e,I2,T,KU,f2,W,⟨m0,w0⟩,turn⟩:=h2
 subst e
 refine nu (own:=own) (Q:=λx H1=>dB i x σ H1 D0.nx) B hc hb I2 T KU f2 w0 turn (RR:=λacc C=>compPost (model X.prog X.w) X.A X.xe (some (assign (.Name x px) X.env)) (λ_ s'=>SP X pins D0 .next s') acc C) λD C H' s' q J2 ⟨mC,L4⟩ fC n1 n2 n3 n4=>?_
 show wpAny _ X.A (assign (.Name x px) X.env (.ref D)) _ _ s'
 refine wpAny_assign_Name (jW J2 hN hx (.inl hl) (show RelV (.ref D) (.ref D) from rfl) (λLi J3 AU=>?_) (.inr hl))
 obtain⟨a,HL,ha⟩:=AU
 have hCa:C ≠ a:=by
  rcases ha with z | z
  ·rw[z];exact n1
  ·exact(n3 x a z).symm
 refine⟨mC,L4.sameBut HL hCa,λh' IX=>⟨_,H',?_,q⟩⟩
 exact J3.turned (t':=Li.toks) (it:=C) (λb o hb e=>(IX.2 b hb).trans e) fC n1 (.inr n2) n3 n4
end
mutual
inductive Den(K:Frag)(H:Hp):V->PyData->Prop
 | Bj:Den K H .Bj .none
 | bl (b:Bool):Den K H (.bl b) (.bool b)
 | int (i:Int):Den K H (.int i) (.int i)
 | str (x:Str):Den K H (.str x) (.str x)
 | lst {a:Addr} {xs:List V} {ds:List PyData}:AV K H a xs->BE K H xs ds->Den K H (.ref a) (.list ds)
 | tup {a:Addr} {xs:List V} {ds:List PyData}:AZ K H a xs->BE K H xs ds->Den K H (.ref a) (.tuple ds)
inductive BE(K:Frag)(H:Hp):List V->List PyData->Prop
 | nil:BE K H [] []
 | cons {x:V} {d:PyData} {xs:List V} {ds:List PyData}:Den K H x d->BE K H xs ds->BE K H (x :: xs) (d :: ds)
end
section
variable {X:Cx}{pins:List (Addr × Obj)}{σ:St}{H:Hp}{s:Shared}
mutual
theorem Inv.den(I:Inv X pins σ H s):∀{x:V}{d:PyData}{u:Value},Den X.K H x d->RelV x u->∃as,Reads s.heap u d as
 | _,_,_, .Bj,r=>by cases r;exact⟨_, .none⟩
 | _,_,_, .bl b,r=>by cases r;exact⟨_, .bool b⟩
 | _,_,_, .int i,r=>by obtain⟨t,rfl⟩:=r;exact⟨_, .int i t⟩
 | _,_,_, .str x,r=>by obtain⟨t,rfl⟩:=r;exact⟨_, .str x t⟩
 | _,_,_, .lst hq hd,r=>by
  cases r
  obtain⟨AW,rv,⟨o,n,e,hc,_,L6⟩,_⟩:=I.list hq
  obtain⟨as,q⟩:=I.IY hd rv
  exact⟨_, .list e hc L6 (by simpa using q)⟩
 | _,_,_, .tup hq hd,r=>by
  cases r
  obtain⟨AW,rv,⟨o,e,hc,n,L6⟩,_⟩:=I.tuple hq
  obtain⟨as,q⟩:=I.IY hd rv
  exact⟨_, .tuple e hc L6 (by simpa using q)⟩
theorem Inv.IY(I:Inv X pins σ H s):∀{xs:List V}{ds:List PyData}{us:List Value},BE X.K H xs ds->Vals xs us->∃as,ReadsAll s.heap us ds as
 | _,_,_, .nil, .nil=>⟨_, .nil⟩
 | _,_,_, .cons hd hr, .cons r rr=>by
  obtain⟨as,q⟩:=I.den hd r
  obtain⟨bs,q'⟩:=I.IY hr rr
  exact⟨_, .cons q q'⟩
end
def L7(K:Frag):R2:=λx y H Q=>∃da db,Den K H x da/\Den K H y db/\SeqAt.shaped da=true/\SeqAt.shaped db=true/\Q (.bl (PyData.eqv da db)) H
def zt(K:Frag):R2:=λx y H Q=>∃da db,Den K H x da/\Den K H y db/\SeqAt.shaped da=true/\SeqAt.shaped db=true/\Q (.bl (!PyData.eqv da db)) H
end
section
variable {X:Cx}
theorem oX(hu:X.A.units + 64 < cLine):eO X (compareOp .Eq) (L7 X.K):=by
 intro pins s σ H x y v u Q I rx ry h
 obtain⟨da,db,h1,h2,h3,h4,q⟩:=h
 obtain⟨as,r1⟩:=I.den h1 rx
 obtain⟨bs,r2⟩:=I.den h2 ry
 exact SeqAt.compareEq_shaped r1 r2 h3 h4 hu ⟨.bl _,H,I,rfl,q⟩
theorem gi(hu:X.A.units + 64 < cLine):eO X (compareOp .NotEq) (zt X.K):=by
 intro pins s σ H x y v u Q I rx ry h
 obtain⟨da,db,h1,h2,h3,h4,q⟩:=h
 obtain⟨as,r1⟩:=I.den h1 rx
 obtain⟨bs,r2⟩:=I.den h2 ry
 exact SeqAt.compareNe_shaped r1 r2 h3 h4 hu ⟨.bl _,H,I,rfl,q⟩
theorem kK{K:Frag}:∀ns:List Int,BE K H (ns.map V.int) (ns.map PyData.int)
 | [] => .nil
 | n :: r => .cons (.int n) (kK r)
theorem nq{K:Frag}{ns:List Int}(h:AV K H a (ns.map V.int)):Den K H (.ref a) (.list (ns.map PyData.int)) := .lst h (kK ns)
def R8(K:Frag):R2:=λx y H Q=>∃(p q:Addr)(ns ms:List Int),x = .ref p/\y = .ref q/\AV K H p (ns.map V.int)/\AV K H q (ms.map V.int)/\Q (.bl (!decide (ns=ms))) H
theorem zF(hu:X.A.units + 64 < cLine):eO X (compareOp .NotEq) (R8 X.K):=by
 intro pins s σ H x y v u Q I rx ry h
 obtain⟨p,q,ns,ms,rfl,rfl,h1,h2,q⟩:=h
 refine gi hu pins s σ H _ _ v u Q I rx ry ⟨_,_,nq h1,nq h2,PySem.W.shaped_ints ns,PySem.W.shaped_ints ms,?_⟩
 simp only[PyData.eqv,PySem.W.ked_eqvAll]
 exact q
def R9(K:Frag):List V->Hp->VK->Prop:=λxs H Q =>
 (∃i,xs=[.int i, .ty "int"]/\Q (.bl true) H)∨(∃i,xs=[.int i, .ty "bool"]/\Q (.bl false) H)∨(∃p ys,xs=[.ref p, .ty "list"]/\AV K H p ys/\Q (.bl true) H)∨(∃p ys,xs=[.ref p, .ty "tuple"]/\AZ K H p ys/\Q (.bl true) H)
theorem nB:eR X (.builtin "isinstance") (R9 X.K):=by
 intro pins s σ H xs us Q I r h
 rcases h with ⟨i,rfl,q⟩ | ⟨i,rfl,q⟩ | ⟨p,ys,rfl,hq,q⟩ | ⟨p,ys,rfl,hq,q⟩
 ·cases r with
  | cons r1 r2 =>
   cases r2 with
   | cons r2 r3 =>
    cases r3
    obtain⟨t,rfl⟩:=r1
    cases r2
    exact IsiPair.int_int ⟨.bl true,H,I,rfl,q⟩
 ·cases r with
  | cons r1 r2 =>
   cases r2 with
   | cons r2 r3 =>
    cases r3
    obtain⟨t,rfl⟩:=r1
    cases r2
    exact IsiPair.int_bool ⟨.bl false,H,I.tok _,rfl,q⟩
 ·cases r with
  | cons r1 r2 =>
   cases r2 with
   | cons r2 r3 =>
    cases r3
    cases r1
    cases r2
    obtain⟨AW,rv,⟨o,n,e,hc,_⟩,_⟩:=I.list hq
    exact IsiPair.list_list e hc ⟨.bl true,H,I,rfl,q⟩
 ·cases r with
  | cons r1 r2 =>
   cases r2 with
   | cons r2 r3 =>
    cases r3
    cases r1
    cases r2
    obtain⟨AW,rv,⟨o,e,hc,_⟩,_⟩:=I.tuple hq
    exact IsiPair.tuple_tuple e hc ⟨.bl true,H,I,rfl,q⟩
theorem xy:Ka X "int.bit_length" (λx xs H Q=>∃i,x = .int i/\xs=[]/\Q (.int (Builtin.Int.intBits i:Nat)) H):=by
 intro pins s σ H x xs v us Q I rx rv h
 obtain⟨i,rfl,rfl,q⟩:=h
 obtain⟨t,rfl⟩:=rx
 cases rv
 exact call_int_bit_length ⟨.int _,H,I.tok _,⟨_,rfl⟩,q⟩
theorem Inv.same{σ:St}(I:Inv X pins σ H s)(k:∀b o,s.heap.get? b=some o->s'.heap.get? b=some o)(g:s'.gens=s.gens)(ho:s'.os=s.os):Inv X pins σ H s':=by
 obtain⟨hh,gg,dd,tt,oo⟩:=s'
 simp only at k g ho
 subst g
 subst ho
 have J:Inv X pins σ H { s with heap:=hh,toks:=tt }:=I.kept k
 exact⟨J.ok,J.os,J.bare,J.base,J.loc,J.cell,J.free,J.Bz,J.pin,J.Bb,J.len⟩
theorem jI(hc:X.calm=true):eR X (.builtin "all") (λxs H Q=>∃(p:Addr)(bs:List Bool),xs=[.ref p]/\AV X.K H p (bs.map V.bl)/\Q (.bl (bs.all id)) H):=by
 intro pins s σ H xs us Q I r h
 obtain⟨p,bs,rfl,hq,q⟩:=h
 obtain⟨u,rfl,rx⟩:=lQ r
 cases rx
 obtain⟨AW,rv,pl,hz⟩:=I.list hq
 have hlen:=rv.length
 rw[length_map]at hlen
 have B5:p < s.heap.objs.size:=by obtain⟨o,n,e,_⟩:=pl;exact lt_size e
 have W3:∀(i:Nat)(v:Value),AW.toArray[i]? = some v->v=Value.bool (bs.getD i false):=λi v hv=>by
  have JX:AW[i]? = some v:=by simpa using hv
  have hi:i < bs.length:=by rw[hlen];exact(gQ0 JX)
  obtain⟨u,hu,ru⟩:=rv.get (i:=i) (x := .bl bs[i]) (by simp[hi])
  rw[JX]at hu
  cases hu
  rw[getD_eq_getElem?_getD,getElem?_eq_getElem hi]
  exact ru
 have RA:X.A.in1.handled=none:=I.ok.hd hc
 refine call_all_walkS (wpAny_pyIter_list pl.isList ⟨s.heap.objs.size,[s.heap.objs.size,p],[s.heap.objs.size],λa b=>b=a,AW.toArray.size,λi v=>AW.toArray[i]? = some v,_,λi=>bs.getD i false,rfl,
  (Walks.list RA _ p (ne_of_lt B5) AW.toArray).toS,⟨⟨_,Heap.get?_push_size _ rfl,rfl,rfl⟩,pl.isList.push _⟩,λi v s1 Q1 E1 hv hq1=>?_,λs' hm=>?_⟩)
 ·rw[W3 i v hv]
  exact wpAny_truthy_bool hq1
 ·have I1:Inv X pins σ H { s with heap:=s.heap.push { cls := .type "list_iterator",data := .fields #[.ref p, .int 0 0] } }:=I.kept (t':=s.toks) λb o e=>Heap.get?_push_of_some _ e
  refine⟨.bl _,H,I.same (λb o e=>hm.heap b o (λhb=>?_) (Heap.get?_push_of_some _ e)) hm.gens hm.os,rfl,?_⟩
  ·have CA:b=s.heap.objs.size:=by simpa using hb
   exact absurd (lt_size e) (by rw[CA];exact lt_irrefl _)
  ·have e:((List.range AW.toArray.size).all λi=>bs.getD i false)=bs.all id:=by
    rw[size_toArray,←hlen]
    clear W3 hlen hq rv q
    have:(List.range bs.length).map (λi=>bs.getD i false)=bs:=by
     apply List.ext_getElem
     ·simp
     ·intro i h1 h2
      simp[h2]
    conv=>rhs;rw[←this]
    rw[all_map]
    rfl
   rw[e]
   exact q
end
theorem jF(hd:o.data = .fields vs)(f:Array Value->Array Value):(Obj.mapFields f o).dict=o.dict:=by
 obtain⟨c,d,dt,sl⟩:=o
 cases dt<;>rfl
def EM(h:Heap)(e:Addr)(cls:Value)(dd:Option Addr)(ch:List Addr):Prop :=
 ∃oe vs,h.get? e=some oe/\oe.cls=cls/\oe.dict=dd/\oe.data = .fields vs /\
  ((vs[1]? = some .none/\ch=[e])∨∃T oT ts,vs[1]? = some (.ref T)/\T ≠ e/\h.get? T=some oT/\oT.data = .fields ts/\ts[3]? = some .none/\ch=[e,T])
theorem EM.rec(x:EM h e cls dd ch):∀b ∈ ch,∃o vs,h.get? b=some o/\o.data = .fields vs:=by
 obtain⟨oe,vs,he,_,_,hd,h1 | ⟨T,oT,ts,_,_,hT,F1,_,rfl⟩⟩:=x
 ·obtain⟨_,rfl⟩:=h1
  intro b hb
  simp only[mem_singleton]at hb
  subst hb
  exact⟨oe,vs,he,hd⟩
 ·intro b hb
  simp only[mem_cons,not_mem_nil,or_false]at hb
  rcases hb with rfl | rfl
  ·exact⟨oe,vs,he,hd⟩
  ·exact⟨oT,ts,hT,F1⟩
theorem EM.mem(x:EM h e cls dd ch):e ∈ ch:=by
 obtain⟨oe,vs,he,_,_,hd,⟨_,rfl⟩ | ⟨T,oT,ts,_,_,hT,F1,_,rfl⟩⟩:=x<;>simp
structure nL(fs ch:List Addr)(h h':Heap):Prop where
 keep:∀b o,h.get? b=some o->b ∉ ch->b ∉ fs->h'.get? b=some o
 slot:∀b o,h.get? b=some o->b ∉ ch->∃sl,h'.get? b=some { o with slots:=sl }
 there:∀b o,h.get? b=some o->∃o',h'.get? b=some o'
section
variable {M:Model}{A:Around}{E:Value->Shared->Prop}{s:Shared}
theorem kz 
  (GH:A.frames=some (env :: outer)) (hl:s.heap.FunFrames base (env :: outer)) (hf:env.frame=some L)
  (he:s.heap.get? e=some oe) (hd:oe.data = .fields vs) (hsz:1 < vs.size)
  (h:∀h',EM h' e oe.cls oe.dict [e,s.heap.objs.size]->nL (kE (env :: outer)) [e] s.heap h'->Q () { s with heap:=h' }) :
  wpAny M A (do let a ← frameOf env;let pl ← entryPlaceOf L hadNext;let b ← EntryCells.newEntry head a .none (rawInt L) .none pl;setField (.ref e) 1 b) (λ_ s'=>wpAny M A (setFlight (.ref e) none) Q E s') E s:=by
 have RB:e ∉ (env :: outer).filterMap (·.frame):=λhm=>by
  obtain⟨_,o,ho,L8⟩:=hl.mem hm
  rw[he]at ho;injection ho with ho;subst ho;exact L8 vs hd
 refine wpAny_bind (wpAny_frameOf_fun GH hl hf λh₁ DI=>?_)
 refine wpAny_bind (wpAny_entryPlaceOf λpl Cz=>?_)
 unfold EntryCells.newEntry newFields
 refine wpAny_bind (wpAny_newObj_type ?_ (Cz.sizeOk5 _ _ _ _ _))
 have HN:h₁.get? e=some oe:=(DI.2.1 e RB).trans he
 have HP:=Heap.get?_push_of_some (h:=h₁) { cls := .type "traceback",dict:=none,data := .fields ([head, .ref L, .none,rawInt L, .none] ++ (if pl.isEmpty then List.replicate 6 Value.none else pl)).toArray } HN
 refine wpAny_setField HP hd hsz ?_
 have GI:h₁.objs.size ≠ e:=ne_of_gt (lt_size HN)
 have F2:=Obj.data_mapFields hd (·.setIfInBounds 1 (Value.ref h₁.objs.size))
 have F3:=Heap.get?_update_self (Obj.mapFields (·.setIfInBounds 1 (Value.ref h₁.objs.size))) HP (Obj.isFreed_of_fields F2)
 have HQ:=(Heap.get?_update_other (h₁.push { cls := .type "traceback",dict:=none,data := .fields ([head, .ref L, .none,rawInt L, .none] ++ (if pl.isEmpty then List.replicate 6 Value.none else pl)).toArray })
  (Obj.mapFields (·.setIfInBounds 1 (Value.ref h₁.objs.size))) (Ne.symm GI)).trans (Heap.get?_push_size h₁ rfl)
 unfold setFlight
 refine wpAny_bind (wpAny_field F3 F2 (x := .ref h₁.objs.size) (by simp[hsz]) ?_)
 rw[if_pos (show(Value.ref h₁.objs.size != Value.none)=true from by simp)]
 refine wpAny_setField HQ rfl (by simp only[size_toArray,length_append,length_cons,length_nil]<;>omega) (h _ ?_ ?_)
 ·refine⟨_,_,?_,Obj.cls_mapFields _ _,jF hd _,F2, .inr ⟨h₁.objs.size,_,_,by simp[hsz],GI,Heap.get?_update_self _ HQ (Obj.isFreed_of_fields (Obj.data_mapFields rfl _)),Obj.data_mapFields rfl _,by first | (simp;done) | (rcases Cz with rfl | ⟨_,_,_,_,_,_,_,rfl⟩<;>simp),by rw[DI.1]⟩⟩
  rw[Heap.get?_update_other _ _ GI];exact F3
 ·have keep:∀b o,b ≠ e->h₁.get? b=some o ->
    (((h₁.push { cls := .type "traceback",dict:=none,data := .fields ([head, .ref L, .none,rawInt L, .none] ++ (if pl.isEmpty then List.replicate 6 Value.none else pl)).toArray }).update e (Obj.mapFields (·.setIfInBounds 1 (Value.ref h₁.objs.size)))).update h₁.objs.size
     (Obj.mapFields (·.setIfInBounds 3 ((none:Option Addr).elim Value.none λf=>rawInt f)))).get? b=some o:=λb o Dv hb=>by
   have Pp:h₁.objs.size ≠ b:=ne_of_gt (lt_size hb)
   rw[Heap.get?_update_other _ _ Pp,Heap.get?_update_other _ _ (Ne.symm Dv)]
   exact Heap.get?_push_of_some _ hb
  refine⟨λb o hb hc RC=>keep b o (by simpa using hc) ((DI.2.1 b RC).trans hb),λb o hb hc=>?_,λb o hb=>?_⟩
  ·obtain⟨sl,hs⟩:=DI.2.2 b o hb
   exact⟨sl,keep b _ (by simpa using hc) hs⟩
  ·by_cases Dv:b=e
   ·subst Dv
    exact⟨_,by rw[Heap.get?_update_other _ _ GI];exact F3⟩
   ·obtain⟨sl,hs⟩:=DI.2.2 b o hb
    exact⟨_,keep b _ Dv hs⟩
theorem ku 
  (GH:A.frames=some (env :: outer)) (hl:s.heap.FunFrames base (env :: outer)) (hf:env.frame=some L) (x:EM s.heap e cls dd ch)
  (h:∀h' IZ,EM h' e cls dd IZ->nL (kE (env :: outer)) ch s.heap h'->(∀b ∈ IZ,b ∈ ch∨s.heap.objs.size <= b)->Q () { s with heap:=h' }) :
  wpAny M A (noteFrame (.ref e) env) (λ_ s'=>wpAny M A (setFlight (.ref e) none) Q E s') E s:=by
 obtain⟨oe,vs,he,rfl,rfl,hd,⟨h1,rfl⟩ | ⟨T,oT,ts,h1,GI,hT,F1,h3,rfl⟩⟩:=x
 ·unfold noteFrame
  simp only[hf]
  refine wpAny_bind (wpAny_field he hd h1 ?_)
  rw[if_neg (by decide)]
  refine kz GH hl hf he hd (Array.getElem?_eq_some_iff.mp h1).1 λh' f m=>h h' _ f m λb hb=>?_
  simp only[mem_cons,not_mem_nil,or_false]at hb
  rcases hb with rfl | rfl
  ·exact .inl (by simp)
  ·exact .inr (le_refl _)
 ·unfold noteFrame
  simp only[hf]
  refine wpAny_bind (wpAny_field he hd h1 ?_)
  rw[if_pos (show(Value.ref T != Value.none)=true from by simp)]
  refine wpAny_bind (wpAny_field hT F1 h3 ?_)
  rw[if_neg (show ¬((Value.none == rawInt L)=true) from by simp[rawInt])]
  refine wpAny_bind (wpAny_setField hT F1 (Array.getElem?_eq_some_iff.mp h3).1 ?_)
  have other:∀b,b ≠ T->(s.heap.update T (Obj.mapFields (·.setIfInBounds 3 Value.none))).get? b=s.heap.get? b:=λb hb=>Heap.get?_update_other _ _ (Ne.symm hb)
  have E2:=Heap.get?_update_self (Obj.mapFields (·.setIfInBounds 3 Value.none)) hT (Obj.isFreed_of_fields (Obj.data_mapFields F1 _))
  have noRecord:∀b o,s.heap.get? b=some o->(∀vs,o.data ≠ .fields vs)->b ≠ T:=λb o hb L8 q=>by
   rw[q,hT]at hb;injection hb with hb;subst hb;exact L8 ts F1
  have L9:(s.heap.update T (Obj.mapFields (·.setIfInBounds 3 Value.none))).objs.size=s.heap.objs.size:=Heap.size_after_update _ _ _
  refine kz (s:={ s with heap:=s.heap.update T (Obj.mapFields (·.setIfInBounds 3 Value.none)) }) GH (hl.of_keeps λb o hb L8=>⟨o,(other b (noRecord b o hb L8)).trans hb,rfl⟩) hf ((other e (Ne.symm GI)).trans he) hd (Array.getElem?_eq_some_iff.mp h1).1
   λh' f m=>h h' _ f ⟨λb o hb hc RC=>?_,λb o hb hc=>?_,λb o hb=>?_⟩ λb hb=>?_
  ·simp only[mem_cons,not_mem_nil,or_false,not_or]at hc
   exact m.keep b o ((other b hc.2).trans hb) (by simpa using hc.1) RC
  ·simp only[mem_cons,not_mem_nil,or_false,not_or]at hc
   exact m.slot b o ((other b hc.2).trans hb) (by simpa using hc.1)
  ·by_cases Pp:b=T
   ·subst Pp
    exact m.there b _ E2
   ·exact m.there b o ((other b Pp).trans hb)
  ·simp only[mem_cons,not_mem_nil,or_false]at hb
   rcases hb with rfl | rfl
   ·exact .inl (by simp)
   ·exact .inr (le_of_eq L9.symm)
theorem pj 
  (GH:A.frames=some (env :: outer)) (hl:s.heap.FunFrames base (env :: outer)) (hf:env.frame=some L) (x:EM s.heap e cls dd ch)
  (h:∀h' IZ,EM h' e cls dd IZ->nL (kE (env :: outer)) ch s.heap h'->(∀b ∈ IZ,b ∈ ch∨s.heap.objs.size <= b)->Q () { s with heap:=h' }) :
  wpAny M A (leaving env (.ref e)) Q E s:=by
 unfold leaving
 exact wpAny_bind (ku GH hl hf x h)
end
section
variable {X:Cx}{pins:List (Addr × Obj)}{σ:St}{H:Hp}{s:Shared}
theorem Inv.Di(I:Inv X pins σ H s)(m:nL (kE X.stack) ch s.heap h')
  (Cr:∀b ∈ ch,X.s₀.heap.get? b=none/\H b=none/\(∀p ∈ X.pn ++ pins,p.1 ≠ b)/\∃o vs,s.heap.get? b=some o/\o.data = .fields vs) :
  Inv X pins σ H { s with heap:=h' }:=by
 have LA:∀b o,s.heap.get? b=some o->(∀vs,o.data ≠ .fields vs)->b ∉ ch:=λb o hb hn hc=>by
  obtain⟨_,_,_,o',vs,CA,hd⟩:=Cr b hc
  rw[hb]at CA;cases CA
  exact hn vs hd
 have cellK:∀c v,s.heap.IsCell c v->h'.IsCell c v:=λc v ⟨o,ho,hd⟩=>by
  obtain⟨sl,e⟩:=m.slot c o ho (LA c o ho λvs q=>by rw[hd]at q;cases q)
  exact⟨_,e,hd⟩
 refine⟨I.ok,I.os,I.bare,⟨λb o e n hf hx=>?_,λb o e n hf hx=>?_,I.base.free,λb o e hx=>?_,I.base.CC,I.base.C2,I.base.CD⟩,?_,λx c hc=>?_,I.free,I.Bz,λp hp=>?_,λb u e=>?_,I.len⟩
 ·have e1:=I.base.keep b o e n hf hx
  refine m.keep b o e1 (λhc=>?_) λhs=>?_
  ·rw[(Cr b hc).1]at e;cases e
  ·rcases mem_cons.mp (I.Cq b hs) with z | z
   ·rw[z]at e
    exact absurd (lt_size e) (Nat.not_lt.mpr I.ok.above)
   ·exact hf z
 ·obtain⟨sl,e1⟩:=I.base.slot b o e n hf hx
  obtain⟨JY,e2⟩:=m.slot b _ e1 λhc=>by rw[(Cr b hc).1]at e;cases e
  exact⟨JY,e2⟩
 ·obtain⟨o',e1⟩:=I.base.there b o e hx
  exact m.there b o' e1
 ·obtain⟨mm,⟨o,es,ep,ho,hd,r⟩,hl⟩:=I.loc
  obtain⟨sl,e⟩:=m.slot _ o ho (LA _ o ho λvs q=>by rw[hd]at q;cases q)
  refine⟨mm,⟨_,es,ep,e,hd,r⟩,λi x v h1 h2 h3=>?_⟩
  obtain⟨u,ru,lk⟩:=hl i x v h1 h2 h3
  refine⟨u,ru,?_⟩
  rcases lk with ⟨a,b⟩ | ⟨a,c,hc,CW⟩
  ·exact .inl ⟨a,b⟩
  ·exact .inr ⟨a,c,hc,cellK c _ CW⟩
 ·obtain⟨v,hv⟩:=I.cell x c hc
  exact⟨v,cellK c v hv⟩
 ·obtain⟨a,b,c,d,e⟩:=I.pin p hp
  refine⟨m.keep _ _ a (λhc=>(Cr _ hc).2.2.1 p hp rfl) λhs=>?_,b,c,d,e⟩
  rcases mem_cons.mp (I.Cq _ hs) with z | z
  ·exact c z
  ·exact d z
 ·refine(I.Bb b u e).C1 (λc v hc q=>m.keep c v q (λz=>?_) λz=>?_) (λ_ q=>q) λ_ _ q=>q
  ·have n:=(Cr c z).2.1
   rcases hc with rfl | hc
   ·rw[e]at n;cases n
   ·rw[hc]at n;cases n
  ·have n:=I.Dg c z
   rcases hc with rfl | hc
   ·rw[e]at n;cases n
   ·rw[hc]at n;cases n
noncomputable def yj(P:Program)(w:World):nQ:=λouter H s E ev s'=>∃e cls dd ch H',ev = .ref e/\s'.os=s.os/\AllBare s'.gens/\Un (kE outer) [] H H' s.heap s'.heap/\BI P w H' s'.heap /\
 EM s'.heap e cls dd ch/\(∀b ∈ ch,s.heap.get? b=none/\H' b=none)/\E cls dd H'
def XP(X:Cx)(pins:List (Addr × Obj))(σ:St)(E:XK)(ev:Value)(s':Shared):Prop:=∃e cls dd ch H',ev = .ref e/\Inv X pins σ H' s'/\EM s'.heap e cls dd ch /\
 (∀b ∈ ch,X.s₀.heap.get? b=none/\H' b=none/\∀p ∈ X.pn ++ pins,p.1 ≠ b)/\E cls dd H'
theorem Inv.F4(I:Inv X pins σ H s)(hex:X.ex=[])(hb:s.heap.get? b=none):X.s₀.heap.get? b=none:=by
 cases q:X.s₀.heap.get? b with
 | none=>rfl
 | some o =>
  obtain⟨o',e⟩:=I.base.there b o q (by rw[hex];simp)
  rw[e]at hb;cases hb
theorem XP.LB(I:Inv X pins σ H s)(hex:X.ex=[])(x:yj X.prog X.w X.stack H s E ev s'):XP X pins σ E ev s':=by
 obtain⟨e,cls,dd,ch,H',rfl,os,bare,un,Bb,Ja,new,q⟩:=x
 refine⟨e,cls,dd,ch,H',rfl,I.HI (ch:=[]) os un Bb bare (λb z=>absurd z (by simp)),Ja,λb hb=>⟨I.F4 hex (new b hb).1,(new b hb).2,λp hp z=>?_⟩,q⟩
 have:=(I.pin p hp).1
 rw[z,(new b hb).1]at this
 cases this
def y9(X:Cx)(E:XK):Prop:=∀(pins:List (Addr × Obj))(σ:St)(ev:Value)(s':Shared),XP X pins σ E ev s'->X.xe ev s'
theorem rm{K:Frag}:
  y9 (lJ (yj P w) P w K mg base N qual scope f cd A outer s H E) E:=by
 intro pins σ ev s' x
 obtain⟨e,cls,dd,ch,H',rfl,I,Ja,Cr,q⟩:=x
 refine pj (base:=base) (outer:=outer) I.ok.frames I.stack rfl Ja λh' IZ RD m new=>?_
 have I':=I.Di m λb hb=>⟨(Cr b hb).1,(Cr b hb).2.1,(Cr b hb).2.2,Ja.rec b hb⟩
 refine⟨e,cls,dd,IZ,H',rfl,I'.os,I'.bare,I'.base,I'.Bb,RD,λb hb=>?_,q⟩
 rcases new b hb with z | z
 ·exact⟨(Cr b z).1,(Cr b z).2.1⟩
 ·exact⟨Heap.get?_none_of_le (le_trans I.sz z),I.Bb.fresh z⟩
end
noncomputable def dZ:List Value:=[.type "ValueError", .type "Exception", .type "BaseException", .type "object"]
noncomputable def lG:List Value->Bool
 | []=>false
 | .ref _ :: r=>lG r
 | l=>l == dZ
theorem oU(self:Value):∀{l:List Value},lG l=true->refuseLoop self "__setattr__" l=pure ()
 | .ref c :: r,e=>by rw[refuseLoop_ref];exact oU self e
 | .type a :: r,e=>by
  have e':(Value.type a :: r)=dZ:=beq_iff_eq.mp e
  rw[e'];exact PySem.F.store_ValueError.passes self
 | .none :: r,e=>by have:=beq_iff_eq.mp (show(_ == dZ)=true from e);cases this
 | .bool _ :: r,e=>by have:=beq_iff_eq.mp (show(_ == dZ)=true from e);cases this
 | .int _ _ :: r,e=>by have:=beq_iff_eq.mp (show(_ == dZ)=true from e);cases this
 | .float _ _ :: r,e=>by have:=beq_iff_eq.mp (show(_ == dZ)=true from e);cases this
 | .str _ _ :: r,e=>by have:=beq_iff_eq.mp (show(_ == dZ)=true from e);cases this
 | .bytes _ _ :: r,e=>by have:=beq_iff_eq.mp (show(_ == dZ)=true from e);cases this
 | .builtin _ :: r,e=>by have:=beq_iff_eq.mp (show(_ == dZ)=true from e);cases this
theorem jE:∀{l:List Value},lG l=true->l.contains (.type "object")=true/\l.contains (.type "BaseException")=true/\l.isEmpty=false
 | .ref c :: r,e=>by
  obtain⟨a,b,_⟩:=jE (l:=r) e
  exact⟨by rw[contains_cons,a,Bool.or_true],by rw[contains_cons,b,Bool.or_true],rfl⟩
 | .type a :: r,e=>by
  have e':(Value.type a :: r)=dZ:=beq_iff_eq.mp e
  rw[e'];exact⟨by decide,by decide,rfl⟩
 | .none :: r,e=>by have:=beq_iff_eq.mp (show(_ == dZ)=true from e);cases this
 | .bool _ :: r,e=>by have:=beq_iff_eq.mp (show(_ == dZ)=true from e);cases this
 | .int _ _ :: r,e=>by have:=beq_iff_eq.mp (show(_ == dZ)=true from e);cases this
 | .float _ _ :: r,e=>by have:=beq_iff_eq.mp (show(_ == dZ)=true from e);cases this
 | .str _ _ :: r,e=>by have:=beq_iff_eq.mp (show(_ == dZ)=true from e);cases this
 | .bytes _ _ :: r,e=>by have:=beq_iff_eq.mp (show(_ == dZ)=true from e);cases this
 | .builtin _ :: r,e=>by have:=beq_iff_eq.mp (show(_ == dZ)=true from e);cases this
noncomputable def v9(K:Frag)(C:Addr):Bool:=(PySem.W.clsIn K C).any λcd=>lG cd.mro
structure ya(K:Frag)(C:Addr):Prop where
 mro:v9 K C=true
 hd:hasDictIn K C=true
 sa:findIn K (.ref C) "__setattr__" = some (some (.builtin "object.__setattr__"))
 ga:findIn K (.ref C) "__getattribute__" = some (some (.builtin "BaseException.__getattribute__"))
 gn:findIn K (.ref C) "__getattr__" = some none
section
variable {prog:Program}{w:World}{A:Around}{E:Value->Shared->Prop}{s:Shared}{K:Frag}{x C:Addr}{ox:Obj}{name:Str}{v:Value}
open PySem.W in
open PySem.W in
end
end L2
namespace PySem
section
variable {prog:Program}{w:World}{A:Around}{E:Value->Shared->Prop}{h:Heap}{g:Array GenState}{d:Drawn}{t:Nat}{os:OsState}
variable {nm q:Str}{C N:Addr}{bs bm bmB:List Value}{CH:Bool}{sn:List Str}{sub:List Value}{ab:Bool}{col:Option Bool}{dd:Option Addr}{k0 k1 k2 k3 k5:Option Value}{B newId RE:String}
end
section
variable {M:Model}{A:Around}{E:Value->Shared->Prop}{env:Env}
variable {nm q:Str}{C N:Addr}{bs bm:List Value}{CH:Bool}{sn:List Str}{sub:List Value}{ab:Bool}{col:Option Bool}{dd:Option Addr}{k0 k1 k2 k3 k5:Option Value}{newId:String}
theorem gr(hh:A.handled=none)
  (h:wpAny M A x (λv s₁=>∃e t de nm q N bs bm CH sn sub ab col dd k0 k1 k2 k3 k5 newId,v = .ref e/\bm.contains (.type "BaseException")=true/\s₁.heap.get? C=some (excClassObj nm q C N bs bm CH sn sub ab col dd k0 k1 k2 k3 k5 newId) /\
   s₁.heap.get? e=some { cls := .ref C,dict:=de,data := .fields #[.ref t, .none, .none, .none, .bool false, .none] }/\E (.ref e) s₁) E s) :
  wpAny M A (raiseStmt env (some x) none) Q E s:=by
 unfold raiseStmt
 refine wpAny_bind (wpAny_mono h (λv s₁ h₁=>?_) λ_ _ x=>x)
 obtain⟨e,t,de,nm,q,N,bs,bm,CH,sn,sub,ab,col,dd,k0,k1,k2,k3,k5,newId,rfl,CG,hC,he,hE⟩:=h₁
 have hcB:(Value.ref C :: bm).contains (.type "BaseException")=true:=by rw[contains_cons,CG,Bool.or_true]
 obtain⟨hp,g,d,tk,os⟩:=s₁
 repeat (first | with_reducible refine wpAny_loadPart_at he ?_ | with_reducible refine wpAny_loadPart_at hC ?_ | (with_reducible refine wpAny_isSubtype_exc hC ?_;rw[hcB]) | wp_step)
 exact wpAny_raiseNew_none hh hE
end
end PySem
namespace L2
open PySem PySem.Spec PyProof.Rows
noncomputable def iw(K:Frag)(C:Addr)(init:Option Value):Bool:=match K.lookup C with
 | some ⟨.type "type",_, .cls cd,sl⟩=>(match cd.mro,sl.toList with
  | .ref C' :: bm,[_,_,_,_,some (.builtin n),_]=>C' == C && n == "ValueError.__new__" && !cd.hasDel && PySem.W.tailIn K dZ bm && PySem.W.nsOkIn K cd.ns && nsIn K cd.ns "__init__" == some init
  | _,_=>false)
 | _=>false
theorem iq{K:Frag}(X:K.In h)(e:PySem.W.nsOkIn K N=true)(q:nsIn K N x=some (some v)):h.nsMap N x=some v:=by
 have G:h.Ns N (h.nsMap N) := .of_isNs (PySem.W.isNs_of_in X e)
 generalize h.nsMap N=m at G ⊢
 obtain⟨o,es,ep,ho,hd,_,hf⟩:=G
 unfold nsIn at q
 split at q
 ·rename_i c d OV n' sl z
  have:=X _ _ z
  rw[ho]at this
  cases this
  cases hd
  split at q
  ·rename_i en he
   cases q
   rw[←hf]
   unfold nsFind findBy
   rw[←Array.find?_toList,he]
   rfl
  ·split at q<;>cases q
 ·cases q
theorem qH{K:Frag}(X:K.In h)(q:iw K C init=true):∃bm N nm qn bs CH sn sub ab col dd k0 k1 k2 k3 k5 mN,
  h.get? C=some (excClassObj nm qn C N bs bm CH sn sub ab col dd k0 k1 k2 k3 k5 "ValueError.__new__")/\h.Ns N mN/\mN "__init__" = init/\OwnTail h dZ bm:=by
 unfold iw at q
 split at q
 ·rename_i dd cd sl ho
  split at q
  ·rename_i C' bm k0 k1 k2 k3 n k5 hm hs
   simp only[Bool.and_eq_true,beq_iff_eq,Bool.not_eq_true']at q
   obtain⟨⟨⟨⟨⟨rfl,rfl⟩,LC⟩,ht⟩,Bb⟩,Kd⟩:=q
   obtain⟨nm,bs,mro,ns,qn,hd,sn,sub,ab,col,del⟩:=cd
   dsimp only at hm LC Bb Kd
   subst hm LC
   have RF:sl = #[k0,k1,k2,k3,some (.builtin "ValueError.__new__"),k5]:=by
    obtain⟨l⟩:=sl
    simp only at hs
    rw[hs]
   subst RF
   refine⟨bm,ns,nm,qn,bs,hd,sn,sub,ab,col,dd,k0,k1,k2,k3,k5,_,X _ _ ho, .of_isNs (PySem.W.isNs_of_in X Bb),?_,PySem.W.tail_of_in X ht⟩
   cases init with
   | none=>exact PySem.W.nsMap_none_of_in X Bb Kd
   | some v=>exact iq X Bb Kd
  ·cases q
 ·cases q
theorem qS(T:OwnTail h dZ bm):bm.contains (.type "BaseException")=true:=T.hasType (by decide)
noncomputable def Au(C t:Addr)(dd:Option Addr):Obj:={ cls := .ref C,dict:=dd,data := .fields #[.ref t, .none, .none, .none, .bool false, .none] }
abbrev TX:=St->Hp->(Option Addr->Hp->Prop)->Prop
def PX(X:Cx)(e:Expr)(C:Addr)(t:TX):Prop :=
 ∀(pins:List (Addr × Obj))(s:Shared)(σ:St)(H:Hp)(R:Option Addr->Hp->Prop),Inv X pins σ H s->t σ H R->wpAny (model X.prog X.w) X.A (eval e X.env)
  (λu s'=>∃ea dd tt H',u = .ref ea/\Inv X pins σ H' s'/\s'.heap.get? ea=some (Au C tt dd)/\X.s₀.heap.get? ea=none/\H' ea=none/\(∀p ∈ X.pn ++ pins,p.1 ≠ ea)/\R dd H') X.xe s
theorem BI.at(x:BI P w H h)(e:H a=some o):∃ob,h.get? a=some ob:=by
 have q:=x a o e
 have all:∀o,Bn P w H h a o->∃ob,h.get? a=some ob:=by
  intro o
  induction o with
  | lst xs=>intro ⟨_,AW,n,_,e⟩;exact⟨_,e⟩
  | tup xs=>intro ⟨_,AW,_,ob,e,_⟩;exact⟨_,e⟩
  | dK kvs=>intro ⟨_,_,vs,_,q⟩;obtain⟨o,es,ep,e,_⟩:=q;exact⟨_,e⟩
  | dT kvs=>intro ⟨_,_,xs,_,o,es,ep,e,_⟩;exact⟨_,e⟩
  | set S n=>intro q;obtain⟨o,_,_,_,e,_⟩:=q;exact⟨_,e⟩
  | ins C dx fs=>intro ⟨_,_,_,e,_⟩;exact⟨_,e⟩
  | own x=>intro ⟨o,e⟩;exact⟨_,e⟩
  | xd fs=>intro ⟨mA,⟨o,es,ep,e,_⟩,_⟩;exact⟨_,e⟩
  | OR lo hi=>intro ⟨_,_,_,e⟩;exact⟨_,e⟩
  | Cy o u ih=>intro ⟨e,_⟩;exact⟨_,e⟩
  | G5 ps=>intro e;exact⟨_,e⟩
  | met f x=>intro e;exact⟨_,e⟩
  | ext φ=>intro ⟨_,e,_⟩;exact e
 exact all o q
theorem BI.none_of(x:BI P w H h)(e:h.get? a=none):H a=none:=by
 cases q:H a with
 | none=>rfl
 | some o =>
  obtain⟨ob,z⟩:=x.at q
  rw[e]at z;cases z
section
variable {X:Cx}{C f:Addr}{x:Str}{p pos apos:Pos}{e:Expr}{es:List Expr}{t:TA}
noncomputable def yE(t:TA):TX:=λσ H R=>t σ H λvs H1=>vs.length <= sizeLine/\R none H1
theorem ur(hq:iw X.K C none=true)(kp:keepIn X.K (.ref C)=true)(hex:X.ex=[])(hg:Gl X x)(hm:X.mg x=some (.ref C))(ha:PA X (e :: es) t)
  (Fy:autoParam ((x == ("__debug__":Str))=false) θ) (he:autoParam (starEach (e :: es) X.env=(false,eval e X.env) :: starEach es X.env) η) (Cz:autoParam ((backTo pos (starEach es X.env)).any (·.1)=false) η) :
  PX X (.Call (.Name x p) (e :: es) [] pos) C (yE t):=by
 intro pins s σ H R I h
 refine wpAny_Call_Name_kw (gU I hg hm ?_ Fy)
 refine PySem.W.callWith_K (h₀:=X.base) I.ok.mod.Ex kp (aZ (ha pos pins s σ H _ I h) λus s1 ⟨vs,H1,I1,r,hl,q⟩=>⟨I1.BO,?_⟩) he Cz
 obtain⟨bm,N,nm,qn,bs,CH,sn,sub,ab,col,dd,k0,k1,k2,k3,k5,mN,hC,hn,Kd,T⟩:=qH I1.BO hq
 obtain⟨hp,g,d,tk,os⟩:=s1
 refine wpAny_call_exc_subT (hrest:=by show us.length <= _;rw[←r.length];exact hl) PySem.F.excBase_ValueError T hC hn Kd λh' ea DJ=>?_
 obtain⟨tt,ht,_,_⟩:=DJ.there
 refine⟨ea,none,tt,H1,rfl,I1.kept (t':=tk) DJ.keeps,ht,I1.F4 hex DJ.new,I1.Bb.none_of DJ.new,λp hp z=>?_,q⟩
 have:=(I1.pin p hp).1
 rw[z]at this
 have h2:=DJ.new
 rw[this]at h2
 cases h2
def yH(C:Addr)(E:XK)(t:TX):TS:=λ_ σ H=>t σ H λdd H1=>E (.ref C) dd H1
theorem uy(hc:X.calm=true)(hq:iw X.K C init=true)(hx:y9 X E)(h:PX X e C tx):PS X (.Raise (some e) none pos) (yH C E tx):=by
 intro pins s σ H D I hw
 rw[arm_exec_Raise]
 have key:wpAny (model X.prog X.w) X.A (eval e X.env) (λv s₁=>∃ea t de nm q N bs bm CH sn sub ab col dd k0 k1 k2 k3 k5 newId,v = .ref ea/\bm.contains (.type "BaseException")=true/\s₁.heap.get? C=some (excClassObj nm q C N bs bm CH sn sub ab col dd k0 k1 k2 k3 k5 newId) /\
   s₁.heap.get? ea=some { cls := .ref C,dict:=de,data := .fields #[.ref t, .none, .none, .none, .bool false, .none] }/\X.xe (.ref ea) s₁) X.xe s:=by
  refine aZ (h pins s σ H _ I hw) λu s1 AU=>?_
  obtain⟨ea,dd,tt,H',eu,I1,ho,hn,hh,hp,q⟩:=AU
  obtain⟨bm,N,nm,qn,bs,CH,sn,sub,ab,col,ddc,k0,k1,k2,k3,k5,mN,hC,Fe,Kd,T⟩:=qH I1.BO hq
  refine⟨ea,tt,dd,nm,qn,N,bs,bm,CH,sn,sub,ab,col,ddc,k0,k1,k2,k3,k5,_,eu,qS T,hC,ho,hx pins σ _ _ ⟨ea, .ref C,dd,[ea],H',rfl,I1,⟨_,_,ho,rfl,rfl,rfl, .inl ⟨rfl,rfl⟩⟩,λb hb=>?_,q⟩⟩
  simp only[mem_singleton]at hb
  subst hb
  exact⟨hn,hh,hp⟩
 first
  | refine wpAny_bind (wpAny_standAt (gr (C:=C) (I.ok.hd hc) (wpAny_bind (wpAny_mono key (λv s₃ h₃=>wpAny_bind (wpAny_standAt (wpAny_pure h₃))) λ_ _ x=>x))))
  | (simp only[evalOpt,Option.map];refine wpAny_bind (wpAny_standAt (gr (C:=C) (I.ok.hd hc) (wpAny_bind (wpAny_mono key (λv s₃ h₃=>wpAny_bind (wpAny_standAt (wpAny_pure h₃))) λ_ _ x=>x)))))
end
section
variable {prog:Program}{w:World}{A:Around}{E:Value->Shared->Prop}{s:Shared}{K:Frag}{x C:Addr}{ox:Obj}{od:Option Obj}{name:Str}{v:Value}
open PySem.W in
theorem sg{Q:Option Value->Shared->Prop}(X:K.In s.heap)(I:PySem.W.InstAt s.heap x ox C od)(c:ya K C)(ha:findIn K (.ref C) "__class__" = some (some (.builtin "object.__class__")))
  (hn:specialIn K (.builtin "object.__class__") "__get__" = some (some (.builtin "getset_descriptor.__get__"))) (Pe:takesIn K (.builtin "object.__class__")=some true)
  (h:Q (some (.ref C)) { s with toks:=s.toks + 1 }):wpAny (model prog w) A (getAttr? (.ref x) "__class__") Q E s:=by
 obtain⟨cd,hc,ho⟩:=any_some c.mro
 obtain⟨h1,h2,ne⟩:=jE ho
 have hm:mroIn K C (.type "object")=some true:=by unfold mroIn;rw[hc,Option.bind_some,if_neg (by rw[ne];decide),h1]
 have hf:findObj K C od "__class__" = some (.bind (.builtin "getset_descriptor.__get__") (.builtin "object.__class__")):=by
  unfold findObj
  rw[hc,Option.bind_some,ha,Option.bind_some]
  dsimp only
  rw[hn,Option.bind_some]
  dsimp only
  rw[Pe,Option.bind_some]
 have sub:Looks (model prog w) s.heap (isInstance (.ref x) (.type "BaseException")) true:=I.type.andThen (looks_mroIn X (by unfold mroIn;rw[hc,Option.bind_some,if_neg (by rw[ne];decide),h2]))
 have GA:=F.attr_ValueError.ga
 have hk:builtinKind "BaseException.__getattribute__" = some .slot:=by decide +kernel
 have Jb:splitId "BaseException.__getattribute__" = some ("BaseException", "__getattribute__"):=by decide +kernel
 have Fg:(Value.builtin "BaseException.__getattribute__" == Value.builtin "object.__getattribute__")=false:=by decide +kernel
 have Cf:(onTheHeap (Value.ref C) && Value.builtin "BaseException.__getattribute__" == Value.builtin "object.__getattribute__")=false:=by rw[Fg];rfl
 have L0:=I.type (M:=model prog w)
 have L1:=looks_findIn (M:=model prog w) X c.ga
 have L2:=looks_findIn (M:=model prog w) X c.gn
 have L3:=looks_find (M:=model prog w) X I hf
 obtain⟨hp,g,dr,t,os⟩:=s
 unfold getAttr? getAttrBy? getAttrBy
 refine wpAny_bind (wpAny_mkText (wpAny_bind (wpAny_attempt (wpAny_holding (wpAny_bind (L0.at (wpAny_bind (L1.at ?_))))))))
 dsimp only
 rw[Cf,if_neg Bool.false_ne_true]
 unfold getAttrByItsOwn
 refine wpAny_bind (L2.at ?_)
 refine wpAny_bind (wpAny_attempt (wpAny_holding ?_))
 unfold callGetattribute
 rw[show(false && onTheHeap (Value.builtin "BaseException.__getattribute__"))=false from rfl,if_neg Bool.false_ne_true]
 unfold boundAndCalled
 rw[GA.bind]
 refine wpAny_bind (wpAny_pure (wpAny_call ?_))
 refine codeAny_call_builtin GA.plain F.entry_bexc_ga (@check_slot (model prog w) _ _ ⟨hp,g,dr,t + 1,os⟩ "BaseException.__getattribute__" "BaseException" "__getattribute__" (.ref x) [.str "__class__" t] [] _ hk Jb sub (F.args_bexc_ga (.ref x) (.str "__class__" t)) ?_)
 unfold Builtin.«object.__getattribute__»
 refine wpAny_bind (wpAny_pure ?_)
 dsimp only
 refine wpAny_bind (wpAny_pure (wpAny_bind (L0.at (wpAny_bind (L3.at ?_)))))
 show wpAny _ _ (holding [Value.builtin "object.__class__"] (call (.builtin "getset_descriptor.__get__") [.builtin "object.__class__", .ref x, .ref C]) >>= ret) _ _ _
 refine wpAny_bind (wpAny_holding (wpAny_call (class_get (s:=⟨hp,g,dr,t + 1,os⟩) (ox:=ox) (od:=od) X I hm ?_)))
 refine wpAny_pure ?_
 show wpAny _ _ (handedOut (.ref C)) _ _ _
 exact handed_on rfl (wpAny_pure h)
structure AH(K:Frag)(C:Addr):Prop where
 at_:findIn K (.ref C) "__class__" = some (some (.builtin "object.__class__"))
 get:PySem.W.specialIn K (.builtin "object.__class__") "__get__" = some (some (.builtin "getset_descriptor.__get__"))
 tak:PySem.W.takesIn K (.builtin "object.__class__")=some true
open PySem.W in
theorem vp(c:ya K C)(i:AH K C):KitX K (.ref x) (.ref C) (λh=>∃od,PySem.W.InstAt h x ox C od) where
 ty:=λ_ _ _ AU=>by obtain⟨_,I⟩:=AU;exact I.type
 it:=λ_ _ X _=>by
  obtain⟨cdD,G6,_⟩:=any_some c.hd
  unfold clsIn at G6
  split at G6
  ·rename_i c' d' cd' QR ho
   intro A' Q' E' s' k q
   unfold isType loadHead
   exact wpAny_bind (wpAny_loadPart (k _ _ (X _ _ ho)) (wpAny_pure q))
  ·cases G6
 ne:=λh tp dd AW n sl X htp=>by
  obtain⟨cdD,G6,_⟩:=any_some c.hd
  refine Bool.eq_false_iff.mpr λq=>?_
  have e:C=tp:=Value.ref.inj (beq_iff_eq.mp q)
  subst e
  unfold clsIn at G6
  split at G6
  ·rename_i c' d' cd' QR ho
   have z:=(X _ _ ho).symm.trans htp
   cases z
  ·cases G6
 ca:=λX ⟨_,I⟩ k=>sg X I c i.at_ i.get i.tak k
end
abbrev Cx.hand(X:Cx)(ea:Addr)(oe:Obj):Cx:={ X with A:=X.A.mark (some (.ref ea)),calm:=false,pn:=(ea,oe) :: X.pn,xe:=λ_ _=>False }
section
variable {X:Cx}{pins:List (Addr × Obj)}{σ:St}{H:Hp}{s:Shared}{ea:Addr}{oe:Obj}
theorem Inv.hand(I:Inv X pins σ H s)(h1:s.heap.get? ea=some oe)(hd:oe.data = .fields vs)(h2:H ea=none):Inv (X.hand ea oe) pins σ H s:=by
 have ok:=I.ok
 refine⟨⟨ok.mod,ok.kind,ok.glob,ok.blt,ok.above,ok.inj,ok.has,ok.JU,(λz=>by cases z),ok.frames,ok.K7,ok.QO,ok.bs,ok.FQ,ok.EE,ok.Fv,ok.Ci,ok.HF⟩,I.os,I.bare,I.base,I.loc,I.cell,I.free,I.Bz,λp hp=>?_,I.Bb,I.len⟩
 rcases mem_cons.mp hp with rfl | hp
 ·refine⟨h1,h2,λz=>?_,λz=>?_,λv q=>by rw[hd]at q;cases q⟩
  ·obtain⟨m,⟨o,es,ep,ho,W4,_⟩,_⟩:=I.loc
   have z':ea=X.env.locals:=z
   rw[←z',h1]at ho
   cases ho
   rw[hd]at W4
   cases W4
  ·obtain⟨_,o,ho,hn⟩:=I.Ci.mem z
   rw[show(ea,oe).1=ea from rfl,h1]at ho
   cases ho
   exact hn vs hd
 ·exact I.pin p hp
theorem Inv.Dj(J:Inv (X.hand ea oe) pins σ H s)(ok:X.Ok):Inv X pins σ H s :=
 ⟨ok,J.os,J.bare,J.base,J.loc,J.cell,J.free,J.Bz,λp hp=>J.pin p (mem_cons_of_mem _ hp),J.Bb,J.len⟩
def LD:V->Value->Prop
 | .ref a,u=>u = .ref a
 | .ty n,u=>u = .type n
 | _,_=>False
theorem sE(r:RelV c u)(h:LD c cv):u=cv:=by
 cases c with
 | ref a=>exact(show u = .ref a from r).trans (show cv = .ref a from h).symm
 | ty n=>exact(show u = .type n from r).trans (show cv = .type n from h).symm
 | _=>exact h.elim
def pI(H:Hp):Option Addr->Prop
 | none=>True
 | some d=>∃fs,H d=some (.xd fs)
theorem Inv.LF(I:Inv X pins σ H s)(hp:(ea,oe) ∈ X.pn)(hc:oe.cls = .ref C)(hd:oe.data = .fields vs)(Pq:pI H oe.dict):∃od,PySem.W.InstAt s.heap ea oe C od:=by
 have h1:=(I.pin (ea,oe) (mem_append_left _ hp)).1
 have hn:PySem.W.notCls oe=true:=by
  obtain⟨c,d,dt,sl⟩:=oe
  dsimp only at hd
  subst hd
  rfl
 cases hq:oe.dict with
 | none=>exact⟨none,h1,hc,hn,by rw[hq];trivial⟩
 | some d =>
  rw[hq]at Pq
  obtain⟨fs,hf⟩:=Pq
  obtain⟨ob,ho⟩:=I.Bb.at hf
  exact⟨some ob,h1,hc,hn,by rw[hq];exact ho⟩
def RG(X:Cx):List V->Hp->VK->Prop:=λxs H Q=>∃ea oe c cv C vs b,xs=[.ref ea,c]/\LD c cv/\(ea,oe) ∈ X.pn/\oe.cls = .ref C/\oe.data = .fields vs/\pI H oe.dict/\ya X.K C/\AH X.K C/\kitOne X.K (.ref C) cv=some b/\Q (.bl b) H
theorem nE:eR X (.builtin "isinstance") (RG X):=by
 intro pins s σ H xs us Q I r h
 obtain⟨ea,oe,c,cv,C,vs,b,rfl,rc,hp,hc,hd,Pq,xc,xi,hk,q⟩:=h
 cases r with
 | cons r1 r2 =>
  cases r2 with
  | cons r2 r3 =>
   cases r3
   cases r1
   have e:=sE r2 rc
   subst e
   obtain⟨od,J⟩:=I.LF hp hc hd Pq
   exact PySem.W.kia_one (vp (ox:=oe) xc xi) I.BO ⟨od,J⟩ hk (by intro z;cases z) λtk=>⟨.bl b,H,I.tok _,rfl,q⟩
end
section
variable {X:Cx}{o e value:Expr}{f:Str}{pos pos':Pos}{ta tv:TE}
end
section
variable {P:Program}{w:World}{K:Frag}{mg:Str->Option Value}{base:Heap}
theorem Bo.okX{st:Stmt}(F:Bo K x qual st f fd)(S:ao N ps (ai st))(len:∀vs H Q E,sp vs H Q E->vs.length=ps.length)
  (CF:∀(cdv:Value)(A:Around)(outer:List Env)(s:Shared)(H:Hp)(vs:List V)(Q:VK)(E:XK),Bc k (A.deeper (envOfC qual (ai st) s.heap.objs.size f cdv))->sp vs H Q E ->
   ∃t,DX (lJ (yj P w) P w K mg base N qual (ai st) f cdv A outer s H E) (aJ st) t/\t { nx:=λ_ H'=>Q .Bj H',rt:=Q } (start N vs) H):AQ P w K mg base (yj P w) (k + 1) f fd ps sp:=by
 obtain⟨oc,od,kV,doc,pm,an,cdv,ct,Ed,rfl,lk,Ea⟩:=F.ex
 exact v7 lk Ea S len λA outer s H vs Q E hr Fc=>CF cdv A outer s H vs Q E hr Fc
end
def W5(X:Cx)(e:Expr)(t:St->Hp->VK->XK->Prop):Prop :=
 ∀(pins:List (Addr × Obj))(s:Shared)(σ:St)(H:Hp)(Q:VK)(E:XK),Inv X pins σ H s->t σ H Q E->wpAny (model X.prog X.w) X.A (eval e X.env) (EP X pins σ Q) (XP X pins σ E) s
section
variable {X:Cx}{k:Nat}{f C:Addr}{fd:FuncData}{ps:List Str}{sp:Sp}{B4:List V}{ds:List Value}{x m:Str}{p pos apos:Pos}{e o:Expr}{es:List Expr}{ta:TE}{t:TA}
theorem wC{σ:St}(F:AQ X.prog X.w X.K X.mg X.base (yj X.prog X.w) k f fd ps sp)(hr:Bc k X.A)(hb:Binds X.K fd ps ds)(hd:Vals B4 ds)(hex:X.ex=[])
  (I:Inv X pins σ H s) (r:Vals vs us) (h:sp (vs ++ B4) H Q E):wpAny (model X.prog X.w) X.A (call (.ref f) us) (EP X pins σ Q) (XP X pins σ E) s:=by
 have r2:Vals (vs ++ B4) (us ++ ds):=r.append hd
 have hl:(us ++ ds).length=ps.length:=by rw[←r2.length];exact F.len _ _ _ _ h
 refine wpAny_call (codeAny_mono (F.run X.A X.stack s H ⟨us,[]⟩ (us ++ ds) (vs ++ B4) Q E hr I.IQ (hb s us I.BO hl) r2 h) λr s' hq=>?_)
 cases r with
 | error e=>exact XP.LB I hex hq
 | ok fl =>
  cases fl with
  | ret u=>exact I.after hq
  | next=>exact False.elim hq
  | brk=>exact False.elim hq
  | cont=>exact False.elim hq
theorem PA.at{σ:St}(ha:PA X.FU es t)(I:Inv X pins σ H s)(h:t σ H Q) :
  wpAny (model X.prog X.w) X.A (spliced (backTo pos (starEach es X.env))) (AP X pins σ Q) E s :=
 wpAny_mono (ha pos pins s σ H Q (I.C3 _) h) (λ_ _ AU=>by obtain⟨vs,H',I',r,q⟩:=AU;exact⟨vs,H',I'.BD,r,q⟩) λ_ _ z=>False.elim z
theorem PE.at{σ:St}(ha:PE X.FU e te)(I:Inv X pins σ H s)(h:te σ H Q) :
  wpAny (model X.prog X.w) X.A (eval e X.env) (EP X pins σ Q) E s :=
 wpAny_mono (ha pins s σ H Q (I.C3 _) h) (λ_ _ AU=>by obtain⟨v,H',I',r,q⟩:=AU;exact⟨v,H',I'.BD,r,q⟩) λ_ _ z=>False.elim z
theorem u0(he:PE X.FU o ta)(c:CO X.K C)(hm:bG X.K C m f)(F:AQ X.prog X.w X.K X.mg X.base (yj X.prog X.w) k f fd ps sp)(hr:Bc k X.A)(hb:Binds X.K fd ps ds)(hd:Vals B4 ds)(hex:X.ex=[])(ha:PA X.FU (e :: es) t)
  (Dx:autoParam (starEach (e :: es) X.env=(false,eval e X.env) :: starEach es X.env) η) (Cz:autoParam ((backTo pos (starEach es X.env)).any (·.1)=false) η)
  (ht:eval (.Call (.Attribute o m apos) (e :: es) [] pos) X.env=(do
   let ov ← eval o X.env
   standAt apos.atName
   let (f,first) ← holding [ov] (getMethod ov m pl)
   callWith pos f first (backTo pos (starEach (e :: es) X.env)) (backToKw pos (keywordEach [] X.env))):=by rfl) :
  W5 X (.Call (.Attribute o m apos) (e :: es) [] pos) (λσ H Q E=>sI C m sp B4 E ta t σ H Q):=by
 intro pins s σ H Q E I h
 refine PySem.W.methodCall_KW (pl:=pl) (aZ (he.at I h) λu s1 AU=>?_) ht
 obtain⟨x,H1,I1,rx,a,dx,fs,ex,ea,l,q⟩:=AU
 subst ex
 obtain rfl:u=Value.ref a:=rx
 refine gk I1 ea c hm l ?_
 refine PySem.W.callWith_K (first:=[.ref a]) (h₀:=X.base) I.ok.mod.Ex hm.kp (aZ (ha.at I1 q) λus s2 ⟨vs,H2,I2,r,q2⟩=>⟨I2.BO,?_⟩) Dx Cz
 exact wC (us := .ref a :: us) (vs := .ref a :: vs) F hr hb hd hex I2 (.cons rfl r) q2
end
def W6(X:Cx)(body:List Stmt)(t:i3->St->Hp->(St->XK)->Prop):Prop :=
 ∀(pins:List (Addr × Obj))(s:Shared)(σ:St)(H:Hp)(D:i3)(E:St->XK),Inv X pins σ H s->t D σ H E->wpAny (model X.prog X.w) X.A (execs body X.env) (SP X pins D) (λev s'=>∃σ',XP X pins σ' (E σ') ev s') s
section
variable {X:Cx}{e:Expr}{t:St->Hp->VK->XK->Prop}{pos DB:Pos}{n:Str}{i:Nat}
theorem xW(he:W5 X e t)(hs:autoParam (swapsWith e none pos.line X.env=pure false) η):W6 X [.Expr e pos] (λD σ H E=>t σ H (λ_ H1=>D.nx σ H1) (E σ)):=by
 intro pins s σ H D E I h
 refine wpAny_execs_cons (wpAny_mono (wpAny_Expr_any (Q:=SP X pins D) (wpAny_mono (he pins s σ H _ _ I h) (λv s1 AU=>by obtain⟨x,H1,I1,r1,q1⟩:=AU;exact⟨σ,H1,I1,q1⟩) (λ_ _ z=>⟨σ,z⟩)) I.quiet hs) (λf s1 q=>?_) λ_ _ z=>z)
 cases f with
 | next=>exact wpAny_execs_nil q
 | ret v=>exact q
 | brk=>exact q
 | cont=>exact q
end
section
variable {M:Model}{A:Around}{E:Value->Shared->Prop}{s:Shared}
theorem rK(x:EM s.heap e cls dd ch)
  (h:∀h',EM h' e cls dd ch->nL fs ch s.heap h'->Q () { s with heap:=h' }):wpAny M A (setFlight (.ref e) none) Q E s:=by
 obtain⟨oe,vs,he,rfl,rfl,hd,⟨h1,rfl⟩ | ⟨T,oT,ts,h1,GI,hT,F1,h3,rfl⟩⟩:=x
 ·unfold setFlight
  refine wpAny_bind (wpAny_field he hd h1 ?_)
  rw[if_neg (by decide)]
  exact wpAny_pure (h s.heap ⟨oe,vs,he,rfl,rfl,hd, .inl ⟨h1,rfl⟩⟩ ⟨λ_ _ z _ _=>z,λ_ o z _=>⟨o.slots,z⟩,λ_ o z=>⟨o,z⟩⟩)
 ·unfold setFlight
  refine wpAny_bind (wpAny_field he hd h1 ?_)
  rw[if_pos (show(Value.ref T != Value.none)=true from by simp)]
  have LG:3 < ts.size:=(Array.getElem?_eq_some_iff.mp h3).1
  have other:∀b,b ≠ T->(s.heap.update T (Obj.mapFields (·.setIfInBounds 3 ((none:Option Addr).elim Value.none λf=>rawInt f)))).get? b=s.heap.get? b:=λb hb=>Heap.get?_update_other _ _ (Ne.symm hb)
  have E2:=Heap.get?_update_self (Obj.mapFields (·.setIfInBounds 3 ((none:Option Addr).elim Value.none λf=>rawInt f))) hT (Obj.isFreed_of_fields (Obj.data_mapFields F1 _))
  refine wpAny_setField hT F1 LG (h _ ⟨oe,vs,(other e (Ne.symm GI)).trans he,rfl,rfl,hd, .inr ⟨T,_,_,h1,GI,E2,Obj.data_mapFields F1 _,by simp[LG],rfl⟩⟩ ⟨λb o z hc _=>?_,λb o z hc=>?_,λb o z=>?_⟩)
  ·simp only[mem_cons,not_mem_nil,or_false,not_or]at hc
   exact(other b hc.2).trans z
  ·simp only[mem_cons,not_mem_nil,or_false,not_or]at hc
   exact⟨o.slots,(other b hc.2).trans z⟩
  ·by_cases hb:b=T
   ·subst hb;exact⟨_,E2⟩
   ·exact⟨o,(other b hb).trans z⟩
end
theorem iU{σ:St}(I:Inv X pins σ H s)(hN:X.N.Nodup)(hi:X.N[i]? = some x)(hk:X.env.kindOf x=some .local)
  (h:∀s',Inv X pins (σ.set i none) H s'->Q () s'):wpAny M A (do bindName X.env x .none;unbindBehindTheSuite X.env x pos) Q E s:=by
 obtain⟨m,hn,hl⟩:=id I.loc
 have IP:(X.env.scope.kind == .class || (X.env.scope.kind == .module && X.env.locals != X.env.globals))=false:=by rw[I.ok.kind];rfl
 have Fw:=I.Fw
 refine wpAny_nameGoes_keeps hk hn IP λh' v KC hs=>?_
 obtain⟨oL,_,_,Wj,_⟩:=id hn
 have above:∀b o,X.s₀.heap.get? b=some o->b ≠ X.env.locals:=λb o e=>ne_of_lt (lt_of_lt_of_le (lt_size e) I.ok.above)
 refine h _ ⟨I.ok,I.os,I.bare,⟨λb o e n hb hx=>(hs.2 b (above b o e)).trans (I.base.keep b o e n hb hx),λb o e n hb hx=>?_,I.base.free,λb o e hx=>?_,I.base.CC,I.base.C2,I.base.CD⟩,⟨_,KC,λj y v' e1 e2 e3=>?_⟩,λy c e=>?_,I.free,I.Bz,λp hp=>?_,λb ob e=>?_,by simpa using I.len⟩
 ·obtain⟨sl,e1⟩:=I.base.slot b o e n hb hx
  exact⟨sl,(hs.2 b (above b o e)).trans e1⟩
 ·obtain⟨o',e1⟩:=I.base.there b o e hx
  exact⟨o',(hs.2 b (above b o e)).trans e1⟩
 ·have hj:j ≠ i:=λz=>by
   subst z
   have B5:j < σ.length:=by rw[I.len];exact(gQ0 hi)
   rw[List.getElem?_set_self B5]at e2
   cases e2
  rw[getElem?_set_ne (Ne.symm hj)]at e2
  obtain⟨u',r',q⟩:=hl j y v' e1 e2 e3
  refine⟨u',r',?_⟩
  rcases q with ⟨k,e⟩ | ⟨k,c,e,z⟩
  ·refine .inl ⟨k,?_⟩
   have:y ≠ x:=λe=>hj (jz hN e1 (e ▸ hi))
   simp[this,e]
  ·exact .inr ⟨k,c,e,z.sameBut hs (Fw y c e)⟩
 ·obtain⟨w',z⟩:=I.cell y c e
  exact⟨w',z.sameBut hs (Fw y c e)⟩
 ·obtain⟨e,n,ne,nf,d⟩:=I.pin p hp
  exact⟨(hs.2 p.1 ne).trans e,n,ne,nf,d⟩
 ·refine(I.Bb b ob e).C1 (λc w' hc q=>(hs.2 c ?_).trans q) (λ_ q=>q) λ_ _ q=>q
  rintro rfl
  rcases hc with z | hc
  ·rw[←z,I.free]at e;cases e
  ·rw[I.free]at hc;cases hc
def yG(K:Frag)(c:Value)(i:Nat)(tb:i3->St->Hp->(St->XK)->Prop)(th:Addr->Obj->TS):TS:=λD σ H =>
 tb D σ H λσ' cls dd H'=>PySem.W.exmOne K cls c=some true/\∀ea oe vs,oe.cls=cls->oe.dict=dd->oe.data = .fields vs->H' ea=none ->
  th ea oe { nx:=λσ2 H2=>D.nx (σ2.set i none) H2,rt:=D.rt,bk:=λσ2 H2=>D.bk (σ2.set i none) H2,ct:=λσ2 H2=>D.ct (σ2.set i none) H2 } (σ'.set i (some (.ref ea))) H'
theorem ux(Dx:X.stack=X.env :: X.outer)(hfm:X.env.frame=some X.env.locals)
  (hN:X.N.Nodup) (hi:X.N[i]? = some n) (hk:X.env.kindOf n=some .local) (hg:Gl X y) (hm:X.mg y=some c) (hb:W6 X body tb) (hh:∀ea oe,DX (X.hand ea oe) (b₀ :: HR) (th ea oe))
  (Fy:autoParam ((y == ("__debug__":Str))=false) θ) :
  PS X (.Try body [.ExceptHandler (some (.Name y np)) (some n) (b₀ :: HR) RH] [] [] pos) (yG X.K c i tb th):=by
 intro pins s σ H D I h
 refine wpAny_Try_except (wpAny_mono (hb pins s σ H D _ I h) (λf s1 q=>?_) λev s1 ⟨σ1,e,cls,dd,ch,H1,ee,I1,Ja,Cr,hmt,q⟩=>?_)
 ·cases f with
  | next=>exact wpAny_execs_nil q
  | ret v=>exact q
  | brk=>exact q
  | cont=>exact q
 subst ee
 have I1s:s1.heap.FunFrames X.base (X.env :: X.outer):=Dx ▸ I1.stack
 refine ku (base:=X.base) (Dx ▸ I1.ok.frames) I1s hfm Ja λh2 ch2 F5 mv2 RI=>?_
 have I2:=I1.Di (h':=h2) (Dx ▸ mv2) λb hb=>⟨(Cr b hb).1,(Cr b hb).2.1,(Cr b hb).2.2,Ja.rec b hb⟩
 have GJ:∀b ∈ ch2,X.s₀.heap.get? b=none/\H1 b=none/\∀p ∈ X.pn ++ pins,p.1 ≠ b:=λb hb=>by
  rcases RI b hb with z | z
  ·exact Cr b z
  ·refine⟨Heap.get?_none_of_le (le_trans I1.sz z),I1.Bb.fresh z,λp hp z2=>?_⟩
   have:=lt_size (I1.pin p hp).1
   rw[z2]at this
   exact absurd this (Nat.not_lt.mpr z)
 have ty:PySem.W.Looks (model X.prog X.w) h2 (typeOf (.ref e)) cls:=by
  obtain⟨oe,vs,he,hc,_⟩:=F5
  exact hc ▸ (PySem.W.Looks.ld he).andThen .now
 refine wpAny_handleBy_cons (codeAny_handlers_test ?_) (by intro z;cases z)
 have eH:H1 e=none:=(GJ e F5.mem).2.1
 obtain⟨oe2,FY,FZ,Dy,hd2,hf2,_⟩:=id F5
 have J2:=I2.hand (ea:=e) (oe:=oe2) FZ hf2 eH
 refine gU J2 hg hm ?_ Fy
 refine PySem.W.exm_one I2.BO ty hmt (X.A.mark (some (.ref e))) _ _ ⟨h2,s1.gens,s1.drawn,s1.toks,s1.os⟩ (λ_ _ z=>z) ?_
 refine codeAny_handlers_suite_as ?_
 refine rK (fs:=kE X.stack) F5 λh3 RJ mv3=>?_
 have I3:=I2.Di (h':=h3) mv3 λb hb=>⟨(GJ b hb).1,(GJ b hb).2.1,(GJ b hb).2.2,F5.rec b hb⟩
 obtain⟨oe,vs,he,hc,hd,hf,_⟩:=id RJ
 have J3:=I3.hand (ea:=e) (oe:=oe) he hf eH
 refine gA (X:=X.hand e oe) J3 hN hi (.inl hk) (v := .ref e) rfl (λs4 J4=>?_) (.inr hk)
 refine wpAny_mono (hh e oe pins s4 _ H1 _ J4 (q e oe vs hc hd hf eH)) (λf s5 q5=>?_) λ_ _ z=>False.elim z
 dsimp only
 cases f with
 | next =>
  obtain⟨σ5,H5,J5,q5⟩:=q5
  exact iU (J5.Dj I.ok) hN hi hk λs6 I6=>⟨_,H5,I6,q5⟩
 | brk =>
  obtain⟨σ5,H5,J5,q5⟩:=q5
  exact iU (J5.Dj I.ok) hN hi hk λs6 I6=>⟨_,H5,I6,q5⟩
 | cont =>
  obtain⟨σ5,H5,J5,q5⟩:=q5
  exact iU (J5.Dj I.ok) hN hi hk λs6 I6=>⟨_,H5,I6,q5⟩
 | ret u =>
  obtain⟨v,σ5,H5,J5,rv,q5⟩:=q5
  exact iU (J5.Dj I.ok) hN hi hk λs6 I6=>⟨v,_,H5,I6,rv,q5⟩
end L2
namespace PySem
open Sem (wp)
open AutoSeq1 (wpAny_loadPart')
theorem eG(l:Addr)(items:Array Value)(n:Nat)(Ke:Option Addr)(sl:Array (Option Value)) :
  Meets (Builtin.«enumerate.__new__» ⟨[.type "enumerate", .ref l],[]⟩) (λ_ R s=>s.heap.get? l=some { cls := .type "tuple",dict:=Ke,data := .seq items n,slots:=sl } /\
   R (.ok (.ret (.ref (s.heap.push { cls := .type "tuple_iterator",data := .fields #[.ref l, .int 0 0] }).objs.size)))
    { s with heap:=(s.heap.push { cls := .type "tuple_iterator",data := .fields #[.ref l, .int 0 0] }).push { cls := .type "enumerate",data := .fields #[.none, .bool false, .ref s.heap.objs.size,rawInt 0, .none, .none] } }) :=
 .of_wp λprog w A R s h=>by
  obtain⟨hp,g,d,tk,os⟩:=s;obtain⟨hl,h⟩:=h
  have LH:=sub_enumerate
  have hL:Heap.IsTuple (Shared.heap ⟨hp,g,d,tk,os⟩) l items:=⟨_,hl,rfl,n,rfl⟩
  wp_walk using wpAny_loadPart' hl
  refine wpAny_stack_any λst=>wpAny_pure ?_
  split
  ·rename_i c _ _ _ _ _
   cases (c == Value.type "enumerate")
   ·wp_walk using wpAny_loadPart' hl,wpAny_pyIter_tuple hL
    exact⟨_,rfl,h⟩
   ·wp_walk using wpAny_loadPart' hl,wpAny_pyIter_tuple hL
    exact⟨_,rfl,h⟩
  ·wp_walk using wpAny_loadPart' hl,wpAny_pyIter_tuple hL
   exact⟨_,rfl,h⟩
section
variable {prog:Program}{w:World}{A:Around}{E:Value->Shared->Prop}{s:Shared}
theorem eI(hL:s.heap.IsTuple l items)
  (h:∀h',IsEnum h' (s.heap.objs.size + 1) s.heap.objs.size 0 .none->h'.IsTupleIter s.heap.objs.size l 0->h'.objs.size=s.heap.objs.size + 2 ->
   (∀b o,s.heap.get? b=some o->h'.get? b=some o)->Q (.ref (s.heap.objs.size + 1)) { s with heap:=h' }) :
  wpAny (model prog w) A (call (.type "enumerate") [.ref l]) Q E s:=by
 obtain⟨⟨c,Ke,dt,sl⟩,hl,hc,n,hd⟩:=hL
 replace hc:c = .type "tuple":=hc
 replace hd:dt = .seq items n:=hd
 subst hc hd
 refine callType_new F.called_enumerate (by decide) (F.typeCall_enumerate_1 _) (F.newCall_enumerate_1 _) (λobj=>F.args_object_init_2 obj _) F.entry_enumerate_new
  (eG l items n Ke sl) ⟨hl,?_⟩
 have hz:(s.heap.push { cls := .type "tuple_iterator",data := .fields #[.ref l, .int 0 0] }).objs.size=s.heap.objs.size + 1:=size_push ..
 show _/\_
 rw[hz]
 have he:IsEnum ((s.heap.push { cls := .type "tuple_iterator",data := .fields #[.ref l, .int 0 0] }).push
   { cls := .type "enumerate",data := .fields #[.none, .bool false, .ref s.heap.objs.size,rawInt 0, .none, .none] }) (s.heap.objs.size + 1) s.heap.objs.size 0 .none:=by
  have:=Heap.get?_push_size (s.heap.push { cls := .type "tuple_iterator",data := .fields #[.ref l, .int 0 0] })
   (o:={ cls := .type "enumerate",data := .fields #[.none, .bool false, .ref s.heap.objs.size,rawInt 0, .none, .none] }) rfl
  rw[hz]at this;exact this
 refine⟨⟨_,he,rfl⟩,h _ he ⟨_,Heap.get?_push_of_some _ (Heap.get?_push_size _ rfl),rfl,rfl⟩ (by rw[size_push,hz]) λb o x=>Heap.get?_push_of_some _ (Heap.get?_push_of_some _ x)⟩
theorem fQ(hit:s.heap.IsTupleIter it l i)
  (hl:s.heap.IsTuple l items) (hx:items[i]? = some x)
  (hQ:∀h',h'.IsTupleIter it l (i + 1)->Heap.SameBut it s.heap h'->Q x { s with heap:=h' }) :
  wpAny (model prog w) A (Builtin.SmallTypes.nextOf (.ref it)) Q E s:=by
 obtain⟨o,ho,hc,hd⟩:=id hit
 obtain⟨ol,HS,_,nl,LJ⟩:=hl
 unfold Builtin.SmallTypes.nextOf
 refine wpAny_bind (wpAny_callSpecial?_slot (name:=Str.ofString "__next__") hit.typeIs F.slot_tuple_iterator_next
  (wpAny_call_entry F.slot_tuple_iterator_next hit.typeIs F.entry_tuple_iterator_next ?_ (F.args_tuple_iterator_next_1 _)))
 show wpAny _ _ (field (.ref it) 0 >>= _) _ _ s
 refine wpAny_bind (wpAny_field ho hd (x := .ref l) rfl ?_)
 show wpAny _ _ (if (Value.ref l == Value.none)=true then _ else _) _ _ s
 rw[if_neg (show ¬((Value.ref l == Value.none)=true) from Bool.false_ne_true)]
 show wpAny _ _ (field (.ref it) 1 >>= _) _ _ s
 refine wpAny_bind (wpAny_field ho hd (x := .int i 0) rfl ?_)
 show wpAny _ _ (seqItems? (.ref l) >>= _) _ _ s
 refine wpAny_bind (wpAny_seqItems HS LJ ?_)
 simp only[toNat_natCast,hx]
 refine wpAny_bind (wpAny_setField ho hd (by simp) (wpAny_pure ⟨x,rfl,wpAny_pure (hQ _ ?_ (Heap.SameBut.update ..))⟩))
 exact⟨_,Heap.get?_update_self _ ho (Obj.isFreed_of_fields (Obj.data_mapFields hd _)),(Obj.cls_mapFields ..).trans hc,by
  rw[Obj.data_mapFields hd];simp[rawInt]⟩
theorem fZ(hh:A.handled=none)
  (hit:s.heap.IsTupleIter it l i) (hl:s.heap.IsTuple l items) (hx:items[i]? = none)
  (hE:∀h' e,Heap.ExtBut it s.heap h'->(∃o,h'.get? e=some o/\o.cls = .type "StopIteration")->E (.ref e) { s with heap:=h' }) :
  wpAny (model prog w) A (Builtin.SmallTypes.nextOf (.ref it)) Q E s:=by
 obtain⟨o,ho,hc,hd⟩:=id hit
 obtain⟨ol,HS,_,nl,LJ⟩:=hl
 unfold Builtin.SmallTypes.nextOf
 refine wpAny_bind (wpAny_callSpecial?_slot (name:=Str.ofString "__next__") hit.typeIs F.slot_tuple_iterator_next
  (wpAny_call_entry F.slot_tuple_iterator_next hit.typeIs F.entry_tuple_iterator_next ?_ (F.args_tuple_iterator_next_1 _)))
 show wpAny _ _ (field (.ref it) 0 >>= _) _ _ s
 refine wpAny_bind (wpAny_field ho hd (x := .ref l) rfl ?_)
 show wpAny _ _ (if (Value.ref l == Value.none)=true then _ else _) _ _ s
 rw[if_neg (show ¬((Value.ref l == Value.none)=true) from Bool.false_ne_true)]
 show wpAny _ _ (field (.ref it) 1 >>= _) _ _ s
 refine wpAny_bind (wpAny_field ho hd (x := .int i 0) rfl ?_)
 show wpAny _ _ (seqItems? (.ref l) >>= _) _ _ s
 refine wpAny_bind (wpAny_seqItems HS LJ ?_)
 simp only[toNat_natCast,hx]
 refine wpAny_bind (wpAny_rule (wpAny_bind (wpAny_setField ho hd (by simp) ?_)))
 show wpAny _ _ (newExc (.type "StopIteration") [] >>= _) _ _ _
 refine wpAny_bind ?_
 simp only[newExc,newTuple]
 refine wpAny_bind (wpAny_newObj_type ?_ (by size_fits))
 refine wpAny_bind (m:=firstArgMember _ _) (wpAny_of_eq (a:=Value.none) (by first | rfl | (simp only[firstArgMember];rfl)) ?_)
 refine wpAny_newObj_type ?_ (by size_fits)
 simp only[raiseNew]
 refine wpAny_bind (wpAny_handled ?_)
 first | rw[show A.in1.handled=none from hh] | rw[hh]
 refine wpAny_bind (wpAny_pure (wpAny_throw ?_))
 exact hE _ _ (((Heap.SameBut.update ..).extBut.push _).push _) ⟨_,Heap.get?_push_size _ rfl,rfl⟩
end
theorem fT(hh:A.handled=none)(it l:Addr)(CZ:l ≠ it)(items:Array Value) :
  Draws prog w A it [it,l] items.size (λi v=>items[i]? = some v) (λi h=>h.IsTupleIter it l i/\h.IsTuple l items) where
 live:=λ_ _ st=>let ⟨o,ho,_⟩:=st.1; ⟨o,ho⟩
 frame:=λ_ _ _ st hk=>⟨st.1.at λo e=>hk it (by simp) o e,let ⟨o,ho,r⟩:=st.2; ⟨o,hk l (by simp) o ho,r⟩⟩
 item:=λi s Q E hi st hQ=>by
  refine fQ st.1 st.2 (x:=items[i]) (by simp[hi]) λh' RK HU=>?_
  exact hQ _ h' s.toks (by simp[hi]) ⟨RK,let ⟨o,ho,r⟩:=st.2; ⟨o,HU.extBut l o CZ ho,r⟩⟩ HU
 done:=λs Q E st hE=>fZ hh st.1 st.2 (by simp) hE
end PySem
namespace L2
open PySem PySem.Spec PyProof.Rows
section
variable {X:Cx}{pins:List (Addr × Obj)}{σ:St}{H:Hp}{s:Shared}
theorem Inv.Jc{a b p:Addr}(I:Inv X pins σ H s)(fa:fS X pins H a)(fb:fS X pins H b)(hp:s.heap.objs.size <= p)
  (k:∀c o,c ≠ a->c ≠ b->s.heap.get? c=some o->h'.get? c=some o) (ka:∃o,h'.get? a=some o) (kb:∃o,h'.get? b=some o) (hl:xs.length <= sizeLine) (r:Vals xs us) (ht:BM h' p us.toArray) :
  Inv X pins σ (upd H p (.tup xs)) { s with heap:=h',toks:=t' }:=by
 have hf:H p=none:=I.Bb.fresh hp
 have nt:∀c u,H c=some u->c ≠ p:=λc u q z=>by rw[z,hf]at q;cases q
 have lt:∀c o,s.heap.get? c=some o->c ≠ p:=λc o q=>ne_of_lt (lt_of_lt_of_le (lt_size q) hp)
 have ne:∀c,c ∉ [a,b]->c ≠ a/\c ≠ b:=λc hc=>by simpa using hc
 refine I.call (g':=s.gens) (d':=s.drawn) (ch:=[a,b]) ⟨λc o e n h1 h2=>k c o (ne c h2).1 (ne c h2).2 e,λc o e n h1 h2=>⟨o.slots,k c o (ne c h2).1 (ne c h2).2 e⟩,λc o e n h2=>by rw[ah (lt c o e)];exact n,
  λc o e h2=>⟨o,k c o (ne c h2).1 (ne c h2).2 e⟩,λc ys q=>by rw[ah (nt c _ q)];exact q,λc o u q=>by rw[ah (nt c _ q)];exact q,λc ps q=>⟨#[],by rw[ah (nt c _ q),q];simp⟩⟩ (λc u q=>?_) I.bare λc hc=>?_
 ·by_cases hc:c=p
  ·subst hc
   rw[ad]at q
   cases q
   exact⟨hl,us,r,ht⟩
  ·rw[ah hc]at q
   refine(I.Bb c u q).C1 (λd v hd z=>?_) (λd z=>by rw[ah (nt d _ z)];exact z) λd ys z=>by rw[ah (nt d _ z)];exact z
   have nd:∀e,H e=none->d ≠ e:=λe he w=>by
    rcases hd with rfl | hd
    ·rw[w,he]at q;cases q
    ·rw[w,he]at hd;cases hd
   exact k d v (nd a fa.1) (nd b fb.1) z
 ·have HH:c=a∨c=b:=by simpa using hc
  rcases HH with rfl | rfl
  ·obtain⟨_,f1,_,f3,f4,f5⟩:=fa;exact⟨f3,f1,f4,f5⟩
  ·obtain⟨_,f1,_,f3,f4,f5⟩:=fb;exact⟨f3,f1,f4,f5⟩
theorem Inv.E3(I:Inv X pins σ H s)(fa:fS X pins H a)(fb:fS X pins H b)
  (k:∀c o,c ≠ a->c ≠ b->s.heap.get? c=some o->h'.get? c=some o):Inv X pins σ H { s with heap:=h',toks:=t' }:=by
 have ne:∀c,c ∉ [a,b]->c ≠ a/\c ≠ b:=λc hc=>by simpa using hc
 refine I.call (g':=s.gens) (d':=s.drawn) (ch:=[a,b]) ⟨λc o e n h1 h2=>k c o (ne c h2).1 (ne c h2).2 e,λc o e n h1 h2=>⟨o.slots,k c o (ne c h2).1 (ne c h2).2 e⟩,λc o e n h2=>n,
  λc o e h2=>⟨o,k c o (ne c h2).1 (ne c h2).2 e⟩,λc ys q=>q,λc o u q=>q,λc ps q=>⟨#[],by rw[q];simp⟩⟩ (λc u q=>?_) I.bare λc hc=>?_
 ·refine(I.Bb c u q).C1 (λd v hd z=>?_) (λd z=>z) λd ys z=>z
  have nd:∀e,H e=none->d ≠ e:=λe he w=>by
   rcases hd with rfl | hd
   ·rw[w,he]at q;cases q
   ·rw[w,he]at hd;cases hd
  exact k d v (nd a fa.1) (nd b fb.1) z
 ·have HH:c=a∨c=b:=by simpa using hc
  rcases HH with rfl | rfl
  ·obtain⟨_,f1,_,f3,f4,f5⟩:=fa;exact⟨f3,f1,f4,f5⟩
  ·obtain⟨_,f1,_,f3,f4,f5⟩:=fb;exact⟨f3,f1,f4,f5⟩
theorem kG{n i:Nat}{xs:List V}
  (D:Draws X.prog X.w X.A.in1 it fp n P Sx) (I:Inv X pins σ H s) (he:IsEnum s.heap e it i old) (Dx:Sx i s.heap) (B5:i < n) (CZ:e ≠ it) (W7:e ∉ fp) (fe:fS X pins H e) (fi:fS X pins H it)
  (hP:∀v,P i v->∃x,xs[i]? = some x/\RelV x v) :
  wpAny (model X.prog X.w) X.A (pyNext (.ref e)) (λr s1=>∃u,r=some u/\wpAny (model X.prog X.w) X.A (letOwnedTupleGo (.Tuple elts kk pos) (.ref e) u) (λ_ s2=>∃p x,xs[i]? = some x/\H p=none/\u = .ref p /\
   Inv X pins σ (upd H p (.tup [.int i,x])) s2/\(∃old,IsEnum s2.heap e it ((i + 1:Nat):Int) old)/\Sx (i + 1) s2.heap/\p ≠ e/\p ≠ it) E s1) E s:=by
 refine wpAny_pyNext_enum_itemD D he Dx B5 CZ W7 λx h' tk hx ho HU hT hsz hk=>⟨_,rfl,?_⟩
 refine wpAny_letOwnedTupleGo_enum ho λh2 FZ EG=>?_
 obtain⟨y,hy,ry⟩:=hP x hx
 have HV:e < s.heap.objs.size:=lt_size he
 have hie:it < s.heap.objs.size:=by obtain⟨_,z⟩:=D.live _ _ Dx;exact lt_size z
 have LK:Sx (i + 1) h2:=D.frame _ _ _ HU λb hb o z=>(EG.2 b λq=>W7 (q ▸ hb)).trans z
 refine⟨s.heap.objs.size,y,hy,I.Bb.fresh (le_refl _),rfl,?_,⟨x,by simpa using FZ⟩,LK,ne_of_gt HV,ne_of_gt hie⟩
 refine Inv.Jc (s:=s) (h':=h2) (t':=tk + 1) I fe fi (le_refl _) (λc o h1 GK z=>(EG.2 c h1).trans (hk c o h1 GK z)) ⟨_,FZ⟩ (let ⟨o,z⟩:=D.live _ _ LK; ⟨o,z⟩) (by show 2 <= sizeLine;decide) (us:=[.int i tk,x]) (.cons ⟨tk,rfl⟩ (.cons ry .nil)) ?_
 exact⟨_,(EG.2 _ (ne_of_gt HV)).trans hT,⟨rfl,_,rfl⟩,rfl⟩
end
noncomputable def AL(sq:Hp->List V->Prop):It :=
 ⟨λi H=>∃xs x,sq H xs/\xs[i]? = some x,λi H v H'=>∃p,H p=none/\v = .ref p/\∀xs,sq H xs->∃x,xs[i]? = some x/\H' = upd H p (.tup [.int i,x]),λi H=>∃xs,sq H xs/\xs.length=i⟩
theorem nY{K:Frag}(a e it:Addr)(CZ:e ≠ it):nK P w K (.Tuple elts kk pos) (AL λH=>AV K H a) [e,it] e (λi h=>(∃old,IsEnum h e it (i:Int) old)/\h.IsListIter it a i) where
 mem:=by simp
 obj:=λi h st b hb=>by
  obtain⟨⟨old,he⟩,o,ho,c,d⟩:=st
  have CA:b=e∨b=it:=by simpa using hb
  rcases CA with rfl | rfl
  ·exact⟨_,he,λv z=>by have z':Data.fields _=Data.cell v:=z;cases z'⟩
  ·exact⟨o,ho,λv z=>by rw[d]at z;cases z⟩
 keep:=λi h h' st k=>by
  obtain⟨⟨old,he⟩,hi⟩:=st
  exact⟨⟨old,k e (by simp) _ he⟩,hi.at λo z=>k it (by simp) o z⟩
 item:=by
  intro X hP hw hK hc i pins s σ H E I hf st hg
  subst hP hw hK
  obtain⟨xs,x,hq,hx⟩:=hg
  obtain⟨AW,rv,p,hz⟩:=I.list hq
  obtain⟨⟨old,he⟩,hi⟩:=st
  have hl:i < AW.toArray.size:=by
   have:=(gQ0 hx)
   have l2:=rv.length
   simp;omega
  have RL:e ≠ a:=by
   rintro rfl
   obtain⟨o,ho,El,_⟩:=p.isList
   rw[he]at ho;cases ho
   injection El with z;exact absurd z (by decide)
  have Jd:a ≠ it:=by
   rintro rfl
   obtain⟨o,ho,El,_⟩:=p.isList
   obtain⟨o2,Ct,Dy,_⟩:=hi
   rw[ho]at Ct;cases Ct;rw[El]at Dy
   injection Dy with z;exact absurd z (by decide)
  refine aZ (kG (xs:=xs) (Draws.list (A:=X.A.in1) (I.ok.hd hc) it a Jd AW.toArray) I he ⟨hi,p.isList⟩ hl CZ (by simp only[mem_cons,not_mem_nil,or_false,not_or];exact⟨CZ,RL⟩) (hf e (by simp)) (hf it (by simp)) λv hv=>?_) λr s1 ⟨u,hr,h1⟩=>⟨u,hr,aZ h1 λ_ s2 ⟨q,y,hy,RM,hu,I2,FZ,EG,n1,n2⟩=>?_⟩
  ·obtain⟨u,hu,ru⟩:=rv.get hx
   have e1:AW[i]? = some v:=by simpa using hv
   rw[hu]at e1;cases e1
   exact⟨x,hx,ru⟩
  ·refine⟨.ref q,_,I2,hu,⟨q,RM,rfl,λzs RN=>⟨y,by rw[I.DA RN hq];exact hy,rfl⟩⟩,⟨FZ,EG.1⟩,λb hb=>?_⟩
   have CA:b=e∨b=it:=by simpa using hb
   rcases CA with rfl | rfl
   ·rw[ah (Ne.symm n1)];exact(hf b (by simp)).1
   ·rw[ah (Ne.symm n2)];exact(hf b (by simp)).1
 done:=by
  intro X hP hw hK hc i pins s σ H E I hf st hg
  subst hP hw hK
  obtain⟨xs,hq,hx⟩:=hg
  obtain⟨AW,rv,p,hz⟩:=I.list hq
  obtain⟨⟨old,he⟩,hi⟩:=st
  have hl:i=AW.toArray.size:=by have l2:=rv.length;simp;omega
  have Jd:a ≠ it:=by
   rintro rfl
   obtain⟨o,ho,El,_⟩:=p.isList
   obtain⟨o2,Ct,Dy,_⟩:=hi
   rw[ho]at Ct;cases Ct;rw[El]at Dy
   injection Dy with z;exact absurd z (by decide)
  refine wpAny_pyNext_enum_endD (Draws.list (A:=X.A.in1) (I.ok.hd hc) it a Jd AW.toArray) he (by rw[←hl];exact⟨hi,p.isList⟩) λh' Ff=>⟨rfl,?_⟩
  exact I.E3 (t':=s.toks) (hf e (by simp)) (hf it (by simp)) λc o h1 h2 z=>Ff c o h2 z
 self:=λ_ _ _ _ _ st h=>by
  obtain⟨⟨old,he⟩,_⟩:=st
  exact wpAny_pyIter_enum he h
theorem nX{K:Frag}(a e it:Addr)(CZ:e ≠ it):nK P w K (.Tuple elts kk pos) (AL λH=>AZ K H a) [e,it] e (λi h=>(∃old,IsEnum h e it (i:Int) old)/\h.IsTupleIter it a i) where
 mem:=by simp
 obj:=λi h st b hb=>by
  obtain⟨⟨old,he⟩,o,ho,c,d⟩:=st
  have CA:b=e∨b=it:=by simpa using hb
  rcases CA with rfl | rfl
  ·exact⟨_,he,λv z=>by have z':Data.fields _=Data.cell v:=z;cases z'⟩
  ·exact⟨o,ho,λv z=>by rw[d]at z;cases z⟩
 keep:=λi h h' st k=>by
  obtain⟨⟨old,he⟩,hi⟩:=st
  exact⟨⟨old,k e (by simp) _ he⟩,hi.at λo z=>k it (by simp) o z⟩
 item:=by
  intro X hP hw hK hc i pins s σ H E I hf st hg
  subst hP hw hK
  obtain⟨xs,x,hq,hx⟩:=hg
  obtain⟨AW,rv,p,hz⟩:=I.tuple hq
  have pt:s.heap.IsTuple a AW.toArray:=p
  obtain⟨⟨old,he⟩,hi⟩:=st
  have hl:i < AW.toArray.size:=by
   have:=(gQ0 hx)
   have l2:=rv.length
   simp;omega
  have RL:e ≠ a:=by
   rintro rfl
   obtain⟨o,ho,El,_⟩:=pt
   rw[he]at ho;cases ho
   injection El with z;exact absurd z (by decide)
  have Jd:a ≠ it:=by
   rintro rfl
   obtain⟨o,ho,El,_⟩:=pt
   obtain⟨o2,Ct,Dy,_⟩:=hi
   rw[ho]at Ct;cases Ct;rw[El]at Dy
   injection Dy with z;exact absurd z (by decide)
  refine aZ (kG (xs:=xs) (fT (A:=X.A.in1) (I.ok.hd hc) it a Jd AW.toArray) I he ⟨hi,pt⟩ hl CZ (by simp only[mem_cons,not_mem_nil,or_false,not_or];exact⟨CZ,RL⟩) (hf e (by simp)) (hf it (by simp)) λv hv=>?_) λr s1 ⟨u,hr,h1⟩=>⟨u,hr,aZ h1 λ_ s2 ⟨q,y,hy,RM,hu,I2,FZ,EG,n1,n2⟩=>?_⟩
  ·obtain⟨u,hu,ru⟩:=rv.get hx
   have e1:AW[i]? = some v:=by simpa using hv
   rw[hu]at e1;cases e1
   exact⟨x,hx,ru⟩
  ·refine⟨.ref q,_,I2,hu,⟨q,RM,rfl,λzs RN=>⟨y,by rw[I.CY RN hq];exact hy,rfl⟩⟩,⟨FZ,EG.1⟩,λb hb=>?_⟩
   have CA:b=e∨b=it:=by simpa using hb
   rcases CA with rfl | rfl
   ·rw[ah (Ne.symm n1)];exact(hf b (by simp)).1
   ·rw[ah (Ne.symm n2)];exact(hf b (by simp)).1
 done:=by
  intro X hP hw hK hc i pins s σ H E I hf st hg
  subst hP hw hK
  obtain⟨xs,hq,hx⟩:=hg
  obtain⟨AW,rv,p,hz⟩:=I.tuple hq
  have pt:s.heap.IsTuple a AW.toArray:=p
  obtain⟨⟨old,he⟩,hi⟩:=st
  have hl:i=AW.toArray.size:=by have l2:=rv.length;simp;omega
  have Jd:a ≠ it:=by
   rintro rfl
   obtain⟨o,ho,El,_⟩:=pt
   obtain⟨o2,Ct,Dy,_⟩:=hi
   rw[ho]at Ct;cases Ct;rw[El]at Dy
   injection Dy with z;exact absurd z (by decide)
  refine wpAny_pyNext_enum_endD (fT (A:=X.A.in1) (I.ok.hd hc) it a Jd AW.toArray) he (by rw[←hl];exact⟨hi,pt⟩) λh' Ff=>⟨rfl,?_⟩
  exact I.E3 (t':=s.toks) (hf e (by simp)) (hf it (by simp)) λc o h1 h2 z=>Ff c o h2 z
 self:=λ_ _ _ _ _ st h=>by
  obtain⟨⟨old,he⟩,_⟩:=st
  exact wpAny_pyIter_enum he h
section
variable {X:Cx}{elts:List Expr}{kk:Nat}{DB p pos:Pos}{a:Expr}{ta:TE}
def RO(K:Frag)(t:TA):TI:=λσ H R=>t σ H λvs H1=>∃a,vs=[.ref a]/\(∃xs,AV K H1 a xs)/\R (AL λH=>AV K H a) H1
def RP(K:Frag)(t:TA):TI:=λσ H R=>t σ H λvs H1=>∃a,vs=[.ref a]/\(∃xs,AZ K H1 a xs)/\R (AL λH=>AZ K H a) H1
theorem mD(hg:Gl X "enumerate")(hm:X.mg "enumerate" = none)(ha:PA X [a] t)(hs:autoParam (starEach [a] X.env=[(false,eval a X.env)]) η):PI X (.Tuple elts kk DB) (.Call (.Name "enumerate" p) [a] [] pos) (RO X.K t):=by
 intro pins s σ H R I h
 refine Call_ (gj I hg hm boot_enumerate (PyProof.Rows.callWith_type1 (aZ (ha pos pins s σ H _ I h) λus s1 AU=>?_) hs rfl))
 obtain⟨vs,H1,I1,r1,q1⟩:=AU
 obtain⟨l,e,⟨xs,hq⟩,q⟩:=q1
 subst e
 cases r1 with
 | cons r rr =>
  cases rr
  cases r
  obtain⟨AW,rv,pp,hz⟩:=I1.list hq
  refine call_enumerate_list pp.isList λh' he hit hsz hk=>?_
  have I2:Inv X pins σ H1 { s1 with heap:=h' }:=I1.kept (t':=s1.toks) hk
  refine wpAny_pyIter_enum (s:={ s1 with heap:=h' }) he ?_
  refine⟨_,_,_,_,H1,rfl,I2,nY l _ s1.heap.objs.size (Nat.succ_ne_self _),⟨⟨_,he⟩,hit⟩,λb hb=>?_,q⟩
  have CA:b=s1.heap.objs.size + 1∨b=s1.heap.objs.size:=by simpa using hb
  have hle:s1.heap.objs.size <= b:=by
   rcases CA with e | e
   ·rw[e];exact le_succ _
   ·rw[e];exact le_refl _
  exact I1.EF hle (I1.Bb.fresh hle)
theorem mB(hg:Gl X "enumerate")(hm:X.mg "enumerate" = none)(ha:PA X [a] t)(hs:autoParam (starEach [a] X.env=[(false,eval a X.env)]) η):PI X (.Tuple elts kk DB) (.Call (.Name "enumerate" p) [a] [] pos) (RP X.K t):=by
 intro pins s σ H R I h
 refine Call_ (gj I hg hm boot_enumerate (PyProof.Rows.callWith_type1 (aZ (ha pos pins s σ H _ I h) λus s1 AU=>?_) hs rfl))
 obtain⟨vs,H1,I1,r1,q1⟩:=AU
 obtain⟨l,e,⟨xs,hq⟩,q⟩:=q1
 subst e
 cases r1 with
 | cons r rr =>
  cases rr
  cases r
  obtain⟨AW,rv,pp,hz⟩:=I1.tuple hq
  refine eI (show s1.heap.IsTuple l AW.toArray from pp) λh' he hit hsz hk=>?_
  have I2:Inv X pins σ H1 { s1 with heap:=h' }:=I1.kept (t':=s1.toks) hk
  refine wpAny_pyIter_enum (s:={ s1 with heap:=h' }) he ?_
  refine⟨_,_,_,_,H1,rfl,I2,nX l _ s1.heap.objs.size (Nat.succ_ne_self _),⟨⟨_,he⟩,hit⟩,λb hb=>?_,q⟩
  have CA:b=s1.heap.objs.size + 1∨b=s1.heap.objs.size:=by simpa using hb
  have hle:s1.heap.objs.size <= b:=by
   rcases CA with e | e
   ·rw[e];exact le_succ _
   ·rw[e];exact le_refl _
  exact I1.EF hle (I1.Bb.fresh hle)
end
theorem ng{g:TG}{tb:TS}{D:i3}(Pv:Nat->St->Hp->Prop)(h0:Pv 0 σ H)(hl:∀i σ H,i <= xs.length->Pv i σ H->sq H xs)
  (hs:∀i x p σ H,xs[i]? = some x->Pv i σ H->H p=none->g (.ref p) σ (upd H p (.tup [.int i,x])) λσ2 H2=>tb { D with nx:=Pv (i + 1),ct:=Pv (i + 1),bk:=D.nx } σ2 H2) (hd:∀σ H,Pv xs.length σ H->D.nx σ H) :
  ∃W:Nat->Nat->St->Hp->Prop,(∃m,W 0 m σ H)/\∀i m σ H,W i m σ H ->
   ((AL sq).stop i H/\D.nx σ H)∨((AL sq).go i H/\∃N:St->Hp->Prop,(∀σ' H',N σ' H'->∃m',m' < m/\W (i + 1) m' σ' H')/\∀x H',(AL sq).FV i H x H'->g x σ H' λσ2 H2=>tb { D with nx:=N,ct:=N,bk:=D.nx } σ2 H2):=by
 refine⟨λi m σ H=>m=xs.length - i/\i <= xs.length/\Pv i σ H,⟨xs.length,by simp,zero_le _,h0⟩,?_⟩
 rintro i m σ H ⟨rfl,hi,p⟩
 have q:=hl i σ H hi p
 by_cases B5:i < xs.length
 ·refine .inr ⟨⟨xs,xs[i],q,by simp[B5]⟩,Pv (i + 1),λσ' H' p'=>⟨xs.length - (i + 1),by omega,rfl,B5,p'⟩,λx H' y=>?_⟩
  obtain⟨pp,hn,rfl,hx⟩:=y
  obtain⟨x',Ff,e⟩:=hx xs q
  subst e
  exact hs i x' pp σ H Ff p hn
 ·have e:i=xs.length:=by omega
  subst e
  exact .inl ⟨⟨xs,q,rfl⟩,hd σ H p⟩
def Cu(d:PyData)(m:Nat):Prop:=d.canLay0=true/\d.depth <= m
theorem Cu.shaped(h:Cu d m)(hm:m <= 64):SeqAt.shaped d=true:=by
 unfold SeqAt.shaped
 rw[h.1,decide_eq_true (le_trans h.2 hm)];rfl
theorem bV(i:Int):Cu (.int i) 0:=⟨by simp[PyData.canLay0],by simp[PyData.depth]⟩
theorem F6:Cu .none 0:=⟨by simp[PyData.canLay0],by simp[PyData.depth]⟩
theorem lj :∀{ds:List PyData},(∀d ∈ ds,Cu d m)->PyData.canLayAll0 ds=true/\PyData.depthAll ds <= m
 | [],_=>⟨by simp[PyData.canLayAll0],by simp[PyData.depthAll]⟩
 | d :: r,h=>by
  obtain⟨a,b⟩:=lj (ds:=r) λz hz=>h z (mem_cons_of_mem _ hz)
  obtain⟨c,e⟩:=h d mem_cons_self
  exact⟨by simp[PyData.canLayAll0,c,a],by simp only[PyData.depthAll];omega⟩
theorem c8(h:∀d ∈ ds,Cu d m):Cu (.list ds) (m + 1):=by
 obtain⟨a,b⟩:=lj h
 exact⟨by simp[PyData.canLay0,a],by simp only[PyData.depth];omega⟩
theorem cG(h:∀d ∈ ds,Cu d m):Cu (.tuple ds) (m + 1):=by
 obtain⟨a,b⟩:=lj h
 exact⟨by simp[PyData.canLay0,a],by simp only[PyData.depth];omega⟩
theorem RQ{K:Frag}(h1:Den K H x d)(h2:Den K H y d)(s:Cu d 64)(q:Q (.bl false) H):zt K x y H Q :=
 ⟨d,d,h1,h2,s.shaped (le_refl _),s.shaped (le_refl _),by rw[SeqAt.eqv_refl d s.1];exact q⟩
theorem Cu.le(h:Cu d m)(l:m <= n):Cu d n:=⟨h.1,le_trans h.2 l⟩
end L2
namespace L2
open PySem
theorem nv(p:Nat->Bool)(f:Nat->V)(hn:n < sizeLine)
  (hs:∀(i:Nat)(acc:List V)(N:List V->Hp->Prop),i < n->N (if p i then acc ++ [f i] else acc) H->g (.int (lo + i)) σ0 H λσ2 H2=>tt σ2 H2 λb H3=>if b=true then te σ2 H3 λy H4=>N (acc ++ [y]) H4 else N acc H3)
  (hq:∀D,H D=none->Q (.ref D) (upd H D (.lst (((List.range n).filter p).map f)))) :
  dC (so lo n) g tt te σ0 Q H:=by
 refine⟨λi m acc H'=>m=n - i/\i <= n/\H' = H/\acc=((List.range i).filter p).map f,⟨n,by simp,zero_le _,rfl,rfl⟩,?_⟩
 rintro i m acc H' ⟨rfl,hi,rfl,rfl⟩
 have hl:(((List.range i).filter p).map f).length < sizeLine:=by
  rw[length_map]
  have:=length_filter_le p (List.range i)
  rw[length_range]at this
  omega
 refine⟨hl,?_⟩
 by_cases B5:i < n
 ·refine .inr ⟨B5,λBx H2=>H2=H'/\Bx = ((List.range (i + 1)).filter p).map f,λBx H2 AU=>by obtain⟨h1,h2⟩:=AU;exact⟨n - (i + 1),by omega,rfl,B5,h1,h2⟩,λx H2 y=>?_⟩
  obtain⟨e,y⟩:=y
  subst e y
  refine hs i _ (λBx H3=>H3=H2/\Bx = ((List.range (i + 1)).filter p).map f) B5 ⟨rfl,?_⟩
  rw[range_succ,filter_append]
  cases hp:p i with
  | true=>simp[hp]
  | false=>simp[hp]
 ·have e:i=n:=by omega
  subst e
  exact .inl ⟨le_refl _,hq⟩
theorem eE(p:V->Bool)(f:V->V)(hn:xs.length < sizeLine)(ha:AV K H a xs)
  (hs:∀(x:V)(acc:List V)(N:List V->Hp->Prop),x ∈ xs->N (if p x then acc ++ [f x] else acc) H->g x σ0 H λσ2 H2=>tt σ2 H2 λb H3=>if b=true then te σ2 H3 λy H4=>N (acc ++ [y]) H4 else N acc H3)
  (hq:∀D,H D=none->Q (.ref D) (upd H D (.lst ((xs.filter p).map f)))) :
  dC (vZ K a) g tt te σ0 Q H:=by
 refine⟨λi m acc H'=>m=xs.length - i/\i <= xs.length/\H' = H/\acc=((xs.take i).filter p).map f,⟨xs.length,by simp,zero_le _,rfl,rfl⟩,?_⟩
 rintro i m acc H' ⟨rfl,hi,rfl,rfl⟩
 have hl:(((xs.take i).filter p).map f).length < sizeLine:=by
  rw[length_map]
  have h1:=length_filter_le p (xs.take i)
  have h2:=length_take_le i xs
  omega
 refine⟨hl,?_⟩
 by_cases B5:i < xs.length
 ·refine .inr ⟨⟨xs,xs[i],ha,by simp[B5]⟩,λBx H2=>H2=H'/\Bx = ((xs.take (i + 1)).filter p).map f,λBx H2 AU=>by obtain⟨h1,h2⟩:=AU;exact⟨xs.length - (i + 1),by omega,rfl,B5,h1,h2⟩,λx H2 y=>?_⟩
  obtain⟨e,y⟩:=y
  subst e
  have hx:=y xs ha
  refine hs x _ (λBx H3=>H3=H2/\Bx = ((xs.take (i + 1)).filter p).map f) (mem_of_getElem? hx) ⟨rfl,?_⟩
  rw[take_succ,hx,filter_append]
  cases hp:p x with
  | true=>simp[hp]
  | false=>simp[hp]
 ·have e:i=xs.length:=by omega
  subst e
  rw[take_length]
  exact .inl ⟨⟨xs,ha,le_refl _⟩,hq⟩
theorem iT(k:Int):∀ns:List Int,Kb (.int k) (ns.map V.int)=decide (k ∈ ns)
 | []=>by simp[Kb]
 | n :: r=>by
  have ih:=iT k r
  unfold Kb at ih ⊢
  rw[map_cons,any_cons,ih]
  show((n == k) || decide (k ∈ r))=decide (k ∈ n :: r)
  by_cases h:k=n
  ·subst h;simp
  ·have h':¬n=k:=λz=>h z.symm
   simp[h,h']
theorem fP:∀ns:List Int,(ns.map V.int).all gZ=true
 | []=>rfl
 | n :: r=>by rw[map_cons,all_cons,fP r];rfl
open PySem.Spec PyProof.Rows
section
open PySem.W
variable {prog:Program}{w:World}{A:Around}{E:Value->Shared->Prop}{s:Shared}{K:Frag}{x C:Addr}{name:Str}{v:Value}
end
section
variable {X:Cx}{o e value:Expr}{f:Str}{pos pos':Pos}{ta tv:TE}
end
end L2
namespace L2
open PySem
noncomputable def qC:Option Int->Value->Bool
 | none,v=>v == .none
 | some k,v=>Value.isInt k v
noncomputable def wM:Option Int->Int
 | none=>4238894112
 | some k=>hashInt k
theorem cu(h:qC k v=true):(k=none/\v = .none)∨∃i t,k=some i/\v = .int i t:=by
 cases k with
 | none=>exact .inl ⟨rfl,eq_of_beq h⟩
 | some i=>obtain⟨t,e⟩:=Value.isInt_shape h;exact .inr ⟨i,t,rfl,e⟩
section
variable {prog:Program}{w:World}{A:Around}{E:Value->Shared->Prop}{s:Shared}
theorem rR(h:Q 4238894112 { s with toks:=s.toks + 1 }):wpAny (model prog w) A (pyHash .none) Q E s:=by
 have hT:s.TypeIs .none "NoneType":=rfl
 unfold pyHash
 have hv:[Value.none].any Value.onHeap=false:=rfl
 refine wpAny_bind ?_
 rw[cRoomFor,if_neg (by rw[hv];exact Bool.false_ne_true)];refine wpAny_pure ?_
 refine wpAny_bind (wpAny_specialOf hT F.slot_NoneType_hash.lookup ?_)
 show wpAny _ _ (if (some (Value.builtin "NoneType.__hash__") == some Value.none)=true then _ else _) Q E s
 rw[if_neg (by rw[beq_builtin_none];exact Bool.false_ne_true)]
 refine wpAny_bind (wpAny_specialOf hT F.slot_NoneType_hash.lookup ?_)
 show wpAny _ _ (callSpecialIfBoundUnlessNone? .none "__hash__" _ >>= _) Q E s
 refine wpAny_bind (wpAny_callSpecialIfBoundUnlessNone?_slot hT F.slot_NoneType_hash (wpAny_call_entry F.slot_NoneType_hash hT F.entry_NoneType_hash
  (show wpAny _ _ (do ret (←mkInt 4238894112)) _ _ s from wpAny_ret_mkInt ?_) (F.args_NoneType_hash_1 _)))
 exact wpAny_pure h
theorem Av(hu:qC a u=true)(hv:qC b v=true)(h:Q (decide (a=b)) s):wpAny (model prog w) A (PySem.eqBool u v) Q E s:=by
 rcases cu hu with ⟨rfl,rfl⟩ | ⟨i,t,rfl,rfl⟩<;>rcases cu hv with ⟨rfl,rfl⟩ | ⟨j,t',rfl,rfl⟩
 ·unfold eqBool
  refine wpAny_holding ?_
  refine wpAny_ite_split (λ_=>wpAny_bind (wpAny_rule (wpAny_pure (by simpa using h)))) (λn=>absurd rfl n)
 ·exact PySem.SeqAt.EqAt.none_int j t' prog w E Q (by simpa using h)
 ·exact PySem.SeqAt.EqAt.int_none i t prog w E Q (by simpa using h)
 ·refine wpAny_eqBool_int ?_
  have e:(i == j)=decide (some i=some j):=by
   by_cases q:i=j
   ·simp[q]
   ·simp[q]
  rw[e];exact h
end
noncomputable def fO(prog:Program)(w:World):KeyKind prog w (Option Int) where
 is:=qC
 hash:=wM
 inj:=λv a b ha hb=>by
  rcases cu ha with ⟨rfl,rfl⟩ | ⟨i,t,rfl,rfl⟩<;>rcases cu hb with ⟨rfl,e⟩ | ⟨j,t',rfl,e⟩
  ·rfl
  ·cases e
  ·cases e
  ·cases e;rfl
 byValue:=λk v h=>by
  rcases cu h with ⟨_,rfl⟩ | ⟨i,t,_,rfl⟩<;>rfl
 pyHash:=λ{A E s k v Q} hv h=>by
  rcases cu hv with ⟨rfl,rfl⟩ | ⟨i,t,rfl,rfl⟩
  ·exact rR h
  ·exact wpAny_pyHash_int h
 eqBool:=λhu hv h=>Av hu hv h
 «strs»:=λk x t v h=>by
  rcases cu h with ⟨_,e⟩ | ⟨i,t,_,e⟩<;>cases e
open PySem.Spec PyProof.Rows
abbrev fY:=List (Option Int)
noncomputable def sm:Option Int->V
 | none => .Bj
 | some i => .int i
abbrev dX:=fY × Addr × V
abbrev jL(p:dX)(q:fY × Addr × Value):Prop:=p.1=q.1/\p.2.1=q.2.1/\RelV p.2.2 q.2.2
def AN(P:Program)(w:World)(a:Addr)(kvs:List dX):Heap->Prop:=λh=>kvs.length <= sizeLine/\(a == sysModules)=false/\∃xs,Paired jL kvs xs /\
 ∃o es ep,h.get? a=some o/\o.ExactDict/\o.data = .dict es ep/\es.toList=xs.map (entryOfKey (tupleKind (fO P w)))/\(xs.map (·.1)).Nodup
noncomputable def jM(P:Program)(w:World)(a:Addr)(kvs:List dX):HO := .ext (AN P w a kvs)
def B7(P:Program)(w:World)(H:Hp)(a:Addr)(kvs:List dX):Prop:=H a=some (jM P w a kvs)/\∀x ∈ kvs,H x.2.1=some (.tup (x.1.map sm))
theorem B7.same(h:B7 P w H a kvs)(s:AO H H'):B7 P w H' a kvs:=⟨s _ _ h.1,λx hx=>s _ _ (h.2 x hx)⟩
noncomputable def c7(kvs:List dX)(k:fY):Option V:=(kvs.find? λx=>decide (x.1=k)).map (·.2.2)
noncomputable def rb(k:fY)(v:V)(x:dX):dX:=if x.1=k then (x.1,x.2.1,v) else x
noncomputable def eZ(kvs:List dX)(k:fY)(b:Addr)(v:V):List dX:=if (c7 kvs k).isSome then kvs.map (rb k v) else kvs ++ [(k,b,v)]
theorem ja :c7 [] k=none:=rfl
theorem cF :c7 (x :: kvs) k=if x.1=k then some x.2.2 else c7 kvs k:=by
 unfold c7
 rw[find?_cons]
 by_cases h:x.1=k
 ·rw[decide_eq_true h,if_pos h];rfl
 ·rw[decide_eq_false h,if_neg h]
theorem sD :c7 (kvs.map (rb k v)) k' = if k' = k then (c7 kvs k).map (λ_=>v) else c7 kvs k':=by
 induction kvs with
 | nil=>rw[map_nil,ja,ja];split<;>rfl
 | cons x kvs ih =>
  rw[map_cons,cF,ih,cF,cF]
  unfold rb
  by_cases h:x.1=k<;>by_cases h':k' = k
  ·have:x.1=k':=h.trans h'.symm
   simp[h,h']
  ·have:¬x.1=k':=λz=>h' (z.symm.trans h)
   rw[if_pos h,if_neg h',if_neg this,if_neg this,if_neg h']
  ·subst h'
   simp[h]
  ·simp[h,h']
theorem lR(h:c7 kvs k=none):c7 (kvs ++ [(k,b,v)]) k' = if k' = k then some v else c7 kvs k':=by
 induction kvs with
 | nil =>
  rw[List.nil_append,cF,ja]
  by_cases e:k' = k
  ·rw[if_pos e,if_pos e.symm]
  ·rw[if_neg e,if_neg (Ne.symm e)]
 | cons x kvs ih =>
  rw[cF]at h
  by_cases hx:x.1=k
  ·rw[if_pos hx]at h;cases h
  ·rw[if_neg hx]at h
   rw[List.cons_append,cF,ih h,cF]
   by_cases e:k' = k
   ·subst e;rw[if_neg hx,if_pos rfl,if_pos rfl]
   ·rw[if_neg e,if_neg e]
theorem gy :c7 (eZ kvs k b v) k' = if k' = k then some v else c7 kvs k':=by
 unfold eZ
 cases h:c7 kvs k with
 | none=>rw[if_neg (by simp)];exact lR h
 | some u =>
  rw[if_pos (by simp),sD,h];rfl
theorem eY :(eZ kvs k b v).length <= kvs.length + 1:=by
 unfold eZ
 split
 ·rw[length_map];omega
 ·rw[length_append];exact le_refl _
theorem jZ{F:fY->Addr->Prop}(h:∀x ∈ kvs,F x.1 x.2.1)(hk:F k b):∀x ∈ eZ kvs k b v,F x.1 x.2.1:=by
 intro x hx
 unfold eZ at hx
 split at hx
 ·obtain⟨y,hy,rfl⟩:=mem_map.mp hx
  unfold rb
  split
  ·exact h y hy
  ·exact h y hy
 ·rcases mem_append.mp hx with q | q
  ·exact h x q
  ·rw[mem_singleton.mp q];exact hk
theorem lH(r:Paired jL kvs xs)(k:fY):BC (c7 kvs k) ((atKey xs k).map (·.2)):=by
 induction r with
 | nil=>exact True.intro
 | @cons p q _ _ h1 _ ih =>
  rw[cF]
  unfold atKey at ih ⊢
  rw[find?_cons]
  by_cases e:p.1=k
  ·rw[if_pos e,decide_eq_true (h1.1.symm.trans e)];exact h1.2.2
  ·rw[if_neg e,decide_eq_false (λz=>e (h1.1.trans z))];exact ih
theorem i4(r:BC o u):o.isSome=u.isSome:=by
 cases o<;>cases u<;>first | rfl | exact r.elim
theorem qY(h:BC o u)(hd:RelV d r):RelV (o.getD d) (u.getD r):=by
 cases o<;>cases u<;>first | exact hd | exact h | exact h.elim
theorem xN(r:Paired jL kvs xs)(hv:RelV v u):Paired jL (kvs.map (rb k v)) (xs.map (putAt k u)):=by
 induction r with
 | nil=>exact .nil
 | @cons p q _ _ h1 _ ih =>
  refine .cons ?_ ih
  unfold rb putAt
  by_cases e:p.1=k
  ·rw[if_pos e,if_pos (h1.1.symm.trans e)];exact⟨h1.1,h1.2.1,hv⟩
  ·rw[if_neg e,if_neg (λz=>e (h1.1.trans z))];exact h1
theorem vC(r:Paired jL kvs xs)(h:jL p q):Paired jL (kvs ++ [p]) (xs ++ [q]):=by
 induction r with
 | nil=>exact .cons h .nil
 | cons h1 _ ih=>exact .cons h1 ih
theorem xM(r:Paired jL kvs xs)(hv:RelV v u):Paired jL (eZ kvs k b v) (storedH xs k b u):=by
 have h:=i4 (lH r k)
 rw[Option.isSome_map]at h
 unfold eZ storedH
 rw[h]
 split
 ·exact xN r hv
 ·exact vC r ⟨rfl,rfl,hv⟩
section
variable {P:Program}{w:World}{H:Hp}{h:Heap}{a b:Addr}{kvs:List dX}{k:fY}
theorem io:∀{k:fY}{us:List Value},Vals (k.map sm) us->ItemsAre (fO P w) k us
 | [],_, .nil => .nil
 | none :: _,_, .cons r t => .cons (by have e:_=Value.none:=r;subst e;rfl) (io t)
 | some i :: _,_, .cons r t => .cons (by obtain⟨tk,e⟩:=(show ∃t,_=Value.int i t from r);subst e;exact beq_self_eq_true i) (io t)
theorem iO(ok:BI P w H h)(e:H b=some (.tup (k.map sm))):(tupleKind (fO P w)).is h k b:=by
 obtain⟨_,AW,r,o,ho,⟨hc,n,hd⟩,_⟩:=ok _ _ e
 exact⟨o,AW.toArray,n,ho,hc,hd,io r⟩
theorem iV(ok:BI P w H h)(e:B7 P w H a kvs):kvs.length <= sizeLine/\(a == sysModules)=false/\∃xs,Paired jL kvs xs/\h.DictOfH (tupleKind (fO P w)) a xs:=by
 obtain⟨e,ek⟩:=e
 obtain⟨⟨z,hs,xs,r,o,es,ep,h1,h2,h3,h4,h5⟩,_⟩:=ok _ _ e
 refine⟨z,hs,xs,r,o,es,ep,h1,h2,h3,h4,?_,h5⟩
 have all:∀{kvs:List dX}{xs:List (fY × Addr × Value)},Paired jL kvs xs->(∀x ∈ kvs,H x.2.1=some (.tup (x.1.map sm)))->∀x ∈ xs,(tupleKind (fO P w)).is h x.1 x.2.1:=by
  intro kvs xs r
  induction r with
  | nil=>intro _ x hx;cases hx
  | @cons p q _ _ h1 _ ih =>
   intro hk x hx
   rcases mem_cons.mp hx with rfl | hx
   ·have:=hk p mem_cons_self
    rw[h1.1,h1.2.1]at this
    exact iO ok this
   ·exact ih (λy hy=>hk y (mem_cons_of_mem _ hy)) x hx
 exact all r ek
theorem kJ(h1 h2:Heap)(p:AN P w a kvs h1)(st:∀o,h1.get? a=some o->h2.get? a=some o):AN P w a kvs h2:=by
 obtain⟨z,hs,xs,r,o,es,ep,q,c⟩:=p
 exact⟨z,hs,xs,r,o,es,ep,st _ q,c⟩
theorem vJ(hb:sysModules < h.objs.size):Bn P w H (h.push { cls := .type "dict",data := .dict #[] }) h.objs.size (jM P w h.objs.size []) :=
 ⟨⟨zero_le _,beq_eq_false_iff_ne.mpr (Ne.symm (ne_of_lt hb)),[], .nil,_,#[],0,Heap.get?_push_size _ rfl,⟨rfl,rfl,rfl⟩,rfl,rfl,nodup_nil⟩,⟨_,Heap.get?_push_size _ rfl⟩,λ_ _=>kJ _ _⟩
end
def yf(P:Program)(w:World)(H:Hp)(a:Addr)(y:V)(r:Option V):Prop:=∃kvs k b,B7 P w H a kvs/\y = .ref b/\H b=some (.tup (k.map sm))/\r=c7 kvs k
section
variable {X:Cx}{pins:List (Addr × Obj)}{σ:St}{H:Hp}{s:Shared}{a b:Addr}{y v d:V}{u r:Value}{o:Option V}{A:Around}{E:Value->Shared->Prop}
theorem AE(I:Inv X pins σ H s):sysModules < s.heap.objs.size :=
 lt_trans (by decide) (show mainGlobals < s.heap.objs.size from (I.mod.glob.keeps I.bk).lt)
theorem RS(hu:A.units + 1 < cLine)(I:Inv X pins σ H s)(g:yf X.prog X.w H a y o)(ry:RelV y u)(h:∀s',Inv X pins σ H s'->Q (.bool o.isSome) s') :
  wpAny (model X.prog X.w) A (compareOp .In u (.ref a)) Q E s:=by
 obtain⟨kvs,k,b,e,rfl,eb,rfl⟩:=g
 cases (show u=Value.ref b from ry)
 obtain⟨_,hd,xs,rel,dd⟩:=iV I.Bb e
 refine wpAny_in_heap (tupleKind_room_in1 hu) (iO I.Bb eb) hd dd ?_
 have q:=i4 (lH rel k)
 rw[Option.isSome_map]at q
 rw[←q]
 exact h _ (I.tok _)
theorem Af(hu:A.units + 1 < cLine)(I:Inv X pins σ H s)(g:yf X.prog X.w H a y o)(ry:RelV y u)(rd:RelV d r)(h:∀w' s',Inv X pins σ H s'->RelV (o.getD d) w'->Q w' s') :
  wpAny (model X.prog X.w) A (call (.builtin "dict.get") [.ref a,u,r]) Q E s:=by
 obtain⟨kvs,k,b,e,rfl,eb,rfl⟩:=g
 cases (show u=Value.ref b from ry)
 obtain⟨_,hd,xs,rel,dd⟩:=iV I.Bb e
 exact call_meetsIn slot_dict_get dd.typeIs entry_dict_get (PySem.F.args_dict_get_3 _ _ _) (meetsH_dict_get_default (tupleKind (fO X.prog X.w)) a b hd r)
  ⟨tupleKind_room_in1 hu,k,xs,iO I.Bb eb,dd,h _ _ (I.tok _) (qY (lH rel k) rd)⟩
theorem LL(hu:A.units + 1 < cLine)(I:Inv X pins σ H s)(e:B7 X.prog X.w H a kvs)(eb:H b=some (.tup (k.map sm)))(hl:kvs.length < sizeLine)(rv:RelV v r)
  (h:∀s',Inv X pins σ (upd H a (jM X.prog X.w a (eZ kvs k b v))) s'->Q () s'):wpAny (model X.prog X.w) A (setItem (.ref a) (.ref b) r) Q E s:=by
 obtain⟨z,hd,xs,rel,dd⟩:=iV I.Bb e
 have hz:xs.length <= sizeLine:=by rw[←Paired.length rel];exact z
 have EL:(eZ kvs k b v).length <= sizeLine:=le_trans eY hl
 refine wpAny_setItem_heap (hsz:=hz) (tupleKind_room_in1 hu) (iO I.Bb eb) dd λh' GL hs=>h _ ?_
 obtain⟨q,es,ep,hq,h2,h3,h4,_,h5⟩:=GL
 exact I.write (x:=a) (e:=a) (by rw[e.1];exact True.intro) (.inl rfl) (λc q hc z=>(hs.2 c hc).trans z) ⟨q,hq⟩
  ⟨⟨EL,hd,_,xM rel rv,q,es,ep,hq,h2,h3,h4,h5⟩,⟨q,hq⟩,λ_ _=>kJ _ _⟩
theorem rX(I:Inv X pins σ H s)(e:B7 X.prog X.w H a kvs):s.TypeIs (.ref a) "dict"/\∀b,Value.ref a = .ref b->∃ob,s.heap.get? b=some ob/\ob.dict=none:=by
 obtain⟨_,_,xs,_,dd⟩:=iV I.Bb e
 refine⟨dd.typeIs,λb q=>?_⟩
 cases q
 obtain⟨ob,_,_,h1,h2,_⟩:=dd
 exact⟨ob,h1,h2.2.1⟩
end
def sH(P:Program)(w:World):TE:=λ_ H Q=>∀p,H p=none->Q (.ref p) (upd H p (jM P w p []))
def RT(P:Program)(w:World)(ty td:TE):TE:=λσ H Q=>ty σ H λy H1=>td σ H1 λx H2=>∃a o,x = .ref a/\yf P w H2 a y o/\Q (.bl o.isSome) H2
def LM(P:Program)(w:World)(td ty tv:TE):TS:=λD σ H=>tv σ H λv H1=>td σ H1 λx H2=>ty σ H2 λy H3=>∃a kvs k b,x = .ref a/\B7 P w H3 a kvs/\y = .ref b/\H3 b=some (.tup (k.map sm))/\kvs.length < sizeLine/\D.nx σ (upd H3 a (jM P w a (eZ kvs k b v)))
def yK(P:Program)(w:World)(td:TE)(t:TA):TE:=λσ H Q=>td σ H λx H1=>∃a kvs,x = .ref a/\B7 P w H1 a kvs/\t σ H1 λxs H2=>∃y z o,xs=[y,z]/\yf P w H2 a y o/\Q (o.getD z) H2
section
variable {X:Cx}{o i e f value:Expr}{pos pos' apos Bu:Pos}{td ty tv tx:TE}
theorem qk:PE X (.Dict [] [] pos) (sH X.prog X.w):=λpins s σ H Q I h =>
 wpAny_Dict_empty ⟨.ref s.heap.objs.size,_,I.laid (a:=s.heap.objs.size) (o:=jM X.prog X.w s.heap.objs.size []) (t':=s.toks) (λ_ _ q=>Heap.get?_push_of_some _ q) (le_refl _) (vJ (AE I)),rfl,h _ (I.Bb.fresh (le_refl _))⟩
theorem zA(hu:X.A.units + 1 < cLine)(hi:PE X i ty)(ho:PE X o td):PC X .In i o (RT X.prog X.w ty td):=by
 intro pins s σ H Q I h
 refine aZ (hi pins s σ H _ I h) λiv s1 ⟨y,H1,I1,ry,q1⟩=>aZ (ho pins s1 σ H1 _ I1 q1) λu s2 AU=>?_
 obtain⟨x,H2,I2,rx,a,ov,ex,g,q2⟩:=AU
 subst ex
 obtain rfl:u=Value.ref a:=rx
 exact RS hu I2 g ry λs3 I3=>⟨.bl ov.isSome,H2,I3,rfl,q2⟩
theorem qh(hu:X.A.units + 1 < cLine)(ho:PE X o td)(hi:PE X i ty)(hv:PE X value tv)(hs:swapsWith value (some (.Subscript o i pos')) pos.line X.env=pure false) :
  PS X (.Assign [.Subscript o i pos'] value pos) (LM X.prog X.w td ty tv):=by
 intro pins s σ H D I h
 refine wpAny_Assign_Subscript (aZ (hv pins s σ H _ I h) λr s1 ⟨v,H1,I1,rv,q1⟩=>aZ (ho pins s1 σ H1 _ I1 q1) λu s2 ⟨x,H2,I2,rx,q2⟩=>aZ (hi pins s2 σ H2 _ I2 q2) λiv s3 AU=>?_) hs
 obtain⟨y,H3,I3,ry,a,kvs,k,b,ex,e,ey,eb,hl,q3⟩:=AU
 subst ex ey
 obtain rfl:u=Value.ref a:=rx
 obtain rfl:iv=Value.ref b:=ry
 exact LL hu I3 e eb hl rv λs4 I4=>⟨σ,_,I4,q3⟩
theorem mF(hu:X.A.units + 1 < cLine)(ho:PE X o td)(ha:PA X (e :: es) t)
  (h1:autoParam (attributeBase o "get" X.env (eval o X.env)=eval o X.env) η)
  (h2:autoParam (((backTo Bu (starEach (e :: es) X.env)).all (λx=>!x.1) && (backToKw Bu (keywordEach [] X.env)).all (λx=>x.1.isSome) && decide ((e :: es).length + ([]:List Keyword).length + (if ([]:List Keyword).isEmpty then 0 else 1) < 30))=true) η)
  (h3:autoParam ((apos.endLine == Bu.line)=true) η) (h4:autoParam (starEach (e :: es) X.env=(false,eval e X.env) :: starEach es X.env) η) (h5:autoParam ((backTo Bu (starEach es X.env)).any (·.1)=false) η) :
  PE X (.Call (.Attribute o "get" apos) (e :: es) [] Bu) (yK X.prog X.w td t):=by
 intro pins s σ H Q I h
 refine wpAny_Call_method_late h1 h2 h3 rfl (aZ (ho pins s σ H _ I h) λv s1 AU=>?_)
 obtain⟨x,H1,I1,r1,a,kvs,ex,e1,q1⟩:=AU
 subst ex
 obtain rfl:v=Value.ref a:=r1
 obtain⟨t1,t2⟩:=rX I1 e1
 refine⟨"dict", "dict.get",PySem.F.plainAttrs_dict,slot_dict_get,PySem.F.type_dict_get,t1,t2,?_⟩
 have hA:=ha Bu pins s1 σ H1 _ I1 q1
 rw[h4]at hA ⊢
 refine Calls.callWith_builtin (by show(false || (backTo Bu (starEach es X.env)).any (·.1))=false;rw[h5]<;>rfl) (Calls.evalArgs_plain ?_)
 refine aZ hA λus s2 AU=>?_
 obtain⟨vs,H2,I2,r2,y,z,ov,evs,g,q2⟩:=AU
 subst evs
 cases r2 with
 | cons ry r2=>cases r2 with
  | cons rz r2=>cases r2 with
   | nil=>exact Af hu I2 g ry rz λw' s4 I4 DD=>⟨_,H2,I4,DD,q2⟩
end
structure qR(K:Frag)(C:Addr)(m:Str)(f:Addr):Prop where
 reads:PySem.W.readsIn K C (.type "type")=true
 found:PySem.W.findCls K (.ref C) (.type "type") m=some (.val (.ref f))
 spec:PySem.W.specialIn K (.ref C) "__getattribute__" = some (some (.builtin "type.__getattribute__"))
 kp:keepIn K (.ref f)=true
def yP(C:Addr)(sp:Sp)(B4:List V)(E:XK)(ta:TE)(t:TA):TE:=λσ H Q=>ta σ H λx H1=>x = .ref C/\t σ H1 λvs H2=>sp (vs ++ B4) H2 Q E
section
variable {X:Cx}{CX:nQ}{k:Nat}{f C:Addr}{fd:FuncData}{ps:List Str}{sp:Sp}{B4:List V}{ds:List Value}{E:XK}{x m:Str}{p pos apos:Pos}{e o:Expr}{es:List Expr}{ta:TE}{t:TA}
theorem ju(he:PE X o ta)(hm:qR X.K C m f)(F:AQ X.prog X.w X.K X.mg X.base CX k f fd ps sp)(hr:Bc k X.A)(hb:Binds X.K fd ps ds)(hd:Vals B4 ds)(hx:fI CX X E)(ha:PA X (e :: es) t)
  (h1:autoParam (starEach (e :: es) X.env=(false,eval e X.env) :: starEach es X.env) η) (h2:autoParam ((backTo pos (starEach es X.env)).any (·.1)=false) η)
  (ht:eval (.Call (.Attribute o m apos) (e :: es) [] pos) X.env=(do
   let ov ← eval o X.env
   standAt apos.atName
   let (f,first) ← holding [ov] (getMethod ov m pl)
   callWith pos f first (backTo pos (starEach (e :: es) X.env)) (backToKw pos (keywordEach [] X.env))):=by rfl) :
  PE X (.Call (.Attribute o m apos) (e :: es) [] pos) (yP C sp B4 E ta t):=by
 intro pins s σ H Q I h
 refine PySem.W.methodCall_KW (pl:=pl) (aZ (he pins s σ H _ I h) λu s1 AU=>?_) ht
 obtain⟨x,H1,I1,rx,ex,q⟩:=AU
 subst ex
 obtain rfl:u=Value.ref C:=rx
 refine PySem.W.method_cls I1.BO hm.spec (PySem.W.cls_value I1.BO hm.reads hm.found rfl ?_)
 refine PySem.W.callWith_K (first:=[]) (h₀:=X.base) I.ok.mod.Ex hm.kp (aZ (ha pos pins _ σ H1 _ (I1.tok _) q) λus s2 ⟨vs,H2,I2,r,q2⟩=>⟨I2.BO,?_⟩) h1 h2
 exact lq F hr hb hd hx I2 r q2
end
section
variable {X:Cx}
end
section
variable {X:Cx}{tg:Expr}
def RU:V->List V->Hp->VK->Prop:=λx vs H Q=>∃(l:Addr)(ns:List Int)(k:Int),x = .ref l/\vs=[.int k]/\H l=some (.lst (ns.map V.int))/\k ∈ ns/\ns.length <= 100000/\Q (.int (ns.idxOf k:Nat)) H
theorem k4:Ka X "list.index" RU:=by
 intro pins s σ H x vs v us Q I rx rv h
 obtain⟨l,ns,k,rfl,rfl,hH,hk,hlen,q⟩:=h
 cases rx
 obtain⟨u,rfl,ru⟩:=rv.one
 obtain⟨t,rfl⟩:=ru
 obtain⟨z,AW,n,r,hl,e⟩:=I.Ef hH
 have hi:IntsAre AW.toArray.toList ns:=p5 r
 have DK:AW.length=ns.length:=by rw[←r.length,length_map]
 have hj:ns.idxOf k < ns.length:=idxOf_lt_length_of_mem hk
 have at_:∀m (hm:m < AW.toArray.size),∃t,AW.toArray[m]=Value.int (ns[m]'(by simpa [DK] using hm)) t:=λm hm=>by
  have Fi:m < AW.length:=by simpa using hm
  have hv:(ns.map V.int)[m]? = some (V.int (ns[m]'(by omega))):=by simp[show m < ns.length by omega]
  obtain⟨w',hw,DD⟩:=r.get hv
  obtain⟨t',rfl⟩:=DD
  refine⟨t',?_⟩
  have:AW[m]? = some AW[m]:=getElem?_eq_getElem Fi
  rw[this]at hw
  simpa using Option.some.inj hw
 let e':Value->Bool:=λy=>Value.isInt k y
 refine call_meets slot_list_index ⟨_,e,rfl⟩ PySem.F.entry_list_index (PySem.F.args_list_index_2 _ _)
  (SeqAt.list_indexAt l AW.toArray n none #[] (.int k t) e' (ns.idxOf k) (by simpa [DK] using hj) (by omega) ?_ ?_) ⟨e,λy hy=>?_,?_⟩
 ·obtain⟨t',et⟩:=at_ (ns.idxOf k) (by simpa [DK] using hj)
  show Value.isInt k (AW.toArray[ns.idxOf k]'(by simpa [DK] using hj))=true
  rw[et,getElem_idxOf]
  simp[Value.isInt]
 ·intro m hm RV
  obtain⟨t',et⟩:=at_ m hm
  show Value.isInt k AW.toArray[m]=false
  rw[et]
  have CZ:ns[m]'(by simpa [DK] using hm) ≠ k:=λz=>by
   have:=List.not_of_lt_findIdx (p:=λx=>x == k) (xs:=ns) (i:=m) RV
   rw[z]at this
   simp at this
  simp only[Value.isInt,beq_eq_false_iff_ne,ne_eq]
  first | exact CZ | exact λz=>CZ z.symm
 ·have hm:y ∈ AW:=by simpa using hy
  obtain⟨m,Fi,em⟩:=List.getElem_of_mem hm
  obtain⟨t',et⟩:=at_ m (by simpa using Fi)
  have ey:y=Value.int (ns[m]'(by omega)) t':=by rw[←em];simpa using et
  subst ey
  intro prog w E Q' hQ'
  refine wpAny_eqBool_int ?_
  have:(ns[m]'(by omega) == k)=Value.isInt k (Value.int (ns[m]'(by omega)) t'):=by simp[Value.isInt,Bool.beq_comm]
  rw[this]
  exact hQ'
 ·exact⟨.int (ns.idxOf k:Nat),H,I.tok _,⟨_,rfl⟩,q⟩
def LN(K:Frag):List V->Hp->VK->Prop:=λxs H Q=>∃(v:V)(t:Value)(c:String)(b:Bool),xs=[v, .ty c]/\i0 K H v t/\kitOne K t (.type c)=some b/\Q (.bl b) H
theorem fH:eR X (.builtin "isinstance") (LN X.K):=by
 intro pins s σ H xs us Q I r h
 obtain⟨v,t,c,b,rfl,ty,hk,q⟩:=h
 cases r with
 | cons r1 r2=>cases r2 with
  | cons r2 r3 =>
   cases r3
   cases r2
   exact rN I r1 ty hk λtk=>⟨.bl b,H,I.tok _,rfl,q⟩
end
section
variable {κ:Type}[DecidableEq κ]
noncomputable def gw(kvs:List (κ × V))(k:κ):Option V:=(kvs.find? λkv=>decide (kv.1=k)).map (·.2)
noncomputable def dD(kvs:List (κ × V))(k:κ)(v:V):List (κ × V) :=
 if (kvs.any λkv=>decide (kv.1=k))=true then kvs.map (λkv=>if kv.1=k then (kv.1,v) else kv) else kvs ++ [(k,v)]
theorem iX{k:κ}(e:p.1=k):gw (p :: r) k=some p.2:=by simp[gw,find?_cons,e]
theorem iY{k:κ}(e:¬p.1=k):gw (p :: r) k=gw r k:=by simp[gw,find?_cons,e]
theorem iZ(k:κ):∀kvs:List (κ × V),(kvs.any λkv=>decide (kv.1=k))=(gw kvs k).isSome
 | []=>rfl
 | p :: r=>by
  rw[any_cons]
  by_cases e:p.1=k
  ·simp only[iX e,decide_eq_true e,Bool.true_or,Option.isSome_some]
  ·rw[iY e,decide_eq_false e,Bool.false_or];exact iZ k r
theorem fF(kvs:List (κ × V))(k:κ)(v:V):(dD kvs k v).length <= kvs.length + 1:=by
 unfold dD
 split
 ·rw[length_map];omega
 ·rw[length_append,length_cons,length_nil];omega
theorem ut{k:κ}(v:V)(h:gw kvs k=none):dD kvs k v=kvs ++ [(k,v)]:=by
 unfold dD
 rw[iZ,h]
 exact if_neg (by decide)
theorem BC.Cv(r:BC o u):o.isSome=u.isSome:=by
 cases o with
 | none=>cases u with
  | none=>rfl
  | some _=>exact(show False from r).elim
 | some _=>cases u with
  | none=>exact(show False from r).elim
  | some _=>rfl
theorem BC.getD(r:BC o u)(rd:RelV d d'):RelV (o.getD d) (u.getD d'):=by
 cases o with
 | none=>cases u with
  | none=>exact rd
  | some _=>exact(show False from r).elim
 | some _=>cases u with
  | none=>exact(show False from r).elim
  | some _=>exact r
theorem KV.val(r:KV kvs vs)(k:κ):BC (gw kvs k) (valueAt vs k):=by
 unfold KV at r
 induction r with
 | nil=>exact True.intro
 | @cons p q ps qs h t ih =>
  obtain⟨h1,h2⟩:=h
  by_cases e:p.1=k
  ·have e':q.1=k:=h1.symm.trans e
   have b:valueAt (q :: qs) k=some q.2:=by simp[valueAt,find?_cons,e']
   rw[iX e,b];exact h2
  ·have e':¬q.1=k:=λz=>e (h1.trans z)
   have b:valueAt (q :: qs) k=valueAt qs k:=by simp[valueAt,find?_cons,e']
   rw[iY e,b];exact ih
theorem KV.any(r:KV kvs vs)(k:κ):(kvs.any λkv=>decide (kv.1=k))=vs.any λkv=>decide (kv.1=k):=by
 unfold KV at r
 induction r with
 | nil=>rfl
 | cons h t ih=>rw[any_cons,any_cons,ih,h.1]
theorem KV.Je(r:KV kvs vs)(k:κ)(ry:RelV y u) :
  KV (kvs.map λkv=>if kv.1=k then (kv.1,y) else kv) (vs.map λkv=>if kv.1=k then (kv.1,u) else kv):=by
 unfold KV at r ⊢
 induction r with
 | nil=>exact .nil
 | @cons p q ps qs h t ih =>
  rw[map_cons,map_cons]
  refine .cons ?_ ih
  obtain⟨h1,h2⟩:=h
  by_cases e:p.1=k
  ·rw[if_pos e,if_pos (h1.symm.trans e)];exact⟨h1,ry⟩
  ·rw[if_neg e,if_neg (λz=>e (h1.trans z))];exact⟨h1,h2⟩
theorem KV.put(r:KV kvs vs)(k:κ)(ry:RelV y u):KV (dD kvs k y) (stored vs k u):=by
 unfold dD stored
 rw[r.any k]
 by_cases e:(vs.any λkv=>decide (kv.1=k))=true
 ·rw[if_pos e,if_pos e];exact r.Je k ry
 ·rw[if_neg e,if_neg e];exact Paired.snoc r ⟨rfl,ry⟩
theorem KV.keys{vs:List (κ × Value)}(r:KV kvs vs):kvs.map (·.1)=vs.map (·.1):=by
 unfold KV at r
 induction r with
 | nil=>rfl
 | cons h t ih=>rw[map_cons,map_cons,ih,h.1]
theorem KV.length{vs:List (κ × Value)}(r:KV kvs vs):kvs.length=vs.length:=Paired.length r
end
theorem kA(r:RelV (kV k) u):(aY P w).is k u=true:=by
 cases k with
 | inl i=>obtain⟨t,e⟩:=(show ∃t,u=Value.int i t from r);subst e;exact mP P w i t
 | inr x=>obtain⟨t,e⟩:=(show ∃t,u=Value.str x t from r);subst e;exact mO P w x t
theorem kB :∀{ks:List Key}{us:List Value},Vals (ks.map kV) us->ItemsAre (aY P w) ks us
 | [],_,r=>by rw[map_nil]at r;cases r;exact .nil
 | k :: ks,_,r=>by
  rw[map_cons]at r
  cases r with
  | cons h t=>exact .cons (kA h) (kB t)
abbrev KT(H:Hp):List (List Key × V)->List (List Key × Addr × Value)->Prop:=Paired λp q=>p.1=q.1/\H q.2.1=some (.tup (p.1.map kV))/\RelV p.2 q.2.2
theorem KT.val(r:KT H kvs xs)(k:List Key):BC (gw kvs k) ((atKey xs k).map (·.2)):=by
 induction r with
 | nil=>exact True.intro
 | @cons p q ps qs h t ih =>
  obtain⟨h1,_,h2⟩:=h
  by_cases e:p.1=k
  ·have e':q.1=k:=h1.symm.trans e
   have b:atKey (q :: qs) k=some q.2:=by simp[atKey,find?_cons,e']
   rw[iX e,b];exact h2
  ·have e':¬q.1=k:=λz=>e (h1.trans z)
   have b:atKey (q :: qs) k=atKey qs k:=by simp[atKey,find?_cons,e']
   rw[iY e,b];exact ih
theorem KT.Je(r:KT H kvs xs)(k:List Key)(ry:RelV y u) :
  KT H (kvs.map λkv=>if kv.1=k then (kv.1,y) else kv) (xs.map (putAt k u)):=by
 induction r with
 | nil=>exact .nil
 | @cons p q ps qs h t ih =>
  rw[map_cons,map_cons]
  refine .cons ?_ ih
  obtain⟨h1,h2,h3⟩:=h
  unfold putAt
  by_cases e:p.1=k
  ·rw[if_pos e,if_pos (h1.symm.trans e)];exact⟨h1,h2,ry⟩
  ·rw[if_neg e,if_neg (λz=>e (h1.trans z))];exact⟨h1,h2,h3⟩
theorem KT.put(r:KT H kvs xs)(k:List Key)(hb:H b=some (.tup (k.map kV)))(ry:RelV y u) :
  KT H (dD kvs k y) (storedH xs k b u):=by
 have e:(kvs.any λkv=>decide (kv.1=k))=(atKey xs k).isSome:=by
  rw[iZ,(r.val k).Cv,Option.isSome_map]
 unfold dD storedH
 rw[e]
 by_cases q:(atKey xs k).isSome=true
 ·rw[if_pos q,if_pos q];exact r.Je k ry
 ·rw[if_neg q,if_neg q];exact Paired.snoc r ⟨rfl,hb,ry⟩
theorem KT.keeps(r:KT H kvs xs)(ht:∀b ys,H b=some (.tup ys)->H' b=some (.tup ys)):KT H' kvs xs :=
 Paired.IM r λ_ _ z=>⟨z.1,ht _ _ z.2.1,z.2.2⟩
section
variable {P:Program}{w:World}{H:Hp}{h:Heap}{a:Addr}
theorem yz(ok:BI P w H h)(e:Rd H a u):Bn P w H h a u:=e.ok ok
theorem kI(ok:BI P w H h)(e:Rd H a (.dK kvs)):kvs.length <= sizeLine/\(a == sysModules)=false/\∃vs,KV kvs vs/\h.DictOf (aY P w) a vs :=
 show Bn P w H h a (.dK kvs) from yz ok e
theorem vF(ok:BI P w H h)(e:H a=some (.dK kvs)):kvs.length <= sizeLine/\(a == sysModules)=false/\∃vs,KV kvs vs/\h.DictOf (aY P w) a vs:=kI ok (.inl e)
theorem j5(ok:BI P w H h)(e:H a=some (.tup (ks.map kV))):(tupleKind (aY P w)).is h ks a:=by
 obtain⟨_,AW,r,o,h1,⟨h2,n,h3⟩,_⟩:=(show Bn P w H h a (.tup (ks.map kV)) from ok a _ e)
 exact⟨o,AW.toArray,n,h1,h2,h3,by simpa using kB r⟩
theorem kH(ok:BI P w H h)(e:Rd H a (.dT kvs)):kvs.length <= sizeLine/\(a == sysModules)=false /\
  ∃xs,KT H kvs xs/\h.DictOfH (tupleKind (aY P w)) a xs:=by
 obtain⟨z,y,xs,r,o,es,ep,h1,h2,h3,h4,h5⟩:=(show Bn P w H h a (.dT kvs) from yz ok e)
 refine⟨z,y,xs,r,o,es,ep,h1,h2,h3,h4,λx hx=>?_,h5⟩
 have all:∀{l:List (List Key × V)}{m:List (List Key × Addr × Value)},KT H l m->∀x ∈ m,(tupleKind (aY P w)).is h x.1 x.2.1:=by
  intro l m q
  induction q with
  | nil=>intro x hx;exact nomatch hx
  | @cons p q ps qs hq t ih =>
   intro x hx
   rcases mem_cons.mp hx with e | hx
   ·subst e
    exact j5 ok (by rw[←hq.1];exact hq.2.1)
   ·exact ih x hx
 exact all r x hx
theorem LO(ok:BI P w H h)(e:H a=some (.dT kvs)):kvs.length <= sizeLine/\(a == sysModules)=false /\
  ∃xs,KT H kvs xs/\h.DictOfH (tupleKind (aY P w)) a xs:=kH ok (.inl e)
end
def C4(H:Hp)(a:Addr)(y:V)(r:Option V):Prop :=
 (∃kvs k,Rd H a (.dK kvs)/\y=kV k/\r=gw kvs k)∨∃kvs k b,Rd H a (.dT kvs)/\y = .ref b/\H b=some (.tup (k.map kV))/\r=gw kvs k
def F7(H:Hp)(a:Addr)(y v:V)(H':Hp):Prop :=
 (∃kvs k,H a=some (.dK kvs)/\y=kV k/\kvs.length < sizeLine/\H' = upd H a (.dK (dD kvs k v))) ∨
 ∃kvs k b,H a=some (.dT kvs)/\y = .ref b/\H b=some (.tup (k.map kV))/\kvs.length < sizeLine/\H' = upd H a (.dT (dD kvs k v))
theorem C4.k{k:Key}(e:H a=some (.dK kvs)):C4 H a (kV k) (gw kvs k) := .inl ⟨kvs,k, .inl e,rfl,rfl⟩
theorem F7.k{k:Key}(e:H a=some (.dK kvs))(hl:kvs.length < sizeLine):F7 H a (kV k) v (upd H a (.dK (dD kvs k v))) := .inl ⟨kvs,k,e,rfl,hl,rfl⟩
section
variable {X:Cx}{pins:List (Addr × Obj)}{σ:St}{H:Hp}{s:Shared}{a:Addr}{y v:V}{u r:Value}{o:Option V}{A:Around}{E:Value->Shared->Prop}
theorem Inv.big(I:Inv X pins σ H s):sysModules < s.heap.objs.size:=by
 have h:mainGlobals < s.heap.objs.size:=(I.mod.glob.keeps I.bk).lt
 exact lt_trans (by decide) h
theorem rZ(hu:A.units + 1 < cLine)(I:Inv X pins σ H s)(g:C4 H a y (some v))(ry:RelV y u)(h:∀w' s',Inv X pins σ H s'->RelV v w'->Q w' s') :
  wpAny (model X.prog X.w) A (getItem (.ref a) u) Q E s:=by
 rcases g with ⟨kvs,k,e,ey,l⟩ | ⟨kvs,k,b,e,ey,eb,l⟩
 ·subst ey
  obtain⟨z,hd,vs,rel,dd⟩:=kI I.Bb e
  obtain⟨w',hw,DD⟩:=BC.some_of (v:=v) (o:=valueAt vs k) (by rw[l];exact rel.val k)
  exact wpAny_getItem_of (kA ry) dd.mapOf hw (h w' _ (I.tok _) DD)
 ·subst ey
  cases (show u=Value.ref b from ry)
  obtain⟨z,hd,xs,rel,dd⟩:=kH I.Bb e
  obtain⟨w',hw,DD⟩:=BC.some_of (v:=v) (o:=(atKey xs k).map (·.2)) (by rw[l];exact rel.val k)
  obtain⟨p,hp,LP⟩:=Option.map_eq_some_iff.mp hw
  refine wpAny_getItem_heap (tupleKind_room_in1 hu) (j5 I.Bb eb) dd hp ?_
  rw[LP]
  exact h w' _ (I.tok _) DD
theorem xQ(hu:A.units + 1 < cLine)(I:Inv X pins σ H s)(g:C4 H a y o)(ry:RelV y u)(h:∀s',Inv X pins σ H s'->Q (.bool (!o.isSome)) s') :
  wpAny (model X.prog X.w) A (compareOp .NotIn u (.ref a)) Q E s:=by
 rcases g with ⟨kvs,k,e,ey,l⟩ | ⟨kvs,k,b,e,ey,eb,l⟩
 ·subst ey
  obtain⟨z,hd,vs,rel,dd⟩:=kI I.Bb e
  refine wpAny_notIn_of (kA ry) hd dd.mapOf ?_
  rw[←(rel.val k).Cv,←l]
  exact h _ (I.tok _)
 ·subst ey
  cases (show u=Value.ref b from ry)
  obtain⟨z,hd,xs,rel,dd⟩:=kH I.Bb e
  refine wpAny_notIn_heap (tupleKind_room_in1 hu) (j5 I.Bb eb) hd dd ?_
  have q:=(rel.val k).Cv
  rw[Option.isSome_map]at q
  rw[←q,←l]
  exact h _ (I.tok _)
theorem lI(I:Inv X pins σ H s)(mu:K5 (H a))(hs:Heap.SameBut a s.heap h')(he:∃q,h'.get? a=some q)(new:Bn X.prog X.w (upd H a ob) h' a ob) :
  Inv X pins σ (upd H a ob) { s with heap:=h',toks:=t' } :=
 I.write (x:=a) (e:=a) mu (.inl rfl) (λb q hb z=>(hs.2 b hb).trans z) he new
theorem vG(z:kvs.length <= sizeLine)(hd:(a == sysModules)=false)(rel:KV kvs vs)(dd:h'.DictOf (aY P w) a vs) :
  Bn P w H' h' a (.dK kvs):=⟨z,hd,vs,rel,dd⟩
theorem rY(hu:A.units + 1 < cLine)(I:Inv X pins σ H s)(g:F7 H a y v H')(ry:RelV y u)(rv:RelV v r)(h:∀s',Inv X pins σ H' s'->Q () s') :
  wpAny (model X.prog X.w) A (setItem (.ref a) u r) Q E s:=by
 rcases g with ⟨kvs,k,e,ey,l,eH⟩ | ⟨kvs,k,b,e,ey,eb,l,eH⟩
 ·subst ey eH
  obtain⟨z,hd,vs,rel,dd⟩:=vF I.Bb e
  have hz:vs.length <= sizeLine:=by rw[←rel.length];exact z
  have hl:(dD kvs k v).length <= sizeLine:=by have:=fF kvs k v;omega
  refine wpAny_setItem_pairs (hsz:=hz) (kA ry) dd λh' GL hs=>h _ ?_
  have he:∃q,h'.get? a=some q:=let ⟨q,_,_,hq,_⟩:=GL; ⟨q,hq⟩
  exact lI I (by rw[e];exact True.intro) hs he (vG hl hd (rel.put k rv) GL)
 ·subst ey eH
  cases (show u=Value.ref b from ry)
  obtain⟨z,hd,xs,rel,dd⟩:=LO I.Bb e
  have hz:xs.length <= sizeLine:=by rw[←Paired.length rel];exact z
  have hl:(dD kvs k v).length <= sizeLine:=by have:=fF kvs k v;omega
  refine wpAny_setItem_heap (hsz:=hz) (tupleKind_room_in1 hu) (j5 I.Bb eb) dd λh' GL hs=>h _ ?_
  obtain⟨q,es,ep,hq,h2,h3,h4,_,h5⟩:=GL
  refine lI I (by rw[e];exact True.intro) hs ⟨q,hq⟩ ⟨hl,hd,_,(rel.put k eb rv).keeps λc ys ec=>?_,q,es,ep,hq,h2,h3,h4,h5⟩
  rw[ah (b7 ec e (λz=>nomatch z))]
  exact ec
end
section
variable {X:Cx}{pins:List (Addr × Obj)}{σ:St}{H:Hp}{s:Shared}{a:Addr}{kvs:List (Key × V)}{k:Key}{u:Value}{A:Around}{E:Value->Shared->Prop}
end
def LQ(i:Expr):Prop:=∀ov iv,subscripted i false ov iv=operate [ov,iv] (getItem ov iv)
theorem wq{T id:String}
  (hl:typeLookup (.type T) "__getitem__" = pure (some (.builtin id))) (hs:LQ slice)
  (h:wpAny (model prog w) A (eval value env) (λo s₁=>wpAny (model prog w) A (eval slice env) (λi s₂=>s₂.TypeIs o T/\wpAny (model prog w) A (getItem o i) Q E s₂) E s₁) E s) :
  wpAny (model prog w) A (eval (.Subscript value slice pos) env) Q E s:=by
 refine Subscript_ (wpAny_mono h (λo s₁ h₁=>wpAny_mono h₁ (λi s₂ h₂=>?_) λ_ _ x=>x) λ_ _ x=>x)
 obtain⟨hT,h₂⟩:=h₂
 unfold subscriptTail
 refine wpAny_bind ?_
 rw[getitemInPython_of_ne hT.not_modules]
 refine wpAny_bind (wpAny_specialOf hT hl ?_)
 have fin:wpAny (model prog w) A (subscripted slice false o i) (λr s₃=>wpAny (model prog w) A (letTemporaryGo value o r >>= λ_=>pure r) Q E s₃) E s₂:=by
  rw[hs o i]
  exact wpAny_operating (wpAny_mono h₂ (λr s₃ h₃=>wpAny_bind (wpAny_letTemporaryGo (wpAny_pure h₃))) λ_ _ x=>x)
 first
  | exact wpAny_pure (wpAny_bind fin)
  | exact wpAny_bind (wpAny_pure (wpAny_bind fin))
  | exact wpAny_bind fin
theorem nk{σ:St}(I:Inv X pins σ H s)(g:C4 H a y o):s.TypeIs (.ref a) "dict":=by
 rcases g with ⟨kvs,k,e,_,_⟩ | ⟨kvs,k,b,e,_,_,_⟩
 ·obtain⟨_,_,vs,_,dd⟩:=kI I.Bb e
  exact dd.typeIs
 ·obtain⟨_,_,xs,_,dd⟩:=kH I.Bb e
  exact dd.typeIs
def LR(td ty:TE):TE:=λσ H Q=>td σ H λx H1=>ty σ H1 λy H2=>∃a v,x = .ref a/\C4 H2 a y (some v)/\Q v H2
def wn(ty td:TE):TE:=λσ H Q=>ty σ H λy H1=>td σ H1 λx H2=>∃a o,x = .ref a/\C4 H2 a y o/\Q (.bl (!o.isSome)) H2
def LS(td ty tv:TE):TS:=λD σ H=>tv σ H λv H1=>td σ H1 λx H2=>ty σ H2 λy H3=>∃a H4,x = .ref a/\F7 H3 a y v H4/\D.nx σ H4
section
variable {X:Cx}{o i e value:Expr}{pos pos' DB:Pos}{td ty tv:TE}
theorem qo(hu:X.A.units + 1 < cLine)(ho:PE X o td)(hi:PE X i ty)(hs:LQ i):PE X (.Subscript o i pos) (LR td ty):=by
 intro pins s σ H Q I h
 refine wq PySem.F.slot_dict_getitem.lookup hs (aZ (ho pins s σ H _ I h) λu s1 ⟨x,H1,I1,rx,q1⟩=>aZ (hi pins s1 σ H1 _ I1 q1) λiv s2 AU=>?_)
 obtain⟨y,H2,I2,ry,a,v,ex,g,q2⟩:=AU
 subst ex
 obtain rfl:u=Value.ref a:=rx
 exact⟨nk I2 g,rZ hu I2 g ry λw' s3 I3 DD=>⟨v,H2,I3,DD,q2⟩⟩
theorem rl(hu:X.A.units + 1 < cLine)(hi:PE X i ty)(ho:PE X o td):PC X .NotIn i o (wn ty td):=by
 intro pins s σ H Q I h
 refine aZ (hi pins s σ H _ I h) λiv s1 ⟨y,H1,I1,ry,q1⟩=>aZ (ho pins s1 σ H1 _ I1 q1) λu s2 AU=>?_
 obtain⟨x,H2,I2,rx,a,ov,ex,g,q2⟩:=AU
 subst ex
 obtain rfl:u=Value.ref a:=rx
 exact xQ hu I2 g ry λs3 I3=>⟨.bl (!ov.isSome),H2,I3,rfl,q2⟩
theorem wH(hu:X.A.units + 1 < cLine)(ho:PE X o td)(hi:PE X i ty)(hv:PE X value tv)(hs:swapsWith value (some (.Subscript o i pos')) pos.line X.env=pure false) :
  PS X (.Assign [.Subscript o i pos'] value pos) (LS td ty tv):=by
 intro pins s σ H D I h
 refine wpAny_Assign_Subscript (aZ (hv pins s σ H _ I h) λr s1 ⟨v,H1,I1,rv,q1⟩=>aZ (ho pins s1 σ H1 _ I1 q1) λu s2 ⟨x,H2,I2,rx,q2⟩=>aZ (hi pins s2 σ H2 _ I2 q2) λiv s3 AU=>?_) hs
 obtain⟨y,H3,I3,ry,a,H4,ex,g,q3⟩:=AU
 subst ex
 obtain rfl:u=Value.ref a:=rx
 exact rY hu I3 g ry rv λs4 I4=>⟨σ,H4,I4,q3⟩
end
theorem vH(h:Heap)(hb:sysModules < h.objs.size):Bn P w H (h.push { cls := .type "dict",data := .dict #[] }) h.objs.size (.dK []) :=
 ⟨zero_le _,beq_eq_false_iff_ne.mpr (Ne.symm (ne_of_lt hb)),[], .nil,Heap.DictOf.new h⟩
section
variable {X:Cx}{pos:Pos}
end
def og:List (TE × TE)->St->Hp->(List (V × V)->Hp->Prop)->Prop
 | [],_,H,Q=>Q [] H
 | (tk,tv) :: r,σ,H,Q=>tk σ H λx H1=>tv σ H1 λy H2=>og r σ H2 λps H3=>Q ((x,y) :: ps) H3
abbrev VV:List (V × V)->List (Value × Value)->Prop:=Paired λp q=>RelV p.1 q.1/\RelV p.2 q.2
def Pr(X:Cx)(pos:Pos)(keys:List (Option Expr))(values:List Expr)(GN:List (TE × TE)):Prop :=
 ∀(pins:List (Addr × Obj))(s:Shared)(σ:St)(H:Hp)(Q:List (V × V)->Hp->Prop),Inv X pins σ H s->og GN σ H Q ->
  wpAny (model X.prog X.w) X.A (evalPairs (pairTrees keys values X.env pos)) (λvs s'=>∃ps H',Inv X pins σ H' s'/\VV ps vs/\Q ps H') X.xe s
theorem wI :Pr X pos [] [] []:=λpins s σ H Q I h=>pairTrees_nil_walk ⟨[],H,I, .nil,h⟩
theorem uz(hk:PE X k tk)(hv:PE X v tv)(hr:Pr X pos ks vs GN) :
  Pr X pos (some k :: ks) (v :: vs) ((tk,tv) :: GN):=λpins s σ H Q I h =>
 pairTrees_cons_walk (aZ (hk pins s σ H _ I h) λu s1 ⟨x,H1,I1,rx,q1⟩=>aZ (hv pins s1 σ H1 _ I1 q1) λw2 s2 ⟨y,H2,I2,ry,q2⟩ =>
  aZ (hr pins s2 σ H2 _ I2 q2) λws s3 AU=>by obtain⟨ps,H3,I3,rel,q3⟩:=AU;exact⟨(x,y) :: ps,H3,I3, .cons ⟨rx,ry⟩ rel,q3⟩)
noncomputable def fB(kvs more:List (Key × V)):List (Key × V):=more.foldl (λacc kv=>dD acc kv.1 kv.2) kvs
theorem KV.merge:∀{more:List (Key × V)}{rs:List (Key × Value)}{kvs:List (Key × V)}{vs:List (Key × Value)},KV more rs->KV kvs vs->KV (fB kvs more) (merged vs rs):=by
 intro more rs kvs vs r
 unfold KV at r
 induction r generalizing kvs vs with
 | nil=>intro q;exact q
 | @cons p q ps qs h t ih =>
  intro r0
  have e:KV (dD kvs p.1 p.2) (stored vs q.1 q.2):=by
   have:=r0.put p.1 h.2
   rw[←h.1];exact this
  exact ih e
theorem fU:∀(more kvs:List (Key × V)),(fB kvs more).length <= kvs.length + more.length
 | [],kvs=>by show kvs.length <= kvs.length + 0;omega
 | p :: r,kvs=>by
  have h1:=fU r (dD kvs p.1 p.2)
  have h2:=fF kvs p.1 p.2
  show(fB (dD kvs p.1 p.2) r).length <= _
  rw[length_cons];omega
theorem jH :∀{kvs:List (Key × V)}{ws:List (Value × Value)},VV (kvs.map λkv=>(kV kv.1,kv.2)) ws->∃rs,Carries (aY P w) ws rs/\KV kvs rs
 | [],_,r=>by rw[map_nil]at r;cases r;exact⟨[],True.intro, .nil⟩
 | p :: kvs,_,r=>by
  rw[map_cons]at r
  cases r with
  | @cons a b as bs h t =>
   obtain⟨rs,c,q⟩:=jH (P:=P) (w:=w) t
   obtain⟨b1,b2⟩:=b
   exact⟨(p.1,b2) :: rs,⟨kA h.1,rfl,c⟩, .cons ⟨rfl,h.2⟩ q⟩
def LU(GN:List (TE × TE)):TE:=λσ H Q=>∀p,H p=none->og GN σ (upd H p (.dK [])) λps H2=>H2 p=some (.dK [])/\∃kvs:List (Key × V),ps=kvs.map (λkv=>(kV kv.1,kv.2))/\kvs.length <= 15/\Q (.ref p) (upd H2 p (.dK (fB [] kvs)))
theorem wK(h:Pr X pos keys values GN)(Ca:keys.all (·.isSome)=true)(hl:keys.length=values.length)(h0:keys ≠ [])
  (h15:keys.length <= 15):PE X (.Dict keys values pos) (LU GN):=by
 intro pins s σ H Q I q
 have hn:=I.Bb.fresh (le_refl s.heap.objs.size)
 have I1:=I.laid (a:=s.heap.objs.size) (o := .dK []) (h':=s.heap.push { cls := .type "dict",data := .dict #[] }) (t':=s.toks) (λ_ _ q=>Heap.get?_push_of_some _ q) (le_refl _) (vH s.heap I.big)
 refine wpAny_Dict_walk (knd:=aY X.prog X.w) Ca hl h0 h15 (aZ (h pins _ σ _ _ I1 (q _ hn)) λws s2 AU=>?_)
 obtain⟨ps,H2,I2,rel,e,kvs,ep,lk,q2⟩:=AU
 subst ep
 obtain⟨rs,c,rk⟩:=jH (P:=X.prog) (w:=X.w) rel
 obtain⟨z,hd,Fj,r0,dd⟩:=vF I2.Bb e
 cases r0
 refine⟨rs,c,dd,λh' GL hs=>⟨.ref s.heap.objs.size,_,?_,rfl,q2⟩⟩
 have hz:(fB [] kvs).length <= sizeLine:=by
  have h1:=fU kvs []
  rw[length_nil]at h1
  rw[sizeLine_eq];omega
 have he:∃q,h'.get? s.heap.objs.size=some q:=let ⟨q,_,_,hq,_⟩:=GL; ⟨q,hq⟩
 exact lI I2 (by rw[e];exact True.intro) hs he (vG hz hd (rk.merge .nil) GL)
structure M1(X:Cx)(o:Expr)(m:Str)(apos:Pos)(e:Expr)(Bu:Pos):Prop where
 base:attributeBase o m X.env (eval o X.env)=eval o X.env
 B9:((backTo Bu (starEach [e] X.env)).all (λx=>!x.1) && (backToKw Bu (keywordEach [] X.env)).all (λx=>x.1.isSome)
  && decide (([e]:List Expr).length + ([]:List Keyword).length + (if ([]:List Keyword).isEmpty then 0 else 1) < 30))=true
 line:(apos.endLine == Bu.line)=true
 trees:backTo Bu (starEach [e] X.env)=[(false,eval e X.env)]
def W8(H:Hp)(a:Addr):Prop:=(∃kvs,Rd H a (.dK kvs))∨∃kvs,Rd H a (.dT kvs)
theorem Ap{σ:St}(I:Inv X pins σ H s)(d:W8 H a) :
  s.TypeIs (.ref a) "dict"/\(∀b,Value.ref a = .ref b->∃ob,s.heap.get? b=some ob/\ob.dict=none)/\(a == sysModules)=false:=by
 rcases d with ⟨kvs,e⟩ | ⟨kvs,e⟩
 ·obtain⟨_,hd,vs,_,dd⟩:=kI I.Bb e
  refine⟨dd.typeIs,λb q=>?_,hd⟩
  cases q
  obtain⟨ob,_,_,h1,h2,_⟩:=dd
  exact⟨ob,h1,h2.2.1⟩
 ·obtain⟨_,hd,xs,_,dd⟩:=kH I.Bb e
  refine⟨dd.typeIs,λb q=>?_,hd⟩
  cases q
  obtain⟨ob,_,_,h1,h2,_⟩:=dd
  exact⟨ob,h1,h2.2.1⟩
section
variable {X:Cx}{pins:List (Addr × Obj)}{σ:St}{H:Hp}{s:Shared}{a:Addr}{y d:V}{u r:Value}{o:Option V}{A:Around}{E:Value->Shared->Prop}
theorem Ax(hu:A.units + 1 < cLine)(I:Inv X pins σ H s)(g:C4 H a y o)(ry:RelV y u)(h:∀w' s',Inv X pins σ H s'->RelV (o.getD .Bj) w'->Q w' s') :
  wpAny (model X.prog X.w) A (call (.builtin "dict.get") [.ref a,u]) Q E s:=by
 rcases g with ⟨kvs,k,e,ey,l⟩ | ⟨kvs,k,b,e,ey,eb,l⟩
 ·subst ey
  obtain⟨z,hd,vs,rel,dd⟩:=kI I.Bb e
  refine call_meetsIn slot_dict_get dd.typeIs entry_dict_get (PySem.F.args_dict_get_2 _ _) (meets_dict_get (aY X.prog X.w) a (kA ry) hd) ⟨_,dd.mapOf,h _ _ (I.tok _) ?_⟩
  rw[l]
  exact(rel.val k).getD rfl
 ·subst ey
  cases (show u=Value.ref b from ry)
  obtain⟨z,hd,xs,rel,dd⟩:=kH I.Bb e
  refine call_meetsIn slot_dict_get dd.typeIs entry_dict_get (PySem.F.args_dict_get_2 _ _) (meetsH_dict_get (tupleKind (aY X.prog X.w)) a b hd) ⟨tupleKind_room_in1 hu,k,xs,j5 I.Bb eb,dd,h _ _ (I.tok _) ?_⟩
  rw[l]
  exact(rel.val k).getD rfl
end
def yN(td ty:TE):TE:=λσ H Q=>td σ H λx H1=>∃a,x = .ref a/\W8 H1 a/\ty σ H1 λy H2=>∃o,C4 H2 a y o/\Q (o.getD .Bj) H2
section
variable {X:Cx}{o e f:Expr}{apos Bu:Pos}{td ty tx:TE}
theorem u9(hu:X.A.units + 1 < cLine)(ho:PE X o td)(he:PE X e ty)(m:M1 X o "get" apos e Bu):PE X (.Call (.Attribute o "get" apos) [e] [] Bu) (yN td ty):=by
 intro pins s σ H Q I h
 refine wpAny_Call_method m.base m.B9 m.line PySem.F.plainAttrs_dict slot_dict_get PySem.F.type_dict_get (aZ (ho pins s σ H _ I h) λu s1 AU=>?_)
 obtain⟨x,H1,I1,rx,a,ex,d,q1⟩:=AU
 subst ex
 obtain rfl:u=Value.ref a:=rx
 obtain⟨t1,t2,_⟩:=Ap I1 d
 refine⟨t1,t2,?_⟩
 rw[m.trees]
 refine Calls.callWith_builtin rfl (Calls.evalArgs_plain (Calls.spliced_cons (aZ (he pins s1 σ H1 _ I1 q1) λiv s2 ⟨y,H2,I2,ry,ov,g,q2⟩=>Calls.spliced_nil ?_)))
 exact Ax hu I2 g ry λw' s3 I3 DD=>⟨_,H2,I3,DD,q2⟩
end
section
variable {X:Cx}{pins:List (Addr × Obj)}{σ:St}{H:Hp}{s:Shared}{a:Addr}{kvs:List (Key × V)}{A:Around}{E:Value->Shared->Prop}
end
section
variable {X:Cx}{pins:List (Addr × Obj)}{σ:St}{H:Hp}{s:Shared}{a:Addr}{y:V}{u:Value}{A:Around}{E:Value->Shared->Prop}
end
section
variable {X:Cx}
end
section
variable {κ:Type}[DecidableEq κ]
end
theorem xC(h:(aY P w).is k u=true):RelV (kV k) u:=by
 rcases bH (show j6 k u=true from h) with ⟨i,t,rfl,rfl⟩ | ⟨x,t,rfl,rfl⟩
 ·exact⟨t,rfl⟩
 ·exact⟨t,rfl⟩
def DcO(P:Program)(w:World)(o:Obj)(kvs:List (Key × V))(ep:Nat):Prop:=∃vs es,KV kvs vs/\o.ExactDict/\o.data = .dict es ep/\KeysOf (aY P w) es/\Pairs (aY P w) es.toList vs/\(vs.map (·.1)).Nodup
noncomputable def LV(a:Addr)(o:Obj)(kvs:List (Key × V)):It :=
 ⟨λi H=>H a=some (.Cy o (.dK kvs))/\i < kvs.length,λi H x H'=>H' = H/\∃k,(kvs.map (·.1))[i]? = some k/\x=kV k,λi H=>H a=some (.Cy o (.dK kvs))/\i=kvs.length⟩
theorem Inv.HW{σ:St}(I:Inv X pins σ H s)(ha:H a=some (.Cy o u)):s.heap.get? a=some o:=(I.Bb a _ ha).1
theorem qU{K:Frag}(a it:Addr)(o:Obj)(kvs:List (Key × V))(ep:Nat)(hD:DcO P w o kvs ep):nK P w K tg (LV a o kvs) [it] it (λi h=>h.IsKeyIter it a i kvs.length ep) where
 mem:=by simp
 obj:=λi h st b hb=>by
  have e:b=it:=by simpa using hb
  subst e
  obtain⟨ob,e,c,d⟩:=st
  exact⟨ob,e,λv z=>by rw[d]at z;cases z⟩
 keep:=λi h h' st k=>by
  obtain⟨ob,e,c,d⟩:=st
  exact⟨ob,k it (by simp) ob e,c,d⟩
 item:=by
  intro X hP hw hK hc i pins s σ H E I hf st hg
  subst hP hw hK
  obtain⟨ha,hi⟩:=hg
  obtain⟨vs,es,rel,d1,d2,d3,d4,d5⟩:=hD
  obtain⟨f0,f1,f2,f3,f4,f5⟩:=hf it (by simp)
  have hl:=rel.length
  have hv:vs[i]? = some (vs[i]'(by omega)):=getElem?_eq_getElem (by omega)
  have st:s.heap.IsKeyIter it a i vs.length ep:=by rw[←hl];exact st
  refine wpAny_pyNext_dict_item (knd:=aY X.prog X.w) (k:=(vs[i]'(by omega)).1) (v:=(vs[i]'(by omega)).2) st ⟨o,es,I.HW ha,d1,d2,d3,d4,d5⟩ hv λkey h' hk Fb sb=>?_
  rw[←hl]at Fb
  have I1:Inv X pins σ H { s with heap:=h' }:=I.turned (t':=s.toks) (λb o hb e=>(sb.2 b hb).trans e) f0 f1 f3 f4 f5
  obtain⟨ob,e,c,d⟩:=id Fb
  exact⟨key,rfl,qG (s:={ s with heap:=h' }) e c d (by decide) ⟨_,H,I1,xC hk,⟨rfl,_,by rw[rel.keys,getElem?_map,hv];rfl,rfl⟩,Fb,λb hb=>(hf b hb).1⟩⟩
 done:=by
  intro X hP hw hK hc i pins s σ H E I hf st hg
  subst hP hw hK
  obtain⟨ha,rfl⟩:=hg
  obtain⟨vs,es,rel,d1,d2,d3,d4,d5⟩:=hD
  obtain⟨f0,f1,f2,f3,f4,f5⟩:=hf it (by simp)
  have hl:=rel.length
  have st:s.heap.IsKeyIter it a vs.length vs.length ep:=by rw[←hl];exact st
  exact wpAny_pyNext_dict_end (knd:=aY X.prog X.w) (I.ok.hd hc) st ⟨o,es,I.HW ha,d1,d2,d3,d4,d5⟩ (List.getElem?_eq_none (le_refl _)) λh' eb=>⟨rfl,I.turned (t':=s.toks) (λb o hb e=>eb b o hb e) f0 f1 f3 f4 f5⟩
 self:=λ_ _ _ _ _ st h=>wpAny_pyIter_keyiter st h
section
variable {X:Cx}{tg:Expr}
def LW(tl:TE):TI:=λσ H R=>tl σ H λx H1=>∃a kvs,x = .ref a/\H1 a=some (.dK kvs)/\∀o,R (LV a o kvs) (upd H1 a (.Cy o (.dK kvs)))
theorem wJ(hl:PE X l tl):PI X tg l (LW tl):=by
 intro pins s σ H R I h
 refine aZ (hl pins s σ H _ I h) λv s1 AU=>?_
 obtain⟨x,H1,I1,r1,q1⟩:=AU
 obtain⟨a,kvs,e,ha,q⟩:=q1
 subst e
 cases r1
 obtain⟨z,hd,vs,rel,o,es,ep,eo,d1,d2,d3,d4,d5⟩:=vF I1.Bb ha
 have I2:Inv X pins σ (upd H1 a (.Cy o (.dK kvs))) s1:=I1.write (x:=a) (e:=a) (h':=s1.heap) (t':=s1.toks) (by rw[ha];trivial) (.inl rfl) (λb u _ q=>q) ⟨_,eo⟩ ⟨eo,z,hd,vs,rel,o,es,ep,eo,d1,d2,d3,d4,d5⟩
 refine wpAny_pyIter_dict (knd:=aY X.prog X.w) hd ⟨o,es,eo,d1,d2,d3,d4,d5⟩ ?_
 refine⟨s1.heap.objs.size,[s1.heap.objs.size],_,_,_,rfl,I2.kept (t':=s1.toks) λb o e=>Heap.get?_push_of_some _ e,qU a _ o kvs ep ⟨vs,es,rel,d1,d2,d3,d4,d5⟩,⟨_,Heap.get?_push_size _ rfl,rfl,by rw[rel.length];rfl⟩,λb hb=>?_,q o⟩
 have e:b=s1.heap.objs.size:=by simpa using hb
 subst e
 exact I2.EF (le_refl _) (I2.Bb.fresh (le_refl _))
theorem v5{g:TG}{tb:TS}{D:i3}(Pv:Nat->St->Hp->Prop)(h0:Pv 0 σ H)(hl:∀i σ H,i <= kvs.length->Pv i σ H->H a=some (.Cy o (.dK kvs)))
  (hs:∀i k σ H,(kvs.map (·.1))[i]? = some k->Pv i σ H->g (kV k) σ H λσ2 H2=>tb { D with nx:=Pv (i + 1),ct:=Pv (i + 1),bk:=D.nx } σ2 H2) (hd:∀σ H,Pv kvs.length σ H->D.nx σ H) :
  ∃W:Nat->Nat->St->Hp->Prop,(∃m,W 0 m σ H)/\∀i m σ H,W i m σ H ->
   ((LV a o kvs).stop i H/\D.nx σ H)∨((LV a o kvs).go i H/\∃N:St->Hp->Prop,(∀σ' H',N σ' H'->∃m',m' < m/\W (i + 1) m' σ' H')/\∀x H',(LV a o kvs).FV i H x H'->g x σ H' λσ2 H2=>tb { D with nx:=N,ct:=N,bk:=D.nx } σ2 H2):=by
 refine⟨λi m σ H=>m=kvs.length - i/\i <= kvs.length/\Pv i σ H,⟨kvs.length,by simp,zero_le _,h0⟩,?_⟩
 rintro i m σ H ⟨rfl,hi,p⟩
 have q:=hl i σ H hi p
 by_cases B5:i < kvs.length
 ·refine .inr ⟨⟨q,B5⟩,Pv (i + 1),λσ' H' p'=>⟨kvs.length - (i + 1),by omega,rfl,B5,p'⟩,λx H' y=>?_⟩
  obtain⟨e,k,hk,ex⟩:=y
  subst e ex
  exact hs i k σ _ hk p
 ·have e:i=kvs.length:=by omega
  subst e
  exact .inl ⟨⟨q,rfl⟩,hd σ H p⟩
end
section
variable {X:Cx}
end
end L2
namespace L2
open PySem
section
variable {X:Cx}
def LX(t:TS):TS:=λD σ H=>∃CI:St->Hp->Prop,t { D with nx:=CI } σ H/\∀σ' H',CI σ' H'->D.nx σ' H'
theorem dO(h:PS X st t):PS X st (LX t):=λpins s σ H D I ⟨CI,q,k⟩ =>
 aZ (h pins s σ H _ I q) λf s1 z=>by
  cases f with
  | next=>obtain⟨σ1,H1,I1,p⟩:=z;exact⟨σ1,H1,I1,k _ _ p⟩
  | brk=>exact z
  | cont=>exact z
  | ret u=>exact z
def yJ(t:TE):TE:=λσ H Q=>∃CI:V->Hp->Prop,t σ H CI/\∀v H',CI v H'->Q v H'
theorem ly(h:PE X e t):PE X e (yJ t):=λpins s σ H Q I ⟨CI,q,k⟩ =>
 aZ (h pins s σ H _ I q) λu s1 AU=>by obtain⟨v,H1,I1,r,p⟩:=AU;exact⟨v,H1,I1,r,k v H1 p⟩
def yI(t:TT):TT:=λσ H Q=>∃CI:Bool->Hp->Prop,t σ H CI/\∀b H',CI b H'->Q b H'
theorem fN(h:PT X e t):PT X e (yI t):=λpins s σ H Q I ⟨CI,q,k⟩ =>
 aZ (h pins s σ H _ I q) λb s1 AU=>by obtain⟨H1,I1,p⟩:=AU;exact⟨H1,I1,k b H1 p⟩
end
open PySem.Spec PyProof.Rows
structure EN(K:Frag)(x qual:Str)(st:Stmt)(f:Addr)(fd:FuncData):Prop where
 ex:∃(oc:Value)(od:Option Addr)(dV kV doc pm:Value)(an:Option Addr)(cdv ct:Value)(Ed:Array (Option Value)),
  fd=fnOf x qual (bS st) (aJ st) (ai st) dV kV doc pm an cdv ct/\K.lookup f=some ⟨oc,od, .func fd,Ed⟩/\codeIn K cdv qual=true
 kp:keepIn K (.ref f)=true
section
variable {P:Program}{w:World}{K:Frag}{mg:Str->Option Value}{base:Heap}
theorem EN.ok{st:Stmt}(F:EN K x qual st f fd)(S:ao N ps (ai st))(len:∀vs H Q E,sp vs H Q E->vs.length=ps.length)
  (CF:∀(cdv:Value)(A:Around)(outer:List Env)(s:Shared)(H:Hp)(vs:List V)(Q:VK)(E:XK),Bc k (A.deeper (envOfC qual (ai st) s.heap.objs.size f cdv))->sp vs H Q E ->
   ∃t,DX (lJ aD P w K mg base N qual (ai st) f cdv A outer s H E).FU (aJ st) t/\t { nx:=λ_ H'=>Q .Bj H',rt:=Q } (start N vs) H):AQ P w K mg base aD (k + 1) f fd ps sp:=by
 obtain⟨oc,od,dV,kV,doc,pm,an,cdv,ct,Ed,rfl,lk,Ea⟩:=F.ex
 refine v7 lk Ea S len λA outer s H vs Q E hr Fc=>?_
 obtain⟨t,h,q⟩:=CF cdv A outer s H vs Q E hr Fc
 exact⟨t,h.FU,q⟩
end
def wF(K:Frag):R2:=λx y H Q=>∃(p:Addr)(vs:List V)(d:PyData)(ds:List PyData),y = .ref p/\Den K H x d/\AV K H p vs/\BE K H vs ds/\Cu d 8/\(∀z ∈ ds,Cu z 8)/\Q (.bl (!(ds.any λy=>PyData.eqv y d))) H
theorem ip(hu:X.A.units + 64 < cLine):eO X (compareOp .NotIn) (wF X.K):=by
 intro pins s σ H x y v u Q I rx ry h
 obtain⟨p,vs,d,ds,rfl,h1,h2,h3,s1,s2,q⟩:=h
 obtain⟨as,r1⟩:=I.den (.lst h2 h3) ry
 obtain⟨bs,r2⟩:=I.den h1 rx
 refine SeqAt.notIn_list_reads r1 r2 (lj s2).1 s1.1 ?_ ⟨.bl _,H,I,rfl,q⟩
 have:=s1.2
 have:=Nat.min_le_right (PyData.depthAll ds) d.depth
 omega
def LY(K:Frag):R2:=λx y H Q=>∃a b xs ys,x = .ref a/\y = .ref b/\AZ K H a xs/\AZ K H b ys/\ys ≠ []/\xs.length + ys.length <= sizeLine /\
 (xs=[]->Q (.ref b) H)/\(xs ≠ []->∀p,H p=none->Q (.ref p) (upd H p (.tup (xs ++ ys))))
theorem wP :eO X (binaryOp .Add) (LY X.K):=by
 intro pins s σ H x y v u Q I rx ry h
 obtain⟨a,b,xs,ys,rfl,rfl,ha,hb,hy,hz,q1,q2⟩:=h
 by_cases hx:xs=[]
 ·cases rx
  cases ry
  obtain⟨AW,r1,p1,_⟩:=I.tuple ha
  obtain⟨CS,r2,p2,_⟩:=I.tuple hb
  have e1:AW=[]:=r1.C9.mpr hx
  obtain⟨⟨cls,dd,data,sl⟩,ho,hc,n,hd⟩:=id p1
  obtain⟨⟨Rq,Pf,data2,JY⟩,Ct,Dy,n2,hd2⟩:=id p2
  simp only at hc hd Dy hd2
  subst hc hd Dy hd2
  exact concat_meets ⟨_,ho,rfl⟩ ⟨_,Ct,rfl⟩ noFill_tuple_add seq_tuple_add slot_tuple_add entry_tuple_add (args_tuple_add_2 _ _)
   (tuple_addW0 a b AW.toArray CS.toArray n n2 dd Pf sl JY (by simp[e1])) ⟨ho,Ct,⟨.ref b,H,I,rfl,q1 hx⟩⟩
 ·exact wO pins s σ H _ _ v u Q I rx ry ⟨a,b,xs,ys,rfl,rfl,ha,hb,hx,hz,λz=>absurd z hy,λ_=>q2 hx⟩
end L2
namespace L2
open PySem
section
variable {X:Cx}
end
open PySem.Spec PyProof.Rows
section
variable {prog:Program}{w:World}{A:Around}{E:Value->Shared->Prop}{s:Shared}
end
section
variable {X:Cx}{pins:List (Addr × Obj)}{σ:St}{H:Hp}{s:Shared}{a:Addr}{o:Obj}{u:HO}
end
section
variable {X:Cx}
end
section
variable {X:Cx}{elts:List Expr}{kk:Nat}{DB:Pos}
end
section
variable {prog:Program}{w:World}{A:Around}{E:Value->Shared->Prop}{s:Shared}
end
section
variable {X:Cx}{tg:Expr}
end
section
variable {prog:Program}{w:World}{A:Around}{E:Value->Shared->Prop}{s:Shared}{I:Addr}{fp wr:List Addr}{G:Array GenState->Array GenState->Prop}{n:Nat}{P:Nat->Value->Prop}{St:Nat->Shared->Prop}
end
section
variable {X:Cx}
end
section
variable {X:Cx}{o e f:Expr}{apos Bu:Pos}{td ty tx:TE}
end
section
variable {X:Cx}{pins:List (Addr × Obj)}{σ:St}{H:Hp}{s:Shared}
end
section
variable {X:Cx}{elts:List Expr}{kk:Nat}{DB p pos:Pos}{e1 e2:Expr}
end
section
variable {X:Cx}
end
section
variable {prog:Program}{w:World}{A:Around}{E:Value->Shared->Prop}{s:Shared}{I:Addr}{fp wr:List Addr}{G:Array GenState->Array GenState->Prop}{n:Nat}{P:Nat->Value->Prop}{St:Nat->Shared->Prop}
end
section
variable {X:Cx}
end
end L2
namespace Yd
open PySem PySem.W PySem.Calls PyProof.Rows
section
variable {prog:Program}{w:World}{A:Around}{E:Value->Shared->Prop}{κ:SortKind}{it:Array Keyed}{s:Shared}
end
section
variable {prog:Program}{w:World}{A:Around}{E:Value->Shared->Prop}{s:Shared}{a:Addr}{vs:List Value}
end
end Yd
namespace L2
open PySem PySem.Spec PyProof.Rows
abbrev W9(H:Hp):List V->List (Int × Int)->Prop:=Paired λv p=>∃t,v = .ref t/\H t=some (.tup [.int p.1, .int p.2])
def Bw(h:Heap)(v:Value)(p:Int × Int):Prop:=∃(a:Addr)(o:Obj)(t u:Tok)(n:Nat),v = .ref a/\h.get? a=some o/\o.cls = .type "tuple"/\o.data = .seq #[.int p.1 t, .int p.2 u] n
section
variable {X:Cx}
theorem qq(hk:BI P w H h)(r:RelV v u)(e:∃t,v = .ref t/\H t=some (.tup [.int p.1, .int p.2])):Bw h u p:=by
 obtain⟨t,rfl,ht⟩:=e
 obtain rfl:u=Value.ref t:=r
 obtain⟨_,AW,rv,o,ho,⟨El,n,L6⟩,_⟩:=hk _ _ ht
 cases rv with
 | cons r1 rv=>cases rv with
  | cons r2 rv =>
   cases rv
   obtain⟨t1,rfl⟩:=r1
   obtain⟨t2,rfl⟩:=r2
   exact⟨t,o,t1,t2,n,rfl,ho,El,L6⟩
theorem mH(hk:BI P w H h):∀{vs:List V}{us:List Value}{ps:List (Int × Int)},Vals vs us->W9 H vs ps->Paired (Bw h) us ps
 | _,_,_, .nil, .nil => .nil
 | _,_,_, .cons r rv, .cons e es => .cons (qq hk r e) (mH hk rv es)
theorem ke :∀{us:List Value}{ps:List (Int × Int)}{i:Nat},Paired (Bw h) us ps->i < us.length->∃p,ps[i]? = some p/\Bw h (us.getD i Value.none) p
 | _,_,_, .nil,hi=>by simp at hi
 | _,_,0, .cons e _,_=>⟨_,rfl,by simpa using e⟩
 | _,_,i + 1, .cons _ es,hi=>by
  obtain⟨p,h1,h2⟩:=ke (i:=i) es (by simpa using hi)
  exact⟨p,by simpa using h1,by simpa using h2⟩
end
end L2
namespace Yd
open PySem PySem.SeqAt
open AutoSeq1 (wpAny_loadPart')
open MeetsSeq MeetsSeq2 MeetsSeq3 SeqRoads2
theorem CT(l:Addr)(items:Array Value)(n:Nat)(dd:Option Addr)(sl:Array (Option Value))(x:Value)(e:Value->Bool)(j:Nat)(hj:j < items.size)(hit:e items[j]=true)(HZ:∀m (hm:m < items.size),m < j->e items[m]=false) :
  Meets (Builtin.«tuple.index» ⟨[.ref l,x],[]⟩)
   (λA R s=>s.heap.get? l=some { cls := .type "tuple",dict:=dd,data := .seq items n,slots:=sl }/\(∀y,y ∈ items->EqAt A.in1 s y x (e y))/\R (.ok (.ret (.int j s.toks))) { s with toks:=s.toks + 1 }) :=
 .of_wp λprog w A R s h=>by
  obtain⟨hp,g,d,tk,os⟩:=s;obtain⟨hl,he,h⟩:=h
  wp_walk using wpAny_loadPart' hl
  show wpAny (model prog w) A.in1 (forIn ([0:min items.size items.size]:Std.Legacy.Range) ((none,()):Option PySem.Fin × PUnit) λ(a:Nat) _=>match items[a]? with
    | some y=>do
     let b ← eqBool y x
     if b=true then do
       let r ← retInt (a:Int)
       pure (ForInStep.done (some r,()))
      else pure (ForInStep.yield (none,()))
    | _=>pure (ForInStep.yield (none,()))) _ _ _
  rw[Std.Legacy.Range.forIn_eq_forIn_range']
  have hsz:([0:min items.size items.size]:Std.Legacy.Range).size=items.size:=by simp[Std.Legacy.Range.size]
  show wpAny (model prog w) A.in1 (forIn (List.range' 0 ([0:min items.size items.size]:Std.Legacy.Range).size 1) _ _) _ _ _
  rw[hsz]
  refine wpAny_forIn_list _ (λrest b s'=>b.1=none/\s' = ⟨hp,g,d,tk,os⟩/\∃i,i <= j/\rest=List.range' i (items.size - i) 1) _ ?yturn ?yfin _ _ ?ystart
  case yturn =>
   rintro k rest b s' ⟨hb,rfl,i,Pt,hr⟩
   rw[show items.size - i=(items.size - i - 1) + 1 by omega,List.range'_succ]at hr
   injection hr with e1 e2
   subst e1
   have hi:k < items.size:=by omega
   rw[show items[k]? = some items[k] by simp[hi]]
   dsimp only
   refine wpAny_bind (he _ (Array.getElem_mem hi) prog w _ _ ?_)
   rcases lt_or_ge k j with hk | hk
   ·rw[HZ k hi hk]
    refine wpAny_pure ⟨rfl,rfl,k + 1,hk,?_⟩
    rw[e2];congr 1
   ·have ekj:k=j:=by omega
    subst ekj
    rw[hit,if_pos rfl]
    wp_walk
    exact⟨_,rfl,h⟩
  case yfin =>
   rintro b s' ⟨hb,rfl,i,Pt,hr⟩
   have:=congrArg List.length hr
   simp at this
   omega
  case ystart =>
   exact⟨rfl,rfl,0,zero_le _,by simp⟩
end Yd
namespace L2
open PySem PySem.Spec PyProof.Rows
def RW(K:Frag):V->List V->Hp->VK->Prop:=λx vs H Q=>∃(t u:Addr)(AY:List V)(ps:List (Int × Int))(p:Int × Int)(j:Nat),x = .ref t/\vs=[.ref u]/\AZ K H t AY/\W9 H AY ps/\H u=some (.tup [.int p.1, .int p.2]) /\
 ps[j]? = some p/\(∀m q,m < j->ps[m]? = some q->q ≠ p)/\Q (.int j) H
section
variable {X:Cx}
theorem xL(hu:A.units < cLine)(hp:Bw s.heap u p)(hq:Bw s.heap v q):SeqAt.EqAt A s u v (decide (p=q)):=by
 obtain⟨a,o,t,t',n,rfl,ho,hc,hd⟩:=hp
 obtain⟨b,o',r,r',m,rfl,DW,HH,FR⟩:=hq
 by_cases GQ:a=b
 ·subst GQ
  rw[ho]at DW
  cases DW
  rw[hd]at FR
  injection FR with e1 _
  have e2:=congrArg Array.toList e1
  simp only[List.cons.injEq,Value.int.injEq,and_true]at e2
  have e3:p=q:=Prod.ext e2.1.1 e2.2.1
  rw[decide_eq_true e3]
  exact SeqAt.EqAt.same _
 ·refine SeqAt.EqAt.of_refs GQ ?_
  have key:=SeqAt.RcAt.tuples (A:=A) (s:=s) (l:=a) (b:=b) (items:=#[.int p.1 t, .int p.2 t']) (items2:=#[.int q.1 r, .int q.2 r']) (e:=λj=>if j=0 then p.1 == q.1 else p.2 == q.2) ⟨o,ho,hc,n,hd⟩ ⟨o',DW,HH,m,FR⟩ hu (λj h1 h2=>by
   match j,h1,h2 with
   | 0,_,_=>exact λprog w E Q hQ=>wpAny_eqBool_int hQ
   | 1,_,_=>exact λprog w E Q hQ=>wpAny_eqBool_int hQ)
  have e:((List.range (min (#[Value.int p.1 t,Value.int p.2 t']:Array Value).size (#[Value.int q.1 r,Value.int q.2 r']:Array Value).size)).all (λj=>if j=0 then p.1 == q.1 else p.2 == q.2) && (#[Value.int p.1 t,Value.int p.2 t']:Array Value).size == (#[Value.int q.1 r,Value.int q.2 r']:Array Value).size)=decide (p=q):=by
   show(((p.1 == q.1) && ((p.2 == q.2) && true)) && true)=decide (p=q)
   rw[Bool.and_true,Bool.and_true,Bool.eq_iff_iff]
   simp only[Bool.and_eq_true,beq_iff_eq,decide_eq_true_eq]
   exact⟨λAU=>by obtain⟨h1,h2⟩:=AU;exact Prod.ext h1 h2,λh=>by rw[h];exact⟨rfl,rfl⟩⟩
  rw[e]at key
  exact key
theorem kd :∀{us:List Value}{ps:List (Int × Int)},Paired (Bw h) us ps->∀v ∈ us,∃p,Bw h v p
 | _,_, .nil,v,hv=>by cases hv
 | _,_, .cons e es,v,hv=>by
  rcases mem_cons.mp hv with rfl | hv
  ·exact⟨_,e⟩
  ·exact kd es v hv
theorem Bw.one :Bw h v p->Bw h v q->p=q:=fun⟨a,o,t,t',n,e,ho,_,hd⟩ ⟨b,o',r,r',m,e',DW,_,FR⟩=>by
 rw[e]at e'
 cases e'
 rw[ho]at DW
 cases DW
 rw[hd]at FR
 injection FR with e1 _
 have e2:=congrArg Array.toList e1
 simp only[List.cons.injEq,Value.int.injEq,and_true]at e2
 exact Prod.ext e2.1.1 e2.2.1
theorem rE(hu:X.A.units + 64 < cLine):Ka X "tuple.index" (RW X.K):=by
 intro pins s σ H x vs v us Q I rx rv h
 obtain⟨t,u,AY,ps,p,j,rfl,rfl,hT,hP,hU,hj,HZ,q⟩:=h
 cases rx
 obtain⟨uu,rfl,ru⟩:=rv.one
 cases ru
 obtain⟨AW,r,ht,hz⟩:=I.tuple hT
 obtain⟨⟨cls,dd,data,sl⟩,ho,hc,n,hd⟩:=id ht
 simp only at hc hd
 subst hc hd
 have LZ:Paired (Bw s.heap) AW ps:=mH I.Bb r hP
 have hpu:Bw s.heap (.ref u) p:=qq I.Bb (show RelV (.ref u) (.ref u) from rfl) ⟨u,rfl,hU⟩
 have hlen:AW.length=ps.length:=Paired.length LZ
 have hjl:j < ps.length:=(gQ0 hj)
 let e:Value->Bool:=λy=>@decide (Bw s.heap y p) (Classical.propDecidable _)
 have he:∀(A:Around),A.units < cLine->∀y,y ∈ AW.toArray->SeqAt.EqAt A s y (.ref u) (e y):=λA hA y hy=>by
  obtain⟨q',DC⟩:=kd LZ y (by simpa using hy)
  have:=xL hA DC hpu
  have e1:e y=decide (q' = p):=by
   by_cases h':q' = p
   ·rw[decide_eq_true h']
    subst h'
    exact @decide_eq_true _ (Classical.propDecidable _) DC
   ·rw[decide_eq_false h']
    exact @decide_eq_false _ (Classical.propDecidable _) λz=>h' (DC.one z)
  rw[e1]
  exact this
 have at_:∀m (hm:m < AW.toArray.size),∃q',ps[m]? = some q'/\Bw s.heap AW.toArray[m] q':=λm hm=>by
  have Fi:m < AW.length:=by simpa using hm
  obtain⟨q',h1,h2⟩:=ke LZ Fi
  refine⟨q',h1,?_⟩
  have e3:AW.getD m Value.none=AW.toArray[m]:=by simp[Fi]
  rw[e3]at h2
  exact h2
 have WA:j < AW.toArray.size:=by simpa using (by omega:j < AW.length)
 have hit:e AW.toArray[j]=true:=by
  obtain⟨q',h1,h2⟩:=at_ j WA
  rw[hj]at h1
  cases h1
  exact @decide_eq_true _ (Classical.propDecidable _) h2
 have RX:∀m (hm:m < AW.toArray.size),m < j->e AW.toArray[m]=false:=λm hm RV=>by
  obtain⟨q',h1,h2⟩:=at_ m hm
  exact @decide_eq_false _ (Classical.propDecidable _) λz=>HZ m q' RV h1 (h2.one z)
 refine call_meets PySem.F.slot_tuple_index ⟨_,ho,rfl⟩ PySem.F.entry_tuple_index (PySem.F.args_tuple_index_2 _ _) (Yd.CT t AW.toArray n dd sl (.ref u) e j WA hit RX) ⟨ho,he _ ?_,?_⟩
 ·simp only[Around.in1_units];omega
 ·exact⟨.int j,H,I.tok _,⟨_,rfl⟩,q⟩
end
def tTM(r:V->List V->Hp->VK->Prop)(to:TE)(t:TA):TE:=λσ H Q=>to σ H λx H1=>(∃a xs,x = .ref a/\H1 a=some (.tup xs))/\t σ H1 λxs H2=>r x xs H2 Q
section
variable {X:Cx}{o e:Expr}{es:List Expr}{to:TE}{t:TA}{name:Str}{apos Bu:Pos}{id:String}{r:V->List V->Hp->VK->Prop}
theorem Mb(slot:Slot "tuple" name id)(Lp:typeOf (.builtin id)=pure (.type "method_descriptor"))(hm:Ka X id r)(ho:PE X o to)(ha:PA X (e :: es) t)
  (CG:autoParam (attributeBase o name X.env (eval o X.env)=eval o X.env) η)
  (Ck:((backTo Bu (starEach (e :: es) X.env)).all (λx=>!x.1) && (backToKw Bu (keywordEach [] X.env)).all (λx=>x.1.isSome)
   && decide ((e :: es).length + ([]:List Keyword).length + (if ([]:List Keyword).isEmpty then 0 else 1) < 30))=true:=by rfl)
  (DE:autoParam ((apos.endLine == Bu.line)=true) η) (hs:autoParam (starEach (e :: es) X.env=(false,eval e X.env) :: starEach es X.env) η) (Ee:autoParam ((backTo Bu (starEach es X.env)).any (·.1)=false) η) :
  PE X (.Call (.Attribute o name apos) (e :: es) [] Bu) (tTM r to t):=by
 intro pins s σ H Q I h
 refine wpAny_Call_method_late CG Ck DE rfl (aZ (ho pins s σ H _ I h) λv s1 AU=>?_)
 obtain⟨x,H1,I1,r1,⟨a,xs,ex,hx⟩,q1⟩:=AU
 subst ex
 cases r1
 obtain⟨_,AW,_,ob,WB,⟨hc,n,hd⟩,C5⟩:=I1.Bb _ _ hx
 refine⟨"tuple",id,PySem.F.plainAttrs_tuple,slot,Lp,⟨ob,WB,hc⟩,λb eb=>by cases eb;exact⟨ob,WB,C5⟩,?_⟩
 have hA:=ha Bu pins s1 σ H1 _ I1 q1
 rw[hs]at hA ⊢
 refine Calls.callWith_builtin (by show(false || (backTo Bu (starEach es X.env)).any (·.1))=false;rw[Ee]<;>rfl) (Calls.evalArgs_plain ?_)
 exact aZ hA λus s2 AU=>by obtain⟨vs,H2,I2,r2,q2⟩:=AU;exact hm pins s2 σ H2 (.ref a) vs (.ref a) us Q I2 rfl r2 q2
end
end L2
namespace L2
open PySem
theorem bN(n:Nat)(hn:n < sizeLine)(W:Nat->List V->Hp->Prop)(h0:W 0 [] H)(hlen:∀i acc H',W i acc H'->acc.length <= i)
  (turn:∀i acc H',i < n->W i acc H'->J.go i H'/\∀x H2,J.FV i H' x H2->g x σ0 H2 λσ2 H3=>tt σ2 H3 λb H4=>if b=true then te σ2 H4 λy H5=>W (i + 1) (acc ++ [y]) H5 else W (i + 1) acc H4)
  (stop:∀acc H',W n acc H'->J.stop n H'/\∀D,H' D=none->Q (.ref D) (upd H' D (.lst acc))):dC J g tt te σ0 Q H:=by
 refine⟨λi m acc H'=>m=n - i/\i <= n/\W i acc H',⟨n,by simp,zero_le _,h0⟩,?_⟩
 rintro i m acc H' ⟨rfl,hi,w⟩
 refine⟨by have:=hlen i acc H' w;omega,?_⟩
 by_cases B5:i < n
 ·obtain⟨go,q⟩:=turn i acc H' B5 w
  exact .inr ⟨go,λBx H2=>W (i + 1) Bx H2,λBx H2 w2=>⟨n - (i + 1),by omega,rfl,B5,w2⟩,q⟩
 ·have e:i=n:=by omega
  subst e
  exact .inl (stop acc H' w)
theorem AO.new(h:AO H H')(n:H' a=none):AO H (upd H' a o):=λb u e=>by rw[ah (aj (h _ _ e) n)];exact h _ _ e
end L2
namespace L2
open PySem
theorem Bt(a:autoParam (sc.kind = .function) η)(b:autoParam (sc.isCoroutine=false) η)(c:autoParam (sc.isGenerator=false) η)(d:autoParam (N.Nodup) ξ)(e:autoParam (N.take P.length=P) η)(f:autoParam (∀x ∈ P,sc.names.lookup x=some .local∨sc.names.lookup x=some .cell) ξ)(g:autoParam (∀y ∈ sc.names,y.2 ≠ .free) ξ):ao N P sc:=⟨a,b,c,d,e,f,g⟩
theorem Co(a:autoParam (scope.kind = .function) η)(b:autoParam (∀y ∈ scope.names,y.2 ≠ .cell) ξ)(c:autoParam (∀y ∈ scope.names,y.2 = .local->scope.names.lookup y.1=some .local) ξ)(d:autoParam (∀y ∈ scope.names,y.2 = .free->sc.names.lookup y.1=some .cell∨sc.names.lookup y.1=some .free) ξ)(e:autoParam (cap.length=capN.length) η)(f:autoParam (∀p ∈ capN.zip cap,scope.names.lookup p.1=some .free/\N[p.2]? = some p.1) ξ):BG N sc scope capN cap:=⟨a,b,c,d,e,f⟩
end L2
namespace K47
open PySem L2
variable {P:Program}{w:World}{K:Frag}{mg:Str->Option Value}{base:Heap}
noncomputable def bZ(i:Nat):Stmt:=PySem.Challenge.pw_wormyard_k47_moves_listed.main.body.getD i (.Pass ⟨0,0,0,0⟩)
abbrev wA:Stmt:=bZ 17
abbrev ua:Stmt:=bZ 18
abbrev zd:Stmt:=bZ 19
abbrev eV:Stmt:=bZ 21
abbrev iM:Stmt:=bZ 22
abbrev zf:Stmt:=bZ 23
abbrev zb:Stmt:=bZ 27
abbrev m6:Stmt:=bZ 30
abbrev RY:Stmt:=bZ 31
abbrev ge:Stmt:=bZ 38
abbrev tN:Stmt:=bZ 39
abbrev mq:Stmt:=bZ 40
abbrev oF:Stmt:=bZ 44
abbrev zn:Stmt:=bZ 45
abbrev lZ:Stmt:=bZ 46
abbrev zl:Stmt:=bZ 48
abbrev Mc:Stmt:=bZ 49
abbrev ui:Stmt:=bZ 52
abbrev zg:Stmt:=bZ 53
abbrev oK:Stmt:=bZ 54
abbrev jp:Stmt:=bZ 55
abbrev ue:Stmt:=bZ 56
abbrev oS:Stmt:=bZ 57
abbrev gH:Stmt:=bZ 58
abbrev eJ:Stmt:=bZ 60
abbrev jo:Stmt:=bZ 61
abbrev oN:Stmt:=bZ 62
abbrev uf:Stmt:=bZ 63
abbrev oO:Stmt:=bZ 64
abbrev gJ:Stmt:=bZ 65
abbrev tS:Stmt:=bZ 66
abbrev oA:Stmt:=bZ 67
abbrev tR:Stmt:=bZ 68
abbrev lp:Stmt:=bZ 69
abbrev m5:Stmt:=aI (bZ 28) 0
abbrev oE:Stmt:=aI (bZ 28) 1
abbrev zm:Stmt:=aI (bZ 28) 2
abbrev tX:Stmt:=aI (bZ 28) 3
abbrev mz:Stmt:=aI (bZ 28) 4
abbrev zc:Stmt:=aI (bZ 32) 0
abbrev tQ:Stmt:=aI (bZ 33) 0
abbrev oC:Stmt:=aI (bZ 33) 1
abbrev zj:Stmt:=aI (bZ 15) 0
abbrev tY:Stmt:=aI (bZ 15) 1
abbrev ze:Stmt:=aI (bZ 15) 2
abbrev oP:Stmt:=aI (bZ 15) 3
abbrev tT:Stmt:=aI (bZ 15) 4
abbrev oR:Stmt:=aI (bZ 15) 5
abbrev zi:Stmt:=aI (bZ 15) 6
abbrev zh:Stmt:=aI (bZ 15) 7
abbrev ud:Stmt:=aI (bZ 41) 0
abbrev uc:Stmt:=aI (bZ 41) 1
abbrev RZ:Stmt:=aI (bZ 47) 0
abbrev oB:Stmt:=aI (bZ 47) 1
abbrev oG:Stmt:=aI (bZ 47) 2
abbrev tZ:Stmt:=aI (bZ 50) 0
abbrev tO:Stmt:=aI (bZ 50) 1
abbrev fR:Stmt:=aI (bZ 42) 0
abbrev gG:Stmt:=aI (bZ 42) 1
abbrev oI:Stmt:=aI (bZ 42) 2
abbrev mj:Stmt:=aI (bZ 42) 3
abbrev md:Stmt:=aI (bZ 42) 4
abbrev oH:Stmt:=aI (bZ 42) 5
abbrev lm:Stmt:=aI (bZ 42) 6
abbrev gF:Stmt:=aI (bZ 42) 7
abbrev ub:Stmt:=aI (bZ 42) 8
abbrev Pu:Stmt:=aI (bZ 42) 9
abbrev uh:Stmt:=aI (bZ 42) 10
abbrev oQ:Stmt:=aI (bZ 42) 11
abbrev zk:Stmt:=aI (bZ 42) 12
abbrev tW:Stmt:=aI (bZ 42) 13
abbrev tU:Stmt:=aI (bZ 42) 14
abbrev oM:Stmt:=aI (bZ 42) 16
abbrev tP:Stmt:=aI (bZ 42) 18
abbrev oJ:Stmt:=aI (bZ 42) 19
abbrev ll:Stmt:=aI (bZ 42) 20
abbrev ug:Stmt:=aI (bZ 42) 21
structure dY(mg:Str->Option Value):Prop where
 GR:mg "isinstance" = none
 int:mg "int" = none
 bool:mg "bool" = none
 len:mg "len" = none
 enum:mg "enumerate" = none
 tuple:mg "tuple" = none
 range:mg "range" = none
 list:mg "list" = none
 all:mg "all" = none
 abs:mg "abs" = none
 str:mg "str" = none
 min:mg "min" = none
def yi(H:Hp)(v:V)(p:Int × Int):Prop:=∃t,v = .ref t/\H t=some (.tup [.int p.1, .int p.2])
abbrev Bi(H:Hp):List V->List (Int × Int)->Prop:=Paired (yi H)
theorem Bi.same(h:AO H H'):∀{vs:List V}{ps:List (Int × Int)},Bi H vs ps->Bi H' vs ps:=λAU=>by
 induction AU with
 | nil=>exact .nil
 | cons zz r ih=>obtain⟨t,e,q⟩:=zz;exact .cons ⟨t,e,h _ _ q⟩ ih
theorem Bi.get :∀{vs:List V}{ps:List (Int × Int)}{i:Nat}{v:V},Bi H vs ps->vs[i]? = some v->∃p,ps[i]? = some p/\yi H v p:=by
 intro _ _ i _ AU
 induction AU generalizing i with
 | nil=>intro h;cases h
 | cons x r ih =>
  intro h
  cases i with
  | zero=>cases h;exact⟨_,rfl,x⟩
  | succ i=>exact ih (i:=i) h
theorem Bi.GU :∀{vs:List V}{ps:List (Int × Int)}{i:Nat}{p:Int × Int},Bi H vs ps->ps[i]? = some p->∃v,vs[i]? = some v/\yi H v p:=by
 intro _ _ i _ AU
 induction AU generalizing i with
 | nil=>intro h;cases h
 | cons x r ih =>
  intro h
  cases i with
  | zero=>cases h;exact⟨_,rfl,x⟩
  | succ i=>exact ih (i:=i) h
theorem Bi.snoc(h:yi H v p):∀{vs:List V}{ps:List (Int × Int)},Bi H vs ps->Bi H (vs ++ [v]) (ps ++ [p]):=λAU=>by
 induction AU with
 | nil=>exact .cons h .nil
 | cons q r ih=>exact .cons q ih
noncomputable def i7(n:Int)(p:Int × Int):Bool:=decide (0 <= p.1/\p.1 <= n - 1) && (decide (0 <= p.2/\p.2 <= n - 1) && !decide (p.1=p.2))
inductive iG(vs:List V)(H:Hp)(Q:VK)(E:XK):Prop
 | mk (i:Int) (_:vs=[.int i]) (_:Q (.bl true) H)
inductive je(vs:List V)(H:Hp)(Q:VK)(E:XK):Prop
 | mk (i a b:Int) (_:vs=[.int i, .int a, .int b]) (_:Q (.bl (decide (a <= i/\i <= b))) H)
inductive sO(vs:List V)(H:Hp)(Q:VK)(E:XK):Prop
 | mk (n a b:Int) (_:vs=[.int n, .int a, .int b]) (_:Q (.bl (i7 n (a,b))) H)
theorem qe:ao ["value"] ["value"] (ai eV):=L2.Bt
theorem jy(F:Bo K "is_whole" "is_whole" eV f fd)(T:dY mg):AQ P w K mg base aD 1 f fd ["value"] iG:=by
 refine F.ok qe (λ_ _ _ _ h=>?_) (λ_ _ _ s H _ Q E hr h=>?_)
 ·obtain⟨m,rfl,_⟩:=h
  rfl
 ·obtain⟨i,rfl,q⟩:=h
  refine⟨_,ag (aq (cE (aC nB rfl T.GR PyProof.Rows.boot_isinstance (aa (pv 0) (aa (dQ (v := .ty "int") rfl T.int PySem.Pv.boot_int rfl) ac)))
   (dz (u7 (aC nB rfl T.GR PyProof.Rows.boot_isinstance (aa (pv 0) (aa (dQ (v := .ty "bool") rfl T.bool PySem.Pv.boot_bool rfl) ac))))))),?_⟩
  refine⟨_,rfl, .inl ⟨i,rfl,true,rfl,?_⟩⟩
  refine aH ?_
  exact⟨_,rfl, .inr (.inl ⟨i,rfl,false,rfl,q⟩)⟩
theorem lY:ao ["value", "least", "most"] ["value", "least", "most"] (ai iM):=L2.Bt
theorem r6(F:Bo K "is_within" "is_within" iM f fd)(T:dY mg)(mh:mg "is_whole" = some (.ref fh))(Fh:Bo K "is_whole" "is_whole" eV fh CQ)(bh:Binds K CQ ["value"] []) :
  AQ P w K mg base aD 2 f fd ["value", "least", "most"] je:=by
 have G:AQ P w K mg base aD 1 fh CQ ["value"] iG:=jy Fh T
 refine F.ok lY (λ_ _ _ _ h=>?_) (λ_ _ _ s H _ Q E hr h=>?_)
 ·obtain⟨i,a,b,rfl,_⟩:=h
  rfl
 ·obtain⟨i,a,b,rfl,q⟩:=h
  refine⟨_,ag (aq (cE (az G hr rfl mh Fh.kp bh .nil am (aa (pv 0) ac)) (dz (mG mI mI (pv 1) (pv 0) (pv 2))))),?_⟩
  refine⟨_,rfl,i,rfl,true,rfl,aH ?_⟩
  refine⟨_,rfl,_,rfl,_,_,rfl,rfl,_,rfl,?_⟩
  by_cases h1:a <= i
  ·rw[decide_eq_true h1]
   refine aH ⟨_,rfl,_,_,rfl,rfl,?_⟩
   show Q (V.bl (decide (i <= b))) H
   by_cases h2:i <= b
   ·rw[decide_eq_true h2];rw[decide_eq_true ⟨h1,h2⟩]at q;exact q
   ·rw[decide_eq_false h2];rw[decide_eq_false λz=>h2 z.2]at q;exact q
  ·rw[decide_eq_false h1]
   refine aG ?_
   rw[decide_eq_false λz=>h1 z.1]at q;exact q
theorem Ib:ao ["places", "one", "other", "last"] ["places", "one", "other"] (ai zb):=L2.Bt
theorem zH(F:Bo K "are_two_places" "are_two_places" zb f fd)(mh:mg "is_within" = some (.ref fh))(kh:keepIn K (.ref fh)=true)(bh:Binds K CQ ["value", "least", "most"] [])
  (G:AQ P w K mg base aD 2 fh CQ ["value", "least", "most"] je) :
  AQ P w K mg base aD 3 f fd ["places", "one", "other"] sO:=by
 refine F.ok Ib (λ_ _ _ _ h=>?_) (λ_ _ _ s H _ Q E hr h=>?_)
 ·obtain⟨i,a,b,rfl,_⟩:=h
  rfl
 ·obtain⟨n,a,b,rfl,q⟩:=h
  refine⟨_,ae (ay (i:=3) Ib.nd rfl (Or.inl rfl) (aw cr (pv 0) af))
   (ag (aq (cE (az G hr rfl mh kh bh .nil am (aa (pv 1) (aa af (aa (pv 3) ac))))
    (cE (az G hr rfl mh kh bh .nil am (aa (pv 2) (aa af (aa (pv 3) ac)))) (dz (cb jw (pv 1) (pv 2) (ax _))))))),?_⟩
  refine⟨_,rfl,_,_,rfl,rfl,?_⟩
  refine⟨_,rfl,_,rfl,a,0,n - 1,rfl,_,rfl,?_⟩
  unfold i7 at q
  dsimp only at q
  by_cases h1:0 <= a/\a <= n - 1
  ·rw[decide_eq_true h1]at q ⊢
   rw[Bool.true_and]at q
   refine aH ⟨_,rfl,_,rfl,b,0,n - 1,rfl,_,rfl,?_⟩
   by_cases h2:0 <= b/\b <= n - 1
   ·rw[decide_eq_true h2]at q ⊢
    rw[Bool.true_and]at q
    refine aH ⟨_,rfl,_,rfl,rfl,?_⟩
    have e:decide (V.int a=V.int b)=decide (a=b):=by
     by_cases h:a=b
     ·rw[h];simp
     ·rw[decide_eq_false h,decide_eq_false λz=>h (by injection z)]
    show Q (V.bl (!decide (V.int a=V.int b))) H
    rw[e];exact q
   ·rw[decide_eq_false h2]at q ⊢
    exact aG q
  ·rw[decide_eq_false h1]at q ⊢
   exact aG q
end K47
namespace L2
open PySem
end L2
namespace K47
open PySem L2
variable {P:Program}{w:World}{K:Frag}{mg:Str->Option Value}{base:Heap}
inductive Due | places | many (k:Nat) | Bp (k:Nat) | good
noncomputable def nJ(n:Int)(ps:List (Int × Int)):Option Nat:=ps.findIdx? λp=>!i7 n p
noncomputable def eC(n:Int)(ps:List (Int × Int)):Due:=if decide (1 <= n/\n <= 12)=false then .places else if 40 < ps.length then .many ps.length else match nJ n ps with | some k => .Bp k | none => .good
structure Cs where
 land:Addr
def cy(H:Hp)(c:Cs)(x dx t:Addr)(n:Int)(AY:List V)(ps:List (Int × Int)):Prop:=H x=some (.ins c.land dx [("places", .int n),("lanes", .ref t)])/\H t=some (.tup AY)/\Bi H AY ps
def ow(K:Frag)(c:Cs):Sp:=λvs H Q E=>∃x dx n p AX ps,vs=[.ref x, .int n, .ref p]/\H x=some (.ins c.land dx [])/\AV K H p AX/\Bi H AX ps/\AX.length <= 1000 /\
 (eC n ps = .places->False) /\
 (∀k,eC n ps = .many k->False) /\
 (∀k,eC n ps = .Bp k->False) /\
 (eC n ps = .good->∀H' t AY,(∀b o,b ≠ x->H b=some o->H' b=some o)->cy H' c x dx t n AY ps->Q .Bj H')
noncomputable def sG(s:Stmt):Scope:=match s with
 | .Assign _ (.Call _ [.ListComp _ _ sc _] _ _) _=>sc
 | _=>zQ0
noncomputable def jr(s:Stmt):Scope:=match aJ s with
 | .Return (some (.ListComp _ _ sc _)) _ :: _=>sc
 | _=>zQ0
abbrev NI:List Str:=["self", "places", "lanes", "lane", "pair"]
structure jK(K:Frag)(c:Cs):Prop where
 cl:CO K c.land
 np:Bd K c.land "places"
 nl:Bd K c.land "lanes"
theorem gm(h:∀p ∈ ps,i7 n p=true):nJ n ps=none:=by
 unfold nJ
 rw[List.findIdx?_eq_none_iff]
 intro p hp
 rw[h p hp];rfl
theorem pG(h:∀q ∈ ps.take i,i7 n q=true)(hi:ps[i]? = some p)(hb:i7 n p=false):nJ n ps=some i:=by
 unfold nJ
 rw[List.findIdx?_eq_some_iff_getElem]
 obtain⟨B5,e⟩:=List.getElem?_eq_some_iff.mp hi
 refine⟨B5,by rw[e,hb];rfl,λj hj=>?_⟩
 have hm:ps[j]'(lt_trans hj B5) ∈ ps.take i:=List.mem_take_iff_getElem.mpr ⟨j,by omega,rfl⟩
 rw[h _ hm];simp
def Off(x:Addr)(H H':Hp):Prop:=∀b o,b ≠ x->H b=some o->H' b=some o
theorem Off.sq(o:Off x H H')(hx:H x=some (.ins C dx fs))(h:AV K H p xs):AV K H' p xs:=by
 rcases h with (h | ⟨ob,h⟩) | h
 ·exact .inl (.inl (o _ _ (b7 h hx (by intro z;cases z)) h))
 ·exact .inl (.inr ⟨ob,o _ _ (b7 h hx (by intro z;cases z)) h⟩)
 ·exact .inr h
theorem Off.EO(o:Off x H H')(hx:H x=some (.ins C dx fs)):∀{vs:List V}{ps:List (Int × Int)},Bi H vs ps->Bi H' vs ps:=λAU=>by
 induction AU with
 | nil=>exact .nil
 | cons zz r ih=>obtain⟨t,e,q⟩:=zz;exact .cons ⟨t,e,o _ _ (b7 q hx (by intro z;cases z)) q⟩ ih
theorem Off.same(a:Off x H H1)(b:AO H1 H2):Off x H H2:=λc o n e=>b _ _ (a c o n e)
theorem Em:ao NI ["self", "places", "lanes"] (ai m5):=L2.Bt
theorem AB:BG NI (ai m5) (sG ((aJ m5).getD 4 (.Pass ⟨0,0,0,0⟩))) [] []:=L2.Co
theorem Ag:(["pair"]:List Str).Nodup:=by decide +kernel
theorem xp(F:Bo K "__init__" "Land.__init__" m5 f fd)(T:dY mg)(L:jK K c)
  (mw:mg "is_within" = some (.ref fw)) (kw:keepIn K (.ref fw)=true) (bw:Binds K dw ["value", "least", "most"] []) (Gw:AQ P w K mg base aD 2 fw dw ["value", "least", "most"] je)
  (mt:mg "are_two_places" = some (.ref ft)) (kt:keepIn K (.ref ft)=true) (bt:Binds K dt ["places", "one", "other"] []) (Gt:AQ P w K mg base aD 3 ft dt ["places", "one", "other"] sO)
  (mp:mg "MOST_PLACES" = some (.int 12 t1)) (ml:mg "MOST_LANES" = some (.int 40 t2)) :
  AQ P w K mg base aD 4 f fd ["self", "places", "lanes"] (ow K c):=by
 refine F.ok Em (λ_ _ _ _ h=>?_) (λ_ _ _ s H _ Q E hr h=>?_)
 ·obtain⟨x,dx,n,p,AX,ps,rfl,_⟩:=h
  rfl
 ·obtain⟨x,dx,n,p,AX,ps,rfl,hx,hp,hl,hlen,h1,h2,h3,h4⟩:=h
  have Cg:Bc 2 _:=hr.mono (by decide)
  refine⟨_,ae (aM (bW (bE (az Gw Cg rfl mw kw bw .nil am (aa (pv 1) (aa af (aa (dq (v := .int 12) rfl mp ⟨_,rfl⟩) ac))))))
    (ag bA) aB)
   (ae (aM (ap kg (aC av rfl T.len PySem.boot_len (aa (pv 2) ac)) (dq (v := .int 40) rfl ml ⟨_,rfl⟩) (ax _))
    (ag bA) aB)
   (ae (bK PassesOwn.never rfl (mD rfl T.enum (aa (pv 2) ac)) (fj rfl (aW (au (i:=3) Em.nd rfl (Or.inl rfl)) (aW (au (i:=4) Em.nd rfl (Or.inl rfl)) dP)))
    (ag (aM (bW (bE (az Gt hr rfl mt kt bt .nil am (aa (pv 1) (aa (ar aA (pv 4) af (λ_ _=>rfl)) (aa (ar aA (pv 4) af (λ_ _=>rfl)) ac))))))
     (ag bA) aB)))
   (ae (bu (pv 0) (pv 1) rfl)
   (ag (bu (pv 0) (c3 dU rfl T.tuple PySem.Pv.boot_tuple (aa (bd (own:=["pair"]) (capN:=[]) (cap:=[]) AB rfl (bF (pv 2))
    (λC s' H' fp=>⟨au (i:=0) Ag rfl (Or.inl rfl),c9,aK (aa (ar (show kR _ (il K) from aA) (pv 0) af (λ_ _=>rfl)) (aa (ar (show kR _ (il K) from aA) (pv 0) af (λ_ _=>rfl)) ac))⟩)) ac)) rfl))))),?_⟩
  refine⟨_,rfl,n,1,12,rfl,_,rfl,?_⟩
  by_cases hn:1 <= n/\n <= 12
  rotate_left
  ·rw[decide_eq_false hn]
   exact aH (h1 (by unfold eC;rw[if_pos (decide_eq_false hn)]))
  rw[decide_eq_true hn]
  refine aG ?_
  have Fl:AX.length=ps.length:=Paired.length hl
  refine⟨_,rfl,p,_,rfl, .inl hp,_,_,rfl,rfl,_,rfl,?_⟩
  by_cases hm:40 < ps.length
  ·rw[decide_eq_true (show (40:Int) < (AX.length:Nat) by omega)]
   refine aH (h2 ps.length ?_)
   unfold eC
   rw[decide_eq_true hn,if_neg (by decide),if_pos hm]
  rw[decide_eq_false (show ¬(40:Int) < (AX.length:Nat) by omega)]
  refine aG ?_
  refine⟨_,rfl,p,rfl,⟨_,hp⟩,ng (sq:=λH=>AV K H p) (xs:=AX) (λi σ H2=>∃a b:Option V,AO H H2/\σ=[some (.ref x),some (.int n),some (.ref p),a,b]/\∀q ∈ ps.take i,i7 n q=true)
   ⟨none,none,AO.refl H,rfl,λq hq=>by simp at hq⟩ (λi σ H2 _ AU=>by obtain⟨a,b,s2,_⟩:=AU;exact s2.seq hp) ?_ ?_⟩
  ·rintro i v q σ H2 hv ⟨a,b,s2,rfl,Ca⟩ hq
   obtain⟨pr,hpr,t,rfl,ht⟩:=Bi.get hl hv
   have s3:AO H (upd H2 q (.tup [.int i, .ref t])):=s2.new hq
   refine⟨q,_,rfl,AZ.of ad,rfl,_,_,rfl,_,_,rfl,rfl,?_⟩
   have FX:AZ K (upd H2 q (.tup [.int i, .ref t])) t [.int pr.1, .int pr.2]:=AZ.of (s3 _ _ ht)
   refine⟨_,rfl,_,rfl,t,_,0,_,rfl,rfl,FX,ak (j:=0) rfl,?_⟩
   refine⟨_,rfl,t,_,1,_,rfl,rfl,FX,ak (j:=1) rfl,n,pr.1,pr.2,rfl,_,rfl,?_⟩
   cases ho:i7 n (pr.1,pr.2) with
   | true =>
    refine aG ⟨some (.int i),some (.ref t),s3,rfl,λz hz=>?_⟩
    rw[take_succ,hpr]at hz
    rcases mem_append.mp hz with hz | hz
    ·exact Ca z hz
    ·have:z=pr:=by simpa using hz
     rw[this];exact ho
   | false =>
    refine aH (h3 i ?_)
    unfold eC
    rw[decide_eq_true hn,if_neg (by decide),if_neg hm,pG Ca hpr ho]
  ·rintro σ H2 ⟨a,b,s2,rfl,Ca⟩
   have Md:eC n ps = .good:=by
    unfold eC
    rw[decide_eq_true hn,if_neg (by decide),if_neg hm,gm (λz hz=>Ca z (by rw[Fl,take_length];exact hz))]
   have Fg:=s2 _ _ hx
   refine⟨_,rfl,_,rfl,x,c.land,dx,_,rfl,Fg,L.cl,L.np,by show 0 < 1000;decide,?_⟩
   generalize WC:upd H2 x (.ins c.land dx (aR "places" (.int n) []))=H3
   have o3:Off x H H3:=λb o hb e=>by rw[←WC,ah hb];exact s2 _ _ e
   have x3:H3 x=some (.ins c.land dx [("places", .int n)]):=by rw[←WC,ad];rfl
   have l3:Bi H3 AX ps:=o3.EO hx hl
   have p3:AV K H3 p AX:=o3.sq hx hp
   refine⟨_,rfl,p,rfl,⟨_,p3⟩,bN AX.length (by rw[sizeLine_eq];omega) (λi acc H4=>AO H3 H4/\acc.length=i/\Bi H4 acc (ps.take i)) ⟨AO.refl _,rfl, .nil⟩ (λi acc H4 h=>le_of_eq h.2.1) ?_ ?_⟩
   ·rintro i acc H4 hi ⟨s4,ha,hA⟩
    have q4:=s4.seq p3
    refine⟨⟨AX,AX[i],q4,by simp[hi]⟩,λy H5 ⟨e5,hy⟩=>?_⟩
    subst e5
    have hy:=hy AX q4
    obtain⟨pr,hpr,t,rfl,ht⟩:=Bi.get l3 hy
    have FX:AZ K H5 t [.int pr.1, .int pr.2]:=AZ.of (s4 _ _ ht)
    refine⟨_,rfl,t,_,0,_,rfl,rfl,FX,ak (j:=0) rfl,?_⟩
    refine⟨_,rfl,t,_,1,_,rfl,rfl,FX,ak (j:=1) rfl,by show 2 <= sizeLine;decide,λr HK=>?_⟩
    refine⟨s4.new HK,by rw[length_append,ha];rfl,?_⟩
    rw[take_succ,hpr]
    exact Bi.snoc ⟨r,rfl,ad⟩ (Bi.same (AO.new (AO.refl _) HK) hA)
   ·rintro acc H4 ⟨s4,ha,hA⟩
    have q4:=s4.seq p3
    refine⟨⟨AX,q4,le_refl _⟩,λD hD=>?_⟩
    have s5:AO H3 (upd H4 D (.lst acc)):=s4.new hD
    refine⟨D,acc,rfl, .inl ⟨AV.of ad,λt ht=>?_⟩⟩
    have s6:AO H3 (upd (upd H4 D (.lst acc)) t (.tup acc)):=s5.new ht
    have x6:=s6 _ _ x3
    refine⟨_,rfl,x,c.land,dx,_,rfl,x6,L.cl,L.nl,by show 1 < 1000;decide,?_⟩
    have htx:t ≠ x:=λz=>by rw[z,s5 _ _ x3]at ht;cases ht
    refine h4 Md _ t acc (λb o hb e=>?_) ⟨by rw[ad];rfl,by rw[ah htx,ad],?_⟩
    ·rw[ah hb];exact s6 _ _ (o3 b o hb e)
    ·have hA':Bi H4 acc ps:=by rw[Fl,take_length]at hA;exact hA
     have x4:=s4 _ _ x3
     have hA6:Bi (upd (upd H4 D (.lst acc)) t (.tup acc)) acc ps:=Bi.same (AO.new (AO.new (AO.refl _) hD) ht) hA'
     exact Off.EO (x:=x) (λb o hb e=>by rw[ah hb];exact e) x6 hA6
noncomputable def j7(sel:Int × Int->Int)(ps:List (Int × Int))(pl:Int)(m:Nat):List V:=((List.range m).filter λk=>decide (sel (ps.getD k (0,0))=pl)).map λk:Nat=>V.int k
inductive qW(c:Cs)(sel:Int × Int->Int)(vs:List V)(H:Hp)(Q:VK)(E:XK):Prop
 | mk (x dx t:Addr) (n:Int) (AY:List V) (ps:List (Int × Int)) (pl:Int) (_:vs=[.ref x, .int pl]) (_:cy H c x dx t n AY ps) (_:ps.length <= 1000) (_:∀H' D,AO H H'->H' D=none->Q (.ref D) (upd H' D (.lst (j7 sel ps pl ps.length))))
theorem mZ(h:ps[i]? = some pr):j7 sel ps pl (i + 1)=if decide (sel pr=pl) then j7 sel ps pl i ++ [V.int i] else j7 sel ps pl i:=by
 have e:ps.getD i (0,0)=pr:=by rw[getD_eq_getElem?_getD,h];rfl
 unfold j7
 rw[range_succ,filter_append]
 by_cases hs:sel pr=pl
 ·rw[if_pos (decide_eq_true hs),filter_cons_of_pos (by rw[e];exact decide_eq_true hs)];simp
 ·rw[if_neg (by rw[decide_eq_false hs];decide),filter_cons_of_neg (by rw[e,decide_eq_false hs];decide)];simp
theorem qz :(j7 sel ps pl i).length <= i:=by
 unfold j7
 rw[length_map]
 have:=length_filter_le (λk=>decide (sel (ps.getD k (0,0))=pl)) (List.range i)
 rwa [length_range]at this
theorem Mf:ao ["self", "place"] ["self", "place"] (ai tX):=L2.Bt
theorem Mg:BG ["self", "place"] (ai tX) (jr tX) ["place"] [1]:=L2.Co
theorem yZ:ao ["self", "place"] ["self", "place"] (ai mz):=L2.Bt
theorem AA:BG ["self", "place"] (ai mz) (jr mz) ["place"] [1]:=L2.Co
theorem qv:(["lane", "pair", "place"]:List Str).Nodup:=by decide +kernel
theorem dM(a b:Int):decide (V.int a=V.int b)=decide (a=b):=by
 by_cases h:a=b
 ·rw[h];simp
 ·rw[decide_eq_false h,decide_eq_false λz=>h (by injection z)]
theorem uM(F:Bo K "out_of" "Land.out_of" tX f fd)(T:dY mg)(L:jK K c):AQ P w K mg base aD 1 f fd ["self", "place"] (qW c Prod.fst):=by
 refine F.ok Mf (λ_ _ _ _ h=>?_) (λ_ _ _ s H _ Q E hr h=>?_)
 ·obtain⟨x,dx,t,n,AY,ps,pl,rfl,_⟩:=h
  rfl
 ·obtain⟨x,dx,t,n,AY,ps,pl,rfl,⟨hx,ht,hl⟩,hlen,q⟩:=h
  refine⟨_,ag (aq (bd (own:=["lane", "pair"]) (capN:=["place"]) (cap:=[1]) Mg rfl (mB rfl T.enum (aa (al (pv 0) rfl) ac))
   (λC s' H' fp=>⟨(show PG _ _ (At K 2 _) from fj rfl (aW (au (i:=0) qv rfl (Or.inl rfl)) (aW (au (i:=1) qv rfl (Or.inl rfl)) dP))),
    bQ (ap bq (ar (show kR _ (il K) from aA) (pv 1) af (λ_ _=>rfl)) (pv 2) (ax _)),pv 0⟩))),?_⟩
  have Fl:AY.length=ps.length:=Paired.length hl
  refine⟨_,rfl,x,c.land,dx,_,_,rfl,hx,L.cl,L.nl,rfl,t,rfl,⟨_,AZ.of ht⟩,bN ps.length (by rw[sizeLine_eq];omega) (λi acc H4=>AO H H4/\acc=j7 Prod.fst ps pl i) ⟨AO.refl _,rfl⟩ (λi acc H4 h=>by rw[h.2];exact qz) ?_ ?_⟩
  ·rintro i acc H4 hi ⟨s4,rfl⟩
   have q4:AZ K H4 t AY:=AZ.of (s4 _ _ ht)
   refine⟨⟨AY,AY[i]'(by omega),q4,by simp[Fl,hi]⟩,λy H5 ⟨r,Dk,ey,h5⟩=>?_⟩
   obtain⟨v,hv,rfl⟩:=h5 AY q4
   subst ey
   obtain⟨pr,hpr,u,rfl,hu⟩:=Bi.get hl hv
   have s5:AO H (upd H4 r (.tup [.int i, .ref u])):=s4.new Dk
   refine⟨r,_,rfl,AZ.of ad,rfl,_,_,rfl,_,_,rfl,rfl,?_⟩
   refine⟨_,rfl,u,_,0,_,rfl,rfl,AZ.of (s5 _ _ hu),ak (j:=0) rfl,_,rfl,rfl,_,rfl,?_⟩
   rw[dM,mZ hpr]
   cases hd:decide (pr.1=pl) with
   | true=>exact aH ⟨_,rfl,s5,by simp[hd]⟩
   | false=>exact aG ⟨s5,by simp[hd]⟩
  ·rintro acc H4 ⟨s4,rfl⟩
   exact⟨⟨AY,AZ.of (s4 _ _ ht),Fl⟩,λD hD=>q H4 D s4 hD⟩
theorem xo(F:Bo K "into" "Land.into" mz f fd)(T:dY mg)(L:jK K c):AQ P w K mg base aD 1 f fd ["self", "place"] (qW c Prod.snd):=by
 refine F.ok yZ (λ_ _ _ _ h=>?_) (λ_ _ _ s H _ Q E hr h=>?_)
 ·obtain⟨x,dx,t,n,AY,ps,pl,rfl,_⟩:=h
  rfl
 ·obtain⟨x,dx,t,n,AY,ps,pl,rfl,⟨hx,ht,hl⟩,hlen,q⟩:=h
  refine⟨_,ag (aq (bd (own:=["lane", "pair"]) (capN:=["place"]) (cap:=[1]) AA rfl (mB rfl T.enum (aa (al (pv 0) rfl) ac))
   (λC s' H' fp=>⟨(show PG _ _ (At K 2 _) from fj rfl (aW (au (i:=0) qv rfl (Or.inl rfl)) (aW (au (i:=1) qv rfl (Or.inl rfl)) dP))),
    bQ (ap bq (ar (show kR _ (il K) from aA) (pv 1) af (λ_ _=>rfl)) (pv 2) (ax _)),pv 0⟩))),?_⟩
  have Fl:AY.length=ps.length:=Paired.length hl
  refine⟨_,rfl,x,c.land,dx,_,_,rfl,hx,L.cl,L.nl,rfl,t,rfl,⟨_,AZ.of ht⟩,bN ps.length (by rw[sizeLine_eq];omega) (λi acc H4=>AO H H4/\acc=j7 Prod.snd ps pl i) ⟨AO.refl _,rfl⟩ (λi acc H4 h=>by rw[h.2];exact qz) ?_ ?_⟩
  ·rintro i acc H4 hi ⟨s4,rfl⟩
   have q4:AZ K H4 t AY:=AZ.of (s4 _ _ ht)
   refine⟨⟨AY,AY[i]'(by omega),q4,by simp[Fl,hi]⟩,λy H5 ⟨r,Dk,ey,h5⟩=>?_⟩
   obtain⟨v,hv,rfl⟩:=h5 AY q4
   subst ey
   obtain⟨pr,hpr,u,rfl,hu⟩:=Bi.get hl hv
   have s5:AO H (upd H4 r (.tup [.int i, .ref u])):=s4.new Dk
   refine⟨r,_,rfl,AZ.of ad,rfl,_,_,rfl,_,_,rfl,rfl,?_⟩
   refine⟨_,rfl,u,_,1,_,rfl,rfl,AZ.of (s5 _ _ hu),ak (j:=1) rfl,_,rfl,rfl,_,rfl,?_⟩
   rw[dM,mZ hpr]
   cases hd:decide (pr.2=pl) with
   | true=>exact aH ⟨_,rfl,s5,by simp[hd]⟩
   | false=>exact aG ⟨s5,by simp[hd]⟩
  ·rintro acc H4 ⟨s4,rfl⟩
   exact⟨⟨AY,AZ.of (s4 _ _ ht),Fl⟩,λD hD=>q H4 D s4 hD⟩
inductive yu(vs:List V)(H:Hp)(Q:VK)(E:XK):Prop
 | mk (m k:Nat) (_:vs=[.int m, .int k]) (_:Q (.bl (m.testBit k)) H)
noncomputable def x9(m:Nat):List V:=(Yd.Eg m (Builtin.Int.intBits (m:Int))).map λk:Nat=>V.int k
inductive sZ(vs:List V)(H:Hp)(Q:VK)(E:XK):Prop
 | mk (m:Nat) (_:vs=[.int m]) (_:m < 2 ^ 400) (_:∀p,H p=none->Q (.ref p) (upd H p (.lst (x9 m))))
inductive sQ(K:Frag)(vs:List V)(H:Hp)(Q:VK)(E:XK):Prop
 | mk (a:Addr) (ks:List Nat) (_:vs=[.ref a]) (_:AV K H a (ks.map λk:Nat=>V.int k)) (_:(∀k ∈ ks,k <= 1000)) (_:Q (.int (Yd.Bv ks 0:Nat)) H)
theorem Mj:ao ["some", "number"] ["some", "number"] (ai wA):=L2.Bt
theorem Aa(F:Bo K "has" "has" wA f fd):AQ P w K mg base aD 1 f fd ["some", "number"] yu:=by
 refine F.ok Mj (λ_ _ _ _ h=>?_) (λ_ _ _ s H _ Q E hr h=>?_)
 ·obtain⟨m,k,rfl,_⟩:=h
  rfl
 ·obtain⟨m,k,rfl,q⟩:=h
  refine⟨_,ag (aq (cE (cb qr (pv 1) af (ax _)) (dz (cb bq (aw uD (aw uC (pv 0) (pv 1)) af) af (ax _))))),?_⟩
  refine⟨_,rfl,_,_,rfl,rfl,_,rfl,?_⟩
  rw[decide_eq_true (show (0:Int) <= (k:Int) by omega)]
  refine aH ?_
  refine⟨_,rfl,_,rfl,_,_,rfl,rfl,(show (0:Int) <= (k:Int) by omega),_,_,rfl,rfl,rfl,?_⟩
  have e:decide (V.int (Builtin.bitAnd ((m:Int) / 2 ^ (k:Int).toNat) 1)=V.int 1)=m.testBit k:=by
   rw[toNat_natCast,←Yd.Ez m k]
   by_cases h:Builtin.bitAnd ((m:Int) / 2 ^ k) 1=1
   ·rw[h];simp
   ·rw[decide_eq_false h,decide_eq_false λz=>h (by injection z)]
  rw[e]
  exact q
theorem va{ks:List Nat}{i:Nat}(h:(ks.map λk:Nat=>V.int k)[i]? = some x):∃k,ks[i]? = some k/\x=V.int k:=by
 rw[getElem?_map]at h
 cases e:ks[i]? with
 | none=>rw[e]at h;cases h
 | some k=>rw[e]at h;exact⟨k,rfl,(Option.some.inj h).symm⟩
theorem E4:ao ["numbers", "some", "number"] ["numbers"] (ai zd):=L2.Bt
theorem zJ(F:Bo K "set_of" "set_of" zd f fd):AQ P w K mg base aD 1 f fd ["numbers"] (sQ K):=by
 refine F.ok E4 (λ_ _ _ _ h=>?_) (λ_ _ _ s H _ Q E hr h=>?_)
 ·obtain⟨a,ks,rfl,_⟩:=h
  rfl
 ·obtain⟨a,ks,rfl,hS,hk,q⟩:=h
  refine⟨_,ae (ay (i:=1) E4.nd rfl (Or.inl rfl) af)
   (ae (bK PassesOwn.never rfl (bF (pv 0)) (au (i:=2) E4.nd rfl (Or.inl rfl))
    (ag (ay (i:=1) E4.nd rfl (Or.inl rfl) (aw KZ (pv 1) (aw zE af (pv 2))))))
   (ag (aq (pv 1)))),?_⟩
  refine⟨_,rfl,a,rfl,⟨_,hS⟩,fG (K:=K) (a:=a) (xs:=ks.map λk:Nat=>V.int k) (λi σ H2=>∃v:Option V,H2=H/\σ=[some (.ref a),some (.int (Yd.Bv (ks.take i) 0:Nat)),v])
   ⟨none,rfl,rfl⟩ (λi σ H2 _ AU=>by obtain⟨_,e,_⟩:=AU;rw[e];exact hS) ?_ ?_⟩
  ·rintro i x σ H2 hx ⟨v,rfl,rfl⟩
   obtain⟨k,ek,rfl⟩:=va hx
   have Mm:=hk k (mem_of_getElem? ek)
   refine⟨_,rfl,_,rfl,_,_,rfl,rfl,⟨(show (0:Int) <= (k:Int) by omega),(show (k:Int) <= 1000000 by omega),(by decide)⟩,_,_,rfl,rfl,some (.int k),rfl,?_⟩
   have e:Builtin.bitOr ((Yd.Bv (ks.take i) 0:Nat):Int) (1 * 2 ^ (k:Int).toNat)=((Yd.Bv (ks.take (i + 1)) 0:Nat):Int):=by
    rw[take_succ,ek,toNat_natCast,Int.one_mul,show (2:Int) ^ k=((2 ^ k:Nat):Int) by rw[Int.natCast_pow];rfl,Yd.EJ,Yd.Fz]
    rfl
   show [some (V.ref a),some (V.int _),some (V.int k)]=_
   rw[e]
  ·rintro σ H2 ⟨v,rfl,rfl⟩
   refine⟨_,rfl,?_⟩
   rw[length_map,take_length]
   exact q
theorem Mp:ao ["some"] ["some"] (ai ua):=L2.Bt
theorem Mq:(["number", "some"]:List Str).Nodup:=by decide +kernel
theorem Ms:BG ["some"] (ai ua) (jr ua) ["some"] [0]:=L2.Co
theorem zO(F:Bo K "members" "members" ua f fd)(T:dY mg)(mh:mg "has" = some (.ref fh))(Fh:Bo K "has" "has" wA fh CQ)(bh:Binds K CQ ["some", "number"] []):AQ P w K mg base aD 2 f fd ["some"] sZ:=by
 have G:AQ P w K mg base aD 1 fh CQ ["some", "number"] yu:=Aa Fh
 refine F.ok Mp (λ_ _ _ _ h=>?_) (λ_ _ _ s H _ Q E hr h=>?_)
 ·obtain⟨m,rfl,_⟩:=h
  rfl
 ·obtain⟨m,rfl,hm,q⟩:=h
  refine⟨_,ag (aq (bd (own:=["number"]) (capN:=["some"]) (cap:=[0]) Ms rfl
   (aQ rfl T.range (aa (zy PySem.F.plainAttrs_int PySem.F.slot_int_bit_length PySem.F.type_int_bit_length xy (pv 0)) ac))
   (λC s' H' fp=>⟨au (i:=0) Mq rfl (Or.inl rfl),bQ (bE (az G hr rfl mh Fh.kp bh .nil am (aa (pv 1) (aa (pv 0) ac)))),pv 0⟩))),?_⟩
  have hb:Builtin.Int.intBits (m:Int) <= 400:=Yd.bits_le hm
  refine⟨_,rfl,rfl,_,rfl,rfl,(Builtin.Int.intBits (m:Int):Nat),rfl,by omega,by omega,?_⟩
  rw[toNat_natCast]
  refine nv (λk=>m.testBit k) (λk=>V.int k) (by rw[sizeLine_eq];omega) (λi acc N hi h=>?_) q
  refine⟨_,rfl,_,rfl,m,i,by simp,_,rfl,?_⟩
  cases e:m.testBit i with
  | true =>
   rw[e]at h
   refine aH ⟨_,rfl,?_⟩
   simpa using h
  | false =>
   rw[e]at h
   exact aG (by simpa using h)
noncomputable def iz(ks:List Nat):List Int:=ks.map λk:Nat=>(k:Int)
theorem xE(ks:List Nat):(iz ks).map V.int=ks.map λk:Nat=>V.int k:=by rw[iz,map_map];rfl
theorem x5(m:Nat):x9 m=(iz (Yd.Eg m (Builtin.Int.intBits (m:Int)))).map V.int:=by rw[xE];rfl
theorem xD(h:ks.Pairwise (· < ·)):(iz ks).Pairwise (· < ·):=by
 unfold iz
 rw[List.pairwise_map]
 exact h.imp λz=>by omega
theorem BJ :k ∈ iz ks↔∃n ∈ ks,(n:Int)=k:=mem_map
theorem pc(h1:ms.Pairwise (· < ·))(h2:∀k,k ∈ ms↔k ∈ iz ks):iz (Yd.Eg (Yd.Bv ks 0) (Builtin.Int.intBits ((Yd.Bv ks 0:Nat):Int)))=ms:=by
 refine Yd.DH (xD (Yd.EK _ _)) h1 λk=>?_
 rw[h2 k,BJ,BJ]
 constructor
 ·rintro⟨n,hn,e⟩
  rw[Yd.DG (Yd.Ey _),Yd.BP]at hn
  exact⟨n,by simpa using hn,e⟩
 ·rintro⟨n,hn,e⟩
  refine⟨n,?_,e⟩
  rw[Yd.DG (Yd.Ey _),Yd.BP]
  simpa using hn
theorem tL(h:∀k ∈ ks,k < b):Yd.Bv ks 0 < 2 ^ b:=by
 rw[←Yd.GC h]
 exact Yd.Dh ks b
theorem qV :(Yd.Bv ks 0).testBit k=decide ((k:Int) ∈ iz ks):=by
 rw[Yd.BP,Nat.zero_testBit,Bool.false_or]
 congr 1
 refine propext ⟨λh=>BJ.mpr ⟨k,h,rfl⟩,λh=>?_⟩
 obtain⟨n,hn,e⟩:=BJ.mp h
 have:n=k:=by omega
 rw[←this]
 exact hn
structure Rw where
 p:Int
 g:Int
 c:Option Nat
 s:List Nat
noncomputable def b8(r:Rw):fY:=[some r.p,some r.g,r.c.map λk:Nat=>(k:Int)]
noncomputable def eQ(sel:Int × Int->Int)(ps:List (Int × Int))(pl:Int):List Nat:=(List.range ps.length).filter λk=>decide (sel (ps.getD k (0,0))=pl)
noncomputable def eT(n:Int)(ps:List (Int × Int))(r:Rw):Bool :=
 i7 n (r.p,r.g) && ((match r.c with | none=>true | some k=>decide (k ∈ eQ Prod.snd ps r.p)) && r.s.all λk=>decide (k ∈ eQ Prod.fst ps r.p))
noncomputable def mJ(sel:Int × Int->Int)(ps:List (Int × Int))(pl:Int)(k:Nat):Bool:=decide (ps.length <= k) || !decide (sel (ps.getD k (0,0))=pl)
noncomputable def nI(n:Int)(ps:List (Int × Int))(ahead:List Rw)(r:Rw):Bool :=
 !i7 n (r.p,r.g) || ((match r.c with | none=>false | some k=>mJ Prod.snd ps r.p k) || ((r.s.any λk=>mJ Prod.fst ps r.p k) || ahead.any λa=>decide (b8 a=b8 r)))
theorem qB :decide (k ∈ eQ sel ps pl) = !mJ sel ps pl k:=by
 unfold eQ mJ
 by_cases h1:ps.length <= k
 ·rw[decide_eq_true h1,decide_eq_false]
  ·rfl
  ·intro z
   have:=mem_range.mp (mem_filter.mp z).1
   omega
 ·rw[decide_eq_false h1]
  by_cases h2:sel (ps.getD k (0,0))=pl
  ·rw[decide_eq_true h2,decide_eq_true]
   ·rfl
   ·exact mem_filter.mpr ⟨mem_range.mpr (by omega),decide_eq_true h2⟩
  ·rw[decide_eq_false h2,decide_eq_false]
   ·rfl
   ·intro z
    exact h2 (of_decide_eq_true (mem_filter.mp z).2)
theorem xZ{l:List Nat}:(l.all λk=>!f k) = !(l.any f):=by
 induction l with
 | nil=>rfl
 | cons a l ih=>rw[all_cons,any_cons,ih,Bool.not_or]
theorem ia(n:Int)(ps:List (Int × Int))(ahead:List Rw)(r:Rw):nI n ps ahead r=(!eT n ps r || ahead.any λa=>decide (b8 a=b8 r)):=by
 unfold nI eT
 have e:(r.s.all λk=>decide (k ∈ eQ Prod.fst ps r.p)) = !(r.s.any λk=>mJ Prod.fst ps r.p k):=by
  rw[←xZ]
  congr 1
  funext k
  exact qB
 rw[e]
 cases hc:r.c with
 | none =>
  dsimp only
  cases i7 n (r.p,r.g)<;>cases (r.s.any λk=>mJ Prod.fst ps r.p k)<;>cases (ahead.any λa=>decide (b8 a=b8 r))<;>rfl
 | some k =>
  dsimp only
  rw[qB]
  cases i7 n (r.p,r.g)<;>cases (mJ Prod.snd ps r.p k)<;>cases (r.s.any λk=>mJ Prod.fst ps r.p k)<;>cases (ahead.any λa=>decide (b8 a=b8 r))<;>rfl
noncomputable def dN(n:Int)(ps:List (Int × Int))(rs:List Rw)(m:Nat):Option Nat:=(List.range m).find? λk=>nI n ps (rs.take k) (rs.getD k ⟨0,0,none,[]⟩)
theorem fV :∀{m:Nat},(∀k,k < m->nI n ps (rs.take k) (rs.getD k ⟨0,0,none,[]⟩)=false)->dN n ps rs m=none:=by
 intro m h
 unfold dN
 rw[List.find?_eq_none]
 intro k hk
 rw[h k (mem_range.mp hk)]
 decide
theorem jS(hi:i < m)(h:∀k,k < i->nI n ps (rs.take k) (rs.getD k ⟨0,0,none,[]⟩)=false)(hb:nI n ps (rs.take i) (rs.getD i ⟨0,0,none,[]⟩)=true):dN n ps rs m=some i:=by
 unfold dN
 rw[List.find?_range_eq_some]
 refine⟨hb,mem_range.mpr hi,λj hj=>?_⟩
 rw[h j hj]
 rfl
noncomputable def eB(rs:List Rw)(k:fY):Option Rw:=rs.reverse.find? λr=>decide (b8 r=k)
theorem pk :eB (rs ++ [r]) k=if k=b8 r then some r else eB rs k:=by
 unfold eB
 rw[List.reverse_append,List.reverse_singleton,List.singleton_append,find?_cons]
 by_cases h:b8 r=k
 ·rw[decide_eq_true h,if_pos h.symm]
 ·rw[decide_eq_false h,if_neg (Ne.symm h)]
theorem lB :(eB rs k).isSome=rs.any λr=>decide (b8 r=k):=by
 unfold eB
 rw[Bool.eq_iff_iff,List.find?_isSome,List.any_eq_true]
 exact⟨λAU=>by obtain⟨x,hx,h⟩:=AU;exact⟨x,mem_reverse.mp hx,h⟩,λAU=>by obtain⟨x,hx,h⟩:=AU;exact⟨x,mem_reverse.mpr hx,h⟩⟩
noncomputable def cV:Option Nat->V
 | none => .Bj
 | some k => .int k
noncomputable def cj(ks:List Nat):List V:=ks.map λk:Nat=>V.int k
def Jf(H:Hp)(t l:Addr)(r:Rw):Prop:=H t=some (.tup [.int r.p, .int r.g,cV r.c, .ref l])/\H l=some (.lst (cj r.s))
def Jg(H:Hp)(v:V)(r:Rw):Prop:=∃t l,v = .ref t/\Jf H t l r
abbrev En(H:Hp):List V->List Rw->Prop:=Paired (Jg H)
theorem Jf.same(h:AO H H')(x:Jf H t l r):Jf H' t l r:=⟨h _ _ x.1,h _ _ x.2⟩
theorem Jg.same(h:AO H H'):Jg H v r->Jg H' v r:=λAU=>by obtain⟨t,l,e,x⟩:=AU;exact⟨t,l,e,x.same h⟩
theorem En.imp(h:∀v r,Jg H v r->Jg H' v r):∀{vs:List V}{rs:List Rw},En H vs rs->En H' vs rs:=λAU=>by
 induction AU with
 | nil=>exact .nil
 | cons x r ih=>exact .cons (h _ _ x) ih
theorem En.same(h:AO H H')(x:En H vs rs):En H' vs rs:=En.imp (λ_ _ z=>z.same h) x
theorem En.get :∀{vs:List V}{rs:List Rw}{i:Nat}{v:V},En H vs rs->vs[i]? = some v->∃r,rs[i]? = some r/\Jg H v r
 | _,_,_,_, .nil,e=>by simp at e
 | _,_,0,_, .cons x _,e=>by simp at e;subst e;exact⟨_,rfl,x⟩
 | _,_,i + 1,v, .cons _ t,e=>by
  obtain⟨r,h1,h2⟩:=En.get (i:=i) (v:=v) t (by simpa using e)
  exact⟨r,by simpa using h1,h2⟩
theorem qy(r:Rw):(b8 r).map sm=[.int r.p, .int r.g,cV r.c]:=by
 cases r with
 | mk p g c s=>cases c<;>rfl
theorem pw :j7 sel ps pl ps.length=(iz (eQ sel ps pl)).map V.int:=by rw[xE];rfl
theorem lC{k:Nat}:decide ((k:Int) ∈ iz l)=decide (k ∈ l):=by
 congr 1
 refine propext ⟨λh=>?_,λh=>BJ.mpr ⟨k,h,rfl⟩⟩
 obtain⟨n,hn,e⟩:=BJ.mp h
 have:n=k:=by omega
 rw[←this]
 exact hn
theorem qQ(ks l:List Nat):((cj ks).filter λ_=>true).map (λv=>match v with | .int i=>V.bl (decide (i ∈ iz l)) | _ => .Bj)=(ks.map λk=>decide (k ∈ l)).map V.bl:=by
 rw[List.filter_eq_self.mpr (λ_ _=>rfl)]
 unfold cj
 rw[map_map,map_map]
 refine List.map_congr_left λk _=>?_
 show V.bl (decide ((k:Int) ∈ iz l))=V.bl (decide (k ∈ l))
 rw[lC]
theorem vT(ks:List Nat)(p:Nat->Bool):(ks.map p).all id=ks.all p:=by rw[all_map];rfl
inductive yn(K:Frag)(vs:List V)(H:Hp)(Q:VK)(E:XK):Prop
 | mk (i:Int) (p:Addr) (ns:List Int) (_:vs=[.int i, .ref p]) (_:AV K H p (ns.map V.int)) (_:Q (.bl (decide (i ∈ ns))) H)
inductive tG(c:Cs)(vs:List V)(H:Hp)(Q:VK)(E:XK):Prop
 | mk (x dx lt t l:Addr) (n:Int) (AY:List V) (ps:List (Int × Int)) (r:Rw) (_:vs=[.ref x, .ref t]) (_:cy H c x dx lt n AY ps) (_:Jf H t l r) (_:ps.length <= 1000) (_:r.s.length <= 1000) (_:∀H',AO H H'->Q (.bl (eT n ps r)) H')
structure Mu(K:Frag)(c:Cs)(f3 f4:Addr)(d3 d4:FuncData):Prop where
 m3:bG K c.land "out_of" f3
 m4:bG K c.land "into" f4
 b3:Binds K d3 ["self", "place"] []
 b4:Binds K d4 ["self", "place"] []
abbrev NF:List Str:=["land", "row", "place", "came", "begin_here"]
noncomputable def vU(s:Stmt):Scope:=match s with
 | .Return (some (.Call _ [.ListComp _ _ sc _] _ _)) _=>sc
 | _=>zQ0
theorem Mw:ao ["value", "numbers"] ["value", "numbers"] (ai zf):=L2.Bt
theorem zL(F:Bo K "is_one_of" "is_one_of" zf f fd)(T:dY mg)(mh:mg "is_whole" = some (.ref fh))(Fh:Bo K "is_whole" "is_whole" eV fh CQ)(bh:Binds K CQ ["value"] []) :
  AQ P w K mg base aD 2 f fd ["value", "numbers"] (yn K):=by
 have G:AQ P w K mg base aD 1 fh CQ ["value"] iG:=jy Fh T
 refine F.ok Mw (λ_ _ _ _ h=>?_) (λ_ _ _ s H _ Q E hr h=>?_)
 ·obtain⟨i,p,ns,rfl,_⟩:=h
  rfl
 ·obtain⟨i,p,ns,rfl,hS,q⟩:=h
  refine⟨_,ag (aq (cE (az G hr rfl mh Fh.kp bh .nil am (aa (pv 0) ac)) (dz (cb rp (pv 0) (pv 1) (by with_unfolding_all rfl))))),?_⟩
  refine⟨_,rfl,i,rfl,true,rfl,aH ?_⟩
  refine⟨_,rfl,_,rfl,p,_,rfl, .inl hS,rfl,fP _,?_⟩
  show Q (V.bl (Kb (V.int i) (ns.map V.int))) H
  rw[iT]
  exact q
theorem Dn:ao NF ["land", "row"] (ai m6):=L2.Bt
theorem AC:BG NF (ai m6) (vU ((aJ m6).getD 5 (.Pass ⟨0,0,0,0⟩))) ["begin_here"] [4]:=L2.Co
theorem Ah:(["lane", "begin_here"]:List Str).Nodup:=by decide +kernel
theorem xt(F:Bo K "row_fits" "row_fits" m6 f fd)(T:dY mg)(L:jK K c)(M:Mu K c f3 f4 d3 d4)
  (mt:mg "are_two_places" = some (.ref ft)) (kt:keepIn K (.ref ft)=true) (bt:Binds K dt ["places", "one", "other"] []) (Gt:AQ P w K mg base aD 3 ft dt ["places", "one", "other"] sO)
  (mo:mg "is_one_of" = some (.ref fo)) (ko:keepIn K (.ref fo)=true) (bo:Binds K d1 ["value", "numbers"] []) (Go:AQ P w K mg base aD 2 fo d1 ["value", "numbers"] (yn K))
  (G3:AQ P w K mg base aD 1 f3 d3 ["self", "place"] (qW c Prod.fst)) (G4:AQ P w K mg base aD 1 f4 d4 ["self", "place"] (qW c Prod.snd)) :
  AQ P w K mg base aD 4 f fd ["land", "row"] (tG c):=by
 refine F.ok Dn (λ_ _ _ _ h=>?_) (λ_ _ _ s H _ Q E hr h=>?_)
 ·obtain⟨x,dx,lt,t,l,n,AY,ps,r,rfl,_⟩:=h
  rfl
 ·obtain⟨x,dx,lt,t,l,n,AY,ps,r,rfl,hL,hR,hlen,RF,q⟩:=h
  have B0:Bc 1 _:=hr.mono (by decide)
  have Cg:Bc 2 _:=hr.mono (by decide)
  refine⟨_,ae (ay (i:=2) Dn.nd rfl (Or.inl rfl) (ar aA (pv 1) af (λ_ _=>rfl)))
   (ae (ay (i:=3) Dn.nd rfl (Or.inl rfl) (ar aA (pv 1) af (λ_ _=>rfl)))
   (ae (aM (bW (bE (az Gt hr rfl mt kt bt .nil am (aa (al (pv 0) rfl) (aa (pv 2) (aa (ar aA (pv 1) af (λ_ _=>rfl)) ac)))))) (ag (aq eP)) aB)
   (ae (aM (PW.pt (im (ap wN (pv 3) cM (ax _)) (gM (bW (bE (az Go Cg rfl mo ko bo .nil am (aa (pv 3) (aa (aE (pv 0) L.cl M.m4 G4 B0 M.b4 .nil am (aa (pv 2) ac)) ac)))))))) (ag (aq eP)) aB)
   (ae (ay (i:=4) Dn.nd rfl (Or.inr rfl) (aE (pv 0) L.cl M.m3 G3 B0 M.b3 .nil am (aa (pv 2) ac)))
   (ag (aq (aC (jI rfl) rfl T.all PyProof.Rows.boot_all (aa (bd (own:=["lane"]) (capN:=["begin_here"]) (cap:=[4]) AC rfl (bF (ar aA (pv 1) af (λ_ _=>rfl)))
    (λC s' H' fp=>⟨au (i:=0) Ah rfl (Or.inl rfl),c9,az Go Cg rfl mo ko bo .nil am (aa (pv 0) (aa (pv 1) ac))⟩)) ac)))))))),?_⟩
  obtain⟨hT,hl⟩:=hR
  have Sa:AZ K H t [.int r.p, .int r.g,cV r.c, .ref l]:=AZ.of hT
  refine⟨_,rfl,t,_,0,_,rfl,rfl,Sa,ak (j:=0) rfl,?_⟩
  refine⟨_,rfl,t,_,2,_,rfl,rfl,Sa,ak (j:=2) rfl,?_⟩
  refine⟨_,rfl,x,c.land,dx,_,_,rfl,hL.1,L.cl,L.np,rfl,_,rfl,_,rfl,t,_,1,_,rfl,rfl,Sa,ak (j:=1) rfl,n,r.p,r.g,rfl,_,rfl,?_⟩
  cases ho:i7 n (r.p,r.g) with
  | false =>
   have e:eT n ps r=false:=by unfold eT;rw[ho];rfl
   refine aH ?_
   have:=q H (AO.refl H)
   rw[e]at this
   exact this
  | true =>
   refine aG ?_
   cases hc:r.c with
   | none =>
    refine⟨_,rfl,rfl,_,rfl,aG (aG ?_)⟩
    have s1:=AO.refl H
    have e1:eT n ps r=r.s.all λk=>decide (k ∈ eQ Prod.fst ps r.p):=by unfold eT;rw[ho,hc];rfl
    refine⟨_,rfl,x,dx,_,rfl,s1 _ _ hL.1,rfl,_,rfl,x,dx,lt,n,AY,ps,r.p,rfl,⟨s1 _ _ hL.1,s1 _ _ hL.2.1,Bi.same s1 hL.2.2⟩,hlen,λH2 D2 s2 CB=>?_⟩
    have s3:=(s1.trans s2).new (o := .lst (j7 Prod.fst ps r.p ps.length)) CB
    have g2:(upd H2 D2 (.lst (j7 Prod.fst ps r.p ps.length))) D2=some (.lst (j7 Prod.fst ps r.p ps.length)):=ad
    generalize upd H2 D2 (.lst (j7 Prod.fst ps r.p ps.length))=H3 at s3 g2 ⊢
    refine⟨_,rfl,t,_,3,_,rfl,rfl,AZ.of (s3 _ _ hT),ak (j:=3) rfl,l,rfl,⟨_,AV.of (s3 _ _ hl)⟩,?_⟩
    refine eE (xs:=cj r.s) (λ_=>true) (λv=>match v with | .int i => .bl (decide (i ∈ iz (eQ Prod.fst ps r.p))) | _ => .Bj) (by rw[sizeLine_eq];simp only[cj,length_map];omega) (AV.of (s3 _ _ hl)) (λy acc N hy h=>?_) (λD hD=>?_)
    ·obtain⟨k',_,rfl⟩:=mem_map.mp hy
     exact⟨_,rfl,_,rfl,(k':Int),D2,iz (eQ Prod.fst ps r.p),rfl,by rw[←pw];exact AV.of g2,by simpa using h⟩
    ·rw[qQ]
     refine⟨D,r.s.map λk=>decide (k ∈ eQ Prod.fst ps r.p),rfl,AV.of ad,?_⟩
     have:=q _ (s3.new (o := .lst ((r.s.map λk=>decide (k ∈ eQ Prod.fst ps r.p)).map V.bl)) hD)
     rw[e1]at this
     rw[vT]
     exact this
   | some k =>
    refine⟨_,rfl,rfl,_,rfl,aH ?_⟩
    refine⟨_,rfl,_,rfl,x,dx,_,rfl,hL.1,rfl,_,rfl,x,dx,lt,n,AY,ps,r.p,rfl,hL,hlen,λH' D s' hD=>?_⟩
    have s1:=s'.new (o := .lst (j7 Prod.snd ps r.p ps.length)) hD
    refine⟨(k:Int),D,iz (eQ Prod.snd ps r.p),rfl,by rw[←pw];exact AV.of ad,_,rfl,?_⟩
    rw[lC]
    cases hk:decide (k ∈ eQ Prod.snd ps r.p) with
    | false =>
     refine aH ?_
     have e:eT n ps r=false:=by unfold eT;rw[ho,hc];dsimp only;rw[hk];rfl
     have:=q _ s1
     rw[e]at this
     exact this
    | true =>
     have e1:eT n ps r=r.s.all λk=>decide (k ∈ eQ Prod.fst ps r.p):=by unfold eT;rw[ho,hc];dsimp only;rw[hk];rfl
     refine aG ?_
     refine⟨_,rfl,x,dx,_,rfl,s1 _ _ hL.1,rfl,_,rfl,x,dx,lt,n,AY,ps,r.p,rfl,⟨s1 _ _ hL.1,s1 _ _ hL.2.1,Bi.same s1 hL.2.2⟩,hlen,λH2 D2 s2 CB=>?_⟩
     have s3:=(s1.trans s2).new (o := .lst (j7 Prod.fst ps r.p ps.length)) CB
     have g2:(upd H2 D2 (.lst (j7 Prod.fst ps r.p ps.length))) D2=some (.lst (j7 Prod.fst ps r.p ps.length)):=ad
     generalize upd H2 D2 (.lst (j7 Prod.fst ps r.p ps.length))=H3 at s3 g2 ⊢
     refine⟨_,rfl,t,_,3,_,rfl,rfl,AZ.of (s3 _ _ hT),ak (j:=3) rfl,l,rfl,⟨_,AV.of (s3 _ _ hl)⟩,?_⟩
     refine eE (xs:=cj r.s) (λ_=>true) (λv=>match v with | .int i => .bl (decide (i ∈ iz (eQ Prod.fst ps r.p))) | _ => .Bj) (by rw[sizeLine_eq];simp only[cj,length_map];omega) (AV.of (s3 _ _ hl)) (λy acc N hy h=>?_) (λD hD=>?_)
     ·obtain⟨k',_,rfl⟩:=mem_map.mp hy
      exact⟨_,rfl,_,rfl,(k':Int),D2,iz (eQ Prod.fst ps r.p),rfl,by rw[←pw];exact AV.of g2,by simpa using h⟩
     ·rw[qQ]
      refine⟨D,r.s.map λk=>decide (k ∈ eQ Prod.fst ps r.p),rfl,AV.of ad,?_⟩
      have:=q _ (s3.new (o := .lst ((r.s.map λk=>decide (k ∈ eQ Prod.fst ps r.p)).map V.bl)) hD)
      rw[e1]at this
      rw[vT]
      exact this
structure Ts where
 tab:Addr
 told:Addr
inductive pQ(K:Frag)(vs:List V)(H:Hp)(Q:VK)(E:XK):Prop
 | mk (x C dx:Addr) (lv:V) (_:vs=[.ref x,lv]) (_:H x=some (.ins C dx [])) (_:CO K C) (_:Bd K C "land") (_:Q .Bj (upd H x (.ins C dx [("land",lv)])))
noncomputable def tM(r:Rw):V := .int (Yd.Bv r.s 0:Nat)
inductive sP(P:Program)(w:World)(K:Frag)(c:Cs)(ts:Ts)(vs:List V)(H:Hp)(Q:VK)(E:XK):Prop
 | mk (x dx lx Bh lt p:Addr) (n:Int) (AY rvs:List V) (ps:List (Int × Int)) (rs:List Rw) (_:vs=[.ref x, .ref lx, .ref p]) (_:H x=some (.ins ts.told dx [])) (_:cy H c lx Bh lt n AY ps) (_:AV K H p rvs) (_:En H rvs rs) (_:rvs.length <= 100000) (_:ps.length <= 1000) (_:(∀r ∈ rs,(∀k ∈ r.s,k <= 1000)/\r.s.length <= 1000)) (_:(∀i,dN n ps rs rs.length=some i->False)) (_:(dN n ps rs rs.length=none->∀H' de kvs,Off x H H'->H' x=some (.ins ts.told dx [("land", .ref lx),("entries", .ref de)])->B7 P w H' de kvs->(∀k,c7 kvs k=(eB rs k).map tM)->Q .Bj H'))
inductive pP(P:Program)(w:World)(ts:Ts)(vs:List V)(H:Hp)(Q:VK)(E:XK):Prop
 | mk (x dx de:Addr) (lv:V) (kvs:List dX) (r:Rw) (m:Nat) (_:vs=[.ref x, .int r.p, .int r.g,cV r.c]) (_:H x=some (.ins ts.told dx [("land",lv),("entries", .ref de)])) (_:B7 P w H de kvs) (_:(c7 kvs (b8 r)).getD (.int 0) = .int m) (_:m < 2 ^ 400) (_:∀H' D,AO H H'->H' D=none->Q (.ref D) (upd H' D (.lst (x9 m))))
structure Sb(K:Frag)(mg:Str->Option Value)(ts:Ts)(f1:Addr)(d1:FuncData):Prop where
 ct:CO K ts.tab
 nt:Bd K ts.tab "land"
 cd:CO K ts.told
 nd1:Bd K ts.told "land"
 Pw:Bd K ts.told "entries"
 mt:mg "Table" = some (.ref ts.tab)
 cm:qR K ts.tab "__init__" f1
 bt:Binds K d1 ["self", "land"] []
abbrev NT:List Str:=["self", "land", "rows", "number", "row", "key"]
theorem Off.land(o:Off x H H')(hx:H x=some (.ins C dx []))(h:cy H c lx Bh lt n AY ps):cy H' c lx Bh lt n AY ps :=
 ⟨o _ _ (b7 h.1 hx (by intro z;cases z)) h.1,o _ _ (b7 h.2.1 hx (by intro z;cases z)) h.2.1,o.EO hx h.2.2⟩
theorem Mx:ao ["self", "land"] ["self", "land"] (ai zc):=L2.Bt
theorem zI(F:Bo K "__init__" "Table.__init__" zc f fd):AQ P w K mg base aD 1 f fd ["self", "land"] (pQ K):=by
 refine F.ok Mx (λ_ _ _ _ h=>?_) (λ_ _ _ s H _ Q E hr h=>?_)
 ·obtain⟨x,C,dx,lv,rfl,_⟩:=h
  rfl
 ·obtain⟨x,C,dx,lv,rfl,hx,hc,hn,q⟩:=h
  refine⟨_,ag (bu (pv 0) (pv 1) rfl),?_⟩
  exact⟨_,rfl,_,rfl,x,C,dx,_,rfl,hx,hc,hn,by show 0 < 1000;decide,q⟩
theorem wx:ao ["self", "place", "goal", "came"] ["self", "place", "goal", "came"] (ai oC):=L2.Bt
theorem uH(F:Bo K "ways" "Told.ways" oC f fd)(B:Sb K mg ts f1 d1)(mm:mg "members" = some (.ref fm))(km:keepIn K (.ref fm)=true)(bm:Binds K dm ["some"] [])
  (Gm:AQ P w K mg base aD 2 fm dm ["some"] sZ):AQ P w K mg base aD 3 f fd ["self", "place", "goal", "came"] (pP P w ts):=by
 refine F.ok wx (λ_ _ _ _ h=>?_) (λ_ _ _ s H _ Q E hr h=>?_)
 ·obtain⟨x,dx,de,lv,kvs,r,m,rfl,_⟩:=h
  rfl
 ·obtain⟨x,dx,de,lv,kvs,r,m,rfl,hx,hd,hv,hm,q⟩:=h
  have hu:=kC hr
  refine⟨_,ag (aq (az Gm hr rfl mm km bm .nil am (aa (mF hu (al (pv 0) rfl) (aa (aK (aa (pv 1) (aa (pv 2) (aa (pv 3) ac)))) (aa af ac))) ac))),?_⟩
  refine⟨_,rfl,x,ts.told,dx,_,_,rfl,hx,B.cd,B.Pw,rfl,de,kvs,rfl,hd,?_⟩
  refine⟨_,rfl,_,rfl,_,rfl,by show 3 <= sizeLine;decide,λt ht=>?_⟩
  have s1:AO H (upd H t (.tup [.int r.p, .int r.g,cV r.c])):=(AO.refl H).new ht
  refine⟨_,_,c7 kvs (b8 r),rfl,⟨kvs,b8 r,t,hd.same s1,rfl,by rw[qy];exact ad,rfl⟩,?_⟩
  rw[hv]
  exact⟨m,rfl,hm,λD hD=>q _ D s1 hD⟩
theorem Dp:ao NT ["self", "land", "rows"] (ai tQ):=L2.Bt
theorem wT(F:Bo K "__init__" "Told.__init__" tQ f fd)(T:dY mg)(B:Sb K mg ts f1 d1)(G1:AQ P w K mg base aD 1 f1 d1 ["self", "land"] (pQ K))
  (mf:mg "row_fits" = some (.ref ff)) (kf:keepIn K (.ref ff)=true) (bf:Binds K df ["land", "row"] []) (Gf:AQ P w K mg base aD 4 ff df ["land", "row"] (tG c))
  (ms:mg "set_of" = some (.ref fs)) (ks:keepIn K (.ref fs)=true) (bs:Binds K ds ["numbers"] []) (Gs:AQ P w K mg base aD 1 fs ds ["numbers"] (sQ K)) :
  AQ P w K mg base aD 5 f fd ["self", "land", "rows"] (sP P w K c ts):=by
 refine F.ok Dp (λ_ _ _ _ h=>?_) (λ_ _ _ s H _ Q E hr h=>?_)
 ·obtain⟨x,dx,lx,Bh,lt,p,n,AY,rvs,ps,rs,rfl,_⟩:=h
  rfl
 ·obtain⟨x,dx,lx,Bh,lt,p,n,AY,rvs,ps,rs,rfl,hx,hL,hp,hR,hlen,Fl,WD,hE,hQ⟩:=h
  have B0:Bc 1 _:=hr.mono (by decide)
  have Cg:Bc 2 _:=hr.mono (by decide)
  have hu:=kC hr
  refine⟨_,ae (aS (ju (dq (v := .ref ts.tab) rfl B.mt rfl) B.cm G1 B0 B.bt .nil am (aa (pv 0) (aa (pv 1) ac))))
   (ae (bu (pv 0) (show PE _ _ (sH P w) from qk) rfl)
   (ag (bK PassesOwn.never rfl (mD rfl T.enum (aa (pv 2) ac)) (fj rfl (aW (au (i:=3) Dp.nd rfl (Or.inl rfl)) (aW (au (i:=4) Dp.nd rfl (Or.inl rfl)) dP)))
    (ae (ay (i:=5) Dp.nd rfl (Or.inl rfl) (aK (aa (ar aA (pv 4) af (λ_ _=>rfl)) (aa (ar aA (pv 4) af (λ_ _=>rfl)) (aa (ar aA (pv 4) af (λ_ _=>rfl)) ac)))))
    (ae (aM (PW.pt (eX (bW (bE (az Gf hr rfl mf kf bf .nil am (aa (pv 1) (aa (pv 4) ac))))) (dH (uv (zA hu (pv 5) (al (pv 0) rfl))))))
     (ag bA) aB)
    (ag (qh hu (al (pv 0) rfl) (pv 5) (az Gs B0 rfl ms ks bs .nil am (aa (ar aA (pv 4) af (λ_ _=>rfl)) ac)) rfl))))))),?_⟩
  refine⟨rfl,_,rfl,_,rfl,x,ts.told,dx,_,rfl,hx,B.cd,B.nd1,?_⟩
  refine λde GV=>⟨_,rfl,x,ts.told,dx,[("land", .ref lx)],rfl,by rw[ah (aj ad GV)];exact ad,B.cd,B.Pw,by show 1 < 1000;decide,?_⟩
  have Ic:x ≠ de:=aj ad GV
  have F8:H de=none:=by rw[ah (Ne.symm Ic)]at GV;exact GV
  generalize F0:upd (upd (upd H x (.ins ts.told dx [("land", .ref lx)])) de (jM P w de [])) x (.ins ts.told dx (aR "entries" (.ref de) [("land", .ref lx)]))=H2
  have o2:Off x H H2:=λb o hb e=>by rw[←F0,ah hb,ah (aj e F8),ah hb];exact e
  have x2:H2 x=some (.ins ts.told dx [("land", .ref lx),("entries", .ref de)]):=by rw[←F0,ad];rfl
  have d2:B7 P w H2 de []:=⟨by rw[←F0,ah (Ne.symm Ic),ad],λy hy=>by cases hy⟩
  have Mz:rvs.length=rs.length:=Paired.length hR
  refine⟨_,rfl,p,rfl,⟨_,o2.sq hx hp⟩,ng (sq:=λH=>AV K H p) (xs:=rvs) (λi σ H3=>∃(a b k:Option V)(kvs:List dX),Off x H H3/\H3 x=some (.ins ts.told dx [("land", .ref lx),("entries", .ref de)])/\B7 P w H3 de kvs/\kvs.length <= i /\
    (∀k,c7 kvs k=(eB (rs.take i) k).map tM)/\(∀j,j < i->nI n ps (rs.take j) (rs.getD j ⟨0,0,none,[]⟩)=false)/\σ=[some (.ref x),some (.ref lx),some (.ref p),a,b,k])
   ⟨none,none,none,[],o2,x2,d2,le_refl _,λk=>rfl,λj hj=>absurd hj (not_lt_zero _),rfl⟩ (λi σ H3 _ AU=>by obtain⟨_,_,_,_,o3,_⟩:=AU;exact o3.sq hx hp) ?_ ?_⟩
  ·rintro i v q σ H3 hv ⟨a,b,k,kvs,o3,x3,d3,l3,v3,g3,rfl⟩ hq
   obtain⟨r,hri,t,l,rfl,hT⟩:=En.get hR hv
   have hi:i < rs.length:=(gQ0 hri)
   have Px:rs.getD i ⟨0,0,none,[]⟩ = r:=by rw[getD_eq_getElem?_getD,hri];rfl
   have Jh:Jf H3 t l r:=⟨o3 _ _ (b7 hT.1 hx (by intro z;cases z)) hT.1,o3 _ _ (b7 hT.2 hx (by intro z;cases z)) hT.2⟩
   have Dq:=o3.land hx hL
   have s4:AO H3 (upd H3 q (.tup [.int i, .ref t])):=(AO.refl H3).new hq
   refine⟨q,_,rfl,AZ.of ad,rfl,_,_,rfl,_,_,rfl,rfl,?_⟩
   generalize upd H3 q (.tup [.int i, .ref t])=H4 at s4 ⊢
   have M0:AZ K H4 t [.int r.p, .int r.g,cV r.c, .ref l]:=AZ.of (s4 _ _ Jh.1)
   refine⟨_,rfl,t,_,0,_,rfl,rfl,M0,ak (j:=0) rfl,_,rfl,t,_,1,_,rfl,rfl,M0,ak (j:=1) rfl,_,rfl,t,_,2,_,rfl,rfl,M0,ak (j:=2) rfl,by show 3 <= sizeLine;decide,λkt Se=>?_⟩
   have s5:AO H3 (upd H4 kt (.tup [.int r.p, .int r.g,cV r.c])):=s4.new Se
   have k5:(upd H4 kt (.tup [.int r.p, .int r.g,cV r.c])) kt=some (.tup ((b8 r).map sm)):=by rw[qy];exact ad
   generalize upd H4 kt (.tup [.int r.p, .int r.g,cV r.c])=H5 at s5 k5 ⊢
   refine⟨_,rfl,_,rfl,lx,Bh,lt,t,l,n,AY,ps,r,rfl,⟨s5 _ _ Dq.1,s5 _ _ Dq.2.1,Bi.same s5 Dq.2.2⟩,Jh.same s5,Fl,(WD r (mem_of_getElem? hri)).2,λH6 WE=>⟨_,rfl,?_⟩⟩
   have s6:=s5.trans WE
   have k6:=WE _ _ k5
   have x6:=s6 _ _ x3
   have d6:=d3.same s6
   have Ie:nI n ps (rs.take i) r=true->False:=λhb=>hE i (jS hi g3 (by rw[Px];exact hb))
   cases hf:eT n ps r with
   | false =>
    exact aH (aH (Ie (by rw[ia,hf];rfl)))
   | true =>
    refine aG ⟨_,rfl,_,rfl,x,ts.told,dx,_,_,rfl,x6,B.cd,B.Pw,rfl,de,_,rfl,⟨kvs,b8 r,kt,d6,rfl,k6,rfl⟩,_,rfl,?_⟩
    have eS:(c7 kvs (b8 r)).isSome=(rs.take i).any λa=>decide (b8 a=b8 r):=by rw[v3,Option.isSome_map,lB]
    cases hS:(c7 kvs (b8 r)).isSome with
    | true =>
     exact aH (Ie (by rw[ia,hf,←eS,hS];rfl))
    | false =>
     refine aG ?_
     have WH:=Jh.same s6
     refine⟨_,rfl,t,_,3,_,rfl,rfl,AZ.of WH.1,ak (j:=3) rfl,l,r.s,rfl,AV.of WH.2,(WD r (mem_of_getElem? hri)).1,?_⟩
     refine⟨_,rfl,x,ts.told,dx,_,_,rfl,x6,B.cd,B.Pw,rfl,_,rfl,de,kvs,b8 r,kt,rfl,d6,rfl,k6,by rw[sizeLine_eq];omega,?_⟩
     have hx6:x ≠ de:=Ic
     refine⟨_,_,_,eZ kvs (b8 r) kt (tM r),λb' o hb e=>?_,?_,⟨ad,jZ (F:=λk a=>(upd H6 de (jM P w de (eZ kvs (b8 r) kt (tM r)))) a=some (.tup (k.map sm))) (λy hy=>?_) ?_⟩,?_,λk'=>?_,λj hj=>?_,rfl⟩
     ·rw[ah (aj e F8)];exact s6 _ _ (o3 _ _ hb e)
     ·rw[ah Ic];exact x6
     ·rw[ah (b7 (d6.2 y hy) d6.1 (by intro z;cases z))];exact d6.2 y hy
     ·rw[ah (b7 k6 d6.1 (by intro z;cases z))];exact k6
     ·exact le_trans eY (Nat.succ_le_succ l3)
     ·rw[gy,take_succ,hri,Option.toList_some,pk,v3]
      by_cases hk:k' = b8 r
      ·rw[if_pos hk,if_pos hk];rfl
      ·rw[if_neg hk,if_neg hk]
     ·rcases lt_or_ge j i with h | h
      ·exact g3 j h
      ·have:j=i:=by omega
       subst this
       rw[Px,ia,hf,←eS,hS];rfl
  ·rintro σ H3 ⟨a,b,k,kvs,o3,x3,d3,l3,v3,g3,rfl⟩
   rw[Mz]at g3 v3
   rw[take_length]at v3
   exact hQ (fV g3) H3 de kvs o3 x3 d3 v3
noncomputable def nV(ps:List Nat):List V:=ps.map λq:Nat=>V.int (q:Int)
theorem dA(ps:List Nat):(nV ps).length=ps.length:=by simp[nV]
theorem l8{k q:Nat}(h:ps[k]? = some q):(nV ps)[k]? = some (V.int (q:Int)):=by simp[nV,h]
theorem vc(a b:List Nat):nV (a ++ b)=nV a ++ nV b:=by unfold nV;rw[map_append]
theorem pb(h:v ∈ nV ps):∃q:Nat,q ∈ ps/\v = .int (q:Int):=by
 obtain⟨q,hq,e⟩:=mem_map.mp h
 exact⟨q,hq,e.symm⟩
inductive lc(c:Cs)(sel:Int × Int->Int)(vs:List V)(H:Hp)(Q:VK)(E:XK):Prop
 | mk (x dx t:Addr) (n:Int) (AY:List V) (ps:List (Int × Int)) (k:Nat) (pr:Int × Int) (_:vs=[.ref x, .int k]) (_:cy H c x dx t n AY ps) (_:ps[k]? = some pr) (_:Q (.int (sel pr)) H)
structure sk(K:Frag)(c:Cs)(f:Addr)(d:FuncData):Prop where
 m:bG K c.land "end_of" f
 b:Binds K d ["self", "lane"] []
theorem bB(a b:Int):decide (V.int a=V.int b)=decide (a=b):=by
 by_cases h:a=b
 ·rw[h];simp
 ·rw[decide_eq_false h,decide_eq_false λz=>h (by injection z)]
theorem iR(h:i < n):xF n (i:Int)=some i:=by
 unfold xF
 rw[if_pos (by omega),if_pos (by omega),toNat_natCast]
noncomputable def mN(m:Nat):List Nat:=Yd.Eg m (Builtin.Int.intBits (m:Int))
theorem vb:∀{a b:List Nat},nV a=nV b->a=b
 | [],[],_=>rfl
 | [],_ :: _,h=>by cases h
 | _ :: _,[],h=>by cases h
 | x :: a,y :: b,h=>by
  unfold nV at h
  rw[map_cons,map_cons]at h
  injection h with h1 h2
  injection h1 with h1
  rw[vb (a:=a) (b:=b) h2,show x=y by omega]
theorem M3:ao ["self", "lane"] ["self", "lane"] (ai zm):=L2.Bt
theorem Ab(F:Bo K "end_of" "Land.end_of" zm f fd)(L:jK K c):AQ P w K mg base aD 1 f fd ["self", "lane"] (lc c Prod.snd):=by
 refine F.ok M3 (λ_ _ _ _ h=>?_) (λ_ _ _ s H _ Q E hr h=>?_)
 ·obtain⟨x,dx,t,n,AY,ps,k,pr,rfl,_⟩:=h
  rfl
 ·obtain⟨x,dx,t,n,AY,ps,k,pr,rfl,⟨hx,ht,hl⟩,hk,q⟩:=h
  refine⟨_,ag (aq (ar aA (ar aA (al (pv 0) rfl) (pv 1) (λ_ _=>rfl)) af (λ_ _=>rfl))),?_⟩
  obtain⟨v,hv,u,rfl,hu⟩:=Bi.GU hl hk
  refine⟨_,rfl,x,c.land,dx,_,_,rfl,hx,L.cl,L.nl,rfl,_,rfl,t,_,_,_,rfl,rfl,AZ.of ht,ak hv,u,_,1,_,rfl,rfl,AZ.of hu,ak (j:=1) rfl,q⟩
noncomputable def isI:V->Bool
 | .int _=>true
 | _=>false
noncomputable def jN:V->Int->Int->Bool
 | .int i,a,b=>decide (a <= i/\i <= b)
 | _,_,_=>false
inductive sj:V->Prop
 | int (i:Int):sj (.int i)
 | bl (b:Bool):sj (.bl b)
 | Bj:sj .Bj
structure vY(K:Frag):Prop where
 ii:kitOne K (.type "int") (.type "int")=some true
 ib:kitOne K (.type "int") (.type "bool")=some false
 bi:kitOne K (.type "bool") (.type "int")=some true
 bb:kitOne K (.type "bool") (.type "bool")=some true
 ni:kitOne K (.type "NoneType") (.type "int")=some false
def gE:Sp:=λvs H Q _=>∃v,vs=[v]/\sj v/\Q (.bl (isI v)) H
inductive fK(vs:List V)(H:Hp)(Q:VK)(E:XK):Prop
 | mk (v:V) (a b:Int) (_:vs=[v, .int a, .int b]) (_:sj v) (_:Q (.bl (jN v a b)) H)
theorem Bi.imp(h:∀v p,yi H v p->yi H' v p):∀{vs:List V}{ps:List (Int × Int)},Bi H vs ps->Bi H' vs ps:=λAU=>by
 induction AU with
 | nil=>exact .nil
 | cons z r ih=>exact .cons (h _ _ z) ih
noncomputable def hV:Option Int->V
 | none => .Bj
 | some z => .int z
abbrev Fs:=List (Str × V)
noncomputable def iB(r b:Int)(h:V)(pa:Addr):Fs:=[("rights", .int r),("returning", .int b),("holder",h),("pieces", .ref pa)]
structure Bm(H:Hp)(C x dx pa:Addr)(r b:Int)(h:Option Int)(Bf:List V)(qs:List (Int × Int)):Prop where
 ins:H x=some (.ins C dx (iB r b (hV h) pa))
 lst:H pa=some (.lst Bf)
 BL:Bi H Bf qs
def BW(x pa:Addr)(H H':Hp):Prop:=∀a o,a ≠ x->a ≠ pa->H a=some o->H' a=some o
theorem BW.EO{fs:Fs}(h:BW x pa H H')(hx:H x=some (.ins C dx fs))(hp:H pa=some (.lst Bf)):Bi H vs qs->Bi H' vs qs :=
 Bi.imp λ_ _ AU=>by obtain⟨t,e,q⟩:=AU;exact⟨t,e,h _ _ (b7 q hx (by intro z;cases z)) (b7 q hp (by intro z;cases z)) q⟩
theorem Bm.same(L:Bm H C x dx pa r b h Bf qs)(s:AO H H'):Bm H' C x dx pa r b h Bf qs:=⟨s _ _ L.ins,s _ _ L.lst,Bi.same s L.BL⟩
noncomputable def cp(r:Int)(h:Option Int)(l c:Int):Bool:=if r=0 then false else if c=0 then decide (h=none) else decide (h=some l)
theorem vt(h:Option Int):decide (hV h=V.Bj)=decide (h=none):=by cases h<;>rfl
theorem vv(h:Option Int)(l:Int):decide (hV h=V.int l)=decide (h=some l):=by
 cases h with
 | none=>rfl
 | some z =>
  show decide (V.int z=V.int l)=_
  rw[bB]
  by_cases e:z=l
  ·rw[decide_eq_true e,decide_eq_true (by rw[e])]
  ·rw[decide_eq_false e,decide_eq_false λq=>e (Option.some.inj q)]
theorem xH(h:Option Int)(l:Int):yT (hV h) (.int l)=true:=by cases h<;>rfl
structure yh(K:Frag)(C:Addr):Prop where
 cl:CO K C
 n1:Bd K C "rights"
 n2:Bd K C "returning"
 n3:Bd K C "holder"
 n4:Bd K C "pieces"
inductive tj(C:Addr)(vs:List V)(H:Hp)(Q:VK)(E:XK):Prop
 | mk (x dx:Addr) (room:Int) (_:vs=[.ref x, .int room]) (_:H x=some (.ins C dx [])) (_:∀(pa:Addr)(H':Hp),H pa=none->(∀a o,a ≠ x->H a=some o->H' a=some o)->Bm H' C x dx pa room 0 none [] []->Q .Bj H')
inductive kW(C:Addr)(vs:List V)(H:Hp)(Q:VK)(E:XK):Prop
 | mk (x dx pa:Addr) (r b:Int) (h:Option Int) (l c:Int) (_:vs=[.ref x, .int l, .int c]) (_:H x=some (.ins C dx (iB r b (hV h) pa))) (_:Q (.bl (cp r h l c)) H)
inductive ym(C:Addr)(vs:List V)(H:Hp)(Q:VK)(E:XK):Prop
 | mk (x dx pa:Addr) (r b:Int) (h:Option Int) (Bf:List V) (qs:List (Int × Int)) (l c:Int) (last:Bool) (_:vs=[.ref x, .int l, .int c, .bl last]) (_:Bm H C x dx pa r b h Bf qs) (_:Bf.length < 100000) (_:(cp r h l c=false->False)) (_:(cp r h l c=true->∀(t:Addr)(H':Hp),BW x pa H H'->Bm H' C x dx pa (r - 1) b (if last then none else some l) (Bf ++ [.ref t]) (qs ++ [(l,c)])->Q .Bj H'))
noncomputable def p7:List V->V
 | [] => .Bj
 | v :: _=>v
inductive iK(C:Addr)(vs:List V)(H:Hp)(Q:VK)(E:XK):Prop
 | mk (x dx pa:Addr) (r b:Int) (h:Option Int) (Bf:List V) (qs:List (Int × Int)) (_:vs=[.ref x]) (_:Bm H C x dx pa r b h Bf qs) (_:Q (p7 Bf) H)
inductive oj(C:Addr)(vs:List V)(H:Hp)(Q:VK)(E:XK):Prop
 | mk (x dx pa:Addr) (r b:Int) (h:Option Int) (Bf:List V) (qs:List (Int × Int)) (_:vs=[.ref x]) (_:Bm H C x dx pa r b h Bf qs) (_:(Bf=[]->False)) (_:(∀v rest,Bf=v :: rest->∀H':Hp,BW x pa H H'->Bm H' C x dx pa r (b + 1) h rest qs.tail->Q v H'))
inductive qb(C:Addr)(vs:List V)(H:Hp)(Q:VK)(E:XK):Prop
 | mk (x dx pa:Addr) (r b:Int) (h:Option Int) (Bf:List V) (qs:List (Int × Int)) (_:vs=[.ref x]) (_:Bm H C x dx pa r b h Bf qs) (_:(b=0->False)) (_:(b ≠ 0->∀H':Hp,BW x pa H H'->Bm H' C x dx pa (r + 1) (b - 1) h Bf qs->Q .Bj H'))
inductive yq(C:Addr)(vs:List V)(H:Hp)(Q:VK)(E:XK):Prop
 | mk (x dx pa:Addr) (r b:Int) (h:Option Int) (Bf:List V) (qs:List (Int × Int)) (_:vs=[.ref x]) (_:Bm H C x dx pa r b h Bf qs) (_:∀(t ql:Addr)(H':Hp),AO H H'->H ql=none->H' t=some (.tup [.int r, .int b,hV h, .ref ql])->H' ql=some (.lst Bf)->Q (.ref t) H')
theorem Sf(n:Nat):seqIndex? 0 (n + 1)=some 0:=by
 unfold seqIndex?
 simp
theorem kj(F:Bo K "is_whole" "is_whole" eV f fd)(T:dY mg)(Z:vY K):AQ P w K mg base aD 1 f fd ["value"] gE:=by
 refine F.ok qe (λ_ _ _ _ h=>?_) (λ_ _ _ s H _ Q E hr h=>?_)
 ·obtain⟨m,rfl,_⟩:=h
  rfl
 ·obtain⟨v,rfl,hv,q⟩:=h
  refine⟨_,ag (aq (cE (aC fH rfl T.GR PyProof.Rows.boot_isinstance (aa (pv 0) (aa (dQ (v := .ty "int") rfl T.int PySem.Pv.boot_int rfl) ac)))
   (dz (u7 (aC fH rfl T.GR PyProof.Rows.boot_isinstance (aa (pv 0) (aa (dQ (v := .ty "bool") rfl T.bool PySem.Pv.boot_bool rfl) ac))))))),?_⟩
  cases hv with
  | int i=>exact⟨_,rfl, .int i,_, "int",true,rfl, .int i,Z.ii,true,rfl,aH ⟨_,rfl, .int i,_, "bool",false,rfl, .int i,Z.ib,false,rfl,q⟩⟩
  | bl b=>exact⟨_,rfl, .bl b,_, "int",true,rfl, .bl b,Z.bi,true,rfl,aH ⟨_,rfl, .bl b,_, "bool",true,rfl, .bl b,Z.bb,true,rfl,q⟩⟩
  | Bj=>exact⟨_,rfl, .Bj,_, "int",false,rfl, .Bj,Z.ni,false,rfl,aG q⟩
theorem oZ(F:Bo K "is_within" "is_within" iM f fd)(T:dY mg)(Z:vY K)(mh:mg "is_whole" = some (.ref fh))(Fh:Bo K "is_whole" "is_whole" eV fh CQ)(bh:Binds K CQ ["value"] []) :
  AQ P w K mg base aD 2 f fd ["value", "least", "most"] fK:=by
 have G:AQ P w K mg base aD 1 fh CQ ["value"] gE:=kj Fh T Z
 refine F.ok lY (λ_ _ _ _ h=>?_) (λ_ _ _ s H _ Q E hr h=>?_)
 ·obtain⟨i,a,b,rfl,_⟩:=h
  rfl
 ·obtain⟨v,a,b,rfl,hv,q⟩:=h
  refine⟨_,ag (aq (cE (az G hr rfl mh Fh.kp bh .nil am (aa (pv 0) ac)) (dz (mG mI mI (pv 1) (pv 0) (pv 2))))),?_⟩
  cases hv with
  | bl x=>exact⟨_,rfl,_,rfl, .bl x,false,rfl,aG q⟩
  | Bj=>exact⟨_,rfl,_,rfl, .Bj,false,rfl,aG q⟩
  | int i =>
   refine⟨_,rfl,_,rfl, .int i,true,rfl,aH ?_⟩
   refine⟨_,rfl,_,rfl,_,_,rfl,rfl,_,rfl,?_⟩
   have q:Q (V.bl (decide (a <= i/\i <= b))) H:=q
   by_cases h1:a <= i
   ·rw[decide_eq_true h1]
    refine aH ⟨_,rfl,_,_,rfl,rfl,?_⟩
    show Q (V.bl (decide (i <= b))) H
    by_cases h2:i <= b
    ·rw[decide_eq_true h2];rw[decide_eq_true ⟨h1,h2⟩]at q;exact q
    ·rw[decide_eq_false h2];rw[decide_eq_false λz=>h2 z.2]at q;exact q
   ·rw[decide_eq_false h1]
    refine aG ?_
    rw[decide_eq_false λz=>h1 z.1]at q;exact q
theorem M4:ao ["self", "room"] ["self", "room"] (ai zj):=L2.Bt
theorem zU(F:Bo K "__init__" "Lane.__init__" zj f fd)(L:yh K C):AQ P w K mg base aD 1 f fd ["self", "room"] (tj C):=by
 refine F.ok M4 (λ_ _ _ _ h=>?_) (λ_ _ _ s H _ Q E hr h=>?_)
 ·obtain⟨x,dx,room,rfl,_⟩:=h
  rfl
 ·obtain⟨x,dx,room,rfl,hx,q⟩:=h
  refine⟨_,ae (bu (pv 0) (pv 1) rfl) (ae (bu (pv 0) af rfl) (ae (bu (pv 0) cM rfl) (ag (bu (pv 0) (aP ac) rfl)))),?_⟩
  refine⟨_,rfl,_,rfl,x,C,dx,_,rfl,hx,L.cl,L.n1,by show 0 < 1000;decide,?_⟩
  refine⟨_,rfl,x,C,dx,_,rfl,ad,L.cl,L.n2,by show 1 < 1000;decide,?_⟩
  refine⟨_,rfl,x,C,dx,_,rfl,ad,L.cl,L.n3,by show 2 < 1000;decide,?_⟩
  refine⟨zero_le _,λpa ER=>?_⟩
  have DL:x ≠ pa:=aj ad ER
  refine⟨_,rfl,x,C,dx,_,rfl,by rw[ah DL];exact ad,L.cl,L.n4,by show 3 < 1000;decide,?_⟩
  have GX:H pa=none:=by
   rw[ah (Ne.symm DL),ah (Ne.symm DL),ah (Ne.symm DL)]at ER
   exact ER
  refine q pa _ GX (λa o ha e=>?_) ⟨ad,by rw[ah (Ne.symm DL)];exact ad, .nil⟩
  have nap:a ≠ pa:=λz=>by
   rw[z,GX]at e
   cases e
  rw[ah ha,ah nap,ah ha,ah ha,ah ha]
  exact e
theorem yY:ao ["self", "letter", "count"] ["self", "letter", "count"] (ai tY):=L2.Bt
theorem xg(F:Bo K "open_to" "Lane.open_to" tY f fd)(L:yh K C):AQ P w K mg base aD 1 f fd ["self", "letter", "count"] (kW C):=by
 refine F.ok yY (λ_ _ _ _ h=>?_) (λ_ _ _ s H _ Q E hr h=>?_)
 ·obtain⟨x,dx,pa,r,b,h,l,c,rfl,_⟩:=h
  rfl
 ·obtain⟨x,dx,pa,r,b,h,l,c,rfl,hx,q⟩:=h
  refine⟨_,ae (aM (ap bq (al (pv 0) rfl) af (ax _)) (ag (aq eP)) aB)
   (ae (aM (ap bq (pv 2) af (ax _)) (ag (aq (cb jx (al (pv 0) rfl) cM (ax _)))) aB)
   (ag (aq (cb bq (al (pv 0) rfl) (pv 1) (ax _))))),?_⟩
  refine⟨_,rfl,x,C,dx,_,_,rfl,hx,L.cl,L.n1,rfl,rfl,_,rfl,?_⟩
  rw[bB]
  unfold cp at q
  by_cases M5:r=0
  ·rw[decide_eq_true M5]
   rw[if_pos M5]at q
   exact aH q
  rw[decide_eq_false M5]
  rw[if_neg M5]at q
  refine aG ⟨_,rfl,rfl,_,rfl,?_⟩
  rw[bB]
  by_cases Eh:c=0
  ·rw[decide_eq_true Eh]
   rw[if_pos Eh]at q
   refine aH ⟨_,rfl,x,C,dx,_,_,rfl,hx,L.cl,L.n3,rfl,rfl,?_⟩
   rw[vt]
   exact q
  ·rw[decide_eq_false Eh]
   rw[if_neg Eh]at q
   refine aG ⟨_,rfl,x,C,dx,_,_,rfl,hx,L.cl,L.n3,rfl,_,rfl,xH h l,?_⟩
   rw[vv]
   exact q
theorem M6:ao ["self", "letter", "count", "last"] ["self", "letter", "count", "last"] (ai ze):=L2.Bt
theorem zK(F:Bo K "put" "Lane.put" ze f fd)(L:yh K C)(mo:bG K C "open_to" fo)(bo:Binds K Dz ["self", "letter", "count"] [])(Go:AQ P w K mg base aD 1 fo Dz ["self", "letter", "count"] (kW C)) :
  AQ P w K mg base aD 2 f fd ["self", "letter", "count", "last"] (ym C):=by
 refine F.ok M6 (λ_ _ _ _ h=>?_) (λ_ _ _ s H _ Q E hr h=>?_)
 ·obtain⟨x,dx,pa,r,b,h,Bf,qs,l,c,last,rfl,_⟩:=h
  rfl
 ·obtain⟨x,dx,pa,r,b,h,Bf,qs,l,c,last,rfl,hL,hlen,h1,h2⟩:=h
  refine⟨_,ae (aM (bW (bE (aE (pv 0) L.cl mo Go hr bo .nil am (aa (pv 1) (aa (pv 2) ac))))) (ag bA) aB)
   (ae (ed (pv 0) af qD)
   (ae (aS (ce plainAttrs_list PySem.F.slot_list_append PySem.F.type_list_append bj (al (pv 0) rfl) (aa (aK (aa (pv 1) (aa (pv 2) ac))) ac)))
   (ag (bu (pv 0) (cP (bE (pv 3)) cM (pv 1)) rfl)))),?_⟩
  refine⟨_,rfl,x,dx,_,rfl,hL.ins,rfl,_,rfl,_,rfl,x,dx,pa,r,b,h,l,c,rfl,hL.ins,_,rfl,?_⟩
  cases ho:cp r h l c with
  | false =>
   exact aH (h1 ho)
  | true =>
   refine aG ?_
   refine⟨_,rfl,x,C,dx,_,_,rfl,hL.ins,L.cl,L.n1,rfl,_,_,rfl,rfl,dx,_,hL.ins,by show 4 < 1000;decide,?_⟩
   have DL:pa ≠ x:=b7 hL.lst hL.ins (by intro z;cases z)
   have Cf:(upd H x (.ins C dx (aR "rights" (.int (r - 1)) (iB r b (hV h) pa)))) x=some (.ins C dx (iB (r - 1) b (hV h) pa)):=ad
   have B6:(upd H x (.ins C dx (aR "rights" (.int (r - 1)) (iB r b (hV h) pa)))) pa=some (.lst Bf):=by rw[ah DL];exact hL.lst
   have o1:BW x pa H (upd H x (.ins C dx (aR "rights" (.int (r - 1)) (iB r b (hV h) pa)))):=λa o ha _ e=>by rw[ah ha];exact e
   show _
   generalize upd H x (.ins C dx (aR "rights" (.int (r - 1)) (iB r b (hV h) pa)))=H1 at Cf B6 o1 ⊢
   refine⟨_,rfl,x,C,dx,_,_,rfl,Cf,L.cl,L.n4,rfl, .inl ⟨rfl,_,AV.of B6⟩,_,rfl,_,rfl,by show 2 <= sizeLine;decide,λt ht=>?_⟩
   have s2:=(AO.refl H1).new (o := .tup [.int l, .int c]) ht
   have gt:(upd H1 t (.tup [.int l, .int c])) t=some (.tup [.int l, .int c]):=ad
   generalize upd H1 t (.tup [.int l, .int c])=H2 at s2 gt ⊢
   refine⟨pa,Bf,_,rfl,rfl,s2 _ _ B6,by rw[sizeLine_eq];omega,?_⟩
   have Py:(upd H2 pa (.lst (Bf ++ [.ref t]))) x=some (.ins C dx (iB (r - 1) b (hV h) pa)):=by rw[ah (Ne.symm DL)];exact s2 _ _ Cf
   have Kf:(upd H2 pa (.lst (Bf ++ [.ref t]))) pa=some (.lst (Bf ++ [.ref t])):=ad
   have o3:BW x pa H (upd H2 pa (.lst (Bf ++ [.ref t]))):=λa o ha hb e=>by rw[ah hb];exact s2 _ _ (o1 a o ha hb e)
   have ntp:t ≠ pa:=b7 gt (s2 _ _ B6) (by intro z;cases z)
   have Sg:(upd H2 pa (.lst (Bf ++ [.ref t]))) t=some (.tup [.int l, .int c]):=by rw[ah ntp];exact gt
   generalize upd H2 pa (.lst (Bf ++ [.ref t]))=H3 at Py Kf o3 Sg ⊢
   have ntx:t ≠ x:=b7 Sg Py (by intro z;cases z)
   have fin:∀h':Option Int,Bm (upd H3 x (.ins C dx (aR "holder" (hV h') (iB (r - 1) b (hV h) pa)))) C x dx pa (r - 1) b h' (Bf ++ [.ref t]) (qs ++ [(l,c)]):=λh' =>
    ⟨ad,by rw[ah DL];exact Kf,Bi.snoc ⟨t,rfl,by rw[ah ntx];exact Sg⟩ (BW.EO (λa o ha hb e=>by rw[ah ha];exact o3 a o ha hb e) hL.ins hL.lst hL.BL)⟩
   have off:∀o',BW x pa H (upd H3 x o'):=λo' a o ha hb e=>by rw[ah ha];exact o3 a o ha hb e
   refine⟨_,rfl,_,rfl,?_⟩
   cases last with
   | true=>exact aH ⟨_,rfl,x,C,dx,_,rfl,Py,L.cl,L.n3,by show 4 < 1000;decide,h2 ho t _ (off _) (fin none)⟩
   | false=>exact aG ⟨_,rfl,_,rfl,x,C,dx,_,rfl,Py,L.cl,L.n3,by show 4 < 1000;decide,h2 ho t _ (off _) (fin (some l))⟩
theorem w6:ao ["self"] ["self"] (ai oP):=L2.Bt
theorem uV(F:Bo K "front" "Lane.front" oP f fd)(L:yh K C):AQ P w K mg base aD 1 f fd ["self"] (iK C):=by
 refine F.ok w6 (λ_ _ _ _ h=>?_) (λ_ _ _ s H _ Q E hr h=>?_)
 ·obtain⟨x,dx,pa,r,b,h,Bf,qs,rfl,_⟩:=h
  rfl
 ·obtain⟨x,dx,pa,r,b,h,Bf,qs,rfl,hL,q⟩:=h
  refine⟨_,ag (aq (cP (js (al (pv 0) rfl) (λ_=>rfl)) (ar aF (al (pv 0) rfl) af (λ_ _=>rfl)) cM)),?_⟩
  refine⟨_,rfl,x,C,dx,_,_,rfl,hL.ins,L.cl,L.n4,rfl,_, .inl ⟨_,AV.of hL.lst,rfl⟩,?_⟩
  cases Bf with
  | nil=>exact aG q
  | cons v rest=>exact aH ⟨_,rfl,x,C,dx,_,_,rfl,hL.ins,L.cl,L.n4,rfl,pa,_,0,v,rfl,rfl,AV.of hL.lst,ak (j:=0) rfl,q⟩
theorem yV:ao ["self"] ["self"] (ai tT):=L2.Bt
theorem wZ(F:Bo K "pull" "Lane.pull" tT f fd)(L:yh K C):AQ P w K mg base aD 1 f fd ["self"] (oj C):=by
 refine F.ok yV (λ_ _ _ _ h=>?_) (λ_ _ _ s H _ Q E hr h=>?_)
 ·obtain⟨x,dx,pa,r,b,h,Bf,qs,rfl,_⟩:=h
  rfl
 ·obtain⟨x,dx,pa,r,b,h,Bf,qs,rfl,hL,h1,h2⟩:=h
  refine⟨_,ae (aM (bW (js (al (pv 0) rfl) (λ_=>rfl))) (ag bA) aB)
   (ae (ed (pv 0) af lD)
   (ag (aq (ce plainAttrs_list PySem.F.slot_list_pop PySem.F.type_list_pop vd (al (pv 0) rfl) (aa af ac))))),?_⟩
  refine⟨_,rfl,x,C,dx,_,_,rfl,hL.ins,L.cl,L.n4,rfl,_, .inl ⟨_,AV.of hL.lst,rfl⟩,?_⟩
  have DL:pa ≠ x:=b7 hL.lst hL.ins (by intro z;cases z)
  cases Bf with
  | nil =>
   exact aH (h1 rfl)
  | cons v rest =>
   refine aG ?_
   refine⟨_,rfl,x,C,dx,_,_,rfl,hL.ins,L.cl,L.n2,rfl,_,_,rfl,rfl,dx,_,hL.ins,by show 4 < 1000;decide,?_⟩
   have Cf:(upd H x (.ins C dx (aR "returning" (.int (b + 1)) (iB r b (hV h) pa)))) x=some (.ins C dx (iB r (b + 1) (hV h) pa)):=ad
   have B6:(upd H x (.ins C dx (aR "returning" (.int (b + 1)) (iB r b (hV h) pa)))) pa=some (.lst (v :: rest)):=by rw[ah DL];exact hL.lst
   have o1:BW x pa H (upd H x (.ins C dx (aR "returning" (.int (b + 1)) (iB r b (hV h) pa)))):=λa o ha _ e=>by rw[ah ha];exact e
   show _
   generalize upd H x (.ins C dx (aR "returning" (.int (b + 1)) (iB r b (hV h) pa)))=H1 at Cf B6 o1 ⊢
   refine⟨_,rfl,x,C,dx,_,_,rfl,Cf,L.cl,L.n4,rfl, .inl ⟨rfl,_,AV.of B6⟩,pa,v :: rest,0,0,v,rfl,rfl,B6,by decide,by decide,Sf _,rfl,?_⟩
   have o2:BW x pa H (upd H1 pa (.lst rest)):=λa o ha hb e=>by rw[ah hb];exact o1 a o ha hb e
   refine h2 v rest rfl _ o2 ⟨by rw[ah (Ne.symm DL)];exact Cf,ad,?_⟩
   have z:=BW.EO o2 hL.ins hL.lst hL.BL
   cases z with
   | cons _ t=>exact t
theorem w8:ao ["self"] ["self"] (ai oR):=L2.Bt
theorem uX(F:Bo K "bring" "Lane.bring" oR f fd)(L:yh K C):AQ P w K mg base aD 1 f fd ["self"] (qb C):=by
 refine F.ok w8 (λ_ _ _ _ h=>?_) (λ_ _ _ s H _ Q E hr h=>?_)
 ·obtain⟨x,dx,pa,r,b,h,Bf,qs,rfl,_⟩:=h
  rfl
 ·obtain⟨x,dx,pa,r,b,h,Bf,qs,rfl,hL,h1,h2⟩:=h
  refine⟨_,ae (aM (ap bq (al (pv 0) rfl) af (ax _)) (ag bA) aB)
   (ae (ed (pv 0) af qD) (ag (ed (pv 0) af lD))),?_⟩
  refine⟨_,rfl,x,C,dx,_,_,rfl,hL.ins,L.cl,L.n2,rfl,rfl,_,rfl,?_⟩
  have DL:pa ≠ x:=b7 hL.lst hL.ins (by intro z;cases z)
  rw[bB]
  by_cases Pz:b=0
  ·rw[decide_eq_true Pz]
   exact aH (h1 Pz)
  ·rw[decide_eq_false Pz]
   refine aG ?_
   refine⟨_,rfl,x,C,dx,_,_,rfl,hL.ins,L.cl,L.n2,rfl,_,_,rfl,rfl,dx,_,hL.ins,by show 4 < 1000;decide,?_⟩
   have Cf:(upd H x (.ins C dx (aR "returning" (.int (b - 1)) (iB r b (hV h) pa)))) x=some (.ins C dx (iB r (b - 1) (hV h) pa)):=ad
   have o1:BW x pa H (upd H x (.ins C dx (aR "returning" (.int (b - 1)) (iB r b (hV h) pa)))):=λa o ha _ e=>by rw[ah ha];exact e
   have B6:(upd H x (.ins C dx (aR "returning" (.int (b - 1)) (iB r b (hV h) pa)))) pa=some (.lst Bf):=by rw[ah DL];exact hL.lst
   show _
   generalize upd H x (.ins C dx (aR "returning" (.int (b - 1)) (iB r b (hV h) pa)))=H1 at Cf B6 o1 ⊢
   refine⟨_,rfl,x,C,dx,_,_,rfl,Cf,L.cl,L.n1,rfl,_,_,rfl,rfl,dx,_,Cf,by show 4 < 1000;decide,?_⟩
   have o2:∀o',BW x pa H (upd H1 x o'):=λo' a o ha hb e=>by rw[ah ha];exact o1 a o ha hb e
   exact h2 Pz _ (o2 _) ⟨ad,by rw[ah DL];exact B6,BW.EO (o2 _) hL.ins hL.lst hL.BL⟩
theorem M7:ao ["self"] ["self"] (ai zi):=L2.Bt
theorem zT(F:Bo K "told" "Lane.told" zi f fd)(T:dY mg)(L:yh K C):AQ P w K mg base aD 1 f fd ["self"] (yq C):=by
 refine F.ok M7 (λ_ _ _ _ h=>?_) (λ_ _ _ s H _ Q E hr h=>?_)
 ·obtain⟨x,dx,pa,r,b,h,Bf,qs,rfl,_⟩:=h
  rfl
 ·obtain⟨x,dx,pa,r,b,h,Bf,qs,rfl,hL,q⟩:=h
  refine⟨_,ag (aq (aK (aa (al (pv 0) rfl) (aa (al (pv 0) rfl) (aa (al (pv 0) rfl) (aa (c3 c4 rfl T.list PySem.Pv.boot_list (aa (al (pv 0) rfl) ac)) ac)))))),?_⟩
  refine⟨_,rfl,x,C,dx,_,_,rfl,hL.ins,L.cl,L.n1,rfl,_,rfl,x,C,dx,_,_,rfl,hL.ins,L.cl,L.n2,rfl,_,rfl,x,C,dx,_,_,rfl,hL.ins,L.cl,L.n3,rfl,_,rfl,x,C,dx,_,_,rfl,hL.ins,L.cl,L.n4,rfl,pa,_,rfl, .inl (AV.of hL.lst),λql Ig=>?_⟩
  have s1:=(AO.refl H).new (o := .lst Bf) Ig
  have g1:(upd H ql (.lst Bf)) ql=some (.lst Bf):=ad
  generalize upd H ql (.lst Bf)=H1 at s1 g1 ⊢
  refine⟨by show 4 <= sizeLine;decide,λt ht=>?_⟩
  have s2:=s1.new (o := .tup [.int r, .int b,hV h, .ref ql]) ht
  exact q t ql _ s2 Ig ad (by rw[ah (aj g1 ht)];exact g1)
noncomputable def qt(m:Nat)(rvs:List V):Bool:=decide (rvs.length=m) && rvs.all λv=>jN v 1 60
def Sq(K:Frag)(H:Hp)(a:Addr)(xs:List V):Prop:=AV K H a xs∨AZ K H a xs
inductive pS(K:Frag)(c:Cs)(vs:List V)(H:Hp)(Q:VK)(E:XK):Prop
 | mk (lx Bh lt:Addr) (n:Int) (AY:List V) (ps:List (Int × Int)) (rv:V) (_:vs=[.ref lx,rv]) (_:cy H c lx Bh lt n AY ps) (_:ps.length <= 1000) (_:((rv = .Bj/\∀t H',AO H H'->H' t=some (.tup (List.replicate ps.length (.int 1)))->Q (.ref t) H')∨(∃ra rvs,rv = .ref ra/\Sq K H ra rvs/\rvs.length <= 1000/\(∀v ∈ rvs,sj v)/\(qt ps.length rvs=false->False)/\(qt ps.length rvs=true->∀t H',AO H H'->AZ K H' t rvs->Q (.ref t) H'))))
noncomputable def As(s:Stmt):Scope:=match s with
 | .If _ (.Return (some (.Call _ [.ListComp _ _ sc _] _ _)) _ :: _) _ _=>sc
 | _=>zQ0
noncomputable def zD(s:Stmt):Scope:=match s with
 | .If (.BoolOp _ [_, .UnaryOp _ (.Call _ [.ListComp _ _ sc _] _ _) _] _) _ _ _=>sc
 | _=>zQ0
noncomputable def Kg:V->Bool
 | .int i=>decide ((if i < 0 then -i else i) < 10 ^ (60:Int).toNat)
 | _=>false
def sM:Sp:=λvs H Q _=>∃v,vs=[v]/\sj v/\Q (.bl (Kg v)) H
theorem bI(e:AO H H')(h:AZ K H a xs):AZ K H' a xs:=by
 rcases h with h | h
 ·refine .inl ?_
  rcases h with h | ⟨o,h⟩
  ·exact .inl (e _ _ h)
  ·exact .inr ⟨o,e _ _ h⟩
 ·exact .inr h
theorem M8(h1:PI X tg it a)(h2:PI X tg it b):PI X tg it (λσ H R=>a σ H R∨b σ H R):=λpins s σ H R I h=>h.elim (h1 pins s σ H R I) (h2 pins s σ H R I)
theorem n8{xs:List V}(f:V->V)(hn:xs.length < sizeLine)(hgo:∀i,i < xs.length->J.go i H)(Dx:J.stop xs.length H)(hy:∀i x H',J.FV i H x H'->H' = H/\xs[i]? = some x)
  (hs:∀(x:V)(N:V->Hp->Prop),x ∈ xs->N (f x) H->g x σ0 H λσ2 H2=>te σ2 H2 N)
  (hq:∀D,H D=none->Q (.ref D) (upd H D (.lst (xs.map f)))):dC J g oa te σ0 Q H:=by
 refine bN xs.length hn (λi acc H'=>H' = H/\acc=(xs.take i).map f) ⟨rfl,rfl⟩ (λi acc H' h=>by rw[h.2,length_map];exact length_take_le _ _) (λi acc H' hi h=>?_) (λacc H' h=>?_)
 ·obtain⟨rfl,rfl⟩:=h
  refine⟨hgo i hi,λv H2 y=>?_⟩
  obtain⟨e,hx⟩:=hy i v H2 y
  subst e
  exact hs v (λy H4=>H4=H2/\(xs.take i).map f ++ [y]=(xs.take (i + 1)).map f) (mem_of_getElem? hx) ⟨rfl,by rw[take_succ,hx,map_append];rfl⟩
 ·obtain⟨rfl,rfl⟩:=h
  rw[take_length]
  exact⟨Dx,hq⟩
theorem Az(f:V->V)(hn:xs.length < sizeLine)(ha:AV K H a xs)(hs:∀(x:V) (N:V->Hp->Prop),x ∈ xs->N (f x) H->g x σ0 H λσ2 H2=>te σ2 H2 N)
  (hq:∀D,H D=none->Q (.ref D) (upd H D (.lst (xs.map f)))):dC (vZ K a) g oa te σ0 Q H :=
 n8 f hn (λi hi=>⟨xs,xs[i],ha,by simp[hi]⟩) ⟨xs,ha,le_refl _⟩ (λi x H' y=>⟨y.1,y.2 xs ha⟩) hs hq
theorem vP(f:V->V)(hn:xs.length < sizeLine)(ha:AZ K H a xs)(hs:∀(x:V) (N:V->Hp->Prop),x ∈ xs->N (f x) H->g x σ0 H λσ2 H2=>te σ2 H2 N)
  (hq:∀D,H D=none->Q (.ref D) (upd H D (.lst (xs.map f)))):dC (Pb K a) g oa te σ0 Q H :=
 n8 f hn (λi hi=>⟨xs,xs[i],ha,by simp[hi]⟩) ⟨xs,ha,le_refl _⟩ (λi x H' y=>⟨y.1,y.2 xs ha⟩) hs hq
theorem Sh:ao ["land", "rooms"] ["land", "rooms"] (ai ge):=L2.Bt
theorem Si:BG ["land", "rooms"] (ai ge) (As ((aJ ge).getD 0 (.Pass ⟨0,0,0,0⟩))) [] []:=L2.Co
theorem Sj:BG ["land", "rooms"] (ai ge) (zD ((aJ ge).getD 1 (.Pass ⟨0,0,0,0⟩))) [] []:=L2.Co
theorem Sk:(["lane"]:List Str).Nodup:=by decide +kernel
theorem M9:(["room"]:List Str).Nodup:=by decide +kernel
theorem uL(F:Bo K "rooms_of" "rooms_of" ge f fd)(T:dY mg)(L:jK K c)
  (mw:mg "is_within" = some (.ref fw)) (kw:keepIn K (.ref fw)=true) (bw:Binds K dw ["value", "least", "most"] []) (Gw:AQ P w K mg base aD 2 fw dw ["value", "least", "most"] fK) (mp:mg "MOST_ROOM" = some (.int 60 t1)) :
  AQ P w K mg base aD 3 f fd ["land", "rooms"] (pS K c):=by
 refine F.ok Sh (λ_ _ _ _ h=>?_) (λ_ _ _ s H _ Q E hr h=>?_)
 ·obtain⟨lx,Bh,lt,n,AY,ps,rv,rfl,_⟩:=h
  rfl
 ·obtain⟨lx,Bh,lt,n,AY,ps,rv,rfl,hL,Cz,hh⟩:=h
  refine⟨_,ae (aM (ap jx (pv 1) cM (ax _)) (ag (aq (c3 dU rfl T.tuple PySem.Pv.boot_tuple (aa (bd (own:=["lane"]) (capN:=[]) (cap:=[]) Si rfl (lw (al (pv 0) rfl))
     (λC s' H' fp=>⟨au (i:=0) Sk rfl (Or.inl rfl),c9,af⟩)) ac)))) aB)
   (ae (aM (fN (PW.pt (eX (ap jw (aC av rfl T.len PySem.boot_len (aa (pv 1) ac)) (aC av rfl T.len PySem.boot_len (aa (al (pv 0) rfl) ac)) (ax _))
     (dH (bW (bE (aC (jI rfl) rfl T.all PyProof.Rows.boot_all (aa (bd (own:=["room"]) (capN:=[]) (cap:=[]) Sj rfl (M8 (bF (pv 1)) (lw (pv 1)))
      (λC s' H' fp=>⟨au (i:=0) M9 rfl (Or.inl rfl),c9,az Gw hr rfl mw kw bw .nil am (aa (pv 0) (aa af (aa (dq (v := .int 60) rfl mp ⟨_,rfl⟩) ac)))⟩)) ac))))))))
    (ag bA) aB)
   (ag (aq (c3 dU rfl T.tuple PySem.Pv.boot_tuple (aa (pv 1) ac))))),?_⟩
  have DN:AY.length=ps.length:=Paired.length hL.2.2
  refine⟨_,rfl,rfl,_,rfl,?_⟩
  rcases hh with ⟨rfl,q⟩ | ⟨ra,rvs,rfl,hR,Fm,GZ,qE,q⟩
  ·refine aH ⟨_,rfl,lx,c.land,Bh,_,_,rfl,hL.1,L.cl,L.nl,rfl,lt,rfl,⟨_,AZ.of hL.2.1⟩,?_⟩
   refine vP (λ_ => .int 1) (by rw[sizeLine_eq];omega) (AZ.of hL.2.1) (λx N hx h=>h) (λD hD=>?_)
   have s1:=(AO.refl H).new (o := .lst (AY.map λ_=>V.int 1)) hD
   refine⟨D,_,rfl, .inl ⟨AV.of ad,λt ht=>q t _ (s1.new ht) ?_⟩⟩
   rw[ad,List.map_const',DN]
  ·refine aG ?_
   have len1:∀{H:Hp},Sq K H ra rvs->(AV K H ra rvs∨AZ K H ra rvs):=λh=>h
   refine⟨λb H'=>AO H H'/\b = !qt ps.length rvs,?_,?_⟩
   ·refine⟨_,rfl,ra,rvs,rfl,hR,_,rfl,lx,c.land,Bh,_,_,rfl,hL.1,L.cl,L.nl,rfl,lt,_,rfl, .inr (AZ.of hL.2.1),rfl,_,rfl,?_⟩
    rw[bB,DN]
    by_cases MA:rvs.length=ps.length
    rotate_left
    ·rw[decide_eq_false (show ¬((rvs.length:Nat):Int)=(ps.length:Nat) by omega)]
     refine aH ⟨AO.refl H,?_⟩
     unfold qt
     rw[decide_eq_false MA];rfl
    rw[decide_eq_true (show((rvs.length:Nat):Int)=(ps.length:Nat) by omega)]
    have step:∀(x:V)(N:V->Hp->Prop),x ∈ rvs->N (.bl (jN x 1 60)) H->sj x:=λx _ hx _=>GZ x hx
    have fin:∀D,H D=none->∃(p:Addr)(bs:List Bool),[V.ref D]=[.ref p]/\AV K (upd H D (.lst (rvs.map λv=>V.bl (jN v 1 60)))) p (bs.map V.bl)/\∃cc,V.bl (bs.all id) = .bl cc/\(AO H (upd H D (.lst (rvs.map λv=>V.bl (jN v 1 60))))/\(!cc) = !qt ps.length rvs):=λD hD=>by
     refine⟨D,rvs.map λv=>jN v 1 60,rfl,AV.of (by rw[ad,map_map];rfl),_,rfl,(AO.refl H).new hD,?_⟩
     unfold qt
     rw[decide_eq_true MA,Bool.true_and,all_map];rfl
    refine aG ?_
    rcases hR with hR | hR
    ·refine .inl ⟨_,rfl,ra,rfl,⟨_,hR⟩,?_⟩
     exact Az (λv => .bl (jN v 1 60)) (by rw[sizeLine_eq];omega) hR (λx N hx h=>⟨_,rfl,x,1,60,rfl,GZ x hx,h⟩) fin
    ·refine .inr ⟨_,rfl,ra,rfl,⟨_,hR⟩,?_⟩
     exact vP (λv => .bl (jN v 1 60)) (by rw[sizeLine_eq];omega) hR (λx N hx h=>⟨_,rfl,x,1,60,rfl,GZ x hx,h⟩) fin
   rintro b H' ⟨s',rfl⟩
   cases Bb:qt ps.length rvs with
   | false=>exact aH (qE Bb)
   | true =>
    refine aG ⟨_,rfl,ra,rvs,rfl,?_⟩
    rcases hR with hR | hR
    ·exact .inl ⟨s'.seq hR,λt ht=>q Bb t _ (s'.new ht) (AZ.of ad)⟩
    ·exact .inr ⟨bI s' hR,q Bb ra _ s' (bI s' hR)⟩
theorem Sl:ao ["word"] ["word"] (ai tN):=L2.Bt
theorem wR(F:Bo K "is_word" "is_word" tN f fd)(T:dY mg)(mh:mg "is_whole" = some (.ref fh))(kh:keepIn K (.ref fh)=true)(bh:Binds K dh ["value"] [])(G:AQ P w K mg base aD 1 fh dh ["value"] gE) :
  AQ P w K mg base aD 2 f fd ["word"] sM:=by
 refine F.ok Sl (λ_ _ _ _ h=>?_) (λ_ _ _ s H _ Q E hr h=>?_)
 ·obtain⟨v,rfl,_⟩:=h
  rfl
 ·obtain⟨v,rfl,hv,q⟩:=h
  refine⟨_,ag (aq (cE (az G hr rfl mh kh bh .nil am (aa (pv 0) ac)) (dz (cb fv (aC vQ rfl T.abs PyProof.Rows.boot_abs (aa (pv 0) ac)) (aw oW af af) (ax _))))),?_⟩
  cases hv with
  | int i=>exact⟨_,rfl,_,rfl, .int i,true,rfl,aH ⟨_,rfl,i,rfl,_,_,rfl,rfl,⟨by decide,by decide,by decide⟩,_,_,rfl,rfl,q⟩⟩
  | bl b=>exact⟨_,rfl,_,rfl, .bl b,false,rfl,aG q⟩
  | Bj=>exact⟨_,rfl,_,rfl, .Bj,false,rfl,aG q⟩
abbrev Wf:=Nat->Nat->Option Nat->List Nat
abbrev TJ:=Hp->Addr->Nat->Wf->Prop
def NL:HO->Prop
 | .lst _=>False
 | .ins _ _ []=>False
 | .G5 _=>False
 | _=>True
def Bq(H H':Hp):Prop:=∀b o,H b=some o->NL o->H' b=some o
theorem AO.Bl(s:AO H H'):Bq H H':=λb o e _=>s b o e
theorem Bq.trans(a:Bq H H1)(b:Bq H1 H2):Bq H H2:=λx o e n=>b x o (a x o e n) n
theorem Bq.EO(k:Bq H H')(h:Bi H vs ps):Bi H' vs ps:=Bi.imp (λ_ _ ⟨t,e,q⟩=>⟨t,e,k _ _ q True.intro⟩) h
structure BK(c:Cs)(C:Addr)(J:TJ)(H:Hp)(x lx Bh lt:Addr)(n:Nat)(AY:List V)(ps:List (Int × Int))(wy:Wf):Prop where
 j:J H x n wy
 i:∃dx fs,H x=some (.ins C dx fs)/\fs.lookup ("land":Str)=some (.ref lx)/\fs.lookup ("ways":Str)=none
 l:cy H c lx Bh lt (n:Int) AY ps
 P0:n <= 12
 B9:ps.length <= 40
 ok:∀p g k,p < n->g < n->∀z ∈ wy p g k,z < ps.length
structure Wy(K:Frag)(C fw:Addr)(dw:FuncData)(J:TJ):Prop where
 cl:CO K C
 nl:Bd K C "land"
 m:bG K C "ways" fw
 b:Binds K dw ["self", "place", "goal", "came"] []
 C1:∀H H' x n wy,J H x n wy->Bq H H'->J H' x n wy
theorem BK.keep(W:Wy K C fw dw J)(h:BK c C J H x lx Bh lt n AY ps wy)(k:Bq H H'):BK c C J H' x lx Bh lt n AY ps wy :=
 ⟨W.C1 _ _ _ _ _ h.j k,let ⟨dx,fs,h1,h2⟩:=h.i; ⟨dx,fs,k _ _ h1 (by cases fs with | nil=>cases h2.1 | cons _ _=>exact True.intro),h2⟩,⟨k _ _ h.l.1 True.intro,k _ _ h.l.2.1 True.intro,k.EO h.l.2.2⟩,h.P0,h.B9,h.ok⟩
inductive dj(J:TJ)(vs:List V)(H:Hp)(Q:VK)(E:XK):Prop
 | mk (x:Addr) (n:Nat) (wy:Wf) (p g:Nat) (k:Option Nat) (_:vs=[.ref x, .int p, .int g,cV k]) (_:J H x n wy) (_:p < n) (_:g < n) (_:∀(D:Addr)(H':Hp),AO H H'->H D=none->H' D=some (.lst (nV (wy p g k)))->Q (.ref D) H')
structure bT where
 r:Int
 b:Int
 h:Option Int
 qs:List (Int × Int)
structure ck where
 start:Int
 goal:Int
 len:Int
 word:Int
 gone:Int
 way:List Nat
structure YS where
 rooms:List V
 lanes:List bT
 U:List ck
 lies:List (List (Int × Int))
 done:List (List V)
structure Ys where
 AS:Addr
 Bp:Addr
 AR:Addr
 ex:List Addr
def CJ(H:Hp)(C:Addr)(ex:List Addr)(v:V)(s:bT):Prop:=∃x dx pa Bf,v = .ref x/\Bm H C x dx pa s.r s.b s.h Bf s.qs/\pa ∉ ex
noncomputable def pi(s:ck)(wa:Addr):Fs:=[("start", .int s.start),("goal", .int s.goal),("length", .int s.len),("word", .int s.word),("gone", .int s.gone),("way", .ref wa)]
def Dr(H:Hp)(C:Addr)(ex:List Addr)(v:V)(s:ck):Prop:=∃x dx wa,v = .ref x/\H x=some (.ins C dx (pi s wa))/\H wa=some (.lst (nV s.way))/\wa ∉ ex
def Cb(H:Hp)(v:V)(qs:List (Int × Int)):Prop:=∃t vs,v = .ref t/\H t=some (.tup vs)/\Bi H vs qs
def BB(H:Hp)(v:V)(m:List V):Prop:=∃t,v = .ref t/\H t=some (.tup m)
theorem Paired.mono{R R':α->β->Prop}(h:∀a b,R a b->R' a b):∀{as:List α}{bs:List β},Paired R as bs->Paired R' as bs:=λAU=>by
 induction AU with
 | nil=>exact .nil
 | cons x r ih=>exact .cons (h _ _ x) ih
theorem Paired.snoc{a:α}{b:β}(h:R a b):∀{as:List α}{bs:List β},Paired R as bs->Paired R (as ++ [a]) (bs ++ [b]):=λAU=>by
 induction AU with
 | nil=>exact .cons h .nil
 | cons x r ih=>exact .cons x ih
theorem Paired.at :∀{as:List α}{bs:List β}{i:Nat}{a:α},Paired R as bs->as[i]? = some a->∃b,bs[i]? = some b/\R a b:=by
 intro _ _ i _ AU
 induction AU generalizing i with
 | nil=>intro h;cases h
 | cons x r ih =>
  intro h
  cases i with
  | zero=>cases h;exact⟨_,rfl,x⟩
  | succ i=>exact ih (i:=i) h
theorem Paired.at2 :∀{as:List α}{bs:List β}{i:Nat}{b:β},Paired R as bs->bs[i]? = some b->∃a,as[i]? = some a/\R a b:=by
 intro _ _ i _ AU
 induction AU generalizing i with
 | nil=>intro h;cases h
 | cons x r ih =>
  intro h
  cases i with
  | zero=>cases h;exact⟨_,rfl,x⟩
  | succ i=>exact ih (i:=i) h
def Be(ex:List Addr)(H H':Hp):Prop:=∀b o,b ∉ ex->H b=some o->H' b=some o
theorem AO.By(s:AO H H'):Be ex H H':=λb o _ e=>s b o e
theorem Be.trans(a:Be ex H H1)(b:Be ex H1 H2):Be ex H H2:=λx o n e=>b x o n (a x o n e)
theorem Bi.By(hx:∀b ∈ ex,∃xs,H b=some (.lst xs))(o:Be ex H H')(h:Bi H vs ps):Bi H' vs ps :=
 Bi.imp (λ_ _ AU=>by obtain⟨t,e,q⟩:=AU;exact⟨t,e,o _ _ (λz=>by obtain⟨xs,hz⟩:=hx _ z;rw[q]at hz;cases hz) q⟩) h
theorem Be.Ih(hx:∀b ∈ ex,∃o,H b=some o/\¬NL o)(o:Be ex H H'):Bq H H':=λb u e n=>o b u (λz=>by obtain⟨o',hz,hn⟩:=hx _ z;rw[e]at hz;cases hz;exact hn n) e
theorem Be.Bl(hx:∀b ∈ ex,∃xs,H b=some (.lst xs))(o:Be ex H H'):Bq H H':=o.Ih λb hb=>let ⟨xs,hz⟩:=hx b hb; ⟨_,hz,id⟩
theorem CJ.By(hx:∀b ∈ ex,∃xs,H b=some (.lst xs))(o:Be ex H H')(h:CJ H C ex v s):CJ H' C ex v s:=by
 obtain⟨x,dx,pa,Bf,e,L,n⟩:=h
 have k:=o.Bl hx
 exact⟨x,dx,pa,Bf,e,⟨k _ _ L.ins True.intro,o _ _ n L.lst,Bi.By hx o L.BL⟩,n⟩
theorem Dr.By(hx:∀b ∈ ex,∃xs,H b=some (.lst xs))(o:Be ex H H')(h:Dr H C ex v s):Dr H' C ex v s:=by
 obtain⟨x,dx,wa,e,h1,h2,n⟩:=h
 exact⟨x,dx,wa,e,o.Bl hx _ _ h1 True.intro,o _ _ n h2,n⟩
theorem Cb.keep(k:Bq H H')(h:Cb H v qs):Cb H' v qs:=by
 obtain⟨t,vs,e,h1,h2⟩:=h
 exact⟨t,vs,e,k _ _ h1 True.intro,k.EO h2⟩
theorem BB.keep(k:Bq H H')(h:BB H v m):BB H' v m:=by
 obtain⟨t,e,h1⟩:=h
 exact⟨t,e,k _ _ h1 True.intro⟩
noncomputable def P2(tb ro la le li dn:Addr):Fs:=[("table", .ref tb),("rooms", .ref ro),("lanes", .ref la),("letters", .ref le),("lies", .ref li),("done", .ref dn)]
structure Ba(K:Frag)(ys:Ys)(H:Hp)(y dy tb ro la le li dn:Addr)(s:YS):Prop where
 ins:H y=some (.ins ys.AS dy (P2 tb ro la le li dn))
 MB:AZ K H ro s.rooms
 BV:∃vs,H la=some (.lst vs)/\Paired (CJ H ys.Bp (la :: le :: li :: dn :: ys.ex)) vs s.lanes
 hle:∃vs,H le=some (.lst vs)/\Paired (Dr H ys.AR (la :: le :: li :: dn :: ys.ex)) vs s.U
 CK:∃vs,H li=some (.lst vs)/\Paired (Cb H) vs s.lies
 C5:∃vs,H dn=some (.lst vs)/\Paired (BB H) vs s.done
 ne:[la,le,li,dn].Nodup
 hex:∀b ∈ ys.ex,∃xs,H b=some (.lst xs)
theorem Ba.ES(h:Ba K ys H y dy tb ro la le li dn s):∀b ∈ [la,le,li,dn],∃xs,H b=some (.lst xs):=by
 intro b hb
 obtain⟨v1,h1,_⟩:=h.BV
 obtain⟨v2,h2,_⟩:=h.hle
 obtain⟨v3,h3,_⟩:=h.CK
 obtain⟨v4,h4,_⟩:=h.C5
 simp only[mem_cons,not_mem_nil,or_false]at hb
 rcases hb with rfl | rfl | rfl | rfl
 ·exact⟨_,h1⟩
 ·exact⟨_,h2⟩
 ·exact⟨_,h3⟩
 ·exact⟨_,h4⟩
theorem Ba.E5(h:Ba K ys H y dy tb ro la le li dn s):∀b ∈ la :: le :: li :: dn :: ys.ex,∃xs,H b=some (.lst xs):=by
 intro b hb
 have e:la :: le :: li :: dn :: ys.ex=[la,le,li,dn] ++ ys.ex:=rfl
 rw[e]at hb
 rcases mem_append.mp hb with hb | hb
 ·exact h.ES b hb
 ·exact h.hex b hb
theorem Ba.same(h:Ba K ys H y dy tb ro la le li dn s)(e:AO H H'):Ba K ys H' y dy tb ro la le li dn s:=by
 have hx:=h.E5
 obtain⟨v1,h1,p1⟩:=h.BV
 obtain⟨v2,h2,p2⟩:=h.hle
 obtain⟨v3,h3,p3⟩:=h.CK
 obtain⟨v4,h4,p4⟩:=h.C5
 have o:Be (la :: le :: li :: dn :: ys.ex) H H':=AO.By e
 exact⟨e _ _ h.ins,bI e h.MB,⟨v1,e _ _ h1,Paired.mono (λ_ _ z=>z.By hx o) p1⟩,⟨v2,e _ _ h2,Paired.mono (λ_ _ z=>z.By hx o) p2⟩,⟨v3,e _ _ h3,Paired.mono (λ_ _ z=>z.keep (AO.Bl e)) p3⟩,⟨v4,e _ _ h4,Paired.mono (λ_ _ z=>z.keep (AO.Bl e)) p4⟩,h.ne,λb hb=>let ⟨xs,hz⟩:=h.hex b hb; ⟨xs,e _ _ hz⟩⟩
structure ig(K:Frag)(ys:Ys):Prop where
 cl:CO K ys.AS
 n1:Bd K ys.AS "table"
 n2:Bd K ys.AS "rooms"
 n3:Bd K ys.AS "lanes"
 n4:Bd K ys.AS "letters"
 n5:Bd K ys.AS "lies"
 n6:Bd K ys.AS "done"
 ct:CO K ys.AR
 t1:Bd K ys.AR "start"
 t2:Bd K ys.AR "goal"
 t3:Bd K ys.AR "length"
 t4:Bd K ys.AR "word"
 t5:Bd K ys.AR "gone"
 t6:Bd K ys.AR "way"
 L:yh K ys.Bp
inductive tf(C:Addr)(vs:List V)(H:Hp)(Q:VK)(E:XK):Prop
 | mk (x dx:Addr) (a b l u:Int) (_:vs=[.ref x, .int a, .int b, .int l, .int u]) (_:H x=some (.ins C dx [])) (_:∀(wa:Addr)(H':Hp),H wa=none->(∀z o,z ≠ x->H z=some o->H' z=some o)->H' x=some (.ins C dx (pi ⟨a,b,l,u,0,[]⟩ wa))->H' wa=some (.lst (nV []))->Q .Bj H')
theorem MC:ao ["self", "start", "goal", "length", "word"] ["self", "start", "goal", "length", "word"] (ai ud):=L2.Bt
theorem zQ(F:Bo K "__init__" "Letter.__init__" ud f fd)(Y:ig K ys):AQ P w K mg base aD 1 f fd ["self", "start", "goal", "length", "word"] (tf ys.AR):=by
 refine F.ok MC (λ_ _ _ _ h=>?_) (λ_ _ _ s H _ Q E hr h=>?_)
 ·obtain⟨x,dx,a,b,l,u,rfl,_⟩:=h
  rfl
 ·obtain⟨x,dx,a,b,l,u,rfl,hx,q⟩:=h
  refine⟨_,ae (bu (pv 0) (pv 1) rfl) (ae (bu (pv 0) (pv 2) rfl) (ae (bu (pv 0) (pv 3) rfl) (ae (bu (pv 0) (pv 4) rfl) (ae (bu (pv 0) af rfl) (ag (bu (pv 0) (aP ac) rfl)))))),?_⟩
  refine⟨_,rfl,_,rfl,x,ys.AR,dx,_,rfl,hx,Y.ct,Y.t1,by show 0 < 1000;decide,?_⟩
  refine⟨_,rfl,_,rfl,x,ys.AR,dx,_,rfl,ad,Y.ct,Y.t2,by show 1 < 1000;decide,?_⟩
  refine⟨_,rfl,_,rfl,x,ys.AR,dx,_,rfl,ad,Y.ct,Y.t3,by show 2 < 1000;decide,?_⟩
  refine⟨_,rfl,_,rfl,x,ys.AR,dx,_,rfl,ad,Y.ct,Y.t4,by show 3 < 1000;decide,?_⟩
  refine⟨_,rfl,x,ys.AR,dx,_,rfl,ad,Y.ct,Y.t5,by show 4 < 1000;decide,?_⟩
  refine⟨zero_le _,λwa ET=>?_⟩
  have Hd:x ≠ wa:=aj ad ET
  refine⟨_,rfl,x,ys.AR,dx,_,rfl,by rw[ah Hd];exact ad,Y.ct,Y.t6,by show 5 < 1000;decide,?_⟩
  have MD:H wa=none:=by
   rw[ah (Ne.symm Hd),ah (Ne.symm Hd),ah (Ne.symm Hd),ah (Ne.symm Hd),ah (Ne.symm Hd)]at ET
   exact ET
  refine q wa _ MD (λz o nz e=>?_) ad (by rw[ah (Ne.symm Hd)];exact ad)
  have nzw:z ≠ wa:=aj e MD
  rw[ah nz,ah nzw,ah nz,ah nz,ah nz,ah nz,ah nz]
  exact e
noncomputable def vI:V->Int
 | .int i=>i
 | _=>0
noncomputable def rH(v:V):bT:=⟨vI v,0,none,[]⟩
noncomputable def Y0(rooms:List V)(n:Nat):YS:=⟨rooms,rooms.map rH,[],List.replicate n [],[]⟩
def C0(H0 H:Hp)(C:Addr)(v:V)(s:bT):Prop:=∃x dx pa,v = .ref x/\Bm H C x dx pa s.r s.b s.h [] []/\s.qs=[]/\H0 x=none/\H0 pa=none
theorem C0.same(h:C0 H0 H C v s)(e:AO H H'):C0 H0 H' C v s:=by
 obtain⟨x,dx,pa,h1,h2,h3⟩:=h
 exact⟨x,dx,pa,h1,h2.same e,h3⟩
def B1(y:Addr)(ex:List Addr)(H:Hp)(C:Addr)(v:V)(s:bT):Prop:=∃x dx pa,v = .ref x/\Bm H C x dx pa s.r s.b s.h [] []/\s.qs=[]/\x ≠ y/\pa ≠ y/\pa ∉ ex
theorem C0.MF(h:C0 H0 H C v s)(hy:H0 y=some u)(hx:∀b ∈ ex,∃o,H0 b=some o):B1 y ex H C v s:=by
 obtain⟨x,dx,pa,h1,h2,h3,h4,h5⟩:=h
 exact⟨x,dx,pa,h1,h2,h3,(λz=>by rw[z,hy]at h4;cases h4),(λz=>by rw[z,hy]at h5;cases h5),λz=>by obtain⟨o,ho⟩:=hx _ z;rw[h5]at ho;cases ho⟩
theorem B1.same(h:B1 y ex H C v s)(e:AO H H'):B1 y ex H' C v s:=by
 obtain⟨x,dx,pa,h1,h2,h3⟩:=h
 exact⟨x,dx,pa,h1,h2.same e,h3⟩
theorem B1.upd(h:B1 y ex H C v s):B1 y ex (upd H y o) C v s:=by
 obtain⟨x,dx,pa,h1,h2,h3,h4,h5,h6⟩:=h
 exact⟨x,dx,pa,h1,⟨by rw[ah h4];exact h2.ins,by rw[ah h5];exact h2.lst, .nil⟩,h3,h4,h5,h6⟩
theorem B1.new(h:B1 y ex H C v s)(ha:H a=none):B1 y (a :: ex) (L2.upd H a o) C v s:=by
 obtain⟨x,dx,pa,h1,h2,h3,h4,h5,h6⟩:=h
 exact⟨x,dx,pa,h1,h2.same ((AO.refl H).new ha),h3,h4,h5,λz=>(mem_cons.mp z).elim (λz=>by rw[z]at h2;rw[h2.lst]at ha;cases ha) h6⟩
theorem B1.MG(h:B1 y ex H C v s)(hs:∀a ∈ JT,a ∈ ex):CJ H C JT v s:=by
 obtain⟨x,dx,pa,h1,h2,h3,h4,h5,h6⟩:=h
 exact⟨x,dx,pa,[],h1,by rw[h3];exact h2,λz=>h6 (hs _ z)⟩
theorem p9(hn:rvs.length < sizeLine)(ha:AZ K H ro rvs)(hint:∀v ∈ rvs,∃r,v = .int r)
  (hs:∀(r:Int)(H1:Hp)(N:V->Hp->Prop),AO H H1->(∀x dx pa H2,H1 x=none->H1 pa=none->AO H1 H2->Bm H2 C x dx pa r 0 none [] []->N (.ref x) H2)->g (.int r) σ0 H1 λσ2 H2=>te σ2 H2 N)
  (hq:∀D vs H1,AO H H1->H1 D=none->Paired (C0 H H1 C) vs (rvs.map rH)->Q (.ref D) (upd H1 D (.lst vs))):dC (Pb K ro) g oa te σ0 Q H:=by
 refine bN rvs.length hn (λi acc H'=>AO H H'/\Paired (C0 H H' C) acc ((rvs.take i).map rH)) ⟨AO.refl _, .nil⟩ (λi acc H' h=>by have:=Paired.length h.2;rw[this,length_map];exact length_take_le _ _) (λi acc H' hi h=>?_) (λacc H' h=>?_)
 ·obtain⟨s,hL⟩:=h
  refine⟨⟨rvs,rvs[i],bI s ha,by simp[hi]⟩,λv H2 y=>?_⟩
  obtain⟨e,y⟩:=y
  subst e
  have hv:=y _ (bI s ha)
  obtain⟨r,rfl⟩:=hint v (mem_of_getElem? hv)
  refine hs r H2 (λy H4=>AO H H4/\Paired (C0 H H4 C) (acc ++ [y]) ((rvs.take (i + 1)).map rH)) s λx dx pa H3 nx He s3 Dq=>⟨s.trans s3,?_⟩
  rw[take_succ,hv,Option.toList_some,map_append]
  exact Paired.snoc (b:=rH (.int r)) ⟨x,dx,pa,rfl,Dq,rfl,s.free nx,s.free He⟩ (Paired.mono (λ_ _ z=>z.same s3) hL)
 ·obtain⟨s,hL⟩:=h
  rw[take_length]at hL
  exact⟨⟨rvs,bI s ha,le_refl _⟩,λD hD=>hq D acc H' s hD hL⟩
theorem sf(hn:n <= 1000)
  (hs:∀(i:Nat)(H1:Hp)(N:V->Hp->Prop),AO H H1->(∀t,H1 t=none->N (.ref t) (upd H1 t (.tup [])))->g (.int (0 + i)) σ0 H1 λσ2 H2=>te σ2 H2 N)
  (hq:∀D vs H1,AO H H1->H1 D=none->Paired (Cb H1) vs (List.replicate n [])->Q (.ref D) (upd H1 D (.lst vs))):dC (so 0 n) g oa te σ0 Q H:=by
 refine bN n (by rw[sizeLine_eq];omega) (λi acc H'=>AO H H'/\Paired (Cb H') acc (List.replicate i [])) ⟨AO.refl _, .nil⟩ (λi acc H' h=>by have:=Paired.length h.2;rw[this,length_replicate];exact le_refl _) (λi acc H' hi h=>?_) (λacc H' h=>?_)
 ·obtain⟨s,hL⟩:=h
  refine⟨hi,λv H2 y=>?_⟩
  obtain⟨e1,e2⟩:=y
  subst e1 e2
  refine hs i H2 (λy H4=>AO H H4/\Paired (Cb H4) (acc ++ [y]) (List.replicate (i + 1) [])) s λt ht=>⟨s.new ht,?_⟩
  rw[List.replicate_succ']
  exact Paired.snoc ⟨t,[],rfl,ad, .nil⟩ (Paired.mono (λ_ _ z=>z.keep (AO.Bl ((AO.refl H2).new ht))) hL)
 ·obtain⟨s,hL⟩:=h
  exact⟨le_refl n,λD hD=>hq D acc H' s hD hL⟩
theorem fJ{fs:Fs}(hy:H y=some (.ins C d fs))(h:AZ K H a xs):AZ K (upd H y o) a xs:=by
 rcases h with h | h
 ·refine .inl ?_
  rcases h with h | ⟨u,h⟩
  ·exact .inl (by rw[ah (b7 h hy (by intro z;cases z))];exact h)
  ·exact .inr ⟨u,by rw[ah (b7 h hy (by intro z;cases z))];exact h⟩
 ·exact .inr h
theorem wt{fs:Fs}(hy:H y=some (.ins C d fs))(h:AV K H a xs):AV K (upd H y o) a xs:=by
 rcases h with h | h
 ·refine .inl ?_
  rcases h with h | ⟨u,h⟩
  ·exact .inl (by rw[ah (b7 h hy (by intro z;cases z))];exact h)
  ·exact .inr ⟨u,by rw[ah (b7 h hy (by intro z;cases z))];exact h⟩
 ·exact .inr h
inductive jX(K:Frag)(c:Cs)(TC:Addr)(J:TJ)(ys:Ys)(vs:List V)(H:Hp)(Q:VK)(E:XK):Prop
 | mk (y dy tb lx Bh lt:Addr) (n:Nat) (AY:List V) (ps:List (Int × Int)) (wy:Wf) (rv:V) (rvs:List V) (_:vs=[.ref y, .ref tb,rv]) (_:H y=some (.ins ys.AS dy [])) (_:BK c TC J H tb lx Bh lt n AY ps wy) (_:(∀b ∈ ys.ex,∃xs,H b=some (.lst xs))) (_:((rv = .Bj/\rvs=List.replicate ps.length (.int 1))∨(∃ra,rv = .ref ra/\Sq K H ra rvs/\rvs.length <= 1000/\(∀v ∈ rvs,sj v)/\(qt ps.length rvs=false->False)))) (_:(qt ps.length rvs=true->∀(ro la le li dn:Addr)(H':Hp),Be [y] H H'->H la=none->H le=none->H li=none->H dn=none->Ba K ys H' y dy tb ro la le li dn (Y0 rvs n)->Q .Bj H'))
noncomputable def MH(s:Stmt):Scope:=match s with
 | .Assign _ (.ListComp _ _ sc _) _=>sc
 | _=>zQ0
theorem iP(h:jN v a b=true):∃r,v = .int r:=by
 cases v<;>first | exact⟨_,rfl⟩ | cases h
theorem Sm:ao ["self", "table", "rooms"] ["self", "table", "rooms"] (ai fR):=L2.Bt
theorem MI:BG ["self", "table", "rooms"] (ai fR) (MH ((aJ fR).getD 2 (.Pass ⟨0,0,0,0⟩))) [] []:=L2.Co
theorem MJ:BG ["self", "table", "rooms"] (ai fR) (MH ((aJ fR).getD 4 (.Pass ⟨0,0,0,0⟩))) [] []:=L2.Co
theorem MK:(["place"]:List Str).Nodup:=by decide +kernel
theorem zG(F:EN K "__init__" "Yard.__init__" fR f fd)(T:dY mg)(L:jK K c)(Y:ig K ys)(W:Wy K TC P4 P5 J)
  (mr:mg "rooms_of" = some (.ref fr)) (kr:keepIn K (.ref fr)=true) (br:Binds K dr ["land", "rooms"] []) (Gr:AQ P w K mg base aD 3 fr dr ["land", "rooms"] (pS K c))
  (ml:mg "Lane" = some (.ref ys.Bp)) (Ml:Mk K ys.Bp fl) (bl:Binds K dl ["self", "room"] []) (Gl:AQ P w K mg base aD 1 fl dl ["self", "room"] (tj ys.Bp)) :
  AQ P w K mg base aD 4 f fd ["self", "table", "rooms"] (jX K c TC J ys):=by
 refine F.ok Sm (λ_ _ _ _ h=>?_) (λ_ _ _ s H _ Q E hr h=>?_)
 ·obtain⟨y,dy,tb,lx,Bh,lt,n,AY,ps,wy,rv,rvs,rfl,_⟩:=h
  rfl
 ·obtain⟨y,dy,tb,lx,Bh,lt,n,AY,ps,wy,rv,rvs,rfl,hy,hT,hex,hrv,q⟩:=h
  have Fn:∀b ∈ ys.ex,b ∉ [y]:=λb hb z=>by obtain⟨xs,hz⟩:=hex b hb;rw[mem_singleton.mp z,hy]at hz;cases hz
  have Cg:Bc 2 _:=hr.mono (by decide)
  refine⟨_,ae (bu (pv 0) (pv 1) rfl)
   (ae (bu (pv 0) (ly (az Gr hr rfl mr kr br .nil am (aa (al (pv 1) rfl) (aa (pv 2) ac)))) rfl)
   (ae (bu (pv 0) (bd (own:=["room"]) (capN:=[]) (cap:=[]) MI rfl (lw (al (pv 0) rfl)) (λC s' H' fp=>⟨au (i:=0) M9 rfl (Or.inl rfl),c9,cN Ml Gl Cg rfl ml bl .nil am (aa (pv 0) ac)⟩)) rfl)
   (ae (bu (pv 0) (aP ac) rfl)
   (ae (bu (pv 0) (bd (own:=["place"]) (capN:=[]) (cap:=[]) MJ rfl (aQ rfl T.range (aa (al (al (pv 1) rfl) rfl) ac)) (λC s' H' fp=>⟨au (i:=0) MK rfl (Or.inl rfl),c9,aK ac⟩)) rfl)
   (ag (bu (pv 0) (aP ac) rfl)))))),?_⟩
  have hm40:=hT.B9
  have Sn:=hT.P0
  obtain⟨Cc,fst,BY,Br,_⟩:=hT.i
  have kp:∀{H':Hp},Be [y] H H'->Bq H H':=λo=>o.Ih λb hb=>by rw[mem_singleton.mp hb];exact⟨_,hy,id⟩
  have P6:tb ≠ y:=b7 BY hy (λz=>by injection z with _ _ z3;rw[z3]at Br;cases Br)
  refine⟨_,rfl,_,rfl,y,ys.AS,dy,_,rfl,hy,Y.cl,Y.n1,by show 0 < 1000;decide,?_⟩
  have o1:Be [y] H (upd H y (.ins ys.AS dy (aR "table" (.ref tb) []))):=λb o nb e=>by rw[ah (λz=>nb (by rw[z];exact mem_singleton.mpr rfl))];exact e
  have g1:(upd H y (.ins ys.AS dy (aR "table" (.ref tb) []))) y=some (.ins ys.AS dy [("table", .ref tb)]):=ad
  have WI:∀ra,Sq K H ra rvs->Sq K (upd H y (.ins ys.AS dy (aR "table" (.ref tb) []))) ra rvs:=λra h=>h.elim (λh => .inl (wt hy h)) λh => .inr (fJ hy h)
  show _
  generalize upd H y (.ins ys.AS dy (aR "table" (.ref tb) []))=A1 at o1 g1 WI ⊢
  have hT1:=hT.keep W (kp o1)
  have Kh:∀{Ha Hb:Hp}{o:HO},Be [y] Ha Hb->Be [y] Ha (upd Hb y o):=λ{Ha Hb o} h b u nb e=>by rw[ah (λz=>nb (by rw[z];exact mem_singleton.mpr rfl))];exact h b u nb e
  refine⟨λv A2=>∃ro,v = .ref ro/\AO A1 A2/\AZ K A2 ro rvs/\qt ps.length rvs=true,?_,?_⟩
  ·refine⟨_,rfl,tb,TC,Cc,fst,_,rfl,o1 _ _ (λz=>P6 (mem_singleton.mp z)) BY,W.cl,W.nl,Br,_,rfl,lx,Bh,lt,(n:Int),AY,ps,rv,rfl,hT1.l,by omega,?_⟩
   rcases hrv with ⟨rfl,rfl⟩ | ⟨ra,rfl,hR,Fm,GZ,qE⟩
   ·refine .inl ⟨rfl,λt A2 s2 ht=>⟨t,rfl,s2,AZ.of ht,?_⟩⟩
    unfold qt
    rw[length_replicate,decide_eq_true rfl,Bool.true_and,all_eq_true]
    intro v hv
    rw[eq_of_mem_replicate hv];rfl
   ·have hR1:Sq K A1 ra rvs:=WI ra hR
    exact .inr ⟨ra,rvs,rfl,hR1,Fm,GZ,qE,λBb t A2 s2 ht=>⟨t,rfl,s2,ht,Bb⟩⟩
  rintro v A2 ⟨ro,rfl,s2,MB,Bb⟩
  have Ca:rvs.length=ps.length/\∀v ∈ rvs,∃r,v = .int r:=by
   unfold qt at Bb
   rw[Bool.and_eq_true,decide_eq_true_eq,all_eq_true]at Bb
   exact⟨Bb.1,λv hv=>iP (Bb.2 v hv)⟩
  have o2:Be [y] H A2:=o1.trans (AO.By s2)
  have g2:=s2 _ _ g1
  refine⟨_,rfl,y,ys.AS,dy,_,rfl,g2,Y.cl,Y.n2,by show 1 < 1000;decide,?_⟩
  have o3:=Kh (o := .ins ys.AS dy (aR "rooms" (.ref ro) [("table", .ref tb)])) o2
  have g3:(upd A2 y (.ins ys.AS dy (aR "rooms" (.ref ro) [("table", .ref tb)]))) y=some (.ins ys.AS dy [("table", .ref tb),("rooms", .ref ro)]):=ad
  have Hg:AZ K (upd A2 y (.ins ys.AS dy (aR "rooms" (.ref ro) [("table", .ref tb)]))) ro rvs:=fJ g2 MB
  show _
  generalize upd A2 y (.ins ys.AS dy (aR "rooms" (.ref ro) [("table", .ref tb)]))=A3 at o3 g3 Hg ⊢
  have So:∀b ∈ ys.ex,∃o,A3 b=some o:=λb hb=>let ⟨xs,hz⟩:=hex b hb; ⟨_,o3 b _ (Fn b hb) hz⟩
  refine⟨_,rfl,y,ys.AS,dy,_,_,rfl,g3,Y.cl,Y.n2,rfl,ro,rfl,⟨_,Hg⟩,?_⟩
  refine p9 (C:=ys.Bp) (by rw[sizeLine_eq];omega) Hg Ca.2 (λr B N sB hN=>?_) (λla AX A4 s4 BV Hh=>?_)
  ·refine⟨_,rfl,λx dx nx Hi Fn=>⟨x,dx,r,rfl,ad,λpa B2 ER off hL=>⟨rfl,?_⟩⟩⟩
   have DL:B pa=none:=by
    by_cases e1:pa=x
    ·rw[e1,ad]at ER;cases ER
    ·by_cases e2:pa=dx
     ·rw[e2,ah Fn,ad]at ER;cases ER
     ·rw[ah e1,ah e2]at ER;exact ER
   refine hN x dx pa B2 nx DL (λb o e=>off b o (aj e nx) ?_) hL
   rw[ah (aj e nx),ah (aj e Hi)]
   exact e
  have o4:Be [y] H A4:=o3.trans (AO.By s4)
  have g4:=s4 _ _ g3
  have Hj:la ≠ y:=Ne.symm (aj g4 BV)
  have la0:H la=none:=by
   cases e:H la with
   | none=>rfl
   | some u=>rw[o4 _ _ (λz=>Hj (mem_singleton.mp z)) e]at BV;cases BV
  have WJ:Paired (B1 y (la :: ys.ex) (upd A4 la (.lst AX)) ys.Bp) AX (rvs.map rH):=Paired.mono (λ_ _ z=>(z.MF g3 So).new BV) Hh
  have o5:Be [y] H (upd A4 la (.lst AX)):=o4.trans (AO.By ((AO.refl A4).new BV))
  have g5:(upd A4 la (.lst AX)) y=some (.ins ys.AS dy [("table", .ref tb),("rooms", .ref ro)]):=by rw[ah (Ne.symm Hj)];exact g4
  have ML:(upd A4 la (.lst AX)) la=some (.lst AX):=ad
  have MN:AZ K (upd A4 la (.lst AX)) ro rvs:=bI ((AO.refl A4).new BV) (bI s4 Hg)
  refine⟨_,rfl,y,ys.AS,dy,_,rfl,g5,Y.cl,Y.n3,by show 2 < 1000;decide,?_⟩
  generalize upd A4 la (.lst AX)=A5 at WJ o5 g5 ML MN ⊢
  have WK:Paired (B1 y (la :: ys.ex) (upd A5 y (.ins ys.AS dy (aR "lanes" (.ref la) [("table", .ref tb),("rooms", .ref ro)]))) ys.Bp) AX (rvs.map rH):=Paired.mono (λ_ _ z=>z.upd) WJ
  have o6:=Kh (o := .ins ys.AS dy (aR "lanes" (.ref la) [("table", .ref tb),("rooms", .ref ro)])) o5
  have g6:(upd A5 y (.ins ys.AS dy (aR "lanes" (.ref la) [("table", .ref tb),("rooms", .ref ro)]))) y=some (.ins ys.AS dy [("table", .ref tb),("rooms", .ref ro),("lanes", .ref la)]):=ad
  have Ji:(upd A5 y (.ins ys.AS dy (aR "lanes" (.ref la) [("table", .ref tb),("rooms", .ref ro)]))) la=some (.lst AX):=by rw[ah Hj];exact ML
  have MO:=fJ (o := .ins ys.AS dy (aR "lanes" (.ref la) [("table", .ref tb),("rooms", .ref ro)])) g5 MN
  generalize upd A5 y (.ins ys.AS dy (aR "lanes" (.ref la) [("table", .ref tb),("rooms", .ref ro)]))=A6 at WK o6 g6 Ji MO ⊢
  refine⟨zero_le _,λle hle=>?_⟩
  have Hk:le ≠ y:=Ne.symm (aj g6 hle)
  have Ii:la ≠ le:=aj Ji hle
  have le0:H le=none:=by
   cases e:H le with
   | none=>rfl
   | some u=>rw[o6 _ _ (λz=>Hk (mem_singleton.mp z)) e]at hle;cases hle
  have WL:Paired (B1 y (le :: la :: ys.ex) (upd A6 le (.lst [])) ys.Bp) AX (rvs.map rH):=Paired.mono (λ_ _ z=>z.new hle) WK
  have o7:Be [y] H (upd A6 le (.lst [])):=o6.trans (AO.By ((AO.refl A6).new hle))
  have g7:(upd A6 le (.lst [])) y=some (.ins ys.AS dy [("table", .ref tb),("rooms", .ref ro),("lanes", .ref la)]):=by rw[ah (Ne.symm Hk)];exact g6
  have MP:(upd A6 le (.lst [])) la=some (.lst AX):=by rw[ah Ii];exact Ji
  have MQ:(upd A6 le (.lst [])) le=some (.lst []):=ad
  have MR:AZ K (upd A6 le (.lst [])) ro rvs:=bI ((AO.refl A6).new hle) MO
  refine⟨_,rfl,y,ys.AS,dy,_,rfl,g7,Y.cl,Y.n4,by show 3 < 1000;decide,?_⟩
  generalize upd A6 le (.lst [])=A7 at WL o7 g7 MP MQ MR ⊢
  have WM:Paired (B1 y (le :: la :: ys.ex) (upd A7 y (.ins ys.AS dy (aR "letters" (.ref le) [("table", .ref tb),("rooms", .ref ro),("lanes", .ref la)]))) ys.Bp) AX (rvs.map rH):=Paired.mono (λ_ _ z=>z.upd) WL
  have o8:=Kh (o := .ins ys.AS dy (aR "letters" (.ref le) [("table", .ref tb),("rooms", .ref ro),("lanes", .ref la)])) o7
  have g8:(upd A7 y (.ins ys.AS dy (aR "letters" (.ref le) [("table", .ref tb),("rooms", .ref ro),("lanes", .ref la)]))) y=some (.ins ys.AS dy [("table", .ref tb),("rooms", .ref ro),("lanes", .ref la),("letters", .ref le)]):=ad
  have Jj:(upd A7 y (.ins ys.AS dy (aR "letters" (.ref le) [("table", .ref tb),("rooms", .ref ro),("lanes", .ref la)]))) la=some (.lst AX):=by rw[ah Hj];exact MP
  have Jk:(upd A7 y (.ins ys.AS dy (aR "letters" (.ref le) [("table", .ref tb),("rooms", .ref ro),("lanes", .ref la)]))) le=some (.lst []):=by rw[ah Hk];exact MQ
  have MS:=fJ (o := .ins ys.AS dy (aR "letters" (.ref le) [("table", .ref tb),("rooms", .ref ro),("lanes", .ref la)])) g7 MR
  generalize upd A7 y (.ins ys.AS dy (aR "letters" (.ref le) [("table", .ref tb),("rooms", .ref ro),("lanes", .ref la)]))=A8 at WM o8 g8 Jj Jk MS ⊢
  have hT8:=hT.keep W (kp o8)
  refine⟨_,rfl,tb,TC,Cc,fst,_,rfl,o8 _ _ (λz=>P6 (mem_singleton.mp z)) BY,W.cl,W.nl,Br,lx,c.land,Bh,_,_,rfl,hT8.l.1,L.cl,L.np,rfl,(n:Int),rfl,by omega,by omega,?_⟩
  rw[toNat_natCast]
  refine sf (by omega) (λi B N sB hN=>⟨zero_le _,λt ht=>hN t ht⟩) (λli F9 A9 s9 CK hLi=>?_)
  have g9:=s9 _ _ g8
  have o9:Be [y] H A9:=o8.trans (AO.By s9)
  have Kj:li ≠ y:=Ne.symm (aj g9 CK)
  have MT:la ≠ li:=aj (s9 _ _ Jj) CK
  have MU:le ≠ li:=aj (s9 _ _ Jk) CK
  have li0:H li=none:=by
   cases e:H li with
   | none=>rfl
   | some u=>rw[o9 _ _ (λz=>Kj (mem_singleton.mp z)) e]at CK;cases CK
  have Kk:=(AO.refl A9).new (o := .lst F9) CK
  have MV:Paired (B1 y (li :: le :: la :: ys.ex) (upd A9 li (.lst F9)) ys.Bp) AX (rvs.map rH):=Paired.mono (λ_ _ z=>(z.same s9).new CK) WM
  have Ij:Paired (Cb (upd A9 li (.lst F9))) F9 (List.replicate n []):=Paired.mono (λ_ _ z=>z.keep (AO.Bl Kk)) hLi
  have Ik:(upd A9 li (.lst F9)) li=some (.lst F9):=ad
  have WN:Be [y] H (upd A9 li (.lst F9)):=o9.trans (AO.By Kk)
  have P7:=Kk _ _ g9
  have Il:=Kk _ _ (s9 _ _ Jj)
  have Im:=Kk _ _ (s9 _ _ Jk)
  have Io:=bI Kk (bI s9 MS)
  refine⟨_,rfl,y,ys.AS,dy,_,rfl,P7,Y.cl,Y.n5,by show 4 < 1000;decide,?_⟩
  generalize upd A9 li (.lst F9)=Jl at MV Ij Ik WN P7 Il Im Io ⊢
  have MW:∀{B:Hp}{o:HO}{C d:Addr}{fs:Fs}{v:V}{qs:List (Int × Int)},B y=some (.ins C d fs)->Cb B v qs->Cb (upd B y o) v qs:=λ{B o C d fs v qs} hB h=>by
   obtain⟨t,ws,e,h1,h2⟩:=h
   exact⟨t,ws,e,by rw[ah (b7 h1 hB (by intro z;cases z))];exact h1,Bi.imp (λ_ _ AU=>by obtain⟨t',e',q'⟩:=AU;exact⟨t',e',by rw[ah (b7 q' hB (by intro z;cases z))];exact q'⟩) h2⟩
  have MX:Paired (B1 y (li :: le :: la :: ys.ex) (upd Jl y (.ins ys.AS dy (aR "lies" (.ref li) [("table", .ref tb),("rooms", .ref ro),("lanes", .ref la),("letters", .ref le)]))) ys.Bp) AX (rvs.map rH):=Paired.mono (λ_ _ z=>z.upd) MV
  have Ip:Paired (Cb (upd Jl y (.ins ys.AS dy (aR "lies" (.ref li) [("table", .ref tb),("rooms", .ref ro),("lanes", .ref la),("letters", .ref le)])))) F9 (List.replicate n []):=Paired.mono (λ_ _ z=>MW P7 z) Ij
  have P8:=Kh (o := .ins ys.AS dy (aR "lies" (.ref li) [("table", .ref tb),("rooms", .ref ro),("lanes", .ref la),("letters", .ref le)])) WN
  have Sr:(upd Jl y (.ins ys.AS dy (aR "lies" (.ref li) [("table", .ref tb),("rooms", .ref ro),("lanes", .ref la),("letters", .ref le)]))) y=some (.ins ys.AS dy [("table", .ref tb),("rooms", .ref ro),("lanes", .ref la),("letters", .ref le),("lies", .ref li)]):=ad
  have FA:(upd Jl y (.ins ys.AS dy (aR "lies" (.ref li) [("table", .ref tb),("rooms", .ref ro),("lanes", .ref la),("letters", .ref le)]))) la=some (.lst AX):=by rw[ah Hj];exact Il
  have FC:(upd Jl y (.ins ys.AS dy (aR "lies" (.ref li) [("table", .ref tb),("rooms", .ref ro),("lanes", .ref la),("letters", .ref le)]))) le=some (.lst []):=by rw[ah Hk];exact Im
  have FD:(upd Jl y (.ins ys.AS dy (aR "lies" (.ref li) [("table", .ref tb),("rooms", .ref ro),("lanes", .ref la),("letters", .ref le)]))) li=some (.lst F9):=by rw[ah Kj];exact Ik
  have Iq:=fJ (o := .ins ys.AS dy (aR "lies" (.ref li) [("table", .ref tb),("rooms", .ref ro),("lanes", .ref la),("letters", .ref le)])) P7 Io
  generalize upd Jl y (.ins ys.AS dy (aR "lies" (.ref li) [("table", .ref tb),("rooms", .ref ro),("lanes", .ref la),("letters", .ref le)]))=A11 at MX Ip P8 Sr FA FC FD Iq ⊢
  refine⟨zero_le _,λdn C5=>?_⟩
  have MY:dn ≠ y:=Ne.symm (aj Sr C5)
  have MZ:la ≠ dn:=aj FA C5
  have Na:le ≠ dn:=aj FC C5
  have Nb:li ≠ dn:=aj FD C5
  have dn0:H dn=none:=by
   cases e:H dn with
   | none=>rfl
   | some u=>rw[P8 _ _ (λz=>MY (mem_singleton.mp z)) e]at C5;cases C5
  have Ir:=(AO.refl A11).new (o := .lst []) C5
  have Ss:=Ir _ _ Sr
  refine⟨_,rfl,y,ys.AS,dy,_,rfl,Ss,Y.cl,Y.n6,by show 5 < 1000;decide,?_⟩
  refine q Bb ro la le li dn _ (Kh (P8.trans (AO.By Ir))) la0 le0 li0 dn0 ⟨ad,fJ Ss (bI Ir Iq),⟨AX,by rw[ah Hj];exact Ir _ _ FA,?_⟩,⟨[],by rw[ah Hk];exact Ir _ _ FC, .nil⟩,⟨F9,by rw[ah Kj];exact Ir _ _ FD,Paired.mono (λ_ _ z=>MW Ss (z.keep (AO.Bl Ir))) Ip⟩,⟨[],by rw[ah MY];exact ad, .nil⟩,?_,(λb hb=>let ⟨xs,hz⟩:=hex b hb; ⟨xs,(Kh (P8.trans (AO.By Ir))) b _ (Fn b hb) hz⟩)⟩
  ·refine Paired.mono (λ_ _ z=>((z.new C5).upd).MG λa ha=>?_) MX
   simp only[mem_cons]at ha ⊢
   rcases ha with rfl | rfl | rfl | rfl | h
   ·exact .inr (.inr (.inr (.inl rfl)))
   ·exact .inr (.inr (.inl rfl))
   ·exact .inr (.inl rfl)
   ·exact .inl rfl
   ·exact .inr (.inr (.inr (.inr h)))
  ·simp only[nodup_cons,mem_cons,not_mem_nil,or_false,not_or,not_false_eq_true,and_true,nodup_nil]
   exact⟨⟨Ii,MT,MZ⟩,⟨MU,Na⟩,Nb⟩
theorem Ba.off(h:Ba K ys H y dy tb ro la le li dn s)(o:Be (la :: le :: li :: dn :: ys.ex) H H'):H' y=some (.ins ys.AS dy (P2 tb ro la le li dn))/\AZ K H' ro s.rooms/\(∀vs ss,Paired (CJ H ys.Bp (la :: le :: li :: dn :: ys.ex)) vs ss->Paired (CJ H' ys.Bp (la :: le :: li :: dn :: ys.ex)) vs ss)/\(∀vs ss,Paired (Dr H ys.AR (la :: le :: li :: dn :: ys.ex)) vs ss->Paired (Dr H' ys.AR (la :: le :: li :: dn :: ys.ex)) vs ss)/\(∀vs ss,Paired (Cb H) vs ss->Paired (Cb H') vs ss)/\∀vs ss,Paired (BB H) vs ss->Paired (BB H') vs ss:=by
 have hx:=h.E5
 have k:=o.Bl hx
 refine⟨k _ _ h.ins True.intro,?_,λvs ss=>Paired.mono λ_ _ z=>z.By hx o,λvs ss=>Paired.mono λ_ _ z=>z.By hx o,λvs ss=>Paired.mono λ_ _ z=>z.keep k,λvs ss=>Paired.mono λ_ _ z=>z.keep k⟩
 rcases h.MB with r | r
 ·refine .inl ?_
  rcases r with r | ⟨u,r⟩
  ·exact .inl (k _ _ r True.intro)
  ·exact .inr ⟨u,k _ _ r True.intro⟩
 ·exact .inr r
theorem cz(ha:a ∈ ex):Be ex H (upd H a o):=λb u nb e=>by rw[ah (λz=>nb (by rw[z];exact ha))];exact e
theorem qF(h:∃xs,H b=some (.lst xs)):∃xs,(upd H x (.lst zs)) b=some (.lst xs):=by
 by_cases e:b=x
 ·exact⟨zs,by rw[e,ad]⟩
 ·obtain⟨xs,hz⟩:=h
  exact⟨xs,by rw[ah e];exact hz⟩
theorem Ba.Nc(h:Ba K ys H y dy tb ro la le li dn s)(hv:H le=some (.lst vs))(hL:Dr H ys.AR (la :: le :: li :: dn :: ys.ex) v t):Ba K ys (upd H le (.lst (vs ++ [v]))) y dy tb ro la le li dn { s with U:=s.U ++ [t] }:=by
 obtain⟨h1,h2,f1,f2,f3,f4⟩:=h.off (cz (a:=le) (o := .lst (vs ++ [v])) (by simp))
 obtain⟨v1,a1,p1⟩:=h.BV
 obtain⟨v2,a2,p2⟩:=h.hle
 obtain⟨v3,a3,p3⟩:=h.CK
 obtain⟨v4,a4,p4⟩:=h.C5
 rw[hv]at a2
 cases a2
 have ne:=h.ne
 simp only[nodup_cons,mem_cons,not_mem_nil,or_false,not_or,not_false_eq_true,and_true,nodup_nil]at ne
 have Nd:Paired (Dr (upd H le (.lst (vs ++ [v]))) ys.AR (la :: le :: li :: dn :: ys.ex)) [v] [t]:=f2 [v] [t] (.cons hL .nil)
 exact⟨h1,h2,⟨v1,by rw[ah ne.1.1];exact a1,f1 _ _ p1⟩,⟨vs ++ [v],ad,Paired.snoc (by cases Nd with | cons z _=>exact z) (f2 _ _ p2)⟩,⟨v3,by rw[ah (Ne.symm ne.2.1.1)];exact a3,f3 _ _ p3⟩,⟨v4,by rw[ah (Ne.symm ne.2.1.2)];exact a4,f4 _ _ p4⟩,h.ne,λb hb=>qF (h.hex b hb)⟩
theorem Ba.Iu(h:Ba K ys H y dy tb ro la le li dn s)(hv:H dn=some (.lst vs))(hL:BB H v t):Ba K ys (upd H dn (.lst (vs ++ [v]))) y dy tb ro la le li dn { s with done:=s.done ++ [t] }:=by
 obtain⟨h1,h2,f1,f2,f3,f4⟩:=h.off (cz (a:=dn) (o := .lst (vs ++ [v])) (by simp))
 obtain⟨v1,a1,p1⟩:=h.BV
 obtain⟨v2,a2,p2⟩:=h.hle
 obtain⟨v3,a3,p3⟩:=h.CK
 obtain⟨v4,a4,p4⟩:=h.C5
 rw[hv]at a4
 cases a4
 have ne:=h.ne
 simp only[nodup_cons,mem_cons,not_mem_nil,or_false,not_or,not_false_eq_true,and_true,nodup_nil]at ne
 have Nd:Paired (BB (upd H dn (.lst (vs ++ [v])))) [v] [t]:=f4 [v] [t] (.cons hL .nil)
 exact⟨h1,h2,⟨v1,by rw[ah ne.1.2.2];exact a1,f1 _ _ p1⟩,⟨v2,by rw[ah ne.2.1.2];exact a2,f2 _ _ p2⟩,⟨v3,by rw[ah ne.2.2];exact a3,f3 _ _ p3⟩,⟨vs ++ [v],ad,Paired.snoc (by cases Nd with | cons z _=>exact z) (f4 _ _ p4)⟩,h.ne,λb hb=>qF (h.hex b hb)⟩
inductive Pd
 | place | length | word | way | full | good
noncomputable def lz(n:Nat)(wy:Wf)(m:Nat)(sv gv lv wv:V):Pd :=
 if (jN sv 0 ((n:Int) - 1) && jN gv 0 ((n:Int) - 1))=false then .place else if jN lv 1 60=false then .length else if Kg wv=false then .word
 else if vI sv=vI gv∨wy (vI sv).toNat (vI gv).toNat none=[] then .way else if 60 <= m then .full else .good
noncomputable def i5(s:YS)(a b l u:Int):YS:={ s with U:=s.U ++ [⟨a,b,l,u,0,[]⟩],done:=s.done ++ [[.str "post", .int a, .int b, .int l, .int u]] }
inductive om(K:Frag)(c:Cs)(TC:Addr)(J:TJ)(ys:Ys)(vs:List V)(H:Hp)(Q:VK)(E:XK):Prop
 | mk (y dy tb ro la le li dn lx Bh lt:Addr) (n:Nat) (AY:List V) (ps:List (Int × Int)) (wy:Wf) (s:YS) (sv gv lv wv:V) (_:vs=[.ref y,sv,gv,lv,wv]) (_:Ba K ys H y dy tb ro la le li dn s) (_:BK c TC J H tb lx Bh lt n AY ps wy) (_:sj sv) (_:sj gv) (_:sj lv) (_:sj wv) (_:s.U.length <= 900) (_:s.done.length <= 10000) (_:(lz n wy s.U.length sv gv lv wv = .place->False)) (_:(lz n wy s.U.length sv gv lv wv = .length->False)) (_:(lz n wy s.U.length sv gv lv wv = .word->False)) (_:(lz n wy s.U.length sv gv lv wv = .way->False)) (_:(lz n wy s.U.length sv gv lv wv = .full->False)) (_:(lz n wy s.U.length sv gv lv wv = .good->∀H',Be [le,dn] H H'->Ba K ys H' y dy tb ro la le li dn (i5 s (vI sv) (vI gv) (vI lv) (vI wv))->Q (.int s.U.length) H'))
abbrev NPo:List Str:=["self", "start", "goal", "length", "word", "last_place"]
abbrev Nf:List Str:=["self", "start", "goal", "length", "word"]
theorem Ng:ao NPo Nf (ai gG):=L2.Bt
theorem xa(F:EN K "post" "Yard.post" gG f fd)(T:dY mg)(L:jK K c)(Y:ig K ys)(W:Wy K TC P4 P5 J)(Jm:AQ P w K mg base aD 3 P4 P5 ["self", "place", "goal", "came"] (dj J))
  (mw:mg "is_within" = some (.ref fw)) (kw:keepIn K (.ref fw)=true) (bw:Binds K dw ["value", "least", "most"] []) (Gw:AQ P w K mg base aD 2 fw dw ["value", "least", "most"] fK)
  (mwo:mg "is_word" = some (.ref Su)) (kwo:keepIn K (.ref Su)=true) (bwo:Binds K WO ["word"] []) (Sv:AQ P w K mg base aD 2 Su WO ["word"] sM)
  (ml:mg "Letter" = some (.ref ys.AR)) (Ml:Mk K ys.AR fl) (bl:Binds K dl ["self", "start", "goal", "length", "word"] []) (Gl:AQ P w K mg base aD 1 fl dl ["self", "start", "goal", "length", "word"] (tf ys.AR))
  (mL:mg "MOST_LENGTH" = some (.int 60 t1)) (mM:mg "MOST_LETTERS" = some (.int 60 t2)) :
  AQ P w K mg base aD 4 f fd Nf (om K c TC J ys):=by
 refine F.ok Ng (λ_ _ _ _ h=>?_) (λ_ _ _ s H _ Q E hr h=>?_)
 ·obtain⟨y,dy,tb,ro,la,le,li,dn,lx,Bh,lt,n,AY,ps,wy,s,sv,gv,lv,wv,rfl,_⟩:=h
  rfl
 ·obtain⟨y,dy,tb,ro,la,le,li,dn,lx,Bh,lt,n,AY,ps,wy,st,sv,gv,lv,wv,rfl,hY,hT,cs,cg,cl,cw,hl9,hd9,e1,e2,e3,e4,e5,q⟩:=h
  have Cg:Bc 2 _:=hr.mono (by decide)
  refine⟨_,ae (ay (i:=5) Ng.nd rfl (Or.inl rfl) (aw cr (al (al (al (pv 0) rfl) rfl) rfl) af))
   (ae (aM (PW.pt (eX (bW (bE (az Gw Cg rfl mw kw bw .nil am (aa (pv 1) (aa af (aa (pv 5) ac)))))) (dH (bW (bE (az Gw Cg rfl mw kw bw .nil am (aa (pv 2) (aa af (aa (pv 5) ac)))))))))
    (ag bA) aB)
   (ae (aM (bW (bE (az Gw Cg rfl mw kw bw .nil am (aa (pv 3) (aa af (aa (dq (v := .int 60) rfl mL ⟨_,rfl⟩) ac))))))
    (ag bA) aB)
   (ae (aM (bW (bE (az Sv Cg rfl mwo kwo bwo .nil am (aa (pv 4) ac))))
    (ag bA) aB)
   (ae (aM (fN (PW.pt (eX (ap bq (pv 1) (pv 2) (ax _)) (dH (bW (js (aE (al (pv 0) rfl) W.cl W.m Jm hr W.b .nil am (aa (pv 1) (aa (pv 2) (aa cM ac)))) (λ_=>rfl)))))))
    (ag bA) aB)
   (ae (aM (ap qr (aC av rfl T.len PySem.boot_len (aa (al (pv 0) rfl) ac)) (dq (v := .int 60) rfl mM ⟨_,rfl⟩) (ax _))
    (ag bA) aB)
   (ae (aS (ce plainAttrs_list PySem.F.slot_list_append PySem.F.type_list_append bj (al (pv 0) rfl) (aa (cN Ml Gl Cg rfl ml bl .nil am (aa (pv 1) (aa (pv 2) (aa (pv 3) (aa (pv 4) ac))))) ac)))
   (ae (aS (ce plainAttrs_list PySem.F.slot_list_append PySem.F.type_list_append bj (al (pv 0) rfl) (aa (aK (aa aO (aa (pv 1) (aa (pv 2) (aa (pv 3) (aa (pv 4) ac)))))) ac)))
   (ag (aq (aw cr (aC av rfl T.len PySem.boot_len (aa (al (pv 0) rfl) ac)) af)))))))))),?_⟩
  obtain⟨Cc,fst,BY,Br,BA⟩:=hT.i
  unfold lz at e1 e2 e3 e4 e5 q
  refine⟨_,rfl,y,ys.AS,dy,_,_,rfl,hY.ins,Y.cl,Y.n1,rfl,tb,TC,Cc,fst,_,rfl,BY,W.cl,W.nl,Br,lx,c.land,Bh,_,_,rfl,hT.l.1,L.cl,L.np,rfl,_,_,rfl,rfl,?_⟩
  refine⟨_,rfl,_,rfl,sv,0,(n:Int) - 1,rfl,cs,_,rfl,?_⟩
  cases h1:jN sv 0 ((n:Int) - 1) with
  | false =>
   exact aH (aH (e1 (by rw[h1,Bool.false_and,if_pos rfl])))
  | true =>
  refine aG ⟨_,rfl,_,rfl,gv,0,(n:Int) - 1,rfl,cg,_,rfl,?_⟩
  cases h2:jN gv 0 ((n:Int) - 1) with
  | false =>
   exact aH (e1 (by rw[h1,h2,Bool.and_false,if_pos rfl]))
  | true =>
  rw[h1,h2,Bool.true_and,if_neg (by decide)]at e2 e3 e4 e5 q
  refine aG ⟨_,rfl,lv,1,60,rfl,cl,_,rfl,?_⟩
  cases h3:jN lv 1 60 with
  | false =>
   exact aH (e2 (by rw[h3,if_pos rfl]))
  | true =>
  rw[h3,if_neg (by decide)]at e3 e4 e5 q
  refine aG ⟨_,rfl,wv,rfl,cw,_,rfl,?_⟩
  cases h4:Kg wv with
  | false =>
   exact aH (e3 (by rw[h4,if_pos rfl]))
  | true =>
  rw[h4,if_neg (by decide)]at e4 e5 q
  refine aG ?_
  obtain⟨a,rfl⟩:=iP h1
  obtain⟨b,rfl⟩:=iP h2
  obtain⟨l,rfl⟩:=iP h3
  obtain⟨u,rfl⟩:∃u,wv = .int u:=by
   cases wv<;>first | exact⟨_,rfl⟩ | cases h4
  have ha:0 <= a/\a <= (n:Int) - 1:=of_decide_eq_true h1
  have hb:0 <= b/\b <= (n:Int) - 1:=of_decide_eq_true h2
  obtain⟨a',rfl⟩:∃a':Nat,a=(a':Int):=⟨a.toNat,by omega⟩
  obtain⟨b',rfl⟩:∃b':Nat,b=(b':Int):=⟨b.toNat,by omega⟩
  have ev:∀z:Int,vI (.int z)=z:=λ_=>rfl
  rw[ev,ev,toNat_natCast,toNat_natCast]at e4 e5 q
  refine⟨λk H1=>AO H H1/\k=decide ((a':Int)=(b':Int)∨wy a' b' none=[]),?_,?_⟩
  ·refine⟨_,rfl,_,rfl,rfl,_,rfl,?_⟩
   rw[bB]
   by_cases GQ:(a':Int)=(b':Int)
   ·rw[decide_eq_true GQ]
    exact aH ⟨AO.refl H,by rw[decide_eq_true (Or.inl GQ)]⟩
   ·rw[decide_eq_false GQ]
    refine aG ⟨_,rfl,y,ys.AS,dy,_,_,rfl,hY.ins,Y.cl,Y.n1,rfl,tb,Cc,fst,rfl,BY,BA,_,rfl,_,rfl,tb,n,wy,a',b',none,rfl,hT.j,by omega,by omega,λD H1 s1 hD gD=>⟨_, .inl ⟨_,AV.of gD,rfl⟩,s1,?_⟩⟩
    cases hw:wy a' b' none with
    | nil=>rw[decide_eq_true (Or.inr rfl)];rfl
    | cons z zs=>rw[decide_eq_false (λz=>z.elim GQ λz=>by cases z)];rfl
  rintro k H1 ⟨s1,rfl⟩
  have Dc:=hY.same s1
  by_cases Hl:(a':Int)=(b':Int)∨wy a' b' none=[]
  ·rw[decide_eq_true Hl]
   exact aH (e4 (by rw[if_pos Hl]))
  rw[decide_eq_false Hl]
  rw[if_neg Hl]at e5 q
  refine aG ?_
  obtain⟨EU,BZ,pl⟩:=Dc.hle
  have DN:EU.length=st.U.length:=Paired.length pl
  refine⟨_,rfl,y,ys.AS,dy,_,_,rfl,Dc.ins,Y.cl,Y.n4,rfl,le,_,rfl, .inl (AV.of BZ),_,_,rfl,rfl,_,rfl,?_⟩
  by_cases Iv:60 <= st.U.length
  ·rw[decide_eq_true (show (60:Int) <= (EU.length:Nat) by omega)]
   exact aH (e5 (by rw[if_pos Iv]))
  rw[decide_eq_false (show ¬(60:Int) <= (EU.length:Nat) by omega)]
  rw[if_neg Iv]at q
  refine aG ?_
  refine⟨_,rfl,y,ys.AS,dy,_,_,rfl,Dc.ins,Y.cl,Y.n4,rfl, .inl ⟨rfl,_,AV.of BZ⟩,_,rfl,_,rfl,_,rfl,_,rfl,λxl C6 nx Hi Fn=>⟨xl,C6,(a':Int),(b':Int),l,u,rfl,ad,λwa H2 ET off Fg P9=>⟨rfl,?_⟩⟩⟩
  have Jn:AO H1 H2:=λz o ez=>off z o (aj ez nx) (by rw[ah (aj ez nx),ah (aj ez Hi)];exact ez)
  have Sw:H1 wa=none:=by
   by_cases z1:wa=xl
   ·rw[z1,ad]at ET;cases ET
   ·by_cases z2:wa=C6
    ·rw[z2,ah Fn,ad]at ET;cases ET
    ·rw[ah z1,ah z2]at ET;exact ET
  have DO:=Dc.same Jn
  have Nh:=Jn _ _ BZ
  have Ni:Dr H2 ys.AR (la :: le :: li :: dn :: ys.ex) (.ref xl) ⟨(a':Int),(b':Int),l,u,0,[]⟩:=⟨xl,C6,wa,rfl,Fg,P9,λz=>by obtain⟨xs,hz⟩:=Dc.E5 wa z;rw[Sw]at hz;cases hz⟩
  refine⟨le,_,_,rfl,rfl,Nh,by rw[sizeLine_eq];omega,?_⟩
  have DP:=DO.Nc Nh Ni
  have o3:Be [le,dn] H (upd H2 le (.lst (EU ++ [.ref xl]))):=(AO.By (s1.trans Jn)).trans (cz (by simp))
  generalize upd H2 le (.lst (EU ++ [.ref xl]))=H3 at DP o3 ⊢
  obtain⟨B4,Iw,pd⟩:=DP.C5
  have LJ:B4.length=st.done.length:=Paired.length pd
  refine⟨_,rfl,y,ys.AS,dy,_,_,rfl,DP.ins,Y.cl,Y.n6,rfl, .inl ⟨rfl,_,AV.of Iw⟩,_,rfl,_,rfl,_,rfl,_,rfl,by show 5 <= sizeLine;decide,λt ht=>?_⟩
  have PB:=(AO.refl H3).new (o := .tup [.str "post", .int (a':Int), .int (b':Int), .int l, .int u]) ht
  have WQ:(upd H3 t (.tup [.str "post", .int (a':Int), .int (b':Int), .int l, .int u])) t=some (.tup [.str "post", .int (a':Int), .int (b':Int), .int l, .int u]):=ad
  generalize upd H3 t (.tup [.str "post", .int (a':Int), .int (b':Int), .int l, .int u])=H4 at PB WQ ⊢
  have PD:=DP.same PB
  have Nj:=PB _ _ Iw
  refine⟨dn,_,_,rfl,rfl,Nj,by rw[sizeLine_eq];omega,?_⟩
  have PF:=PD.Iu Nj ⟨t,rfl,WQ⟩
  have o5:Be [le,dn] H (upd H4 dn (.lst (B4 ++ [.ref t]))):=(o3.trans (AO.By PB)).trans (cz (by simp))
  generalize upd H4 dn (.lst (B4 ++ [.ref t]))=H5 at PF o5 ⊢
  obtain⟨WR,Sy,pl5⟩:=PF.hle
  have hl5:WR.length=st.U.length + 1:=by rw[Paired.length pl5,length_append];rfl
  refine⟨_,rfl,y,ys.AS,dy,_,_,rfl,PF.ins,Y.cl,Y.n4,rfl,le,_,rfl, .inl (AV.of Sy),_,_,rfl,rfl,?_⟩
  have er:((WR.length:Nat):Int) - 1=(st.U.length:Int):=by omega
  dsimp only
  rw[er]
  exact q rfl H5 o5 PF
inductive qa(K:Frag)(ys:Ys)(vs:List V)(H:Hp)(Q:VK)(E:XK):Prop
 | mk (y dy tb ro la le li dn:Addr) (s:YS) (k:Nat) (ln:bT) (_:vs=[.ref y, .int k]) (_:Ba K ys H y dy tb ro la le li dn s) (_:s.lanes[k]? = some ln) (_:∀(t ql:Addr)(Bf:List V)(H':Hp),AO H H'->H ql=none->H' t=some (.tup [.int ln.r, .int ln.b,hV ln.h, .ref ql])->H' ql=some (.lst Bf)->Bi H' Bf ln.qs->Q (.ref t) H')
inductive sN(K:Frag)(ys:Ys)(vs:List V)(H:Hp)(Q:VK)(E:XK):Prop
 | mk (y dy tb ro la le li dn:Addr) (s:YS) (k:Nat) (lt:ck) (_:vs=[.ref y, .int k]) (_:Ba K ys H y dy tb ro la le li dn s) (_:s.U[k]? = some lt) (_:∀(t:Addr)(H':Hp),AO H H'->H t=none->H' t=some (.lst (nV lt.way))->Q (.ref t) H')
inductive lV(K:Frag)(ys:Ys)(vs:List V)(H:Hp)(Q:VK)(E:XK):Prop
 | mk (y dy tb ro la le li dn:Addr) (s:YS) (_:vs=[.ref y]) (_:Ba K ys H y dy tb ro la le li dn s) (_:Q (.int s.U.length) H)
inductive tE(K:Frag)(ys:Ys)(vs:List V)(H:Hp)(Q:VK)(E:XK):Prop
 | mk (y dy tb ro la le li dn:Addr) (s:YS) (_:vs=[.ref y]) (_:Ba K ys H y dy tb ro la le li dn s) (_:∀(t:Addr)(vs:List V)(H':Hp),AO H H'->H t=none->H' t=some (.lst vs)->Paired (BB H') vs s.done->Q (.ref t) H')
theorem Sz:ao ["self", "lane"] ["self", "lane"] (ai oM):=L2.Bt
theorem uU(F:Bo K "lane_told" "Yard.lane_told" oM f fd)(Y:ig K ys)(mt:bG K ys.Bp "told" ft)(bt:Binds K dt ["self"] [])(Gt:AQ P w K mg base aD 1 ft dt ["self"] (yq ys.Bp)) :
  AQ P w K mg base aD 2 f fd ["self", "lane"] (qa K ys):=by
 refine F.ok Sz (λ_ _ _ _ h=>?_) (λ_ _ _ s H _ Q E hr h=>?_)
 ·obtain⟨y,dy,tb,ro,la,le,li,dn,st,k,ln,rfl,_⟩:=h
  rfl
 ·obtain⟨y,dy,tb,ro,la,le,li,dn,st,k,ln,rfl,hY,hk,q⟩:=h
  refine⟨_,ag (aq (bM (ar aF (al (pv 0) rfl) (pv 1) (λ_ _=>rfl)) Y.L.cl mt Gt hr bt .nil am)),?_⟩
  obtain⟨AX,BH,pl⟩:=hY.BV
  obtain⟨v,hv,x,dx,pa,Bf,rfl,hL,_⟩:=Paired.at2 pl hk
  refine⟨_,rfl,y,ys.AS,dy,_,_,rfl,hY.ins,Y.cl,Y.n3,rfl,_,rfl,la,AX,(k:Int),_,rfl,rfl,AV.of BH,ak hv,x,dx,_,rfl,hL.ins,rfl,?_⟩
  exact⟨x,dx,pa,ln.r,ln.b,ln.h,Bf,ln.qs,rfl,hL,λt ql H' s' Ig gt S0=>q t ql Bf H' s' Ig gt S0 (Bi.same s' hL.BL)⟩
theorem S1:ao ["self", "number"] ["self", "number"] (ai tP):=L2.Bt
theorem wS(F:Bo K "way_told" "Yard.way_told" tP f fd)(T:dY mg)(Y:ig K ys):AQ P w K mg base aD 1 f fd ["self", "number"] (sN K ys):=by
 refine F.ok S1 (λ_ _ _ _ h=>?_) (λ_ _ _ s H _ Q E hr h=>?_)
 ·obtain⟨y,dy,tb,ro,la,le,li,dn,st,k,ln,rfl,_⟩:=h
  rfl
 ·obtain⟨y,dy,tb,ro,la,le,li,dn,st,k,lt,rfl,hY,hk,q⟩:=h
  refine⟨_,ag (aq (c3 c4 rfl T.list PySem.Pv.boot_list (aa (al (ar aF (al (pv 0) rfl) (pv 1) (λ_ _=>rfl)) rfl) ac))),?_⟩
  obtain⟨AY,BZ,pl⟩:=hY.hle
  obtain⟨v,hv,x,dx,wa,rfl,hx,hw,_⟩:=Paired.at2 pl hk
  refine⟨_,rfl,y,ys.AS,dy,_,_,rfl,hY.ins,Y.cl,Y.n4,rfl,_,rfl,le,AY,(k:Int),_,rfl,rfl,AV.of BZ,ak hv,x,ys.AR,dx,_,_,rfl,hx,Y.ct,Y.t6,rfl,wa,_,rfl, .inl (AV.of hw),λt ht=>?_⟩
  exact q t _ ((AO.refl H).new ht) ht ad
theorem S2:ao ["self"] ["self"] (ai ll):=L2.Bt
theorem r9(F:Bo K "posted" "Yard.posted" ll f fd)(T:dY mg)(Y:ig K ys):AQ P w K mg base aD 1 f fd ["self"] (lV K ys):=by
 refine F.ok S2 (λ_ _ _ _ h=>?_) (λ_ _ _ s H _ Q E hr h=>?_)
 ·obtain⟨y,dy,tb,ro,la,le,li,dn,st,rfl,_⟩:=h
  rfl
 ·obtain⟨y,dy,tb,ro,la,le,li,dn,st,rfl,hY,q⟩:=h
  refine⟨_,ag (aq (aC av rfl T.len PySem.boot_len (aa (al (pv 0) rfl) ac))),?_⟩
  obtain⟨AY,BZ,pl⟩:=hY.hle
  refine⟨_,rfl,y,ys.AS,dy,_,_,rfl,hY.ins,Y.cl,Y.n4,rfl,le,_,rfl, .inl (AV.of BZ),?_⟩
  rw[Paired.length pl]
  exact q
theorem S3:ao ["self"] ["self"] (ai ug):=L2.Bt
theorem xq(F:Bo K "history" "Yard.history" ug f fd)(T:dY mg)(Y:ig K ys):AQ P w K mg base aD 1 f fd ["self"] (tE K ys):=by
 refine F.ok S3 (λ_ _ _ _ h=>?_) (λ_ _ _ s H _ Q E hr h=>?_)
 ·obtain⟨y,dy,tb,ro,la,le,li,dn,st,rfl,_⟩:=h
  rfl
 ·obtain⟨y,dy,tb,ro,la,le,li,dn,st,rfl,hY,q⟩:=h
  refine⟨_,ag (aq (c3 c4 rfl T.list PySem.Pv.boot_list (aa (al (pv 0) rfl) ac))),?_⟩
  obtain⟨B4,Iw,pd⟩:=hY.C5
  refine⟨_,rfl,y,ys.AS,dy,_,_,rfl,hY.ins,Y.cl,Y.n6,rfl,dn,_,rfl, .inl (AV.of Iw),λt ht=>?_⟩
  exact q t B4 _ ((AO.refl H).new ht) ht ad (Paired.mono (λ_ _ z=>z.keep (AO.Bl ((AO.refl H).new ht))) pd)
theorem pE{kV doc pm cdv ct:Value}(ho:K.lookup T=some o)(hs:o.data = .seq #[Value.none] n) :
  Binds K (fnOf "__init__" "Yard.__init__" (bS fR) (aJ fR) (ai fR) (.ref T) kV doc pm an cdv ct) ["self", "table", "rooms"] [Value.none]:=λs us Ex hl=>by
 have hl:us.length=2:=by rw[length_append]at hl;exact Nat.succ.inj hl
 obtain⟨a,WS,rfl,Kl⟩:=L2.FP hl
 obtain⟨b,WT,rfl,Km⟩:=L2.FP Kl
 obtain rfl:=eq_nil_of_length_eq_zero Km
 exact BindsTo.of_defaults rfl (Ex _ _ ho) hs rfl rfl
theorem pF{kV doc pm cdv ct:Value}(ho:K.lookup T=some o)(hs:o.data = .seq #[Value.none] n) :
  Binds K (fnOf "__init__" "Yard.__init__" (bS fR) (aJ fR) (ai fR) (.ref T) kV doc pm an cdv ct) ["self", "table", "rooms"] []:=λs us Ex hl=>by
 have hl:us.length=3:=by rw[append_nil]at hl;exact hl
 obtain⟨a,WS,rfl,Kl⟩:=L2.FP hl
 obtain⟨b,WT,rfl,Km⟩:=L2.FP Kl
 obtain⟨c,us2,rfl,HJ⟩:=L2.FP Km
 obtain rfl:=eq_nil_of_length_eq_zero HJ
 exact BindsTo.of_defaults rfl (Ex _ _ ho) hs rfl rfl
theorem nH{kV doc pm cdv ct:Value}(ho:K.lookup T=some o)(hs:o.data = .seq #[Value.int 0 tk] n) :
  Binds K (fnOf "post" "Yard.post" (bS gG) (aJ gG) (ai gG) (.ref T) kV doc pm an cdv ct) Nf []:=λs us Ex hl=>by
 have hl:us.length=5:=by rw[append_nil]at hl;exact hl
 obtain⟨a,WS,rfl,Kl⟩:=L2.FP hl
 obtain⟨b,WT,rfl,Km⟩:=L2.FP Kl
 obtain⟨c,us2,rfl,HJ⟩:=L2.FP Km
 obtain⟨d,us3,rfl,WU⟩:=L2.FP HJ
 obtain⟨e,us4,rfl,hl4⟩:=L2.FP WU
 obtain rfl:=eq_nil_of_length_eq_zero hl4
 exact BindsTo.of_defaults rfl (Ex _ _ ho) hs rfl rfl
inductive yp(C:Addr)(vs:List V)(H:Hp)(Q:VK)(E:XK):Prop
 | mk (x dx pa:Addr) (r b:Int) (h:Option Int) (Bf:List V) (qs:List (Int × Int)) (_:vs=[.ref x]) (_:Bm H C x dx pa r b h Bf qs) (_:∀(x' EI Fo:Addr)(H':Hp),AO H H'->H x' = none->H Fo = none->Bm H' C x' EI Fo r b h Bf qs->Q (.ref x') H')
inductive yo(C:Addr)(vs:List V)(H:Hp)(Q:VK)(E:XK):Prop
 | mk (x dx wa:Addr) (s:ck) (_:vs=[.ref x]) (_:H x=some (.ins C dx (pi s wa))) (_:H wa=some (.lst (nV s.way))) (_:∀(x' EI E6:Addr)(H':Hp),AO H H'->H x' = none->H E6 = none->H' x' = some (.ins C EI (pi s E6))->H' E6 = some (.lst (nV s.way))->Q (.ref x') H')
theorem Iy:ao ["self", "other"] ["self"] (ai zh):=L2.Bt
theorem zS(F:Bo K "twin" "Lane.twin" zh f fd)(T:dY mg)(L:yh K C)(ml:mg "Lane" = some (.ref C))(Ml:Mk K C fl)(bl:Binds K dl ["self", "room"] [])(Gl:AQ P w K mg base aD 1 fl dl ["self", "room"] (tj C)) :
  AQ P w K mg base aD 3 f fd ["self"] (yp C):=by
 refine F.ok Iy (λ_ _ _ _ h=>?_) (λ_ _ _ s H _ Q E hr h=>?_)
 ·obtain⟨x,dx,pa,r,b,h,Bf,qs,rfl,_⟩:=h
  rfl
 ·obtain⟨x,dx,pa,r,b,h,Bf,qs,rfl,hL,q⟩:=h
  refine⟨_,ae (ay (i:=1) Iy.nd rfl (Or.inl rfl) (cN Ml Gl hr rfl ml bl .nil am (aa (al (pv 0) rfl) ac)))
   (ae (bu (pv 1) (al (pv 0) rfl) rfl)
   (ae (bu (pv 1) (al (pv 0) rfl) rfl)
   (ae (bu (pv 1) (c3 c4 rfl T.list PySem.Pv.boot_list (aa (al (pv 0) rfl) ac)) rfl)
   (ag (aq (pv 1)))))),?_⟩
  refine⟨_,rfl,x,C,dx,_,_,rfl,hL.ins,L.cl,L.n1,rfl,λx' d' nx nd ne=>⟨x',d',r,rfl,ad,λJo H1 GX off Jp=>⟨rfl,?_⟩⟩⟩
  have s1:AO H H1:=λz o ez=>off z o (aj ez nx) (by rw[ah (aj ez nx),ah (aj ez nd)];exact ez)
  have hi1:=Jp.ins
  clear GX off Jp
  refine⟨_,rfl,x,C,dx,_,_,rfl,s1 _ _ hL.ins,L.cl,L.n2,rfl,_,rfl,x',C,d',_,rfl,hi1,L.cl,L.n2,by show 4 < 1000;decide,?_⟩
  have o2:∀o',AO H (upd H1 x' o'):=λo' z o ez=>by rw[ah (aj ez nx)];exact s1 _ _ ez
  refine⟨_,rfl,x,C,dx,_,_,rfl,o2 _ _ _ hL.ins,L.cl,L.n3,rfl,_,rfl,x',C,d',_,rfl,ad,L.cl,L.n3,by show 4 < 1000;decide,?_⟩
  have o3:∀o' WV,AO H (upd (upd H1 x' o') x' WV):=λo' WV z o ez=>by rw[ah (aj ez nx)];exact o2 _ _ _ ez
  have s3:=o3 (.ins C d' (aR "returning" (.int b) (iB r 0 (hV none) Jo))) (.ins C d' (aR "holder" (hV h) (aR "returning" (.int b) (iB r 0 (hV none) Jo))))
  have Jq:(upd (upd H1 x' (.ins C d' (aR "returning" (.int b) (iB r 0 (hV none) Jo)))) x' (.ins C d' (aR "holder" (hV h) (aR "returning" (.int b) (iB r 0 (hV none) Jo))))) x' = some (.ins C d' (iB r b (hV h) Jo)):=ad
  generalize upd (upd H1 x' (.ins C d' (aR "returning" (.int b) (iB r 0 (hV none) Jo)))) x' (.ins C d' (aR "holder" (hV h) (aR "returning" (.int b) (iB r 0 (hV none) Jo))))=H3 at s3 Jq ⊢
  refine⟨_,rfl,x,C,dx,_,_,rfl,s3 _ _ hL.ins,L.cl,L.n4,rfl,pa,_,rfl, .inl (AV.of (s3 _ _ hL.lst)),λFo Jr=>?_⟩
  have ER:H Fo = none:=by
   cases e:H Fo with
   | none=>rfl
   | some o=>rw[s3 _ _ e]at Jr;cases Jr
  have Nk:x' ≠ Fo:=aj Jq Jr
  refine⟨_,rfl,x',C,d',_,rfl,by rw[ah Nk];exact Jq,L.cl,L.n4,by show 4 < 1000;decide,_,rfl,?_⟩
  have s4:∀o',AO H (upd (upd H3 Fo (.lst Bf)) x' o'):=λo' z o ez=>by rw[ah (aj ez nx),ah (aj ez ER)];exact s3 _ _ ez
  exact q x' d' Fo _ (s4 _) nx ER ⟨ad,by rw[ah (Ne.symm Nk)];exact ad,Bi.same (s4 _) hL.BL⟩
theorem Iz:ao ["self", "other"] ["self"] (ai uc):=L2.Bt
theorem zP(F:Bo K "twin" "Letter.twin" uc f fd)(T:dY mg)(Y:ig K ys)(ml:mg "Letter" = some (.ref ys.AR))(Ml:Mk K ys.AR fl)(bl:Binds K dl ["self", "start", "goal", "length", "word"] [])(Gl:AQ P w K mg base aD 1 fl dl ["self", "start", "goal", "length", "word"] (tf ys.AR)) :
  AQ P w K mg base aD 3 f fd ["self"] (yo ys.AR):=by
 refine F.ok Iz (λ_ _ _ _ h=>?_) (λ_ _ _ s H _ Q E hr h=>?_)
 ·obtain⟨x,dx,wa,s,rfl,_⟩:=h
  rfl
 ·obtain⟨x,dx,wa,t,rfl,hx,hw,q⟩:=h
  refine⟨_,ae (ay (i:=1) Iz.nd rfl (Or.inl rfl) (cN Ml Gl hr rfl ml bl .nil am (aa (al (pv 0) rfl) (aa (al (pv 0) rfl) (aa (al (pv 0) rfl) (aa (al (pv 0) rfl) ac))))))
   (ae (bu (pv 1) (al (pv 0) rfl) rfl)
   (ae (bu (pv 1) (c3 c4 rfl T.list PySem.Pv.boot_list (aa (al (pv 0) rfl) ac)) rfl)
   (ag (aq (pv 1))))),?_⟩
  refine⟨_,rfl,x,ys.AR,dx,_,_,rfl,hx,Y.ct,Y.t1,rfl,_,rfl,x,ys.AR,dx,_,_,rfl,hx,Y.ct,Y.t2,rfl,_,rfl,x,ys.AR,dx,_,_,rfl,hx,Y.ct,Y.t3,rfl,_,rfl,x,ys.AR,dx,_,_,rfl,hx,Y.ct,Y.t4,rfl,λx' d' nx nd ne=>⟨x',d',t.start,t.goal,t.len,t.word,rfl,ad,λw0 H1 S4 off Cf Gd=>⟨rfl,?_⟩⟩⟩
  have s1:AO H H1:=λz o ez=>off z o (aj ez nx) (by rw[ah (aj ez nx),ah (aj ez nd)];exact ez)
  clear S4 off Gd
  refine⟨_,rfl,x,ys.AR,dx,_,_,rfl,s1 _ _ hx,Y.ct,Y.t5,rfl,_,rfl,x',ys.AR,d',_,rfl,Cf,Y.ct,Y.t5,by show 6 < 1000;decide,?_⟩
  have s3:AO H (upd H1 x' (.ins ys.AR d' (aR "gone" (.int t.gone) (pi ⟨t.start,t.goal,t.len,t.word,0,[]⟩ w0)))):=λz o ez=>by rw[ah (aj ez nx)];exact s1 _ _ ez
  have Jq:(upd H1 x' (.ins ys.AR d' (aR "gone" (.int t.gone) (pi ⟨t.start,t.goal,t.len,t.word,0,[]⟩ w0)))) x' = some (.ins ys.AR d' (pi ⟨t.start,t.goal,t.len,t.word,t.gone,[]⟩ w0)):=ad
  show _
  generalize upd H1 x' (.ins ys.AR d' (aR "gone" (.int t.gone) (pi ⟨t.start,t.goal,t.len,t.word,0,[]⟩ w0)))=H3 at s3 Jq ⊢
  refine⟨_,rfl,x,ys.AR,dx,_,_,rfl,s3 _ _ hx,Y.ct,Y.t6,rfl,wa,_,rfl, .inl (AV.of (s3 _ _ hw)),λE6 Js=>?_⟩
  have ET:H E6 = none:=by
   cases e:H E6 with
   | none=>rfl
   | some o=>rw[s3 _ _ e]at Js;cases Js
  have Nk:x' ≠ E6:=aj Jq Js
  refine⟨_,rfl,x',ys.AR,d',_,rfl,by rw[ah Nk];exact Jq,Y.ct,Y.t6,by show 6 < 1000;decide,_,rfl,?_⟩
  have s4:∀o',AO H (upd (upd H3 E6 (.lst (nV t.way))) x' o'):=λo' z o ez=>by rw[ah (aj ez nx),ah (aj ez ET)];exact s3 _ _ ez
  exact q x' d' E6 _ (s4 _) nx ET ad (by rw[ah (Ne.symm Nk)];exact ad)
structure YA where
 y:Addr
 dy:Addr
 tb:Addr
 ro:Addr
 la:Addr
 le:Addr
 li:Addr
 dn:Addr
 lx:Addr
 Bh:Addr
 lt:Addr
 n:Nat
 AY:List V
 ps:List (Int × Int)
 wy:Wf
abbrev B8(K:Frag)(ys:Ys)(H:Hp)(a:YA)(s:YS):Prop:=Ba K ys H a.y a.dy a.tb a.ro a.la a.le a.li a.dn s
abbrev yb(c:Cs)(TC:Addr)(J:TJ)(H:Hp)(a:YA):Prop:=BK c TC J H a.tb a.lx a.Bh a.lt a.n a.AY a.ps a.wy
abbrev YA.four(a:YA):List Addr:=[a.la,a.le,a.li,a.dn]
theorem Paired.set{v:α}{r:β}(h:R v r):∀{vs:List α}{rs:List β}(i:Nat),Paired R vs rs->Paired R (vs.set i v) (rs.set i r)
 | _,_,_, .nil => .nil
 | _,_,0, .cons _ t => .cons h t
 | _,_,i + 1, .cons x t => .cons x (Paired.set h i t)
theorem Be.mono(h:∀b ∈ ex,b ∈ JT)(o:Be ex H H'):Be JT H H':=λb u nb e=>o b u (λz=>nb (h b z)) e
theorem mK(h:B8 K ys H a s)(hp:H p=none):p ∉ a.four:=λz=>by obtain⟨xs,hz⟩:=h.ES p z;rw[hp]at hz;cases hz
theorem ky(h:B8 K ys H a s)(hp:H p=none):p ∉ a.la :: a.le :: a.li :: a.dn :: ys.ex:=λz=>by obtain⟨xs,hz⟩:=Ba.E5 h p z;rw[hp]at hz;cases hz
theorem lF(o:Be [x] H H2)(hx:H2 x=some (.lst zs))(h:∃xs,H b=some (.lst xs)):∃xs,H2 b=some (.lst xs):=by
 by_cases e:b=x
 ·exact⟨zs,by rw[e];exact hx⟩
 ·obtain⟨xs,hz⟩:=h
  exact⟨xs,o _ _ (by simpa using e) hz⟩
theorem B8.Ds(h:B8 K ys H a s)(hv:H a.la=some (.lst vs))(o:Be [a.la] H H2)(hl:H2 a.la=some (.lst (vs.set k (.ref x))))
  (L:Bm H2 ys.Bp x dx pa ln.r ln.b ln.h Bf ln.qs) (np:H pa=none):B8 K ys H2 a { s with lanes:=s.lanes.set k ln }:=by
 obtain⟨h1,h2,f1,f2,f3,f4⟩:=Ba.off h (o.mono (by simp))
 obtain⟨v1,a1,p1⟩:=h.BV
 obtain⟨v2,a2,p2⟩:=h.hle
 obtain⟨v3,a3,p3⟩:=h.CK
 obtain⟨v4,a4,p4⟩:=h.C5
 rw[hv]at a1
 cases a1
 have ne:=h.ne
 simp only[nodup_cons,mem_cons,not_mem_nil,or_false,not_or,not_false_eq_true,and_true,nodup_nil]at ne
 exact⟨h1,h2,⟨_,hl,Paired.set ⟨x,dx,pa,Bf,rfl,L,ky h np⟩ k (f1 _ _ p1)⟩,⟨v2,o _ _ (by simp;exact Ne.symm ne.1.1) a2,f2 _ _ p2⟩,⟨v3,o _ _ (by simp;exact Ne.symm ne.1.2.1) a3,f3 _ _ p3⟩,⟨v4,o _ _ (by simp;exact Ne.symm ne.1.2.2) a4,f4 _ _ p4⟩,h.ne,λb hb=>lF o hl (h.hex b hb)⟩
theorem B8.FE(h:B8 K ys H a s)(hv:H a.le=some (.lst vs))(o:Be [a.le] H H2)(hl:H2 a.le=some (.lst (vs.set k (.ref x))))
  (hx:H2 x=some (.ins ys.AR dx (pi t wa))) (hw:H2 wa=some (.lst (nV t.way))) (np:H wa=none):B8 K ys H2 a { s with U:=s.U.set k t }:=by
 obtain⟨h1,h2,f1,f2,f3,f4⟩:=Ba.off h (o.mono (by simp))
 obtain⟨v1,a1,p1⟩:=h.BV
 obtain⟨v2,a2,p2⟩:=h.hle
 obtain⟨v3,a3,p3⟩:=h.CK
 obtain⟨v4,a4,p4⟩:=h.C5
 rw[hv]at a2
 cases a2
 have ne:=h.ne
 simp only[nodup_cons,mem_cons,not_mem_nil,or_false,not_or,not_false_eq_true,and_true,nodup_nil]at ne
 exact⟨h1,h2,⟨v1,o _ _ (by simp;exact ne.1.1) a1,f1 _ _ p1⟩,⟨_,hl,Paired.set ⟨x,dx,wa,rfl,hx,hw,ky h np⟩ k (f2 _ _ p2)⟩,⟨v3,o _ _ (by simp;exact Ne.symm ne.2.1.1) a3,f3 _ _ p3⟩,⟨v4,o _ _ (by simp;exact Ne.symm ne.2.1.2) a4,f4 _ _ p4⟩,h.ne,λb hb=>lF o hl (h.hex b hb)⟩
theorem B8.Jt(h:B8 K ys H a s)(hv:H a.li=some (.lst vs))(o:Be [a.li] H H2)(hl:H2 a.li=some (.lst (vs.set k v)))
  (L:Cb H2 v qs):B8 K ys H2 a { s with lies:=s.lies.set k qs }:=by
 obtain⟨h1,h2,f1,f2,f3,f4⟩:=Ba.off h (o.mono (by simp))
 obtain⟨v1,a1,p1⟩:=h.BV
 obtain⟨v2,a2,p2⟩:=h.hle
 obtain⟨v3,a3,p3⟩:=h.CK
 obtain⟨v4,a4,p4⟩:=h.C5
 rw[hv]at a3
 cases a3
 have ne:=h.ne
 simp only[nodup_cons,mem_cons,not_mem_nil,or_false,not_or,not_false_eq_true,and_true,nodup_nil]at ne
 exact⟨h1,h2,⟨v1,o _ _ (by simp;exact ne.1.2.1) a1,f1 _ _ p1⟩,⟨v2,o _ _ (by simp;exact ne.2.1.1) a2,f2 _ _ p2⟩,⟨_,hl,Paired.set L k (f3 _ _ p3)⟩,⟨v4,o _ _ (by simp;exact Ne.symm ne.2.2) a4,f4 _ _ p4⟩,h.ne,λb hb=>lF o hl (h.hex b hb)⟩
inductive sV(K:Frag)(ys:Ys)(vs:List V)(H:Hp)(Q:VK)(E:XK):Prop
 | mk (a:YA) (s:YS) (k:Nat) (ln:bT) (AX:List V) (_:vs=[.ref a.y, .int k]) (_:B8 K ys H a s) (_:s.lanes[k]? = some ln) (_:H a.la=some (.lst AX)) (_:∀(x dx pa:Addr)(Bf:List V)(H':Hp),Be [a.la] H H'->H x=none->H pa=none->H' a.la=some (.lst (AX.set k (.ref x)))->Bm H' ys.Bp x dx pa ln.r ln.b ln.h Bf ln.qs->Q (.ref x) H')
inductive sU(K:Frag)(ys:Ys)(vs:List V)(H:Hp)(Q:VK)(E:XK):Prop
 | mk (a:YA) (s:YS) (k:Nat) (t:ck) (AY:List V) (_:vs=[.ref a.y, .int k]) (_:B8 K ys H a s) (_:s.U[k]? = some t) (_:H a.le=some (.lst AY)) (_:∀(x dx wa:Addr)(H':Hp),Be [a.le] H H'->H x=none->H wa=none->H' a.le=some (.lst (AY.set k (.ref x)))->H' x=some (.ins ys.AR dx (pi t wa))->H' wa=some (.lst (nV t.way))->Q (.ref x) H')
inductive yr(K:Frag)(ys:Ys)(vs:List V)(H:Hp)(Q:VK)(E:XK):Prop
 | mk (a:YA) (s:YS) (v:V) (q:Int × Int) (p:Nat) (qs:List (Int × Int)) (_:vs=[.ref a.y,v, .int p]) (_:B8 K ys H a s) (_:yi H v q) (_:s.lies[p]? = some qs) (_:qs.length <= 100000) (_:∀H',Be [a.li] H H'->B8 K ys H' a { s with lies:=s.lies.set p (qs ++ [q]) }->Q .Bj H')
inductive pV(K:Frag)(ys:Ys)(vs:List V)(H:Hp)(Q:VK)(E:XK):Prop
 | mk (a:YA) (s:YS) (p:Nat) (qs:List (Int × Int)) (_:vs=[.ref a.y, .int p]) (_:B8 K ys H a s) (_:s.lies[p]? = some qs) (_:∀(D:Addr)(Bf:List V)(H':Hp),AO H H'->H D=none->H' D=some (.lst Bf)->Bi H' Bf qs->Q (.ref D) H')
theorem yX:ao ["self", "lane"] ["self", "lane"] (ai tW):=L2.Bt
theorem xf(F:Bo K "own_lane" "Yard.own_lane" tW f fd)(Y:ig K ys)(mt:bG K ys.Bp "twin" ft)(bt:Binds K dt ["self"] [])(Gt:AQ P w K mg base aD 3 ft dt ["self"] (yp ys.Bp)) :
  AQ P w K mg base aD 4 f fd ["self", "lane"] (sV K ys):=by
 refine F.ok yX (λ_ _ _ _ h=>?_) (λ_ _ _ s H _ Q E hr h=>?_)
 ·obtain⟨a,s,k,ln,AX,rfl,_⟩:=h
  rfl
 ·obtain⟨a,st,k,ln,AX,rfl,hY,hk,BH,q⟩:=h
  refine⟨_,ae (gh (bM (ar aF (al (pv 0) rfl) (pv 1) (λ_ _=>rfl)) Y.L.cl mt Gt hr bt .nil am) (oV (al (pv 0) rfl) (pv 1) jk))
   (ag (aq (ar aF (al (pv 0) rfl) (pv 1) (λ_ _=>rfl)))),?_⟩
  obtain⟨Ju,Nl,pl⟩:=hY.BV
  rw[BH]at Nl
  cases Nl
  obtain⟨v,hv,x,dx,pa,Bf,rfl,hL,_⟩:=Paired.at2 pl hk
  have Eo:k < AX.length:=(gQ0 hv)
  refine⟨_,rfl,a.y,ys.AS,a.dy,_,_,rfl,hY.ins,Y.cl,Y.n3,rfl,_,rfl,a.la,AX,(k:Int),_,rfl,rfl,AV.of BH,ak hv,x,dx,_,rfl,hL.ins,rfl,?_⟩
  refine⟨x,dx,pa,ln.r,ln.b,ln.h,Bf,ln.qs,rfl,hL,λx' EI Fo H1 s1 nx He Jp=>?_⟩
  refine⟨_,rfl,a.y,ys.AS,a.dy,_,_,rfl,s1 _ _ hY.ins,Y.cl,Y.n3,rfl,_,rfl,a.la,AX,(k:Int),k,rfl,rfl,s1 _ _ BH,iR Eo,?_⟩
  have o1:Be [a.la] H (upd H1 a.la (.lst (AX.set k (.ref x')))):=(AO.By s1).trans (cz (by simp))
  have g1:(upd H1 a.la (.lst (AX.set k (.ref x')))) a.la=some (.lst (AX.set k (.ref x'))):=ad
  have CL:Bm (upd H1 a.la (.lst (AX.set k (.ref x')))) ys.Bp x' EI Fo ln.r ln.b ln.h Bf ln.qs:=by
   have n1:x' ≠ a.la:=b7 Jp.ins (s1 _ _ BH) (by intro z;cases z)
   have n2:Fo ≠ a.la:=λz=>by rw[z,BH]at He;cases He
   exact⟨by rw[ah n1];exact Jp.ins,by rw[ah n2];exact Jp.lst,Bi.By (ex:=[a.la]) (λb hb=>by simp at hb;subst hb;exact⟨_,s1 _ _ BH⟩) (cz (by simp)) Jp.BL⟩
  generalize upd H1 a.la (.lst (AX.set k (.ref x')))=H2 at o1 g1 CL ⊢
  have S5:H2 a.y=some (.ins ys.AS a.dy (P2 a.tb a.ro a.la a.le a.li a.dn)):=o1 _ _ (by simp;exact b7 hY.ins BH (by intro z;cases z)) hY.ins
  exact⟨_,rfl,a.y,ys.AS,a.dy,_,_,rfl,S5,Y.cl,Y.n3,rfl,_,rfl,a.la,_,(k:Int), .ref x',rfl,rfl,AV.of g1,ak (by simp[Eo]),q x' EI Fo Bf H2 o1 nx He g1 CL⟩
theorem yW:ao ["self", "number"] ["self", "number"] (ai tU):=L2.Bt
theorem xb(F:Bo K "own_letter" "Yard.own_letter" tU f fd)(Y:ig K ys)(mt:bG K ys.AR "twin" ft)(bt:Binds K dt ["self"] [])(Gt:AQ P w K mg base aD 3 ft dt ["self"] (yo ys.AR)) :
  AQ P w K mg base aD 4 f fd ["self", "number"] (sU K ys):=by
 refine F.ok yW (λ_ _ _ _ h=>?_) (λ_ _ _ s H _ Q E hr h=>?_)
 ·obtain⟨a,s,k,ln,AX,rfl,_⟩:=h
  rfl
 ·obtain⟨a,st,k,t,AY,rfl,hY,hk,BZ,q⟩:=h
  refine⟨_,ae (gh (bM (ar aF (al (pv 0) rfl) (pv 1) (λ_ _=>rfl)) Y.ct mt Gt hr bt .nil am) (oV (al (pv 0) rfl) (pv 1) jk))
   (ag (aq (ar aF (al (pv 0) rfl) (pv 1) (λ_ _=>rfl)))),?_⟩
  obtain⟨EU,Nm,pl⟩:=hY.hle
  rw[BZ]at Nm
  cases Nm
  obtain⟨v,hv,x,dx,wa,rfl,hx,hw,_⟩:=Paired.at2 pl hk
  have Eo:k < AY.length:=(gQ0 hv)
  refine⟨_,rfl,a.y,ys.AS,a.dy,_,_,rfl,hY.ins,Y.cl,Y.n4,rfl,_,rfl,a.le,AY,(k:Int),_,rfl,rfl,AV.of BZ,ak hv,x,dx,_,rfl,hx,rfl,?_⟩
  refine⟨x,dx,wa,t,rfl,hx,hw,λx' EI E6 H1 s1 nx He Cf Gd=>?_⟩
  refine⟨_,rfl,a.y,ys.AS,a.dy,_,_,rfl,s1 _ _ hY.ins,Y.cl,Y.n4,rfl,_,rfl,a.le,AY,(k:Int),k,rfl,rfl,s1 _ _ BZ,iR Eo,?_⟩
  have o1:Be [a.le] H (upd H1 a.le (.lst (AY.set k (.ref x')))):=(AO.By s1).trans (cz (by simp))
  have g1:(upd H1 a.le (.lst (AY.set k (.ref x')))) a.le=some (.lst (AY.set k (.ref x'))):=ad
  have n1:x' ≠ a.le:=b7 Cf (s1 _ _ BZ) (by intro z;cases z)
  have n2:E6 ≠ a.le:=λz=>by rw[z,BZ]at He;cases He
  have Fg:(upd H1 a.le (.lst (AY.set k (.ref x')))) x' = some (.ins ys.AR EI (pi t E6)):=by rw[ah n1];exact Cf
  have P9:(upd H1 a.le (.lst (AY.set k (.ref x')))) E6 = some (.lst (nV t.way)):=by rw[ah n2];exact Gd
  generalize upd H1 a.le (.lst (AY.set k (.ref x')))=H2 at o1 g1 Fg P9 ⊢
  have S5:H2 a.y=some (.ins ys.AS a.dy (P2 a.tb a.ro a.la a.le a.li a.dn)):=o1 _ _ (by simp;exact b7 hY.ins BZ (by intro z;cases z)) hY.ins
  exact⟨_,rfl,a.y,ys.AS,a.dy,_,_,rfl,S5,Y.cl,Y.n4,rfl,_,rfl,a.le,_,(k:Int), .ref x',rfl,rfl,AV.of g1,ak (by simp[Eo]),q x' EI E6 H2 o1 nx He g1 Fg P9⟩
theorem Nn:ao ["self", "piece", "place"] ["self", "piece", "place"] (ai zk):=L2.Bt
theorem zX(F:Bo K "lay" "Yard.lay" zk f fd)(Y:ig K ys):AQ P w K mg base aD 1 f fd ["self", "piece", "place"] (yr K ys):=by
 refine F.ok Nn (λ_ _ _ _ h=>?_) (λ_ _ _ s H _ Q E hr h=>?_)
 ·obtain⟨a,s,v,q,p,qs,rfl,_⟩:=h
  rfl
 ·obtain⟨a,st,v,qp,p,qs,rfl,hY,hv,hp,hlen,q⟩:=h
  refine⟨_,ag (gh (aw wP (ar aF (al (pv 0) rfl) (pv 2) (λ_ _=>rfl)) (aK (aa (pv 1) ac))) (oV (al (pv 0) rfl) (pv 2) jk)),?_⟩
  obtain⟨AX,IA,pl⟩:=hY.CK
  obtain⟨v0,PH,t0,Fj,rfl,IB,Hm⟩:=Paired.at2 pl hp
  have Eo:p < AX.length:=(gQ0 PH)
  have Kl:Fj.length=qs.length:=Paired.length Hm
  refine⟨_,rfl,a.y,ys.AS,a.dy,_,_,rfl,hY.ins,Y.cl,Y.n5,rfl,_,rfl,a.li,AX,(p:Int),_,rfl,rfl,AV.of IA,ak PH,_,rfl,by show 1 <= sizeLine;decide,λt ht=>?_⟩
  have s1:=(AO.refl H).new (o := .tup [v]) ht
  have g1:(upd H t (.tup [v])) t=some (.tup [v]):=ad
  generalize upd H t (.tup [v])=H1 at s1 g1 ⊢
  have fin:∀(z:Addr)(H2:Hp),AO H H2->Cb H2 (.ref z) (qs ++ [qp])->Q .Bj (upd H2 a.li (.lst (AX.set p (.ref z)))):=λz H2 s2 hz=>by
   have o2:Be [a.li] H (upd H2 a.li (.lst (AX.set p (.ref z)))):=(AO.By s2).trans (cz (by simp))
   refine q _ o2 (B8.Jt hY IA o2 ad ?_)
   obtain⟨tz,vz,ez,WW,hz2⟩:=hz
   cases ez
   have nz:z ≠ a.li:=b7 WW (s2 _ _ IA) (by intro y;cases y)
   exact⟨z,vz,rfl,by rw[ah nz];exact WW,Bi.By (ex:=[a.li]) (λb hb=>by simp at hb;subst hb;exact⟨_,s2 _ _ IA⟩) (cz (by simp)) hz2⟩
  refine⟨t0,t,Fj,[v],rfl,rfl,AZ.of (s1 _ _ IB),AZ.of g1,by simp,by rw[sizeLine_eq];simp;omega,λe0=>?_,λe0 p2 LP=>?_⟩
  ·subst e0
   cases Hm
   refine⟨_,rfl,a.y,ys.AS,a.dy,_,_,rfl,s1 _ _ hY.ins,Y.cl,Y.n5,rfl,_,rfl,a.li,AX,(p:Int),p,rfl,rfl,s1 _ _ IA,iR Eo,?_⟩
   exact fin t H1 s1 ⟨t,[v],rfl,g1, .cons (let ⟨u,e,hu⟩:=hv; ⟨u,e,s1 _ _ hu⟩) .nil⟩
  ·have s2:=s1.new (o := .tup (Fj ++ [v])) LP
   have g2:(upd H1 p2 (.tup (Fj ++ [v]))) p2=some (.tup (Fj ++ [v])):=ad
   generalize upd H1 p2 (.tup (Fj ++ [v]))=H2 at s2 g2 ⊢
   refine⟨_,rfl,a.y,ys.AS,a.dy,_,_,rfl,s2 _ _ hY.ins,Y.cl,Y.n5,rfl,_,rfl,a.li,AX,(p:Int),p,rfl,rfl,s2 _ _ IA,iR Eo,?_⟩
   exact fin p2 H2 s2 ⟨p2,_,rfl,g2,Bi.snoc (let ⟨u,e,hu⟩:=hv; ⟨u,e,s2 _ _ hu⟩) (Bi.same s2 Hm)⟩
theorem Np:ao ["self", "place"] ["self", "place"] (ai oJ):=L2.Bt
theorem uQ(F:Bo K "lying" "Yard.lying" oJ f fd)(T:dY mg)(Y:ig K ys):AQ P w K mg base aD 1 f fd ["self", "place"] (pV K ys):=by
 refine F.ok Np (λ_ _ _ _ h=>?_) (λ_ _ _ s H _ Q E hr h=>?_)
 ·obtain⟨a,s,p,qs,rfl,_⟩:=h
  rfl
 ·obtain⟨a,st,p,qs,rfl,hY,hp,q⟩:=h
  refine⟨_,ag (aq (c3 c4 rfl T.list PySem.Pv.boot_list (aa (ar aF (al (pv 0) rfl) (pv 1) (λ_ _=>rfl)) ac))),?_⟩
  obtain⟨AX,IA,pl⟩:=hY.CK
  obtain⟨v0,PH,t0,Fj,rfl,IB,Hm⟩:=Paired.at2 pl hp
  refine⟨_,rfl,a.y,ys.AS,a.dy,_,_,rfl,hY.ins,Y.cl,Y.n5,rfl,_,rfl,a.li,AX,(p:Int),_,rfl,rfl,AV.of IA,ak PH,t0,_,rfl, .inr (AZ.of IB),λD hD=>?_⟩
  have s1:=(AO.refl H).new (o := .lst Fj) hD
  exact q D Fj _ s1 hD ad (Bi.same s1 Hm)
noncomputable def dR(ln:bT)(m c len:Int):bT:={ ln with r:=ln.r - 1,h:=if decide (c=len - 1)=true then none else some m,qs:=ln.qs ++ [(m,c)] }
noncomputable def cX(s:YS)(m:Nat)(c:Int)(l:Nat)(t:ck)(ln:bT):YS:={ s with U:=if c=0 then s.U.set m { t with way:=t.way ++ [l] } else s.U,lanes:=s.lanes.set l (dR ln m c t.len) }
inductive kZ(K:Frag)(ys:Ys)(vs:List V)(H:Hp)(Q:VK)(E:XK):Prop
 | mk (a:YA) (s:YS) (v:V) (m:Nat) (c:Int) (l:Nat) (t:ck) (ln:bT) (_:vs=[.ref a.y,v, .int l]) (_:B8 K ys H a s) (_:yi H v ((m:Int),c)) (_:s.U[m]? = some t) (_:s.lanes[l]? = some ln) (_:cp ln.r ln.h m c=true) (_:t.way.length <= 1000) (_:ln.qs.length < 100000) (_:∀H',Be [a.la,a.le] H H'->B8 K ys H' a (cX s m c l t ln)->Q .Bj H')
noncomputable def j9(s:YS)(m:Nat)(t:ck):YS:={ s with U:=s.U.set m { t with gone:=t.gone + 1 } }
inductive tF(K:Frag)(ys:Ys)(vs:List V)(H:Hp)(Q:VK)(E:XK):Prop
 | mk (a:YA) (s:YS) (m l:Nat) (t:ck) (ln:bT) (_:vs=[.ref a.y, .int m, .int l]) (_:B8 K ys H a s) (_:s.U[m]? = some t) (_:s.lanes[l]? = some ln) (_:cp ln.r ln.h m t.gone=true) (_:t.way.length <= 1000) (_:ln.qs.length < 100000) (_:∀H',Be [a.la,a.le] H H'->B8 K ys H' a (cX (j9 s m t) m t.gone l { t with gone:=t.gone + 1 } ln)->Q .Bj H')
structure Own(P:Program)(w:World)(K:Frag)(mg:Str->Option Value)(base:Heap)(ys:Ys)(fl ft fp:Addr)(dl dt dp:FuncData):Prop where
 ml:bG K ys.AS "own_lane" fl
 bl:Binds K dl ["self", "lane"] []
 Gl:AQ P w K mg base aD 4 fl dl ["self", "lane"] (sV K ys)
 mt:bG K ys.AS "own_letter" ft
 bt:Binds K dt ["self", "number"] []
 Gt:AQ P w K mg base aD 4 ft dt ["self", "number"] (sU K ys)
 mp:bG K ys.Bp "put" fp
 bp:Binds K dp ["self", "letter", "count", "last"] []
 Gp:AQ P w K mg base aD 2 fp dp ["self", "letter", "count", "last"] (ym ys.Bp)
abbrev WX:List Str:=["self", "piece", "lane", "last"]
abbrev NGi:List Str:=["self", "number", "lane", "letter"]
theorem Nq:ao WX ["self", "piece", "lane"] (ai oQ):=L2.Bt
theorem uW(F:Bo K "enter" "Yard.enter" oQ f fd)(Y:ig K ys)(O:Own P w K mg base ys fl ft fp dl dt dp) :
  AQ P w K mg base aD 5 f fd ["self", "piece", "lane"] (kZ K ys):=by
 refine F.ok Nq (λ_ _ _ _ h=>?_) (λ_ _ _ s H _ Q E hr h=>?_)
 ·obtain⟨a,s,v,m,c,l,t,ln,rfl,_⟩:=h
  rfl
 ·obtain⟨a,st,v,m,c,l,t,ln,rfl,hY,⟨pt,rfl,DQ⟩,hm,hl,Le,FW,Ig,q⟩:=h
  have Cg:Bc 2 _:=hr.mono (by decide)
  refine⟨_,ae (dO (aM (ap bq (ar aA (pv 1) af (λ_ _=>rfl)) af (ax _))
    (ag (aS (ce plainAttrs_list PySem.F.slot_list_append PySem.F.type_list_append bj (al (aE (pv 0) Y.cl O.mt O.Gt hr O.bt .nil am (aa (ar aA (pv 1) af (λ_ _=>rfl)) ac)) rfl) (aa (pv 2) ac)))) aB))
   (ae (ay (i:=3) Nq.nd rfl (Or.inl rfl) (cb bq (ar aA (pv 1) af (λ_ _=>rfl)) (aw cr (al (ar aF (al (pv 0) rfl) (ar aA (pv 1) af (λ_ _=>rfl)) (λ_ _=>rfl)) rfl) af) (ax _)))
   (ag (aS (aE (aE (pv 0) Y.cl O.ml O.Gl hr O.bl .nil am (aa (pv 2) ac)) Y.L.cl O.mp O.Gp Cg O.bp .nil am (aa (ar aA (pv 1) af (λ_ _=>rfl)) (aa (ar aA (pv 1) af (λ_ _=>rfl)) (aa (pv 3) ac))))))),?_⟩
  refine⟨λσ' H'=>σ' = start WX [.ref a.y, .ref pt, .int l]/\Be [a.le] H H'/\∃t1:ck,t1.len=t.len/\B8 K ys H' a { st with U:=if c=0 then st.U.set m { t with way:=t.way ++ [l] } else st.U }/\(if c=0 then st.U.set m { t with way:=t.way ++ [l] } else st.U)[m]? = some t1,?_,?_⟩
  ·refine⟨_,rfl,pt,_,1,_,rfl,rfl,AZ.of DQ,ak (j:=1) rfl,rfl,_,rfl,?_⟩
   rw[bB]
   by_cases hc:c=0
   ·rw[decide_eq_true hc]
    obtain⟨AY,BZ,pl⟩:=hY.hle
    refine aH ⟨_,rfl,a.y,a.dy,_,rfl,hY.ins,rfl,_,rfl,pt,_,0,_,rfl,rfl,AZ.of DQ,ak (j:=0) rfl,a,st,m,t,AY,rfl,hY,hm,BZ,λx dx wa H1 o1 nx nw g1 Cf Gd=>?_⟩
    refine⟨x,ys.AR,dx,_,_,rfl,Cf,Y.ct,Y.t6,rfl, .inl ⟨rfl,_,AV.of Gd⟩,_,rfl,wa,_,_,rfl,rfl,Gd,by rw[dA,sizeLine_eq];omega,?_⟩
    have nxw:x ≠ wa:=b7 Cf Gd (by intro z;cases z)
    have nlw:a.le ≠ wa:=aj BZ nw
    have o2:Be [a.le] H (upd H1 wa (.lst (nV t.way ++ [.int l]))):=λb o nb e=>by rw[ah (aj e nw)];exact o1 b o nb e
    have DO:=B8.FE hY BZ o2 (k:=m) (x:=x) (dx:=dx) (wa:=wa) (by rw[ah nlw];exact g1) (t:={ t with way:=t.way ++ [l] }) (by rw[ah nxw];exact Cf) (by rw[ad,vc];rfl) nw
    have IC:m < st.U.length:=(gQ0 hm)
    refine⟨rfl,o2,{ t with way:=t.way ++ [l] },rfl,?_,?_⟩
    ·rw[if_pos hc];exact DO
    ·rw[if_pos hc];simp[IC]
   ·rw[decide_eq_false hc]
    refine aG ⟨rfl,AO.By (AO.refl H),t,rfl,?_,?_⟩
    ·rw[if_neg hc];exact hY
    ·rw[if_neg hc];exact hm
  ·rintro σ' H1 ⟨rfl,o1,t1,hlen,Dc,hm1⟩
   have Hn:H1 pt=some (.tup [.int m, .int c]):=by
    obtain⟨AY,BZ,_⟩:=hY.hle
    exact o1 _ _ (by simp;exact b7 DQ BZ (by intro z;cases z)) DQ
   obtain⟨S6,S7,S8⟩:=Dc.hle
   obtain⟨v1,hv1,x1,dx1,wa1,rfl,Cf,_⟩:=Paired.at2 S8 hm1
   refine⟨_,rfl,pt,_,1,_,rfl,rfl,AZ.of Hn,ak (j:=1) rfl,_,rfl,a.y,ys.AS,a.dy,_,_,rfl,Dc.ins,Y.cl,Y.n4,rfl,_,rfl,pt,_,0,_,rfl,rfl,AZ.of Hn,ak (j:=0) rfl,a.le,S6,(m:Int),_,rfl,rfl,AV.of S7,ak hv1,x1,ys.AR,dx1,_,_,rfl,Cf,Y.ct,Y.t3,rfl,_,_,rfl,rfl,rfl,?_⟩
   obtain⟨AX,BH,Fp⟩:=Dc.BV
   refine⟨_,rfl,a.y,a.dy,_,rfl,Dc.ins,rfl,_,rfl,a,_,l,ln,AX,rfl,Dc,hl,BH,λx dx pa Bf H2 o2 nx np g2 CL=>?_⟩
   have FF:H2 pt=some (.tup [.int m, .int c]):=o2 _ _ (by simp;exact b7 Hn BH (by intro z;cases z)) Hn
   have Cz:Bf.length=ln.qs.length:=Paired.length CL.BL
   refine⟨x,dx,_,rfl,CL.ins,rfl,_,rfl,pt,_,0,_,rfl,rfl,AZ.of FF,ak (j:=0) rfl,_,rfl,pt,_,1,_,rfl,rfl,AZ.of FF,ak (j:=1) rfl,_,rfl,x,dx,pa,ln.r,ln.b,ln.h,Bf,ln.qs,(m:Int),c,decide (c=t.len - 1),?_,CL,by omega,(λho=>by rw[Le]at ho;cases ho),λ_ t3 H3 o3 Dq=>?_⟩
   ·rw[bB,hlen];rfl
   have nxl:a.la ≠ x:=aj BH nx
   have npl:a.la ≠ pa:=aj BH np
   have o4:Be [a.la] H1 H3:=λb o nb e=>o3 b o (aj e nx) (aj e np) (o2 b o nb e)
   have DP:=B8.Ds Dc BH o4 (k:=l) (x:=x) (dx:=dx) (pa:=pa) (o3 _ _ nxl npl g2) (ln:=dR ln m c t.len) Dq np
   exact q H3 ((o1.mono (by simp)).trans (o4.mono (by simp))) DP
theorem Nr:ao NGi ["self", "number", "lane"] (ai uh):=L2.Bt
theorem xr(F:Bo K "go_in" "Yard.go_in" uh f fd)(Y:ig K ys)(O:Own P w K mg base ys fl ft fp dl dt dp)(me:bG K ys.AS "enter" fe)(be:Binds K de ["self", "piece", "lane"] [])(Ge:AQ P w K mg base aD 5 fe de ["self", "piece", "lane"] (kZ K ys)) :
  AQ P w K mg base aD 6 f fd ["self", "number", "lane"] (tF K ys):=by
 refine F.ok Nr (λ_ _ _ _ h=>?_) (λ_ _ _ s H _ Q E hr h=>?_)
 ·obtain⟨a,s,m,l,t,ln,rfl,_⟩:=h
  rfl
 ·obtain⟨a,st,m,l,t,ln,rfl,hY,hm,hl,Le,FW,Ig,q⟩:=h
  have Dk:Bc 4 _:=hr.mono (by decide)
  refine⟨_,ae (ay (i:=3) Nr.nd rfl (Or.inl rfl) (aE (pv 0) Y.cl O.mt O.Gt Dk O.bt .nil am (aa (pv 1) ac)))
   (ae (ed (pv 3) af lD)
   (ag (aS (aE (pv 0) Y.cl me Ge hr be .nil am (aa (aK (aa (pv 1) (aa (aw cr (al (pv 3) rfl) af) ac))) (aa (pv 2) ac)))))),?_⟩
  obtain⟨AY,BZ,pl⟩:=hY.hle
  refine⟨_,rfl,a.y,a.dy,_,rfl,hY.ins,rfl,_,rfl,a,st,m,t,AY,rfl,hY,hm,BZ,λx dx wa H1 o1 nx nw g1 Cf Gd=>?_⟩
  refine⟨_,rfl,x,ys.AR,dx,_,_,rfl,Cf,Y.ct,Y.t5,rfl,_,_,rfl,rfl,dx,_,Cf,by show 6 < 1000;decide,?_⟩
  have nlx:a.le ≠ x:=aj BZ nx
  have Hd:wa ≠ x:=b7 Gd Cf (by intro z;cases z)
  have o2:Be [a.le] H (upd H1 x (.ins ys.AR dx (aR "gone" (.int (t.gone + 1)) (pi t wa)))):=λb o nb e=>by rw[ah (aj e nx)];exact o1 b o nb e
  have Fg:(upd H1 x (.ins ys.AR dx (aR "gone" (.int (t.gone + 1)) (pi t wa)))) x=some (.ins ys.AR dx (pi { t with gone:=t.gone + 1 } wa)):=ad
  have DO:=B8.FE hY BZ o2 (k:=m) (x:=x) (dx:=dx) (wa:=wa) (by rw[ah nlx];exact g1) (t:={ t with gone:=t.gone + 1 }) Fg (by rw[ah Hd];exact Gd) nw
  show _
  generalize upd H1 x (.ins ys.AR dx (aR "gone" (.int (t.gone + 1)) (pi t wa)))=H2 at o2 Fg DO ⊢
  refine⟨_,rfl,a.y,a.dy,_,rfl,DO.ins,rfl,_,rfl,_,rfl,x,ys.AR,dx,_,_,rfl,Fg,Y.ct,Y.t5,rfl,_,_,rfl,rfl,by show 2 <= sizeLine;decide,λpt DQ=>?_⟩
  have eg:t.gone + 1 - 1=t.gone:=by omega
  have s3:=(AO.refl H2).new (o := .tup [.int m, .int t.gone]) DQ
  have g3:(upd H2 pt (.tup [.int m, .int t.gone])) pt=some (.tup [.int m, .int t.gone]):=ad
  dsimp only
  rw[eg]
  generalize upd H2 pt (.tup [.int m, .int t.gone])=H3 at s3 g3 ⊢
  have IC:m < st.U.length:=(gQ0 hm)
  refine⟨_,rfl,a,j9 st m t,_,m,t.gone,l,{ t with gone:=t.gone + 1 },ln,rfl,Ba.same DO s3,⟨pt,rfl,g3⟩,by unfold j9;simp[IC],hl,Le,FW,Ig,λH' o' Jv=>?_⟩
  exact q H' ((o2.mono (by simp)).trans ((AO.By s3).trans o')) Jv
theorem Ay(us:List Nat)(i:Nat):iF (nV us) none (some (i:Int))=nV (us.take i):=by
 unfold iF
 have e0:HT.CP (nV us).length 0 none=0:=rfl
 rw[e0,show HT.CP (nV us).length (nV us).length (some (i:Int))=min i (nV us).length from HT.C8 _ _ i,List.drop_zero,Nat.sub_zero]
 unfold nV
 rw[map_take,length_map]
 refine List.ext_getElem? λj=>?_
 simp only[List.getElem?_take,getElem?_map]
 by_cases h1:j < i
 ·by_cases h2:j < us.length
  ·rw[if_pos (by omega),if_pos h1]
  ·rw[if_neg (by omega),if_pos h1,List.getElem?_eq_none (by omega)];rfl
 ·rw[if_neg (by omega),if_neg h1]
theorem xS(us:List Nat)(i:Nat):iF (nV us) (some (i:Int)) (some ((i:Int) + 1))=nV ((us.drop i).take 1):=by
 unfold iF
 rw[show HT.CP (nV us).length 0 (some (i:Int))=min i (nV us).length from HT.C8 _ _ i,show((i:Int) + 1)=((i + 1:Nat):Int) by omega,show HT.CP (nV us).length (nV us).length (some ((i + 1:Nat):Int))=min (i + 1) (nV us).length from HT.C8 _ _ (i + 1),dA]
 by_cases h:i < us.length
 ·rw[min_eq_left (by omega),min_eq_left (by omega),show i + 1 - i=1 by omega]
  unfold nV
  rw[map_take,List.map_drop]
 ·rw[min_eq_right (by omega),min_eq_right (by omega),Nat.sub_self,List.take_zero,List.drop_eq_nil_of_le (by omega)];rfl
theorem j1(us:List Nat):nV us=(iz us).map V.int:=(xE us).symm
theorem p6(k:Nat):∀us:List Nat,(iz us).idxOf (k:Int)=us.idxOf k
 | []=>rfl
 | u :: us=>by
  have ih:=p6 k us
  unfold iz at ih ⊢
  rw[map_cons,List.idxOf_cons,List.idxOf_cons,ih]
  by_cases h:u=k
  ·subst h;simp
  ·have h':((u:Int) == (k:Int))=false:=by simp;omega
   have h2:(u == k)=false:=by simp;exact h
   rw[h',h2]
inductive Mv
 | Cd (k l:Nat) | on (k l:Nat) | CU (k:Nat) | back (k:Nat)
noncomputable def dv:Mv->List V
 | .Cd k l=>[.str "in", .int k, .int l]
 | .on k l=>[.str "on", .int k, .int l]
 | .CU k=>[.str "lie", .int k]
 | .back k=>[.str "back", .int k]
noncomputable def cS(s:YS)(l:Nat)(m c:Int):Bool:=match s.lanes[l]? with
 | some ln=>cp ln.r ln.h m c
 | none=>false
noncomputable def bU(s:YS)(k:Nat):Option (Int × Int):=match s.lanes[k]? with
 | some ln=>ln.qs.head?
 | none=>none
noncomputable def nN(a:YA)(l g:Nat):List Nat:=if (a.ps.getD l (0,0)).2=(g:Int) then [] else a.wy (a.ps.getD l (0,0)).2.toNat g (some l)
noncomputable def c5(a:YA)(s:YS)(k:Nat):List Nat:=match bU s k with
 | none=>[]
 | some q=>match s.U[q.1.toNat]? with
  | none=>[]
  | some t=>if q.2=0 then (nN a k t.goal.toNat).filter λl=>!decide (l ∈ t.way) else (t.way.drop (t.way.idxOf k + 1)).take 1
noncomputable def bY(a:YA)(t:ck):List Nat:=if t.gone=0 then a.wy t.start.toNat t.goal.toNat none else t.way.take 1
noncomputable def dE(a:YA)(s:YS)(k:Nat):List Mv:=match s.U[k]? with
 | none=>[]
 | some t=>if t.gone=t.len then [] else ((bY a t).filter λl=>cS s l k t.gone).map (Mv.Cd k)
noncomputable def e8(a:YA)(s:YS)(k:Nat):List Mv:=match bU s k with
 | none=>[]
 | some q=>((c5 a s k).filter λl=>cS s l q.1 q.2).map (Mv.on k)
noncomputable def cU(a:YA)(s:YS)(k:Nat):List Mv:=match bU s k with
 | none=>[]
 | some q=>match s.U[q.1.toNat]? with
  | none=>[]
  | some t=>if t.goal=(a.ps.getD k (0,0)).2 then [.CU k] else []
noncomputable def bL(s:YS)(k:Nat):List Mv:=match s.lanes[k]? with
 | some ln=>if 0 < ln.b then [.back k] else []
 | none=>[]
structure Ko(a:YA):Prop where
 ends:∀(l:Nat)(pr:Int × Int),a.ps[l]? = some pr->∃e:Nat,pr.2=(e:Int)/\e < a.n
 B9:∀p g k,(a.wy p g k).length <= 400
structure S9(a:YA)(s:YS):Prop where
 lanes:s.lanes.length=a.ps.length
 lies:s.lies.length=a.n
 lets:∀(m:Nat)(t:ck),s.U[m]? = some t->∃x y:Nat,t.start=(x:Int)/\t.goal=(y:Int)/\x < a.n/\y < a.n
 BF:∀(m:Nat)(t:ck),s.U[m]? = some t->(∀l ∈ t.way,l < a.ps.length)/\t.way.length <= 1000
 BL:∀(k:Nat)(ln:bT),s.lanes[k]? = some ln->∀q ∈ ln.qs,∃(m:Nat)(t:ck),q.1=(m:Int)/\s.U[m]? = some t/\k ∈ t.way
 B9:s.U.length <= 60
structure DY(K:Frag)(c:Cs)(TC:Addr)(J:TJ)(ys:Ys)(H:Hp)(a:YA)(s:YS):Prop where
 Y:B8 K ys H a s
 T:yb c TC J H a
 O:Ko a
 G:S9 a s
theorem DY.same(W:Wy K TC fw dw J)(h:DY K c TC J ys H a s)(e:AO H H'):DY K c TC J ys H' a s:=⟨Ba.same h.Y e,BK.keep W h.T (AO.Bl e),h.O,h.G⟩
inductive pU(K:Frag)(c:Cs)(TC:Addr)(J:TJ)(ys:Ys)(f:YA->YS->Nat->List Mv)(len:YS->Nat)(vs:List V)(H:Hp)(Q:VK)(E:XK):Prop
 | mk (a:YA) (s:YS) (k:Nat) (_:vs=[.ref a.y, .int k]) (_:DY K c TC J ys H a s) (_:k < len s) (_:∀(D:Addr)(Bk:List V)(H':Hp),AO H H'->H D=none->H' D=some (.lst Bk)->Paired (BB H') Bk ((f a s k).map dv)->Q (.ref D) H')
def ot(K:Frag)(c:Cs)(TC:Addr)(J:TJ)(ys:Ys):Sp:=pU K c TC J ys dE (λs=>s.U.length)
def oq(K:Frag)(c:Cs)(TC:Addr)(J:TJ)(ys:Ys):Sp:=pU K c TC J ys e8 (λs=>s.lanes.length)
def kX(K:Frag)(c:Cs)(TC:Addr)(J:TJ)(ys:Ys):Sp:=pU K c TC J ys cU (λs=>s.lanes.length)
def jg(K:Frag)(c:Cs)(TC:Addr)(J:TJ)(ys:Ys):Sp:=pU K c TC J ys (λ_ s k=>bL s k) (λs=>s.lanes.length)
inductive jf(K:Frag)(c:Cs)(TC:Addr)(J:TJ)(ys:Ys)(vs:List V)(H:Hp)(Q:VK)(E:XK):Prop
 | mk (a:YA) (s:YS) (k:Nat) (_:vs=[.ref a.y, .int k]) (_:DY K c TC J ys H a s) (_:k < s.lanes.length) (_:∀(D:Addr)(H':Hp),AO H H'->H D=none->H' D=some (.lst (nV (c5 a s k)))->Q (.ref D) H')
inductive sW(c:Cs)(C:Addr)(J:TJ)(vs:List V)(H:Hp)(Q:VK)(E:XK):Prop
 | mk (a:YA) (l g:Nat) (_:vs=[.ref a.tb, .int l, .int g]) (_:yb c C J H a) (_:Ko a) (_:l < a.ps.length) (_:g < a.n) (_:∀(D:Addr)(H':Hp),AO H H'->H D=none->H' D=some (.lst (nV (nN a l g)))->Q (.ref D) H')
theorem lK(b:Nat->Bool)(f:Nat->Mv)(hn:us.length < sizeLine)(ha:H p=some (.lst (nV us)))
  (hs:∀(u:Nat)(H1:Hp)(acc:List V)(N:List V->Hp->Prop),u ∈ us->AO H H1->(b u=true->∀v H2,AO H1 H2->BB H2 v (dv (f u))->N (acc ++ [v]) H2)->(b u=false->N acc H1) ->
   g (.int u) σ0 H1 λσ2 H2=>tt σ2 H2 λb H3=>if b=true then te σ2 H3 λy H4=>N (acc ++ [y]) H4 else N acc H3)
  (hq:∀D vs H1,AO H H1->H1 D=none->Paired (BB H1) vs (((us.filter b).map f).map dv)->Q (.ref D) (upd H1 D (.lst vs))):dC (vZ K p) g tt te σ0 Q H:=by
 refine bN us.length hn (λi acc H'=>AO H H'/\Paired (BB H') acc ((((us.take i).filter b).map f).map dv)) ⟨AO.refl _, .nil⟩ (λi acc H' h=>by
   rw[Paired.length h.2,length_map,length_map]
   have h1:=length_filter_le b (us.take i)
   have h2:=length_take_le i us
   omega) (λi acc H' hi h=>?_) (λacc H' h=>?_)
 ·obtain⟨s,hL⟩:=h
  have hu:us[i]? = some us[i]:=getElem?_eq_getElem hi
  refine⟨⟨_,_,AV.of (s _ _ ha),l8 hu⟩,λv H2 y=>?_⟩
  obtain⟨rfl,y⟩:=y
  have hv:=y _ (AV.of (s _ _ ha))
  rw[l8 hu]at hv
  cases hv
  refine hs us[i] H2 acc (λBx H4=>AO H H4/\Paired (BB H4) Bx ((((us.take (i + 1)).filter b).map f).map dv)) (getElem_mem hi) s (λhb v H3 s3 hv=>⟨s.trans s3,?_⟩) (λhb=>⟨s,?_⟩)
  ·rw[take_succ,hu,filter_append]
   have e:(some us[i]).toList.filter b=[us[i]]:=by simp[hb]
   rw[e,map_append,map_append]
   exact Paired.snoc hv (Paired.mono (λ_ _ z=>z.keep (AO.Bl s3)) hL)
  ·rw[take_succ,hu,filter_append]
   have e:(some us[i]).toList.filter b=[]:=by simp[hb]
   rw[e,append_nil]
   exact hL
 ·obtain⟨s,hL⟩:=h
  rw[take_length]at hL
  exact⟨⟨_,AV.of (s _ _ ha),by rw[dA];exact le_refl _⟩,λD hD=>hq D acc H' s hD hL⟩
noncomputable def wE(s:Stmt):Scope:=match s with
 | .Return (some (.ListComp _ _ sc _)) _=>sc
 | _=>zQ0
noncomputable def Ar(s:Stmt):Scope:=match s with
 | .If _ [s'] _ _=>wE s'
 | _=>zQ0
abbrev WY:List Str:=["self", "number", "letter", "wanted"]
abbrev WZ:List Str:=["self", "lane", "piece", "letter", "behind"]
abbrev Xa:List Str:=["self", "lane", "piece", "wanted"]
theorem Jw:ao WY ["self", "number"] (ai mj):=L2.Bt
theorem SA:BG WY (ai mj) (wE ((aJ mj).getD 3 (.Pass ⟨0,0,0,0⟩))) ["self", "number", "letter"] [0,1,2]:=L2.Co
theorem SD:(["lane", "self", "number", "letter"]:List Str).Nodup:=by decide +kernel
theorem xk(F:Bo K "moves_in" "Yard.moves_in" mj f fd)(Y:ig K ys)(W:Wy K TC fw dw J)(Jm:AQ P w K mg base aD 3 fw dw ["self", "place", "goal", "came"] (dj J))
  (mo:bG K ys.Bp "open_to" fo) (bo:Binds K Dz ["self", "letter", "count"] []) (Go:AQ P w K mg base aD 1 fo Dz ["self", "letter", "count"] (kW ys.Bp)) :
  AQ P w K mg base aD 4 f fd ["self", "number"] (ot K c TC J ys):=by
 refine F.ok Jw (λ_ _ _ _ h=>?_) (λ_ _ _ s H _ Q E hr h=>?_)
 ·obtain⟨a,s,k,rfl,_⟩:=h
  rfl
 ·obtain⟨a,st,k,rfl,hI,hk,q⟩:=h
  have B0:Bc 1 _:=hr.mono (by decide)
  refine⟨_,ae (ay (i:=2) Jw.nd rfl (Or.inr rfl) (ar aF (al (pv 0) rfl) (pv 1) (λ_ _=>rfl)))
   (ae (aM (ap bq (al (pv 2) rfl) (al (pv 2) rfl) (ax _)) (ag (aq (aP ac))) aB)
   (ae (ay (i:=3) Jw.nd rfl (Or.inl rfl) (ly (cP (ap bq (al (pv 2) rfl) af (ax _)) (aE (al (pv 0) rfl) W.cl W.m Jm hr W.b .nil am (aa (al (pv 2) rfl) (aa (al (pv 2) rfl) (aa cM ac)))) (jt lg (al (pv 2) rfl) qi (iN af)))))
   (ag (aq (bd (own:=["lane"]) (capN:=["self", "number", "letter"]) (cap:=[0,1,2]) SA rfl (bF (pv 3)) (λC s' H' fp=>⟨au (i:=0) SD rfl (Or.inl rfl),bQ (bE (aE (ar (show kR _ (qZ K) from aF) (show PE _ _ (sJ K (jO 1) "lanes") from al (pv 1) rfl) (pv 0) (λ_ _=>rfl)) Y.L.cl mo Go B0 bo .nil am (aa (pv 2) (aa (show PE _ _ (sJ K (jO 3) "gone") from al (pv 3) rfl) ac)))),aK (aa aO (aa (pv 2) (aa (pv 0) ac)))⟩)))))),?_⟩
  have hY:=hI.Y
  obtain⟨AY,BZ,pl⟩:=hY.hle
  obtain⟨t,ht⟩:∃t,st.U[k]? = some t:=⟨_,getElem?_eq_getElem hk⟩
  obtain⟨v,hv,x,dx,wa,rfl,hx,hw,_⟩:=Paired.at2 pl ht
  obtain⟨x0,y0,e1,e2,Kp,Gj⟩:=hI.G.lets k t ht
  obtain⟨FW,Xb⟩:=hI.G.BF k t ht
  unfold dE at q
  rw[ht]at q
  refine⟨_,rfl,a.y,ys.AS,a.dy,_,_,rfl,hY.ins,Y.cl,Y.n4,rfl,_,rfl,a.le,AY,(k:Int),_,rfl,rfl,AV.of BZ,ak hv,?_⟩
  refine⟨_,rfl,x,ys.AR,dx,_,_,rfl,hx,Y.ct,Y.t5,rfl,_,rfl,x,ys.AR,dx,_,_,rfl,hx,Y.ct,Y.t3,rfl,rfl,_,rfl,?_⟩
  rw[bB]
  by_cases hg:t.gone=t.len
  ·rw[decide_eq_true hg]
   dsimp only at q
   rw[if_pos hg]at q
   exact aH ⟨zero_le _,λD hD=>q D [] _ ((AO.refl H).new hD) hD ad .nil⟩
  rw[decide_eq_false hg]
  dsimp only at q
  rw[if_neg hg]at q
  refine aG ⟨λv H1=>∃D,v = .ref D/\AO H H1/\H1 D=some (.lst (nV (bY a t))),?_,?_⟩
  ·refine⟨_,rfl,x,ys.AR,dx,_,_,rfl,hx,Y.ct,Y.t5,rfl,rfl,_,rfl,?_⟩
   rw[bB]
   unfold bY
   by_cases h0:t.gone=0
   ·rw[decide_eq_true h0,if_pos h0]
    obtain⟨Cc,fst,BY,Br,BA⟩:=hI.T.i
    refine aH ⟨_,rfl,a.y,ys.AS,a.dy,_,_,rfl,hY.ins,Y.cl,Y.n1,rfl,a.tb,Cc,fst,rfl,BY,BA,_,rfl,x,ys.AR,dx,_,_,rfl,hx,Y.ct,Y.t1,rfl,_,rfl,x,ys.AR,dx,_,_,rfl,hx,Y.ct,Y.t2,rfl,?_⟩
    rw[e1,e2,toNat_natCast,toNat_natCast]
    exact⟨a.tb,a.n,a.wy,x0,y0,none,rfl,hI.T.j,Kp,Gj,λD H1 s1 hD gD=>⟨D,rfl,s1,gD⟩⟩
   ·rw[decide_eq_false h0,if_neg h0]
    refine aG ⟨_,rfl,x,ys.AR,dx,_,_,rfl,hx,Y.ct,Y.t6,rfl,_,rfl,wa,_,rfl,AV.of hw,λD hD=>⟨D,rfl,(AO.refl H).new hD,?_⟩⟩
    rw[ad,show((1:Int))=((1:Nat):Int) from rfl,Ay]
  rintro v H1 ⟨D,rfl,s1,gD⟩
  have EV:=hI.same W s1
  have Dc:=EV.Y
  have Cf:=s1 _ _ hx
  obtain⟨AX,BH,Fp⟩:=Dc.BV
  have hfl:(bY a t).length <= 1000:=by
   unfold bY
   by_cases h0:t.gone=0
   ·rw[if_pos h0];exact le_trans (hI.O.B9 _ _ _) (by decide)
   ·rw[if_neg h0];rw[length_take];omega
  have Nt:∀u ∈ bY a t,u < a.ps.length:=λu hu=>by
   unfold bY at hu
   by_cases h0:t.gone=0
   ·rw[if_pos h0,e1,e2,toNat_natCast,toNat_natCast]at hu;exact hI.T.ok _ _ _ Kp Gj u hu
   ·rw[if_neg h0]at hu;exact FW u (mem_of_mem_take hu)
  refine⟨_,rfl,D,rfl,⟨_,AV.of gD⟩,?_⟩
  refine lK (λl=>cS st l k t.gone) (Mv.Cd k) (by rw[sizeLine_eq];omega) gD (λu H2 acc N hu s2 Ho HZ=>?_) (λD2 FY H2 s2 CB hp=>?_)
  ·have DR:=EV.same W s2
   obtain⟨Jx,Jy,Jz⟩:=DR.Y.BV
   have SE:u < st.lanes.length:=by rw[hI.G.lanes];exact Nt u hu
   obtain⟨ln,Bs⟩:∃ln,st.lanes[u]? = some ln:=⟨_,getElem?_eq_getElem SE⟩
   obtain⟨vl,DS,xl,C6,ID,J0,rfl,hL,_⟩:=Paired.at2 Jz Bs
   refine⟨_,rfl,a.y,ys.AS,a.dy,_,_,rfl,DR.Y.ins,Y.cl,Y.n3,rfl,_,rfl,a.la,Jx,(u:Int),_,rfl,rfl,AV.of Jy,ak DS,xl,C6,_,rfl,hL.ins,rfl,_,rfl,_,rfl,x,ys.AR,dx,_,_,rfl,s2 _ _ Cf,Y.ct,Y.t5,rfl,xl,C6,ID,ln.r,ln.b,ln.h,(k:Int),t.gone,rfl,hL.ins,_,rfl,?_⟩
   have eo:cS st u k t.gone=cp ln.r ln.h k t.gone:=by unfold cS;rw[Bs]
   cases ho:cp ln.r ln.h k t.gone with
   | false=>exact aG (HZ (by rw[eo,ho]))
   | true=>exact aH ⟨_,rfl,_,rfl,by show 3 <= sizeLine;decide,λz hz=>Ho (by rw[eo,ho]) _ _ ((AO.refl H2).new hz) ⟨z,rfl,ad⟩⟩
  ·exact q D2 FY _ ((s1.trans s2).new CB) (s1.free (s2.free CB)) ad (Paired.mono (λ_ _ z=>z.keep (AO.Bl ((AO.refl H2).new CB))) hp)
theorem jC(h:Bi H Bf qs):(qs.head? = none/\p7 Bf = .Bj)∨∃q pt,qs.head? = some q/\p7 Bf = .ref pt/\H pt=some (.tup [.int q.1, .int q.2]):=by
 cases h with
 | nil=>exact .inl ⟨rfl,rfl⟩
 | cons x r=>obtain⟨t,rfl,ht⟩:=x;exact .inr ⟨_,t,rfl,rfl,ht⟩
theorem Nu:ao ["table", "lane", "goal", "end"] ["table", "lane", "goal"] (ai RY):=L2.Bt
theorem zM(F:Bo K "onward" "onward" RY f fd)(L:jK K c)(W:Wy K C fw dw J)(Gw:AQ P w K mg base aD 3 fw dw ["self", "place", "goal", "came"] (dj J))
  (M:sk K c fe de) (Ge:AQ P w K mg base aD 1 fe de ["self", "lane"] (lc c Prod.snd)):AQ P w K mg base aD 4 f fd ["table", "lane", "goal"] (sW c C J):=by
 refine F.ok Nu (λ_ _ _ _ h=>?_) (λ_ _ _ s H _ Q E hr h=>?_)
 ·obtain⟨a,l,g,rfl,_⟩:=h
  rfl
 ·obtain⟨a,l,g,rfl,hT,hO,hl,hg,q⟩:=h
  have B0:Bc 1 _:=hr.mono (by decide)
  refine⟨_,ae (ay (i:=3) Nu.nd rfl (Or.inl rfl) (aE (al (pv 0) rfl) L.cl M.m Ge B0 M.b .nil am (aa (pv 1) ac)))
   (ag (aq (cP (ap bq (pv 3) (pv 2) (ax _)) (aP ac) (aE (pv 0) W.cl W.m Gw hr W.b .nil am (aa (pv 3) (aa (pv 2) (aa (pv 1) ac))))))),?_⟩
  obtain⟨dx,fs,hx,hf,hw'⟩:=hT.i
  have he:=getElem?_eq_getElem hl
  have E7:a.ps.getD l (0,0)=a.ps[l]:=by rw[getD_eq_getElem?_getD,he];rfl
  unfold nN at q
  rw[E7]at q
  obtain⟨e,ee,Nv⟩:=hO.ends l _ he
  refine⟨_,rfl,a.tb,C,dx,fs,_,rfl,hx,W.cl,W.nl,hf,a.lx,a.Bh,_,rfl,hT.l.1,rfl,_,rfl,a.lx,a.Bh,a.lt,(a.n:Int),a.AY,a.ps,l,_,rfl,hT.l,he,?_⟩
  rw[ee]at q ⊢
  rw[toNat_natCast]at q
  refine⟨_,rfl,_,rfl,rfl,_,rfl,?_⟩
  rw[bB]
  by_cases h1:(e:Int)=(g:Int)
  ·rw[decide_eq_true h1]
   rw[if_pos h1]at q
   exact aH ⟨zero_le _,λD hD=>q D _ ((AO.refl H).new hD) hD ad⟩
  ·rw[decide_eq_false h1]
   rw[if_neg h1]at q
   exact aG ⟨_,rfl,a.tb,dx,fs,rfl,hx,hw',_,rfl,_,rfl,_,rfl,a.tb,a.n,a.wy,e,g,some l,rfl,hT.j,Nv,hg,λD H' s' hD gD=>q D _ s' hD gD⟩
theorem Hq:ao WZ ["self", "lane"] (ai gF):=L2.Bt
theorem SF:BG WZ (ai gF) (Ar ((aJ gF).getD 3 (.Pass ⟨0,0,0,0⟩))) ["letter"] [3]:=L2.Co
theorem SG:(["way", "letter"]:List Str).Nodup:=by decide +kernel
theorem r8(F:Bo K "wanted" "Yard.wanted" gF f fd)(Y:ig K ys)(W:Wy K TC fw dw J)
  (mf:bG K ys.Bp "front" ff) (bf:Binds K df ["self"] []) (Gf:AQ P w K mg base aD 1 ff df ["self"] (iK ys.Bp))
  (mo:mg "onward" = some (.ref fo)) (ko:keepIn K (.ref fo)=true) (bo:Binds K Dz ["table", "lane", "goal"] []) (Go:AQ P w K mg base aD 4 fo Dz ["table", "lane", "goal"] (sW c TC J)) :
  AQ P w K mg base aD 5 f fd ["self", "lane"] (jf K c TC J ys):=by
 refine F.ok Hq (λ_ _ _ _ h=>?_) (λ_ _ _ s H _ Q E hr h=>?_)
 ·obtain⟨a,s,k,rfl,_⟩:=h
  rfl
 ·obtain⟨a,st,k,rfl,hI,hk,q⟩:=h
  have B0:Bc 1 _:=hr.mono (by decide)
  refine⟨_,ae (ay (i:=2) Hq.nd rfl (Or.inl rfl) (bM (ar aF (al (pv 0) rfl) (pv 1) (λ_ _=>rfl)) Y.L.cl mf Gf B0 bf .nil am))
   (ae (aM (ap jx (pv 2) cM (ax _)) (ag (aq (aP ac))) aB)
   (ae (ay (i:=3) Hq.nd rfl (Or.inr rfl) (ar aF (al (pv 0) rfl) (ar aA (pv 2) af (λ_ _=>rfl)) (λ_ _=>rfl)))
   (ae (aM (ap bq (ar aA (pv 2) af (λ_ _=>rfl)) af (ax _))
    (ag (aq (bd (own:=["way"]) (capN:=["letter"]) (cap:=[3]) SF rfl (bF (az Go hr rfl mo ko bo .nil am (aa (al (pv 0) rfl) (aa (pv 1) (aa (al (pv 3) rfl) ac))))) (λC s' H' fp=>⟨au (i:=0) SG rfl (Or.inl rfl),bQ (ap (show eO _ (compareOp .NotIn) (Pg K true) from gN) (pv 0) (show PE _ _ (sJ K (jO 1) "way") from al (pv 1) rfl) (by with_unfolding_all rfl)),pv 0⟩)))) aB)
   (ae (ay (i:=4) Hq.nd rfl (Or.inl rfl) (aw bv (ce plainAttrs_list slot_list_index PySem.F.type_list_index k4 (al (pv 3) rfl) (aa (pv 1) ac)) af))
   (ag (aq (jt lg (al (pv 3) rfl) (iN (pv 4)) (iN (aw bv (pv 4) af))))))))),?_⟩
  have hY:=hI.Y
  obtain⟨AX,BH,Fp⟩:=hY.BV
  obtain⟨ln,Bs⟩:∃ln,st.lanes[k]? = some ln:=⟨_,getElem?_eq_getElem hk⟩
  obtain⟨vl,DS,xl,C6,ID,J0,rfl,hL,_⟩:=Paired.at2 Fp Bs
  refine⟨_,rfl,a.y,ys.AS,a.dy,_,_,rfl,hY.ins,Y.cl,Y.n3,rfl,_,rfl,a.la,AX,(k:Int),_,rfl,rfl,AV.of BH,ak DS,xl,C6,_,rfl,hL.ins,rfl,xl,C6,ID,ln.r,ln.b,ln.h,J0,ln.qs,rfl,hL,?_⟩
  unfold c5 bU at q
  rw[Bs]at q
  dsimp only at q
  rcases jC hL.BL with ⟨hf,ef⟩ | ⟨pq,pt,hf,ef,DQ⟩
  ·rw[hf]at q
   rw[ef]
   exact⟨_,rfl,rfl,_,rfl,aH ⟨zero_le _,λD hD=>q D _ ((AO.refl H).new hD) hD ad⟩⟩
  rw[hf]at q
  rw[ef]
  have hqm:pq ∈ ln.qs:=mem_of_head? hf
  obtain⟨m,t,em,hm,Fq⟩:=hI.G.BL k ln Bs pq hqm
  obtain⟨x0,y0,e1,e2,Kp,Gj⟩:=hI.G.lets m t hm
  obtain⟨FW,Xb⟩:=hI.G.BF m t hm
  rw[em]at DQ
  dsimp only at q
  rw[em,toNat_natCast,hm]at q
  dsimp only at q
  refine⟨_,rfl,rfl,_,rfl,aG ?_⟩
  obtain⟨AY,BZ,pl⟩:=hY.hle
  obtain⟨v,hv,x,dx,wa,rfl,hx,hw,_⟩:=Paired.at2 pl hm
  refine⟨_,rfl,a.y,ys.AS,a.dy,_,_,rfl,hY.ins,Y.cl,Y.n4,rfl,_,rfl,pt,_,0,_,rfl,rfl,AZ.of DQ,ak (j:=0) rfl,a.le,AY,(m:Int),_,rfl,rfl,AV.of BZ,ak hv,?_⟩
  refine⟨_,rfl,pt,_,1,_,rfl,rfl,AZ.of DQ,ak (j:=1) rfl,rfl,_,rfl,?_⟩
  rw[bB]
  by_cases h0:pq.2=0
  ·rw[decide_eq_true h0]
   rw[if_pos h0,e2,toNat_natCast]at q
   refine aH ⟨_,rfl,a.y,ys.AS,a.dy,_,_,rfl,hY.ins,Y.cl,Y.n1,rfl,_,rfl,_,rfl,x,ys.AR,dx,_,_,rfl,hx,Y.ct,Y.t2,rfl,?_⟩
   rw[e2]
   refine⟨a,k,y0,rfl,hI.T,hI.O,by rw[←hI.G.lanes];exact hk,Gj,λD H1 s1 hD gD=>⟨D,rfl,⟨_,AV.of gD⟩,?_⟩⟩
   have HS:(nN a k y0).length <= 400:=by
    unfold nN
    by_cases z:(a.ps.getD k (0,0)).2=(y0:Int)
    ·rw[if_pos z];exact zero_le _
    ·rw[if_neg z];exact hI.O.B9 _ _ _
   refine eE (λv=>match v with | .int i=>!decide (i ∈ iz t.way) | _=>false) (λv=>v) (by rw[dA,sizeLine_eq];omega) (AV.of gD) (λy acc N hy h=>?_) (λD2 CB=>?_)
   ·obtain⟨u,hu,rfl⟩:=pb hy
    refine⟨_,rfl,_,rfl,x,ys.AR,dx,_,_,rfl,s1 _ _ hx,Y.ct,Y.t6,rfl,wa,_,rfl, .inl (AV.of (s1 _ _ hw)),rfl,by rw[j1];exact fP _,_,rfl,?_⟩
    rw[j1,iT]
    have h:N (if (!decide ((u:Int) ∈ iz t.way))=true then acc ++ [V.int u] else acc) H1:=h
    cases hb:decide ((u:Int) ∈ iz t.way) with
    | true =>
     rw[hb]at h
     exact aG h
    | false =>
     rw[hb]at h
     exact aH ⟨_,rfl,h⟩
   ·have e:((nV (nN a k y0)).filter (λv=>match v with | .int i=>!decide (i ∈ iz t.way) | _=>false)).map (λv=>v)=nV ((nN a k y0).filter λl=>!decide (l ∈ t.way)):=by
     rw[List.map_id']
     unfold nV
     rw[filter_map]
     congr 1
     refine filter_congr λu _=>?_
     show(!decide ((u:Int) ∈ iz t.way))=_
     rw[lC]
    rw[e]
    exact q D2 _ (s1.new CB) (s1.free CB) ad
  ·rw[decide_eq_false h0]
   rw[if_neg h0]at q
   refine aG ⟨_,rfl,x,ys.AR,dx,_,_,rfl,hx,Y.ct,Y.t6,rfl, .inl ⟨rfl,_,AV.of hw⟩,_,rfl,wa,iz t.way,(k:Int),rfl,rfl,by rw[←j1];exact hw,BJ.mpr ⟨k,Fq,rfl⟩,by unfold iz;rw[length_map];omega,_,_,rfl,rfl,?_⟩
   rw[p6]
   refine⟨_,rfl,x,ys.AR,dx,_,_,rfl,hx,Y.ct,Y.t6,rfl,_,rfl,_,rfl,_,rfl,_,_,rfl,rfl,_,rfl,wa,_,rfl,AV.of hw,λD hD=>?_⟩
   have e:iF (nV t.way) (some (((t.way.idxOf k:Nat):Int) + 1)) (some (((t.way.idxOf k:Nat):Int) + 1 + 1))=nV ((t.way.drop (t.way.idxOf k + 1)).take 1):=by
    have:=xS t.way (t.way.idxOf k + 1)
    rw[←this]
    rfl
   dsimp only
   rw[e]
   exact q D _ ((AO.refl H).new hD) hD ad
theorem J6:ao Xa ["self", "lane"] (ai md):=L2.Bt
theorem SH:BG Xa (ai md) (wE ((aJ md).getD 2 (.Pass ⟨0,0,0,0⟩))) ["self", "lane", "piece"] [0,1,2]:=L2.Co
theorem SI:(["other", "self", "lane", "piece"]:List Str).Nodup:=by decide +kernel
theorem xj(F:Bo K "moves_on" "Yard.moves_on" md f fd)(Y:ig K ys)(W:Wy K TC fw dw J)
  (mf:bG K ys.Bp "front" ff) (bf:Binds K df ["self"] []) (Gf:AQ P w K mg base aD 1 ff df ["self"] (iK ys.Bp))
  (ma:bG K ys.AS "wanted" fa) (ba:Binds K da ["self", "lane"] []) (Ga:AQ P w K mg base aD 5 fa da ["self", "lane"] (jf K c TC J ys))
  (mo:bG K ys.Bp "open_to" fo) (bo:Binds K Dz ["self", "letter", "count"] []) (Go:AQ P w K mg base aD 1 fo Dz ["self", "letter", "count"] (kW ys.Bp)) :
  AQ P w K mg base aD 6 f fd ["self", "lane"] (oq K c TC J ys):=by
 refine F.ok J6 (λ_ _ _ _ h=>?_) (λ_ _ _ s H _ Q E hr h=>?_)
 ·obtain⟨a,s,k,rfl,_⟩:=h
  rfl
 ·obtain⟨a,st,k,rfl,hI,hk,q⟩:=h
  have B0:Bc 1 _:=hr.mono (by decide)
  refine⟨_,ae (ay (i:=2) J6.nd rfl (Or.inr rfl) (bM (ar aF (al (pv 0) rfl) (pv 1) (λ_ _=>rfl)) Y.L.cl mf Gf B0 bf .nil am))
   (ae (ay (i:=3) J6.nd rfl (Or.inl rfl) (aE (pv 0) Y.cl ma Ga hr ba .nil am (aa (pv 1) ac)))
   (ag (aq (bd (own:=["other"]) (capN:=["self", "lane", "piece"]) (cap:=[0,1,2]) SH rfl (bF (pv 3)) (λC s' H' fp=>⟨au (i:=0) SI rfl (Or.inl rfl),bQ (bE (aE (ar (show kR _ (qZ K) from aF) (show PE _ _ (sJ K (jO 1) "lanes") from al (pv 1) rfl) (pv 0) (λ_ _=>rfl)) Y.L.cl mo Go B0 bo .nil am (aa (ar (show kR _ (il K) from aA) (pv 3) af (λ_ _=>rfl)) (aa (ar (show kR _ (il K) from aA) (pv 3) af (λ_ _=>rfl)) ac)))),aK (aa aO (aa (pv 2) (aa (pv 0) ac)))⟩))))),?_⟩
  have hY:=hI.Y
  obtain⟨AX,BH,Fp⟩:=hY.BV
  obtain⟨ln,Bs⟩:∃ln,st.lanes[k]? = some ln:=⟨_,getElem?_eq_getElem hk⟩
  obtain⟨vl,DS,xl,C6,ID,J0,rfl,hL,_⟩:=Paired.at2 Fp Bs
  refine⟨_,rfl,a.y,ys.AS,a.dy,_,_,rfl,hY.ins,Y.cl,Y.n3,rfl,_,rfl,a.la,AX,(k:Int),_,rfl,rfl,AV.of BH,ak DS,xl,C6,_,rfl,hL.ins,rfl,xl,C6,ID,ln.r,ln.b,ln.h,J0,ln.qs,rfl,hL,?_⟩
  refine⟨_,rfl,a.y,a.dy,_,rfl,hY.ins,rfl,_,rfl,a,st,k,rfl,hI,hk,λD H1 s1 hD gD=>?_⟩
  refine⟨_,rfl,D,rfl,⟨_,AV.of gD⟩,?_⟩
  have EV:=hI.same W s1
  have eF:bU st k=ln.qs.head?:=by unfold bU;rw[Bs]
  have Nt:∀u ∈ c5 a st k,u < a.ps.length:=λu hu=>by
   unfold c5 at hu
   rw[eF]at hu
   cases hq:ln.qs.head? with
   | none=>rw[hq]at hu;cases hu
   | some pq =>
    rw[hq]at hu
    obtain⟨m,t,em,hm,Fq⟩:=hI.G.BL k ln Bs pq (mem_of_head? hq)
    obtain⟨x0,y0,e1,e2,Kp,Gj⟩:=hI.G.lets m t hm
    dsimp only at hu
    rw[em,toNat_natCast,hm]at hu
    dsimp only at hu
    by_cases h0:pq.2=0
    ·rw[if_pos h0,e2,toNat_natCast]at hu
     have hu:=(mem_filter.mp hu).1
     unfold nN at hu
     by_cases z:(a.ps.getD k (0,0)).2=(y0:Int)
     ·rw[if_pos z]at hu;cases hu
     ·rw[if_neg z]at hu
      have Gq:k < a.ps.length:=by rw[←hI.G.lanes];exact hk
      obtain⟨e,ee,Nv⟩:=hI.O.ends k _ (getElem?_eq_getElem Gq)
      have E7:a.ps.getD k (0,0)=a.ps[k]:=by rw[getD_eq_getElem?_getD,getElem?_eq_getElem Gq];rfl
      rw[E7,ee,toNat_natCast]at hu
      exact hI.T.ok _ _ _ Nv Gj u hu
    ·rw[if_neg h0]at hu
     exact(hI.G.BF m t hm).1 u (mem_of_mem_drop (mem_of_mem_take hu))
  have FW:(c5 a st k).length <= 1000:=by
   unfold c5
   cases bU st k with
   | none=>exact zero_le _
   | some pq =>
    dsimp only
    cases st.U[pq.1.toNat]? with
    | none=>exact zero_le _
    | some t =>
     dsimp only
     by_cases h0:pq.2=0
     ·rw[if_pos h0]
      refine le_trans (length_filter_le _ _) ?_
      unfold nN
      by_cases z:(a.ps.getD k (0,0)).2=((t.goal.toNat:Nat):Int)
      ·rw[if_pos z];exact zero_le _
      ·rw[if_neg z];exact le_trans (hI.O.B9 _ _ _) (by decide)
     ·rw[if_neg h0,length_take];omega
  unfold e8 at q
  rw[eF]at q
  rcases jC hL.BL with ⟨hf,ef⟩ | ⟨pq,pt,hf,ef,DQ⟩
  ·have e0:c5 a st k=[]:=by unfold c5;rw[eF,hf]
   rw[hf]at q
   rw[e0]at gD
   refine lK (λl=>false) (Mv.on k) (by rw[sizeLine_eq];decide) gD (λu H2 acc N hu s2 Ho HZ=>by cases hu) (λD2 FY H2 s2 CB hp=>?_)
   exact q D2 FY _ ((s1.trans s2).new CB) (s1.free (s2.free CB)) ad (Paired.mono (λ_ _ z=>z.keep (AO.Bl ((AO.refl H2).new CB))) hp)
  rw[hf]at q
  dsimp only at q
  rw[ef]
  refine lK (λl=>cS st l pq.1 pq.2) (Mv.on k) (by rw[sizeLine_eq];omega) gD (λu H2 acc N hu s2 Ho HZ=>?_) (λD2 FY H2 s2 CB hp=>?_)
  ·have DR:=EV.same W s2
   obtain⟨Jx,Jy,Jz⟩:=DR.Y.BV
   have SE:u < st.lanes.length:=by rw[hI.G.lanes];exact Nt u hu
   obtain⟨BX,FG⟩:∃ln,st.lanes[u]? = some ln:=⟨_,getElem?_eq_getElem SE⟩
   obtain⟨vu,hvu,xu,Xc,pau,pvu,rfl,Xd,_⟩:=Paired.at2 Jz FG
   have FF:=s2 _ _ (s1 _ _ DQ)
   refine⟨_,rfl,a.y,ys.AS,a.dy,_,_,rfl,DR.Y.ins,Y.cl,Y.n3,rfl,_,rfl,a.la,Jx,(u:Int),_,rfl,rfl,AV.of Jy,ak hvu,xu,Xc,_,rfl,Xd.ins,rfl,_,rfl,pt,_,0,_,rfl,rfl,AZ.of FF,ak (j:=0) rfl,_,rfl,pt,_,1,_,rfl,rfl,AZ.of FF,ak (j:=1) rfl,xu,Xc,pau,BX.r,BX.b,BX.h,pq.1,pq.2,rfl,Xd.ins,_,rfl,?_⟩
   have eo:cS st u pq.1 pq.2=cp BX.r BX.h pq.1 pq.2:=by unfold cS;rw[FG]
   cases ho:cp BX.r BX.h pq.1 pq.2 with
   | false=>exact aG (HZ (by rw[eo,ho]))
   | true=>exact aH ⟨_,rfl,_,rfl,by show 3 <= sizeLine;decide,λz hz=>Ho (by rw[eo,ho]) _ _ ((AO.refl H2).new hz) ⟨z,rfl,ad⟩⟩
  ·exact q D2 FY _ ((s1.trans s2).new CB) (s1.free (s2.free CB)) ad (Paired.mono (λ_ _ z=>z.keep (AO.Bl ((AO.refl H2).new CB))) hp)
theorem Nw:ao ["self", "lane", "piece"] ["self", "lane"] (ai oH):=L2.Bt
theorem uO(F:Bo K "moves_lie" "Yard.moves_lie" oH f fd)(Y:ig K ys)(L:jK K c)(W:Wy K TC fw dw J)
  (mf:bG K ys.Bp "front" ff) (bf:Binds K df ["self"] []) (Gf:AQ P w K mg base aD 1 ff df ["self"] (iK ys.Bp)) (M:sk K c fe de) (Ge:AQ P w K mg base aD 1 fe de ["self", "lane"] (lc c Prod.snd)) :
  AQ P w K mg base aD 2 f fd ["self", "lane"] (kX K c TC J ys):=by
 refine F.ok Nw (λ_ _ _ _ h=>?_) (λ_ _ _ s H _ Q E hr h=>?_)
 ·obtain⟨a,s,k,rfl,_⟩:=h
  rfl
 ·obtain⟨a,st,k,rfl,hI,hk,q⟩:=h
  refine⟨_,ae (ay (i:=2) Nw.nd rfl (Or.inl rfl) (bM (ar aF (al (pv 0) rfl) (pv 1) (λ_ _=>rfl)) Y.L.cl mf Gf hr bf .nil am))
   (ae (aM (PW.pt (eX (ap jx (pv 2) cM (ax _)) (dH (ap jw (al (ar aF (al (pv 0) rfl) (ar aA (pv 2) af (λ_ _=>rfl)) (λ_ _=>rfl)) rfl) (aE (al (al (pv 0) rfl) rfl) L.cl M.m Ge hr M.b .nil am (aa (pv 1) ac)) (ax _))))) (ag (aq (aP ac))) aB)
   (ag (aq (aP (aa (aK (aa aO (aa (pv 1) ac))) ac))))),?_⟩
  have hY:=hI.Y
  obtain⟨AX,BH,Fp⟩:=hY.BV
  obtain⟨ln,Bs⟩:∃ln,st.lanes[k]? = some ln:=⟨_,getElem?_eq_getElem hk⟩
  obtain⟨vl,DS,xl,C6,ID,J0,rfl,hL,_⟩:=Paired.at2 Fp Bs
  refine⟨_,rfl,a.y,ys.AS,a.dy,_,_,rfl,hY.ins,Y.cl,Y.n3,rfl,_,rfl,a.la,AX,(k:Int),_,rfl,rfl,AV.of BH,ak DS,xl,C6,_,rfl,hL.ins,rfl,xl,C6,ID,ln.r,ln.b,ln.h,J0,ln.qs,rfl,hL,?_⟩
  have eF:bU st k=ln.qs.head?:=by unfold bU;rw[Bs]
  unfold cU at q
  rw[eF]at q
  rcases jC hL.BL with ⟨hf,ef⟩ | ⟨pq,pt,hf,ef,DQ⟩
  ·rw[hf]at q
   rw[ef]
   exact⟨_,rfl,rfl,_,rfl,aH (aH ⟨zero_le _,λD hD=>q D [] _ ((AO.refl H).new hD) hD ad .nil⟩)⟩
  rw[hf]at q
  rw[ef]
  obtain⟨m,t,em,hm,Fq⟩:=hI.G.BL k ln Bs pq (mem_of_head? hf)
  rw[em]at DQ
  dsimp only at q
  rw[em,toNat_natCast,hm]at q
  dsimp only at q
  obtain⟨AY,BZ,pl⟩:=hY.hle
  obtain⟨v,hv,x,dx,wa,rfl,hx,hw,_⟩:=Paired.at2 pl hm
  obtain⟨Cc,fst,BY,Br,BA⟩:=hI.T.i
  have Gq:k < a.ps.length:=by rw[←hI.G.lanes];exact hk
  have he:=getElem?_eq_getElem Gq
  have E7:a.ps.getD k (0,0)=a.ps[k]:=by rw[getD_eq_getElem?_getD,he];rfl
  rw[E7]at q
  refine⟨_,rfl,rfl,_,rfl,aG ⟨_,rfl,a.y,ys.AS,a.dy,_,_,rfl,hY.ins,Y.cl,Y.n4,rfl,_,rfl,pt,_,0,_,rfl,rfl,AZ.of DQ,ak (j:=0) rfl,a.le,AY,(m:Int),_,rfl,rfl,AV.of BZ,ak hv,x,ys.AR,dx,_,_,rfl,hx,Y.ct,Y.t2,rfl,_,rfl,a.y,ys.AS,a.dy,_,_,rfl,hY.ins,Y.cl,Y.n1,rfl,a.tb,TC,Cc,fst,_,rfl,BY,W.cl,W.nl,Br,a.lx,a.Bh,_,rfl,hI.T.l.1,rfl,_,rfl,a.lx,a.Bh,a.lt,(a.n:Int),a.AY,a.ps,k,_,rfl,hI.T.l,he,rfl,_,rfl,?_⟩⟩
  rw[bB]
  by_cases hg:t.goal=a.ps[k].2
  ·rw[decide_eq_true hg]
   rw[if_pos hg]at q
   refine aG ⟨_,rfl,by show 2 <= sizeLine;decide,λz hz=>⟨by show 1 <= sizeLine;decide,λD hD=>?_⟩⟩
   have s2:=(AO.refl H).new (o := .tup [.str "lie", .int k]) hz
   have gz:(upd H z (.tup [.str "lie", .int k])) z=some (.tup [.str "lie", .int k]):=ad
   exact q D [.ref z] _ (s2.new hD) (s2.free hD) ad (.cons ⟨z,rfl,by rw[ah (aj gz hD)];exact gz⟩ .nil)
  ·rw[decide_eq_false hg]
   rw[if_neg hg]at q
   exact aH ⟨zero_le _,λD hD=>q D [] _ ((AO.refl H).new hD) hD ad .nil⟩
theorem SJ:ao ["self", "lane"] ["self", "lane"] (ai lm):=L2.Bt
theorem rA(F:Bo K "moves_back" "Yard.moves_back" lm f fd)(Y:ig K ys):AQ P w K mg base aD 1 f fd ["self", "lane"] (jg K c TC J ys):=by
 refine F.ok SJ (λ_ _ _ _ h=>?_) (λ_ _ _ s H _ Q E hr h=>?_)
 ·obtain⟨a,s,k,rfl,_⟩:=h
  rfl
 ·obtain⟨a,st,k,rfl,hI,hk,q⟩:=h
  refine⟨_,ag (aq (cP (ap kg (al (ar aF (al (pv 0) rfl) (pv 1) (λ_ _=>rfl)) rfl) af (ax _)) (aP (aa (aK (aa aO (aa (pv 1) ac))) ac)) (aP ac))),?_⟩
  have hY:=hI.Y
  obtain⟨AX,BH,Fp⟩:=hY.BV
  obtain⟨ln,Bs⟩:∃ln,st.lanes[k]? = some ln:=⟨_,getElem?_eq_getElem hk⟩
  obtain⟨vl,DS,xl,C6,ID,J0,rfl,hL,_⟩:=Paired.at2 Fp Bs
  unfold bL at q
  rw[Bs]at q
  dsimp only at q
  refine⟨_,rfl,a.y,ys.AS,a.dy,_,_,rfl,hY.ins,Y.cl,Y.n3,rfl,_,rfl,a.la,AX,(k:Int),_,rfl,rfl,AV.of BH,ak DS,xl,ys.Bp,C6,_,_,rfl,hL.ins,Y.L.cl,Y.L.n2,rfl,_,_,rfl,rfl,_,rfl,?_⟩
  by_cases hb:0 < ln.b
  ·rw[decide_eq_true hb]
   rw[if_pos hb]at q
   refine aH ⟨_,rfl,by show 2 <= sizeLine;decide,λz hz=>⟨by show 1 <= sizeLine;decide,λD hD=>?_⟩⟩
   have s2:=(AO.refl H).new (o := .tup [.str "back", .int k]) hz
   have gz:(upd H z (.tup [.str "back", .int k])) z=some (.tup [.str "back", .int k]):=ad
   exact q D [.ref z] _ (s2.new hD) (s2.free hD) ad (.cons ⟨z,rfl,by rw[ah (aj gz hD)];exact gz⟩ .nil)
  ·rw[decide_eq_false hb]
   rw[if_neg hb]at q
   exact aG ⟨zero_le _,λD hD=>q D [] _ ((AO.refl H).new hD) hD ad .nil⟩
theorem fE(h:H F=some (.lst xs)):Bq H (upd H F o):=λb u e n=>by
 have nb:b ≠ F:=λz=>by rw[z,h]at e;cases e;exact n
 rw[ah nb];exact e
theorem bJ{α:Type}(f:Nat->List α)(i:Nat):(List.range (i + 1)).flatMap f=(List.range i).flatMap f ++ f i:=by
 rw[range_succ,List.flatMap_append];simp
theorem aT{α:Type}{f:Nat->List α}(h:∀i,(f i).length <= 1000):∀i,((List.range i).flatMap f).length <= 1000 * i
 | 0=>by simp
 | i + 1=>by rw[bJ,length_append];have:=aT h i;have:=h i;omega
theorem cW(O:Ko a)(G:S9 a s)(k:Nat):(dE a s k).length <= 1000:=by
 unfold dE
 cases ht:s.U[k]? with
 | none=>exact zero_le _
 | some t =>
  dsimp only
  by_cases hg:t.gone=t.len
  ·rw[if_pos hg];exact zero_le _
  rw[if_neg hg,length_map]
  refine le_trans (length_filter_le _ _) ?_
  unfold bY
  by_cases h0:t.gone=0
  ·rw[if_pos h0];exact le_trans (O.B9 _ _ _) (by decide)
  ·rw[if_neg h0,length_take];omega
theorem cT(O:Ko a)(k:Nat):(e8 a s k).length <= 1000:=by
 unfold e8
 cases hq:bU s k with
 | none=>exact zero_le _
 | some pq =>
  dsimp only
  rw[length_map]
  refine le_trans (length_filter_le _ _) ?_
  unfold c5
  rw[hq]
  dsimp only
  cases s.U[pq.1.toNat]? with
  | none=>exact zero_le _
  | some t =>
   dsimp only
   by_cases h0:pq.2=0
   ·rw[if_pos h0]
    refine le_trans (length_filter_le _ _) ?_
    unfold nN
    by_cases z:(a.ps.getD k (0,0)).2=((t.goal.toNat:Nat):Int)
    ·rw[if_pos z];exact zero_le _
    ·rw[if_neg z];exact le_trans (O.B9 _ _ _) (by decide)
   ·rw[if_neg h0,length_take];omega
theorem cI(a:YA)(s:YS)(k:Nat):(cU a s k).length <= 1000:=by
 unfold cU
 cases bU s k with
 | none=>exact zero_le _
 | some pq =>
  dsimp only
  cases s.U[pq.1.toNat]? with
  | none=>exact zero_le _
  | some t =>
   dsimp only
   by_cases h0:t.goal=(a.ps.getD k (0,0)).2
   ·rw[if_pos h0];show 1 <= 1000;decide
   ·rw[if_neg h0];exact zero_le _
theorem eL(s:YS)(k:Nat):(bL s k).length <= 1000:=by
 unfold bL
 cases s.lanes[k]? with
 | none=>exact zero_le _
 | some ln =>
  dsimp only
  by_cases h0:0 < ln.b
  ·rw[if_pos h0];show 1 <= 1000;decide
  ·rw[if_neg h0];exact zero_le _
noncomputable def bX(a:YA)(s:YS):List Mv:=(List.range s.U.length).flatMap (dE a s) ++ (List.range s.lanes.length).flatMap (e8 a s) ++ (List.range s.lanes.length).flatMap (cU a s) ++ (List.range s.lanes.length).flatMap (bL s)
inductive iI(K:Frag)(c:Cs)(TC:Addr)(J:TJ)(ys:Ys)(vs:List V)(H:Hp)(Q:VK)(E:XK):Prop
 | mk (a:YA) (s:YS) (_:vs=[.ref a.y]) (_:DY K c TC J ys H a s) (_:∀(D:Addr)(Bk:List V)(H':Hp),AO H H'->H D=none->H' D=some (.lst Bk)->Paired (BB H') Bk ((bX a s).map dv)->Q (.ref D) H')
theorem Paired.app{cs:List α}{ds:List β}(h:Paired R cs ds):∀{as:List α}{bs:List β},Paired R as bs->Paired R (as ++ cs) (bs ++ ds):=λAU=>by
 induction AU with
 | nil=>exact h
 | cons x r ih=>exact .cons x ih
theorem gR{xs ys:List Mv}(nF:H F=none)(s2:AO H H2)(g2:H2 F=some (.lst vs))(p2:Paired (BB H2) vs (xs.map dv))(s3:AO H2 H3)(p3:Paired (BB H3) Bk (ys.map dv)) :
  AO H (upd H3 F (.lst (vs ++ Bk)))/\(upd H3 F (.lst (vs ++ Bk))) F=some (.lst (vs ++ Bk))/\Paired (BB (upd H3 F (.lst (vs ++ Bk)))) (vs ++ Bk) ((xs ++ ys).map dv):=by
 refine⟨λb o e=>by rw[ah (aj e nF)];exact s3 _ _ (s2 _ _ e),ad,?_⟩
 have kk:Bq H3 (upd H3 F (.lst (vs ++ Bk))):=fE (s3 _ _ g2)
 rw[map_append]
 have q2:=Paired.mono (λ_ _ z=>z.keep (Bq.trans (AO.Bl s3) kk)) p2
 have q3:=Paired.mono (λ_ _ z=>z.keep kk) p3
 exact Paired.app q3 q2
abbrev NMs:List Str:=["self", "found", "number", "lane"]
theorem EW:ao NMs ["self"] (ai oI):=L2.Bt
structure SK(P:Program)(w:World)(K:Frag)(mg:Str->Option Value)(base:Heap)(c:Cs)(TC:Addr)(J:TJ)(ys:Ys)(fi fo fl fb:Addr)(di Dz dl db:FuncData):Prop where
 mi:bG K ys.AS "moves_in" fi
 bi:Binds K di ["self", "number"] []
 Gi:AQ P w K mg base aD 4 fi di ["self", "number"] (ot K c TC J ys)
 mo:bG K ys.AS "moves_on" fo
 bo:Binds K Dz ["self", "lane"] []
 Go:AQ P w K mg base aD 6 fo Dz ["self", "lane"] (oq K c TC J ys)
 ml:bG K ys.AS "moves_lie" fl
 bl:Binds K dl ["self", "lane"] []
 Gl:AQ P w K mg base aD 2 fl dl ["self", "lane"] (kX K c TC J ys)
 mb:bG K ys.AS "moves_back" fb
 bb:Binds K db ["self", "lane"] []
 Gb:AQ P w K mg base aD 1 fb db ["self", "lane"] (jg K c TC J ys)
theorem uP(F:Bo K "moves" "Yard.moves" oI f fd)(T:dY mg)(Y:ig K ys)(W:Wy K TC fw dw J)(M:SK P w K mg base c TC J ys fi fo fl fb di Dz dl db) :
  AQ P w K mg base aD 7 f fd ["self"] (iI K c TC J ys):=by
 refine F.ok EW (λ_ _ _ _ h=>?_) (λ_ _ _ s H _ Q E hr h=>?_)
 ·obtain⟨a,s,rfl,_⟩:=h
  rfl
 ·obtain⟨a,st,rfl,hI,q⟩:=h
  have B0:Bc 1 _:=hr.mono (by decide)
  have Cg:Bc 2 _:=hr.mono (by decide)
  have Dk:Bc 4 _:=hr.mono (by decide)
  refine⟨_,ae (ay (i:=1) EW.nd rfl (Or.inl rfl) (aP ac))
   (ae (bK PassesOwn.never rfl (aQ rfl T.range (aa (aC av rfl T.len PySem.boot_len (aa (al (pv 0) rfl) ac)) ac)) (au (i:=2) EW.nd rfl (Or.inl rfl)) (ag (aS (ce plainAttrs_list slot_list_extend type_list_extend e9 (pv 1) (aa (aE (pv 0) Y.cl M.mi M.Gi Dk M.bi .nil am (aa (pv 2) ac)) ac)))))
   (ae (bK PassesOwn.never rfl (aQ rfl T.range (aa (aC av rfl T.len PySem.boot_len (aa (al (pv 0) rfl) ac)) ac)) (au (i:=3) EW.nd rfl (Or.inl rfl)) (ag (aS (ce plainAttrs_list slot_list_extend type_list_extend e9 (pv 1) (aa (aE (pv 0) Y.cl M.mo M.Go hr M.bo .nil am (aa (pv 3) ac)) ac)))))
   (ae (bK PassesOwn.never rfl (aQ rfl T.range (aa (aC av rfl T.len PySem.boot_len (aa (al (pv 0) rfl) ac)) ac)) (au (i:=3) EW.nd rfl (Or.inl rfl)) (ag (aS (ce plainAttrs_list slot_list_extend type_list_extend e9 (pv 1) (aa (aE (pv 0) Y.cl M.ml M.Gl Cg M.bl .nil am (aa (pv 3) ac)) ac)))))
   (ae (bK PassesOwn.never rfl (aQ rfl T.range (aa (aC av rfl T.len PySem.boot_len (aa (al (pv 0) rfl) ac)) ac)) (au (i:=3) EW.nd rfl (Or.inl rfl)) (ag (aS (ce plainAttrs_list slot_list_extend type_list_extend e9 (pv 1) (aa (aE (pv 0) Y.cl M.mb M.Gb B0 M.bb .nil am (aa (pv 3) ac)) ac)))))
   (ag (aq (pv 1))))))),?_⟩
  have SN:=hI.G.B9
  have Ep:st.lanes.length <= 40:=by rw[hI.G.lanes];exact hI.T.B9
  refine⟨zero_le _,λFd Hr=>?_⟩
  have s0:=(AO.refl H).new (o := .lst []) Hr
  have g0:(upd H Fd (.lst [])) Fd=some (.lst []):=ad
  show dB 1 (V.ref Fd) _ _ _
  generalize upd H Fd (.lst [])=H0 at s0 g0 ⊢
  have SO:∃vs,AO H H0/\H0 Fd=some (.lst vs)/\Paired (BB H0) vs (([]:List Mv).map dv):=⟨[],s0,g0, .nil⟩
  obtain⟨Fj,Xe,g0',p0'⟩:=SO
  have Xf:=(hI.same W Xe).Y
  obtain⟨Xg,gl0,pl0⟩:=Xf.hle
  have SQ:Xg.length=st.U.length:=Paired.length pl0
  refine⟨_,rfl,a.y,ys.AS,a.dy,_,_,rfl,Xf.ins,Y.cl,Y.n4,rfl,a.le,_,rfl, .inl (AV.of gl0),((Xg.length:Nat):Int),rfl,by omega,by omega,?_⟩
  rw[toNat_natCast,SQ]
  refine b6 (n:=st.U.length) (λi σ H2=>∃a2 a3:Option V,(∃vs,AO H H2/\H2 Fd=some (.lst vs)/\Paired (BB H2) vs (((List.range i).flatMap (dE a st)).map dv))/\σ=[some (.ref a.y),some (.ref Fd),a2,a3]) ?_ ?_ ?_
  ·exact⟨_,_,⟨Fj,Xe,g0',by simpa using p0'⟩,rfl⟩
  ·rintro i σ H2 hi ⟨a2,a3,⟨vs,s2,g2,p2⟩,rfl⟩
   rw[zero_add]
   have DR:=hI.same W s2
   refine⟨_,rfl, .inl ⟨rfl,_,AV.of g2⟩,_,rfl,a.y,a.dy,_,rfl,DR.Y.ins,rfl,_,rfl,a,st,i,rfl,DR,hi,λD Bk H3 s3 hD gD hp=>?_⟩
   have l1:vs.length <= 1000000:=by
    rw[Paired.length p2,length_map]
    have h0:=aT (cW hI.O hI.G) st.U.length
    have h1:=aT (cT (s:=st) hI.O) st.lanes.length
    have h2:=aT (cI a st) st.lanes.length
    have hh:=aT (cW hI.O hI.G) i
    try simp only[length_append]
    omega
   have l2:Bk.length <= 1000:=by rw[Paired.length hp,length_map];exact(cW hI.O hI.G) i
   obtain⟨q1,q2,q3⟩:=gR Hr s2 g2 p2 s3 hp
   refine⟨Fd,D,vs,Bk,rfl,rfl,s3 _ _ g2,gD,by rw[sizeLine_eq];omega,?_⟩
   refine⟨_,_,⟨vs ++ Bk,q1,q2,?_⟩,rfl⟩
   rw[bJ]
   exact q3
  rintro σ0 H1 ⟨a20,a30,inv1,rfl⟩
  obtain⟨SR,Xh,g1',p1'⟩:=inv1
  have Dc:=(hI.same W Xh).Y
  obtain⟨Xi,PJ,S8⟩:=Dc.BV
  have SS:Xi.length=st.lanes.length:=Paired.length S8
  refine⟨_,rfl,a.y,ys.AS,a.dy,_,_,rfl,Dc.ins,Y.cl,Y.n3,rfl,a.la,_,rfl, .inl (AV.of PJ),((Xi.length:Nat):Int),rfl,by omega,by omega,?_⟩
  rw[toNat_natCast,SS]
  refine b6 (n:=st.lanes.length) (λi σ H2=>∃a2 a3:Option V,(∃vs,AO H H2/\H2 Fd=some (.lst vs)/\Paired (BB H2) vs ((((List.range st.U.length).flatMap (dE a st)) ++ (List.range i).flatMap (e8 a st)).map dv))/\σ=[some (.ref a.y),some (.ref Fd),a2,a3]) ?_ ?_ ?_
  ·exact⟨_,_,⟨SR,Xh,g1',by simpa using p1'⟩,rfl⟩
  ·rintro i σ H2 hi ⟨a2,a3,⟨vs,s2,g2,p2⟩,rfl⟩
   rw[zero_add]
   have DR:=hI.same W s2
   refine⟨_,rfl, .inl ⟨rfl,_,AV.of g2⟩,_,rfl,a.y,a.dy,_,rfl,DR.Y.ins,rfl,_,rfl,a,st,i,rfl,DR,hi,λD Bk H3 s3 hD gD hp=>?_⟩
   have l1:vs.length <= 1000000:=by
    rw[Paired.length p2,length_map]
    have h0:=aT (cW hI.O hI.G) st.U.length
    have h1:=aT (cT (s:=st) hI.O) st.lanes.length
    have h2:=aT (cI a st) st.lanes.length
    have hh:=aT (cT (s:=st) hI.O) i
    try simp only[length_append]
    omega
   have l2:Bk.length <= 1000:=by rw[Paired.length hp,length_map];exact(cT (s:=st) hI.O) i
   obtain⟨q1,q2,q3⟩:=gR Hr s2 g2 p2 s3 hp
   refine⟨Fd,D,vs,Bk,rfl,rfl,s3 _ _ g2,gD,by rw[sizeLine_eq];omega,?_⟩
   refine⟨_,_,⟨vs ++ Bk,q1,q2,?_⟩,rfl⟩
   rw[bJ]
   rw[←append_assoc];exact q3
  rintro σ1 H2 ⟨a21,a31,inv2,rfl⟩
  obtain⟨FY,Xj,g2',p2'⟩:=inv2
  have DO:=(hI.same W Xj).Y
  obtain⟨Xk,gl2,pl2⟩:=DO.BV
  have SU:Xk.length=st.lanes.length:=Paired.length pl2
  refine⟨_,rfl,a.y,ys.AS,a.dy,_,_,rfl,DO.ins,Y.cl,Y.n3,rfl,a.la,_,rfl, .inl (AV.of gl2),((Xk.length:Nat):Int),rfl,by omega,by omega,?_⟩
  rw[toNat_natCast,SU]
  refine b6 (n:=st.lanes.length) (λi σ H2=>∃a2 a3:Option V,(∃vs,AO H H2/\H2 Fd=some (.lst vs)/\Paired (BB H2) vs ((((List.range st.U.length).flatMap (dE a st) ++ (List.range st.lanes.length).flatMap (e8 a st)) ++ (List.range i).flatMap (cU a st)).map dv))/\σ=[some (.ref a.y),some (.ref Fd),a2,a3]) ?_ ?_ ?_
  ·exact⟨_,_,⟨FY,Xj,g2',by simpa using p2'⟩,rfl⟩
  ·rintro i σ H2 hi ⟨a2,a3,⟨vs,s2,g2,p2⟩,rfl⟩
   rw[zero_add]
   have DR:=hI.same W s2
   refine⟨_,rfl, .inl ⟨rfl,_,AV.of g2⟩,_,rfl,a.y,a.dy,_,rfl,DR.Y.ins,rfl,_,rfl,a,st,i,rfl,DR,hi,λD Bk H3 s3 hD gD hp=>?_⟩
   have l1:vs.length <= 1000000:=by
    rw[Paired.length p2,length_map]
    have h0:=aT (cW hI.O hI.G) st.U.length
    have h1:=aT (cT (s:=st) hI.O) st.lanes.length
    have h2:=aT (cI a st) st.lanes.length
    have hh:=aT (cI a st) i
    try simp only[length_append]
    omega
   have l2:Bk.length <= 1000:=by rw[Paired.length hp,length_map];exact(cI a st) i
   obtain⟨q1,q2,q3⟩:=gR Hr s2 g2 p2 s3 hp
   refine⟨Fd,D,vs,Bk,rfl,rfl,s3 _ _ g2,gD,by rw[sizeLine_eq];omega,?_⟩
   refine⟨_,_,⟨vs ++ Bk,q1,q2,?_⟩,rfl⟩
   rw[bJ]
   rw[←append_assoc];exact q3
  rintro σ2 H3 ⟨a22,a32,SV,rfl⟩
  obtain⟨PK,Xl,g3',p3'⟩:=SV
  have DP:=(hI.same W Xl).Y
  obtain⟨Xm,gl3,pl3⟩:=DP.BV
  have SW:Xm.length=st.lanes.length:=Paired.length pl3
  refine⟨_,rfl,a.y,ys.AS,a.dy,_,_,rfl,DP.ins,Y.cl,Y.n3,rfl,a.la,_,rfl, .inl (AV.of gl3),((Xm.length:Nat):Int),rfl,by omega,by omega,?_⟩
  rw[toNat_natCast,SW]
  refine b6 (n:=st.lanes.length) (λi σ H2=>∃a2 a3:Option V,(∃vs,AO H H2/\H2 Fd=some (.lst vs)/\Paired (BB H2) vs ((((List.range st.U.length).flatMap (dE a st) ++ (List.range st.lanes.length).flatMap (e8 a st) ++ (List.range st.lanes.length).flatMap (cU a st)) ++ (List.range i).flatMap (bL st)).map dv))/\σ=[some (.ref a.y),some (.ref Fd),a2,a3]) ?_ ?_ ?_
  ·exact⟨_,_,⟨PK,Xl,g3',by simpa using p3'⟩,rfl⟩
  ·rintro i σ H2 hi ⟨a2,a3,⟨vs,s2,g2,p2⟩,rfl⟩
   rw[zero_add]
   have DR:=hI.same W s2
   refine⟨_,rfl, .inl ⟨rfl,_,AV.of g2⟩,_,rfl,a.y,a.dy,_,rfl,DR.Y.ins,rfl,_,rfl,a,st,i,rfl,DR,hi,λD Bk H3 s3 hD gD hp=>?_⟩
   have l1:vs.length <= 1000000:=by
    rw[Paired.length p2,length_map]
    have h0:=aT (cW hI.O hI.G) st.U.length
    have h1:=aT (cT (s:=st) hI.O) st.lanes.length
    have h2:=aT (cI a st) st.lanes.length
    have hh:=aT (eL st) i
    try simp only[length_append]
    omega
   have l2:Bk.length <= 1000:=by rw[Paired.length hp,length_map];exact(eL st) i
   obtain⟨q1,q2,q3⟩:=gR Hr s2 g2 p2 s3 hp
   refine⟨Fd,D,vs,Bk,rfl,rfl,s3 _ _ g2,gD,by rw[sizeLine_eq];omega,?_⟩
   refine⟨_,_,⟨vs ++ Bk,q1,q2,?_⟩,rfl⟩
   rw[bJ]
   rw[←append_assoc];exact q3
  rintro σ3 H4 ⟨a23,a33,SX,rfl⟩
  obtain⟨vs,s2,g2,p2⟩:=SX
  exact⟨_,rfl,q Fd vs _ s2 Hr g2 p2⟩
structure Ny(K:Frag):Prop where
 ss:kitOne K (.type "str") (.type "str")=some true
 ns:kitOne K (.type "int") (.type "str")=some false
 tt:kitOne K (.type "tuple") (.type "tuple")=some true
theorem jR(h:a ≠ b):decide (V.str a=V.str b)=false:=decide_eq_false λz=>h (by injection z)
theorem jl(a:Str):decide (V.str a=V.str a)=true:=decide_eq_true rfl
inductive t8(vs:List V)(H:Hp)(Q:VK)(E:XK):Prop
 | mk (p:Addr) (xs:List V) (_:vs=[.ref p]) (_:H p=some (.tup xs)) (_:xs.length <= 100) (_:(∀x ∈ xs,(∃t,x = .str t)∨∃i,x = .int i)) (_:∀H',AO H H'->Q (.bl true) H')
noncomputable def xY(s:Stmt):Scope:=match s with
 | .Return (some (.BoolOp _ [_, .Call _ [.ListComp _ _ sc _] _ _] _)) _=>sc
 | _=>zQ0
noncomputable def vm(a:YA)(s:YS):Mv->List Mv
 | .Cd k _=>dE a s k
 | .on k _=>e8 a s k
 | .CU k=>cU a s k
 | .back k=>bL s k
def y2(s:YS):Mv->Prop
 | .Cd k _=>k < s.U.length
 | .on k _=>k < s.lanes.length
 | .CU k=>k < s.lanes.length
 | .back k=>k < s.lanes.length
inductive tq(K:Frag)(c:Cs)(TC:Addr)(J:TJ)(ys:Ys)(vs:List V)(H:Hp)(Q:VK)(E:XK):Prop
 | mk (a:YA) (s:YS) (p:Addr) (m:Mv) (_:vs=[.ref a.y, .ref p]) (_:DY K c TC J ys H a s) (_:H p=some (.tup (dv m))) (_:y2 s m) (_:∀(D:Addr)(Bk:List V)(H':Hp),AO H H'->H D=none->H' D=some (.lst Bk)->Paired (BB H') Bk ((vm a s m).map dv)->Q (.ref D) H')
theorem SY:ao ["move"] ["move"] (ai mq):=L2.Bt
theorem Ta:BG ["move"] (ai mq) (xY ((aJ mq).getD 0 (.Pass ⟨0,0,0,0⟩))) [] []:=L2.Co
theorem Tb:(["thing"]:List Str).Nodup:=by decide +kernel
theorem xn(F:Bo K "is_move" "is_move" mq f fd)(T:dY mg)(Z:Ny K)(mh:mg "is_whole" = some (.ref fh))(kh:keepIn K (.ref fh)=true)(bh:Binds K dh ["value"] [])(G:AQ P w K mg base aD 1 fh dh ["value"] gE) :
  AQ P w K mg base aD 2 f fd ["move"] t8:=by
 refine F.ok SY (λ_ _ _ _ h=>?_) (λ_ _ _ s H _ Q E hr h=>?_)
 ·obtain⟨p,xs,rfl,_⟩:=h
  rfl
 ·obtain⟨p,xs,rfl,hp,hl,hx,q⟩:=h
  refine⟨_,ag (aq (cE (aC fH rfl T.GR PyProof.Rows.boot_isinstance (aa (pv 0) (aa (dQ (v := .ty "tuple") rfl T.tuple PySem.Pv.boot_tuple rfl) ac)))
   (dz (aC (jI rfl) rfl T.all PyProof.Rows.boot_all (aa (bd (own:=["thing"]) (capN:=[]) (cap:=[]) Ta rfl (lw (pv 0)) (λC s' H' fp=>⟨au (i:=0) Tb rfl (Or.inl rfl),c9,
    KI (aC (show eR _ (.builtin "isinstance") (LN K) from fH) rfl T.GR PyProof.Rows.boot_isinstance (aa (pv 0) (aa (dQ (v := .ty "str") rfl T.str PySem.Pv.boot_str rfl) ac))) (dz (az G hr rfl mh kh bh .nil am (aa (pv 0) ac)))⟩)) ac))))),?_⟩
  refine⟨_,rfl, .ref p,_, "tuple",true,rfl, .tup hp,Z.tt,true,rfl,aH ⟨_,rfl,p,rfl,⟨_,AZ.of hp⟩,?_⟩⟩
  refine bN xs.length (by rw[sizeLine_eq];omega) (λi acc H'=>H' = H/\acc=(List.replicate i true).map V.bl) ⟨rfl,rfl⟩ (λi acc H' h=>by rw[h.2];simp) (λi acc H' hi h=>?_) (λacc H' h=>?_)
  ·obtain⟨rfl,rfl⟩:=h
   refine⟨⟨xs,xs[i],AZ.of hp,getElem?_eq_getElem hi⟩,λv H2 y=>?_⟩
   obtain⟨rfl,y⟩:=y
   have hv:=y xs (AZ.of hp)
   have e:(List.replicate i true).map V.bl ++ [V.bl true]=(List.replicate (i + 1) true).map V.bl:=by rw[List.replicate_succ',map_append];rfl
   rcases hx v (mem_of_getElem? hv) with ⟨t,rfl⟩ | ⟨z,rfl⟩
   ·exact⟨_,rfl, .str t,_, "str",true,rfl, .str t,Z.ss,true,rfl,aH ⟨rfl,e⟩⟩
   ·exact⟨_,rfl, .int z,_, "str",false,rfl, .int z,Z.ns,false,rfl,aG ⟨_,rfl, .int z,rfl, .int z,rfl,e⟩⟩
  ·obtain⟨rfl,rfl⟩:=h
   refine⟨⟨xs,AZ.of hp,le_refl _⟩,λD hD=>⟨D,List.replicate xs.length true,rfl,AV.of ad,?_⟩⟩
   have e:(List.replicate xs.length true).all id=true:=by rw[all_eq_true];intro b hb;rw[eq_of_mem_replicate hb];rfl
   rw[e]
   exact q _ ((AO.refl H').new hD)
theorem Tc:ao ["self", "move"] ["self", "move"] (ai ub):=L2.Bt
noncomputable def bP(ln:bT):bT:={ ln with b:=ln.b + 1,qs:=ln.qs.tail }
noncomputable def mX(ln:bT):bT:={ ln with r:=ln.r + 1,b:=ln.b - 1 }
inductive D7(a:YA)(s:YS):Mv->YS->Prop
 | Cd {k l:Nat} {t:ck} {ln:bT} (ht:s.U[k]? = some t) (hg:t.gone ≠ t.len) (hl:l ∈ bY a t) (Bs:s.lanes[l]? = some ln) (ho:cp ln.r ln.h k t.gone=true) :
  D7 a s (.Cd k l) (cX (j9 s k t) k t.gone l { t with gone:=t.gone + 1 } ln)
 | on {k l m:Nat} {c:Int} {lk ln:bT} {t:ck} (hk:s.lanes[k]? = some lk) (hq:lk.qs.head? = some ((m:Int),c)) (ht:s.U[m]? = some t) (hl:l ∈ c5 a s k) (Bs:(s.lanes.set k (bP lk))[l]? = some ln) (ho:cp ln.r ln.h m c=true) :
  D7 a s (.on k l) (cX { s with lanes:=s.lanes.set k (bP lk) } m c l t ln)
 | CU {k m e:Nat} {c:Int} {lk:bT} {t:ck} {qs:List (Int × Int)} (hk:s.lanes[k]? = some lk) (hq:lk.qs.head? = some ((m:Int),c)) (ht:s.U[m]? = some t) (hg:t.goal=(e:Int)) (he:(a.ps.getD k (0,0)).2=(e:Int)) (BQ:s.lies[e]? = some qs) :
  D7 a s (.CU k) { s with lanes:=s.lanes.set k (bP lk),lies:=s.lies.set e (qs ++ [((m:Int),c)]) }
 | back {k:Nat} {lk:bT} (hk:s.lanes[k]? = some lk) (hb:0 < lk.b):D7 a s (.back k) { s with lanes:=s.lanes.set k (mX lk) }
theorem D7.done(h:D7 a s m s'):s'.done=s.done:=by
 cases h<;>rfl
structure PL(s:YS):Prop where
 q:∀(k:Nat)(ln:bT),s.lanes[k]? = some ln->ln.qs.length <= 10000
 l:∀(p:Nat)(qs:List (Int × Int)),s.lies[p]? = some qs->qs.length <= 10000
 d:s.done.length <= 100000
theorem jv(h:cS s l m c=true):∃ln,s.lanes[l]? = some ln/\cp ln.r ln.h m c=true:=by
 unfold cS at h
 cases hl:s.lanes[l]? with
 | none=>rw[hl]at h;cases h
 | some ln=>rw[hl]at h;exact⟨ln,rfl,h⟩
theorem vh(h:m ∈ dE a s k):∃l t ln,m = .Cd k l/\s.U[k]? = some t/\t.gone ≠ t.len/\l ∈ bY a t/\s.lanes[l]? = some ln/\cp ln.r ln.h k t.gone=true:=by
 unfold dE at h
 cases ht:s.U[k]? with
 | none=>rw[ht]at h;cases h
 | some t =>
  rw[ht]at h
  dsimp only at h
  by_cases hg:t.gone=t.len
  ·rw[if_pos hg]at h;cases h
  rw[if_neg hg]at h
  obtain⟨l,hl,rfl⟩:=mem_map.mp h
  obtain⟨h1,h2⟩:=mem_filter.mp hl
  obtain⟨ln,h3,h4⟩:=jv h2
  exact⟨l,t,ln,rfl,rfl,hg,h1,h3,h4⟩
theorem vg(h:m ∈ e8 a s k):∃l q lk ln,m = .on k l/\s.lanes[k]? = some lk/\lk.qs.head? = some q/\l ∈ c5 a s k/\s.lanes[l]? = some ln/\cp ln.r ln.h q.1 q.2=true:=by
 unfold e8 at h
 cases hq:bU s k with
 | none=>rw[hq]at h;cases h
 | some q =>
  rw[hq]at h
  dsimp only at h
  obtain⟨l,hl,rfl⟩:=mem_map.mp h
  obtain⟨h1,h2⟩:=mem_filter.mp hl
  obtain⟨ln,h3,h4⟩:=jv h2
  unfold bU at hq
  cases hk:s.lanes[k]? with
  | none=>rw[hk]at hq;cases hq
  | some lk=>rw[hk]at hq;exact⟨l,q,lk,ln,rfl,rfl,hq,h1,h3,h4⟩
theorem qw(h:m ∈ cU a s k):∃q lk t,m = .CU k/\s.lanes[k]? = some lk/\lk.qs.head? = some q/\s.U[q.1.toNat]? = some t/\t.goal=(a.ps.getD k (0,0)).2:=by
 unfold cU at h
 cases hq:bU s k with
 | none=>rw[hq]at h;cases h
 | some q =>
  rw[hq]at h
  dsimp only at h
  cases ht:s.U[q.1.toNat]? with
  | none=>rw[ht]at h;cases h
  | some t =>
   rw[ht]at h
   dsimp only at h
   by_cases hg:t.goal=(a.ps.getD k (0,0)).2
   ·rw[if_pos hg]at h
    have hm:m = .CU k:=by simpa using h
    unfold bU at hq
    cases hk:s.lanes[k]? with
    | none=>rw[hk]at hq;cases hq
    | some lk=>rw[hk]at hq;exact⟨q,lk,t,hm,rfl,hq,ht,hg⟩
   ·rw[if_neg hg]at h;cases h
theorem mS(h:m ∈ bL s k):∃lk,m = .back k/\s.lanes[k]? = some lk/\0 < lk.b:=by
 unfold bL at h
 cases hk:s.lanes[k]? with
 | none=>rw[hk]at h;cases h
 | some lk =>
  rw[hk]at h
  dsimp only at h
  by_cases hb:0 < lk.b
  ·rw[if_pos hb]at h;exact⟨lk,by simpa using h,rfl,hb⟩
  ·rw[if_neg hb]at h;cases h
theorem rF(h:m ∈ bX a s):y2 s m/\m ∈ vm a s m:=by
 unfold bX at h
 rw[mem_append,mem_append,mem_append]at h
 rcases h with ((h | h) | h) | h
 ·obtain⟨k,hk,h⟩:=mem_flatMap.mp h
  obtain⟨l,t,ln,rfl,_⟩:=vh h
  exact⟨mem_range.mp hk,h⟩
 ·obtain⟨k,hk,h⟩:=mem_flatMap.mp h
  obtain⟨l,q,lk,ln,rfl,_⟩:=vg h
  exact⟨mem_range.mp hk,h⟩
 ·obtain⟨k,hk,h⟩:=mem_flatMap.mp h
  obtain⟨q,lk,t,rfl,_⟩:=qw h
  exact⟨mem_range.mp hk,h⟩
 ·obtain⟨k,hk,h⟩:=mem_flatMap.mp h
  obtain⟨lk,rfl,_⟩:=mS h
  exact⟨mem_range.mp hk,h⟩
noncomputable def nP:Mv->PyData
 | .Cd k l => .tuple [.str "in", .int k, .int l]
 | .on k l => .tuple [.str "on", .int k, .int l]
 | .CU k => .tuple [.str "lie", .int k]
 | .back k => .tuple [.str "back", .int k]
theorem fL(h:PyData.strOk x=true):Cu (.str x) 0:=⟨by simp[PyData.canLay0,h],by simp[PyData.depth]⟩
theorem ik(m:Mv):Cu (nP m) 1:=by
 cases m<;>refine cG (m:=0) λy hy=>?_<;>simp only[mem_cons,not_mem_nil,or_false]at hy
 ·rcases hy with rfl | rfl | rfl
  ·exact fL (by decide +kernel)
  ·exact bV _
  ·exact bV _
 ·rcases hy with rfl | rfl | rfl
  ·exact fL (by decide +kernel)
  ·exact bV _
  ·exact bV _
 ·rcases hy with rfl | rfl
  ·exact fL (by decide +kernel)
  ·exact bV _
 ·rcases hy with rfl | rfl
  ·exact fL (by decide +kernel)
  ·exact bV _
theorem vL(m:Mv)(h:H p=some (.tup (dv m))):Den K H (.ref p) (nP m):=by
 cases m<;>refine .tup (AZ.of h) ?_
 ·exact .cons (.str _) (.cons (.int _) (.cons (.int _) .nil))
 ·exact .cons (.str _) (.cons (.int _) (.cons (.int _) .nil))
 ·exact .cons (.str _) (.cons (.int _) .nil)
 ·exact .cons (.str _) (.cons (.int _) .nil)
theorem du :∀{vs:List V}{ms:List Mv},Paired (BB H) vs (ms.map dv)->BE K H vs (ms.map nP)
 | [],[],_ => .nil
 | _ :: _,m :: ms, .cons ⟨t,e,h⟩ r=>by subst e;exact .cons (vL m h) (du r)
 | [],_ :: _,h=>by cases h
 | _ :: _,[],h=>by cases h
theorem AG{ms:List Mv}(h:m ∈ ms):((ms.map nP).any λy=>PyData.eqv y (nP m))=true:=by
 rw[List.any_eq_true]
 exact⟨nP m,mem_map.mpr ⟨m,h,rfl⟩,SeqAt.eqv_refl _ (ik m).1⟩
inductive yR(K:Frag)(c:Cs)(TC:Addr)(J:TJ)(ys:Ys)(vs:List V)(H:Hp)(Q:VK)(E:XK):Prop
 | mk (a:YA) (s:YS) (p:Addr) (m:Mv) (_:vs=[.ref a.y, .ref p]) (_:DY K c TC J ys H a s) (_:H p=some (.tup (dv m))) (_:m ∈ bX a s) (_:PL s) (_:∀(H':Hp)(s':YS),D7 a s m s'->Be a.four H H'->B8 K ys H' a { s' with done:=s.done ++ [dv m] }->Q .Bj H')
structure Xn(P:Program)(w:World)(K:Frag)(mg:Str->Option Value)(base:Heap)(c:Cs)(TC:Addr)(J:TJ)(ys:Ys)(fk fg fe fp fb fy:Addr)(dk dg de dp db dy:FuncData):Prop where
 mk':bG K ys.AS "moves_like" fk
 bk:Binds K dk ["self", "move"] []
 Gk:AQ P w K mg base aD 7 fk dk ["self", "move"] (tq K c TC J ys)
 mg':bG K ys.AS "go_in" fg
 bg:Binds K dg ["self", "number", "lane"] []
 Gg:AQ P w K mg base aD 6 fg dg ["self", "number", "lane"] (tF K ys)
 me:bG K ys.AS "enter" fe
 be:Binds K de ["self", "piece", "lane"] []
 Ge:AQ P w K mg base aD 5 fe de ["self", "piece", "lane"] (kZ K ys)
 mp:bG K ys.Bp "pull" fp
 bp:Binds K dp ["self"] []
 Gp:AQ P w K mg base aD 1 fp dp ["self"] (oj ys.Bp)
 mb:bG K ys.Bp "bring" fb
 bb:Binds K db ["self"] []
 Gb:AQ P w K mg base aD 1 fb db ["self"] (qb ys.Bp)
 my:bG K ys.AS "lay" fy
 Td:Binds K dy ["self", "piece", "place"] []
 Gy:AQ P w K mg base aD 1 fy dy ["self", "piece", "place"] (yr K ys)
theorem Nz:ao ["self", "move"] ["self", "move"] (ai Pu):=L2.Bt
theorem N0(F:Bo K "do" "Yard.do" Pu f fd)(Y:ig K ys)(L:jK K c)(W:Wy K TC fw dw J)(O:Own P w K mg base ys fl ft fpu dl dt dpu)
  (D:Xn P w K mg base c TC J ys fk fg fe fp fb fy dk dg de dp db dy) (Me:sk K c Xo den) (Gen:AQ P w K mg base aD 1 Xo den ["self", "lane"] (lc c Prod.snd)) :
  AQ P w K mg base aD 8 f fd ["self", "move"] (yR K c TC J ys):=by
 refine F.ok Nz (λ_ _ _ _ h=>?_) (λ_ _ _ s H _ Q E hr h=>?_)
 ·obtain⟨a,s,p,m,rfl,_⟩:=h
  rfl
 ·obtain⟨a,st,p,m,rfl,hI,hp,hm,hS,q⟩:=h
  have hu:=hr.units
  have B0:Bc 1 _:=hr.mono (by decide)
  have Dk:Bc 4 _:=hr.mono (by decide)
  have IE:Bc 5 _:=hr.mono (by decide)
  have hr6:Bc 6 _:=hr.mono (by decide)
  refine⟨_,ae (aM (ap (ip hu) (pv 1) (aE (pv 0) Y.cl D.mk' D.Gk hr D.bk .nil am (aa (pv 1) ac)) (by with_unfolding_all rfl)) (ag bA) aB)
   (ae (dO (aM (ap bq (ar aA (pv 1) af (λ_ _=>rfl)) aO (ax _))
    (ag (aS (aE (pv 0) Y.cl D.mg' D.Gg hr6 D.bg .nil am (aa (ar aA (pv 1) af (λ_ _=>rfl)) (aa (ar aA (pv 1) af (λ_ _=>rfl)) ac)))))
    (ag (aM (ap bq (ar aA (pv 1) af (λ_ _=>rfl)) aO (ax _))
     (ag (aS (aE (pv 0) Y.cl D.me D.Ge IE D.be .nil am (aa (bM (aE (pv 0) Y.cl O.ml O.Gl Dk O.bl .nil am (aa (ar aA (pv 1) af (λ_ _=>rfl)) ac)) Y.L.cl D.mp D.Gp B0 D.bp .nil am) (aa (ar aA (pv 1) af (λ_ _=>rfl)) ac)))))
     (ag (aM (ap bq (ar aA (pv 1) af (λ_ _=>rfl)) aO (ax _))
      (ag (aS (aE (pv 0) Y.cl D.my D.Gy B0 D.Td .nil am (aa (bM (aE (pv 0) Y.cl O.ml O.Gl Dk O.bl .nil am (aa (ar aA (pv 1) af (λ_ _=>rfl)) ac)) Y.L.cl D.mp D.Gp B0 D.bp .nil am) (aa (aE (al (al (pv 0) rfl) rfl) L.cl Me.m Gen B0 Me.b .nil am (aa (ar aA (pv 1) af (λ_ _=>rfl)) ac)) ac)))))
      (ag (aS (bM (aE (pv 0) Y.cl O.ml O.Gl Dk O.bl .nil am (aa (ar aA (pv 1) af (λ_ _=>rfl)) ac)) Y.L.cl D.mb D.Gb B0 D.bb .nil am)))))))))
   (ag (aS (ce plainAttrs_list PySem.F.slot_list_append PySem.F.type_list_append bj (al (pv 0) rfl) (aa (pv 1) ac))))),?_⟩
  obtain⟨Bb,Er⟩:=rF hm
  refine⟨_,rfl,_,rfl,a.y,a.dy,_,rfl,hI.Y.ins,rfl,_,rfl,a,st,p,m,rfl,hI,hp,Bb,λDl Bk H1 s1 hDl Te hpr=>?_⟩
  refine⟨Dl,Bk,nP m,(vm a st m).map nP,rfl,vL m (s1 _ _ hp),AV.of Te,du hpr,(ik m).le (by decide),λz hz=>by obtain⟨m',_,rfl⟩:=mem_map.mp hz;exact(ik m').le (by decide),_,rfl,?_⟩
  rw[AG Er]
  refine aG ?_
  have EV:=hI.same W s1
  have B6:=s1 _ _ hp
  have hY:=EV.Y
  refine⟨λσ' H'=>σ' = start ["self", "move"] [.ref a.y, .ref p]/\∃s',D7 a st m s'/\Be a.four H1 H'/\B8 K ys H' a s',?_,?_⟩
  ·
   have FH:∀(k:Nat)(lk:bT)(pq:Int × Int),st.lanes[k]? = some lk->lk.qs.head? = some pq->∀(AX:List V),H1 a.la=some (.lst AX)->∀(x dx pa:Addr)(Bf:List V)(H2:Hp),Be [a.la] H1 H2->H1 x=none->H1 pa=none->H2 a.la=some (.lst (AX.set k (.ref x)))->Bm H2 ys.Bp x dx pa lk.r lk.b lk.h Bf lk.qs ->
     ∀(Q':VK)(E':XK),(∀(v:V)(H3:Hp),yi H3 v pq->Be [a.la] H1 H3->B8 K ys H3 a { st with lanes:=st.lanes.set k (bP lk) }->Q' v H3)->oj ys.Bp [.ref x] H2 Q' E':=by
    intro k lk pq hk hq AX BH x dx pa Bf H2 o2 nx np g2 CL Q' E' hQ
    refine⟨x,dx,pa,lk.r,lk.b,lk.h,Bf,lk.qs,rfl,CL,λe0=>?_,λv rest ev H3 o3 Dq=>?_⟩
    ·exfalso
     have hl:=Paired.length CL.BL
     rw[e0]at hl
     cases BQ:lk.qs with
     | nil=>rw[BQ]at hq;cases hq
     | cons _ _=>rw[BQ]at hl;cases hl
    ·have o4:Be [a.la] H1 H3:=λb o nb e=>o3 b o (aj e nx) (aj e np) (o2 b o nb e)
     refine hQ v H3 ?_ o4 (B8.Ds hY BH o4 (k:=k) (x:=x) (dx:=dx) (pa:=pa) (o3 _ _ (aj BH nx) (aj BH np) g2) (ln:=bP lk) Dq np)
     have hz:=BW.EO o3 CL.ins CL.lst CL.BL
     rw[ev]at hz
     cases BQ:lk.qs with
     | nil=>rw[BQ]at hq;cases hq
     | cons q0 r0 =>
      rw[BQ]at hq hz
      cases hq
      cases hz with
      | cons z _=>exact z
   obtain⟨AX,BH,Fp⟩:=hY.BV
   have p3:∀{H3:Hp}{ex:List Addr}{xs:List V},H1 p=some (.tup xs)->Be ex H1 H3->(∀b ∈ ex,b ∈ a.four)->H3 p=some (.tup xs):=λh o he=>o _ _ (λz=>by obtain⟨xs,hz⟩:=hY.ES _ (he _ z);rw[h]at hz;cases hz) h
   cases m with
   | Cd k l =>
    have B6:H1 p=some (.tup [.str "in", .int k, .int l]):=B6
    obtain⟨l',t,ln,e0,ht,hg,hl,Bs,ho⟩:=vh (show Mv.Cd k l ∈ dE a st k from Er)
    cases e0
    refine⟨_,rfl,p,_,0,_,rfl,rfl,AZ.of B6,ak (j:=0) rfl,rfl,_,rfl,?_⟩
    rw[jl]
    refine aH ⟨_,rfl,a.y,a.dy,_,rfl,hY.ins,rfl,_,rfl,p,_,1,_,rfl,rfl,AZ.of B6,ak (j:=1) rfl,_,rfl,p,_,2,_,rfl,rfl,AZ.of B6,ak (j:=2) rfl,a,st,k,l,t,ln,rfl,hY,ht,Bs,ho,(hI.G.BF k t ht).2,lt_of_le_of_lt (hS.q l ln Bs) (by decide),λH' o' Jv=>⟨rfl,_,D7.Cd ht hg hl Bs ho,o'.mono (by simp),Jv⟩⟩
   | on k l =>
    have B6:H1 p=some (.tup [.str "on", .int k, .int l]):=B6
    obtain⟨l',pq,lk,ln,e0,hk,hq,hl,Bs,ho⟩:=vg (show Mv.on k l ∈ e8 a st k from Er)
    cases e0
    obtain⟨m,t,em,ht,Fq⟩:=hI.G.BL k lk hk pq (mem_of_head? hq)
    obtain⟨m0,cq⟩:=pq
    have em:m0=(m:Int):=em
    subst em
    refine⟨_,rfl,p,_,0,_,rfl,rfl,AZ.of B6,ak (j:=0) rfl,rfl,_,rfl,?_⟩
    rw[jR (by decide +kernel)]
    refine aG ⟨_,rfl,p,_,0,_,rfl,rfl,AZ.of B6,ak (j:=0) rfl,rfl,_,rfl,?_⟩
    rw[jl]
    refine aH ⟨_,rfl,a.y,a.dy,_,rfl,hY.ins,rfl,_,rfl,a.y,a.dy,_,rfl,hY.ins,rfl,_,rfl,p,_,1,_,rfl,rfl,AZ.of B6,ak (j:=1) rfl,a,st,k,lk,AX,rfl,hY,hk,BH,λx dx pa Bf H2 o2 nx np g2 CL=>⟨x,dx,_,rfl,CL.ins,rfl,FH k lk _ hk hq AX BH x dx pa Bf H2 o2 nx np g2 CL _ (λ_ _ _=>False) λv H3 hv o3 DP=>?_⟩⟩
    have Kf:=p3 B6 o3 (by simp)
    have Eo:k < st.lanes.length:=(gQ0 hk)
    obtain⟨ln2,N1,er,eh,eq⟩:∃ln2,(st.lanes.set k (bP lk))[l]? = some ln2/\ln2.r=ln.r/\ln2.h=ln.h/\ln2.qs.length <= 10000:=by
     by_cases N2:k=l
     ·subst N2
      rw[hk]at Bs
      cases Bs
      refine⟨bP lk,by simp[Eo],rfl,rfl,?_⟩
      have:=hS.q k lk hk
      show lk.qs.tail.length <= 10000
      rw[List.length_tail];omega
     ·exact⟨ln,by rw[getElem?_set_ne N2];exact Bs,rfl,rfl,hS.q l ln Bs⟩
    have Ct:cp ln2.r ln2.h m cq=true:=by rw[er,eh];exact ho
    refine⟨_,rfl,p,_,2,_,rfl,rfl,AZ.of Kf,ak (j:=2) rfl,a,{ st with lanes:=st.lanes.set k (bP lk) },v,m,cq,l,t,ln2,rfl,DP,hv,ht,N1,Ct,(hI.G.BF m t ht).2,lt_of_le_of_lt eq (by decide),λH' o' Jv=>⟨rfl,_,D7.on hk hq ht hl N1 Ct,(o3.mono (by simp)).trans (o'.mono (by simp)),Jv⟩⟩
   | CU k =>
    have B6:H1 p=some (.tup [.str "lie", .int k]):=B6
    obtain⟨pq,lk,t0,e0,hk,hq,IB,hg⟩:=qw (show Mv.CU k ∈ cU a st k from Er)
    obtain⟨m,t,em,ht,Fq⟩:=hI.G.BL k lk hk pq (mem_of_head? hq)
    obtain⟨m0,cq⟩:=pq
    have em:m0=(m:Int):=em
    subst em
    have IB:st.U[m]? = some t0:=by rw[←IB];rfl
    rw[ht]at IB
    cases IB
    have Eo:k < st.lanes.length:=(gQ0 hk)
    have Gq:k < a.ps.length:=by rw[←hI.G.lanes];exact Eo
    have he:=getElem?_eq_getElem Gq
    have E7:a.ps.getD k (0,0)=a.ps[k]:=by rw[getD_eq_getElem?_getD,he];rfl
    obtain⟨e,ee,Nv⟩:=hI.O.ends k _ he
    rw[E7,ee]at hg
    have IF:e < st.lies.length:=by rw[hI.G.lies];exact Nv
    have BQ:=getElem?_eq_getElem IF
    refine⟨_,rfl,p,_,0,_,rfl,rfl,AZ.of B6,ak (j:=0) rfl,rfl,_,rfl,?_⟩
    rw[jR (by decide +kernel)]
    refine aG ⟨_,rfl,p,_,0,_,rfl,rfl,AZ.of B6,ak (j:=0) rfl,rfl,_,rfl,?_⟩
    rw[jR (by decide +kernel)]
    refine aG ⟨_,rfl,p,_,0,_,rfl,rfl,AZ.of B6,ak (j:=0) rfl,rfl,_,rfl,?_⟩
    rw[jl]
    refine aH ⟨_,rfl,a.y,a.dy,_,rfl,hY.ins,rfl,_,rfl,a.y,a.dy,_,rfl,hY.ins,rfl,_,rfl,p,_,1,_,rfl,rfl,AZ.of B6,ak (j:=1) rfl,a,st,k,lk,AX,rfl,hY,hk,BH,λx dx pa Bf H2 o2 nx np g2 CL=>⟨x,dx,_,rfl,CL.ins,rfl,FH k lk _ hk hq AX BH x dx pa Bf H2 o2 nx np g2 CL _ (λ_ _ _=>False) λv H3 hv o3 DP=>?_⟩⟩
    have Kf:=p3 B6 o3 (by simp)
    have Jh:yb c TC J H3 a:=BK.keep W EV.T (Be.Bl (λb hb=>by simp at hb;subst hb;exact⟨_,BH⟩) o3)
    obtain⟨Cc,fst,BY,Br,BA⟩:=Jh.i
    refine⟨_,rfl,a.y,ys.AS,a.dy,_,_,rfl,DP.ins,Y.cl,Y.n1,rfl,a.tb,TC,Cc,fst,_,rfl,BY,W.cl,W.nl,Br,a.lx,a.Bh,_,rfl,Jh.l.1,rfl,_,rfl,p,_,1,_,rfl,rfl,AZ.of Kf,ak (j:=1) rfl,a.lx,a.Bh,a.lt,(a.n:Int),a.AY,a.ps,k,_,rfl,Jh.l,he,?_⟩
    rw[ee]
    exact⟨a,{ st with lanes:=st.lanes.set k (bP lk) },v,((m:Int),cq),e,_,rfl,DP,hv,BQ,le_trans (hS.l e _ BQ) (by decide),λH' o' Jv=>⟨rfl,_,D7.CU hk hq ht hg (by rw[E7,ee]) BQ,(o3.mono (by simp)).trans (o'.mono (by simp)),Jv⟩⟩
   | back k =>
    have B6:H1 p=some (.tup [.str "back", .int k]):=B6
    obtain⟨lk,e0,hk,hb⟩:=mS (show Mv.back k ∈ bL st k from Er)
    refine⟨_,rfl,p,_,0,_,rfl,rfl,AZ.of B6,ak (j:=0) rfl,rfl,_,rfl,?_⟩
    rw[jR (by decide +kernel)]
    refine aG ⟨_,rfl,p,_,0,_,rfl,rfl,AZ.of B6,ak (j:=0) rfl,rfl,_,rfl,?_⟩
    rw[jR (by decide +kernel)]
    refine aG ⟨_,rfl,p,_,0,_,rfl,rfl,AZ.of B6,ak (j:=0) rfl,rfl,_,rfl,?_⟩
    rw[jR (by decide +kernel)]
    refine aG ⟨_,rfl,a.y,a.dy,_,rfl,hY.ins,rfl,_,rfl,p,_,1,_,rfl,rfl,AZ.of B6,ak (j:=1) rfl,a,st,k,lk,AX,rfl,hY,hk,BH,λx dx pa Bf H2 o2 nx np g2 CL=>⟨x,dx,_,rfl,CL.ins,rfl,x,dx,pa,lk.r,lk.b,lk.h,Bf,lk.qs,rfl,CL,(λe0=>by rw[e0]at hb;exact absurd hb (by decide)),λ_ H3 o3 Dq=>?_⟩⟩
    have o4:Be [a.la] H1 H3:=λb o nb e=>o3 b o (aj e nx) (aj e np) (o2 b o nb e)
    exact⟨rfl,_,D7.back hk hb,o4.mono (by simp),B8.Ds hY BH o4 (k:=k) (x:=x) (dx:=dx) (pa:=pa) (o3 _ _ (aj BH nx) (aj BH np) g2) (ln:=mX lk) Dq np⟩
  ·rintro σ' H2 ⟨rfl,s',hs,o2,DO⟩
   obtain⟨B4,Iw,pd⟩:=DO.C5
   have LJ:B4.length=st.done.length:=by rw[Paired.length pd,hs.done]
   have LP:H2 p=some (.tup (dv m)):=o2 _ _ (λz=>by obtain⟨xs,hz⟩:=hY.ES _ z;rw[B6]at hz;cases hz) B6
   have hd:=hS.d
   refine⟨_,rfl,a.y,ys.AS,a.dy,_,_,rfl,DO.ins,Y.cl,Y.n6,rfl, .inl ⟨rfl,_,AV.of Iw⟩,_,rfl,a.dn,_,_,rfl,rfl,Iw,by rw[sizeLine_eq];omega,?_⟩
   have DP:=DO.Iu Iw ⟨p,rfl,LP⟩
   rw[hs.done]at DP
   exact q _ s' hs ((AO.By s1).trans (o2.trans (cz (by simp)))) DP
theorem cC{α:Type}{L:List α}{y z:α}(h:(L.set k y)[j]? = some z):(j=k/\z=y)∨(j ≠ k/\L[j]? = some z):=by
 by_cases e:k=j
 ·subst e
  rw[List.getElem?_set_self']at h
  cases hk:L[k]? with
  | none=>rw[hk]at h;cases h
  | some x=>rw[hk]at h;cases h;exact .inl ⟨rfl,rfl⟩
 ·rw[getElem?_set_ne e]at h
  exact .inr ⟨Ne.symm e,h⟩
theorem fM{α:Type}{L:List α}{x y:α}(h:L[k]? = some x):(L.set k y)[k]? = some y:=by
 have:=(gQ0 h)
 simp[this]
theorem cK{α:Type}(f:α->Nat):∀{L:List α}{k:Nat}{x y:α},L[k]? = some x->((L.set k y).map f).sum + f x=(L.map f).sum + f y
 | [],_,_,_,h=>by cases h
 | z :: L,0,x,y,h=>by cases h;simp only[List.set_cons_zero,map_cons,sum_cons];omega
 | z :: L,k + 1,x,y,h=>by
  have:=cK f (L:=L) (k:=k) (x:=x) (y:=y) h
  simp only[List.set_cons_succ,map_cons,sum_cons];omega
theorem jc{α:Type}(f:α->Int):∀{L:List α}{k:Nat}{x y:α},L[k]? = some x->((L.set k y).map f).sum + f x=(L.map f).sum + f y
 | [],_,_,_,h=>by cases h
 | z :: L,0,x,y,h=>by cases h;simp only[List.set_cons_zero,map_cons,sum_cons];omega
 | z :: L,k + 1,x,y,h=>by
  have:=jc f (L:=L) (k:=k) (x:=x) (y:=y) h
  simp only[List.set_cons_succ,map_cons,sum_cons];omega
noncomputable def iE(a:YA)(l:Nat):Int:=(a.ps.getD l (0,0)).2
noncomputable def jP(s:YS):Nat:=(s.lanes.map λln=>ln.qs.length).sum
noncomputable def jd(s:YS):Nat:=(s.lies.map λqs=>qs.length).sum
noncomputable def gc(s:YS):Int:=(s.U.map λt=>t.gone).sum
structure PM(a:YA)(s:YS)(m:Nat)(c:Int):Prop where
 lanes:s.lanes.length=a.ps.length
 lies:s.lies.length=a.n
 B9:s.U.length <= 60
 EX:a.ps.length <= 40
 lets:∀(m:Nat)(t:ck),s.U[m]? = some t->∃x y:Nat,t.start=(x:Int)/\t.goal=(y:Int)/\x < a.n/\y < a.n
 BF:∀(m:Nat)(t:ck),s.U[m]? = some t->(∀l ∈ t.way,l < a.ps.length)/\t.way.Nodup
 BL:∀(k:Nat)(ln:bT),s.lanes[k]? = some ln->∀q ∈ ln.qs,∃(m:Nat)(t:ck),q.1=(m:Int)/\s.U[m]? = some t/\k ∈ t.way
 C7:∀(m:Nat)(t:ck),s.U[m]? = some t->0 <= t.gone/\t.gone <= t.len/\t.len <= 60
 BS:∀(m':Nat)(t:ck),s.U[m']? = some t->t.gone=0->t.way=[]/\m' ≠ m
 last:∀(m:Nat)(t:ck),s.U[m]? = some t->∀(i l:Nat),t.way[i]? = some l->iE a l=t.goal->i + 1=t.way.length
 head:∀(m':Nat)(t:ck),s.U[m']? = some t->∀(l:Nat)(ln:bT),t.way.getLast? = some l->s.lanes[l]? = some ln->(m' = m/\c=0)∨((m':Int),(0:Int)) ∈ ln.qs∨iE a l=t.goal
 first:∀(k:Nat)(ln:bT),s.lanes[k]? = some ln->∀(i j:Nat)(z:Int)(q:Int × Int),ln.qs[i]? = some (z,0)->j < i->ln.qs[j]? = some q->q.1 ≠ z
 Ft:∀(k:Nat)(ln:bT),s.lanes[k]? = some ln->∀(m':Nat)(t:ck),((m':Int),(0:Int)) ∈ ln.qs->s.U[m']? = some t->t.way.getLast? = some k
 gone:c=0->∀(k:Nat)(ln:bT),s.lanes[k]? = some ln->((m:Int),(0:Int)) ∉ ln.qs
 sum:(jP s:Int) + (jd s:Int) + 1=gc s
structure Ce(a:YA)(s:YS):Prop where
 lanes:s.lanes.length=a.ps.length
 lies:s.lies.length=a.n
 B9:s.U.length <= 60
 EX:a.ps.length <= 40
 lets:∀(m:Nat)(t:ck),s.U[m]? = some t->∃x y:Nat,t.start=(x:Int)/\t.goal=(y:Int)/\x < a.n/\y < a.n
 BF:∀(m:Nat)(t:ck),s.U[m]? = some t->(∀l ∈ t.way,l < a.ps.length)/\t.way.Nodup
 BL:∀(k:Nat)(ln:bT),s.lanes[k]? = some ln->∀q ∈ ln.qs,∃(m:Nat)(t:ck),q.1=(m:Int)/\s.U[m]? = some t/\k ∈ t.way
 C7:∀(m:Nat)(t:ck),s.U[m]? = some t->0 <= t.gone/\t.gone <= t.len/\t.len <= 60
 BS:∀(m':Nat)(t:ck),s.U[m']? = some t->t.gone=0->t.way=[]
 last:∀(m:Nat)(t:ck),s.U[m]? = some t->∀(i l:Nat),t.way[i]? = some l->iE a l=t.goal->i + 1=t.way.length
 head:∀(m':Nat)(t:ck),s.U[m']? = some t->∀(l:Nat)(ln:bT),t.way.getLast? = some l->s.lanes[l]? = some ln->((m':Int),(0:Int)) ∈ ln.qs∨iE a l=t.goal
 first:∀(k:Nat)(ln:bT),s.lanes[k]? = some ln->∀(i j:Nat)(z:Int)(q:Int × Int),ln.qs[i]? = some (z,0)->j < i->ln.qs[j]? = some q->q.1 ≠ z
 Ft:∀(k:Nat)(ln:bT),s.lanes[k]? = some ln->∀(m':Nat)(t:ck),((m':Int),(0:Int)) ∈ ln.qs->s.U[m']? = some t->t.way.getLast? = some k
 sum:(jP s:Int) + (jd s:Int)=gc s
theorem dF:∀(n:Nat)(l:List Nat),l.Nodup->(∀x ∈ l,x < n)->l.length <= n
 | 0,l,_,h=>by
  cases l with
  | nil=>exact le_refl _
  | cons x _=>exact absurd (h x mem_cons_self) (by omega)
 | n + 1,l,hn,h=>by
  have h1:=dF n (l.filter λx=>decide (x ≠ n)) (hn.filter _) λx hx=>by
   obtain⟨a,b⟩:=mem_filter.mp hx
   have:=h x a
   have:=of_decide_eq_true b
   omega
  have h2:l.length <= (l.filter λx=>decide (x ≠ n)).length + 1:=by
   clear h1 h
   induction l with
   | nil=>exact zero_le _
   | cons x l ih =>
    rw[nodup_cons]at hn
    by_cases e:x=n
    ·subst e
     have:(l.filter λy=>decide (y ≠ x))=l:=List.filter_eq_self.mpr λy hy=>decide_eq_true λz=>hn.1 (z ▸ hy)
     rw[filter_cons_of_neg (by simp),this]
     exact le_refl _
    ·rw[filter_cons_of_pos (by simpa using e)]
     have:=ih hn.2
     simp only[length_cons]
     omega
  omega
theorem Ce.ok(h:Ce a s):S9 a s:=⟨h.lanes,h.lies,h.lets,λm t ht=>⟨(h.BF m t ht).1,by have:=dF _ _ (h.BF m t ht).2 (h.BF m t ht).1;have:=h.EX;omega⟩,h.BL,h.B9⟩
theorem vf{α:Type}{x:α}{l:List α}(h:x ∈ l.tail):x ∈ l:=List.mem_of_mem_tail h
theorem na{α:Type}{l:List α}{x:α}(h:l.head? = some x):l[0]? = some x:=by cases l with
 | nil=>cases h
 | cons y r=>exact h
theorem l9{α:Type}{l:List α}{x:α}(h:x ∈ l):∃i:Nat,l[i]? = some x:=by
 obtain⟨i,hi,e⟩:=List.getElem_of_mem h
 exact⟨i,by rw[getElem?_eq_getElem hi,e]⟩
theorem lS{α:Type}(l:List α)(i:Nat):l.tail[i]? = l[i + 1]?:=by cases l with
 | nil=>simp
 | cons y r=>rfl
theorem mQ{k m:Nat}(J:Ce a s)(hk:s.lanes[k]? = some lk)(hq:lk.qs.head? = some ((m:Int),c)):PM a { s with lanes:=s.lanes.set k (bP lk) } m c:=by
 have h0:=na hq
 have Cd:∀(j:Nat)(BX:bT),(s.lanes.set k (bP lk))[j]? = some BX->∃ln,s.lanes[j]? = some ln/\(∀q ∈ BX.qs,q ∈ ln.qs)/\∃d,(∀i,BX.qs[i]? = ln.qs[i + d]?)/\(BX.qs=ln.qs∨(j=k/\ln=lk/\BX.qs=lk.qs.tail)):=λj BX h=>by
  rcases cC h with ⟨rfl,rfl⟩ | ⟨ne,h⟩
  ·exact⟨lk,hk,λq hq=>vf hq,1,λi=>lS _ i, .inr ⟨rfl,rfl,rfl⟩⟩
  ·exact⟨BX,h,λq hq=>hq,0,λi=>rfl, .inl rfl⟩
 have keep:∀(j:Nat)(ln:bT),s.lanes[j]? = some ln->∃BX,(s.lanes.set k (bP lk))[j]? = some BX/\∀q ∈ ln.qs,q=((m:Int),c)∨q ∈ BX.qs:=λj ln h=>by
  by_cases e:j=k
  ·subst e
   rw[hk]at h
   cases h
   refine⟨bP lk,fM hk,λq DC=>?_⟩
   show _∨q ∈ lk.qs.tail
   cases hl:lk.qs with
   | nil=>rw[hl]at hq;cases hq
   | cons z r =>
    rw[hl]at hq DC
    cases hq
    exact(mem_cons.mp DC).imp id id
  ·exact⟨ln,by rw[getElem?_set_ne (Ne.symm e)];exact h,λq hq => .inr hq⟩
 refine⟨by rw[←J.lanes];simp,J.lies,J.B9,J.EX,J.lets,J.BF,?_,J.C7,?_,J.last,?_,?_,?_,?_,?_⟩
 ·intro j BX h q DC
  obtain⟨ln,hj,h1,_⟩:=Cd j BX h
  exact J.BL j ln hj q (h1 q DC)
 ·intro m' t ht hg
  refine⟨J.BS m' t ht hg,λe=>?_⟩
  subst e
  obtain⟨m2,t2,e2,Hs,PN⟩:=J.BL k lk hk _ (mem_of_head? hq)
  have:m' = m2:=by have:(m':Int)=(m2:Int):=e2;omega
  subst this
  rw[ht]at Hs
  cases Hs
  rw[J.BS m' t ht hg]at PN
  cases PN
 ·intro m' t ht l BX hl FG
  obtain⟨ln,hj,h1,_⟩:=Cd l BX FG
  rcases J.head m' t ht l ln hl hj with h | h
  ·obtain⟨ln2,h2,h3⟩:=keep l ln hj
   have h2:{ s with lanes:=s.lanes.set k (bP lk) }.lanes[l]? = some ln2:=h2
   rw[FG]at h2
   cases h2
   rcases h3 _ h with e | h
   ·injection e with e1 e2
    exact .inl ⟨by omega,e2.symm⟩
   ·exact .inr (.inl h)
  ·exact .inr (.inr h)
 ·intro j BX h i i' z q hi B5 DC
  obtain⟨ln,hj,_,d,h2,_⟩:=Cd j BX h
  rw[h2]at hi DC
  exact J.first j ln hj (i + d) (i' + d) z q hi (by omega) DC
 ·intro j BX h m' t Fi ht
  obtain⟨ln,hj,h1,_⟩:=Cd j BX h
  exact J.Ft j ln hj m' t (h1 _ Fi) ht
 ·intro e0 j BX h Fi
  subst e0
  obtain⟨ln,hj,h1,d,h2,h3⟩:=Cd j BX h
  obtain⟨m2,t2,e2,Hs,_⟩:=J.BL k lk hk _ (mem_of_head? hq)
  have:m=m2:=by have:(m:Int)=(m2:Int):=e2;omega
  subst this
  have b1:=J.Ft k lk hk m t2 (mem_of_head? hq) Hs
  have b2:=J.Ft j ln hj m t2 (h1 _ Fi) Hs
  rw[b1]at b2
  have b2:=Option.some.inj b2
  subst b2
  rcases cC h with ⟨_,rfl⟩ | ⟨ne,_⟩
  ·obtain⟨i,hi⟩:=l9 Fi
   have hi:lk.qs.tail[i]? = some ((m:Int),0):=hi
   rw[lS]at hi
   exact J.first k lk hk (i + 1) 0 _ _ hi (by omega) h0 rfl
  ·exact ne rfl
 ·have:=cK (λln:bT=>ln.qs.length) (y:=bP lk) hk
  have hl:(bP lk).qs.length + 1=lk.qs.length:=by
   show lk.qs.tail.length + 1=_
   cases hl:lk.qs with
   | nil=>rw[hl]at hq;cases hq
   | cons _ _=>rfl
  have h1:=J.sum
  unfold jP at h1 ⊢
  show((((s.lanes.set k (bP lk)).map λln=>ln.qs.length).sum:Nat):Int) + (jd s:Int) + 1=gc s
  omega
theorem ve(J:Ce a s)(ht:s.U[k]? = some t)(hg:t.gone ≠ t.len):PM a (j9 s k t) k t.gone:=by
 have g0:=J.C7 k t ht
 have lk:∀(m:Nat)(t':ck),(s.U.set k { t with gone:=t.gone + 1 })[m]? = some t'->∃t0,s.U[m]? = some t0/\t'.start=t0.start/\t'.goal=t0.goal/\t'.way=t0.way/\t'.len=t0.len/\((m=k/\t'.gone=t.gone + 1)∨(m ≠ k/\t'.gone=t0.gone)):=λm t' h=>by
  rcases cC h with ⟨rfl,rfl⟩ | ⟨ne,h⟩
  ·exact⟨t,ht,rfl,rfl,rfl,rfl, .inl ⟨rfl,rfl⟩⟩
  ·exact⟨t',h,rfl,rfl,rfl,rfl, .inr ⟨ne,rfl⟩⟩
 refine⟨J.lanes,J.lies,by show(s.U.set _ _).length <= 60;rw[length_set];exact J.B9,J.EX,?_,?_,?_,?_,?_,?_,?_,J.first,?_,?_,?_⟩
 ·intro m t' h
  obtain⟨t0,h0,e1,e2,_⟩:=lk m t' h
  rw[e1,e2];exact J.lets m t0 h0
 ·intro m t' h
  obtain⟨t0,h0,e1,e2,e3,_⟩:=lk m t' h
  rw[e3];exact J.BF m t0 h0
 ·intro j ln h q hq
  obtain⟨m,t0,e,h0,hj⟩:=J.BL j ln h q hq
  by_cases em:m=k
  ·subst em
   rw[ht]at h0
   cases h0
   exact⟨m,_,e,fM ht,hj⟩
  ·exact⟨m,t0,e,by show(s.U.set _ _)[m]? = _;rw[getElem?_set_ne (Ne.symm em)];exact h0,hj⟩
 ·intro m t' h
  obtain⟨t0,h0,e1,e2,e3,e4,e5⟩:=lk m t' h
  have:=J.C7 m t0 h0
  rcases e5 with ⟨rfl,e5⟩ | ⟨_,e5⟩
  ·rw[ht]at h0
   cases h0
   rw[e4,e5];omega
  ·rw[e4,e5];exact this
 ·intro m t' h hz
  obtain⟨t0,h0,e1,e2,e3,e4,e5⟩:=lk m t' h
  rcases e5 with ⟨rfl,e5⟩ | ⟨ne,e5⟩
  ·omega
  ·rw[e3];exact⟨J.BS m t0 h0 (by omega),ne⟩
 ·intro m t' h i l hi hl
  obtain⟨t0,h0,e1,e2,e3,e4,e5⟩:=lk m t' h
  rw[e3]at hi ⊢
  rw[e2]at hl
  exact J.last m t0 h0 i l hi hl
 ·intro m t' h l ln hl Bs
  obtain⟨t0,h0,e1,e2,e3,e4,e5⟩:=lk m t' h
  rw[e3]at hl
  rw[e2]
  exact .inr (J.head m t0 h0 l ln hl Bs)
 ·intro j ln h m t' hm h'
  obtain⟨t0,h0,e1,e2,e3,e4,e5⟩:=lk m t' h'
  rw[e3]
  exact J.Ft j ln h m t0 hm h0
 ·intro e0 j ln h hm
  obtain⟨m,t0,e,h0,hj⟩:=J.BL j ln h _ hm
  have:k=m:=by have:(k:Int)=(m:Int):=e;omega
  subst this
  rw[ht]at h0
  cases h0
  rw[J.BS k t ht e0]at hj
  cases hj
 ·have:=jc (λt:ck=>t.gone) (y:={ t with gone:=t.gone + 1 }) ht
  have h1:=J.sum
  unfold gc at h1 ⊢
  show (jP s:Int) + (jd s:Int) + 1=((s.U.set k { t with gone:=t.gone + 1 }).map λt=>t.gone).sum
  have:({ t with gone:=t.gone + 1 }:ck).gone=t.gone + 1:=rfl
  omega
theorem vo{l:List Nat}(h:l.getLast? = some x):l[l.length - 1]? = some x:=by rw[←h,List.getLast?_eq_getElem?]
theorem k7(M:PM a s m c)(ht:s.U[m]? = some t)(Bs:s.lanes[l]? = some ln)(h0:c=0->l ∉ t.way/\∀x ∈ t.way,iE a x ≠ t.goal)(h1:c ≠ 0->l ∈ t.way):Ce a (cX s m c l t ln):=by
 have DN:l < a.ps.length:=by rw[←M.lanes];exact(gQ0 Bs)
 have lk:∀(m':Nat)(t':ck),(cX s m c l t ln).U[m']? = some t'->∃t0,s.U[m']? = some t0/\t'.start=t0.start/\t'.goal=t0.goal/\t'.len=t0.len/\t'.gone=t0.gone/\((c=0/\m' = m/\t0=t/\t'.way=t.way ++ [l])∨(¬(c=0/\m' = m)/\t'.way=t0.way)):=λm' t' h=>by
  have h:(if c=0 then s.U.set m { t with way:=t.way ++ [l] } else s.U)[m']? = some t':=h
  by_cases hc:c=0
  ·rw[if_pos hc]at h
   rcases cC h with ⟨rfl,rfl⟩ | ⟨ne,h⟩
   ·exact⟨t,ht,rfl,rfl,rfl,rfl, .inl ⟨hc,rfl,rfl,rfl⟩⟩
   ·exact⟨t',h,rfl,rfl,rfl,rfl, .inr ⟨λz=>ne z.2,rfl⟩⟩
  ·rw[if_neg hc]at h
   exact⟨t',h,rfl,rfl,rfl,rfl, .inr ⟨λz=>hc z.1,rfl⟩⟩
 have Xp:∀(m':Nat)(t0:ck),s.U[m']? = some t0->∃t',(cX s m c l t ln).U[m']? = some t'/\(∀x ∈ t0.way,x ∈ t'.way)/\(m' = m->l ∈ t'.way):=λm' t0 h=>by
  by_cases hc:c=0
  ·by_cases e:m' = m
   ·subst e
    rw[ht]at h
    cases h
    refine⟨{ t with way:=t.way ++ [l] },by show(if c=0 then s.U.set m' { t with way:=t.way ++ [l] } else s.U)[m']? = _;rw[if_pos hc];exact fM ht,λx hx=>mem_append_left _ hx,λ_=>by show l ∈ t.way ++ [l];simp⟩
   ·exact⟨t0,by show(if c=0 then s.U.set m { t with way:=t.way ++ [l] } else s.U)[m']? = _;rw[if_pos hc,getElem?_set_ne (Ne.symm e)];exact h,λx hx=>hx,λz=>absurd z e⟩
  ·refine⟨t0,by show(if c=0 then s.U.set m { t with way:=t.way ++ [l] } else s.U)[m']? = _;rw[if_neg hc];exact h,λx hx=>hx,λz=>?_⟩
   subst z
   rw[ht]at h
   cases h
   exact h1 hc
 have BX:∀(j:Nat)(l':bT),(cX s m c l t ln).lanes[j]? = some l'->(j=l/\l'.qs=ln.qs ++ [((m:Int),c)])∨(j ≠ l/\s.lanes[j]? = some l'):=λj l' h=>by
  rcases cC h with ⟨rfl,rfl⟩ | ⟨ne,h⟩
  ·exact .inl ⟨rfl,rfl⟩
  ·exact .inr ⟨ne,h⟩
 have old:∀(j:Nat)(l':bT),(cX s m c l t ln).lanes[j]? = some l'->∀q ∈ l'.qs,(j=l/\q=((m:Int),c))∨∃l0,s.lanes[j]? = some l0/\q ∈ l0.qs:=λj l' h q hq=>by
  rcases BX j l' h with ⟨rfl,e⟩ | ⟨ne,h⟩
  ·rw[e,mem_append]at hq
   rcases hq with hq | hq
   ·exact .inr ⟨ln,Bs,hq⟩
   ·exact .inl ⟨rfl,by simpa using hq⟩
  ·exact .inr ⟨l',h,hq⟩
 refine⟨by rw[←M.lanes];show(s.lanes.set _ _).length=_;simp,M.lies,?_,M.EX,?_,?_,?_,?_,?_,?_,?_,?_,?_,?_⟩
 ·show(if c=0 then s.U.set m { t with way:=t.way ++ [l] } else s.U).length <= 60
  by_cases hc:c=0
  ·rw[if_pos hc,length_set];exact M.B9
  ·rw[if_neg hc];exact M.B9
 ·intro m' t' h
  obtain⟨t0,h2,e1,e2,_⟩:=lk m' t' h
  rw[e1,e2];exact M.lets m' t0 h2
 ·intro m' t' h
  obtain⟨t0,h2,_,_,_,_,e⟩:=lk m' t' h
  obtain⟨w1,w2⟩:=M.BF m' t0 h2
  rcases e with ⟨hc,rfl,rfl,e⟩ | ⟨_,e⟩
  ·rw[e]
   refine⟨λx hx=>?_,?_⟩
   ·rcases mem_append.mp hx with hx | hx
    ·exact w1 x hx
    ·rw[mem_singleton.mp hx];exact DN
   ·rw[List.nodup_append]
    exact⟨w2,by simp,λx hx y hy=>by rw[mem_singleton.mp hy];exact λz=>(h0 hc).1 (z ▸ hx)⟩
  ·rw[e];exact⟨w1,w2⟩
 ·intro j l' h q hq
  rcases old j l' h q hq with ⟨rfl,rfl⟩ | ⟨l0,h2,hq⟩
  ·obtain⟨t',h3,_,h4⟩:=Xp m t ht
   exact⟨m,t',rfl,h3,h4 rfl⟩
  ·obtain⟨m',t0,e,h3,hj⟩:=M.BL j l0 h2 q hq
   obtain⟨t',h4,h5,_⟩:=Xp m' t0 h3
   exact⟨m',t',e,h4,h5 j hj⟩
 ·intro m' t' h
  obtain⟨t0,h2,_,_,e3,e4,_⟩:=lk m' t' h
  rw[e3,e4];exact M.C7 m' t0 h2
 ·intro m' t' h hz
  obtain⟨t0,h2,_,_,_,e4,e⟩:=lk m' t' h
  rw[e4]at hz
  obtain⟨w1,w2⟩:=M.BS m' t0 h2 hz
  rcases e with ⟨hc,rfl,_⟩ | ⟨_,e⟩
  ·exact absurd rfl w2
  ·rw[e];exact w1
 ·intro m' t' h i x hi hx
  obtain⟨t0,h2,_,e2,_,_,e⟩:=lk m' t' h
  rw[e2]at hx
  rcases e with ⟨hc,rfl,rfl,e⟩ | ⟨_,e⟩
  ·rw[e]at hi ⊢
   by_cases B5:i < t0.way.length
   ·rw[getElem?_append_left B5]at hi
    exact absurd hx ((h0 hc).2 x (mem_of_getElem? hi))
   ·have:=(gQ0 hi)
    rw[length_append,length_singleton]at this ⊢
    omega
  ·rw[e]at hi ⊢
   exact M.last m' t0 h2 i x hi hx
 ·intro m' t' h x l' hx EL
  obtain⟨t0,h2,_,e2,_,_,e⟩:=lk m' t' h
  rcases e with ⟨hc,rfl,rfl,e⟩ | ⟨ne,e⟩
  ·rw[e]at hx
   have hx:l=x:=by simpa using hx
   subst hx
   rcases BX l l' EL with ⟨_,e'⟩ | ⟨ne,_⟩
   ·left
    rw[e',hc];simp
   ·exact absurd rfl ne
  ·rw[e]at hx
   rcases BX x l' EL with ⟨rfl,e'⟩ | ⟨ne',h'⟩
   ·rcases M.head m' t0 h2 x ln hx Bs with z | z | z
    ·exact absurd ⟨z.2,z.1⟩ ne
    ·exact .inl (by rw[e'];exact mem_append_left _ z)
    ·rw[e2];exact .inr z
   ·rcases M.head m' t0 h2 x l' hx h' with z | z | z
    ·exact absurd ⟨z.2,z.1⟩ ne
    ·exact .inl z
    ·rw[e2];exact .inr z
 ·intro j l' h i i' z q hi B5 hq
  rcases BX j l' h with ⟨rfl,e⟩ | ⟨_,h'⟩
  ·rw[e]at hi hq
   by_cases HJ:i < ln.qs.length
   ·rw[getElem?_append_left HJ]at hi
    rw[getElem?_append_left (by omega)]at hq
    exact M.first j ln Bs i i' z q hi B5 hq
   ·have h3:=(gQ0 hi)
    rw[length_append,length_singleton]at h3
    have ei:i=ln.qs.length:=by omega
    subst ei
    rw[getElem?_concat_length]at hi
    have hi:=Option.some.inj hi
    injection hi with e1 e2
    subst e1
    rw[getElem?_append_left B5]at hq
    intro ez
    obtain⟨m',t0,e3,h4,h5⟩:=M.BL j ln Bs q (mem_of_getElem? hq)
    have em0:(m':Int)=(m:Int):=by rw[←e3];exact ez
    have:m=m':=by omega
    subst this
    rw[ht]at h4
    cases h4
    exact(h0 e2).1 h5
  ·exact M.first j l' h' i i' z q hi B5 hq
 ·intro j l' h m' t' hm h'
  obtain⟨t0,h2,_,_,_,_,e⟩:=lk m' t' h'
  rcases old j l' h _ hm with ⟨rfl,e'⟩ | ⟨l0,h3,hm⟩
  ·injection e' with e1 e2
   have em:m' = m:=by omega
   subst em
   rcases e with ⟨_,_,_,e⟩ | ⟨ne,_⟩
   ·rw[e];simp
   ·exact absurd ⟨e2.symm,rfl⟩ ne
  ·rcases e with ⟨hc,rfl,rfl,e⟩ | ⟨ne,e⟩
   ·exact absurd hm (M.gone hc j l0 h3)
   ·rw[e];exact M.Ft j l0 h3 m' t0 hm h2
 ·have q1:=cK (λln:bT=>ln.qs.length) (y:=dR ln m c t.len) Bs
  have q2:(dR ln m c t.len).qs.length=ln.qs.length + 1:=by show(ln.qs ++ [_]).length=_;simp
  have q3:gc (cX s m c l t ln)=gc s:=by
   unfold gc
   show((if c=0 then s.U.set m { t with way:=t.way ++ [l] } else s.U).map λt=>t.gone).sum=_
   by_cases hc:c=0
   ·rw[if_pos hc]
    have:=jc (λt:ck=>t.gone) (y:={ t with way:=t.way ++ [l] }) ht
    have e:({ t with way:=t.way ++ [l] }:ck).gone=t.gone:=rfl
    omega
   ·rw[if_neg hc]
  have h2:=M.sum
  rw[q3]
  unfold jP at h2 ⊢
  show((((s.lanes.set l (dR ln m c t.len)).map λln=>ln.qs.length).sum:Nat):Int) + (jd s:Int)=gc s
  omega
theorem xz(M:PM a s m c)(ht:s.U[m]? = some t)(BQ:s.lies[e]? = some qs)(h0:c=0->∀x,t.way.getLast? = some x->iE a x=t.goal):Ce a { s with lies:=s.lies.set e (qs ++ [((m:Int),c)]) }:=by
 refine⟨M.lanes,by show(s.lies.set _ _).length=_;rw[length_set];exact M.lies,M.B9,M.EX,M.lets,M.BF,M.BL,M.C7,λm' t' h z=>(M.BS m' t' h z).1,M.last,?_,M.first,M.Ft,?_⟩
 ·intro m' t' h x l' hx EL
  rcases M.head m' t' h x l' hx EL with ⟨rfl,hc⟩ | z | z
  ·have h:s.U[m']? = some t':=h
   rw[ht]at h
   cases h
   exact .inr (h0 hc x hx)
  ·exact .inl z
  ·exact .inr z
 ·have:=cK (λqs:List (Int × Int)=>qs.length) (y:=qs ++ [((m:Int),c)]) BQ
  have h2:=M.sum
  unfold jd at h2 ⊢
  show (jP s:Int) + ((((s.lies.set e (qs ++ [((m:Int),c)])).map λqs=>qs.length).sum:Nat):Int)=gc s
  rw[length_append,length_singleton]at this
  omega
theorem Ce.back(J:Ce a s)(hk:s.lanes[k]? = some lk)(e:N3.qs=lk.qs):Ce a { s with lanes:=s.lanes.set k N3 }:=by
 have Cd:∀(j:Nat)(l':bT),(s.lanes.set k N3)[j]? = some l'->∃l0,s.lanes[j]? = some l0/\l'.qs=l0.qs:=λj l' h=>by
  rcases cC h with ⟨rfl,rfl⟩ | ⟨_,h⟩
  ·exact⟨lk,hk,e⟩
  ·exact⟨l',h,rfl⟩
 refine⟨by rw[←J.lanes];simp,J.lies,J.B9,J.EX,J.lets,J.BF,?_,J.C7,J.BS,J.last,?_,?_,?_,?_⟩
 ·intro j l' h q hq
  obtain⟨l0,h0,e0⟩:=Cd j l' h
  rw[e0]at hq
  exact J.BL j l0 h0 q hq
 ·intro m t ht x l' hx EL
  obtain⟨l0,h0,e0⟩:=Cd x l' EL
  rw[e0]
  exact J.head m t ht x l0 hx h0
 ·intro j l' h
  obtain⟨l0,h0,e0⟩:=Cd j l' h
  rw[e0]
  exact J.first j l0 h0
 ·intro j l' h
  obtain⟨l0,h0,e0⟩:=Cd j l' h
  rw[e0]
  exact J.Ft j l0 h0
 ·have:=cK (λln:bT=>ln.qs.length) (y:=N3) hk
  have h1:=J.sum
  have e':=congrArg List.length e
  unfold jP at h1 ⊢
  show((((s.lanes.set k N3).map λln=>ln.qs.length).sum:Nat):Int) + (jd s:Int)=gc s
  omega
theorem Ce.step(J:Ce a s)(h:D7 a s m s'):Ce a s':=by
 cases h with
 | @Cd k l t ln ht hg hl Bs ho =>
  have M:=ve J ht hg
  refine k7 (t:={ t with gone:=t.gone + 1 }) M (fM ht) Bs (λhc=>?_) (λhc=>?_)
  ·have hw:=J.BS k t ht hc
   show l ∉ t.way/\∀x ∈ t.way,iE a x ≠ t.goal
   rw[hw]
   exact⟨by simp,by simp⟩
  ·unfold bY at hl
   rw[if_neg hc]at hl
   exact mem_of_mem_take hl
 | @on k l m c lk ln t hk hq ht hl Bs ho =>
  have M:=mQ J hk hq
  have hw:c5 a s k=if c=0 then (nN a k t.goal.toNat).filter (λl=>!decide (l ∈ t.way)) else (t.way.drop (t.way.idxOf k + 1)).take 1:=by
   unfold c5 bU
   rw[hk]
   dsimp only
   rw[hq]
   dsimp only
   rw[toNat_natCast,ht]
  rw[hw]at hl
  refine k7 M ht Bs (λhc=>?_) (λhc=>?_)
  ·rw[if_pos hc]at hl
   obtain⟨h1,h2⟩:=mem_filter.mp hl
   refine⟨by simpa using h2,λx hx ex=>?_⟩
   subst hc
   obtain⟨i,hi⟩:=l9 hx
   have h3:=J.last m t ht i x hi ex
   have h4:=J.Ft k lk hk m t (mem_of_head? hq) ht
   have h5:=vo h4
   rw[show t.way.length - 1=i by omega,hi]at h5
   have h5:=Option.some.inj h5
   subst h5
   unfold nN at h1
   obtain⟨x0,y0,e1,e2,_,_⟩:=J.lets m t ht
   rw[if_pos (by show iE a x=_;rw[ex,e2,toNat_natCast])]at h1
   cases h1
  ·rw[if_neg hc]at hl
   exact mem_of_mem_drop (mem_of_mem_take hl)
 | @CU k m e c lk t qs hk hq ht hg he BQ =>
  have M:=mQ J hk hq
  have:=xz (s:={ s with lanes:=s.lanes.set k (bP lk) }) M ht BQ (λhc x hx=>?_)
  ·exact this
  ·subst hc
   have h4:=J.Ft k lk hk m t (mem_of_head? hq) ht
   rw[h4]at hx
   have hx:=Option.some.inj hx
   subst hx
   show(a.ps.getD k (0,0)).2=t.goal
   rw[he,hg]
 | @back k lk hk hb=>exact J.back hk rfl
theorem Ce.next{k m:Nat}(J:Ce a s)(hk:s.lanes[k]? = some lk)(hq:lk.qs.head? = some ((m:Int),c))(hc:c ≠ 0)(ht:s.U[m]? = some t) :
  (iE a k=t.goal->t.way.idxOf k + 1=t.way.length)/\(iE a k ≠ t.goal->t.way.idxOf k + 1 < t.way.length):=by
 obtain⟨m',t',e,Xq,Fq⟩:=J.BL k lk hk _ (mem_of_head? hq)
 have:m=m':=by have:(m:Int)=(m':Int):=e;omega
 subst this
 rw[ht]at Xq
 cases Xq
 have hi:t.way.idxOf k < t.way.length:=idxOf_lt_length_of_mem Fq
 have hx:t.way[t.way.idxOf k]? = some k:=by rw[getElem?_eq_getElem hi,getElem_idxOf]
 refine⟨λh=>J.last m t ht _ k hx h,λh=>?_⟩
 by_cases B5:t.way.idxOf k + 1 < t.way.length
 ·exact B5
 ·exfalso
  have hl:t.way.getLast? = some k:=by rw[List.getLast?_eq_getElem?,show t.way.length - 1=t.way.idxOf k by omega];exact hx
  rcases J.head m t ht k lk hl hk with z | z
  ·obtain⟨i,hi⟩:=l9 z
   have h0:=na hq
   have hi0:0 < i:=by
    cases i with
    | zero=>rw[h0]at hi;injection hi with hi;injection hi with _ hi;exact absurd hi hc
    | succ i=>omega
   exact J.first k lk hk i 0 _ _ hi hi0 h0 rfl
  ·exact h z
noncomputable def sK(s:YS):Int:=(s.U.map λt=>t.len).sum
theorem pN{α:Type}(f g:α->Int):∀{L:List α},(∀(m:Nat)(t:α),L[m]? = some t->f t <= g t)->(L.map f).sum <= (L.map g).sum
 | [],_=>by simp
 | x :: L,h=>by
  have h1:=h 0 x rfl
  have h2:=pN f g (L:=L) λm t ht=>h (m + 1) t ht
  simp only[map_cons,sum_cons];omega
theorem jV{α:Type}(g:α->Int):∀{L:List α},(∀(m:Nat)(t:α),L[m]? = some t->g t <= 60)->(L.map g).sum <= 60 * L.length
 | [],_=>by simp
 | x :: L,h=>by
  have h1:=h 0 x rfl
  have h2:=jV g (L:=L) λm t ht=>h (m + 1) t ht
  simp only[map_cons,sum_cons,length_cons];omega
theorem Ce.N4(J:Ce a s):(jd s:Int) <= sK s/\(jP s:Int) + (jd s:Int) <= 3600:=by
 have h1:=pN (λt:ck=>t.gone) (λt=>t.len) (L:=s.U) λm t ht=>(J.C7 m t ht).2.1
 have h2:=J.sum
 have h3:=jV (λt:ck=>t.len) (L:=s.U) λm t ht=>(J.C7 m t ht).2.2
 have h4:=J.B9
 unfold gc at h2
 unfold sK
 omega
theorem j2{α:Type}(f:α->Nat):∀{L:List α}{k:Nat}{x:α},L[k]? = some x->f x <= (L.map f).sum
 | [],_,_,h=>by cases h
 | z :: L,0,x,h=>by cases h;simp only[map_cons,sum_cons];omega
 | z :: L,k + 1,x,h=>by
  have:=j2 f (L:=L) (k:=k) (x:=x) h
  simp only[map_cons,sum_cons];omega
theorem Ce.PQ(J:Ce a s)(hd:s.done.length <= 100000):PL s:=by
 have h:=J.N4.2
 refine⟨λk ln hk=>?_,λp qs hp=>?_,hd⟩
 ·have:=j2 (λln:bT=>ln.qs.length) hk
  unfold jP at h
  omega
 ·have:=j2 (λqs:List (Int × Int)=>qs.length) hp
  unfold jd at h
  omega
abbrev yx(ys:Ys)(ex:List Addr):Ys:={ ys with ex:=ex }
def y6(x:V):Prop:=(∃i,x = .int i)∨∃t,x = .str t/\PyData.strOk t=true
structure Tf(a:YA)(s:YS):Prop where
 lanes:s.lanes.length=a.ps.length
 lies:s.lies.length=a.n
 q0:∀(k:Nat)(ln:bT),s.lanes[k]? = some ln->ln.qs=[]
 l0:∀(p:Nat)(qs:List (Int × Int)),s.lies[p]? = some qs->qs=[]
 lets:∀(m:Nat)(t:ck),s.U[m]? = some t->t.gone=0/\t.way=[]/\0 <= t.len/\t.len <= 60/\∃x y:Nat,t.start=(x:Int)/\t.goal=(y:Int)/\x < a.n/\y < a.n
 done:∀d ∈ s.done,∀x ∈ d,y6 x
theorem sL{α:Type}(f:α->Nat):∀{L:List α},(∀(k:Nat)(x:α),L[k]? = some x->f x=0)->(L.map f).sum=0
 | [],_=>rfl
 | x :: L,h=>by
  have h1:=h 0 x rfl
  have h2:=sL f (L:=L) λk y hy=>h (k + 1) y hy
  simp only[map_cons,sum_cons];omega
theorem yl{α:Type}(f:α->Int):∀{L:List α},(∀(k:Nat)(x:α),L[k]? = some x->f x=0)->(L.map f).sum=0
 | [],_=>rfl
 | x :: L,h=>by
  have h1:=h 0 x rfl
  have h2:=yl f (L:=L) λk y hy=>h (k + 1) y hy
  simp only[map_cons,sum_cons];omega
theorem Tf.Xr(h:Tf a s)(B9:s.U.length <= 60)(EX:a.ps.length <= 40):Ce a s:=by
 refine⟨h.lanes,h.lies,B9,EX,λm t ht=>(h.lets m t ht).2.2.2.2,λm t ht=>?_,λk ln hk q hq=>?_,λm t ht=>?_,λm t ht _=>(h.lets m t ht).2.1,λm t ht i l hi=>?_,λm t ht l ln hl=>?_,λk ln hk i j z q hi=>?_,λk ln hk m t hm=>?_,?_⟩
 ·rw[(h.lets m t ht).2.1];exact⟨(λl hl=>by cases hl),nodup_nil⟩
 ·rw[h.q0 k ln hk]at hq;cases hq
 ·obtain⟨h1,h2,h3,h4,_⟩:=h.lets m t ht
  rw[h1];exact⟨by omega,h3,h4⟩
 ·rw[(h.lets m t ht).2.1]at hi;cases hi
 ·rw[(h.lets m t ht).2.1]at hl;cases hl
 ·rw[h.q0 k ln hk]at hi;cases hi
 ·rw[h.q0 k ln hk]at hm;cases hm
 ·have h1:jP s=0:=sL _ λk ln hk=>by rw[h.q0 k ln hk];rfl
  have h2:jd s=0:=sL _ λp qs hp=>by rw[h.l0 p qs hp];rfl
  have h3:gc s=0:=yl _ λm t ht=>(h.lets m t ht).1
  rw[h1,h2,h3];rfl
theorem rj(ha:a < n)(hb:b < n)(hl:1 <= l/\l <= 60)(hu:Kg (.int u)=true)(GQ:a ≠ b)(hw:wy a b none ≠ [])(hm:m < 60):lz n wy m (.int a) (.int b) (.int l) (.int u) = .good:=by
 unfold lz
 rw[show jN (.int (a:Int)) 0 ((n:Int) - 1)=true from decide_eq_true (by omega),show jN (.int (b:Int)) 0 ((n:Int) - 1)=true from decide_eq_true (by omega),show jN (.int l) 1 60=true from decide_eq_true hl,hu,if_neg (by decide),if_neg (by decide),if_neg (by decide)]
 rw[if_neg (by
  rintro (h | h)
  ·have h:(a:Int)=(b:Int):=h
   omega
  ·have h:wy ((a:Int)).toNat ((b:Int)).toNat none=[]:=h
   rw[toNat_natCast,toNat_natCast]at h
   exact hw h),if_neg (by omega)]
theorem jm(s:AO H H1)(o:Be ex H1 H2)(hn:∀b ∈ ex,H b=none):AO H H2:=λb u e=>o b _ (λz=>by rw[hn b z]at e;cases e) (s b u e)
theorem Ce.done(J:Ce a s)(d:List (List V)):Ce a { s with done:=d }:=⟨J.lanes,J.lies,J.B9,J.EX,J.lets,J.BF,J.BL,J.C7,J.BS,J.last,J.head,J.first,J.Ft,J.sum⟩
theorem N5(h:rvs.length=a.ps.length):Tf a (Y0 rvs a.n):=by
 refine⟨by show(rvs.map rH).length=_;rw[length_map];exact h,by show(List.replicate a.n []).length=_;rw[length_replicate],λk ln hk=>?_,λp qs hp=>?_,λm t ht=>?_,λd hd=>?_⟩
 ·have hk:(rvs.map rH)[k]? = some ln:=hk
  rw[getElem?_map]at hk
  cases hr:rvs[k]? with
  | none=>rw[hr]at hk;cases hk
  | some v=>rw[hr]at hk;cases hk;rfl
 ·have hp:(List.replicate a.n ([]:List (Int × Int)))[p]? = some qs:=hp
  exact eq_of_mem_replicate (mem_of_getElem? hp)
 ·have ht:([]:List ck)[m]? = some t:=ht
  cases ht
 ·have hd:d ∈ ([]:List (List V)):=hd
  cases hd
theorem qJ :∀us:List Nat,BE K H (nV us) (us.map λz:Nat=>PyData.int z)
 | [] => .nil
 | u :: us => .cons (.int _) (qJ us)
noncomputable def i6(p:Int × Int):PyData := .tuple [.int p.1, .int p.2]
theorem eD :∀{vs:List V}{ps:List (Int × Int)},Bi H vs ps->BE K H vs (ps.map i6)
 | _,_, .nil => .nil
 | _,_, .cons ⟨t,e,h⟩ r => .cons (by subst e;exact .tup (AZ.of h) (.cons (.int _) (.cons (.int _) .nil))) (eD r)
theorem ij(ps:List (Int × Int)):Cu (.list (ps.map i6)) 64:=(c8 (m:=1) λz hz=>by
 obtain⟨p,_,rfl⟩:=mem_map.mp hz
 exact cG (m:=0) λy hy=>by
  simp only[mem_cons,not_mem_nil,or_false]at hy
  rcases hy with rfl | rfl<;>exact bV _).le (by decide)
theorem iL(ms:List Mv):Cu (.list (ms.map nP)) 64:=(c8 (m:=1) λz hz=>by
 obtain⟨m,_,rfl⟩:=mem_map.mp hz
 exact ik m).le (by decide)
theorem E8:Cu (.list []) 64:=(c8 (m:=0) λz hz=>by cases hz).le (by decide)
theorem qI{α:Type}(f:α->PyData)(l:List α):PyData.eqv (.list (l.map f)) (.list [])=l.isEmpty:=by
 cases l<;>simp[PyData.eqv,PyData.eqvAll]
theorem Tg{α:Type}{f:α->PyData}{l:List α}(h1:Den K H x (.list (l.map f)))(h2:Den K H y (.list []))(s:Cu (.list (l.map f)) 64)(q:Q (.bl l.isEmpty) H):L7 K x y H Q :=
 ⟨_,_,h1,h2,s.shaped (le_refl _),E8.shaped (le_refl _),by rw[qI];exact q⟩
theorem neN{α:Type}{f:α->PyData}{l:List α}(h1:Den K H x (.list (l.map f)))(h2:Den K H y (.list []))(s:Cu (.list (l.map f)) 64)(q:Q (.bl (!l.isEmpty)) H):zt K x y H Q :=
 ⟨_,_,h1,h2,s.shaped (le_refl _),E8.shaped (le_refl _),by rw[qI];exact q⟩
theorem N6(m:Mv):∀x ∈ dv m,y6 x:=by
 cases m<;>intro x hx<;>simp only[dv,mem_cons,not_mem_nil,or_false]at hx
 ·rcases hx with rfl | rfl | rfl<;>first | exact Or.inl ⟨_,rfl⟩ | exact Or.inr ⟨_,rfl,by decide +kernel⟩
 ·rcases hx with rfl | rfl | rfl<;>first | exact Or.inl ⟨_,rfl⟩ | exact Or.inr ⟨_,rfl,by decide +kernel⟩
 ·rcases hx with rfl | rfl<;>first | exact Or.inl ⟨_,rfl⟩ | exact Or.inr ⟨_,rfl,by decide +kernel⟩
 ·rcases hx with rfl | rfl<;>first | exact Or.inl ⟨_,rfl⟩ | exact Or.inr ⟨_,rfl,by decide +kernel⟩
theorem Ce.post(J:Ce a s)(hx:x < a.n)(hy:y < a.n)(hl:0 <= l/\l <= 60)(hf:s.U.length < 60):Ce a (i5 s x y l u):=by
 have el:∀(m:Nat)(t:ck),(i5 s x y l u).U[m]? = some t->s.U[m]? = some t∨(m=s.U.length/\t = ⟨x,y,l,u,0,[]⟩):=λm t ht=>by
  have ht:(s.U ++ [(⟨(x:Int),(y:Int),l,u,0,[]⟩:ck)])[m]? = some t:=ht
  by_cases hm:m < s.U.length
  ·rw[getElem?_append_left hm]at ht;exact .inl ht
  ·have h3:=(gQ0 ht)
   rw[length_append,length_singleton]at h3
   have em:m=s.U.length:=by omega
   subst em
   rw[getElem?_concat_length]at ht
   cases ht
   exact .inr ⟨rfl,rfl⟩
 have eo:∀(m:Nat)(t:ck),s.U[m]? = some t->(i5 s x y l u).U[m]? = some t:=λm t ht=>by
  show(s.U ++ [(⟨(x:Int),(y:Int),l,u,0,[]⟩:ck)])[m]? = some t
  rw[getElem?_append_left (gQ0 ht)];exact ht
 refine⟨J.lanes,J.lies,?_,J.EX,λm t ht=>?_,λm t ht=>?_,λk ln hk q hq=>?_,λm t ht=>?_,λm t ht hg=>?_,λm t ht i l' hi he=>?_,λm t ht l' ln EL Bs=>?_,J.first,λk ln hk m t hm ht=>?_,?_⟩
 ·show(s.U ++ [_]).length <= 60
  rw[length_append,length_singleton];omega
 ·rcases el m t ht with h | ⟨_,rfl⟩
  ·exact J.lets m t h
  ·exact⟨x,y,rfl,rfl,hx,hy⟩
 ·rcases el m t ht with h | ⟨_,rfl⟩
  ·exact J.BF m t h
  ·exact⟨(λl hl=>by cases hl),nodup_nil⟩
 ·obtain⟨m,t,e,ht,Fq⟩:=J.BL k ln hk q hq
  exact⟨m,t,e,eo m t ht,Fq⟩
 ·rcases el m t ht with h | ⟨_,rfl⟩
  ·exact J.C7 m t h
  ·exact⟨Int.le_refl _,hl.1,hl.2⟩
 ·rcases el m t ht with h | ⟨_,rfl⟩
  ·exact J.BS m t h hg
  ·rfl
 ·rcases el m t ht with h | ⟨_,rfl⟩
  ·exact J.last m t h i l' hi he
  ·cases hi
 ·rcases el m t ht with h | ⟨_,rfl⟩
  ·exact J.head m t h l' ln EL Bs
  ·cases EL
 ·obtain⟨m2,t2,e2,Hs,_⟩:=J.BL k ln hk _ hm
  have e2:(m:Int)=(m2:Int):=e2
  have e2:m=m2:=by omega
  subst e2
  rcases el m t ht with h | ⟨e,_⟩
  ·exact J.Ft k ln hk m t hm h
  ·rw[e]at Hs
   rw[List.getElem?_eq_none (le_refl _)]at Hs
   cases Hs
 ·have h:=J.sum
  have e:gc (i5 s x y l u)=gc s:=by
   show((s.U ++ [(⟨(x:Int),(y:Int),l,u,0,[]⟩:ck)]).map _).sum=_
   rw[map_append,List.sum_append]
   simp[gc]
  rw[e];exact h
theorem B8.Th(h:B8 K (yx ys e) H a s)(o:AO H H')(hx:∀b ∈ e',b ∈ e∨(H b=none/\∃zs,H' b=some (.lst zs))):B8 K (yx ys e') H' a s:=by
 have Xs:∀p:Addr,(∃u,H p=some u)->p ∉ a.la :: a.le :: a.li :: a.dn :: e->p ∉ a.la :: a.le :: a.li :: a.dn :: e':=λp ⟨u,hu⟩ hn z=>by
  have en:∀q:List Addr,a.la :: a.le :: a.li :: a.dn :: q=[a.la,a.le,a.li,a.dn] ++ q:=λ_=>rfl
  rw[en]at z hn
  rcases mem_append.mp z with z | z
  ·exact hn (mem_append_left _ z)
  ·rcases hx p z with z | ⟨z,_⟩
   ·exact hn (mem_append_right _ z)
   ·rw[z]at hu;cases hu
 obtain⟨v1,h1,p1⟩:=h.BV
 obtain⟨v2,h2,p2⟩:=h.hle
 have h':=Ba.same h o
 refine⟨h'.ins,h'.MB,⟨v1,o _ _ h1,Paired.mono (λv ln z=>?_) p1⟩,⟨v2,o _ _ h2,Paired.mono (λv t z=>?_) p2⟩,h'.CK,h'.C5,h'.ne,λb hb=>?_⟩
 ·obtain⟨x,dx,pa,Bf,ev,L,n⟩:=z
  exact⟨x,dx,pa,Bf,ev,L.same o,Xs pa ⟨_,L.lst⟩ n⟩
 ·obtain⟨x,dx,wa,ev,Ff,hw,n⟩:=z
  exact⟨x,dx,wa,ev,o _ _ Ff,o _ _ hw,Xs wa ⟨_,hw⟩ n⟩
 ·rcases hx b hb with z | ⟨_,z⟩
  ·obtain⟨zs,hz⟩:=h.hex b z
   exact⟨zs,o _ _ hz⟩
  ·exact z
theorem B8.N7(h:B8 K ys H a s)(o:Be e H H')(hs:∀b ∈ e,b ∈ ys.ex)(hn:∀b ∈ a.four,b ∉ e)(hl:∀b ∈ e,∃zs,H' b=some (.lst zs)):B8 K ys H' a s:=by
 have o2:Be (a.la :: a.le :: a.li :: a.dn :: ys.ex) H H':=o.mono λb hb=>by simp[hs b hb]
 obtain⟨h1,h2,f1,f2,f3,f4⟩:=Ba.off h o2
 obtain⟨v1,a1,p1⟩:=h.BV
 obtain⟨v2,a2,p2⟩:=h.hle
 obtain⟨v3,a3,p3⟩:=h.CK
 obtain⟨v4,a4,p4⟩:=h.C5
 refine⟨h1,h2,⟨v1,o _ _ (hn _ (by simp)) a1,f1 _ _ p1⟩,⟨v2,o _ _ (hn _ (by simp)) a2,f2 _ _ p2⟩,⟨v3,o _ _ (hn _ (by simp)) a3,f3 _ _ p3⟩,⟨v4,o _ _ (hn _ (by simp)) a4,f4 _ _ p4⟩,h.ne,λb hb=>?_⟩
 by_cases Dv:b ∈ e
 ·exact hl b Dv
 ·obtain⟨zs,hz⟩:=h.hex b hb
  exact⟨zs,o _ _ Dv hz⟩
theorem Ae{rs:List Int}(Fm:rs.length=m)(Gu:∀r ∈ rs,1 <= r/\r <= 60):qt m (rs.map V.int)=true:=by
 unfold qt
 rw[length_map,Fm,decide_eq_true rfl,Bool.true_and,all_eq_true]
 intro v hv
 obtain⟨r,HK,rfl⟩:=mem_map.mp hv
 exact decide_eq_true (Gu r HK)
def Xt(K:Frag)(c:Cs)(TC:Addr)(J:TJ)(ys:Ys)(ex:List Addr)(H:Hp)(tb:Addr)(ps:List (Int × Int))(n:Nat)(wy:Wf)(rs:List Int):VK:=λv H'=>∃a:YA,v = .ref a.y/\a.tb=tb/\a.ps=ps/\a.n=n/\a.wy=wy/\AO H H'/\(∀z ∈ a.four,H z=none)/\DY K c TC J (yx ys ex) H' a (Y0 (rs.map V.int) n)/\Ce a (Y0 (rs.map V.int) n)
theorem we{P:Program}{w:World}(W:Wy K TC fw dw J)
  (hT:BK c TC J H tb lx Bh lt n AY ps wy) (Ck:∀p g k,(wy p g k).length <= 400) (Bb:∀p ∈ ps,i7 n p=true) (hR:AV K H ra (rs.map V.int)) (Fm:rs.length=ps.length) (Gu:∀r ∈ rs,1 <= r/\r <= 60) (hp:ps.length <= 40) (hex:∀b ∈ ex,∃xs,H b=some (.lst xs)) :
  ∀y dy,H y=none->H dy=none->dy ≠ y->jX K c TC J (yx ys ex) [.ref y, .ref tb, .ref ra] (upd (upd H dy (.own y)) y (.ins ys.AS dy [])) (λv H2=>v = .Bj/\Xt K c TC J ys ex H tb ps n wy rs (.ref y) H2) E:=by
 intro y dy ny N8 N9
 have s4:AO H (upd (upd H dy (.own y)) y (.ins ys.AS dy [])):=AO.new (AO.new (AO.refl H) N8) (by rw[ah (Ne.symm N9)];exact ny)
 have Ti:=Ae Fm Gu
 refine⟨y,dy,tb,lx,Bh,lt,n,AY,ps,wy,_,rs.map V.int,rfl,ad,hT.keep W (AO.Bl s4),(λb hb=>let ⟨xs,hz⟩:=hex b hb; ⟨xs,s4 _ _ hz⟩), .inr ⟨ra,rfl, .inl (s4.seq hR),by rw[length_map];omega,(λv hv=>by obtain⟨r,_,rfl⟩:=mem_map.mp hv;exact .int r),λh=>by rw[Ti]at h;cases h⟩,λ_ ro la le li dn H5 o5 Hj Hk Kj MY hY=>⟨rfl,?_⟩⟩
 have s5:AO H H5:=λb o e=>o5 b o (λz=>by rw[mem_singleton.mp z,ny]at e;cases e) (s4 _ _ e)
 have hO:Ko ⟨y,dy,tb,ro,la,le,li,dn,lx,Bh,lt,n,AY,ps,wy⟩:=by
  refine⟨λl pr hl=>?_,Ck⟩
  have NA:=Bb pr (mem_of_getElem? hl)
  unfold i7 at NA
  simp only[Bool.and_eq_true,decide_eq_true_eq,Bool.not_eq_true',decide_eq_false_iff_not]at NA
  exact⟨pr.2.toNat,by omega,by show pr.2.toNat < n;omega⟩
 have hJ:Ce ⟨y,dy,tb,ro,la,le,li,dn,lx,Bh,lt,n,AY,ps,wy⟩ (Y0 (rs.map V.int) n):=(N5 (a:=⟨y,dy,tb,ro,la,le,li,dn,lx,Bh,lt,n,AY,ps,wy⟩) (by rw[length_map];exact Fm)).Xr (zero_le _) (by show ps.length <= 40;omega)
 refine⟨⟨y,dy,tb,ro,la,le,li,dn,lx,Bh,lt,n,AY,ps,wy⟩,rfl,rfl,rfl,rfl,rfl,s5,λz hz=>?_,⟨hY,hT.keep W (AO.Bl s5),hO,hJ.ok⟩,hJ⟩
 have hz:z ∈ [la,le,li,dn]:=hz
 simp only[mem_cons,not_mem_nil,or_false]at hz
 rcases hz with rfl | rfl | rfl | rfl
 ·exact s4.free Hj
 ·exact s4.free Hk
 ·exact s4.free Kj
 ·exact s4.free MY
theorem jG{R:Hp->V->α->Prop}(mono:∀{H H':Hp},AO H H'->∀v a,R H v a->R H' v a)(as:List α)(hn:as.length < sizeLine)
  (hs:∀(i:Nat)(a:α)(H1:Hp)(N:V->Hp->Prop),as[i]? = some a->AO H H1->(∀v H2,AO H1 H2->R H2 v a->N v H2)->g (.int i) σ0 H1 λσ2 H2=>te σ2 H2 N)
  (hq:∀D vs H1,AO H H1->H1 D=none->Paired (R H1) vs as->Q (.ref D) (upd H1 D (.lst vs))):dC (so 0 as.length) g oa te σ0 Q H:=by
 refine bN as.length hn (λi acc H'=>AO H H'/\Paired (R H') acc (as.take i)) ⟨AO.refl _, .nil⟩ (λi acc H' h=>by rw[Paired.length h.2];exact length_take_le _ _) (λi acc H' hi h=>?_) (λacc H' h=>?_)
 ·obtain⟨s,hL⟩:=h
  refine⟨hi,λv H2 y=>?_⟩
  obtain⟨rfl,rfl⟩:=y
  rw[zero_add]
  refine hs i as[i] H2 (λy H4=>AO H H4/\Paired (R H4) (acc ++ [y]) (as.take (i + 1))) (getElem?_eq_getElem hi) s λv H3 s3 hv=>⟨s.trans s3,?_⟩
  rw[take_succ,getElem?_eq_getElem hi]
  exact Paired.snoc hv (Paired.mono (mono s3) hL)
 ·obtain⟨s,hL⟩:=h
  rw[take_length]at hL
  exact⟨le_refl _,λD hD=>hq D acc H' s hD hL⟩
noncomputable def wc:Option Nat->Nat
 | none=>0
 | some k=>k + 1
theorem kF(h:eT n ps r=true):∀k ∈ r.s,k < ps.length:=by
 unfold eT at h
 simp only[Bool.and_eq_true,all_eq_true,decide_eq_true_eq]at h
 intro k hk
 exact mem_range.mp (mem_filter.mp (h.2.2 k hk)).1
noncomputable def lP(rs:List Rw)(k:fY):Nat:=match eB rs k with
 | some r=>Yd.Bv r.s 0
 | none=>0
theorem mW(h:eB rs k=some r):r ∈ rs:=mem_reverse.mp (List.mem_of_find?_eq_some h)
noncomputable def Kq(rs:List Rw):Wf:=λp g k=>mN (lP rs (b8 ⟨(p:Int),(g:Int),k,[]⟩))
def Dd(P:Program)(w:World)(ts:Ts):TJ:=λH x n wy=>∃(dx de:Addr)(lv:V)(kvs:List dX)(rs:List Rw),H x=some (.ins ts.told dx [("land",lv),("entries", .ref de)])/\B7 P w H de kvs/\(∀k,c7 kvs k=(eB rs k).map tM)/\(∀r ∈ rs,∀k ∈ r.s,k < 40)/\wy=Kq rs
theorem Dd.keep(h:Dd P w ts H x n wy)(k:Bq H H'):Dd P w ts H' x n wy:=by
 obtain⟨dx,de,lv,kvs,rs,h1,⟨h2,h3⟩,h4⟩:=h
 exact⟨dx,de,lv,kvs,rs,k _ _ h1 True.intro,⟨k _ _ h2 True.intro,λy hy=>k _ _ (h3 y hy) True.intro⟩,h4⟩
theorem Ai(h:z ∈ mN (Yd.Bv ks 0)):z ∈ ks:=by
 have:=(mem_filter.mp h).2
 have h2:(Yd.Bv ks 0).testBit z=true:=this
 rw[qV,decide_eq_true_eq]at h2
 obtain⟨n,hn,e⟩:=BJ.mp h2
 have:n=z:=by omega
 exact this ▸ hn
theorem mT(m:Nat):(mN m).Nodup:=List.nodup_range.filter _
theorem su(h:∀r ∈ rs,∀k ∈ r.s,k < n)(p g:Nat)(k:Option Nat):(∀z ∈ Kq rs p g k,z < n)/\(Kq rs p g k).length <= n:=by
 have h1:∀z ∈ Kq rs p g k,z < n:=λz hz=>by
  unfold Kq lP at hz
  cases hl:eB rs (b8 ⟨(p:Int),(g:Int),k,[]⟩) with
  | none=>rw[hl]at hz;exact absurd hz (by show z ∉ mN 0;intro h;cases h)
  | some r=>rw[hl]at hz;exact h r (mW hl) z (Ai hz)
 exact⟨h1,dF n _ (mT _) h1⟩
theorem nZ(G:AQ P w K mg base aD 3 f fd ["self", "place", "goal", "came"] (pP P w ts)):AQ P w K mg base aD 3 f fd ["self", "place", "goal", "came"] (dj (Dd P w ts)) :=
 G.imp λvs H Q E AU=>by
 obtain⟨x,n,wy,p,g,k,e,⟨dx,de,lv,kvs,rs,h1,h2,h3,h4,h5⟩,hp,hg,q⟩:=AU
 exact⟨x,dx,de,lv,kvs,⟨(p:Int),(g:Int),k,[]⟩,lP rs (b8 ⟨(p:Int),(g:Int),k,[]⟩),e,h1,h2,by
  rw[h3]
  unfold lP
  cases eB rs (b8 ⟨(p:Int),(g:Int),k,[]⟩)<;>rfl,by
  unfold lP
  cases hl:eB rs (b8 ⟨(p:Int),(g:Int),k,[]⟩) with
  | none=>exact Nat.two_pow_pos _
  | some r=>exact lt_of_lt_of_le (tL (h4 r (mW hl))) (pow_le_pow_right (by decide) (by decide)),λH' D s' hD=>q D _ (s'.new hD) (s'.free hD) (by rw[ad,h5];rfl)⟩
theorem qN(hn:ps.length < sizeLine)
  (hs:∀(i:Nat)(acc:List V)(N:List V->Hp->Prop)(pr:Int × Int),ps[i]? = some pr->N (if decide (sel pr=pl)=true then acc ++ [V.int i] else acc) H->g (.int i) σ0 H λσ2 H2=>tt σ2 H2 λb H3=>if b=true then te σ2 H3 λy H4=>N (acc ++ [y]) H4 else N acc H3)
  (hq:∀D,H D=none->Q (.ref D) (upd H D (.lst (cj (eQ sel ps pl))))):dC (so 0 ps.length) g tt te σ0 Q H:=by
 refine nv (lo:=0) (λk=>decide (sel (ps.getD k (0,0))=pl)) (λk=>V.int k) hn (λi acc N hi h=>?_) hq
 obtain⟨pr,hpr⟩:∃pr,ps[i]? = some pr:=⟨ps[i],getElem?_eq_getElem hi⟩
 have eg:ps.getD i (0,0)=pr:=by rw[getD_eq_getElem?_getD,hpr];rfl
 rw[zero_add]
 rw[eg]at h
 exact hs i acc N pr hpr h
theorem Tj(m k:Nat):decide (V.int (Builtin.bitAnd ((m:Int) / 2 ^ (k:Int).toNat) 1)=V.int 1)=m.testBit k:=by
 rw[dM,toNat_natCast,←Yd.Ez m k]
theorem se(q:Nat->Bool)(hn:xs.length < sizeLine)(ha:AV K H a (cj xs))
  (hs:∀(k:Nat)(acc:List V)(N:List V->Hp->Prop),k ∈ xs->N (if q k then acc ++ [V.int (k:Int)] else acc) H->g (.int (k:Int)) σ0 H λσ2 H2=>tt σ2 H2 λb H3=>if b=true then te σ2 H3 λy H4=>N (acc ++ [y]) H4 else N acc H3)
  (hq:∀D,H D=none->Q (.ref D) (upd H D (.lst (cj (xs.filter q))))):dC (vZ K a) g tt te σ0 Q H:=by
 refine eE (xs:=cj xs) (λv=>match v with | .int k=>q k.toNat | _=>false) (λv=>v) (by unfold cj;rw[length_map];exact hn) ha (λx acc N hx h=>?_) λD hD=>?_
 ·obtain⟨k,hk,rfl⟩:=mem_map.mp hx
  exact hs k acc N hk h
 ·have e:((cj xs).filter (λv=>match v with | .int k=>q k.toNat | _=>false)).map (λv=>v)=cj (xs.filter q):=by
   unfold cj
   rw[List.map_id'',filter_map]
   ·congr 1
   ·intro _;rfl
  rw[e]
  exact hq D hD
theorem vE{n:Nat}(h1:1 <= n)(h2:n <= 12)(h3:ps.length <= 40)(h:∀p ∈ ps,i7 n p=true):eC n ps = .good:=by
 unfold eC
 rw[decide_eq_true (show (1:Int) <= (n:Int)/\(n:Int) <= 12 by omega),if_neg (by decide),if_neg (by omega),gm h]
noncomputable def vS(s:Stmt):Scope:=match s with
 | .Assign _ (.ListComp _ _ sc _) _=>sc
 | _=>zQ0
noncomputable def gP(b:List Stmt)(i:Nat):Stmt:=b.getD i (.Pass ⟨0,0,0,0⟩)
noncomputable def jD(s:Stmt):List Stmt:=match s with
 | .For _ _ b _ _=>b
 | _=>[]
theorem qx(hl:H l=some (.lst xs)):∀{vs:List V}{ps:List (Int × Int)},Bi H vs ps->Bi (upd H l o) vs ps:=λAU=>by
 induction AU with
 | nil=>exact .nil
 | cons zz r ih=>obtain⟨t,e,q⟩:=zz;exact .cons ⟨t,e,by rw[ah (b7 q hl (by intro z;cases z))];exact q⟩ ih
theorem gQ:∀(n:Nat)(l:List Nat),l.Nodup->(∀x ∈ l,x < n)->l.length <= n
 | 0,l,_,h=>by
  cases l with
  | nil=>exact le_refl _
  | cons x l=>exact absurd (h x mem_cons_self) (not_lt_zero _)
 | n + 1,l,hn,h=>by
  by_cases hm:n ∈ l
  ·have e:=List.length_erase_of_mem hm
   have:=gQ n (l.erase n) (hn.erase n) λx hx=>by
    have Ff:=(hn.mem_erase_iff).mp hx
    have:=h x Ff.2
    have:=Ff.1
    omega
   omega
  ·have:=gQ n l hn λx hx=>by
    have:=h x hx
    have:x ≠ n:=λz=>hm (by rw[←z];exact hx)
    omega
   omega
def Tn(x:Addr)(H:Hp)(v:V)(r:Rw):Prop:=∃t l,v = .ref t/\Jf H t l r/\l ≠ x
abbrev CV(x:Addr)(H:Hp):List V->List Rw->Prop:=Paired (Tn x H)
theorem CV.imp{H H':Hp}(h:∀v r,Tn x H v r->G v r):∀{vs:List V}{rs:List Rw},CV x H vs rs->Paired G vs rs:=λAU=>by
 induction AU with
 | nil=>exact .nil
 | cons z r ih=>exact .cons (h _ _ z) ih
theorem CV.rws(h:CV x H vs rs):En H vs rs:=CV.imp (H':=H) (λ_ _ ⟨t,l,e,z,_⟩=>⟨t,l,e,z⟩) h
theorem CV.same(s:AO H H')(h:CV x H vs rs):CV x H' vs rs:=CV.imp (H':=H) (λ_ _ ⟨t,l,e,z,n⟩=>⟨t,l,e,z.same s,n⟩) h
theorem CV.off(hx:H x=some (.lst xs))(h:CV x H vs rs):CV x (upd H x o) vs rs :=
 CV.imp (H':=H) (λ_ _ AU=>by obtain⟨t,l,e,z,n⟩:=AU;exact⟨t,l,e,⟨by rw[ah (b7 z.1 hx (by intro z;cases z))];exact z.1,by rw[ah n];exact z.2⟩,n⟩) h
theorem CV.snoc(h:Tn x H v r):∀{vs:List V}{rs:List Rw},CV x H vs rs->CV x H (vs ++ [v]) (rs ++ [r]):=λAU=>by
 induction AU with
 | nil=>exact .cons h .nil
 | cons z t ih=>exact .cons z ih
noncomputable def iQ:Scope:=zQ0
inductive oy(K:Frag)(vs:List V)(H:Hp)(Q:VK)(E:XK):Prop
 | mk (a:Addr) (ns:List Int) (k:Nat) (_:vs=[.ref a, .int k]) (_:AV K H a (ns.map V.int)) (_:∀d,Q (.int d) H)
inductive lW(vs:List V)(H:Hp)(Q:VK)(E:XK):Prop
 | mk (c:Int) (k:Nat) (_:vs=[.int c, .int k]) (_:k <= 1000000) (_:∀d:Int,0 <= d->Q (.int d) H)
theorem za:ao ["_law_script", "_law_k"] ["_law_script", "_law_k"] (ai ui):=L2.Bt
theorem xv(F:Bo K "_law_cell_at" "_law_cell_at" ui f fd)(T:dY mg):AQ P w K mg base aD 1 f fd ["_law_script", "_law_k"] (oy K):=by
 refine F.ok za (λ_ _ _ _ h=>?_) (λ_ _ _ s H _ Q E hr h=>?_)
 ·obtain⟨a,ns,k,rfl,_⟩:=h
  rfl
 ·obtain⟨a,ns,k,rfl,hS,q⟩:=h
  refine⟨_,ae (aM (ap fv (pv 1) (aC av rfl T.len PySem.boot_len (aa (pv 0) ac)) (ax _))
    (ag (aq (ar aF (pv 0) (pv 1) (λ_ _=>rfl)))) aB) (ag (aq af)),?_⟩
  refine⟨_,rfl,_,rfl,a,_,rfl, .inl hS,_,_,rfl,rfl,_,rfl,?_⟩
  refine py (λh=>?_) λ_=>q _
  have h':(k:Int) < ((ns.map V.int).length:Nat):=of_decide_eq_true h
  rw[length_map]at h'
  have hk:k < ns.length:=by omega
  exact⟨_,rfl,_,rfl,a,_,k,V.int ns[k],rfl,rfl,hS,ak (by simp[hk]),q _⟩
theorem IG:ao ["_law_cell", "_law_k", "_law_number"] ["_law_cell", "_law_k"] (ai zg):=L2.Bt
theorem zN(F:Bo K "_law_mixed" "_law_mixed" zg f fd):AQ P w K mg base aD 1 f fd ["_law_cell", "_law_k"] lW:=by
 refine F.ok IG (λ_ _ _ _ h=>?_) (λ_ _ _ s H _ Q E hr h=>?_)
 ·obtain⟨c,k,rfl,_⟩:=h
  rfl
 ·obtain⟨c,k,rfl,hk,q⟩:=h
  refine⟨_,ae (ay (i:=2) IG.nd rfl (Or.inl rfl) (aw bz (aw fu (aw bv (aw bv (aw bz (pv 0) af) (aw fu af (pv 1))) af) af) af))
   (ag (aq (aw bz (aw fu (pv 2) (aw bv (aw cf (pv 2) af) af)) af))),?_⟩
  have pos:(0:Int) < 2147483647:=by decide
  refine⟨_,rfl,_,_,rfl,rfl,pos,_,rfl,_,_,rfl,rfl, .inl ⟨by decide,by decide⟩,_,_,rfl,rfl,_,_,rfl,rfl,_,_,rfl,rfl, .inr ⟨by decide,by decide⟩,_,_,rfl,rfl,pos,?_⟩
  dsimp only
  have h1:=emod_nonneg ((c % 2147483647 + 7919 * (k:Int) + 1) * 48271) (show (2147483647:Int) ≠ 0 by decide)
  have h2:=emod_lt_of_pos ((c % 2147483647 + 7919 * (k:Int) + 1) * 48271) pos
  generalize (c % 2147483647 + 7919 * (k:Int) + 1) * 48271 % 2147483647=m at h1 h2
  refine⟨_,rfl,_,rfl,_,_,rfl,rfl,⟨by decide,by decide⟩,_,_,rfl,rfl,_,_,rfl,rfl, .inl ⟨by omega,by omega⟩,_,_,rfl,rfl,pos,?_⟩
  exact q _ (emod_nonneg _ (by decide))
abbrev Es:=List (Nat × Nat)
noncomputable def lk(fs:Es)(p:Nat):Option Nat:=(fs.find? λx=>decide (x.1=p)).map (·.2)
theorem gS(h:lk fs p=some d):(p,d) ∈ fs:=by
 unfold lk at h
 cases e:fs.find? (λx=>decide (x.1=p)) with
 | none=>rw[e]at h;cases h
 | some x =>
  rw[e]at h
  have h1:=List.find?_some e
  have h2:=List.mem_of_find?_eq_some e
  have h3:x.2=d:=Option.some.inj h
  have h4:x.1=p:=of_decide_eq_true h1
  rw[←h3,←h4];exact h2
theorem Dt :lk fs p=none↔p ∉ fs.map (·.1):=by
 unfold lk
 rw[Option.map_eq_none_iff,List.find?_eq_none]
 constructor
 ·intro h m
  obtain⟨x,hx,e⟩:=mem_map.mp m
  exact h x hx (decide_eq_true e)
 ·intro h x hx e
  exact h (mem_map.mpr ⟨x,hx,of_decide_eq_true e⟩)
theorem ir(hn:(fs.map (·.1)).Nodup)(h:(p,d) ∈ fs):lk fs p=some d:=by
 cases e:lk fs p with
 | none=>exact absurd (mem_map.mpr ⟨_,h,rfl⟩) (Dt.mp e)
 | some d' =>
  have h':=gS e
  have:∀{l:Es},(l.map (·.1)).Nodup->(p,d) ∈ l->(p,d') ∈ l->d' = d:=by
   intro l
   induction l with
   | nil=>intro _ h;cases h
   | cons x l ih =>
    intro hn h1 h2
    rw[map_cons,nodup_cons]at hn
    rcases mem_cons.mp h1 with h1 | h1
    ·rcases mem_cons.mp h2 with h2 | h2
     ·rw[←h1]at h2;exact(Prod.mk.inj h2).2
     ·exact absurd (mem_map.mpr ⟨_,h2,by rw[←h1]⟩) hn.1
    ·rcases mem_cons.mp h2 with h2 | h2
     ·exact absurd (mem_map.mpr ⟨_,h1,by rw[←h2]⟩) hn.1
     ·exact ih hn.2 h1 h2
  rw[this hn h h']
structure E9(n:Nat)(es:Es)(g:Nat)(fs:Es)(i:Nat):Prop where
 nd:(fs.map (·.1)).Nodup
 lt:∀x ∈ fs,x.1 < n
 g0:(g,0) ∈ fs
 up:∀p d,(p,d) ∈ fs->(p=g/\d=0)∨∃q d',d=d' + 1/\(q,d') ∈ fs/\(p,q) ∈ es
 sorted:fs.Pairwise λx y=>x.2 <= y.2
 near:∀y,fs[i]? = some y->∀x ∈ fs,x.2 <= y.2 + 1
 cl:∀k q d:Nat,k < i->fs[k]? = some (q,d)->∀s,(s,q) ∈ es->∃d',(s,d') ∈ fs/\d' <= d + 1
 ix:∀j p d:Nat,fs[j]? = some (p,d)->d <= j
 le:i <= fs.length
theorem E9.B9(b:E9 n es g fs i):fs.length <= n:=by
 have:=gQ n (fs.map (·.1)) b.nd λx hx=>by
  obtain⟨y,hy,rfl⟩:=mem_map.mp hx
  exact b.lt y hy
 rwa [length_map]at this
theorem si(hg:g < n):E9 n es g [(g,0)] 0 where
 nd:=by simp
 lt:=λx hx=>by rw[mem_singleton.mp hx];exact hg
 g0:=mem_singleton.mpr rfl
 up:=λp d h=>by
  have:=mem_singleton.mp h
  exact .inl (Prod.mk.inj this)
 sorted:=by simp
 near:=λy hy x hx=>by rw[mem_singleton.mp hx];exact zero_le _
 cl:=λk _ _ h=>absurd h (not_lt_zero _)
 ix:=λj p d h=>by
  cases j with
  | zero=>have:=Option.some.inj h;have:=(Prod.mk.inj this).2;omega
  | succ j=>simp at h
 le:=zero_le _
theorem E9.push(b:E9 n es g fs i)(hy:fs[i]? = some (p,d))(hs:s < n)(hl:(s,p) ∈ es)(hn:lk fs s=none):E9 n es g (fs ++ [(s,d + 1)]) i where
 nd:=by
  rw[map_append,List.nodup_append]
  refine⟨b.nd,by simp,λa ha c hc=>?_⟩
  have hc:c=s:=by simpa using hc
  intro z
  rw[z,hc]at ha
  exact Dt.mp hn ha
 lt:=λx hx=>by
  rcases mem_append.mp hx with h | h
  ·exact b.lt x h
  ·rw[mem_singleton.mp h];exact hs
 g0:=mem_append_left _ b.g0
 up:=λq e h=>by
  rcases mem_append.mp h with h | h
  ·rcases b.up q e h with h | ⟨q',d',h1,h2,h3⟩
   ·exact .inl h
   ·exact .inr ⟨q',d',h1,mem_append_left _ h2,h3⟩
  ·obtain⟨h1,h2⟩:=Prod.mk.inj (mem_singleton.mp h)
   subst h1 h2
   exact .inr ⟨p,d,rfl,mem_append_left _ (mem_of_getElem? hy),hl⟩
 sorted:=by
  rw[List.pairwise_append]
  refine⟨b.sorted,by simp,λx hx y hy'=>?_⟩
  rw[mem_singleton.mp hy']
  exact b.near _ hy x hx
 near:=λy hy' x hx=>by
  have hi:i < fs.length:=(gQ0 hy)
  rw[getElem?_append_left hi,hy]at hy'
  rw[←Option.some.inj hy']
  rcases mem_append.mp hx with h | h
  ·exact b.near _ hy x h
  ·rw[mem_singleton.mp h];exact le_refl _
 cl:=λk q e hk hq t ht=>by
  have hi:i < fs.length:=(gQ0 hy)
  rw[getElem?_append_left (by omega)]at hq
  obtain⟨d',h1,h2⟩:=b.cl k q e hk hq t ht
  exact⟨d',mem_append_left _ h1,h2⟩
 ix:=λj q e h=>by
  have hi:i < fs.length:=(gQ0 hy)
  have hd:=b.ix i p d hy
  rcases lt_or_ge j fs.length with hj | hj
  ·rw[getElem?_append_left hj]at h;exact b.ix j q e h
  ·rw[getElem?_append_right hj]at h
   have hj0:j - fs.length=0:=by
    have:=(gQ0 h)
    simp at this;omega
   rw[hj0]at h
   have:=(Prod.mk.inj (Option.some.inj h)).2
   omega
 le:=le_trans b.le (by rw[length_append];omega)
theorem E9.next(b:E9 n es g fs i)(hy:fs[i]? = some (p,d))(hc:∀s,(s,p) ∈ es->s ∈ fs.map (·.1)):E9 n es g fs (i + 1) where
 nd:=b.nd
 lt:=b.lt
 g0:=b.g0
 up:=b.up
 sorted:=b.sorted
 near:=λy hy' x hx=>by
  have hi:i < fs.length:=(gQ0 hy)
  have Tp:i + 1 < fs.length:=(gQ0 hy')
  have h1:=b.near _ hy x hx
  have h2:=pairwise_iff_getElem.mp b.sorted i (i + 1) hi Tp (lt_succ_self _)
  have e1:fs[i]=(p,d):=(List.getElem?_eq_some_iff.mp hy).2
  have e2:fs[i + 1]=y:=(List.getElem?_eq_some_iff.mp hy').2
  rw[e1,e2]at h2
  have h2:d <= y.2:=h2
  have h1:x.2 <= d + 1:=h1
  omega
 cl:=λk q e hk hq s hs=>by
  rcases lt_or_ge k i with h | h
  ·exact b.cl k q e h hq s hs
  ·have:k=i:=by omega
   subst this
   rw[hy]at hq
   obtain⟨h1,h2⟩:=Prod.mk.inj (Option.some.inj hq)
   subst h1 h2
   obtain⟨x,hx,e⟩:=mem_map.mp (hc s hs)
   exact⟨x.2,by rw[←e];exact hx,b.near _ hy x hx⟩
 ix:=b.ix
 le:=(gQ0 hy)
structure AM(n:Nat)(es:Es)(g:Nat)(fs:Es):Prop where
 nd:(fs.map (·.1)).Nodup
 lt:∀x ∈ fs,x.1 < n
 g0:lk fs g=some 0
 up:∀p d,lk fs p=some d->(p=g/\d=0)∨∃q d',d=d' + 1/\lk fs q=some d'/\(p,q) ∈ es
 cl:∀s q d,(s,q) ∈ es->lk fs q=some d->∃d',lk fs s=some d'/\d' <= d + 1
 B9:∀p d,lk fs p=some d->d < n
theorem E9.far(b:E9 n es g fs fs.length):AM n es g fs where
 nd:=b.nd
 lt:=b.lt
 g0:=ir b.nd b.g0
 up:=λp d h=>by
  rcases b.up p d (gS h) with h | ⟨q,d',h1,h2,h3⟩
  ·exact .inl h
  ·exact .inr ⟨q,d',h1,ir b.nd h2,h3⟩
 cl:=λs q d hs hq=>by
  obtain⟨k,hk⟩:=List.getElem?_of_mem (gS hq)
  obtain⟨d',h1,h2⟩:=b.cl k q d (gQ0 hk) hk s hs
  exact⟨d',ir b.nd h1,h2⟩
 B9:=λp d h=>by
  obtain⟨k,hk⟩:=List.getElem?_of_mem (gS h)
  have h1:=b.ix k p d hk
  have h2:=(gQ0 hk)
  have h3:=b.B9
  omega
noncomputable def fk(x:Nat × Nat):L2.Key × V:=(Sum.inl (x.1:Int),V.int (x.2:Int))
noncomputable def zp(x:Nat × Nat):Int × Int:=((x.1:Int),(x.2:Int))
theorem gs(p:Nat):∀fs:Es,gw (fs.map fk) (Sum.inl (p:Int))=(lk fs p).map λd:Nat=>V.int (d:Int)
 | []=>rfl
 | x :: fs=>by
  have ih:=gs p fs
  unfold gw lk at ih ⊢
  rw[map_cons,find?_cons,find?_cons]
  by_cases h:x.1=p
  ·have h1:(fk x).1=(Sum.inl (p:Int):L2.Key):=by rw[←h];rfl
   rw[decide_eq_true h,decide_eq_true h1];rfl
  ·have h1:¬(fk x).1=(Sum.inl (p:Int):L2.Key):=λz=>h (by have:=Sum.inl.inj z;omega)
   rw[decide_eq_false h,decide_eq_false h1];exact ih
theorem zu{s d:Nat}(h:lk fs s=none):dD (fs.map fk) (Sum.inl (s:Int)) (V.int (d:Int))=(fs ++ [(s,d)]).map fk:=by
 rw[ut _ (by rw[gs,h];rfl),map_append];rfl
noncomputable def gY(es:Es)(p:Nat):List Nat:=(List.range es.length).filter λk=>decide ((es.getD k (0,0)).2=p)
noncomputable def fq(es:Es)(p:Nat):List Nat:=(List.range es.length).filter λk=>decide ((es.getD k (0,0)).1=p)
theorem pJ(es:Es)(k:Nat):(es.map zp).getD k (0,0)=zp (es.getD k (0,0)):=by
 rw[getD_eq_getElem?_getD,getD_eq_getElem?_getD,getElem?_map]
 cases es[k]?<;>rfl
theorem NB(es:Es)(p:Nat):j7 Prod.snd (es.map zp) (p:Int) (es.map zp).length=nV (gY es p):=by
 unfold j7 gY nV
 rw[length_map]
 congr 1
 refine filter_congr λk _=>?_
 rw[pJ]
 show decide (((es.getD k (0,0)).2:Int)=(p:Int))=decide ((es.getD k (0,0)).2=p)
 by_cases h:(es.getD k (0,0)).2=p
 ·rw[decide_eq_true h,decide_eq_true (by omega)]
 ·rw[decide_eq_false h,decide_eq_false (by omega)]
theorem zB(es:Es)(p:Nat):j7 Prod.fst (es.map zp) (p:Int) (es.map zp).length=nV (fq es p):=by
 unfold j7 fq nV
 rw[length_map]
 congr 1
 refine filter_congr λk _=>?_
 rw[pJ]
 show decide (((es.getD k (0,0)).1:Int)=(p:Int))=decide ((es.getD k (0,0)).1=p)
 by_cases h:(es.getD k (0,0)).1=p
 ·rw[decide_eq_true h,decide_eq_true (by omega)]
 ·rw[decide_eq_false h,decide_eq_false (by omega)]
theorem wL(es:Es)(p:Nat):(fq es p).length <= es.length:=by
 unfold fq
 exact le_trans (length_filter_le _ _) (by rw[length_range];exact le_refl _)
theorem NC(h:k ∈ gY es p):∃s,es[k]? = some (s,p)/\es.getD k (0,0)=(s,p):=by
 obtain⟨h1,h2⟩:=mem_filter.mp h
 have hk:=mem_range.mp h1
 have e:=getElem?_eq_getElem hk
 have e2:es.getD k (0,0)=es[k]:=by rw[getD_eq_getElem?_getD,e];rfl
 have h2:(es.getD k (0,0)).2=p:=of_decide_eq_true h2
 refine⟨es[k].1,?_,?_⟩
 ·rw[e,←h2,e2]
 ·rw[e2,←h2,e2]
def PR(n:Nat)(es:Es):Prop:=∀e ∈ es,e.1 < n/\e.2 < n
inductive yt(c:Cs)(vs:List V)(H:Hp)(Q:VK)(E:XK):Prop
 | mk (lx Bh lt:Addr) (AY:List V) (n:Nat) (es:Es) (g:Nat) (_:vs=[.ref lx, .int g]) (_:cy H c lx Bh lt (n:Int) AY (es.map zp)) (_:PR n es) (_:es.length <= 100) (_:n <= 100) (_:g < n) (_:∀(fa:Addr)(fs:Es)(H':Hp),AO H H'->H fa=none->AM n es g fs->H' fa=some (.dK (fs.map fk))->Q (.ref fa) H')
structure Lm(K:Frag)(c:Cs)(fs fe fo fi:Addr)(ds de do' di:FuncData):Prop where
 ms:bG K c.land "start_of" fs
 bs:Binds K ds ["self", "lane"] []
 me:bG K c.land "end_of" fe
 be:Binds K de ["self", "lane"] []
 mo:bG K c.land "out_of" fo
 bo:Binds K do' ["self", "place"] []
 mi:bG K c.land "into" fi
 bi:Binds K di ["self", "place"] []
abbrev NH:List Str:=["land", "goal", "far", "line", "looked_at", "place", "lane", "start"]
theorem IH:ao NH ["land", "goal"] (ai zl):=L2.Bt
theorem zZ(F:Bo K "how_far" "how_far" zl f fd)(T:dY mg)(L:jK K c)(M:Lm K c f1 f2 f3 f4 d1 d2 d3 d4)
  (Gs:AQ P w K mg base aD 1 f1 d1 ["self", "lane"] (lc c Prod.fst)) (Gi:AQ P w K mg base aD 1 f4 d4 ["self", "place"] (qW c Prod.snd)):AQ P w K mg base aD 2 f fd ["land", "goal"] (yt c):=by
 refine F.ok IH (λ_ _ _ _ h=>?_) (λ_ _ _ s H _ Q E hr h=>?_)
 ·obtain⟨lx,Bh,lt,AY,n,es,g,rfl,_⟩:=h
  rfl
 ·obtain⟨lx,Bh,lt,AY,n,es,g,rfl,hL,CM,IF,hn,hg,q⟩:=h
  have hu:=kC hr
  refine⟨_,ae (ay (i:=2) IH.nd rfl (Or.inl rfl) (wK (uz (pv 1) af wI) rfl rfl (by intro z;cases z) (by decide)))
   (ae (ay (i:=3) IH.nd rfl (Or.inl rfl) (aP (aa (pv 1) ac)))
   (ae (ay (i:=4) IH.nd rfl (Or.inl rfl) af)
   (ae (uw PassesOwn.never (ap fv (pv 4) (aC av rfl T.len PySem.boot_len (aa (pv 3) ac)) (ax _))
    (ae (ay (i:=5) IH.nd rfl (Or.inl rfl) (ar aF (pv 3) (pv 4) (λ_ _=>rfl)))
    (ae (zw (i:=4) IH.nd rfl (Or.inl rfl) af Aq)
    (ag (bK PassesOwn.never rfl (bF (aE (pv 0) L.cl M.mi Gi hr M.bi .nil am (aa (pv 5) ac))) (au (i:=6) IH.nd rfl (Or.inl rfl))
     (ae (ay (i:=7) IH.nd rfl (Or.inl rfl) (aE (pv 0) L.cl M.ms Gs hr M.bs .nil am (aa (pv 6) ac)))
     (ag (aM (uv (rl hu (pv 7) (pv 2)))
      (ae (wH hu (pv 2) (pv 7) (aw bv (qo hu (pv 2) (pv 5) (λ_ _=>rfl)) af) rfl)
      (ag (aS (ce plainAttrs_list PySem.F.slot_list_append PySem.F.type_list_append bj (pv 3) (aa (pv 7) ac))))) aB))))))))
   (ag (aq (pv 2)))))),?_⟩
  have land:∀{H':Hp},AO H H'->cy H' c lx Bh lt (n:Int) AY (es.map zp):=λs'=>⟨s' _ _ hL.1,s' _ _ hL.2.1,Bi.same s' hL.2.2⟩
  refine λfa EA=>⟨_,rfl,ad,[fk (g,0)],rfl,(by show 1 <= 15;decide),?_⟩
  have s0:AO H (upd (upd H fa (.dK [])) fa (.dK (fB [] [fk (g,0)]))):=λb o e=>by rw[ah (aj e EA),ah (aj e EA)];exact e
  have Tq:(upd (upd H fa (.dK [])) fa (.dK (fB [] [fk (g,0)]))) fa=some (.dK ([(g,0)].map fk)):=ad
  generalize upd (upd H fa (.dK [])) fa (.dK (fB [] [fk (g,0)]))=H0 at s0 Tq ⊢
  refine⟨_,rfl,by show 1 <= sizeLine;decide,λln Bs=>?_⟩
  have s1:=s0.new (o := .lst [.int g]) Bs
  have Tr:H ln=none:=s0.free Bs
  have PJ:(upd H0 ln (.lst [.int g])) ln=some (.lst (nV ([(g,0)].map (·.1)))):=ad
  have Xu:(upd H0 ln (.lst [.int g])) fa=some (.dK ([(g,0)].map fk)):=by rw[ah (aj Tq Bs)];exact Tq
  generalize upd H0 ln (.lst [.int g])=H1 at s1 PJ Xu ⊢
  refine⟨λm σ H'=>∃(fs:Es)(i:Nat)(a5 a6 a7:Option V),m=n - i/\E9 n es g fs i/\AO H H'/\H' fa=some (.dK (fs.map fk))/\H' ln=some (.lst (nV (fs.map (·.1))))/\σ=[some (.ref lx),some (.int g),some (.ref fa),some (.ref ln),some (.int (i:Nat)),a5,a6,a7],
   ⟨n - 0,[(g,0)],0,none,none,none,rfl,si hg,s1,Xu,PJ,rfl⟩,?_⟩
  rintro m σ H2 ⟨fs,i,a5,a6,a7,rfl,hB,s2,gf,gl,rfl⟩
  have Ck:=hB.B9
  refine⟨_,rfl,_,rfl,ln,_,rfl, .inl (AV.of gl),_,_,rfl,rfl,_,rfl,?_⟩
  by_cases hi:i < fs.length
  rotate_left
  ·have e:i=fs.length:=by have:=hB.le;omega
   subst e
   rw[decide_eq_false (by rw[dA,length_map];omega)]
   exact aG ⟨_,rfl,q fa fs H2 s2 EA hB.far gf⟩
  rw[decide_eq_true (by rw[dA,length_map];omega)]
  have hy:=getElem?_eq_getElem hi
  generalize fs[i]=pd at hy
  obtain⟨p,d⟩:=pd
  have hp:p < n:=hB.lt _ (mem_of_getElem? hy)
  have Cz:(nV (fs.map (·.1)))[i]? = some (.int (p:Int)):=l8 (by rw[getElem?_map,hy];rfl)
  refine aH ⟨λσ' H'=>∃(B3:Es)(a5 a6 a7:Option V),E9 n es g B3 (i + 1)/\AO H H'/\H' fa=some (.dK (B3.map fk))/\H' ln=some (.lst (nV (B3.map (·.1))))/\σ' = [some (.ref lx),some (.int g),some (.ref fa),some (.ref ln),some (.int ((i:Int) + 1)),a5,a6,a7],
   λσ' H' AU=>by obtain⟨B3,a5,a6,a7,h1,h2,h3,h4,h5⟩:=AU;exact⟨n - (i + 1),by omega,B3,i + 1,a5,a6,a7,rfl,h1,h2,h3,h4,h5⟩,?_⟩
  refine⟨_,rfl,_,rfl,ln,_,_,_,rfl,rfl,AV.of gl,ak Cz,?_⟩
  refine⟨_,rfl,_,_,rfl,rfl,?_⟩
  refine⟨_,rfl,lx,Bh,_,rfl,(land s2).1,rfl,_,rfl,lx,Bh,lt,(n:Int),AY,es.map zp,(p:Int),rfl,land s2,by rw[length_map];omega,λH3 Ia s3 Tt=>?_⟩
  rw[NB]
  have u3:=s3.new (o := .lst (nV (gY es p))) Tt
  have gI:(upd H3 Ia (.lst (nV (gY es p)))) Ia=some (.lst (nV (gY es p))):=ad
  have nIl:Ia ≠ ln:=Ne.symm (aj (s3 _ _ gl) Tt)
  have nIf:Ia ≠ fa:=Ne.symm (aj (s3 _ _ gf) Tt)
  have Xv:ln ≠ fa:=b7 gl gf (by intro z;cases z)
  generalize upd H3 Ia (.lst (nV (gY es p)))=H4 at u3 gI ⊢
  refine⟨Ia,rfl,⟨_,AV.of gI⟩,?_⟩
  refine fG (K:=K) (a:=Ia) (xs:=nV (gY es p)) (λm σ H5=>∃(B3:Es)(a6 a7:Option V),E9 n es g B3 i/\B3[i]? = some (p,d)/\(∀k ∈ (gY es p).take m,(es.getD k (0,0)).1 ∈ B3.map (·.1))/\AO H H5/\H5 Ia=some (.lst (nV (gY es p)))/\H5 fa=some (.dK (B3.map fk))/\H5 ln=some (.lst (nV (B3.map (·.1)))) /\
    σ=[some (.ref lx),some (.int g),some (.ref fa),some (.ref ln),some (.int ((i:Int) + 1)),some (.int p),a6,a7])
   ⟨fs,_,_,hB,hy,λk hk=>by simp at hk,s2.trans u3,gI,u3 _ _ gf,u3 _ _ gl,rfl⟩ (λm σ H5 _ AU=>by obtain⟨_,_,_,_,_,_,_,g5,_⟩:=AU;exact AV.of g5) ?_ ?_
  ·rintro m v σ H5 hv ⟨B3,a6,a7,Kr,hy',Ca,s5,Tu,Ks,PU,rfl⟩
   have hm:m < (gY es p).length:=by have:=(gQ0 hv);rw[dA]at this;exact this
   have hk0:=getElem?_eq_getElem hm
   have JX:=l8 hk0
   rw[JX]at hv
   have hv:=Option.some.inj hv
   subst hv
   generalize hke:(gY es p)[m]=k at hk0
   obtain⟨st,hk1,PN⟩:=NC (mem_of_getElem? hk0)
   have Ht:=mem_of_getElem? hk1
   have Dx:=(CM _ Ht).1
   have step:∀{Tv:Es},(∀x ∈ B3.map (·.1),x ∈ Tv.map (·.1))->st ∈ Tv.map (·.1)->∀k ∈ (gY es p).take (m + 1),(es.getD k (0,0)).1 ∈ Tv.map (·.1):=λLH Nt k' Mm=>by
    rw[take_succ,hk0]at Mm
    rcases mem_append.mp Mm with h | h
    ·exact LH _ (Ca k' h)
    ·have:k' = k:=by simpa using h
     rw[this,PN];exact Nt
   refine⟨_,rfl,lx,Bh,_,rfl,(land s5).1,rfl,_,rfl,lx,Bh,lt,(n:Int),AY,es.map zp,k,zp (st,p),rfl,land s5,by rw[getElem?_map,hk1];rfl,?_⟩
   refine⟨_,rfl,_,rfl,fa,_,rfl,C4.k (k:=Sum.inl (st:Int)) Ks,_,rfl,?_⟩
   rw[gs]
   have Xw:=Kr.B9
   cases Er:lk B3 st with
   | some d'=>exact aG ⟨B3,_,_,Kr,hy',step (λx hx=>hx) (mem_map.mpr ⟨_,gS Er,rfl⟩),s5,Tu,Ks,PU,rfl⟩
   | none =>
    refine aH ?_
    refine⟨_,rfl,_,rfl,fa, .int (d:Int),rfl,?_,_,_,rfl,rfl,_,rfl,_,rfl,fa,_,rfl,F7.k (k:=Sum.inl (st:Int)) Ks (by rw[sizeLine_eq,length_map];omega),?_⟩
    ·have:=C4.k (k:=Sum.inl (p:Int)) Ks
     rw[gs,ir Kr.nd (mem_of_getElem? hy')]at this
     exact this
    dsimp only
    have ep:dD (B3.map fk) (Sum.inl (st:Int)) (V.int ((d:Int) + 1))=(B3 ++ [(st,d + 1)]).map fk:=zu (d:=d + 1) Er
    have Xx:(upd H5 fa (.dK (dD (B3.map fk) (Sum.inl (st:Int)) (V.int ((d:Int) + 1))))) Ia=some (.lst (nV (gY es p))):=by rw[ah nIf];exact Tu
    have Tw:(upd H5 fa (.dK (dD (B3.map fk) (Sum.inl (st:Int)) (V.int ((d:Int) + 1))))) ln=some (.lst (nV (B3.map (·.1)))):=by rw[ah Xv];exact PU
    have Xy:(upd H5 fa (.dK (dD (B3.map fk) (Sum.inl (st:Int)) (V.int ((d:Int) + 1))))) fa=some (.dK ((B3 ++ [(st,d + 1)]).map fk)):=by rw[ad,ep]
    have s6:AO H (upd H5 fa (.dK (dD (B3.map fk) (Sum.inl (st:Int)) (V.int ((d:Int) + 1))))):=λb o e=>by rw[ah (aj e EA)];exact s5 _ _ e
    generalize upd H5 fa (.dK (dD (B3.map fk) (Sum.inl (st:Int)) (V.int ((d:Int) + 1))))=H6 at Xx Tw Xy s6 ⊢
    refine⟨_,rfl, .inl ⟨rfl,_,AV.of Tw⟩,_,rfl,ln,_,_,rfl,rfl,Tw,by rw[sizeLine_eq,dA,length_map];omega,?_⟩
    have Tp:i < B3.length:=(gQ0 hy')
    refine⟨B3 ++ [(st,d + 1)],_,_,Kr.push hy' Dx Ht Er,by rw[getElem?_append_left Tp];exact hy',step (λx hx=>by rw[map_append];exact mem_append_left _ hx) (by rw[map_append];exact mem_append_right _ (by simp)),λb o e=>by rw[ah (aj e Tr)];exact s6 _ _ e,by rw[ah nIl];exact Xx,by rw[ah (Ne.symm Xv)];exact Xy,?_,rfl⟩
    rw[ad,map_append,vc];rfl
  ·rintro σ H5 ⟨B3,a6,a7,Kr,hy',Ca,s5,Tu,Ks,PU,rfl⟩
   rw[dA,take_length]at Ca
   refine⟨B3,_,_,_,Kr.next hy' (λst Dx=>?_),s5,Ks,PU,rfl⟩
   obtain⟨k,hk⟩:=List.getElem?_of_mem Dx
   have hk1:es.getD k (0,0)=(st,p):=by rw[getD_eq_getElem?_getD,hk];rfl
   have:=Ca k (mem_filter.mpr ⟨mem_range.mpr (gQ0 hk),by rw[hk1];exact decide_eq_true rfl⟩)
   rw[hk1]at this
   exact this
noncomputable def j0(fs:Es)(d:Nat)(e:Nat):Bool:=match lk fs e with
 | some d'=>decide (d' + 1=d)
 | none=>false
noncomputable def dL(es fs:Es)(p d:Nat):List Nat:=(fq es p).filter λk=>j0 fs d (es.getD k (0,0)).2
theorem uA(es:Es)(p:Nat):(fq es p).Pairwise (· < ·):=List.Pairwise.filter _ pairwise_lt_range
theorem rD(es fs:Es)(p d:Nat):(dL es fs p d).Pairwise (· < ·):=List.Pairwise.filter _ (uA es p)
theorem qu(h:k ∈ dL es fs p d):k < es.length:=mem_range.mp (mem_filter.mp (mem_filter.mp h).1).1
theorem mR(h:ks.Pairwise (· < ·)):x9 (Yd.Bv ks 0)=nV ks:=by
 rw[x5,pc (ks:=ks) (ms:=iz ks) ?_ (λk=>Iff.rfl),xE];rfl
 unfold iz
 exact List.Pairwise.map _ (λa b GQ=>by show (a:Int) < (b:Int);omega) h
theorem zC(h:k ∈ fq es p):∃e,es[k]? = some (p,e)/\es.getD k (0,0)=(p,e):=by
 obtain⟨h1,h2⟩:=mem_filter.mp h
 have hk:=mem_range.mp h1
 have e:=getElem?_eq_getElem hk
 have e2:es.getD k (0,0)=es[k]:=by rw[getD_eq_getElem?_getD,e];rfl
 have h2:(es.getD k (0,0)).1=p:=of_decide_eq_true h2
 refine⟨es[k].2,?_,?_⟩
 ·rw[e,←h2,e2]
 ·rw[e2,←h2,e2]
noncomputable def vN:V->Nat
 | .int z=>z.toNat
 | _=>0
theorem i8(es fs:Es)(d:Nat):∀l:List Nat,((nV l).filter λv=>j0 fs d (es.getD (vN v) (0,0)).2).map (λv=>v)=nV (l.filter λk=>j0 fs d (es.getD k (0,0)).2)
 | []=>rfl
 | x :: l=>by
  have ih:=i8 es fs d l
  show((V.int (x:Int) :: nV l).filter _).map _=_
  rw[List.filter_cons,List.filter_cons]
  have e:vN (V.int (x:Int))=x:=toNat_natCast x
  rw[e]
  cases j0 fs d (es.getD x (0,0)).2 with
  | true=>rw[if_pos rfl,if_pos rfl,map_cons,ih];rfl
  | false=>rw[if_neg (by decide),if_neg (by decide),ih]
inductive ND(c:Cs)(vs:List V)(H:Hp)(Q:VK)(E:XK):Prop
 | mk (lx Bh lt fa:Addr) (AY:List V) (n:Nat) (es fs:Es) (g p d:Nat) (_:vs=[.ref lx, .ref fa, .int p]) (_:cy H c lx Bh lt (n:Int) AY (es.map zp)) (_:es.length <= 100) (_:Rd H fa (.dK (fs.map fk))) (_:AM n es g fs) (_:lk fs p=some d) (_:∀(D:Addr)(H':Hp),AO H H'->H D=none->H' D=some (.lst (nV (dL es fs p d)))->Q (.ref D) H')
theorem uq(h:Rd H fa (.dK (fs.map fk)))(p:Nat):C4 H fa (.int (p:Int)) ((lk fs p).map λd:Nat=>V.int (d:Int)) := .inl ⟨_,Sum.inl (p:Int),h,rfl,(gs p fs).symm⟩
theorem lr(s:AO H H')(h:Rd H a u):Rd H' a u:=by
 rcases h with h | ⟨o,h⟩
 ·exact .inl (s _ _ h)
 ·exact .inr ⟨o,s _ _ h⟩
noncomputable def NG(s:Stmt):Scope:=match aJ s with
 | .Return (some (.ListComp _ _ sc _)) _ :: _=>sc
 | _=>zQ0
theorem Tz:ao ["land", "far", "place"] ["land", "far", "place"] (ai Mc):=L2.Bt
theorem T2:BG ["land", "far", "place"] (ai Mc) (NG Mc) ["land", "far", "place"] [0,1,2]:=L2.Co
theorem T4:(["lane", "land", "far", "place"]:List Str).Nodup:=by decide +kernel
theorem NJ(F:Bo K "nearer_lanes" "nearer_lanes" Mc f fd)(T:dY mg)(L:jK K c)(M:Lm K c f1 f2 f3 f4 d1 d2 d3 d4)
  (Ge:AQ P w K mg base aD 1 f2 d2 ["self", "lane"] (lc c Prod.snd)) (Go:AQ P w K mg base aD 1 f3 d3 ["self", "place"] (qW c Prod.fst)):AQ P w K mg base aD 2 f fd ["land", "far", "place"] (ND c):=by
 refine F.ok Tz (λ_ _ _ _ h=>?_) (λ_ _ _ s H _ Q E hr h=>?_)
 ·obtain⟨lx,Bh,lt,fa,AY,n,es,fs,g,p,d,rfl,_⟩:=h
  rfl
 ·obtain⟨lx,Bh,lt,fa,AY,n,es,fs,g,p,d,rfl,hL,IF,EA,hF,Er,q⟩:=h
  have hu:=kC hr
  refine⟨_,ag (aq (bd (own:=["lane"]) (capN:=["land", "far", "place"]) (cap:=[0,1,2]) T2 rfl (bF (aE (pv 0) L.cl M.mo Go hr M.bo .nil am (aa (pv 2) ac)))
   (λC s' H' fp=>⟨au (i:=0) T4 rfl (Or.inl rfl),bQ (ap bq (u9 hu (pv 2) (aE (pv 1) L.cl M.me Ge hr M.be .nil am (aa (pv 0) ac)) ⟨rfl,rfl,rfl,rfl⟩) (aw cr (qo hu (pv 2) (pv 3) (λ_ _=>rfl)) af) (ax _)),pv 0⟩))),?_⟩
  refine⟨_,rfl,lx,Bh,_,rfl,hL.1,rfl,_,rfl,lx,Bh,lt,(n:Int),AY,es.map zp,(p:Int),rfl,hL,by rw[length_map];omega,λH1 O s1 hO=>?_⟩
  rw[zB]
  have s2:=s1.new (o := .lst (nV (fq es p))) hO
  have gO:(upd H1 O (.lst (nV (fq es p)))) O=some (.lst (nV (fq es p))):=ad
  generalize upd H1 O (.lst (nV (fq es p)))=H2 at s2 gO ⊢
  have HS:=wL es p
  refine⟨O,rfl,⟨_,AV.of gO⟩,eE (λv=>j0 fs d (es.getD (vN v) (0,0)).2) (λv=>v) (by rw[sizeLine_eq,dA];omega) (AV.of gO) ?_ ?_⟩
  ·intro v acc N hv hN
   obtain⟨k,hk,rfl⟩:=pb hv
   obtain⟨e,he1,FZ⟩:=zC hk
   have ek:vN (V.int (k:Int))=k:=toNat_natCast k
   rw[ek,FZ]at hN
   have hN:N (if j0 fs d e=true then acc ++ [V.int (k:Int)] else acc) H2:=hN
   have gd:=uq (lr s2 EA) p
   rw[Er]at gd
   refine⟨_,rfl,fa,rfl, .inl ⟨_,lr s2 EA⟩,_,rfl,lx,Bh,_,rfl,s2 _ _ hL.1,rfl,_,rfl,lx,Bh,lt,(n:Int),AY,es.map zp,k,zp (p,e),rfl,⟨s2 _ _ hL.1,s2 _ _ hL.2.1,Bi.same s2 hL.2.2⟩,by rw[getElem?_map,he1];rfl,_,uq (lr s2 EA) e,?_⟩
   refine⟨_,rfl,_,rfl,fa,_,rfl,gd,_,_,rfl,rfl,?_⟩
   unfold j0 at hN
   cases hle:lk fs e with
   | none =>
    rw[hle]at hN
    refine⟨rfl,_,rfl,?_⟩
    exact aG hN
   | some d' =>
    rw[hle]at hN
    refine⟨rfl,_,rfl,?_⟩
    show(if decide (V.int (d':Int)=V.int ((d:Int) - 1))=true then _ else _)
    by_cases hd:d' + 1=d
    ·have hN:N (if decide (d' + 1=d)=true then acc ++ [V.int (k:Int)] else acc) H2:=hN
     rw[decide_eq_true hd,if_pos rfl]at hN
     rw[decide_eq_true (by rw[show (d:Int) - 1=(d':Int) by omega])]
     exact aH ⟨_,rfl,hN⟩
    ·have hN:N (if decide (d' + 1=d)=true then acc ++ [V.int (k:Int)] else acc) H2:=hN
     rw[decide_eq_false hd,if_neg (by decide)]at hN
     rw[decide_eq_false (λz=>hd (by injection z with z;omega))]
     exact aG hN
  ·intro D hD
   rw[i8]
   exact q D _ (s2.new hD) (s2.free hD) ad
structure lM where
 tab:Addr
 near:Addr
noncomputable def kk(p g:Nat):fY:=[some (p:Int),some (g:Int)]
theorem Et :kk p g=kk p' g'↔p=p'/\g=g':=by
 unfold kk
 constructor
 ·intro h
  have h1:=List.cons.inj h
  have h2:=List.cons.inj h1.2
  have e1:=Option.some.inj h1.1
  have e2:=Option.some.inj h2.1
  omega
 ·rintro⟨rfl,rfl⟩;rfl
noncomputable def rW(es fs:Es)(p:Nat):Option V:=(lk fs p).map λd=>V.int (Yd.Bv (dL es fs p d) 0:Nat)
def nM(n:Nat)(es:Es)(kvs:List dX)(G:Nat):Prop:=(∀g,g < G->∃fs,AM n es g fs/\∀p,c7 kvs (kk p g)=rW es fs p)/\∀g,G <= g->∀p,c7 kvs (kk p g)=none
def wb(n:Nat)(es:Es)(kvs:List dX)(G:Nat)(fs:Es)(j:Nat):Prop:=(∀g,g < G->∃fs,AM n es g fs/\∀p,c7 kvs (kk p g)=rW es fs p)/\(∀p,c7 kvs (kk p G)=if p ∈ (fs.take j).map (·.1) then rW es fs p else none)/\∀g,G < g->∀p,c7 kvs (kk p g)=none
theorem rV(h:nM n es kvs G):wb n es kvs G fs 0 :=
 ⟨h.1,λp=>by rw[h.2 G (le_refl _) p,if_neg (by simp)],λg hg p=>h.2 g (by omega) p⟩
theorem xO(f:AM n es G fs)(h:wb n es kvs G fs fs.length):nM n es kvs (G + 1):=by
 refine⟨λg hg=>?_,λg hg p=>h.2.2 g (by omega) p⟩
 rcases lt_or_ge g G with h1 | h1
 ·exact h.1 g h1
 ·have e:g=G:=by omega
  subst e
  refine⟨fs,f,λp=>?_⟩
  rw[h.2.1 p,take_length]
  by_cases hp:p ∈ fs.map (·.1)
  ·rw[if_pos hp]
  ·rw[if_neg hp];unfold rW;rw[Dt.mpr hp];rfl
theorem vB(hn:(fs.map (·.1)).Nodup)(hj:fs[j]? = some (p,d))(h:wb n es kvs G fs j) :
  wb n es (eZ kvs (kk p G) b (.int (Yd.Bv (dL es fs p d) 0:Nat))) G fs (j + 1):=by
 have Er:=ir hn (mem_of_getElem? hj)
 refine⟨λg hg=>?_,λp'=>?_,λg hg p'=>?_⟩
 ·obtain⟨B3,f',h'⟩:=h.1 g hg
  refine⟨B3,f',λp'=>?_⟩
  rw[gy,if_neg (λz=>by have:=(Et.mp z).2;omega),h' p']
 ·rw[gy]
  by_cases e:p' = p
  ·subst e
   rw[if_pos rfl,if_pos (by rw[take_succ,hj,map_append];exact mem_append_right _ (by simp))]
   unfold rW;rw[Er];rfl
  ·rw[if_neg (λz=>e (Et.mp z).1),h.2.1 p',take_succ,hj,map_append]
   by_cases hm:p' ∈ (fs.take j).map (·.1)
   ·rw[if_pos hm,if_pos (mem_append_left _ hm)]
   ·rw[if_neg hm,if_neg]
    intro z
    rcases mem_append.mp z with z | z
    ·exact hm z
    ·exact e (by simpa using z)
 ·rw[gy,if_neg (λz=>by have:=(Et.mp z).2;omega),h.2.2 g hg p']
def yg(P:Program)(w:World)(H:Hp)(ts:lM)(x dx:Addr)(lx:Addr)(de:Addr)(kvs:List dX):Prop:=H x=some (.ins ts.near dx [("land", .ref lx),("entries", .ref de)])/\B7 P w H de kvs
inductive sY(P:Program)(w:World)(c:Cs)(ts:lM)(vs:List V)(H:Hp)(Q:VK)(E:XK):Prop
 | mk (x dx lx Bh lt:Addr) (AY:List V) (n:Nat) (es:Es) (_:vs=[.ref x, .ref lx]) (_:H x=some (.ins ts.near dx [])) (_:cy H c lx Bh lt (n:Int) AY (es.map zp)) (_:PR n es) (_:es.length <= 100) (_:n <= 100) (_:∀H' de kvs,Off x H H'->yg P w H' ts x dx lx de kvs->nM n es kvs n->Q .Bj H')
structure T5(K:Frag)(mg:Str->Option Value)(ts:lM)(f1:Addr)(d1:FuncData):Prop where
 cl:CO K ts.near
 n1:Bd K ts.near "land"
 n2:Bd K ts.near "entries"
 mt:mg "Table" = some (.ref ts.tab)
 cm:qR K ts.tab "__init__" f1
 bt:Binds K d1 ["self", "land"] []
abbrev NNr:List Str:=["self", "land", "goal", "far", "place"]
theorem Hu:ao NNr ["self", "land"] (ai tZ):=L2.Bt
theorem xh(F:Bo K "__init__" "Nearer.__init__" tZ f fd)(T:dY mg)(L:jK K c)(B:T5 K mg ts ft dt)(G1:AQ P w K mg base aD 1 ft dt ["self", "land"] (pQ K))
  (mh:mg "how_far" = some (.ref fh)) (kh:keepIn K (.ref fh)=true) (bh:Binds K dh ["land", "goal"] []) (Gh:AQ P w K mg base aD 2 fh dh ["land", "goal"] (yt c))
  (mn:mg "nearer_lanes" = some (.ref fn)) (kn:keepIn K (.ref fn)=true) (bn:Binds K dn ["land", "far", "place"] []) (Gn:AQ P w K mg base aD 2 fn dn ["land", "far", "place"] (ND c))
  (ms:mg "set_of" = some (.ref fs)) (ks:keepIn K (.ref fs)=true) (bs:Binds K ds ["numbers"] []) (Gs:AQ P w K mg base aD 1 fs ds ["numbers"] (sQ K)) :
  AQ P w K mg base aD 3 f fd ["self", "land"] (sY P w c ts):=by
 refine F.ok Hu (λ_ _ _ _ h=>?_) (λ_ _ _ s H _ Q E hr h=>?_)
 ·obtain⟨x,dx,lx,Bh,lt,AY,n,es,rfl,_⟩:=h
  rfl
 ·obtain⟨x,dx,lx,Bh,lt,AY,n,es,rfl,hx,hL,CM,IF,hn,q⟩:=h
  have B0:Bc 1 _:=hr.mono (by decide)
  have hu:=kC hr
  refine⟨_,ae (aS (ju (dq (v := .ref ts.tab) rfl B.mt rfl) B.cm G1 B0 B.bt .nil am (aa (pv 0) (aa (pv 1) ac))))
   (ae (bu (pv 0) (show PE _ _ (sH P w) from qk) rfl)
   (ag (bK PassesOwn.never rfl (aQ rfl T.range (aa (al (pv 1) rfl) ac)) (au (i:=2) Hu.nd rfl (Or.inl rfl))
    (ae (ay (i:=3) Hu.nd rfl (Or.inl rfl) (az Gh hr rfl mh kh bh .nil am (aa (pv 1) (aa (pv 2) ac))))
    (ag (bK PassesOwn.never rfl (wJ (pv 3)) (au (i:=4) Hu.nd rfl (Or.inl rfl))
     (ag (qh hu (al (pv 0) rfl) (aK (aa (pv 4) (aa (pv 2) ac))) (az Gs B0 rfl ms ks bs .nil am (aa (az Gn hr rfl mn kn bn .nil am (aa (pv 1) (aa (pv 3) (aa (pv 4) ac)))) ac)) rfl)))))))),?_⟩
  refine⟨rfl,_,rfl,_,rfl,x,ts.near,dx,_,rfl,hx,B.cl,B.n1,?_⟩
  refine λde GV=>⟨_,rfl,x,ts.near,dx,[("land", .ref lx)],rfl,by rw[ah (aj ad GV)];exact ad,B.cl,B.n2,by show 1 < 1000;decide,?_⟩
  have Ic:x ≠ de:=aj ad GV
  have F8:H de=none:=by rw[ah (Ne.symm Ic)]at GV;exact GV
  generalize F0:upd (upd (upd H x (.ins ts.near dx [("land", .ref lx)])) de (jM P w de [])) x (.ins ts.near dx (aR "entries" (.ref de) [("land", .ref lx)]))=H2
  have o2:Off x H H2:=λb o hb e=>by rw[←F0,ah hb,ah (aj e F8),ah hb];exact e
  have x2:H2 x=some (.ins ts.near dx [("land", .ref lx),("entries", .ref de)]):=by rw[←F0,ad];rfl
  have d2:B7 P w H2 de []:=⟨by rw[←F0,ah (Ne.symm Ic),ad],λy hy=>by cases hy⟩
  have CL:=Off.land o2 hx hL
  refine⟨_,rfl,lx,c.land,Bh,_,_,rfl,CL.1,L.cl,L.np,rfl,(n:Int),rfl,by omega,by omega,?_⟩
  rw[toNat_natCast]
  refine b6 (n:=n) (λG σ H3=>∃(a2 a3 a4:Option V)(kvs:List dX),Off x H H3/\yg P w H3 ts x dx lx de kvs/\kvs.length <= G * 100/\nM n es kvs G/\σ=[some (.ref x),some (.ref lx),a2,a3,a4])
   ⟨none,none,none,[],o2,⟨x2,d2⟩,zero_le _,⟨λg hg=>absurd hg (not_lt_zero _),λg _ p=>rfl⟩,rfl⟩ ?_ ?_
  ·rintro G σ H3 hG ⟨a2,a3,a4,kvs,o3,n3,l3,e3,rfl⟩
   rw[zero_add]
   have Dq:=Off.land o3 hx hL
   refine⟨_,rfl,_,rfl,lx,Bh,lt,AY,n,es,G,rfl,Dq,CM,IF,hn,hG,λfa B3 H4 s4 EA hF gfa=>?_⟩
   have Ck:B3.length <= n:=by
    have:=gQ n (B3.map (·.1)) hF.nd λy hy=>by
     obtain⟨z,hz,rfl⟩:=mem_map.mp hy
     exact hF.lt z hz
    rwa [length_map]at this
   refine⟨_,rfl,fa,_,rfl,gfa,λob=>?_⟩
   have Xz:(upd H4 fa (.Cy ob (.dK (B3.map fk)))) fa=some (.Cy ob (.dK (B3.map fk))):=ad
   have s5:AO H3 (upd H4 fa (.Cy ob (.dK (B3.map fk)))):=λb o e=>by rw[ah (aj e EA)];exact s4 _ _ e
   generalize upd H4 fa (.Cy ob (.dK (B3.map fk)))=H5 at Xz s5 ⊢
   have nfa:H fa=none∨fa=x:=by
    by_cases h:fa=x
    ·exact .inr h
    ·exact .inl (by cases e:H fa with | none=>rfl | some o=>rw[o3 _ _ h e]at EA;cases EA)
   refine v5 (a:=fa) (o:=ob) (kvs:=B3.map fk) (λj σ H6=>∃(a4:Option V)(kvs:List dX),Off x H H6/\yg P w H6 ts x dx lx de kvs/\kvs.length <= G * 100 + j/\wb n es kvs G B3 j/\H6 fa=some (.Cy ob (.dK (B3.map fk)))/\σ=[some (.ref x),some (.ref lx),some (.int G),some (.ref fa),a4])
    ⟨_,kvs,o3.same s5,⟨s5 _ _ n3.1,n3.2.same s5⟩,l3,rV e3,Xz,rfl⟩ (λj σ H6 _ AU=>by obtain⟨_,_,_,_,_,_,g6,_⟩:=AU;exact g6) ?_ ?_
   ·rintro j k σ H6 hk ⟨a4,kvs,o6,n6,l6,e6,g6,rfl⟩
    have hj:j < B3.length:=by have:=(gQ0 hk);simpa using this
    have hjp:=getElem?_eq_getElem hj
    generalize B3[j]=pd at hjp
    obtain⟨p,d⟩:=pd
    have ek:k=Sum.inl (p:Int):=by
     rw[getElem?_map,getElem?_map,hjp]at hk
     exact(Option.some.inj hk).symm
    subst ek
    rw[show kV (Sum.inl (p:Int))=V.int (p:Int) from rfl]
    have Er:=ir hF.nd (mem_of_getElem? hjp)
    have hL6:=Off.land o6 hx hL
    refine⟨_,rfl,_,rfl,_,rfl,lx,Bh,lt,fa,AY,n,es,B3,G,p,d,rfl,hL6,IF, .inr ⟨_,g6⟩,hF,Er,λO H7 s7 hO gO=>?_⟩
    refine⟨O,dL es B3 p d,rfl,AV.of gO,λk hk=>by have:=qu hk;omega,?_⟩
    have n7x:=s7 _ _ n6.1
    refine⟨_,rfl,x,ts.near,dx,_,_,rfl,n7x,B.cl,B.n2,rfl,_,rfl,_,rfl,by show 2 <= sizeLine;decide,λkt Se=>?_⟩
    have s8:=s7.new (o := .tup [.int p, .int G]) Se
    have k8:(upd H7 kt (.tup [.int p, .int G])) kt=some (.tup ((kk p G).map sm)):=ad
    generalize upd H7 kt (.tup [.int p, .int G])=H8 at s8 k8 ⊢
    have d8:=n6.2.same s8
    refine⟨de,kvs,kk p G,kt,rfl,d8,rfl,k8,by rw[sizeLine_eq];have:G * 100 <= 100 * 100:=Nat.mul_le_mul_right _ (by omega);omega,?_⟩
    have nfd:fa ≠ de:=λz=>by
     have h1:=s8 _ _ g6
     rw[z,d8.1]at h1
     cases h1
    have NK:∀b ks,H8 b=some (.tup ks)->(upd H8 de (jM P w de (eZ kvs (kk p G) kt (.int (Yd.Bv (dL es B3 p d) 0:Nat))))) b=some (.tup ks):=λb ks e=>by
     rw[ah (λz=>by rw[z,d8.1]at e;cases e)];exact e
    refine⟨_,eZ kvs (kk p G) kt (.int (Yd.Bv (dL es B3 p d) 0:Nat)),λb o hb e=>?_,⟨?_,ad,jZ (F:=λk a=>(upd H8 de (jM P w de (eZ kvs (kk p G) kt (.int (Yd.Bv (dL es B3 p d) 0:Nat))))) a=some (.tup (k.map sm))) (λy hy=>NK _ _ (d8.2 y hy)) (NK _ _ k8)⟩,?_,vB hF.nd hjp e6,?_,rfl⟩
    ·rw[ah (aj e F8)];exact s8 _ _ (o6 _ _ hb e)
    ·rw[ah Ic];exact s8 _ _ n6.1
    ·have:=eY (kvs:=kvs) (k:=kk p G) (b:=kt) (v := .int (Yd.Bv (dL es B3 p d) 0:Nat));omega
    ·rw[ah nfd];exact s8 _ _ g6
   ·rintro σ H6 ⟨a4,kvs,o6,n6,l6,e6,g6,rfl⟩
    rw[length_map]at l6 e6
    refine⟨_,_,_,kvs,o6,n6,?_,xO hF e6,rfl⟩
    rw[Nat.succ_mul];omega
  ·rintro σ H3 ⟨a2,a3,a4,kvs,o3,n3,l3,e3,rfl⟩
   exact q H3 de kvs o3 n3 e3
noncomputable def kS(es fs:Es)(p:Nat):List Nat:=match lk fs p with
 | some d=>dL es fs p d
 | none=>[]
theorem lN(es fs:Es)(p:Nat):(kS es fs p).Pairwise (· < ·):=by
 unfold kS
 split
 ·exact rD _ _ _ _
 ·exact List.Pairwise.nil
theorem sy(h:k ∈ kS es fs p):k < es.length:=by
 unfold kS at h
 split at h
 ·exact qu h
 ·cases h
theorem xA(h:ks.Pairwise (· < ·)):mN (Yd.Bv ks 0)=ks:=vb (mR h)
noncomputable def NM(kvs:List dX):Wf:=λp g _=>mN (vN ((c7 kvs (kk p g)).getD (.int 0)))
def Kt(P:Program)(w:World)(ts:lM):TJ:=λH x n wy=>∃(dx lx de:Addr)(kvs:List dX)(es:Es),yg P w H ts x dx lx de kvs/\nM n es kvs n/\es.length <= 100/\∀p g k,p < n->g < n->wy p g k=NM kvs p g k
theorem pK(h:nM n es kvs n)(hg:g < n)(p:Nat)(k:Option Nat):∃fs,AM n es g fs/\NM kvs p g k=kS es fs p/\(c7 kvs (kk p g)).getD (.int 0) = .int (Yd.Bv (kS es fs p) 0:Nat):=by
 obtain⟨fs,hF,hv⟩:=h.1 g hg
 have ev:(c7 kvs (kk p g)).getD (.int 0) = .int (Yd.Bv (kS es fs p) 0:Nat):=by
  rw[hv p]
  unfold rW kS
  cases lk fs p<;>rfl
 refine⟨fs,hF,?_,ev⟩
 unfold NM
 rw[ev]
 show mN (((Yd.Bv (kS es fs p) 0:Nat):Int)).toNat=_
 rw[toNat_natCast,xA (lN es fs p)]
theorem yB(h:nM n es kvs n)(hg:g < n)(hz:z ∈ NM kvs p g k):z < es.length:=by
 obtain⟨fs,_,e,_⟩:=pK h hg p k
 rw[e]at hz
 exact sy hz
theorem Kt.keep(h:Kt P w ts H x n wy)(k:Bq H H'):Kt P w ts H' x n wy:=by
 obtain⟨dx,lx,de,kvs,es,⟨h1,h2,h3⟩,h4⟩:=h
 exact⟨dx,lx,de,kvs,es,⟨k _ _ h1 True.intro,k _ _ h2 True.intro,λy hy=>k _ _ (h3 y hy) True.intro⟩,h4⟩
inductive pZ(vs:List V)(H:Hp)(Q:VK)(E:XK):Prop
 | mk (n m:Nat) (c:Int) (_:vs=[.int n, .int m, .int c]) (_:2 <= n) (_:n <= 12) (_:m <= 100) (_:∀(D:Addr)(AX:List V)(es:Es)(H':Hp),AO H H'->H D=none->H' D=some (.lst AX)->Bi H' AX (es.map zp)->PR n es->(∀e ∈ es,e.1 ≠ e.2)->es.length=m->Q (.ref D) H')
abbrev NLn:List Str:=["_law_places", "_law_amount", "_law_cell", "_law_lanes_here", "_law_k", "_law_draw", "_law_start"]
theorem wz:ao ["self", "lane"] ["self", "lane"] (ai oE):=L2.Bt
theorem uI(F:Bo K "start_of" "Land.start_of" oE f fd)(L:jK K c):AQ P w K mg base aD 1 f fd ["self", "lane"] (lc c Prod.fst):=by
 refine F.ok wz (λ_ _ _ _ h=>?_) (λ_ _ _ s H _ Q E hr h=>?_)
 ·obtain⟨x,dx,t,n,AY,ps,k,pr,rfl,_⟩:=h
  rfl
 ·obtain⟨x,dx,t,n,AY,ps,k,pr,rfl,⟨hx,ht,hl⟩,hk,q⟩:=h
  refine⟨_,ag (aq (ar aA (ar aA (al (pv 0) rfl) (pv 1) (λ_ _=>rfl)) af (λ_ _=>rfl))),?_⟩
  obtain⟨v,hv,u,rfl,hu⟩:=Bi.GU hl hk
  refine⟨_,rfl,x,c.land,dx,_,_,rfl,hx,L.cl,L.nl,rfl,_,rfl,t,_,_,_,rfl,rfl,AZ.of ht,ak hv,u,_,0,_,rfl,rfl,AZ.of hu,ak (j:=0) rfl,q⟩
theorem T6:ao ["self", "place", "goal", "came"] ["self", "place", "goal", "came"] (ai tO):=L2.Bt
theorem uG(F:Bo K "ways" "Nearer.ways" tO f fd)(B:T5 K mg ts f1 d1)(mm:mg "members" = some (.ref fm))(km:keepIn K (.ref fm)=true)(bm:Binds K dm ["some"] [])
  (Gm:AQ P w K mg base aD 2 fm dm ["some"] sZ):AQ P w K mg base aD 3 f fd ["self", "place", "goal", "came"] (dj (Kt P w ts)):=by
 refine F.ok T6 (λ_ _ _ _ h=>?_) (λ_ _ _ s H _ Q E hr h=>?_)
 ·obtain⟨x,n,wy,p,g,k,rfl,_⟩:=h
  rfl
 ·obtain⟨x,n,wy,p,g,k,rfl,⟨dx,lx,de,kvs,es,hx,hE,IF,T7⟩,hp,hg,q⟩:=h
  rw[T7 p g k hp hg]at q
  have hu:=kC hr
  refine⟨_,ag (aq (az Gm hr rfl mm km bm .nil am (aa (mF hu (al (pv 0) rfl) (aa (aK (aa (pv 1) (aa (pv 2) ac))) (aa af ac))) ac))),?_⟩
  refine⟨_,rfl,x,ts.near,dx,_,_,rfl,hx.1,B.cl,B.n2,rfl,de,kvs,rfl,hx.2,?_⟩
  refine⟨_,rfl,_,rfl,by show 2 <= sizeLine;decide,λt ht=>?_⟩
  have s1:AO H (upd H t (.tup [.int p, .int g])):=(AO.refl H).new ht
  refine⟨_,_,c7 kvs (kk p g),rfl,⟨kvs,kk p g,t,hx.2.same s1,rfl,ad,rfl⟩,?_⟩
  obtain⟨fs,hF,ew,ev⟩:=pK hE hg p k
  rw[ev]
  refine⟨_,rfl,lt_of_lt_of_le (tL λk hk=>sy hk) (pow_le_pow_right (by decide) (by omega)),λD hD=>?_⟩
  exact q D _ (s1.new hD) (s1.free hD) (by rw[ad,mR (lN es fs p),ew])
theorem FJ:ao NLn ["_law_places", "_law_amount", "_law_cell"] (ai oK):=L2.Bt
theorem uT(F:Bo K "_law_lanes" "_law_lanes" oK f fd)(T:dY mg)(mm:mg "_law_mixed" = some (.ref fm))(km:keepIn K (.ref fm)=true)(bm:Binds K dm ["_law_cell", "_law_k"] [])
  (Gm:AQ P w K mg base aD 1 fm dm ["_law_cell", "_law_k"] lW):AQ P w K mg base aD 2 f fd ["_law_places", "_law_amount", "_law_cell"] pZ:=by
 refine F.ok FJ (λ_ _ _ _ h=>?_) (λ_ _ _ s H _ Q E hr h=>?_)
 ·obtain⟨n,m,c,rfl,_⟩:=h
  rfl
 ·obtain⟨n,m,c,rfl,EH,Sn,hm,q⟩:=h
  refine⟨_,ae (ay (i:=3) FJ.nd rfl (Or.inl rfl) (aP ac))
   (ae (bK PassesOwn.never rfl (aQ rfl T.range (aa (pv 1) ac)) (au (i:=4) FJ.nd rfl (Or.inl rfl))
    (ae (ay (i:=5) FJ.nd rfl (Or.inl rfl) (az Gm hr rfl mm km bm .nil am (aa (pv 2) (aa (pv 4) ac))))
    (ae (ay (i:=6) FJ.nd rfl (Or.inl rfl) (aw bz (pv 5) (pv 0)))
    (ag (aS (ce plainAttrs_list PySem.F.slot_list_append PySem.F.type_list_append bj (pv 3) (aa (aK (aa (pv 6) (aa (aw bz (aw bv (aw bv (pv 6) af) (aw bz (aw cf (pv 5) af) (aw cr (pv 0) af))) (pv 0)) ac))) ac)))))))
   (ag (aq (pv 3)))),?_⟩
  have two:(2:Nat) <= sizeLine:=by decide
  refine⟨zero_le _,λD hD=>?_⟩
  have s0:=(AO.refl H).new (o := .lst []) hD
  refine⟨_,rfl,(m:Int),rfl,by omega,by omega,?_⟩
  rw[toNat_natCast]
  refine b6 (n:=m) (λi σ H2=>∃(a3 a4 a5:Option V)(AX:List V)(es:Es),AO H H2/\H2 D=some (.lst AX)/\Bi H2 AX (es.map zp)/\PR n es/\(∀e ∈ es,e.1 ≠ e.2)/\es.length=i/\σ=[some (.int n),some (.int m),some (.int c),some (.ref D),a3,a4,a5])
   ⟨none,none,none,[],[],s0,ad, .nil,(λe he=>by cases he),(λe he=>by cases he),rfl,rfl⟩ ?_ ?_
  ·rintro i σ H2 hi ⟨a3,a4,a5,AX,es,s2,gD,PV,CM,CZ,hl,rfl⟩
   have PY:(0:Int) < (n:Int):=by omega
   have X0:(0:Int) < (n:Int) - 1:=by omega
   rw[zero_add]
   refine⟨_,rfl,_,rfl,c,i,rfl,by omega,λd hd=>?_⟩
   refine⟨_,rfl,_,rfl,_,_,rfl,rfl,PY,?_⟩
   refine⟨_,rfl, .inl ⟨rfl,_,AV.of gD⟩,_,rfl,_,rfl,_,_,rfl,rfl,_,rfl,_,_,rfl,rfl,⟨by decide,by decide⟩,_,rfl,_,_,rfl,rfl,_,_,rfl,rfl,X0,_,_,rfl,rfl,_,rfl,_,_,rfl,rfl,PY,two,λt1 h1=>?_⟩
   dsimp only at h1 ⊢
   have e1:=emod_nonneg d (show (n:Int) ≠ 0 by omega)
   have e2:=emod_lt_of_pos d PY
   have e3:=emod_nonneg (d / 16) (show (n:Int) - 1 ≠ 0 by omega)
   have e4:=emod_lt_of_pos (d / 16) X0
   generalize d % (n:Int)=st at e1 e2 h1 ⊢
   generalize d / 16 % ((n:Int) - 1)=Hv at e3 e4 h1 ⊢
   have e5:=emod_nonneg (st + 1 + Hv) (show (n:Int) ≠ 0 by omega)
   have e6:=emod_lt_of_pos (st + 1 + Hv) PY
   have e7:(st + 1 + Hv) % (n:Int) ≠ st:=by
    intro z
    rcases Int.lt_or_le (st + 1 + Hv) (n:Int) with h | h
    ·rw[Int.emod_eq_of_lt (by omega) h]at z;omega
    ·have:(st + 1 + Hv) % (n:Int)=st + 1 + Hv - n:=by
      rw[show st + 1 + Hv = (st + 1 + Hv - n) + n by omega,Int.add_emod_right,Int.emod_eq_of_lt (by omega) (by omega)];omega
     omega
   generalize (st + 1 + Hv) % (n:Int)=en at e5 e6 e7 h1 ⊢
   obtain⟨s',HU,T8⟩:∃s':Nat,st=(s':Int)/\s' < n:=⟨st.toNat,by omega,by omega⟩
   obtain⟨n',KC,T9⟩:∃n':Nat,en=(n':Int)/\n' < n:=⟨en.toNat,by omega,by omega⟩
   subst HU KC
   have u1:=(AO.refl H2).new (o := .tup [.int (s':Int), .int (n':Int)]) h1
   have v1:(upd H2 t1 (.tup [.int (s':Int), .int (n':Int)])) t1=some (.tup [.int (s':Int), .int (n':Int)]):=ad
   have nT:t1 ≠ D:=Ne.symm (aj gD h1)
   generalize upd H2 t1 (.tup [.int (s':Int), .int (n':Int)])=H3 at u1 v1 ⊢
   have Gv:=u1 _ _ gD
   have DN:AX.length=es.length:=by rw[Paired.length PV,length_map]
   refine⟨D,AX,_,rfl,rfl,Gv,by rw[sizeLine_eq];omega,?_⟩
   refine⟨_,_,_,AX ++ [.ref t1],es ++ [(s',n')],λb o e=>by rw[ah (aj e hD)];exact u1 _ _ (s2 _ _ e),ad,?_,λe he=>?_,λe he=>?_,by rw[length_append,hl];rfl,rfl⟩
   ·rw[map_append]
    exact Bi.snoc (p:=zp (s',n')) ⟨t1,rfl,by rw[ah nT];exact v1⟩ (qx Gv (Bi.same u1 PV))
   ·rcases mem_append.mp he with he | he
    ·exact CM e he
    ·rw[mem_singleton.mp he];exact⟨T8,T9⟩
   ·rcases mem_append.mp he with he | he
    ·exact CZ e he
    ·rw[mem_singleton.mp he];show s' ≠ n';omega
  ·rintro σ H2 ⟨a3,a4,a5,AX,es,s2,gD,PV,CM,CZ,hl,rfl⟩
   exact⟨_,rfl,q D AX es H2 s2 hD gD PV CM CZ hl⟩
noncomputable def um(r:Rw):Nat:=(r.p.toNat * 100 + r.g.toNat) * 100 + wc r.c
theorem Am(h:b8 a=b8 b):um a=um b:=by
 unfold b8 at h
 injection h with h1 h2
 injection h2 with h2 h3
 injection h3 with h3 _
 injection h1 with h1
 injection h2 with h2
 have h4:a.c=b.c:=by
  cases ha:a.c with
  | none=>cases hb:b.c with
   | none=>rfl
   | some k=>rw[ha,hb]at h3;cases h3
  | some k=>cases hb:b.c with
   | none=>rw[ha,hb]at h3;cases h3
   | some k' =>
    rw[ha,hb]at h3
    have h3:some (k:Int)=some (k':Int):=h3
    injection h3 with h3
    rw[show k=k' by omega]
 unfold um
 rw[h1,h2,h4]
structure EB(n:Nat)(ps:List (Int × Int))(B:Nat)(rs:List Rw):Prop where
 sort:(rs.map um).Pairwise (· < ·)
 low:∀r ∈ rs,um r < B
 fit:∀r ∈ rs,eT n ps r=true
 B9:∀r ∈ rs,r.s.length <= 40
theorem EB.up(h:EB n ps B rs)(l:B <= B'):EB n ps B' rs:=⟨h.sort,λr hr=>lt_of_lt_of_le (h.low r hr) l,h.fit,h.B9⟩
theorem EB.snoc(h:EB n ps B rs)(hr:B <= um r)(hf:eT n ps r=true)(hl:r.s.length <= 40):EB n ps (um r + 1) (rs ++ [r]):=by
 refine⟨?_,λx hx=>?_,λx hx=>?_,λx hx=>?_⟩
 ·rw[map_append,List.pairwise_append]
  refine⟨h.sort,by simp,λx hx y hy=>?_⟩
  obtain⟨r',HK,rfl⟩:=mem_map.mp hx
  have hy:y=um r:=by simpa using hy
  rw[hy]
  exact lt_of_lt_of_le (h.low r' HK) hr
 ·rcases mem_append.mp hx with hx | hx
  ·have:=h.low x hx;omega
  ·rw[mem_singleton.mp hx];omega
 ·rcases mem_append.mp hx with hx | hx
  ·exact h.fit x hx
  ·rw[mem_singleton.mp hx];exact hf
 ·rcases mem_append.mp hx with hx | hx
  ·exact h.B9 x hx
  ·rw[mem_singleton.mp hx];exact hl
theorem EB.good(h:EB n ps B rs):dN n ps rs rs.length=none:=by
 refine fV λk hk=>?_
 have hr:rs[k]? = some rs[k]:=getElem?_eq_getElem hk
 have Px:rs.getD k ⟨0,0,none,[]⟩ = rs[k]:=by rw[getD_eq_getElem?_getD,hr];rfl
 rw[Px,ia,h.fit _ (getElem_mem hk)]
 have TB:((rs.take k).any λa=>decide (b8 a=b8 rs[k]))=false:=by
  rw[any_eq_false]
  intro a ha hd
  have e:=Am (of_decide_eq_true hd)
  obtain⟨j,hj,ea⟩:=List.mem_take_iff_getElem.mp ha
  have hj':j < k:=by omega
  have:=pairwise_iff_getElem.mp h.sort j k (by rw[length_map];omega) (by rw[length_map];exact hk) hj'
  rw[List.getElem_map,List.getElem_map,ea]at this
  omega
 rw[TB];rfl
theorem EB.len(h:EB n ps B rs):rs.length <= B:=by
 have:=dF B (rs.map um) (h.sort.imp λh=>ne_of_lt h) λx hx=>by
  obtain⟨r,hr,rfl⟩:=mem_map.mp hx
  exact h.low r hr
 rw[length_map]at this
 exact this
noncomputable def lim(xs:List Nat)(t:Nat):Nat:=if t=0 then 0 else xs.getD (t - 1) 0 + 1
theorem Aj(hs:xs.Pairwise (· < ·))(h:xs[t]? = some p):lim xs t <= p:=by
 unfold lim
 by_cases h0:t=0
 ·rw[if_pos h0];omega
 ·rw[if_neg h0]
  obtain⟨ht,e⟩:=List.getElem?_eq_some_iff.mp h
  have h1:=pairwise_iff_getElem.mp hs (t - 1) t (by omega) ht (by omega)
  rw[getD_eq_getElem?_getD,getElem?_eq_getElem (by omega)]
  rw[e]at h1
  exact h1
theorem vj(h:xs[t]? = some p):lim xs (t + 1)=p + 1:=by
 unfold lim
 rw[if_neg (by omega),Nat.add_sub_cancel,getD_eq_getElem?_getD,h];rfl
theorem xB(h:∀p ∈ xs,p < 100):lim xs xs.length <= 100:=by
 unfold lim
 by_cases h0:xs.length=0
 ·rw[if_pos h0];omega
 ·rw[if_neg h0,getD_eq_getElem?_getD,getElem?_eq_getElem (show xs.length - 1 < xs.length by omega)]
  exact h _ (getElem_mem _)
noncomputable def bO(ps:List (Int × Int))(p:Nat):List (Option Nat):=none :: (eQ Prod.snd ps (p:Int)).map some
theorem xV(ps:List (Int × Int))(p:Nat):[V.Bj] ++ cj (eQ Prod.snd ps (p:Int))=(bO ps p).map cV:=by
 unfold bO cj
 rw[map_cons,map_map];rfl
theorem pB(ps:List (Int × Int))(p:Nat):((bO ps p).map wc).Pairwise (· < ·):=by
 unfold bO
 rw[map_cons,map_map,pairwise_cons]
 refine⟨λx hx=>?_,?_⟩
 ·obtain⟨k,_,rfl⟩:=mem_map.mp hx
  show 0 < k + 1
  omega
 ·refine List.Pairwise.map _ (λa b h=>?_) (List.Pairwise.filter _ pairwise_lt_range)
  show a + 1 < b + 1
  omega
theorem kM(h:cc ∈ bO ps p):wc cc <= ps.length/\∀k,cc=some k->k ∈ eQ Prod.snd ps (p:Int):=by
 rcases mem_cons.mp h with rfl | h
 ·exact⟨zero_le _,λk e=>by cases e⟩
 ·obtain⟨k,hk,rfl⟩:=mem_map.mp h
  refine⟨?_,λk' e=>by cases e;exact hk⟩
  have:=mem_range.mp (mem_filter.mp hk).1
  show k + 1 <= _
  omega
def sS:Sp:=λvs H Q _=>∃(l:Addr)(AX:List V)(ps:List (Int × Int))(n:Nat)(cl:Int),vs=[.int n, .ref l, .int cl]/\H l=some (.lst AX)/\Bi H AX ps/\(∀p ∈ ps,i7 n p=true)/\ps.length <= 10/\2 <= n/\n <= 5 /\
 ∀(D:Addr)(rvs:List V)(rs:List Rw)(H':Hp),AO H H'->H D=none->H' D=some (.lst rvs)->En H' rvs rs->EB n ps 50000 rs->Q (.ref D) H'
abbrev PZ:List Str:=["_law_places", "_law_lanes_here", "_law_cell", "_law_rows_here", "_law_place", "_law_out", "_law_cames", "_law_goal", "_law_came", "_law_draw", "_law_ways"]
noncomputable def AF(s:Stmt):Scope:=match s with
 | .Assign _ (.BinOp _ _ (.ListComp _ _ sc _) _) _=>sc
 | _=>zQ0
noncomputable def l7:List Stmt:=jD (gP (aJ jp) 1)
noncomputable def xG:List Stmt:=jD (gP (jD (gP l7 2)) 0)
theorem Cm:ao PZ ["_law_places", "_law_lanes_here", "_law_cell"] (ai jp):=L2.Bt
theorem NN:BG PZ (ai jp) (vS (gP l7 0)) ["_law_lanes_here", "_law_place"] [1,4]:=L2.Co
theorem NO:BG PZ (ai jp) (AF (gP l7 1)) ["_law_lanes_here", "_law_place"] [1,4]:=L2.Co
theorem NP:BG PZ (ai jp) (vS (gP xG 1)) ["_law_draw"] [9]:=L2.Co
theorem y1:(["_law_lane", "_law_lanes_here", "_law_place"]:List Str).Nodup:=by decide +kernel
theorem NQ:(["_law_lane", "_law_draw"]:List Str).Nodup:=by decide +kernel
theorem wW(F:Bo K "_law_rows" "_law_rows" jp f fd)(T:dY mg)(mm:mg "_law_mixed" = some (.ref fm))(km:keepIn K (.ref fm)=true)(bm:Binds K dm ["_law_cell", "_law_k"] [])(Gm:AQ P w K mg base aD 1 fm dm ["_law_cell", "_law_k"] lW) :
  AQ P w K mg base aD 2 f fd ["_law_places", "_law_lanes_here", "_law_cell"] sS:=by
 refine F.ok Cm (λ_ _ _ _ h=>?_) (λ_ _ _ s H _ Q E hr h=>?_)
 ·obtain⟨l,AX,ps,n,cl,rfl,_⟩:=h
  rfl
 ·obtain⟨l,AX,ps,n,cl,rfl,gl,Hh,Bb,Cz,EH,Ku,q⟩:=h
  refine⟨_,ae (ay (i:=3) Cm.nd rfl (Or.inl rfl) (aP ac))
   (ae (bK PassesOwn.never rfl (aQ rfl T.range (aa (pv 0) ac)) (au (i:=4) Cm.nd rfl (Or.inr rfl))
    (ae (dI (i:=5) (own:=["_law_lane"]) (capN:=["_law_lanes_here", "_law_place"]) (cap:=[1,4]) NN rfl Cm.nd rfl rfl (aQ rfl T.range (aa (aC av rfl T.len PySem.boot_len (aa (pv 1) ac)) ac))
     (λC s' H' fp=>⟨au (i:=0) y1 rfl (Or.inl rfl),bQ (ap bq (ar (show kR _ (il K) from aA) (ar (show kR _ (qZ K) from aF) (pv 1) (pv 0) (λ_ _=>rfl)) af (λ_ _=>rfl)) (pv 2) (ax _)),pv 0⟩))
    (ae (ay (i:=6) Cm.nd rfl (Or.inl rfl) (aw fz (aP (aa cM ac)) (bd (own:=["_law_lane"]) (capN:=["_law_lanes_here", "_law_place"]) (cap:=[1,4]) NO rfl (aQ rfl T.range (aa (aC av rfl T.len PySem.boot_len (aa (pv 1) ac)) ac))
     (λC s' H' fp=>⟨au (i:=0) y1 rfl (Or.inl rfl),bQ (ap bq (ar (show kR _ (il K) from aA) (ar (show kR _ (qZ K) from aF) (pv 1) (pv 0) (λ_ _=>rfl)) af (λ_ _=>rfl)) (pv 2) (ax _)),pv 0⟩))))
    (ag (bK PassesOwn.never rfl (aQ rfl T.range (aa (pv 0) ac)) (au (i:=7) Cm.nd rfl (Or.inl rfl))
     (ag (bK PassesOwn.never rfl (bF (pv 6)) (au (i:=8) Cm.nd rfl (Or.inl rfl))
      (ae (ay (i:=9) Cm.nd rfl (Or.inr rfl) (az Gm hr rfl mm km bm .nil am (aa (pv 2) (aa (aw bv (aw bv (aC av rfl T.len PySem.boot_len (aa (pv 3) ac)) (aw fu af (pv 4))) (aw fu af (pv 7))) ac))))
      (ae (dI (i:=10) (own:=["_law_lane"]) (capN:=["_law_draw"]) (cap:=[9]) NP rfl Cm.nd rfl rfl (bF (pv 5))
       (λC s' H' fp=>⟨au (i:=0) NQ rfl (Or.inl rfl),bQ (PW.pt (eX (ap bq (aw uD (aw uC (pv 1) (aw bv af (pv 0))) af) af (ax _)) (dH (ap bq (aw bz (pv 1) af) af (ax _))))),pv 0⟩))
      (ag (aM (ap jw (pv 4) (pv 7) (ax _))
       (ag (aS (ce plainAttrs_list PySem.F.slot_list_append PySem.F.type_list_append bj (pv 3) (aa (aK (aa (pv 4) (aa (pv 7) (aa (pv 8) (aa (pv 10) ac))))) ac)))) aB)))))))))))
   (ag (aq (pv 3)))),?_⟩
  have DN:AX.length=ps.length:=Paired.length Hh
  refine⟨zero_le _,λD hD=>?_⟩
  have s0:=(AO.refl H).new (o := .lst []) hD
  have g0:(upd H D (.lst [])) D=some (.lst []):=ad
  show dB 3 (V.ref D) _ _ _
  generalize upd H D (.lst [])=H0 at s0 g0 ⊢
  refine⟨_,rfl,(n:Int),rfl,by omega,by omega,?_⟩
  rw[toNat_natCast]
  refine b6 (n:=n) (λi σ H2=>∃(a4 a5 a6 a7 a8 a9 EC:Option V)(rvs:List V)(rs:List Rw),AO H H2/\H2 D=some (.lst rvs)/\CV D H2 rvs rs/\EB n ps (i * 10000) rs/\σ=[some (.int n),some (.ref l),some (.int cl),some (.ref D),a4,a5,a6,a7,a8,a9,EC])
   ⟨none,none,none,none,none,none,none,[],[],s0,g0, .nil,⟨List.Pairwise.nil,(λr hr=>by cases hr),(λr hr=>by cases hr),(λr hr=>by cases hr)⟩,rfl⟩ ?_ ?_
  rotate_left
  ·rintro σ H2 ⟨a4,a5,a6,a7,a8,a9,EC,rvs,rs,s2,g2,hR,hO,rfl⟩
   exact⟨_,rfl,q D rvs rs H2 s2 hD g2 hR.rws (hO.up (by omega))⟩
  rintro p σ H2 hpn ⟨a4,a5,a6,a7,a8,a9,EC,rvs,rs,s2,g2,hR,hO,rfl⟩
  rw[zero_add]
  have pick:∀(sel:Int × Int->Int)(j:Nat)(Hx:Hp)(sx:AO H Hx)(σ0:St),True:=λ_ _ _ _ _=>True.intro
  refine⟨_,rfl,l,_,rfl, .inl (AV.of (s2 _ _ gl)),(AX.length:Int),rfl,by omega,by omega,?_⟩
  rw[toNat_natCast,DN]
  refine qN (sel:=Prod.fst) (ps:=ps) (pl:=(p:Int)) (by rw[sizeLine_eq];omega) (λz acc N pr hpr h=>?_) (λOu X1=>?_)
  ·obtain⟨v,hv,u,rfl,gu⟩:=Bi.GU Hh hpr
   refine⟨_,rfl,_,rfl,l,AX,_,_,rfl,rfl,AV.of (s2 _ _ gl),ak hv,u,_,0,_,rfl,rfl,AZ.of (s2 _ _ gu),ak (j:=0) rfl,_,rfl,rfl,_,rfl,?_⟩
   rw[dM]
   cases hb:decide (pr.1=(p:Int)) with
   | true =>
    have CA:decide (Prod.fst pr=(p:Int))=true:=hb
    rw[CA]at h
    exact aH ⟨_,rfl,h⟩
   | false =>
    have CA:decide (Prod.fst pr=(p:Int))=false:=hb
    rw[CA]at h
    exact aG h
  have X2:∀sel:Int × Int->Int,(eQ sel ps (p:Int)).length <= 10:=λsel=>by
   have:=length_filter_le (λk=>decide (sel (ps.getD k (0,0))=(p:Int))) (List.range ps.length)
   rw[length_range]at this
   unfold eQ
   omega
  have u1:=(AO.refl H2).new (o := .lst (cj (eQ Prod.fst ps (p:Int)))) X1
  have gO:(upd H2 Ou (.lst (cj (eQ Prod.fst ps (p:Int))))) Ou=some (.lst (cj (eQ Prod.fst ps (p:Int)))):=ad
  have nO:Ou ≠ D:=Ne.symm (aj g2 X1)
  show dB 5 (V.ref Ou) _ (upd H2 Ou (.lst (cj (eQ Prod.fst ps (p:Int))))) _
  generalize upd H2 Ou (.lst (cj (eQ Prod.fst ps (p:Int))))=H3 at u1 gO ⊢
  have s3:=s2.trans u1
  refine⟨by show 1 <= sizeLine;decide,λo1 ho1=>?_⟩
  have u2:=(AO.refl H3).new (o := .lst [.Bj]) ho1
  have TF:(upd H3 o1 (.lst [.Bj])) o1=some (.lst [.Bj]):=ad
  generalize upd H3 o1 (.lst [.Bj])=H4 at u2 TF ⊢
  have s4:=s3.trans u2
  refine⟨_,rfl,l,_,rfl, .inl (AV.of (s4 _ _ gl)),(AX.length:Int),rfl,by omega,by omega,?_⟩
  rw[toNat_natCast,DN]
  refine qN (sel:=Prod.snd) (ps:=ps) (pl:=(p:Int)) (by rw[sizeLine_eq];omega) (λz acc N pr hpr h=>?_) (λo2 Ct=>?_)
  ·obtain⟨v,hv,u,rfl,gu⟩:=Bi.GU Hh hpr
   refine⟨_,rfl,_,rfl,l,AX,_,_,rfl,rfl,AV.of (s4 _ _ gl),ak hv,u,_,1,_,rfl,rfl,AZ.of (s4 _ _ gu),ak (j:=1) rfl,_,rfl,rfl,_,rfl,?_⟩
   rw[dM]
   cases hb:decide (pr.2=(p:Int)) with
   | true =>
    have CA:decide (Prod.snd pr=(p:Int))=true:=hb
    rw[CA]at h
    exact aH ⟨_,rfl,h⟩
   | false =>
    have CA:decide (Prod.snd pr=(p:Int))=false:=hb
    rw[CA]at h
    exact aG h
  have u3:=(AO.refl H4).new (o := .lst (cj (eQ Prod.snd ps (p:Int)))) Ct
  have go2:(upd H4 o2 (.lst (cj (eQ Prod.snd ps (p:Int))))) o2=some (.lst (cj (eQ Prod.snd ps (p:Int)))):=ad
  have NR:(upd H4 o2 (.lst (cj (eQ Prod.snd ps (p:Int))))) o1=some (.lst [.Bj]):=by rw[ah (aj TF Ct)];exact TF
  generalize upd H4 o2 (.lst (cj (eQ Prod.snd ps (p:Int))))=H5 at u3 go2 NR ⊢
  have RF:=X2 Prod.snd
  refine⟨o1,o2,_,_,rfl,rfl,NR,go2,by unfold cj;rw[length_map,sizeLine_eq];simp only[length_singleton];omega,λC hC=>?_⟩
  rw[xV]
  have u4:=(AO.refl H5).new (o := .lst ((bO ps p).map cV)) hC
  have gC:(upd H5 C (.lst ((bO ps p).map cV))) C=some (.lst ((bO ps p).map cV)):=ad
  have X3:AO H2 H5:=u1.trans (u2.trans u3)
  have nC:C ≠ D:=Ne.symm (aj (X3 _ _ g2) hC)
  show dB 6 (V.ref C) _ (upd H5 C (.lst ((bO ps p).map cV))) _
  generalize upd H5 C (.lst ((bO ps p).map cV))=H6 at u4 gC ⊢
  have II:=X3.trans u4
  have gO6:=u4 _ _ (u3 _ _ (u2 _ _ gO))
  refine⟨_,rfl,(n:Int),rfl,by omega,by omega,?_⟩
  rw[toNat_natCast]
  refine b6 (n:=n) (λi σ H7=>∃(a7 a8 a9 EC:Option V)(rvs:List V)(rs:List Rw),AO H H7/\H7 D=some (.lst rvs)/\H7 Ou=some (.lst (cj (eQ Prod.fst ps (p:Int))))/\H7 C=some (.lst ((bO ps p).map cV))/\CV D H7 rvs rs/\EB n ps ((p * 100 + i) * 100) rs/\σ=[some (.int n),some (.ref l),some (.int cl),some (.ref D),some (.int (p:Int)),some (.ref Ou),some (.ref C),a7,a8,a9,EC])
   ⟨_,_,_,_,rvs,rs,s2.trans II,II _ _ g2,gO6,gC,hR.same II,hO.up (by omega),rfl⟩ ?_ ?_
  rotate_left
  ·rintro σ H7 ⟨a7,a8,a9,EC,rvs,rs,s7,g7,_,_,TH,TK,rfl⟩
   exact⟨_,_,_,_,_,_,_,rvs,rs,s7,g7,TH,TK.up (by omega),rfl⟩
  rintro i σ H7 hi ⟨a7,a8,a9,EC,rvs,rs,s7,g7,gO7,X4,TH,TK,rfl⟩
  rw[zero_add]
  refine⟨_,rfl,C,rfl,⟨_,AV.of X4⟩,?_⟩
  have El:((bO ps p).map cV).length=(bO ps p).length:=length_map ..
  refine fG (K:=K) (a:=C) (xs:=(bO ps p).map cV) (λj σ Hb=>∃(a8 a9 EC:Option V)(rvs:List V)(rs:List Rw),AO H Hb/\Hb D=some (.lst rvs)/\Hb Ou=some (.lst (cj (eQ Prod.fst ps (p:Int))))/\Hb C=some (.lst ((bO ps p).map cV))/\CV D Hb rvs rs/\EB n ps ((p * 100 + i) * 100 + lim ((bO ps p).map wc) j) rs/\σ=[some (.int n),some (.ref l),some (.int cl),some (.ref D),some (.int (p:Int)),some (.ref Ou),some (.ref C),some (.int (i:Int)),a8,a9,EC])
   ⟨_,_,_,rvs,rs,s7,g7,gO7,X4,TH,TK.up (by omega),rfl⟩ (λj σ Hb _ AU=>by obtain⟨_,_,_,_,_,_,_,_,g,_⟩:=AU;exact AV.of g) ?_ ?_
  rotate_left
  ·rintro σ Hb ⟨a8,a9,EC,rvs,rs,sb,gb,J7,Qa,NS,Kv,rfl⟩
   rw[El,←length_map (f:=wc) (as:=bO ps p)]at Kv
   have:=xB (xs:=(bO ps p).map wc) λx hx=>by
    obtain⟨cc,OW,rfl⟩:=mem_map.mp hx
    have:=(kM OW).1
    omega
   exact⟨_,_,_,_,rvs,rs,sb,gb,J7,Qa,NS,Kv.up (by omega),rfl⟩
  rintro j v σ Hb hv ⟨a8,a9,EC,rvs,rs,sb,gb,J7,Qa,NS,Kv,rfl⟩
  obtain⟨cc,hcj,rfl⟩:∃cc,(bO ps p)[j]? = some cc/\cV cc=v:=by
   rw[getElem?_map]at hv
   cases hx:(bO ps p)[j]? with
   | none=>rw[hx]at hv;cases hv
   | some cc=>rw[hx]at hv;exact⟨cc,rfl,Option.some.inj hv⟩
  obtain⟨hcl2,TL⟩:=kM (mem_of_getElem? hcj)
  have NU:((bO ps p).map wc)[j]? = some (wc cc):=by rw[getElem?_map,hcj];rfl
  have hlp:=Aj (pB ps p) NU
  have NV:=vj NU
  have Fm:rvs.length=rs.length:=Paired.length NS
  have hrm:=Kv.len
  refine⟨_,rfl,_,rfl,D,_,rfl, .inl (AV.of gb),_,rfl,_,_,rfl,rfl, .inl ⟨by decide,by decide⟩,_,_,rfl,rfl,_,rfl,_,_,rfl,rfl, .inl ⟨by decide,by decide⟩,_,_,rfl,rfl,cl,rvs.length + 100 * p + 10 * i,?_,by omega,λd hd=>?_⟩
  ·show [V.int cl,V.int (((rvs.length:Nat):Int) + 100 * (p:Int) + 10 * (i:Int))] ++ []=_
   rw[show((rvs.length + 100 * p + 10 * i:Nat):Int)=((rvs.length:Nat):Int) + 100 * (p:Int) + 10 * (i:Int) by omega];rfl
  obtain⟨m,rfl⟩:∃m:Nat,d=(m:Int):=⟨d.toNat,by omega⟩
  generalize NW:eQ Prod.fst ps (p:Int)=out at J7 ⊢
  have HS:out.length <= 10:=by rw[←NW];exact X2 _
  refine⟨_,rfl,Ou,rfl,⟨_,AV.of J7⟩,?_⟩
  refine se (λk=>m.testBit (3 + k) || decide ((m:Int) % 3=0)) (by rw[sizeLine_eq];omega) (AV.of J7) (λk acc N hk h=>?_) (λWa TN=>?_)
  ·refine⟨_,rfl,_,rfl,_,_,rfl,rfl,_,_,rfl,rfl,(show (0:Int) <= 3 + (k:Int) by omega),_,_,rfl,rfl,rfl,_,rfl,?_⟩
   dsimp only
   rw[show (3:Int) + (k:Int)=((3 + k:Nat):Int) by omega,Tj]
   cases hb:m.testBit (3 + k) with
   | true=>rw[hb,Bool.true_or]at h;exact aH (aH ⟨_,rfl,h⟩)
   | false =>
    rw[hb,Bool.false_or]at h
    refine aG ⟨_,rfl,_,_,rfl,rfl,(by show (0:Int) < 3;decide),rfl,_,rfl,?_⟩
    rw[dM]
    cases X5:decide ((m:Int) % 3=0) with
    | true=>rw[X5]at h;exact aH ⟨_,rfl,h⟩
    | false=>rw[X5]at h;exact aG h
  generalize X6:(out.filter λk=>m.testBit (3 + k) || decide ((m:Int) % 3=0))=us at TN ⊢
  have husl:us.length <= 10:=by rw[←X6];exact le_trans (length_filter_le _ _) HS
  have TQ:∀k ∈ us,k ∈ out:=λk hk=>by rw[←X6]at hk;exact(mem_filter.mp hk).1
  have u5:=(AO.refl Hb).new (o := .lst (cj us)) TN
  have gW:(upd Hb Wa (.lst (cj us))) Wa=some (.lst (cj us)):=ad
  have nW:Wa ≠ D:=Ne.symm (aj gb TN)
  show dB 10 (V.ref Wa) _ (upd Hb Wa (.lst (cj us))) _
  generalize upd Hb Wa (.lst (cj us))=Hc at u5 gW ⊢
  refine⟨_,rfl,_,rfl,rfl,_,rfl,?_⟩
  rw[dM]
  by_cases TU:(p:Int)=(i:Int)
  ·rw[decide_eq_true TU]
   exact aG ⟨_,_,_,rvs,rs,sb.trans u5,u5 _ _ gb,u5 _ _ J7,u5 _ _ Qa,NS.same u5,Kv.up (by omega),rfl⟩
  rw[decide_eq_false TU]
  refine aH ⟨_,rfl, .inl ⟨rfl,_,AV.of (u5 _ _ gb)⟩,_,rfl,_,rfl,_,rfl,_,rfl,by show 4 <= sizeLine;decide,λtt FX=>?_⟩
  have u6:=u5.new (o := .tup [.int (p:Int), .int (i:Int),cV cc, .ref Wa]) FX
  have gT:(upd Hc tt (.tup [.int (p:Int), .int (i:Int),cV cc, .ref Wa])) tt=some (.tup [.int (p:Int), .int (i:Int),cV cc, .ref Wa]):=ad
  have X7:(upd Hc tt (.tup [.int (p:Int), .int (i:Int),cV cc, .ref Wa])) Wa=some (.lst (cj us)):=by rw[ah (aj gW FX)];exact gW
  generalize upd Hc tt (.tup [.int (p:Int), .int (i:Int),cV cc, .ref Wa])=Hf at u6 gT X7 ⊢
  have X8:=u6 _ _ gb
  refine⟨D,rvs,_,rfl,rfl,X8,by rw[sizeLine_eq];omega,?_⟩
  have TV:eT n ps ⟨(p:Int),(i:Int),cc,us⟩ = true:=by
   unfold eT
   have ho:i7 n ((p:Int),(i:Int))=true:=by
    unfold i7
    simp only[Bool.and_eq_true,decide_eq_true_eq,Bool.not_eq_true',decide_eq_false_iff_not]
    exact⟨⟨by omega,by omega⟩,⟨by omega,by omega⟩,TU⟩
   rw[ho,Bool.true_and]
   have hs:(us.all λz=>decide (z ∈ eQ Prod.fst ps (p:Int)))=true:=by
    rw[all_eq_true]
    exact λz hz=>decide_eq_true (by rw[NW];exact TQ z hz)
   dsimp only
   rw[hs,Bool.and_true]
   cases cc with
   | none=>rfl
   | some k=>exact decide_eq_true (TL k rfl)
  have X9:um ⟨(p:Int),(i:Int),cc,us⟩ = (p * 100 + i) * 100 + wc cc:=by
   unfold um
   show(((p:Int)).toNat * 100 + ((i:Int)).toNat) * 100 + wc cc=_
   rw[toNat_natCast,toNat_natCast]
  have hOn:=Kv.snoc (r:=⟨(p:Int),(i:Int),cc,us⟩) (by rw[X9];omega) TV (by show us.length <= 40;omega)
  refine⟨_,_,_,rvs ++ [.ref tt],rs ++ [⟨(p:Int),(i:Int),cc,us⟩],λb o e=>by rw[ah (aj e hD)];exact u6 _ _ (sb _ _ e),ad,?_,?_,?_,hOn.up (by rw[X9,NV];omega),rfl⟩
  ·rw[ah nO];exact u6 _ _ J7
  ·rw[ah nC];exact u6 _ _ Qa
  ·have hRf:=CV.snoc (r:=⟨(p:Int),(i:Int),cc,us⟩) ⟨tt,Wa,rfl,⟨gT,X7⟩,nW⟩ (NS.same u6)
   exact CV.off X8 hRf
noncomputable def TC(ts:Ts)(tn:lM):Bool->Addr
 | true=>tn.near
 | false=>ts.told
def JJ(P:Program)(w:World)(ts:Ts)(tn:lM):Bool->TJ
 | true=>Kt P w tn
 | false=>Dd P w ts
noncomputable def okE(n:Nat)(e:Nat × Nat):i7 n (zp e)=true↔(e.1 < n/\e.2 < n/\e.1 ≠ e.2):=by
 unfold i7 zp
 simp only[Bool.and_eq_true,decide_eq_true_eq,Bool.not_eq_true',decide_eq_false_iff_not]
 constructor
 ·rintro⟨⟨h1,h2⟩,⟨h3,h4⟩,h5⟩;exact⟨by omega,by omega,λz=>h5 (by rw[z])⟩
 ·rintro⟨h1,h2,h3⟩;exact⟨⟨by omega,by omega⟩,⟨by omega,by omega⟩,by omega⟩
noncomputable def yA(n:Nat)(kvs:List dX):Wf:=λp g k=>if p < n/\g < n then NM kvs p g k else []
theorem sw(h:nM n es kvs n)(p g:Nat)(k:Option Nat):(∀z ∈ yA n kvs p g k,z < es.length)/\(yA n kvs p g k).length <= es.length:=by
 have h1:∀z ∈ yA n kvs p g k,z < es.length:=λz hz=>by
  unfold yA at hz
  by_cases Gz:p < n/\g < n
  ·rw[if_pos Gz]at hz;exact yB h Gz.2 hz
  ·rw[if_neg Gz]at hz;cases hz
 refine⟨h1,dF _ _ ?_ h1⟩
 unfold yA
 by_cases Gz:p < n/\g < n
 ·rw[if_pos Gz];exact mT _
 ·rw[if_neg Gz];exact nodup_nil
def ou(P:Program)(w:World)(K:Frag)(c:Cs)(ts:Ts)(tn:lM):Sp:=λvs H Q _=>∃(sc:Addr)(ns:List Int),vs=[.ref sc]/\AV K H sc (ns.map V.int) /\
 ∀(b:Bool)(x lx Bh lt:Addr)(n:Nat)(AY:List V)(ps:List (Int × Int))(wy:Wf)(H':Hp),AO H H'->H x=none->BK c (TC ts tn b) (JJ P w ts tn b) H' x lx Bh lt n AY ps wy->(∀p g k,(wy p g k).length <= 400)->(∀p ∈ ps,i7 n p=true)->ps.length <= 8->2 <= n->n <= 5->Q (.ref x) H'
structure XA(P:Program)(w:World)(K:Frag)(mg:Str->Option Value)(base:Heap)(c:Cs)(ts:Ts)(tn:lM)(fc fl fi fn ft fr:Addr)(dc dl di dn dt dr:FuncData):Prop where
 mc:mg "_law_cell_at" = some (.ref fc)
 kc:keepIn K (.ref fc)=true
 bc:Binds K dc ["_law_script", "_law_k"] []
 Gc:AQ P w K mg base aD 1 fc dc ["_law_script", "_law_k"] (oy K)
 ml:mg "_law_lanes" = some (.ref fl)
 kl:keepIn K (.ref fl)=true
 bl:Binds K dl ["_law_places", "_law_amount", "_law_cell"] []
 Gl:AQ P w K mg base aD 2 fl dl ["_law_places", "_law_amount", "_law_cell"] pZ
 mi:mg "Land" = some (.ref c.land)
 Mi:Mk K c.land fi
 bi:Binds K di ["self", "places", "lanes"] []
 Gi:AQ P w K mg base aD 4 fi di ["self", "places", "lanes"] (ow K c)
 mn:mg "Nearer" = some (.ref tn.near)
 Mn:Mk K tn.near fn
 bn:Binds K dn ["self", "land"] []
 Gn:AQ P w K mg base aD 3 fn dn ["self", "land"] (sY P w c tn)
 mt:mg "Told" = some (.ref ts.told)
 Mt:Mk K ts.told ft
 bt:Binds K dt ["self", "land", "rows"] []
 Gt:AQ P w K mg base aD 5 ft dt ["self", "land", "rows"] (sP P w K c ts)
 mr:mg "_law_rows" = some (.ref fr)
 kr:keepIn K (.ref fr)=true
 br:Binds K dr ["_law_places", "_law_lanes_here", "_law_cell"] []
 Gr:AQ P w K mg base aD 2 fr dr ["_law_places", "_law_lanes_here", "_law_cell"] sS
def l5(a:YA)(ps:List (Int × Int)):Prop:=∀p ∈ ps,∃x y:Nat,p=((x:Int),(y:Int))/\x < a.n/\y < a.n/\x ≠ y/\a.wy x y none ≠ []
def lb(c:Cs)(C:Addr)(J:TJ):Sp:=λvs H Q _=>∃(a:YA),vs=[.ref a.tb]/\yb c C J H a/\∀(D:Addr)(Cp:List V)(bs:List (Int × Int))(H':Hp),AO H H'->H D=none->H' D=some (.lst Cp)->Bi H' Cp bs->l5 a bs->bs.length <= 1000->Q (.ref D) H'
def jh(c:Cs)(C:Addr)(J:TJ):Sp:=λvs H Q _=>∃(a:YA)(cl:Int),vs=[.ref a.tb, .int cl]/\yb c C J H a/\∀(D:Addr)(rs:List Int)(H':Hp),AO H H'->H D=none->H' D=some (.lst (rs.map V.int))->rs.length=a.ps.length->(∀r ∈ rs,1 <= r/\r <= 60)->Q (.ref D) H'
theorem Hw:ao ["_law_script", "_law_places", "_law_lanes_here", "_law_land"] ["_law_script"] (ai ue):=L2.Bt
theorem xm(F:Bo K "_law_table" "_law_table" ue f fd)(M:XA P w K mg base c ts tn fc fl fi fn ft fr dc dl di dn dt dr) :
  AQ P w K mg base aD 7 f fd ["_law_script"] (ou P w K c ts tn):=by
 refine F.ok Hw (λ_ _ _ _ h=>?_) (λ_ _ _ s H _ Q E hr h=>?_)
 ·obtain⟨sc,ns,rfl,_⟩:=h
  rfl
 ·obtain⟨sc,ns,rfl,hS,q⟩:=h
  have B0:Bc 1 _:=hr.mono (by decide)
  have Cg:Bc 2 _:=hr.mono (by decide)
  have Dk:Bc 4 _:=hr.mono (by decide)
  have IE:Bc 5 _:=hr.mono (by decide)
  refine⟨_,ae (ay (i:=1) Hw.nd rfl (Or.inl rfl) (aw bv af (aw bz (az M.Gc B0 rfl M.mc M.kc M.bc .nil am (aa (pv 0) (aa af ac))) af)))
   (ae (ay (i:=2) Hw.nd rfl (Or.inl rfl) (az M.Gl Cg rfl M.ml M.kl M.bl .nil am (aa (pv 1) (aa (aw bz (aw cf (az M.Gc B0 rfl M.mc M.kc M.bc .nil am (aa (pv 0) (aa af ac))) af) af) (aa (az M.Gc B0 rfl M.mc M.kc M.bc .nil am (aa (pv 0) (aa af ac))) ac)))))
   (ae (ay (i:=3) Hw.nd rfl (Or.inl rfl) (cN M.Mi M.Gi IE rfl M.mi M.bi .nil am (aa (pv 1) (aa (pv 2) ac))))
   (ae (aM (ap bq (aw bz (az M.Gc B0 rfl M.mc M.kc M.bc .nil am (aa (pv 0) (aa af ac))) af) af (ax _)) (ag (aq (cN M.Mn M.Gn Dk rfl M.mn M.bn .nil am (aa (pv 3) ac)))) aB)
   (ag (aq (cN M.Mt M.Gt hr rfl M.mt M.bt .nil am (aa (pv 3) (aa (az M.Gr Cg rfl M.mr M.kr M.br .nil am (aa (pv 1) (aa (pv 2) (aa (aw cf (az M.Gc B0 rfl M.mc M.kc M.bc .nil am (aa (pv 0) (aa af ac))) af) ac)))) ac)))))))),?_⟩
  refine⟨_,rfl,sc,ns,0,rfl,hS,λd0=>⟨_,_,rfl,rfl,(by show (0:Int) < 4;decide),_,_,rfl,rfl,?_⟩⟩
  obtain⟨n,hn,EH,Ku⟩:∃n:Nat,(2:Int) + d0 % 4=(n:Int)/\2 <= n/\n <= 5:=⟨(2 + d0 % 4).toNat,by omega,by omega,by omega⟩
  dsimp only
  rw[hn]
  refine⟨_,rfl,_,rfl,sc,ns,0,rfl,hS,λd1=>⟨_,_,rfl,rfl,⟨by decide,by decide⟩,_,_,rfl,rfl,(by show (0:Int) < 9;decide),_,rfl,sc,ns,1,rfl,hS,λd2=>?_⟩⟩
  obtain⟨m,hm,hm9⟩:∃m:Nat,d1 / 4 % 9=(m:Int)/\m < 9:=⟨(d1 / 4 % 9).toNat,by omega,by omega⟩
  refine⟨n,m,d2,by rw[←hm];rfl,EH,by omega,by omega,λl AX es H1 s1 nl gl Hh CM CZ IF=>?_⟩
  have DN:AX.length=es.length:=by rw[Paired.length Hh,length_map]
  have Cz:(es.map zp).length=es.length:=length_map ..
  have Bb:∀p ∈ es.map zp,i7 n p=true:=λp hp=>by
   obtain⟨e,he,rfl⟩:=mem_map.mp hp
   exact(okE n e).mpr ⟨(CM e he).1,(CM e he).2,CZ e he⟩
  have gd:=vE (ps:=es.map zp) (n:=n) (by omega) (by omega) (by omega) Bb
  refine⟨_,rfl,_,rfl,λxl C6 nx Hi Fn=>?_⟩
  have s2:AO H1 (upd (upd H1 C6 (.own xl)) xl (.ins c.land C6 [])):=AO.new (AO.new (AO.refl H1) Hi) (by rw[ah (Ne.symm Fn)];exact nx)
  refine⟨xl,C6,(n:Int),l,AX,_,rfl,ad,AV.of (s2 _ _ gl),Bi.same s2 Hh,by omega,(λh=>by rw[gd]at h;cases h),(λk h=>by rw[gd]at h;cases h),(λk h=>by rw[gd]at h;cases h),λ_ H3 lt AY off hL=>⟨rfl,?_⟩⟩
  have s3:AO H1 H3:=λb o e=>off b o (aj e nx) (s2 _ _ e)
  have Kw:=s1.trans s3
  refine⟨_,rfl,sc,ns,2,rfl,Kw.seq hS,λd3=>⟨_,_,rfl,rfl,(by show (0:Int) < 2;decide),rfl,_,rfl,?_⟩⟩
  cases hb:decide (V.int (d3 % 2)=V.int 0) with
  | true =>
   refine aH ⟨_,rfl,λtb FK nt TY TZ=>?_⟩
   have s4:AO H3 (upd (upd H3 FK (.own tb)) tb (.ins tn.near FK [])):=AO.new (AO.new (AO.refl H3) TY) (by rw[ah (Ne.symm TZ)];exact nt)
   refine⟨tb,FK,xl,C6,lt,AY,n,es,rfl,ad,⟨s4 _ _ hL.1,s4 _ _ hL.2.1,Bi.same s4 hL.2.2⟩,CM,by omega,by omega,λH5 de kvs Ua XB hE=>⟨rfl,?_⟩⟩
   have s5:AO H3 H5:=λb o e=>Ua b o (aj e nt) (s4 _ _ e)
   refine q true tb xl C6 lt n AY (es.map zp) (yA n kvs) H5 (Kw.trans s5) (Kw.free nt) ⟨⟨FK,xl,de,kvs,es,XB,hE,by omega,λp g k hp hg=>by unfold yA;rw[if_pos ⟨hp,hg⟩]⟩,⟨FK,_,XB.1,rfl,rfl⟩,⟨s5 _ _ hL.1,s5 _ _ hL.2.1,Bi.same s5 hL.2.2⟩,by omega,by omega,λp g k _ _ z hz=>by rw[Cz];exact(sw hE p g k).1 z hz⟩ (λp g k=>by have:=(sw hE p g k).2;omega) Bb (by omega) EH Ku
  | false =>
   refine aG ⟨_,rfl,_,rfl,_,rfl,_,rfl,sc,ns,2,rfl,Kw.seq hS,λd4=>⟨_,_,rfl,rfl,⟨by decide,by decide⟩,?_⟩⟩
   refine⟨l,AX,es.map zp,n,_,rfl,s3 _ _ gl,Bi.same s3 Hh,Bb,by omega,EH,Ku,λD rvs rs H4 s4 hD gD hR hO=>?_⟩
   have Fm:rvs.length=rs.length:=Paired.length hR
   have hrm:=hO.len
   refine λtb FK nt TY TZ=>?_
   have s6:AO H4 (upd (upd H4 FK (.own tb)) tb (.ins ts.told FK [])):=AO.new (AO.new (AO.refl H4) TY) (by rw[ah (Ne.symm TZ)];exact nt)
   have J8:=s4.trans s6
   refine⟨tb,FK,xl,C6,lt,D,(n:Int),AY,rvs,es.map zp,rs,rfl,ad,⟨J8 _ _ hL.1,J8 _ _ hL.2.1,Bi.same J8 hL.2.2⟩,AV.of (s6 _ _ gD),En.same s6 hR,by omega,by omega,λr hr=>⟨λk hk=>by have:=kF (hO.fit r hr) k hk;omega,by have:=hO.B9 r hr;omega⟩,(λi e=>by rw[hO.good]at e;cases e),λ_ H7 de kvs Ub XC hd7 hv7=>⟨rfl,?_⟩⟩
   have s7:AO H4 H7:=λb o e=>Ub b o (aj e nt) (s6 _ _ e)
   have Qb:=s4.trans s7
   have Ep:∀r ∈ rs,∀k ∈ r.s,k < (es.map zp).length:=λr hr=>kF (hO.fit r hr)
   refine q false tb xl C6 lt n AY (es.map zp) (Kq rs) H7 (Kw.trans Qb) (Kw.free (s4.free nt)) ⟨⟨FK,de,_,kvs,rs,XC,hd7,hv7,(λr hr k hk=>by have:=Ep r hr k hk;omega),rfl⟩,⟨FK,_,XC,rfl,rfl⟩,⟨Qb _ _ hL.1,Qb _ _ hL.2.1,Bi.same Qb hL.2.2⟩,by omega,by omega,λp g k _ _ z hz=>(su Ep p g k).1 z hz⟩ (λp g k=>by have:=(su Ep p g k).2;omega) Bb (by omega) EH Ku
abbrev NBg:List Str:=["_law_table_here", "_law_found", "_law_place", "_law_goal"]
theorem Hy:ao NBg ["_law_table_here"] (ai oS):=L2.Bt
theorem uY(F:Bo K "_law_begins" "_law_begins" oS f fd)(T:dY mg)(L:jK K c)(W:Wy K C fw dw J)(Gw:AQ P w K mg base aD 3 fw dw ["self", "place", "goal", "came"] (dj J)) :
  AQ P w K mg base aD 4 f fd ["_law_table_here"] (lb c C J):=by
 refine F.ok Hy (λ_ _ _ _ h=>?_) (λ_ _ _ s H _ Q E hr h=>?_)
 ·obtain⟨a,rfl,_⟩:=h
  rfl
 ·obtain⟨a,rfl,hT,q⟩:=h
  have hu:=hr.units
  have hn:=hT.P0
  refine⟨_,ae (ay (i:=1) Hy.nd rfl (Or.inl rfl) (aP ac))
   (ae (bK PassesOwn.never rfl (aQ rfl T.range (aa (al (al (pv 0) rfl) rfl) ac)) (au (i:=2) Hy.nd rfl (Or.inl rfl))
    (ag (bK PassesOwn.never rfl (aQ rfl T.range (aa (al (al (pv 0) rfl) rfl) ac)) (au (i:=3) Hy.nd rfl (Or.inl rfl))
     (ag (aM (fN (PW.pt (im (ap jw (pv 2) (pv 3) (ax _)) (gM (ap (zF hu) (aE (pv 0) W.cl W.m Gw hr W.b .nil am (aa (pv 2) (aa (pv 3) (aa cM ac)))) (aP ac) (ax _))))))
      (ag (aS (ce plainAttrs_list PySem.F.slot_list_append PySem.F.type_list_append bj (pv 1) (aa (aK (aa (pv 2) (aa (pv 3) ac))) ac)))) aB)))))
   (ag (aq (pv 1)))),?_⟩
  obtain⟨Cc,fst,BY,Br,BA⟩:=hT.i
  refine⟨zero_le _,λD hD=>?_⟩
  have s0:=(AO.refl H).new (o := .lst []) hD
  have g0:(upd H D (.lst [])) D=some (.lst []):=ad
  show dB 1 (V.ref D) _ _ _
  generalize upd H D (.lst [])=H0 at s0 g0 ⊢
  refine⟨_,rfl,a.tb,C,Cc,fst,_,rfl,s0 _ _ BY,W.cl,W.nl,Br,a.lx,c.land,a.Bh,_,_,rfl,s0 _ _ hT.l.1,L.cl,L.np,rfl,(a.n:Int),rfl,by omega,by omega,?_⟩
  rw[toNat_natCast]
  refine b6 (n:=a.n) (λi σ H2=>∃(a2 a3:Option V)(Cp:List V)(bs:List (Int × Int)),AO H H2/\H2 D=some (.lst Cp)/\Bi H2 Cp bs/\l5 a bs/\bs.length <= i * 12/\σ=[some (.ref a.tb),some (.ref D),a2,a3])
   ⟨none,none,[],[],s0,g0, .nil,(λp hp=>by cases hp),by show 0 <= _;omega,rfl⟩ ?_ ?_
  rotate_left
  ·rintro σ H2 ⟨a2,a3,Cp,bs,s2,g2,hL,hP,Uc,rfl⟩
   exact⟨_,rfl,q D Cp bs H2 s2 hD g2 hL hP (by omega)⟩
  rintro i σ H2 hi ⟨a2,a3,Cp,bs,s2,g2,hL,hP,Uc,rfl⟩
  rw[zero_add]
  refine⟨_,rfl,a.tb,C,Cc,fst,_,rfl,s2 _ _ BY,W.cl,W.nl,Br,a.lx,c.land,a.Bh,_,_,rfl,s2 _ _ hT.l.1,L.cl,L.np,rfl,(a.n:Int),rfl,by omega,by omega,?_⟩
  rw[toNat_natCast]
  refine b6 (n:=a.n) (λj σ H3=>∃(a3:Option V)(Cp:List V)(bs:List (Int × Int)),AO H H3/\H3 D=some (.lst Cp)/\Bi H3 Cp bs/\l5 a bs/\bs.length <= i * 12 + j/\σ=[some (.ref a.tb),some (.ref D),some (.int (i:Int)),a3])
   ⟨_,Cp,bs,s2,g2,hL,hP,by omega,rfl⟩ ?_ ?_
  rotate_left
  ·rintro σ H3 ⟨a3,Cp,bs,s3,g3,Dq,Qc,hb3,rfl⟩
   exact⟨_,_,Cp,bs,s3,g3,Dq,Qc,by omega,rfl⟩
  rintro j σ H3 hj ⟨a3,Cp,bs,s3,g3,Dq,Qc,hb3,rfl⟩
  rw[zero_add]
  have hbl3:Cp.length=bs.length:=Paired.length Dq
  refine⟨λb H4=>AO H3 H4/\b=decide (i ≠ j/\a.wy i j none ≠ []),?_,?_⟩
  ·refine⟨_,rfl,_,rfl,rfl,_,rfl,?_⟩
   rw[bB]
   by_cases Pt:(i:Int)=(j:Int)
   ·rw[decide_eq_true Pt]
    exact aG ⟨AO.refl H3,by rw[decide_eq_false (λz=>z.1 (by omega))]⟩
   ·rw[decide_eq_false Pt]
    refine aH ⟨_,rfl,a.tb,Cc,fst,rfl,s3 _ _ BY,BA,_,rfl,_,rfl,a.tb,a.n,a.wy,i,j,none,rfl,(BK.keep W hT (AO.Bl s3)).j,hi,hj,λDw H4 s4 hDw Qd=>⟨zero_le _,λo7 XD=>?_⟩⟩
    have s5:=s4.new (o := .lst []) XD
    have NY:(upd H4 o7 (.lst [])) Dw=some (.lst (nV (a.wy i j none))):=by rw[ah (aj Qd XD)];exact Qd
    have g7:(upd H4 o7 (.lst [])) o7=some (.lst (([]:List Int).map V.int)):=ad
    generalize upd H4 o7 (.lst [])=H5 at s5 NY g7 ⊢
    refine⟨Dw,o7,iz (a.wy i j none),[],rfl,rfl,by rw[←j1];exact AV.of NY,AV.of g7,_,rfl,s5,?_⟩
    by_cases hw:a.wy i j none=[]
    ·rw[decide_eq_true (show iz (a.wy i j none)=[] by rw[hw];rfl),decide_eq_false (λz=>z.2 hw)];rfl
    ·rw[decide_eq_false (show ¬iz (a.wy i j none)=[] from λz=>hw (by unfold iz at z;exact List.map_eq_nil_iff.mp z)),decide_eq_true ⟨by omega,hw⟩];rfl
  rintro b H4 ⟨s4,rfl⟩
  by_cases hw:i ≠ j/\a.wy i j none ≠ []
  ·rw[decide_eq_true hw]
   refine aH ⟨_,rfl, .inl ⟨rfl,_,AV.of (s4 _ _ g3)⟩,_,rfl,_,rfl,by show 2 <= sizeLine;decide,λt1 h1=>?_⟩
   have u1:=s4.new (o := .tup [.int (i:Int), .int (j:Int)]) h1
   have v1:(upd H4 t1 (.tup [.int (i:Int), .int (j:Int)])) t1=some (.tup [.int (i:Int), .int (j:Int)]):=ad
   generalize upd H4 t1 (.tup [.int (i:Int), .int (j:Int)])=H5 at u1 v1 ⊢
   have NZ:=u1 _ _ g3
   have XF:Bq H5 (upd H5 D (.lst (Cp ++ [.ref t1]))):=fE NZ
   refine⟨D,Cp,_,rfl,rfl,NZ,by rw[sizeLine_eq];omega,?_⟩
   refine⟨_,Cp ++ [.ref t1],bs ++ [((i:Int),(j:Int))],λb o e=>by rw[ah (aj e hD)];exact u1 _ _ (s3 _ _ e),ad,Bi.snoc (p:=((i:Int),(j:Int))) ⟨t1,rfl,XF _ _ v1 True.intro⟩ (XF.EO (Bi.same u1 Dq)),λp hp=>?_,by rw[length_append,length_singleton];omega,rfl⟩
   rcases mem_append.mp hp with hp | hp
   ·exact Qc p hp
   ·rw[mem_singleton.mp hp];exact⟨i,j,rfl,hi,hj,hw.1,hw.2⟩
  ·rw[decide_eq_false hw]
   exact aG ⟨_,Cp,bs,s3.trans s4,s4 _ _ g3,Bi.same s4 Dq,Qc,by omega,rfl⟩
theorem Ud:ao ["_law_table_here", "_law_cell"] ["_law_table_here", "_law_cell"] (ai gH):=L2.Bt
theorem Ue:BG ["_law_table_here", "_law_cell"] (ai gH) (wE ((aJ gH).getD 0 (.Pass ⟨0,0,0,0⟩))) ["_law_cell"] [1]:=L2.Co
theorem Ug:(["_law_lane", "_law_cell"]:List Str).Nodup:=by decide +kernel
theorem rB(F:Bo K "_law_rooms" "_law_rooms" gH f fd)(T:dY mg)(L:jK K c)(W:Wy K C fw dw J)(mm:mg "_law_mixed" = some (.ref fm))(km:keepIn K (.ref fm)=true)(bm:Binds K dm ["_law_cell", "_law_k"] [])(Gm:AQ P w K mg base aD 1 fm dm ["_law_cell", "_law_k"] lW) :
  AQ P w K mg base aD 2 f fd ["_law_table_here", "_law_cell"] (jh c C J):=by
 refine F.ok Ud (λ_ _ _ _ h=>?_) (λ_ _ _ s H _ Q E hr h=>?_)
 ·obtain⟨a,cl,rfl,_⟩:=h
  rfl
 ·obtain⟨a,cl,rfl,hT,q⟩:=h
  have h40:=hT.B9
  refine⟨_,ag (aq (bd (own:=["_law_lane"]) (capN:=["_law_cell"]) (cap:=[1]) Ue rfl (aQ rfl T.range (aa (aC av rfl T.len PySem.boot_len (aa (al (al (pv 0) rfl) rfl) ac)) ac)) (λC s' H' fp=>⟨au (i:=0) Ug rfl (Or.inl rfl),c9,aw bv af (aw bz (az Gm hr rfl mm km bm .nil am (aa (pv 1) (aa (pv 0) ac))) af)⟩))),?_⟩
  obtain⟨Cc,fst,BY,Br,BA⟩:=hT.i
  have Uh:a.AY.length=a.ps.length:=Paired.length hT.l.2.2
  refine⟨_,rfl,a.tb,C,Cc,fst,_,rfl,BY,W.cl,W.nl,Br,a.lx,c.land,a.Bh,_,_,rfl,hT.l.1,L.cl,L.nl,rfl,a.lt,_,rfl, .inr (AZ.of hT.l.2.1),((a.AY.length:Nat):Int),rfl,by omega,by omega,?_⟩
  rw[toNat_natCast,Uh]
  refine bN a.ps.length (by rw[sizeLine_eq];omega) (λi acc H'=>H' = H/\∃rs:List Int,acc=rs.map V.int/\rs.length=i/\∀r ∈ rs,1 <= r/\r <= 60) ⟨rfl,[],rfl,rfl,λr hr=>by cases hr⟩ (λi acc H' h=>by obtain⟨_,rs,rfl,e,_⟩:=h;rw[length_map];omega) (λi acc H' hi h=>?_) (λacc H' h=>?_)
  ·obtain⟨rfl,rs,rfl,e,Mz⟩:=h
   refine⟨hi,λv H2 y=>?_⟩
   obtain⟨rfl,rfl⟩:=y
   rw[zero_add]
   refine⟨_,rfl,_,rfl,cl,i,rfl,by omega,λd hd=>⟨_,_,rfl,rfl,(by show (0:Int) < 3;decide),_,_,rfl,rfl,rfl,rs ++ [1 + d % 3],by rw[map_append];rfl,by rw[length_append,e];rfl,λr hr=>?_⟩⟩
   rcases mem_append.mp hr with hr | hr
   ·exact Mz r hr
   ·rw[mem_singleton.mp hr];omega
  ·obtain⟨rfl,rs,rfl,e,Mz⟩:=h
   exact⟨le_refl _,λD hD=>q D rs _ ((AO.refl H').new hD) hD ad e Mz⟩
noncomputable def ci(w h p:Int):List Int :=
 (((if p % w + 1 < w then [p + 1] else []) ++ (if 0 < p % w then [p - 1] else [])) ++ (if p / w + 1 < h then [p + w] else [])) ++ (if 0 < p / w then [p - w] else [])
noncomputable def aN(w h:Int)(m:Nat):List (Int × Int):=(List.range m).flatMap λp:Nat=>(ci w h p).map λe=>((p:Int),e)
noncomputable def near:List (Int × Int):=[(1,0),(-1,0),(0,1),(0,-1)]
noncomputable def Ui(w h p:Int)(d:Int × Int):List (Int × Int):=if (0 <= p % w + d.1/\p % w + d.1 < w)/\(0 <= p / w + d.2/\p / w + d.2 < h) then [(p,(p / w + d.2) * w + (p % w + d.1))] else []
noncomputable def mU(w h:Int)(m:Nat):List (Int × Int):=(List.range m).flatMap λp:Nat=>near.flatMap λd=>Ui w h p d
noncomputable def dJ(w p g:Int):Int:=if p % w < g % w then p + 1 else if g % w < p % w then p - 1 else if p < g then p + w else p - w
noncomputable def Oa(i:Int):Int:=if i < 0 then -i else i
noncomputable def iC(w p g:Int):Int:=Oa (p % w - g % w) + Oa (p / w - g / w)
noncomputable def qc(a m:Nat):List (Int × Int):=((List.range m).filter λb:Nat=>decide (((a:Int) + 1) * ((b:Int) + 1) < 13)).map λb:Nat=>((a:Int) + 1,(b:Int) + 1)
noncomputable def lh(m:Nat):List (Int × Int):=(List.range m).flatMap λa=>qc a 12
noncomputable def fA(q:Int × Int):Bool:=decide (1 <= q.1/\1 <= q.2/\q.1 * q.2 <= 12)
noncomputable def qj(w h:Int)(ls:List (Int × Int))(m:Nat):Bool:=(List.range m).all λp=>(List.range m).all λg=>(decide (p=g) && decide (iC w p g=0)) || (!decide (p=g) && (decide (0 < iC w p g) && (ls.contains ((p:Int),dJ w p g) && (decide (0 <= dJ w p g/\dJ w p g < m) && decide (iC w (dJ w p g) g=iC w p g - 1)))))
noncomputable def lX(q:Int × Int):Bool:=decide (aN q.1 q.2 (q.1 * q.2).toNat=mU q.1 q.2 (q.1 * q.2).toNat) && (qj q.1 q.2 (aN q.1 q.2 (q.1 * q.2).toNat) (q.1 * q.2).toNat && decide ((aN q.1 q.2 (q.1 * q.2).toNat).length <= 40)) && (aN q.1 q.2 (q.1 * q.2).toNat).all λe=>decide ((0 <= e.1/\e.1 <= q.1 * q.2 - 1)) && (decide (0 <= e.2/\e.2 <= q.1 * q.2 - 1) && !decide (e.1=e.2))
theorem oz:(lh 12).all lX=true:=by decide +kernel
theorem tI{w h:Int}(ho:fA (w,h)=true):(w,h) ∈ lh 12:=by
 have ⟨h1,h2,h3⟩:=of_decide_eq_true ho
 have h1:1 <= w:=h1
 have h2:1 <= h:=h2
 have h3:w * h <= 12:=h3
 have hw:w <= 12:=by
  have:w * 1 <= w * h:=Int.mul_le_mul_of_nonneg_left h2 (by omega)
  omega
 have hh:h <= 12:=by
  have:1 * h <= w * h:=Int.mul_le_mul_of_nonneg_right h1 (by omega)
  omega
 obtain⟨a,ha⟩:∃a:Nat,w=(a:Int) + 1:=⟨(w - 1).toNat,by omega⟩
 obtain⟨b,hb⟩:∃b:Nat,h=(b:Int) + 1:=⟨(h - 1).toNat,by omega⟩
 unfold lh
 refine mem_flatMap.mpr ⟨a,mem_range.mpr (by omega),?_⟩
 unfold qc
 refine mem_map.mpr ⟨b,mem_filter.mpr ⟨mem_range.mpr (by omega),decide_eq_true ?_⟩,by rw[ha,hb]⟩
 rw[←ha,←hb];omega
structure pH(w h:Int)(m:Nat):Prop where
 w1:1 <= w
 w12:w <= 12
 h1:1 <= h
 m1:1 <= m
 Uj:m <= 12
 wh:w * h=(m:Int)
 alike:aN w h m=mU w h m
 B9:(aN w h m).length <= 40
 good:∀p ∈ aN w h m,i7 m p=true
 at_:∀p g:Nat,p < m->g < m->(p=g/\iC w p g=0)∨(p ≠ g/\0 < iC w p g/\((p:Int),dJ w p g) ∈ aN w h m/\(0 <= dJ w p g/\dJ w p g < m)/\iC w (dJ w p g) g=iC w p g - 1)
theorem xI{w h:Int}(ho:fA (w,h)=true):pH w h (w * h).toNat:=by
 have ⟨h1,h2,h3⟩:=of_decide_eq_true ho
 have h1:1 <= w:=h1
 have h2:1 <= h:=h2
 have h3:w * h <= 12:=h3
 have hw:w * 1 <= w * h:=Int.mul_le_mul_of_nonneg_left h2 (by omega)
 have hm:w * h=(((w * h).toNat:Nat):Int):=by omega
 have hg:=all_eq_true.mp oz _ (tI ho)
 unfold lX at hg
 simp only[Bool.and_eq_true]at hg
 obtain⟨⟨g1,g2,g3⟩,g4⟩:=hg
 have g1:=of_decide_eq_true g1
 have g3:=of_decide_eq_true g3
 refine⟨h1,by omega,h2,by omega,by omega,hm,g1,g3,λp hp=>?_,λp g hp hg=>?_⟩
 ·have:=all_eq_true.mp g4 p hp
  unfold i7
  rw[←hm]
  exact this
 ·unfold qj at g2
  have a1:=all_eq_true.mp g2 p (mem_range.mpr hp)
  have a2:=all_eq_true.mp a1 g (mem_range.mpr hg)
  simp only[Bool.or_eq_true,Bool.and_eq_true,decide_eq_true_eq,Bool.not_eq_true',decide_eq_false_iff_not,List.contains_iff_mem]at a2
  rcases a2 with ⟨b1,b2⟩ | ⟨b1,b2,b3,b4,b5⟩
  ·exact .inl ⟨b1,b2⟩
  ·exact .inr ⟨b1,b2,b3,b4,b5⟩
theorem rT{w h:Int}(G:pH w h m):eC (w * h) (aN w h m) = .good:=by
 have:=G.m1
 have:=G.Uj
 unfold eC
 rw[G.wh,decide_eq_true (show (1:Int) <= (m:Int)/\(m:Int) <= 12 by omega),if_neg (by decide),if_neg (by have:=G.B9;omega),gm G.good]
theorem jY(w h:Int)(i:Nat):aN w h (i + 1)=aN w h i ++ (ci w h i).map λe=>((i:Int),e):=by
 unfold aN
 rw[range_succ,List.flatMap_append]
 simp
theorem jJ(w h p:Int):(ci w h p).length <= 4:=by
 unfold ci
 simp only[length_append]
 have e:∀(c:Prop) [Decidable c] (v:Int),(if c then [v] else []).length <= 1:=λc _ v=>by split<;>simp
 have a1:=e (p % w + 1 < w) (p + 1)
 have a2:=e (0 < p % w) (p - 1)
 have a3:=e (p / w + 1 < h) (p + w)
 have a4:=e (0 < p / w) (p - w)
 omega
structure lL where
 tab:Addr
 rf:Addr
def pR:Sp:=λvs H Q _=>∃w h:Int,vs=[.int w, .int h]/\Fx w h/\Q (.bl (fA (w,h))) H
def yw:Sp:=λvs H Q _=>∃w h p:Int,vs=[.int w, .int h, .int p]/\0 < w/\w < 1073741824/\∀(D:Addr)(H':Hp),AO H H'->H D=none->H' D=some (.lst ((ci w h p).map V.int))->Q (.ref D) H'
def sT:Sp:=λvs H Q _=>∃(w h:Int)(m:Nat),vs=[.int w, .int h]/\pH w h m/\∀(D:Addr)(AX:List V)(H':Hp),AO H H'->H D=none->H' D=some (.lst AX)->Bi H' AX (aN w h m)->Q (.ref D) H'
def vW(H:Hp)(ts:lL)(x dx:Addr)(lv:V)(w:Int):Prop:=H x=some (.ins ts.rf dx [("land",lv),("wide", .int w)])
def yQ(c:Cs)(ts:lL):Sp:=λvs H Q E=>∃(x dx:Addr)(w h:Int),vs=[.ref x, .int w, .int h]/\H x=some (.ins ts.rf dx [])/\Fx w h /\
 (fA (w,h)=false->False) /\
 (∀m:Nat,pH w h m->fA (w,h)=true->∀H' lx Bh lt AY,Off x H H'->vW H' ts x dx (.ref lx) w->cy H' c lx Bh lt (w * h) AY (aN w h m)->Q .Bj H')
def pT(ts:lL):Sp:=λvs H Q _=>∃(x dx:Addr)(lv:V)(w p g:Int),vs=[.ref x, .int p, .int g]/\vW H ts x dx lv w/\0 < w/\Q (.int (dJ w p g)) H
noncomputable def sC(w h:Int)(m p g:Nat):List Int:=if p=g then [] else [((aN w h m).idxOf ((p:Int),dJ w p g):Int)]
def kU(c:Cs)(ts:lL):Sp:=λvs H Q _=>∃(x dx lx Bh lt:Addr)(AY:List V)(w h:Int)(m p g:Nat)(cv:V),vs=[.ref x, .int p, .int g,cv]/\vW H ts x dx (.ref lx) w/\cy H c lx Bh lt (w * h) AY (aN w h m)/\pH w h m/\p < m/\g < m /\
 ∀(D:Addr)(H':Hp),AO H H'->H D=none->H' D=some (.lst ((sC w h m p g).map V.int))->Q (.ref D) H'
structure Qe(K:Frag)(mg:Str->Option Value)(ts:lL)(f1:Addr)(d1:FuncData):Prop where
 cl:CO K ts.rf
 n1:Bd K ts.rf "land"
 n2:Bd K ts.rf "wide"
 mt:mg "Table" = some (.ref ts.tab)
 cm:qR K ts.tab "__init__" f1
 bt:Binds K d1 ["self", "land"] []
theorem Bi.app(h:Bi H us qs):∀{vs:List V}{ps:List (Int × Int)},Bi H vs ps->Bi H (vs ++ us) (ps ++ qs):=λAU=>by
 induction AU with
 | nil=>exact h
 | cons q r ih=>exact .cons q ih
theorem rP{ps:List (Int × Int)}(h:p ∈ ps):ps[ps.idxOf p]? = some p/\∀m q,m < ps.idxOf p->ps[m]? = some q->q ≠ p:=by
 have hl:=idxOf_lt_length_of_mem h
 refine⟨by rw[getElem?_eq_getElem hl,getElem_idxOf],λm q hm hq e=>?_⟩
 subst e
 obtain⟨Fi,e⟩:=List.getElem?_eq_some_iff.mp hq
 have:=List.not_of_lt_findIdx (p:=λx=>x == q) (xs:=ps) (i:=m) hm
 rw[e]at this
 simp at this
noncomputable def v8(s:Stmt):Scope:=match s with
 | .Expr (.Call _ [.ListComp _ _ sc _] _ _) _=>sc
 | _=>zQ0
noncomputable def xK(s:Stmt):List Stmt:=match s with
 | .For _ _ b _ _=>b
 | _=>[]
theorem yU:ao ["wide", "high"] ["wide", "high"] (ai oF):=L2.Bt
theorem uK(F:Bo K "is_size" "is_size" oF f fd)(T:dY mg)(mh:mg "is_whole" = some (.ref fh))(Fh:Bo K "is_whole" "is_whole" eV fh CQ)(bh:Binds K CQ ["value"] [])(mp:mg "MOST_PLACES" = some (.int 12 t1)) :
  AQ P w K mg base aD 2 f fd ["wide", "high"] pR:=by
 have G:AQ P w K mg base aD 1 fh CQ ["value"] iG:=jy Fh T
 refine F.ok yU (λ_ _ _ _ h=>?_) (λ_ _ _ s H _ Q E hr h=>?_)
 ·obtain⟨w',h',rfl,_⟩:=h
  rfl
 ·obtain⟨a,b,rfl,hc,q⟩:=h
  refine⟨_,ag (aq (cE (az G hr rfl mh Fh.kp bh .nil am (aa (pv 0) ac)) (cE (az G hr rfl mh Fh.kp bh .nil am (aa (pv 1) ac)) (cE (cb qr (pv 0) af (ax _)) (cE (cb qr (pv 1) af (ax _))
   (dz (cb mI (aw fu (pv 0) (pv 1)) (dq (v := .int 12) rfl mp ⟨_,rfl⟩) (ax _)))))))),?_⟩
  refine⟨_,rfl,a,rfl,true,rfl,aH ⟨_,rfl,b,rfl,true,rfl,aH ⟨_,rfl,_,_,rfl,rfl,_,rfl,?_⟩⟩⟩
  unfold fA at q
  by_cases h1:1 <= a
  ·rw[decide_eq_true h1]
   refine aH ⟨_,rfl,_,_,rfl,rfl,_,rfl,?_⟩
   by_cases h2:1 <= b
   ·rw[decide_eq_true h2]
    refine aH ⟨_,rfl,_,rfl,_,_,rfl,rfl,hc,_,_,rfl,rfl,?_⟩
    have e:decide (a * b <= 12)=decide (1 <= a/\1 <= b/\a * b <= 12):=by
     congr 1;exact propext ⟨λz=>⟨h1,h2,z⟩,λz=>z.2.2⟩
    show Q (.bl (decide (a * b <= 12))) H
    rw[e];exact q
   ·rw[decide_eq_false h2]
    refine aG ?_
    rw[decide_eq_false (show ¬(1 <= a/\1 <= b/\a * b <= 12) from λz=>h2 z.2.1)]at q
    exact q
  ·rw[decide_eq_false h1]
   refine aG ?_
   rw[decide_eq_false (show ¬(1 <= a/\1 <= b/\a * b <= 12) from λz=>h1 z.1)]at q
   exact q
abbrev NBe:List Str:=["wide", "high", "place", "column", "row", "beside"]
theorem ED:ao NBe ["wide", "high", "place"] (ai zn):=L2.Bt
theorem Ad(F:Bo K "places_beside" "places_beside" zn f fd):AQ P w K mg base aD 1 f fd ["wide", "high", "place"] yw:=by
 refine F.ok ED (λ_ _ _ _ h=>?_) (λ_ _ _ s H _ Q E hr h=>?_)
 ·obtain⟨w',h',p',rfl,_⟩:=h
  rfl
 ·obtain⟨a,b,p,rfl,ha,ha2,q⟩:=h
  refine⟨_,ae (ay (i:=3) ED.nd rfl (Or.inl rfl) (aw bz (pv 2) (pv 0)))
   (ae (ay (i:=4) ED.nd rfl (Or.inl rfl) (aw cf (pv 2) (pv 0)))
   (ae (ay (i:=5) ED.nd rfl (Or.inl rfl) (aP ac))
   (ae (aM (ap fv (aw bv (pv 3) af) (pv 0) (ax _)) (ag (aS (ce plainAttrs_list PySem.F.slot_list_append PySem.F.type_list_append bj (pv 5) (aa (aw bv (pv 2) af) ac)))) aB)
   (ae (aM (ap kg (pv 3) af (ax _)) (ag (aS (ce plainAttrs_list PySem.F.slot_list_append PySem.F.type_list_append bj (pv 5) (aa (aw cr (pv 2) af) ac)))) aB)
   (ae (aM (ap fv (aw bv (pv 4) af) (pv 1) (ax _)) (ag (aS (ce plainAttrs_list PySem.F.slot_list_append PySem.F.type_list_append bj (pv 5) (aa (aw bv (pv 2) (pv 0)) ac)))) aB)
   (ae (aM (ap kg (pv 4) af (ax _)) (ag (aS (ce plainAttrs_list PySem.F.slot_list_append PySem.F.type_list_append bj (pv 5) (aa (aw cr (pv 2) (pv 0)) ac)))) aB)
   (ag (aq (pv 5))))))))),?_⟩
  refine⟨_,rfl,_,rfl,_,_,rfl,rfl,ha,_,rfl,_,rfl,_,_,rfl,rfl,⟨ha,ha2⟩,zero_le _,λD hD=>?_⟩
  refine⟨_,rfl,_,_,rfl,rfl,_,rfl,_,_,rfl,rfl,_,rfl,py (λh1=>⟨_,rfl, .inl ⟨rfl,_,AV.of ad⟩,_,rfl,_,_,rfl,rfl,D,_,_,rfl,rfl,ad,by rw[sizeLine_eq];simp,?_⟩) λh1=>?_⟩
  all_goals refine⟨_,rfl,_,_,rfl,rfl,_,rfl,py (λh2=>⟨_,rfl, .inl ⟨rfl,_,AV.of ad⟩,_,rfl,_,_,rfl,rfl,D,_,_,rfl,rfl,ad,by rw[sizeLine_eq];simp,?_⟩) λh2=>?_⟩
  all_goals refine⟨_,rfl,_,_,rfl,rfl,_,rfl,_,_,rfl,rfl,_,rfl,py (λh3=>⟨_,rfl, .inl ⟨rfl,_,AV.of ad⟩,_,rfl,_,rfl,_,_,rfl,rfl,D,_,_,rfl,rfl,ad,by rw[sizeLine_eq];simp,?_⟩) λh3=>?_⟩
  all_goals refine⟨_,rfl,_,_,rfl,rfl,_,rfl,py (λh4=>⟨_,rfl, .inl ⟨rfl,_,AV.of ad⟩,_,rfl,_,rfl,_,_,rfl,rfl,D,_,_,rfl,rfl,ad,by rw[sizeLine_eq];simp,?_⟩) λh4=>?_⟩
  all_goals
   simp only[decide_eq_true_eq]at h1 h2 h3 h4
   refine⟨_,rfl,q D _ (λb o e=>by simp only[ah (aj e hD)];exact e) hD ?_⟩
   rw[ad]
   unfold ci
   simp only[h1,h2,h3,h4,if_true,if_false]
   rfl
abbrev XG:List Str:=["wide", "high", "lanes", "place"]
abbrev Uk:List Str:=["self", "wide", "high"]
abbrev Ul:List Str:=["self", "place", "goal", "column", "column_there"]
noncomputable def Um:Stmt:=(xK ((aJ lZ).getD 1 (.Pass ⟨0,0,0,0⟩))).getD 0 (.Pass ⟨0,0,0,0⟩)
theorem m7(w h:Int):∀m,(aN w h m).length <= 4 * m
 | 0=>by simp[aN]
 | m + 1=>by
  rw[jY,length_append,length_map]
  have:=m7 w h m
  have:=jJ w h m
  omega
theorem J9:ao XG ["wide", "high"] (ai lZ):=L2.Bt
theorem Uo:BG XG (ai lZ) (v8 Um) ["place"] [3]:=L2.Co
theorem Up:(["end", "place"]:List Str).Nodup:=by decide +kernel
theorem wX(F:Bo K "row_lanes" "row_lanes" lZ f fd)(T:dY mg)(mb:mg "places_beside" = some (.ref fb))(kb:keepIn K (.ref fb)=true)(bb:Binds K db ["wide", "high", "place"] [])
  (Gb:AQ P w K mg base aD 1 fb db ["wide", "high", "place"] yw):AQ P w K mg base aD 2 f fd ["wide", "high"] sT:=by
 refine F.ok J9 (λ_ _ _ _ h=>?_) (λ_ _ _ s H _ Q E hr h=>?_)
 ·obtain⟨w',h',m',rfl,_⟩:=h
  rfl
 ·obtain⟨a,b,m,rfl,G,q⟩:=h
  have g1:=G.w1
  have g2:=G.w12
  have g3:=G.Uj
  refine⟨_,ae (ay (i:=2) J9.nd rfl (Or.inl rfl) (aP ac))
   (ae (bK PassesOwn.never rfl (aQ rfl T.range (aa (aw fu (pv 0) (pv 1)) ac)) (au (i:=3) J9.nd rfl (Or.inr rfl))
    (ag (aS (ce plainAttrs_list slot_list_extend type_list_extend e9 (pv 2) (aa (bd (own:=["end"]) (capN:=["place"]) (cap:=[3]) Uo rfl (bF (az Gb hr rfl mb kb bb .nil am (aa (pv 0) (aa (pv 1) (aa (pv 3) ac)))))
     (λC s' H' fp=>⟨au (i:=0) Up rfl (Or.inl rfl),c9,aK (aa (pv 1) (aa (pv 0) ac))⟩)) ac)))))
   (ag (aq (pv 2)))),?_⟩
  refine⟨zero_le _,λD hD=>?_⟩
  have s0:=(AO.refl H).new (o := .lst []) hD
  refine⟨_,rfl,_,rfl,_,_,rfl,rfl, .inl ⟨by omega,by omega⟩,(m:Int),congrArg (λz:Int=>[V.int z]) G.wh,by omega,by omega,?_⟩
  rw[toNat_natCast]
  refine b6 (n:=m) (λi σ H2=>∃(a3:Option V)(AX:List V),AO H H2/\H2 D=some (.lst AX)/\Bi H2 AX (aN a b i)/\σ=[some (.int a),some (.int b),some (.ref D),a3])
   ⟨none,[],s0,ad, .nil,rfl⟩ ?_ ?_
  ·rintro i σ H2 hi ⟨a3,AX,s2,gD,hL,rfl⟩
   rw[zero_add]
   refine⟨_,rfl, .inl ⟨rfl,_,AV.of gD⟩,_,rfl,_,rfl,_,rfl,a,b,(i:Int),rfl,by omega,by omega,λB H3 s3 hB gB=>⟨B,rfl,⟨_,AV.of gB⟩,?_⟩⟩
   have Uc:((ci a b i).map V.int).length <= 4:=by rw[length_map];exact jJ a b i
   refine bN ((ci a b i).map V.int).length (by rw[sizeLine_eq];omega) (λk acc H4=>AO H3 H4/\acc.length=k/\Bi H4 acc (((ci a b i).take k).map λe=>((i:Int),e))) ⟨AO.refl _,rfl, .nil⟩ (λk acc H4 h=>le_of_eq h.2.1) ?_ ?_
   ·rintro k acc H4 hk ⟨s4,XH,hA⟩
    have q4:AV K H4 B ((ci a b i).map V.int):=AV.of (s4 _ _ gB)
    refine⟨⟨_,((ci a b i).map V.int)[k],q4,getElem?_eq_getElem hk⟩,λy H5 ⟨e5,hy⟩=>?_⟩
    subst e5
    have hy:=hy _ q4
    rw[getElem?_map]at hy
    obtain⟨e,he,rfl⟩:∃e,(ci a b i)[k]? = some e/\y=V.int e:=by
     cases ez:(ci a b i)[k]? with
     | none=>rw[ez]at hy;cases hy
     | some e=>rw[ez]at hy;exact⟨e,rfl,(Option.some.inj hy).symm⟩
    refine⟨_,rfl,_,rfl,by show 2 <= sizeLine;decide,λt ht=>?_⟩
    refine⟨s4.new ht,by rw[length_append,XH];rfl,?_⟩
    rw[take_succ,he,map_append]
    exact Bi.snoc (p:=((i:Int),e)) ⟨t,rfl,ad⟩ (Bi.same ((AO.refl _).new ht) hA)
   ·rintro acc H4 ⟨s4,XH,hA⟩
    rw[length_map,take_length]at hA
    refine⟨⟨_,AV.of (s4 _ _ gB),le_refl _⟩,λC hC=>?_⟩
    have JA:=s3.trans s4
    have s5:=JA.new (o := .lst acc) hC
    have nC:C ≠ D:=Ne.symm (aj (JA _ _ gD) hC)
    have DN:AX.length=(aN a b i).length:=Paired.length hL
    have Fm:=m7 a b i
    refine⟨D,C,AX,acc,rfl,rfl,s5 _ _ gD,ad,by rw[sizeLine_eq];omega,?_⟩
    have XI:Bi (upd H4 C (.lst acc)) acc ((ci a b i).map λe=>((i:Int),e)):=Bi.same ((AO.refl _).new hC) hA
    have XJ:=Bi.same s5 hL
    have NZ:=s5 _ _ gD
    generalize upd H4 C (.lst acc)=H5 at s5 XI XJ NZ ⊢
    refine⟨_,AX ++ acc,λb' o e=>by rw[ah (aj e hD)];exact s5 _ _ (s2 _ _ e),ad,?_,rfl⟩
    rw[jY]
    exact qx NZ (Bi.app XI XJ)
  ·rintro σ H2 ⟨a3,AX,s2,gD,hL,rfl⟩
   exact⟨_,rfl,q D AX H2 s2 hD gD hL⟩
theorem Uq:ao Uk ["self", "wide", "high"] (ai RZ):=L2.Bt
theorem Ob(F:Bo K "__init__" "RowFirst.__init__" RZ f fd)(B:Qe K mg ts ft dt)(G1:AQ P w K mg base aD 1 ft dt ["self", "land"] (pQ K))
  (ms:mg "is_size" = some (.ref fs)) (ks:keepIn K (.ref fs)=true) (bs:Binds K ds ["wide", "high"] []) (Gs:AQ P w K mg base aD 2 fs ds ["wide", "high"] pR)
  (mr:mg "row_lanes" = some (.ref fr)) (kr:keepIn K (.ref fr)=true) (br:Binds K dr ["wide", "high"] []) (Gr:AQ P w K mg base aD 2 fr dr ["wide", "high"] sT)
  (M:Mk K c.land fi) (ml:mg "Land" = some (.ref c.land)) (bi:Binds K di ["self", "places", "lanes"] []) (Gi:AQ P w K mg base aD 4 fi di ["self", "places", "lanes"] (ow K c)) :
  AQ P w K mg base aD 6 f fd ["self", "wide", "high"] (yQ c ts):=by
 refine F.ok Uq (λ_ _ _ _ h=>?_) (λ_ _ _ s H _ Q E hr h=>?_)
 ·obtain⟨x,dx,a,b,rfl,_⟩:=h
  rfl
 ·obtain⟨x,dx,a,b,rfl,hx,hc,hE,hQ⟩:=h
  have B0:Bc 1 _:=hr.mono (by decide)
  have Cg:Bc 2 _:=hr.mono (by decide)
  refine⟨_,ae (aM (bW (bE (az Gs Cg rfl ms ks bs .nil am (aa (pv 1) (aa (pv 2) ac)))))
    (ag bA) aB)
   (ae (aS (ju (dq (v := .ref ts.tab) rfl B.mt rfl) B.cm G1 B0 B.bt .nil am (aa (pv 0) (aa (cN M Gi hr rfl ml bi .nil am (aa (aw fu (pv 1) (pv 2)) (aa (az Gr Cg rfl mr kr br .nil am (aa (pv 1) (aa (pv 2) ac))) ac))) ac))))
   (ag (bu (pv 0) (pv 1) rfl))),?_⟩
  refine⟨_,rfl,_,rfl,a,b,rfl,hc,_,rfl,?_⟩
  cases ho:fA (a,b) with
  | false=>exact aH (hE ho)
  | true =>
   have G:=xI ho
   generalize hm:(a * b).toNat=m at G
   refine aG ?_
   refine⟨rfl,_,rfl,_,rfl,_,rfl,_,_,rfl,rfl,hc,_,rfl,_,rfl,a,b,m,rfl,G,λD AX H1 s1 hD gD hL=>?_⟩
   refine λlx Bh nx Hi Fn=>?_
   have Jn:AO H1 (upd (upd H1 Bh (.own lx)) lx (.ins c.land Bh [])):=AO.new (AO.new (AO.refl H1) Hi) (by rw[ah (Ne.symm Fn)];exact nx)
   have gd:=rT G
   have DN:AX.length=(aN a b m).length:=Paired.length hL
   have Ck:=G.B9
   refine⟨lx,Bh,a * b,D,AX,aN a b m,rfl,ad,AV.of (Jn _ _ gD),Bi.same Jn hL,by omega,(λh=>by rw[gd]at h;cases h),(λk h=>by rw[gd]at h;cases h),(λk h=>by rw[gd]at h;cases h),λ_ H8 lt AY off hLd=>⟨rfl,?_⟩⟩
   have s8:AO H H8:=λb' o z=>off b' o (aj (s1 _ _ z) nx) (Jn _ _ (s1 _ _ z))
   have x8:=s8 _ _ hx
   refine⟨x,ts.rf,dx,_,rfl,x8,B.cl,B.n1,?_⟩
   refine⟨_,rfl,_,rfl,x,ts.rf,dx,[("land", .ref lx)],rfl,ad,B.cl,B.n2,by show 1 < 1000;decide,?_⟩
   have Oc:Off x H8 (upd (upd H8 x (.ins ts.rf dx [("land", .ref lx)])) x (.ins ts.rf dx (aR "wide" (.int a) [("land", .ref lx)]))):=λb' o hb e=>by rw[ah hb,ah hb];exact e
   exact hQ m G ho _ lx Bh lt AY (λb' o hb e=>Oc b' o hb (s8 _ _ e)) (by unfold vW;rw[ad];rfl) (Off.land Oc x8 hLd)
theorem FL:ao Ul ["self", "place", "goal"] (ai oG):=L2.Bt
theorem uN(F:Bo K "next_place" "RowFirst.next_place" oG f fd)(B:Qe K mg ts ft dt):AQ P w K mg base aD 1 f fd ["self", "place", "goal"] (pT ts):=by
 refine F.ok FL (λ_ _ _ _ h=>?_) (λ_ _ _ s H _ Q E hr h=>?_)
 ·obtain⟨x,dx,lv,a,p,g,rfl,_⟩:=h
  rfl
 ·obtain⟨x,dx,lv,a,p,g,rfl,hx,ha,q⟩:=h
  refine⟨_,ae (ay (i:=3) FL.nd rfl (Or.inl rfl) (aw bz (pv 1) (al (pv 0) rfl)))
   (ae (ay (i:=4) FL.nd rfl (Or.inl rfl) (aw bz (pv 2) (al (pv 0) rfl)))
   (ae (aM (ap jw (pv 3) (pv 4) (ax _)) (ag (aq (cP (ap fv (pv 3) (pv 4) (ax _)) (aw bv (pv 1) af) (aw cr (pv 1) af)))) aB)
   (ag (aq (cP (ap fv (pv 1) (pv 2) (ax _)) (aw bv (pv 1) (al (pv 0) rfl)) (aw cr (pv 1) (al (pv 0) rfl))))))),?_⟩
  refine⟨_,rfl,_,rfl,x,ts.rf,dx,_,_,rfl,hx,B.cl,B.n2,rfl,_,_,rfl,rfl,ha,?_⟩
  refine⟨_,rfl,_,rfl,x,ts.rf,dx,_,_,rfl,hx,B.cl,B.n2,rfl,_,_,rfl,rfl,ha,?_⟩
  refine⟨_,rfl,_,rfl,rfl,_,rfl,?_⟩
  dsimp only
  rw[dM]
  unfold dJ at q
  by_cases h1:p % a=g % a
  ·refine Lv h1 ?_
   rw[if_neg (by omega),if_neg (by omega)]at q
   refine⟨_,rfl,_,rfl,_,_,rfl,rfl,_,rfl,py (λh2=>?_) λh2=>?_⟩
   ·have GK:p < g:=of_decide_eq_true h2
    rw[if_pos GK]at q
    exact⟨_,rfl,_,rfl,x,ts.rf,dx,_,_,rfl,hx,B.cl,B.n2,rfl,_,_,rfl,rfl,q⟩
   ·have GK:¬p < g:=λz=>h2 (decide_eq_true z)
    rw[if_neg GK]at q
    exact⟨_,rfl,_,rfl,x,ts.rf,dx,_,_,rfl,hx,B.cl,B.n2,rfl,_,_,rfl,rfl,q⟩
  ·rw[decide_eq_false h1]
   refine aH ⟨_,rfl,_,rfl,_,_,rfl,rfl,_,rfl,py (λh2=>?_) λh2=>?_⟩
   ·have GK:p % a < g % a:=of_decide_eq_true h2
    rw[if_pos GK]at q
    exact⟨_,rfl,_,_,rfl,rfl,q⟩
   ·have GK:¬p % a < g % a:=λz=>h2 (decide_eq_true z)
    rw[if_neg GK,if_pos (by omega)]at q
    exact⟨_,rfl,_,_,rfl,rfl,q⟩
structure Nx(K:Frag)(ts:lL)(f:Addr)(d:FuncData):Prop where
 m:bG K ts.rf "next_place" f
 b:Binds K d ["self", "place", "goal"] []
theorem Od:ao ["self", "place", "goal", "came"] ["self", "place", "goal", "came"] (ai oB):=L2.Bt
theorem uF(F:Bo K "ways" "RowFirst.ways" oB f fd)(L:jK K c)(B:Qe K mg ts ft dt)(N:Nx K ts fn dn)(Gn:AQ P w K mg base aD 1 fn dn ["self", "place", "goal"] (pT ts)) :
  AQ P w K mg base aD 2 f fd ["self", "place", "goal", "came"] (kU c ts):=by
 refine F.ok Od (λ_ _ _ _ h=>?_) (λ_ _ _ s H _ Q E hr h=>?_)
 ·obtain⟨x,dx,lx,Bh,lt,AY,a,b,m,p,g,cv,rfl,_⟩:=h
  rfl
 ·obtain⟨x,dx,lx,Bh,lt,AY,a,b,m,p,g,cv,rfl,hx,hL,G,hp,hg,q⟩:=h
  have hu:=hr.units
  refine⟨_,ae (aM (ap bq (pv 1) (pv 2) (ax _)) (ag (aq (aP ac))) aB)
   (ag (aq (aP (aa (Mb PySem.F.slot_tuple_index PySem.F.type_tuple_index (rE hu) (al (al (pv 0) rfl) rfl) (aa (aK (aa (pv 1) (aa (aE (pv 0) B.cl N.m Gn hr N.b .nil am (aa (pv 1) (aa (pv 2) ac))) ac))) ac)) ac)))),?_⟩
  have g1:=G.w1
  refine⟨_,rfl,_,rfl,rfl,_,rfl,?_⟩
  rw[dM]
  by_cases Gz:p=g
  ·rw[decide_eq_true (show (p:Int)=(g:Int) by omega)]
   refine aH ⟨zero_le _,λD hD=>q D _ ((AO.refl H).new hD) hD ?_⟩
   rw[ad];unfold sC;rw[if_pos Gz];rfl
  ·rw[decide_eq_false (show ¬(p:Int)=(g:Int) by omega)]
   refine aG ?_
   refine⟨_,rfl,x,ts.rf,dx,_,_,rfl,hx,B.cl,B.n1,rfl,lx,c.land,Bh,_,_,rfl,hL.1,L.cl,L.nl,rfl,⟨lt,AY,rfl,hL.2.1⟩,_,rfl,_,rfl,x,dx,_,rfl,hx,rfl,_,rfl,_,rfl,x,dx,_,a,(p:Int),(g:Int),rfl,hx,by omega,?_⟩
   refine⟨by show 2 <= sizeLine;decide,λt ht=>?_⟩
   have s1:=(AO.refl H).new (o := .tup [.int p, .int (dJ a p g)]) ht
   have Ht:((p:Int),dJ a p g) ∈ aN a b m:=by
    rcases G.at_ p g hp hg with h | h
    ·exact absurd h.1 Gz
    ·exact h.2.2.1
   obtain⟨i1,i2⟩:=rP Ht
   refine⟨lt,t,AY,aN a b m,((p:Int),dJ a p g),_,rfl,rfl,AZ.of (s1 _ _ hL.2.1),Bi.same s1 hL.2.2,ad,i1,i2,by show 1 <= sizeLine;decide,λD hD=>?_⟩
   refine q D _ (s1.new hD) (s1.free hD) ?_
   rw[ad];unfold sC;rw[if_neg Gz];rfl
noncomputable def lO(w h:Int)(m p g:Nat):List Nat:=if p=g then [] else [(aN w h m).idxOf ((p:Int),dJ w p g)]
theorem yC(w h:Int)(m p g:Nat):(sC w h m p g).map V.int=nV (lO w h m p g):=by
 unfold sC lO
 split<;>rfl
def Kx(c:Cs)(tr:lL):TJ:=λH x n wy=>∃(dx lx Bh lt:Addr)(AY:List V)(w h:Int),vW H tr x dx (.ref lx) w/\cy H c lx Bh lt (w * h) AY (aN w h n)/\pH w h n/\∀p g k,p < n->g < n->wy p g k=lO w h n p g
theorem Kx.keep(h:Kx c tr H x n wy)(k:Bq H H'):Kx c tr H' x n wy:=by
 obtain⟨dx,lx,Bh,lt,AY,w,h',h1,h2,h3,h4⟩:=h
 exact⟨dx,lx,Bh,lt,AY,w,h',k _ _ h1 True.intro,⟨k _ _ h2.1 True.intro,k _ _ h2.2.1 True.intro,k.EO h2.2.2⟩,h3,h4⟩
theorem wg{w h:Int}(G:pH w h m)(hp:p < m)(hg:g < m):∀z ∈ lO w h m p g,z < (aN w h m).length:=λz hz=>by
 unfold lO at hz
 split at hz
 ·cases hz
 ·next CZ =>
  rw[mem_singleton.mp hz]
  rcases G.at_ p g hp hg with ⟨e,_⟩ | ⟨_,_,hm,_⟩
  ·exact absurd e CZ
  ·exact List.idxOf_lt_length_iff.mpr hm
noncomputable def Qf(w h:Int)(n:Nat):Wf:=λp g _=>if p < n/\g < n then lO w h n p g else []
theorem wf(w h:Int)(n p g:Nat)(k:Option Nat):(Qf w h n p g k).length <= 400:=by
 unfold Qf lO
 split
 ·split
  ·exact zero_le _
  ·show 1 <= 400;decide
 ·exact zero_le _
noncomputable def T3(ts:Ts)(tn:lM)(tr:lL):Option Bool->Addr
 | none=>tr.rf
 | some b=>TC ts tn b
def J3(P:Program)(w:World)(c:Cs)(ts:Ts)(tn:lM)(tr:lL):Option Bool->TJ
 | none=>Kx c tr
 | some b=>JJ P w ts tn b
theorem uo(G:AQ P w K mg base aD k f fd ["self", "place", "goal", "came"] (kU c tr)):AQ P w K mg base aD k f fd ["self", "place", "goal", "came"] (dj (Kx c tr)) :=
 G.imp λvs H Q E AU=>by obtain⟨x,n,wy,p,g,k,e,⟨dx,lx,Bh,lt,AY,a,b,h1,h2,G,ew⟩,hp,hg,q⟩:=AU;exact⟨x,dx,lx,Bh,lt,AY,a,b,n,p,g,cV k,e,h1,h2,G,hp,hg,λD H' s hD gD=>q D H' s hD (by rw[ew p g k hp hg,←yC];exact gD)⟩
mutual
theorem Den.same{K:Frag}{H H':Hp}(s:AO H H'):∀{v:V}{d:PyData},Den K H v d->Den K H' v d
 | _,_, .Bj => .Bj
 | _,_, .bl b => .bl b
 | _,_, .int i => .int i
 | _,_, .str x => .str x
 | _,_, .lst h r => .lst (s.seq h) (BE.same s r)
 | _,_, .tup h r => .tup (bI s h) (BE.same s r)
theorem BE.same{K:Frag}{H H':Hp}(s:AO H H'):∀{vs:List V}{ds:List PyData},BE K H vs ds->BE K H' vs ds
 | _,_, .nil => .nil
 | _,_, .cons h r => .cons (Den.same s h) (BE.same s r)
end
noncomputable def hD:Option Int->PyData
 | none => .none
 | some i => .int i
noncomputable def lnD(ln:bT):PyData := .tuple [.int ln.r, .int ln.b,hD ln.h, .list (ln.qs.map i6)]
noncomputable def hpD(qs:List (Int × Int)):PyData := .list (qs.map i6)
noncomputable def vD:V->PyData
 | .int i => .int i
 | .str x => .str x
 | _ => .none
noncomputable def wD(m:List V):PyData := .tuple (m.map vD)
theorem hZ{f:α->PyData}(h:∀v a,R v a->Den K H v (f a)):∀{vs:List V}{as:List α},Paired R vs as->BE K H vs (as.map f)
 | _,_, .nil => .nil
 | _,_, .cons x r => .cons (h _ _ x) (hZ h r)
theorem Oe(h:Option Int):Den K H (hV h) (hD h):=by cases h<;>first | exact .Bj | exact .int _
theorem nn :∀{m:List V},(∀x ∈ m,y6 x)->BE K H m (m.map vD)
 | [],_ => .nil
 | x :: m,h => .cons (by rcases h x mem_cons_self with ⟨i,rfl⟩ | ⟨t,rfl,_⟩<;>first | exact .int _ | exact .str _) (nn λy hy=>h y (mem_cons_of_mem _ hy))
theorem kL :∀{vs:List V}{ms:List (List V)},Paired (BB H) vs ms->(∀m ∈ ms,∀x ∈ m,y6 x)->BE K H vs (ms.map wD)
 | _,_, .nil,_ => .nil
 | _,_, .cons ⟨t,e,h⟩ r,hs => .cons (by subst e;exact .tup (AZ.of h) (nn (hs _ mem_cons_self))) (kL r λd hd=>hs d (mem_cons_of_mem _ hd))
theorem tJ(h:∀x ∈ m,y6 x):Cu (wD m) 1:=by
 unfold wD
 refine cG (m:=0) λy hy=>?_
 obtain⟨x,hx,rfl⟩:=mem_map.mp hy
 rcases h x hx with ⟨i,rfl⟩ | ⟨t,rfl,ht⟩
 ·exact bV _
 ·exact fL ht
theorem qd(qs:List (Int × Int)):Cu (.list (qs.map i6)) 2:=c8 (m:=1) λz hz=>by
 obtain⟨p,_,rfl⟩:=mem_map.mp hz
 exact cG (m:=0) λy hy=>by
  simp only[mem_cons,not_mem_nil,or_false]at hy
  rcases hy with rfl | rfl<;>exact bV _
noncomputable def wyD(t:ck):PyData := .list (t.way.map λz:Nat => .int z)
noncomputable def XM(s:YS):PyData := .tuple [.list (s.lanes.map lnD), .list (s.U.map wyD), .list (s.lies.map hpD), .list (s.done.map wD)]
theorem yS(GZ:∀d ∈ s.done,∀x ∈ d,y6 x):Cu (XM s) 64:=(cG (m:=4) λy hy=>by
 simp only[mem_cons,not_mem_nil,or_false]at hy
 rcases hy with rfl | rfl | rfl | rfl
 ·refine c8 (m:=3) λz hz=>?_
  obtain⟨ln,_,rfl⟩:=mem_map.mp hz
  refine cG (m:=2) λy hy=>?_
  simp only[mem_cons,not_mem_nil,or_false]at hy
  rcases hy with rfl | rfl | rfl | rfl
  ·exact(bV _).le (by decide)
  ·exact(bV _).le (by decide)
  ·cases ln.h with
   | none=>exact F6.le (by decide)
   | some z=>exact(bV _).le (by decide)
  ·exact qd _
 ·refine(c8 (m:=1) λz hz=>?_).le (by decide)
  obtain⟨t,_,rfl⟩:=mem_map.mp hz
  refine c8 (m:=0) λx hx=>?_
  obtain⟨u,_,rfl⟩:=mem_map.mp hx
  exact bV _
 ·refine(c8 (m:=2) λz hz=>?_).le (by decide)
  obtain⟨qs,_,rfl⟩:=mem_map.mp hz
  exact qd _
 ·refine(c8 (m:=1) λz hz=>?_).le (by decide)
  obtain⟨m,hm,rfl⟩:=mem_map.mp hz
  exact tJ (GZ m hm)).le (by decide)
inductive Hz(H:Hp)(v:V)(ln:bT):Prop
 | mk (t ql:Addr) (Bf:List V) (_:v = .ref t) (_:H t=some (.tup [.int ln.r, .int ln.b,hV ln.h, .ref ql])) (_:H ql=some (.lst Bf)) (_:Bi H Bf ln.qs)
inductive HA(H:Hp)(v:V)(t:ck):Prop
 | mk (x:Addr) (_:v = .ref x) (_:H x=some (.lst (nV t.way)))
inductive HB(H:Hp)(v:V)(qs:List (Int × Int)):Prop
 | mk (x:Addr) (Bf:List V) (_:v = .ref x) (_:H x=some (.lst Bf)) (_:Bi H Bf qs)
theorem Hz.same(s:AO H H')(v:V)(ln:bT):Hz H v ln->Hz H' v ln
 | ⟨t,ql,Bf,e,h1,h2,h3⟩=>⟨t,ql,Bf,e,s _ _ h1,s _ _ h2,Bi.same s h3⟩
theorem HA.same(s:AO H H')(v:V)(t:ck):HA H v t->HA H' v t
 | ⟨x,e,h1⟩=>⟨x,e,s _ _ h1⟩
theorem HB.same(s:AO H H')(v:V)(qs:List (Int × Int)):HB H v qs->HB H' v qs
 | ⟨x,Bf,e,h1,h2⟩=>⟨x,Bf,e,s _ _ h1,Bi.same s h2⟩
inductive Sd(H:Hp)(t:Addr)(s:YS):Prop
 | mk (L W X D:Addr) (AX D8 De B4:List V) (_:H t=some (.tup [.ref L, .ref W, .ref X, .ref D])) (_:H L=some (.lst AX)) (_:Paired (Hz H) AX s.lanes) (_:H W=some (.lst D8)) (_:Paired (HA H) D8 s.U) (_:H X=some (.lst De)) (_:Paired (HB H) De s.lies) (_:H D=some (.lst B4)) (_:Paired (BB H) B4 s.done)
theorem bR(s:AO H H')(v:V)(m:List V)(h:BB H v m):BB H' v m:=h.keep (AO.Bl s)
theorem Sd.same(e:AO H H'):Sd H t s->Sd H' t s
 | ⟨L,W,X,D,AX,D8,De,B4,h0,h1,p1,h2,p2,h3,p3,h4,p4⟩=>⟨L,W,X,D,AX,D8,De,B4,e _ _ h0,e _ _ h1,Paired.mono (Hz.same e) p1,e _ _ h2,Paired.mono (HA.same e) p2,e _ _ h3,Paired.mono (HB.same e) p3,e _ _ h4,Paired.mono (bR e) p4⟩
theorem vK(GZ:∀d ∈ s.done,∀x ∈ d,y6 x):Sd H t s->Den K H (.ref t) (XM s)
 | ⟨L,W,X,D,AX,D8,De,B4,h0,h1,p1,h2,p2,h3,p3,h4,p4⟩ => .tup (AZ.of h0) (.cons (.lst (AV.of h1) (hZ (λv ln h=>by
   obtain⟨t,ql,Bf,rfl,g1,g2,g3⟩:=h
   exact .tup (AZ.of g1) (.cons (.int _) (.cons (.int _) (.cons (Oe _) (.cons (.lst (AV.of g2) (eD g3)) .nil))))) p1))
  (.cons (.lst (AV.of h2) (hZ (λv t h=>by obtain⟨x,rfl,g⟩:=h;exact .lst (AV.of g) (qJ _)) p2))
  (.cons (.lst (AV.of h3) (hZ (λv qs h=>by obtain⟨x,Bf,rfl,g1,g2⟩:=h;exact .lst (AV.of g1) (eD g2)) p3))
  (.cons (.lst (AV.of h4) (kL p4 GZ)) .nil))))
inductive iH(K:Frag)(ys:Ys)(vs:List V)(H:Hp)(Q:VK)(E:XK):Prop
 | mk (a:YA) (s:YS) (_:vs=[.ref a.y, .int (s.lanes.length:Nat), .int (s.lies.length:Nat)]) (_:B8 K ys H a s) (_:s.lanes.length <= 900) (_:s.lies.length <= 900) (_:s.U.length <= 900) (_:∀(t:Addr)(H':Hp),AO H H'->Sd H' t s->Q (.ref t) H')
structure XN(P:Program)(w:World)(K:Frag)(mg:Str->Option Value)(base:Heap)(ys:Ys)(ft fw fp fy fh:Addr)(dt dw dp dy dh:FuncData):Prop where
 mt:bG K ys.AS "lane_told" ft
 bt:Binds K dt ["self", "lane"] []
 Gt:AQ P w K mg base aD 2 ft dt ["self", "lane"] (qa K ys)
 mw:bG K ys.AS "way_told" fw
 bw:Binds K dw ["self", "number"] []
 Gw:AQ P w K mg base aD 1 fw dw ["self", "number"] (sN K ys)
 mp:bG K ys.AS "posted" fp
 bp:Binds K dp ["self"] []
 Gp:AQ P w K mg base aD 1 fp dp ["self"] (lV K ys)
 my:bG K ys.AS "lying" fy
 Td:Binds K dy ["self", "place"] []
 Gy:AQ P w K mg base aD 1 fy dy ["self", "place"] (pV K ys)
 mh:bG K ys.AS "history" fh
 bh:Binds K dh ["self"] []
 Gh:AQ P w K mg base aD 1 fh dh ["self"] (tE K ys)
abbrev Qg:List Str:=["_law_yard", "_law_lanes_here", "_law_places", "_law_ways", "_law_heaps"]
noncomputable def zq(s:Stmt):Scope:=match s with
 | .Return (some (.Tuple (.ListComp _ _ sc _ :: _) _ _)) _=>sc
 | _=>iQ
theorem JB:ao Qg ["_law_yard", "_law_lanes_here", "_law_places"] (ai eJ):=L2.Bt
theorem Of:BG Qg (ai eJ) (vS ((aJ eJ).getD 0 (.Pass ⟨0,0,0,0⟩))) ["_law_yard"] [0]:=L2.Co
theorem Og:BG Qg (ai eJ) (vS ((aJ eJ).getD 1 (.Pass ⟨0,0,0,0⟩))) ["_law_yard"] [0]:=L2.Co
theorem Oh:BG Qg (ai eJ) (zq ((aJ eJ).getD 2 (.Pass ⟨0,0,0,0⟩))) ["_law_yard"] [0]:=L2.Co
theorem Oi:(["_law_number", "_law_yard"]:List Str).Nodup:=by decide +kernel
theorem Oj:(["_law_lane", "_law_yard"]:List Str).Nodup:=by decide +kernel
theorem Ol:(["_law_place", "_law_yard"]:List Str).Nodup:=by decide +kernel
theorem uJ(F:Bo K "_law_stand" "_law_stand" eJ f fd)(T:dY mg)(Y:ig K ys)(S:XN P w K mg base ys ft fw fp fy fh dt dw dp dy dh) :
  AQ P w K mg base aD 3 f fd ["_law_yard", "_law_lanes_here", "_law_places"] (iH K ys):=by
 refine F.ok JB (λvs H Q E h=>?_) (λcdv A outer s0 H vs Q E hr h=>?_)
 ·obtain⟨a,s,rfl,_⟩:=h
  rfl
 ·obtain⟨a,s,rfl,hY,Km,HJ,WU,q⟩:=h
  have B0:Bc 1 _:=hr.mono (by decide)
  refine⟨_,ae (dI (i:=3) (own:=["_law_number"]) (capN:=["_law_yard"]) (cap:=[0]) Of rfl JB.nd rfl rfl (aQ rfl T.range (aa (bM (pv 0) Y.cl S.mp S.Gp B0 S.bp .nil am) ac)) (λC s' H' fp=>⟨au (i:=0) Oi rfl (Or.inl rfl),c9,aE (pv 1) Y.cl S.mw S.Gw B0 S.bw .nil am (aa (pv 0) ac)⟩))
   (ae (dI (i:=4) (own:=["_law_place"]) (capN:=["_law_yard"]) (cap:=[0]) Og rfl JB.nd rfl rfl (aQ rfl T.range (aa (pv 2) ac)) (λC s' H' fp=>⟨au (i:=0) Ol rfl (Or.inl rfl),c9,aE (pv 1) Y.cl S.my S.Gy B0 S.Td .nil am (aa (pv 0) ac)⟩))
   (ag (aq (aK (aa (bd (own:=["_law_lane"]) (capN:=["_law_yard"]) (cap:=[0]) Oh rfl (aQ rfl T.range (aa (pv 1) ac)) (λC s' H' fp=>⟨au (i:=0) Oj rfl (Or.inl rfl),c9,aE (pv 1) Y.cl S.mt S.Gt hr S.bt .nil am (aa (pv 0) ac)⟩)) (aa (pv 3) (aa (pv 4) (aa (bM (pv 0) Y.cl S.mh S.Gh B0 S.bh .nil am) ac)))))))),?_⟩
  refine⟨_,rfl,a.y,a.dy,_,rfl,hY.ins,rfl,a.y,a.dy,a.tb,a.ro,a.la,a.le,a.li,a.dn,s,rfl,hY,(s.U.length:Int),rfl,by omega,by omega,?_⟩
  rw[toNat_natCast]
  refine jG (R:=HA) (λe v t h=>HA.same e v t h) s.U (by rw[sizeLine_eq];omega) (λi t H1 N ht s1 hN=>?_) (λW D8 H1 s1 hW pW=>?_)
  ·have Dc:=Ba.same hY s1
   exact⟨_,rfl,a.y,a.dy,_,rfl,Dc.ins,rfl,_,rfl,a.y,a.dy,a.tb,a.ro,a.la,a.le,a.li,a.dn,s,i,t,rfl,Dc,ht,λx H2 s2 hx gx=>hN _ H2 s2 ⟨x,rfl,gx⟩⟩
  have u2:=s1.new (o := .lst D8) hW
  have gW:(upd H1 W (.lst D8)) W=some (.lst D8):=ad
  have XO:=Paired.mono (HA.same ((AO.refl H1).new (o := .lst D8) hW)) pW
  show dB 3 (V.ref W) _ (upd H1 W (.lst D8)) _
  generalize upd H1 W (.lst D8)=H2 at u2 gW XO ⊢
  have DO:=Ba.same hY u2
  refine⟨_,rfl,(s.lies.length:Int),rfl,by omega,by omega,?_⟩
  rw[toNat_natCast]
  refine jG (R:=HB) (λe v t h=>HB.same e v t h) s.lies (by rw[sizeLine_eq];omega) (λi qs H9 N BQ s9 hN=>?_) (λX De H3 s3 hX pX=>?_)
  ·have JC:=Ba.same DO s9
   exact⟨_,rfl,a.y,a.dy,_,rfl,JC.ins,rfl,_,rfl,a,s,i,qs,rfl,JC,BQ,λD Bf Hx sx hD gD Fu=>hN _ Hx sx ⟨D,Bf,rfl,gD,Fu⟩⟩
  have u4:=s3.new (o := .lst De) hX
  have gX:(upd H3 X (.lst De)) X=some (.lst De):=ad
  have XQ:=Paired.mono (HB.same ((AO.refl H3).new (o := .lst De) hX)) pX
  show dB 4 (V.ref X) _ (upd H3 X (.lst De)) _
  generalize upd H3 X (.lst De)=H4 at u4 gX XQ ⊢
  have PD:=Ba.same DO u4
  refine⟨_,rfl,(s.lanes.length:Int),rfl,by omega,by omega,?_⟩
  rw[toNat_natCast]
  refine jG (R:=Hz) (λe v t h=>Hz.same e v t h) s.lanes (by rw[sizeLine_eq];omega) (λi ln H9 N Bs s9 hN=>?_) (λL AX H5 s5 hL pL=>?_)
  ·have JC:=Ba.same PD s9
   exact⟨_,rfl,a.y,a.dy,_,rfl,JC.ins,rfl,_,rfl,a.y,a.dy,a.tb,a.ro,a.la,a.le,a.li,a.dn,s,i,ln,rfl,JC,Bs,λt ql Bf Hx sx Ig gt S0 Fu=>hN _ Hx sx ⟨t,ql,Bf,rfl,gt,S0,Fu⟩⟩
  have u6:=s5.new (o := .lst AX) hL
  have gL:(upd H5 L (.lst AX)) L=some (.lst AX):=ad
  have XR:=Paired.mono (Hz.same ((AO.refl H5).new (o := .lst AX) hL)) pL
  show lT _ _ _ (upd H5 L (.lst AX)) _
  generalize upd H5 L (.lst AX)=H6 at u6 gL XR ⊢
  have XS:=Ba.same PD u6
  refine⟨_,rfl,_,rfl,_,rfl,a.y,a.dy,_,rfl,XS.ins,rfl,a.y,a.dy,a.tb,a.ro,a.la,a.le,a.li,a.dn,s,rfl,XS,λD B4 H7 s7 hD gD pD=>?_⟩
  refine⟨by show 4 <= sizeLine;decide,λR hR=>?_⟩
  have u8:=(AO.refl H7).new (o := .tup [.ref L, .ref W, .ref X, .ref D]) hR
  have v6:=s7.trans u8
  have v4:=u6.trans v6
  have v2:=u4.trans v4
  exact q R _ (u2.trans v2) ⟨L,W,X,D,AX,D8,De,B4,ad,v6 _ _ gL,Paired.mono (Hz.same v6) XR,v2 _ _ gW,Paired.mono (HA.same v2) XO,v4 _ _ gX,Paired.mono (HB.same v4) XQ,u8 _ _ gD,Paired.mono (bR u8) pD⟩
noncomputable def cq(m:Nat)(qs:List (Int × Int)):Nat:=(qs.filter λq=>decide (q.1=(m:Int))).length
noncomputable def one(k m:Nat):Nat:=if k=m then 1 else 0
theorem vO(m k:Nat)(c:Int)(qs:List (Int × Int)):cq m (qs ++ [((k:Int),c)])=cq m qs + one k m:=by
 unfold cq one
 rw[filter_append,length_append]
 congr 1
 by_cases h:k=m
 ·subst h;simp
 ·rw[if_neg h,filter_cons_of_neg (by simp;omega)];rfl
theorem xT{m k:Nat}(h:qs.head? = some ((k:Int),c)):cq m qs=cq m qs.tail + one k m:=by
 cases qs with
 | nil=>cases h
 | cons q r =>
  cases h
  unfold cq one
  by_cases h:k=m
  ·subst h;simp
  ·rw[if_neg h,filter_cons_of_neg (by simp;omega)];rfl
noncomputable def cZ(s:YS)(m:Nat):Nat:=(s.lanes.map λln=>cq m ln.qs).sum
noncomputable def eU(s:YS)(m:Nat):Nat:=(s.lies.map (cq m)).sum
noncomputable def nc(L:List ck)(m:Nat):Int:=match L[m]? with
 | some t=>t.gone
 | none=>0
def Cn(s:YS):Prop:=∀m:Nat,((cZ s m + eU s m:Nat):Int)=nc s.U m
theorem vw(h:L[k]? = some t)(m:Nat):nc (L.set k t') m=if m=k then t'.gone else nc L m:=by
 unfold nc
 by_cases e:m=k
 ·subst e;rw[if_pos rfl,fM h]
 ·rw[if_neg e,getElem?_set_ne (Ne.symm e)]
theorem vx(h:L[k]? = some t):nc L k=t.gone:=by unfold nc;rw[h]
theorem cn0(rv:List V)(n:Nat)(h:∀ln ∈ (Y0 rv n).lanes,ln.qs=[])(g:∀q ∈ (Y0 rv n).lies,q=[]):Cn (Y0 rv n):=λm=>by
 have z1:cZ (Y0 rv n) m=0:=sL _ λk ln hk=>by rw[h ln (mem_of_getElem? hk)];rfl
 have z2:eU (Y0 rv n) m=0:=sL _ λk q hk=>by rw[g q (mem_of_getElem? hk)];rfl
 rw[z1,z2];rfl
theorem Cn.post(h:Cn s)(x y l u:Int):Cn (i5 s x y l u):=λm=>by
 have:=h m
 show((cZ s m + eU s m:Nat):Int)=nc (s.U ++ [_]) m
 rw[this]
 unfold nc
 by_cases hm:m < s.U.length
 ·rw[getElem?_append_left hm]
 ·rw[List.getElem?_eq_none (by omega)]
  by_cases e:m=s.U.length
  ·subst e;rw[getElem?_concat_length]
  ·rw[List.getElem?_eq_none (by rw[length_append,length_singleton];omega)]
theorem Cn.step(h:Cn s)(st:D7 a s mv s'):Cn s':=by
 have ent:∀{s:YS}{m l:Nat}{c:Int}{t:ck}{ln:bT},s.U[m]? = some t->s.lanes[l]? = some ln->∀z,cZ (cX s m c l t ln) z=cZ s z + one m z/\eU (cX s m c l t ln) z=eU s z/\nc (cX s m c l t ln).U z=nc s.U z:=λ{s m l c t ln} ht hl z=>by
  refine⟨?_,rfl,?_⟩
  ·have:=cK (λln:bT=>cq z ln.qs) (y:=dR ln m c t.len) hl
   have e:cq z (dR ln m c t.len).qs=cq z ln.qs + one m z:=vO z m c ln.qs
   have e2:cZ (cX s m c l t ln) z=((s.lanes.set l (dR ln m c t.len)).map λln:bT=>cq z ln.qs).sum:=rfl
   have e3:cZ s z=(s.lanes.map λln:bT=>cq z ln.qs).sum:=rfl
   rw[e2,e3]
   omega
  ·show nc (if c=0 then s.U.set m { t with way:=t.way ++ [l] } else s.U) z=_
   split
   ·rw[vw ht]
    by_cases ez:z=m
    ·rw[if_pos ez,ez,vx ht]
    ·rw[if_neg ez]
   ·rfl
 have IJ:∀{k m:Nat}{c:Int}{lk:bT},s.lanes[k]? = some lk->lk.qs.head? = some ((m:Int),c)->∀z,cZ { s with lanes:=s.lanes.set k (bP lk) } z + one m z=cZ s z:=λ{k m c lk} hk hq z=>by
  have:=cK (λln:bT=>cq z ln.qs) (y:=bP lk) hk
  have e:cq z lk.qs=cq z (bP lk).qs + one m z:=xT hq
  have e2:cZ { s with lanes:=s.lanes.set k (bP lk) } z=((s.lanes.set k (bP lk)).map λln:bT=>cq z ln.qs).sum:=rfl
  have e3:cZ s z=(s.lanes.map λln:bT=>cq z ln.qs).sum:=rfl
  rw[e2,e3]
  omega
 intro z
 have hz:=h z
 cases st with
 | @Cd k l t ln ht hg hl Bs ho =>
  obtain⟨e1,e2,e3⟩:=ent (s:=j9 s k t) (m:=k) (l:=l) (c:=t.gone) (t:={ t with gone:=t.gone + 1 }) (ln:=ln) (fM ht) Bs z
  rw[e1,e2,e3]
  have e4:nc (j9 s k t).U z=nc s.U z + (one k z:Nat):=by
   show nc (s.U.set k _) z=_
   rw[vw ht]
   unfold one
   by_cases ez:z=k
   ·rw[if_pos ez,ez,if_pos rfl,vx ht];rfl
   ·rw[if_neg ez,if_neg (Ne.symm ez)];exact(Int.add_zero _).symm
  rw[e4,←hz]
  show((cZ s z + one k z + eU s z:Nat):Int)=_
  omega
 | @on k l m c lk ln t hk hq ht hl Bs ho =>
  obtain⟨e1,e2,e3⟩:=ent (s:={ s with lanes:=s.lanes.set k (bP lk) }) (m:=m) (l:=l) (c:=c) (t:=t) (ln:=ln) ht Bs z
  have e4:=IJ hk hq z
  rw[e1,e2,e3]
  show _=nc s.U z
  rw[←hz]
  show((cZ { s with lanes:=s.lanes.set k (bP lk) } z + one m z + eU s z:Nat):Int)=_
  omega
 | @CU k m e c lk t qs hk hq ht hg he BQ =>
  have e4:=IJ hk hq z
  show((cZ { s with lanes:=s.lanes.set k (bP lk) } z + ((s.lies.set e (qs ++ [((m:Int),c)])).map (cq z)).sum:Nat):Int)=nc s.U z
  rw[←hz]
  have e5:=cK (cq z) (y:=qs ++ [((m:Int),c)]) BQ
  rw[vO]at e5
  have e3:eU s z=(s.lies.map (cq z)).sum:=rfl
  omega
 | @back k lk hk hb =>
  show((((s.lanes.set k (mX lk)).map λln:bT=>cq z ln.qs).sum + eU s z:Nat):Int)=nc s.U z
  rw[←hz]
  have e5:=cK (λln:bT=>cq z ln.qs) (y:=mX lk) hk
  have e6:cq z (mX lk).qs=cq z lk.qs:=rfl
  have e3:cZ s z=(s.lanes.map λln:bT=>cq z ln.qs).sum:=rfl
  omega
theorem Om(m:Nat)(qs:List (Int × Int)):cq m qs <= qs.length:=length_filter_le _ _
theorem xU(m:Nat)(l c:Int)(qs:List (Int × Int)):cq m (qs ++ [(l,c)])=cq m qs + if l=(m:Int) then 1 else 0:=by
 unfold cq
 rw[filter_append,length_append]
 congr 1
 by_cases h:l=(m:Int)
 ·rw[if_pos h,filter_cons_of_pos (by simpa using h)];rfl
 ·rw[if_neg h,filter_cons_of_neg (by simpa using h)];rfl
theorem qO{m:Nat}(ha:H a=some (.lst vs))(hL:Bi H vs qs)(hn:qs.length <= 10000)
  (hs:∀(x:Addr)(l c:Int)(acc:List V)(N:List V->Hp->Prop),H x=some (.tup [.int l, .int c])->(∀Bx,Bx.length=acc.length + (if l=(m:Int) then 1 else 0)->N Bx H)->g (.ref x) σ0 H λσ2 H2=>tt σ2 H2 λb H3=>if b=true then te σ2 H3 λy H4=>N (acc ++ [y]) H4 else N acc H3)
  (hq:∀(D:Addr)(zs:List V),H D=none->zs.length=cq m qs->Q (.ref D) (upd H D (.lst zs))):dC (vZ K a) g tt te σ0 Q H:=by
 have hl:vs.length=qs.length:=Paired.length hL
 refine bN qs.length (by rw[sizeLine_eq];omega) (λi acc H'=>H' = H/\acc.length=cq m (qs.take i)) ⟨rfl,rfl⟩ (λi acc H' h=>by rw[h.2];exact le_trans (Om _ _) (length_take_le _ _)) (λi acc H' hi h=>?_) (λacc H' h=>?_)
 ·obtain⟨rfl,e⟩:=h
  have hx:vs[i]? = some (vs[i]'(by omega)):=getElem?_eq_getElem (by omega)
  refine⟨⟨vs,_,AV.of ha,hx⟩,λv H2 y=>?_⟩
  obtain⟨rfl,y⟩:=y
  have hv:=y vs (AV.of ha)
  obtain⟨pr,hpr,x,rfl,gx⟩:=Paired.at hL hv
  obtain⟨l,c⟩:=pr
  refine hs x l c acc (λBx H3=>H3=H2/\Bx.length=cq m (qs.take (i + 1))) gx λBx h=>⟨rfl,?_⟩
  rw[take_succ,hpr]
  show _=cq m (qs.take i ++ [(l,c)])
  rw[xU,h,e]
 ·obtain⟨rfl,e⟩:=h
  rw[take_of_length_le (le_refl _)]at e
  exact⟨⟨vs,AV.of ha,by omega⟩,λD hD=>hq D acc hD e⟩
theorem lU{α:Type}(f:α->Nat){L:List α}{x:α}(h:L[i]? = some x):((L.take (i + 1)).map f).sum=((L.take i).map f).sum + f x:=by
 rw[take_succ,h,map_append,List.sum_append]
 show _ + (f x + 0)=_
 omega
inductive sR(K:Frag)(vs:List V)(H:Hp)(Q:VK)(E:XK):Prop
 | mk (t:Addr) (s:YS) (m:Nat) (_:vs=[.ref t, .int m]) (_:Sd H t s) (_:PL s) (_:∀H',AO H H'->Q (.int (cZ s m + eU s m:Nat)) H')
abbrev Ur:List Str:=["_law_stand_here", "_law_number", "_law_found", "_law_lane", "_law_heap"]
noncomputable def vV(s:Stmt):Scope:=match s with
 | .Assign _ (.BinOp _ _ (.Call _ [.ListComp _ _ sc _] _ _) _) _=>sc
 | _=>iQ
theorem EY:ao Ur ["_law_stand_here", "_law_number"] (ai jo):=L2.Bt
theorem Oo:BG Ur (ai jo) (vV (gP (jD (gP (aJ jo) 1)) 0)) ["_law_number"] [1]:=L2.Co
theorem Oq:BG Ur (ai jo) (vV (gP (jD (gP (aJ jo) 2)) 0)) ["_law_number"] [1]:=L2.Co
theorem Ot:(["_law_piece", "_law_number"]:List Str).Nodup:=by decide +kernel
theorem wV(F:Bo K "_law_sent" "_law_sent" jo f fd)(T:dY mg):AQ P w K mg base aD 1 f fd ["_law_stand_here", "_law_number"] (sR K):=by
 refine F.ok EY (λvs H Q E h=>?_) (λcdv A outer s0 H vs Q E hr h=>?_)
 ·obtain⟨t,s,m,rfl,_⟩:=h
  rfl
 ·obtain⟨t,s,m,rfl,⟨L,W,X,D,AX,D8,De,B4,h0,h1,p1,h2,p2,h3,p3,h4,p4⟩,hm,q⟩:=h
  refine⟨_,ae (ay (i:=2) EY.nd rfl (Or.inl rfl) af)
   (ae (bK PassesOwn.never rfl (bF (ar aA (pv 0) af (λ_ _=>rfl))) (au (i:=3) EY.nd rfl (Or.inl rfl))
    (ag (ay (i:=2) EY.nd rfl (Or.inl rfl) (aw bv (pv 2) (aC av rfl T.len PySem.boot_len (aa (bd (own:=["_law_piece"]) (capN:=["_law_number"]) (cap:=[1]) Oo rfl (bF (ar aA (pv 3) af (λ_ _=>rfl))) (λC s' H' fp=>⟨au (i:=0) Ot rfl (Or.inl rfl),bQ (ap bq (ar (show kR _ (il K) from aA) (pv 0) af (λ_ _=>rfl)) (pv 1) (ax _)),pv 0⟩)) ac))))))
   (ae (bK PassesOwn.never rfl (bF (ar aA (pv 0) af (λ_ _=>rfl))) (au (i:=4) EY.nd rfl (Or.inl rfl))
    (ag (ay (i:=2) EY.nd rfl (Or.inl rfl) (aw bv (pv 2) (aC av rfl T.len PySem.boot_len (aa (bd (own:=["_law_piece"]) (capN:=["_law_number"]) (cap:=[1]) Oq rfl (bF (pv 4)) (λC s' H' fp=>⟨au (i:=0) Ot rfl (Or.inl rfl),bQ (ap bq (ar (show kR _ (il K) from aA) (pv 0) af (λ_ _=>rfl)) (pv 1) (ax _)),pv 0⟩)) ac))))))
   (ag (aq (pv 2))))),?_⟩
  refine⟨_,rfl,t,_,0,_,rfl,rfl,AZ.of h0,ak (j:=0) rfl,L,rfl,⟨_,AV.of h1⟩,?_⟩
  refine fG (K:=K) (a:=L) (xs:=AX) (λi σ H2=>∃a3:Option V,AO H H2/\σ=[some (.ref t),some (.int m),some (.int (((s.lanes.take i).map λln=>cq m ln.qs).sum:Nat)),a3,none]) ⟨none,AO.refl H,rfl⟩ (λi σ H2 _ AU=>by obtain⟨_,s2,_⟩:=AU;exact AV.of (s2 _ _ h1)) ?_ ?_
  ·rintro i v σ H2 hv ⟨a3,s2,rfl⟩
   obtain⟨ln,Bs,u,ql,Bf,rfl,g1,g2,g3⟩:=Paired.at p1 hv
   refine⟨_,rfl,_,rfl,u,_,3,_,rfl,rfl,AZ.of (s2 _ _ g1),ak (j:=3) rfl,ql,rfl,⟨_,AV.of (s2 _ _ g2)⟩,?_⟩
   refine qO (K:=K) (m:=m) (s2 _ _ g2) (Bi.same s2 g3) (hm.q i ln Bs) (λx l c acc N gx hN=>?_) (λD zs hD hz=>?_)
   ·refine⟨_,rfl,x,_,0,_,rfl,rfl,AZ.of gx,ak (j:=0) rfl,_,rfl,rfl,_,rfl,?_⟩
    rw[dM]
    by_cases e:l=(m:Int)
    ·rw[decide_eq_true e]
     exact aH ⟨_,rfl,hN _ (by rw[length_append,if_pos e];rfl)⟩
    ·rw[decide_eq_false e]
     exact aG (hN _ (by rw[if_neg e];rfl))
   ·refine⟨D,_,rfl, .inl (AV.of ad),_,_,rfl,rfl,?_⟩
    refine⟨some (.ref u),s2.new hD,?_⟩
    rw[hz,lU _ Bs]
    rfl
  rintro σ H2 ⟨a3,s2,rfl⟩
  have el:s.lanes.take AX.length=s.lanes:=by rw[Paired.length p1,take_length]
  rw[el]
  refine⟨_,rfl,t,_,2,_,rfl,rfl,AZ.of (s2 _ _ h0),ak (j:=2) rfl,X,rfl,⟨_,AV.of (s2 _ _ h3)⟩,?_⟩
  refine fG (K:=K) (a:=X) (xs:=De) (λi σ H2=>∃a4:Option V,AO H H2/\σ=[some (.ref t),some (.int m),some (.int ((cZ s m + ((s.lies.take i).map (cq m)).sum:Nat):Int)),a3,a4]) ⟨none,s2,rfl⟩ (λi σ H2 _ AU=>by obtain⟨_,s2,_⟩:=AU;exact AV.of (s2 _ _ h3)) ?_ ?_
  ·rintro i v σ H2 hv ⟨a4,s2,rfl⟩
   obtain⟨qs,BQ,x,Bf,rfl,g2,g3⟩:=Paired.at p3 hv
   refine⟨_,rfl,_,rfl,x,rfl,⟨_,AV.of (s2 _ _ g2)⟩,?_⟩
   refine qO (K:=K) (m:=m) (s2 _ _ g2) (Bi.same s2 g3) (hm.l i qs BQ) (λx l c acc N gx hN=>?_) (λD zs hD hz=>?_)
   ·refine⟨_,rfl,x,_,0,_,rfl,rfl,AZ.of gx,ak (j:=0) rfl,_,rfl,rfl,_,rfl,?_⟩
    rw[dM]
    by_cases e:l=(m:Int)
    ·rw[decide_eq_true e]
     exact aH ⟨_,rfl,hN _ (by rw[length_append,if_pos e];rfl)⟩
    ·rw[decide_eq_false e]
     exact aG (hN _ (by rw[if_neg e];rfl))
   ·refine⟨D,_,rfl, .inl (AV.of ad),_,_,rfl,rfl,?_⟩
    refine⟨some (.ref x),s2.new hD,?_⟩
    rw[hz,lU _ BQ,←Nat.add_assoc]
    rfl
  rintro σ H2 ⟨a4,s2,rfl⟩
  have el:s.lies.take De.length=s.lies:=by rw[Paired.length p3,take_length]
  rw[el]
  exact⟨_,rfl,q H2 s2⟩
def Rn(s:YS):Prop:=∀(k:Nat)(ln:bT),s.lanes[k]? = some ln->0 <= ln.r
theorem Rn.step(h:Rn s)(st:D7 a s mv s'):Rn s':=by
 have ent:∀{L:List bT}{l m:Nat}{c len:Int}{ln:bT},(∀(k:Nat)(ln:bT),L[k]? = some ln->0 <= ln.r)->L[l]? = some ln->cp ln.r ln.h m c=true->∀(k:Nat)(x:bT),(L.set l (dR ln m c len))[k]? = some x->0 <= x.r:=λ{L l m c len ln} hL hl ho k x hx=>by
  rcases cC hx with ⟨rfl,rfl⟩ | ⟨_,hx⟩
  ·have h1:=hL _ _ hl
   have h2:ln.r ≠ 0:=λz=>by unfold cp at ho;rw[if_pos z]at ho;cases ho
   show 0 <= ln.r - 1
   omega
  ·exact hL k x hx
 have IJ:∀{k:Nat}{lk:bT},s.lanes[k]? = some lk->∀(j:Nat)(x:bT),(s.lanes.set k (bP lk))[j]? = some x->0 <= x.r:=λ{k lk} hk j x hx=>by
  rcases cC hx with ⟨rfl,rfl⟩ | ⟨_,hx⟩
  ·exact h _ lk hk
  ·exact h j x hx
 cases st with
 | Cd ht hg hl Bs ho=>exact ent h Bs ho
 | on hk hq ht hl Bs ho=>exact ent (IJ hk) Bs ho
 | CU hk hq ht hg he BQ=>exact IJ hk
 | @back k lk hk hb =>
  intro j x hx
  rcases cC hx with ⟨rfl,rfl⟩ | ⟨_,hx⟩
  ·have:=h _ lk hk
   show 0 <= lk.r + 1
   omega
  ·exact h j x hx
inductive kY(K:Frag)(vs:List V)(H:Hp)(Q:VK)(E:XK):Prop
 | mk (t:Addr) (s:YS) (l m:Nat) (c:Int) (ln:bT) (_:vs=[.ref t, .int l, .int m, .int c]) (_:Sd H t s) (_:s.lanes[l]? = some ln) (_:0 <= ln.r) (_:Q (.bl (cp ln.r ln.h m c)) H)
abbrev NLo:List Str:=["_law_stand_here", "_law_lane", "_law_number", "_law_count", "_law_rights", "_law_back", "_law_holder", "_law_queue"]
theorem FN:ao NLo ["_law_stand_here", "_law_lane", "_law_number", "_law_count"] (ai oN):=L2.Bt
theorem uR(F:Bo K "_law_open" "_law_open" oN f fd):AQ P w K mg base aD 1 f fd ["_law_stand_here", "_law_lane", "_law_number", "_law_count"] (kY K):=by
 refine F.ok FN (λvs H Q E h=>?_) (λcdv A outer s0 H vs Q E hr h=>?_)
 ·obtain⟨t,s,l,m,c,ln,rfl,_⟩:=h
  rfl
 ·obtain⟨t,s,l,m,c,ln,rfl,⟨L,W,X,D,AX,D8,De,B4,h0,h1,p1,_⟩,hl,M5,q⟩:=h
  refine⟨_,ae (gh (ar aF (ar aA (pv 0) af (λ_ _=>rfl)) (pv 1) (λ_ _=>rfl)) (fj rfl (aW (au (i:=4) FN.nd rfl (Or.inl rfl)) (aW (au (i:=5) FN.nd rfl (Or.inl rfl)) (aW (au (i:=6) FN.nd rfl (Or.inl rfl)) (aW (au (i:=7) FN.nd rfl (Or.inl rfl)) dP))))))
   (ae (aM (ap fv (pv 4) af (ax _)) (ag (aq eP)) aB)
   (ae (aM (ap bq (pv 3) af (ax _)) (ag (aq (cb jx (pv 6) cM (ax _)))) aB)
   (ag (aq (cb bq (pv 6) (pv 2) (ax _)))))),?_⟩
  obtain⟨v,hv,u,ql,Bf,rfl,g1,g2,g3⟩:=Paired.at2 p1 hl
  refine⟨_,rfl,t,_,0,_,rfl,rfl,AZ.of h0,ak (j:=0) rfl,_,rfl,L,_,_,_,rfl,rfl,AV.of h1,ak hv,u,_,rfl,AZ.of g1,rfl,_,_,rfl,_,_,rfl,_,_,rfl,_,_,rfl,rfl,?_⟩
  refine⟨_,rfl,_,_,rfl,rfl,_,rfl,?_⟩
  unfold cp at q
  by_cases hz:ln.r=0
  ·rw[decide_eq_true (show ln.r < 1 by omega)]
   rw[if_pos hz]at q
   exact aH q
  rw[decide_eq_false (show ¬ln.r < 1 by omega)]
  rw[if_neg hz]at q
  refine aG ⟨_,rfl,rfl,_,rfl,?_⟩
  rw[bB]
  by_cases Eh:c=0
  ·rw[decide_eq_true Eh]
   rw[if_pos Eh]at q
   refine aH ⟨_,rfl,rfl,?_⟩
   rw[vt]
   exact q
  ·rw[decide_eq_false Eh]
   rw[if_neg Eh]at q
   refine aG ⟨_,rfl,_,rfl,by cases ln.h<;>rfl,?_⟩
   rw[vv]
   exact q
theorem xR(xs:List V)(k:Nat):iF xs none (some (k:Int))=xs.take k:=by
 unfold iF
 have e0:HT.CP xs.length 0 none=0:=rfl
 rw[e0,show HT.CP xs.length xs.length (some (k:Int))=min k xs.length from HT.C8 _ _ k,List.drop_zero,Nat.sub_zero]
 rcases Nat.le_total k xs.length with h | h
 ·rw[min_eq_left h]
 ·rw[min_eq_right h,take_of_length_le h,take_of_length_le (le_refl _)]
theorem n0(ha:H a=some (.lst (nV ls)))(hn:ls.length <= 1000)
  (hs:∀(l:Nat)(H1:Hp)(acc:List V)(N:List V->Hp->Prop),l ∈ ls->AO H H1->(p l=false->N acc H1)->(p l=true->∀(x:Addr)(H2:Hp),AO H1 H2->H2 x=some (.tup (f l))->N (acc ++ [.ref x]) H2)->g (.int l) σ0 H1 λσ2 H2=>tt σ2 H2 λb H3=>if b=true then te σ2 H3 λy H4=>N (acc ++ [y]) H4 else N acc H3)
  (hq:∀(D:Addr)(vs:List V)(H1:Hp),AO H H1->H1 D=none->Paired (BB H1) vs ((ls.filter p).map f)->Q (.ref D) (upd H1 D (.lst vs))):dC (vZ K a) g tt te σ0 Q H:=by
 have fl:∀i,((ls.take i).filter p).length <= i:=λi=>le_trans (length_filter_le _ _) (length_take_le _ _)
 refine bN ls.length (by rw[sizeLine_eq];omega) (λi acc H'=>AO H H'/\Paired (BB H') acc (((ls.take i).filter p).map f)) ⟨AO.refl _, .nil⟩ (λi acc H' h=>by rw[Paired.length h.2,length_map];exact fl i) (λi acc H' hi h=>?_) (λacc H' h=>?_)
 ·obtain⟨s1,hp⟩:=h
  have CK:=getElem?_eq_getElem hi
  have hx:(nV ls)[i]? = some (V.int (ls[i]:Nat)):=by unfold nV;rw[getElem?_map,CK];rfl
  refine⟨⟨_,_,AV.of (s1 _ _ ha),hx⟩,λv H2 y=>?_⟩
  obtain⟨rfl,y⟩:=y
  have hv:=y _ (AV.of (s1 _ _ ha))
  rw[hx]at hv
  cases hv
  refine hs ls[i] H2 acc (λBx H3=>AO H H3/\Paired (BB H3) Bx (((ls.take (i + 1)).filter p).map f)) (getElem_mem hi) s1 (λe=>⟨s1,?_⟩) (λe x H3 s3 gx=>⟨s1.trans s3,?_⟩)
  ·rw[take_succ,CK,filter_append]
   show Paired _ _ (((ls.take i).filter p ++ [ls[i]].filter p).map f)
   rw[filter_cons_of_neg (by rw[e];decide),List.filter_nil,append_nil]
   exact hp
  ·rw[take_succ,CK,filter_append]
   show Paired _ _ (((ls.take i).filter p ++ [ls[i]].filter p).map f)
   rw[filter_cons_of_pos e,List.filter_nil,map_append]
   exact Paired.snoc ⟨x,rfl,gx⟩ (Paired.mono (bR s3) hp)
 ·obtain⟨s1,hp⟩:=h
  rw[take_length]at hp
  exact⟨⟨_,AV.of (s1 _ _ ha),by rw[dA];exact le_refl _⟩,λD hD=>hq D acc H' s1 hD hp⟩
inductive CN(H:Hp)(v:V)(t:ck):Prop
 | mk (x:Addr) (_:v = .ref x) (_:H x=some (.tup [.int t.start, .int t.goal, .int t.len, .int t.word]))
theorem CN.same(s:AO H H')(v:V)(t:ck):CN H v t->CN H' v t
 | ⟨x,e,h⟩=>⟨x,e,s _ _ h⟩
structure Kn(c:Cs)(C:Addr)(J:TJ)(H:Hp)(a:YA)(s:YS)(le t:Addr)(AX:List V):Prop where
 T:yb c C J H a
 O:Ko a
 gl:H le=some (.lst AX)
 pl:Paired (CN H) AX s.U
 sd:Sd H t s
 jn:Ce a s
 cn:Cn s
 rn:Rn s
theorem Kn.same(W:Wy K C fw dw J)(h:Kn c C J H a s le t AX)(e:AO H H'):Kn c C J H' a s le t AX :=
 ⟨BK.keep W h.T (AO.Bl e),h.O,e _ _ h.gl,Paired.mono (CN.same e) h.pl,h.sd.same e,h.jn,h.cn,h.rn⟩
theorem Kn.PQ(h:Kn c C J H a s le t AX)(hd:s.done.length <= 100000):PL s:=h.jn.PQ hd
theorem uB(h:s.lanes[l]? = some ln)(m c:Int):cS s l m c=cp ln.r ln.h m c:=by unfold cS;rw[h]
inductive tw(c:Cs)(C:Addr)(J:TJ)(vs:List V)(H:Hp)(Q:VK)(E:XK):Prop
 | mk (a:YA) (s:YS) (le t:Addr) (AX:List V) (m:Nat) (_:vs=[.ref a.tb, .ref le, .ref t, .int m]) (_:Kn c C J H a s le t AX) (_:s.done.length <= 1000) (_:m < s.U.length) (_:∀(D:Addr)(Bk:List V)(H':Hp),AO H H'->H D=none->H' D=some (.lst Bk)->Paired (BB H') Bk ((dE a s m).map dv)->Q (.ref D) H')
abbrev XT:List Str:=["_law_table_here", "_law_letters", "_law_stand_here", "_law_number", "_law_start", "_law_goal", "_law_length", "_law_word", "_law_sent_here", "_law_lanes_here"]
noncomputable def retS(s:Stmt):Scope:=match s with
 | .Return (some (.ListComp _ _ sc _)) _=>sc
 | _=>iQ
theorem Du:ao XT ["_law_table_here", "_law_letters", "_law_stand_here", "_law_number"] (ai uf):=L2.Bt
theorem Us:BG XT (ai uf) (retS (gP (aJ uf) 5)) ["_law_number", "_law_sent_here", "_law_stand_here"] [3,8,2]:=L2.Co
theorem Ut:(["_law_lane", "_law_number", "_law_sent_here", "_law_stand_here"]:List Str).Nodup:=by decide +kernel
theorem zW(F:Bo K "_law_in" "_law_in" uf f fd)(W:Wy K C fw dw J)(Gw:AQ P w K mg base aD 3 fw dw ["self", "place", "goal", "came"] (dj J))
  (ms:mg "_law_sent" = some (.ref fs)) (ks:keepIn K (.ref fs)=true) (bs:Binds K ds ["_law_stand_here", "_law_number"] []) (Gs:AQ P w K mg base aD 1 fs ds ["_law_stand_here", "_law_number"] (sR K))
  (mo:mg "_law_open" = some (.ref fo)) (ko:keepIn K (.ref fo)=true) (bo:Binds K DZ ["_law_stand_here", "_law_lane", "_law_number", "_law_count"] []) (Go:AQ P w K mg base aD 1 fo DZ ["_law_stand_here", "_law_lane", "_law_number", "_law_count"] (kY K)) :
  AQ P w K mg base aD 4 f fd ["_law_table_here", "_law_letters", "_law_stand_here", "_law_number"] (tw c C J):=by
 refine F.ok Du (λvs H Q E h=>?_) (λcdv A outer s0 H vs Q E hr h=>?_)
 ·obtain⟨a,s,le,t,AX,m,rfl,_⟩:=h
  rfl
 ·obtain⟨a,s,le,t,AX,m,rfl,hK,hd,IC,q⟩:=h
  have B0:Bc 1 _:=hr.mono (by decide)
  refine⟨_,ae (gh (ar aF (pv 1) (pv 3) (λ_ _=>rfl)) (fj rfl (aW (au (i:=4) Du.nd rfl (Or.inl rfl)) (aW (au (i:=5) Du.nd rfl (Or.inl rfl)) (aW (au (i:=6) Du.nd rfl (Or.inl rfl)) (aW (au (i:=7) Du.nd rfl (Or.inl rfl)) dP))))))
   (ae (ay (i:=8) Du.nd rfl (Or.inr rfl) (az Gs B0 rfl ms ks bs .nil am (aa (pv 2) (aa (pv 3) ac))))
   (ae (ay (i:=9) Du.nd rfl (Or.inl rfl) (jt lg (ar aF (ar aA (pv 2) af (λ_ _=>rfl)) (pv 3) (λ_ _=>rfl)) qi (iN af)))
   (ae (dO (aM (ap bq (pv 8) af (ax _)) (ag (ay (i:=9) Du.nd rfl (Or.inl rfl) (aE (pv 0) W.cl W.m Gw hr W.b .nil am (aa (pv 4) (aa (pv 5) (aa cM ac)))))) aB))
   (ae (dO (aM (ap bq (pv 8) (pv 6) (ax _)) (ag (ay (i:=9) Du.nd rfl (Or.inl rfl) (aP ac))) aB))
   (ag (aq (bd (own:=["_law_lane"]) (capN:=["_law_number", "_law_sent_here", "_law_stand_here"]) (cap:=[3,8,2]) Us rfl (bF (pv 9)) (λC s' H' fp=>⟨au (i:=0) Ut rfl (Or.inl rfl),bQ (bE (az Go B0 rfl mo ko bo .nil am (aa (pv 3) (aa (pv 0) (aa (pv 1) (aa (pv 2) ac)))))),aK (aa aO (aa (pv 1) (aa (pv 0) ac)))⟩)))))))),?_⟩
  obtain⟨lt,B5⟩:∃lt,s.U[m]? = some lt:=⟨_,getElem?_eq_getElem IC⟩
  obtain⟨x,y,e1,e2,hx,hy⟩:=hK.jn.lets m lt B5
  obtain⟨v,hv,u,rfl,gu⟩:=Paired.at2 hK.pl B5
  rw[e1,e2]at gu
  have hcn:((cZ s m + eU s m:Nat):Int)=lt.gone:=(hK.cn m).trans (vx B5)
  obtain⟨Cc,fst,BY,Br,BA⟩:=hK.T.i
  refine⟨_,rfl,_,rfl,le,AX,_,_,rfl,rfl,AV.of hK.gl,ak hv,u,_,rfl,AZ.of gu,rfl,_,_,rfl,_,_,rfl,_,_,rfl,_,_,rfl,rfl,?_⟩
  refine⟨_,rfl,_,rfl,t,s,m,rfl,hK.sd,hK.PQ (by omega),λH1 s1=>?_⟩
  rw[hcn]
  have hK1:=hK.same W s1
  obtain⟨L,Wa,X,D,lv,D8,De,B4,g0,g1,p1,g2,p2,g3,p3,g4,p4⟩:=hK1.sd
  obtain⟨wv,hw,xw,rfl,Qh⟩:=Paired.at2 p2 B5
  refine⟨_,rfl,t,_,1,_,rfl,rfl,AZ.of g0,ak (j:=1) rfl,_,rfl,Wa,_,_,_,rfl,rfl,AV.of g2,ak hw,_,rfl,xw,_,rfl,AV.of Qh,λD1 Uu=>?_⟩
  have Uv:iF (nV lt.way) none (some 1)=nV (lt.way.take 1):=by
   have:=xR (nV lt.way) 1
   rw[show(((1:Nat):Int))=1 from rfl]at this
   rw[this]
   unfold nV
   rw[←map_take]
  rw[Uv]
  have s2:=s1.new (o := .lst (nV (lt.way.take 1))) Uu
  have Ky:(upd H1 D1 (.lst (nV (lt.way.take 1)))) D1=some (.lst (nV (lt.way.take 1))):=ad
  generalize upd H1 D1 (.lst (nV (lt.way.take 1)))=H2 at s2 Ky ⊢
  refine⟨λσ H'=>∃D:Addr,AO H H'/\H' D=some (.lst (nV (bY a lt)))/\σ=[some (.ref a.tb),some (.ref le),some (.ref t),some (.int m),some (.int x),some (.int y),some (.int lt.len),some (.int lt.word),some (.int lt.gone),some (.ref D)],?_,?_⟩
  ·refine⟨_,rfl,rfl,_,rfl,?_⟩
   rw[bB]
   unfold bY
   by_cases hg:lt.gone=0
   ·rw[decide_eq_true hg,if_pos hg,e1,e2,toNat_natCast,toNat_natCast]
    refine aH ⟨_,rfl,a.tb,Cc,fst,rfl,s2 _ _ BY,BA,_,rfl,_,rfl,a.tb,a.n,a.wy,x,y,none,rfl,(hK.same W s2).T.j,hx,hy,λDw H3 s3 hDw Qd=>?_⟩
    exact⟨Dw,s2.trans s3,Qd,rfl⟩
   ·rw[decide_eq_false hg,if_neg hg]
    exact aG ⟨D1,s2,Ky,rfl⟩
  rintro σ H3 ⟨D2,s3,Qi,rfl⟩
  refine⟨λσ H'=>∃D:Addr,AO H H'/\H' D=some (.lst (nV (if lt.gone=lt.len then [] else bY a lt)))/\σ=[some (.ref a.tb),some (.ref le),some (.ref t),some (.int m),some (.int x),some (.int y),some (.int lt.len),some (.int lt.word),some (.int lt.gone),some (.ref D)],?_,?_⟩
  ·refine⟨_,rfl,_,rfl,rfl,_,rfl,?_⟩
   rw[bB]
   by_cases hg:lt.gone=lt.len
   ·rw[decide_eq_true hg,if_pos hg]
    refine aH ⟨zero_le _,λD3 Uw=>⟨D3,s3.new Uw,ad,rfl⟩⟩
   ·rw[decide_eq_false hg,if_neg hg]
    exact aG ⟨D2,s3,Qi,rfl⟩
  rintro σ H4 ⟨D3,s4,Gv,rfl⟩
  have NV:∀l ∈ (if lt.gone=lt.len then [] else bY a lt),l < s.lanes.length:=λl hl=>by
   split at hl
   ·cases hl
   ·rw[hK.jn.lanes]
    unfold bY at hl
    split at hl
    ·rw[e1,e2,toNat_natCast,toNat_natCast]at hl
     exact hK.T.ok x y none hx hy l hl
    ·exact(hK.jn.BF m lt B5).1 l (mem_of_mem_take hl)
  have Ux:(if lt.gone=lt.len then [] else bY a lt).length <= 1000:=by
   split
   ·exact zero_le _
   ·unfold bY
    split
    ·exact le_trans (hK.O.B9 _ _ _) (by decide)
    ·exact le_trans (length_take_le _ _) (by decide)
  have Uy:((if lt.gone=lt.len then [] else bY a lt).filter λl=>cS s l m lt.gone).map (λl=>dv (.Cd m l))=(dE a s m).map dv:=by
   unfold dE
   rw[B5]
   dsimp only
   split
   ·rfl
   ·rw[map_map];rfl
  have Uz:=hK.same W s4
  refine⟨_,rfl,D3,rfl,⟨_,AV.of Gv⟩,?_⟩
  refine n0 (K:=K) (p:=λl=>cS s l m lt.gone) (f:=λl=>dv (.Cd m l)) Gv Ux (λl H5 acc N hl s5 hF hT=>?_) (λD4 Bk H5 s5 HC pM=>?_)
  ·obtain⟨ln,Bs⟩:∃ln,s.lanes[l]? = some ln:=⟨_,getElem?_eq_getElem (NV l hl)⟩
   refine⟨_,rfl,_,rfl,_,rfl,_,rfl,t,s,l,m,lt.gone,ln,rfl,(Uz.same W s5).sd,Bs,hK.rn l ln Bs,_,rfl,?_⟩
   rw[←uB Bs]
   cases e:cS s l m lt.gone with
   | false=>exact aG (hF e)
   | true=>exact aH ⟨_,rfl,_,rfl,by show 3 <= sizeLine;decide,λz hz=>hT e z _ ((AO.refl _).new hz) ad⟩
  ·rw[Uy]at pM
   have s6:=s5.new (o := .lst Bk) HC
   exact q D4 Bk _ (s4.trans s6) ((s4.trans s5).free HC) ad (Paired.mono (bR ((AO.refl H5).new HC)) pM)
def Pn(s:YS):Prop:=∀(k:Nat)(ln:bT),s.lanes[k]? = some ln->∀q ∈ ln.qs,0 <= q.2
theorem Pn.step(J:Ce a s)(h:Pn s)(st:D7 a s mv s'):Pn s':=by
 have ent:∀{L:List bT}{l m:Nat}{c len:Int}{ln:bT},(∀(k:Nat)(ln:bT),L[k]? = some ln->∀q ∈ ln.qs,0 <= q.2)->L[l]? = some ln->0 <= c->∀(k:Nat)(x:bT),(L.set l (dR ln m c len))[k]? = some x->∀q ∈ x.qs,0 <= q.2:=λ{L l m c len ln} hL hl hc k x hx q hq=>by
  rcases cC hx with ⟨rfl,rfl⟩ | ⟨_,hx⟩
  ·rcases mem_append.mp hq with hq | hq
   ·exact hL _ ln hl q hq
   ·rw[mem_singleton.mp hq];exact hc
  ·exact hL k x hx q hq
 have IJ:∀{k:Nat}{lk:bT},s.lanes[k]? = some lk->∀(j:Nat)(x:bT),(s.lanes.set k (bP lk))[j]? = some x->∀q ∈ x.qs,0 <= q.2:=λ{k lk} hk j x hx q hq=>by
  rcases cC hx with ⟨rfl,rfl⟩ | ⟨_,hx⟩
  ·exact h _ lk hk q (List.mem_of_mem_tail hq)
  ·exact h j x hx q hq
 cases st with
 | Cd ht hg hl Bs ho=>exact ent h Bs (J.C7 _ _ ht).1
 | on hk hq ht hl Bs ho=>exact ent (IJ hk) Bs (h _ _ hk _ (mem_of_head? hq))
 | CU hk hq ht hg he BQ=>exact IJ hk
 | @back k lk hk hb =>
  intro j x hx q hq
  rcases cC hx with ⟨rfl,rfl⟩ | ⟨_,hx⟩
  ·exact h _ lk hk q hq
  ·exact h j x hx q hq
inductive tu(c:Cs)(C:Addr)(J:TJ)(vs:List V)(H:Hp)(Q:VK)(E:XK):Prop
 | mk (a:YA) (s:YS) (le t:Addr) (AX:List V) (k:Nat) (_:vs=[.ref a.tb, .ref le, .ref t, .int k]) (_:Kn c C J H a s le t AX) (_:Pn s) (_:k < s.lanes.length) (_:∀(D:Addr)(Bk:List V)(H':Hp),AO H H'->H D=none->H' D=some (.lst Bk)->Paired (BB H') Bk ((e8 a s k).map dv)->Q (.ref D) H')
abbrev U0:List Str:=["_law_table_here", "_law_letters", "_law_stand_here", "_law_lane", "_law_number", "_law_count", "_law_way", "_law_others"]
theorem Eu:ao U0 ["_law_table_here", "_law_letters", "_law_stand_here", "_law_lane"] (ai oO):=L2.Bt
theorem Ov:BG U0 (ai oO) (vS (gP (aJ oO) 4)) ["_law_way"] [6]:=L2.Co
theorem Ow:BG U0 (ai oO) (retS (gP (aJ oO) 6)) ["_law_count", "_law_lane", "_law_number", "_law_stand_here"] [5,3,4,2]:=L2.Co
theorem Ox:(["_law_other", "_law_way"]:List Str).Nodup:=by decide +kernel
theorem Oy:(["_law_other", "_law_count", "_law_lane", "_law_number", "_law_stand_here"]:List Str).Nodup:=by decide +kernel
theorem zR(F:Bo K "_law_on" "_law_on" oO f fd)(L:jK K c)(W:Wy K C fw dw J)(Gw:AQ P w K mg base aD 3 fw dw ["self", "place", "goal", "came"] (dj J))(M:sk K c fe de)(Ge:AQ P w K mg base aD 1 fe de ["self", "lane"] (lc c Prod.snd))
  (mo:mg "_law_open" = some (.ref fo)) (ko:keepIn K (.ref fo)=true) (bo:Binds K DZ ["_law_stand_here", "_law_lane", "_law_number", "_law_count"] []) (Go:AQ P w K mg base aD 1 fo DZ ["_law_stand_here", "_law_lane", "_law_number", "_law_count"] (kY K)) :
  AQ P w K mg base aD 4 f fd ["_law_table_here", "_law_letters", "_law_stand_here", "_law_lane"] (tu c C J):=by
 refine F.ok Eu (λvs H Q E h=>?_) (λcdv A outer s0 H vs Q E hr h=>?_)
 ·obtain⟨a,s,le,t,AX,k,rfl,_⟩:=h
  rfl
 ·obtain⟨a,s,le,t,AX,k,rfl,hK,U1,hk,q⟩:=h
  have hu:=hr.units
  have B0:Bc 1 _:=hr.mono (by decide)
  refine⟨_,ae (aM (PW.pt (eX (ap (oX hu) (ar aA (ar aF (ar aA (pv 2) af (λ_ _=>rfl)) (pv 3) (λ_ _=>rfl)) af (λ_ _=>rfl)) (aP ac) (ax _)) (dH (ap bq (ar aA (ar aF (pv 1) (ar aA (ar aF (ar aA (ar aF (ar aA (pv 2) af (λ_ _=>rfl)) (pv 3) (λ_ _=>rfl)) af (λ_ _=>rfl)) af (λ_ _=>rfl)) af (λ_ _=>rfl)) (λ_ _=>rfl)) af (λ_ _=>rfl)) (aE (al (pv 0) rfl) L.cl M.m Ge B0 M.b .nil am (aa (pv 3) ac)) (ax _))))) (ag (aq (aP ac))) aB)
   (ae (gh (ar aF (ar aA (ar aF (ar aA (pv 2) af (λ_ _=>rfl)) (pv 3) (λ_ _=>rfl)) af (λ_ _=>rfl)) af (λ_ _=>rfl)) (fj rfl (aW (au (i:=4) Eu.nd rfl (Or.inr rfl)) (aW (au (i:=5) Eu.nd rfl (Or.inr rfl)) dP))))
   (ae (ay (i:=6) Eu.nd rfl (Or.inr rfl) (ar aF (ar aA (pv 2) af (λ_ _=>rfl)) (pv 4) (λ_ _=>rfl)))
   (ae (ay (i:=7) Eu.nd rfl (Or.inl rfl) (aE (pv 0) W.cl W.m Gw hr W.b .nil am (aa (aE (al (pv 0) rfl) L.cl M.m Ge B0 M.b .nil am (aa (pv 3) ac)) (aa (ar aA (ar aF (pv 1) (pv 4) (λ_ _=>rfl)) af (λ_ _=>rfl)) (aa (pv 3) ac)))))
   (ae (dI (i:=7) (own:=["_law_other"]) (capN:=["_law_way"]) (cap:=[6]) Ov rfl Eu.nd rfl rfl (bF (pv 7)) (λC s' H' fp=>⟨au (i:=0) Ox rfl (Or.inl rfl),bQ (ap (show eO _ (compareOp .NotIn) (Pg K true) from gN) (pv 0) (pv 1) (by with_unfolding_all rfl)),pv 0⟩))
   (ae (dO (aM (ap kg (pv 5) af (ax _)) (ag (ay (i:=7) Eu.nd rfl (Or.inl rfl) (aP (aa (ar aF (pv 6) (aw bv (ce plainAttrs_list slot_list_index PySem.F.type_list_index k4 (pv 6) (aa (pv 3) ac)) af) (λ_ _=>rfl)) ac)))) aB))
   (ag (aq (bd (own:=["_law_other"]) (capN:=["_law_count", "_law_lane", "_law_number", "_law_stand_here"]) (cap:=[5,3,4,2]) Ow rfl (bF (pv 7)) (λC s' H' fp=>⟨au (i:=0) Oy rfl (Or.inl rfl),bQ (bE (az Go B0 rfl mo ko bo .nil am (aa (pv 4) (aa (pv 0) (aa (pv 3) (aa (pv 1) ac)))))),aK (aa aO (aa (pv 2) (aa (pv 0) ac)))⟩))))))))),?_⟩
  obtain⟨ln,Bs⟩:∃ln,s.lanes[k]? = some ln:=⟨_,getElem?_eq_getElem hk⟩
  obtain⟨La,Wa,X,D,lv,D8,De,B4,g0,g1,p1,g2,p2,g3,p3,g4,p4⟩:=hK.sd
  obtain⟨vl,DS,u,ql,Bf,rfl,gu,gq,Fu⟩:=Paired.at2 p1 Bs
  obtain⟨Cc,fst,BY,Br,BA⟩:=hK.T.i
  have Gq:k < a.ps.length:=by rw[←hK.jn.lanes];exact hk
  have he:=getElem?_eq_getElem Gq
  have E7:a.ps.getD k (0,0)=a.ps[k]:=by rw[getD_eq_getElem?_getD,he];rfl
  obtain⟨ee,HV,Oz⟩:=hK.O.ends k _ he
  refine⟨_,rfl,t,_,0,_,rfl,rfl,AZ.of g0,ak (j:=0) rfl,_,rfl,La,_,_,_,rfl,rfl,AV.of g1,ak DS,u,_,3,_,rfl,rfl,AZ.of gu,ak (j:=3) rfl,zero_le _,λo ho=>?_⟩
  have s1:=(AO.refl H).new (o := .lst []) ho
  refine Tg (f:=i6) (l:=ln.qs) (.lst (AV.of (s1 _ _ gq)) (eD (Bi.same s1 Fu))) (.lst (AV.of ad) .nil) (ij _) ⟨_,rfl,?_⟩
  generalize upd H o (.lst [])=H1 at s1 ⊢
  have eF:bU s k=ln.qs.head?:=by unfold bU;rw[Bs]
  unfold e8 at q
  rw[eF]at q
  cases BQ:ln.qs with
  | nil =>
   rw[BQ]at q
   exact aH (aH ⟨zero_le _,λD hD=>q D [] _ (s1.new hD) (s1.free hD) ad .nil⟩)
  | cons pq rest =>
  rw[BQ]at q Fu
  obtain⟨m,lt,em,hm,Fq⟩:=hK.jn.BL k ln Bs pq (by rw[BQ];exact mem_cons_self)
  have Eh:=U1 k ln Bs pq (by rw[BQ];exact mem_cons_self)
  obtain⟨qm,cc⟩:=pq
  have em:qm=(m:Int):=em
  subst em
  have Eh:0 <= cc:=Eh
  have U2:ln.qs.head? = some ((m:Int),cc):=by rw[BQ];rfl
  obtain⟨x0,y0,e1,e2,Kp,Gj⟩:=hK.jn.lets m lt hm
  have Hm:∃pt rv,Bf = .ref pt :: rv/\H pt=some (.tup [.int (m:Int), .int cc]):=by
   cases Fu with
   | cons z _=>obtain⟨pt,rfl,g⟩:=z;exact⟨pt,_,rfl,g⟩
  obtain⟨pt,rv,rfl,Qj⟩:=Hm
  obtain⟨v2,Qk,ul,rfl,O0⟩:=Paired.at2 hK.pl hm
  rw[e2]at O0
  obtain⟨wv,hwv,xw,rfl,Qh⟩:=Paired.at2 p2 hm
  refine aG ⟨_,rfl,_,rfl,t,_,0,_,rfl,rfl,AZ.of (s1 _ _ g0),ak (j:=0) rfl,_,rfl,La,_,_,_,rfl,rfl,AV.of (s1 _ _ g1),ak DS,u,_,3,_,rfl,rfl,AZ.of (s1 _ _ gu),ak (j:=3) rfl,ql,_,0,_,rfl,rfl,AV.of (s1 _ _ gq),ak (j:=0) rfl,pt,_,0,_,rfl,rfl,AZ.of (s1 _ _ Qj),ak (j:=0) rfl,le,AX,_,_,rfl,rfl,AV.of (s1 _ _ hK.gl),ak Qk,ul,_,1,_,rfl,rfl,AZ.of (s1 _ _ O0),ak (j:=1) rfl,_,rfl,a.tb,C,Cc,fst,_,rfl,s1 _ _ BY,W.cl,W.nl,Br,a.lx,a.Bh,_,rfl,s1 _ _ hK.T.l.1,rfl,_,rfl,a.lx,a.Bh,a.lt,(a.n:Int),a.AY,a.ps,k,_,rfl,(hK.same W s1).T.l,he,rfl,_,rfl,?_⟩
  rw[bB,HV]
  have DT:c5 a s k=if cc=0 then (nN a k y0).filter (λl=>!decide (l ∈ lt.way)) else (lt.way.drop (lt.way.idxOf k + 1)).take 1:=by
   unfold c5
   rw[eF,U2]
   dsimp only
   rw[toNat_natCast,hm]
   dsimp only
   rw[e2,toNat_natCast]
  have O1:iE a k=(ee:Int):=by unfold iE;rw[E7];exact HV
  by_cases hg:(y0:Int)=(ee:Int)
  ·rw[decide_eq_true hg]
   have S4:c5 a s k=[]:=by
    rw[DT]
    split
    ·unfold nN
     rw[E7,HV,if_pos hg.symm];rfl
    ·next hc =>
     have h1:=(hK.jn.next Bs U2 hc hm).1 (by rw[O1,e2,hg])
     rw[h1,List.drop_eq_nil_of_le (le_refl _)];rfl
   rw[S4]at q
   exact aH ⟨zero_le _,λD hD=>q D [] _ (s1.new hD) (s1.free hD) ad .nil⟩
  rw[decide_eq_false hg]
  have hon:nN a k y0=a.wy ee y0 (some k):=by
   unfold nN
   rw[E7,HV,if_neg (λz=>hg z.symm),toNat_natCast]
  rw[hon]at DT
  refine aG ?_
  refine⟨_,rfl,t,_,0,_,rfl,rfl,AZ.of (s1 _ _ g0),ak (j:=0) rfl,_,rfl,La,_,_,_,rfl,rfl,AV.of (s1 _ _ g1),ak DS,u,_,3,_,rfl,rfl,AZ.of (s1 _ _ gu),ak (j:=3) rfl,ql,_,0,_,rfl,rfl,AV.of (s1 _ _ gq),ak (j:=0) rfl,pt,_,rfl,AZ.of (s1 _ _ Qj),rfl,_,_,rfl,_,_,rfl,rfl,?_⟩
  refine⟨_,rfl,t,_,1,_,rfl,rfl,AZ.of (s1 _ _ g0),ak (j:=1) rfl,_,rfl,Wa,_,_,_,rfl,rfl,AV.of (s1 _ _ g2),ak hwv,?_⟩
  refine⟨_,rfl,a.tb,Cc,fst,rfl,s1 _ _ BY,BA,_,rfl,a.tb,C,Cc,fst,_,rfl,s1 _ _ BY,W.cl,W.nl,Br,a.lx,a.Bh,_,rfl,s1 _ _ hK.T.l.1,rfl,_,rfl,a.lx,a.Bh,a.lt,(a.n:Int),a.AY,a.ps,k,_,rfl,(hK.same W s1).T.l,he,_,rfl,_,rfl,le,AX,_,_,rfl,rfl,AV.of (s1 _ _ hK.gl),ak Qk,ul,_,1,_,rfl,rfl,AZ.of (s1 _ _ O0),ak (j:=1) rfl,_,rfl,a.tb,a.n,a.wy,ee,y0,some k,by rw[HV];rfl,(hK.same W s1).T.j,Oz,Gj,λDo H2 s2 hDo XU=>?_⟩
  have G0:=s1.trans s2
  refine⟨_,rfl,Do,rfl,⟨_,AV.of XU⟩,?_⟩
  have HS:=hK.O.B9 ee y0 (some k)
  refine eE (λv=>match v with | .int i=>!decide (i ∈ iz lt.way) | _=>false) (λv=>v) (by rw[dA,sizeLine_eq];omega) (AV.of XU) (λy acc N hy h=>?_) (λD2 CB=>?_)
  ·obtain⟨z,hz,rfl⟩:=pb hy
   refine⟨_,rfl,_,rfl,xw,_,rfl, .inl (AV.of (G0 _ _ Qh)),rfl,by rw[j1];exact fP _,_,rfl,?_⟩
   rw[j1,iT]
   have h:N (if (!decide ((z:Int) ∈ iz lt.way))=true then acc ++ [V.int z] else acc) H2:=h
   cases hb:decide ((z:Int) ∈ iz lt.way) with
   | true =>
    rw[hb]at h
    exact aG h
   | false =>
    rw[hb]at h
    exact aH ⟨_,rfl,h⟩
  have e:((nV (a.wy ee y0 (some k))).filter (λv=>match v with | .int i=>!decide (i ∈ iz lt.way) | _=>false)).map (λv=>v)=nV ((a.wy ee y0 (some k)).filter λl=>!decide (l ∈ lt.way)):=by
   rw[List.map_id']
   unfold nV
   rw[filter_map]
   congr 1
   refine filter_congr λu _=>?_
   show(!decide ((u:Int) ∈ iz lt.way))=_
   rw[lC]
  rw[e]
  have s3:=G0.new (o := .lst (nV ((a.wy ee y0 (some k)).filter λl=>!decide (l ∈ lt.way)))) CB
  have Qi:(upd H2 D2 (.lst (nV ((a.wy ee y0 (some k)).filter λl=>!decide (l ∈ lt.way))))) D2=some (.lst (nV ((a.wy ee y0 (some k)).filter λl=>!decide (l ∈ lt.way)))):=ad
  show dB 7 (V.ref D2) _ (upd H2 D2 (.lst (nV ((a.wy ee y0 (some k)).filter λl=>!decide (l ∈ lt.way))))) _
  generalize upd H2 D2 (.lst (nV ((a.wy ee y0 (some k)).filter λl=>!decide (l ∈ lt.way))))=H3 at s3 Qi ⊢
  refine⟨λσ H'=>∃D:Addr,AO H H'/\H' D=some (.lst (nV (c5 a s k)))/\σ=[some (.ref a.tb),some (.ref le),some (.ref t),some (.int k),some (.int m),some (.int cc),some (.ref xw),some (.ref D)],?_,?_⟩
  ·refine⟨_,rfl,_,_,rfl,rfl,_,rfl,?_⟩
   rw[DT]
   by_cases hc:cc=0
   ·rw[if_pos hc,decide_eq_false (show ¬(0:Int) < cc by omega)]
    exact aG ⟨D2,s3,Qi,rfl⟩
   ·rw[if_neg hc,decide_eq_true (show (0:Int) < cc by omega)]
    have XW:=(hK.jn.next Bs U2 hc hm).2 (by rw[O1,e2];exact λz=>hg z.symm)
    have hwn:=getElem?_eq_getElem XW
    have U3:=s3 _ _ Qh
    have Xb:lt.way.length <= 1000:=by have:=dF _ _ (hK.jn.BF m lt hm).2 (hK.jn.BF m lt hm).1;have:=hK.jn.EX;omega
    refine aH ⟨_,rfl,_,rfl, .inl ⟨rfl,_,AV.of U3⟩,_,rfl,xw,iz lt.way,(k:Int),rfl,rfl,by rw[←j1];exact U3,BJ.mpr ⟨k,Fq,rfl⟩,by unfold iz;rw[length_map];omega,_,_,rfl,rfl,?_⟩
    rw[p6]
    have LZ:(nV lt.way)[lt.way.idxOf k + 1]? = some (V.int (lt.way[lt.way.idxOf k + 1]:Nat)):=by unfold nV;rw[getElem?_map,hwn];rfl
    refine⟨xw,_,((lt.way.idxOf k + 1:Nat):Int),_,rfl,rfl,AV.of U3,ak LZ,by show 1 <= sizeLine;decide,λD3 Uw=>⟨D3,s3.new Uw,?_,rfl⟩⟩
    rw[ad]
    congr 2
    have:(lt.way.drop (lt.way.idxOf k + 1)).take 1=[lt.way[lt.way.idxOf k + 1]]:=by rw[List.drop_eq_getElem_cons XW];rfl
    rw[this]
    rfl
  rintro σ H4 ⟨D3,s4,Gv,rfl⟩
  have NV:∀l ∈ c5 a s k,l < s.lanes.length:=λl hl=>by
   rw[DT]at hl
   rw[hK.jn.lanes]
   split at hl
   ·exact hK.T.ok ee y0 (some k) Oz Gj l (mem_filter.mp hl).1
   ·exact(hK.jn.BF m lt hm).1 l (mem_of_mem_drop (mem_of_mem_take hl))
  have Ux:(c5 a s k).length <= 1000:=by
   rw[DT]
   split
   ·exact le_trans (length_filter_le _ _) (by omega)
   ·exact le_trans (length_take_le _ _) (by decide)
  have Uy:((c5 a s k).filter λl=>cS s l m cc).map (λl=>dv (.on k l))=(((c5 a s k).filter λl=>cS s l m cc).map (Mv.on k)).map dv:=by rw[map_map];rfl
  have Uz:=hK.same W s4
  refine⟨_,rfl,D3,rfl,⟨_,AV.of Gv⟩,?_⟩
  refine n0 (K:=K) (p:=λl=>cS s l m cc) (f:=λl=>dv (.on k l)) Gv Ux (λl H5 acc N hl s5 hF hT=>?_) (λD4 Bk H5 s5 HC pM=>?_)
  ·obtain⟨lo,Ph⟩:∃ln,s.lanes[l]? = some ln:=⟨_,getElem?_eq_getElem (NV l hl)⟩
   refine⟨_,rfl,_,rfl,_,rfl,_,rfl,t,s,l,m,cc,lo,rfl,(Uz.same W s5).sd,Ph,hK.rn l lo Ph,_,rfl,?_⟩
   rw[←uB Ph]
   cases e:cS s l m cc with
   | false=>exact aG (hF e)
   | true=>exact aH ⟨_,rfl,_,rfl,by show 3 <= sizeLine;decide,λz hz=>hT e z _ ((AO.refl _).new hz) ad⟩
  ·rw[Uy]at pM
   have s6:=s5.new (o := .lst Bk) HC
   exact q D4 Bk _ (s4.trans s6) ((s4.trans s5).free HC) ad (Paired.mono (bR ((AO.refl H5).new HC)) pM)
theorem vR(s:YS)(k:Nat):(bL s k).length <= 1:=by
 unfold bL
 split
 ·split
  ·exact le_refl _
  ·exact zero_le _
 ·exact zero_le _
theorem nh{F:Nat->List Mv}(h:∀k,(F k).length <= 1):∀i,((List.range i).flatMap F).length <= i
 | 0=>le_refl _
 | i + 1=>by rw[bJ,length_append];have:=nh h i;have:=h i;omega
theorem pA(hn:n <= 1000)
  (hs:∀(i:Nat)(H1:Hp)(acc:List V)(N:List V->Hp->Prop),i < n->AO H H1->(bL s i=[]->N acc H1)->(bL s i=[.back i]->∀(x:Addr)(H2:Hp),AO H1 H2->H2 x=some (.tup (dv (.back i)))->N (acc ++ [.ref x]) H2)->g (.int i) σ0 H1 λσ2 H2=>tt σ2 H2 λb H3=>if b=true then te σ2 H3 λy H4=>N (acc ++ [y]) H4 else N acc H3)
  (hq:∀(D:Addr)(vs:List V)(H1:Hp),AO H H1->H1 D=none->Paired (BB H1) vs (((List.range n).flatMap (bL s)).map dv)->Q (.ref D) (upd H1 D (.lst vs))):dC (so 0 n) g tt te σ0 Q H:=by
 refine bN n (by rw[sizeLine_eq];omega) (λi acc H'=>AO H H'/\Paired (BB H') acc (((List.range i).flatMap (bL s)).map dv)) ⟨AO.refl _, .nil⟩ (λi acc H' h=>by rw[Paired.length h.2,length_map];exact nh (vR s) i) (λi acc H' hi h=>?_) (λacc H' h=>?_)
 ·obtain⟨s1,hp⟩:=h
  refine⟨hi,λv H2 y=>?_⟩
  obtain⟨rfl,rfl⟩:=y
  rw[zero_add]
  refine hs i H2 acc (λBx H3=>AO H H3/\Paired (BB H3) Bx (((List.range (i + 1)).flatMap (bL s)).map dv)) hi s1 (λe=>⟨s1,?_⟩) (λe x H3 s3 gx=>⟨s1.trans s3,?_⟩)
  ·rw[bJ,e,append_nil];exact hp
  ·rw[bJ,e,map_append]
   exact Paired.snoc ⟨x,rfl,gx⟩ (Paired.mono (bR s3) hp)
 ·obtain⟨s1,hp⟩:=h
  exact⟨le_refl _,λD hD=>hq D acc H' s1 hD hp⟩
inductive ji(c:Cs)(C:Addr)(J:TJ)(vs:List V)(H:Hp)(Q:VK)(E:XK):Prop
 | mk (a:YA) (s:YS) (le t:Addr) (AX:List V) (_:vs=[.ref a.tb, .ref le, .ref t]) (_:Kn c C J H a s le t AX) (_:Pn s) (_:s.done.length <= 1000) (_:∀(D:Addr)(Bk:List V)(H':Hp),AO H H'->H D=none->H' D=some (.lst Bk)->Paired (BB H') Bk ((bX a s).map dv)->Q (.ref D) H')
abbrev XX:List Str:=["_law_table_here", "_law_letters", "_law_stand_here", "_law_found", "_law_number", "_law_lane", "_law_queue"]
inductive FI(a:YA)(le t:Addr)(H:Hp)(ms:List Mv)(σ:St)(H2:Hp):Prop
 | mk (D:Addr) (vs:List V) (a4 a5 a6:Option V) (_:H D=none) (_:AO H H2) (_:H2 D=some (.lst vs)) (_:Paired (BB H2) vs (ms.map dv)) (_:σ=[some (.ref a.tb),some (.ref le),some (.ref t),some (.ref D),a4,a5,a6])
theorem FI.cat{xs ys:List Mv}(s2:AO H H2)(p2:Paired (BB H2) vs (xs.map dv))(s3:AO H2 H3)(p3:Paired (BB H3) Bk (ys.map dv))(hD:H3 D2=none) :
  H D2=none/\AO H (upd H3 D2 (.lst (vs ++ Bk)))/\Paired (BB (upd H3 D2 (.lst (vs ++ Bk)))) (vs ++ Bk) ((xs ++ ys).map dv):=by
 have s4:=(AO.refl H3).new (o := .lst (vs ++ Bk)) hD
 refine⟨(s2.trans s3).free hD,(s2.trans s3).trans s4,?_⟩
 rw[map_append]
 exact Paired.app (Paired.mono (bR s4) p3) (Paired.mono (bR (s3.trans s4)) p2)
theorem DU:ao XX ["_law_table_here", "_law_letters", "_law_stand_here"] (ai gJ):=L2.Bt
noncomputable def U4(s:Stmt):Scope:=match s with
 | .Return (some (.BinOp _ _ (.ListComp _ _ sc _) _)) _=>sc
 | _=>iQ
theorem U5:BG XX (ai gJ) (U4 (gP (aJ gJ) 4)) ["_law_stand_here"] [2]:=L2.Co
theorem U6:(["_law_lane", "_law_stand_here"]:List Str).Nodup:=by decide +kernel
theorem rC(F:Bo K "_law_moves" "_law_moves" gJ f fd)(T:dY mg)(L:jK K c)(W:Wy K C fw dw J)(M:sk K c fe de)(Ge:AQ P w K mg base aD 1 fe de ["self", "lane"] (lc c Prod.snd))
  (mi:mg "_law_in" = some (.ref fi)) (ki:keepIn K (.ref fi)=true) (bi:Binds K di ["_law_table_here", "_law_letters", "_law_stand_here", "_law_number"] []) (Gi:AQ P w K mg base aD 4 fi di ["_law_table_here", "_law_letters", "_law_stand_here", "_law_number"] (tw c C J))
  (mo:mg "_law_on" = some (.ref fo)) (ko:keepIn K (.ref fo)=true) (bo:Binds K DZ ["_law_table_here", "_law_letters", "_law_stand_here", "_law_lane"] []) (Go:AQ P w K mg base aD 4 fo DZ ["_law_table_here", "_law_letters", "_law_stand_here", "_law_lane"] (tu c C J)) :
  AQ P w K mg base aD 5 f fd ["_law_table_here", "_law_letters", "_law_stand_here"] (ji c C J):=by
 refine F.ok DU (λvs H Q E h=>?_) (λcdv A outer s0 H vs Q E hr h=>?_)
 ·obtain⟨a,s,le,t,AX,rfl,_⟩:=h
  rfl
 ·obtain⟨a,s,le,t,AX,rfl,hK,U1,hd,q⟩:=h
  have hu:=hr.units
  have B0:Bc 1 _:=hr.mono (by decide)
  have Dk:Bc 4 _:=hr.mono (by decide)
  refine⟨_,ae (ay (i:=3) DU.nd rfl (Or.inl rfl) (aP ac))
   (ae (bK PassesOwn.never rfl (aQ rfl T.range (aa (aC av rfl T.len PySem.boot_len (aa (pv 1) ac)) ac)) (au (i:=4) DU.nd rfl (Or.inl rfl)) (ag (ay (i:=3) DU.nd rfl (Or.inl rfl) (aw fz (pv 3) (az Gi hr rfl mi ki bi .nil am (aa (pv 0) (aa (pv 1) (aa (pv 2) (aa (pv 4) ac)))))))))
   (ae (bK PassesOwn.never rfl (aQ rfl T.range (aa (aC av rfl T.len PySem.boot_len (aa (ar aA (pv 2) af (λ_ _=>rfl)) ac)) ac)) (au (i:=5) DU.nd rfl (Or.inl rfl)) (ag (ay (i:=3) DU.nd rfl (Or.inl rfl) (aw fz (pv 3) (az Go hr rfl mo ko bo .nil am (aa (pv 0) (aa (pv 1) (aa (pv 2) (aa (pv 5) ac)))))))))
   (ae (bK PassesOwn.never rfl (aQ rfl T.range (aa (aC av rfl T.len PySem.boot_len (aa (ar aA (pv 2) af (λ_ _=>rfl)) ac)) ac)) (au (i:=5) DU.nd rfl (Or.inl rfl))
    (ae (ay (i:=6) DU.nd rfl (Or.inl rfl) (ar aA (ar aF (ar aA (pv 2) af (λ_ _=>rfl)) (pv 5) (λ_ _=>rfl)) af (λ_ _=>rfl)))
    (ag (aM (PW.pt (im (ap (gi hu) (pv 6) (aP ac) (ax _)) (gM (ap bq (ar aA (ar aF (pv 1) (ar aA (ar aF (pv 6) af (λ_ _=>rfl)) af (λ_ _=>rfl)) (λ_ _=>rfl)) af (λ_ _=>rfl)) (aE (al (pv 0) rfl) L.cl M.m Ge B0 M.b .nil am (aa (pv 5) ac)) (ax _))))) (ag (aS (ce plainAttrs_list PySem.F.slot_list_append PySem.F.type_list_append bj (pv 3) (aa (aK (aa aO (aa (pv 5) ac))) ac)))) aB))))
   (ag (aq (aw fz (pv 3) (bd (own:=["_law_lane"]) (capN:=["_law_stand_here"]) (cap:=[2]) U5 rfl (aQ rfl T.range (aa (aC av rfl T.len PySem.boot_len (aa (ar aA (pv 2) af (λ_ _=>rfl)) ac)) ac)) (λC s' H' fp=>⟨au (i:=0) U6 rfl (Or.inl rfl),bQ (ap kg (ar (show kR _ (il K) from aA) (ar (show kR _ (qZ K) from aF) (ar (show kR _ (il K) from aA) (pv 1) af (λ_ _=>rfl)) (pv 0) (λ_ _=>rfl)) af (λ_ _=>rfl)) af (ax _)),aK (aa aO (aa (pv 0) ac))⟩)))))))),?_⟩
  have SN:=hK.jn.B9
  have Ep:s.lanes.length <= 40:=by rw[hK.jn.lanes];exact hK.jn.EX
  have b0:=aT (cW hK.O hK.jn.ok)
  have b1:=aT (cT (s:=s) hK.O)
  have b2:=aT (cI a s)
  have b3:=aT (eL s)
  have DN:AX.length=s.U.length:=Paired.length hK.pl
  refine⟨zero_le _,λFd Hr=>?_⟩
  have s0:=(AO.refl H).new (o := .lst []) Hr
  have g0:(upd H Fd (.lst [])) Fd=some (.lst []):=ad
  show dB 3 (V.ref Fd) _ _ _
  generalize upd H Fd (.lst [])=H0 at s0 g0 ⊢
  refine⟨_,rfl,le,_,rfl, .inl (AV.of (s0 _ _ hK.gl)),((AX.length:Nat):Int),rfl,by omega,by omega,?_⟩
  rw[toNat_natCast,DN]
  refine b6 (n:=s.U.length) (λi σ H2=>FI a le t H ((List.range i).flatMap (dE a s)) σ H2) ?_ ?_ ?_
  ·exact⟨Fd,[],_,_,_,Hr,s0,g0, .nil,rfl⟩
  ·rintro i σ H2 hi ⟨D,vs,a4,a5,a6,nD,s2,g2,p2,rfl⟩
   rw[zero_add]
   refine⟨_,rfl,_,rfl,_,rfl,_,rfl,_,rfl,a,s,le,t,AX,i,rfl,hK.same W s2,hd,hi,λD1 Bk H3 s3 Uu Ky pM=>?_⟩
   have:=b0 i
   have l1:vs.length=((List.range i).flatMap (dE a s)).length:=by rw[Paired.length p2,length_map]
   have l2:Bk.length <= 1000:=by rw[Paired.length pM,length_map];exact cW hK.O hK.jn.ok i
   refine⟨D,D1,vs,Bk,rfl,rfl,s3 _ _ g2,Ky,by rw[sizeLine_eq];omega,λD2 CB=>?_⟩
   obtain⟨q1,q2,q3⟩:=FI.cat s2 p2 s3 pM CB
   exact⟨D2,vs ++ Bk,_,_,_,q1,q2,ad,by rw[bJ];exact q3,rfl⟩
  rintro σ1 H1 ⟨D1,SR,a4,a5,a6,nD1,s1,g1,p1,rfl⟩
  obtain⟨La,Wa,X,Da,lv,D8,De,B4,e0,e1,f1,e2,f2,e3,f3,e4,f4⟩:=hK.sd
  have Ni:lv.length=s.lanes.length:=Paired.length f1
  refine⟨_,rfl,t,_,0,_,rfl,rfl,AZ.of (s1 _ _ e0),ak (j:=0) rfl,La,_,rfl, .inl (AV.of (s1 _ _ e1)),((lv.length:Nat):Int),rfl,by omega,by omega,?_⟩
  rw[toNat_natCast,Ni]
  refine b6 (n:=s.lanes.length) (λi σ H2=>FI a le t H ((List.range s.U.length).flatMap (dE a s) ++ (List.range i).flatMap (e8 a s)) σ H2) ?_ ?_ ?_
  ·exact⟨D1,SR,_,_,_,nD1,s1,g1,by simpa using p1,rfl⟩
  ·rintro i σ H2 hi ⟨D,vs,a4,a5,a6,nD,s2,g2,p2,rfl⟩
   rw[zero_add]
   refine⟨_,rfl,_,rfl,_,rfl,_,rfl,_,rfl,a,s,le,t,AX,i,rfl,hK.same W s2,U1,hi,λD1 Bk H3 s3 Uu Ky pM=>?_⟩
   have:=b0 s.U.length
   have:=b1 i
   have l1:vs.length=((List.range s.U.length).flatMap (dE a s) ++ (List.range i).flatMap (e8 a s)).length:=by rw[Paired.length p2,length_map]
   rw[length_append]at l1
   have l2:Bk.length <= 1000:=by rw[Paired.length pM,length_map];exact cT (s:=s) hK.O i
   refine⟨D,D1,vs,Bk,rfl,rfl,s3 _ _ g2,Ky,by rw[sizeLine_eq];omega,λD2 CB=>?_⟩
   obtain⟨q1,q2,q3⟩:=FI.cat s2 p2 s3 pM CB
   exact⟨D2,vs ++ Bk,_,_,_,q1,q2,ad,by rw[bJ,←append_assoc];exact q3,rfl⟩
  clear a4 a5 a6
  rintro σ2 H2 ⟨D2,FY,a4,a5,a6,nD2,s2,g2,p2,rfl⟩
  refine⟨_,rfl,t,_,0,_,rfl,rfl,AZ.of (s2 _ _ e0),ak (j:=0) rfl,La,_,rfl, .inl (AV.of (s2 _ _ e1)),((lv.length:Nat):Int),rfl,by omega,by omega,?_⟩
  rw[toNat_natCast,Ni]
  refine b6 (n:=s.lanes.length) (λi σ H2=>FI a le t H ((List.range s.U.length).flatMap (dE a s) ++ (List.range s.lanes.length).flatMap (e8 a s) ++ (List.range i).flatMap (cU a s)) σ H2) ?_ ?_ ?_
  ·exact⟨D2,FY,_,_,_,nD2,s2,g2,by simpa using p2,rfl⟩
  ·rintro i σ H3 hi ⟨D,vs,a4,a5,a6,nD,s3,g3,p3,rfl⟩
   rw[zero_add]
   obtain⟨ln,Bs⟩:∃ln,s.lanes[i]? = some ln:=⟨_,getElem?_eq_getElem hi⟩
   obtain⟨vl,DS,u,ql,Bf,rfl,gu,gq,Fu⟩:=Paired.at2 f1 Bs
   refine⟨_,rfl,t,_,0,_,rfl,rfl,AZ.of (s3 _ _ e0),ak (j:=0) rfl,_,rfl,La,_,_,_,rfl,rfl,AV.of (s3 _ _ e1),ak DS,u,_,3,_,rfl,rfl,AZ.of (s3 _ _ gu),ak (j:=3) rfl,?_⟩
   refine⟨_,rfl,zero_le _,λo ho=>?_⟩
   have s4:=(AO.refl H3).new (o := .lst []) ho
   have Df:=s3.trans s4
   refine neN (f:=i6) (l:=ln.qs) (.lst (AV.of (Df _ _ gq)) (eD (Bi.same Df Fu))) (.lst (AV.of ad) .nil) (ij _) ⟨_,rfl,?_⟩
   generalize upd H3 o (.lst [])=H4 at s4 Df ⊢
   have eF:bU s i=ln.qs.head?:=by unfold bU;rw[Bs]
   have g4:=s4 _ _ g3
   have p4:=Paired.mono (bR s4) p3
   cases BQ:ln.qs with
   | nil =>
    have e:cU a s i=[]:=by unfold cU;rw[eF,BQ];rfl
    refine aG (aG ⟨D,vs,_,_,_,nD,Df,g4,?_,rfl⟩)
    rw[bJ,e,append_nil]
    exact p4
   | cons pq rest =>
   rw[BQ]at Fu
   obtain⟨m,lt,em,hm,Fq⟩:=hK.jn.BL i ln Bs pq (by rw[BQ];exact mem_cons_self)
   obtain⟨qm,cc⟩:=pq
   have em:qm=(m:Int):=em
   subst em
   obtain⟨x0,y0,z1,z2,Kp,Gj⟩:=hK.jn.lets m lt hm
   have Hm:∃pt rv,Bf = .ref pt :: rv/\H pt=some (.tup [.int (m:Int), .int cc]):=by
    cases Fu with
    | cons z _=>obtain⟨pt,rfl,g⟩:=z;exact⟨pt,_,rfl,g⟩
   obtain⟨pt,rv,rfl,Qj⟩:=Hm
   obtain⟨v2,Qk,ul,rfl,O0⟩:=Paired.at2 hK.pl hm
   obtain⟨Cc,fst,BY,Br,BA⟩:=hK.T.i
   have Gq:i < a.ps.length:=by rw[←hK.jn.lanes];exact hi
   have he:=getElem?_eq_getElem Gq
   have E7:a.ps.getD i (0,0)=a.ps[i]:=by rw[getD_eq_getElem?_getD,he];rfl
   refine aH ⟨_,rfl,_,rfl,ql,_,0,_,rfl,rfl,AV.of (Df _ _ gq),ak (j:=0) rfl,pt,_,0,_,rfl,rfl,AZ.of (Df _ _ Qj),ak (j:=0) rfl,le,AX,_,_,rfl,rfl,AV.of (Df _ _ hK.gl),ak Qk,ul,_,1,_,rfl,rfl,AZ.of (Df _ _ O0),ak (j:=1) rfl,_,rfl,a.tb,C,Cc,fst,_,rfl,Df _ _ BY,W.cl,W.nl,Br,a.lx,a.Bh,_,rfl,Df _ _ hK.T.l.1,rfl,_,rfl,a.lx,a.Bh,a.lt,(a.n:Int),a.AY,a.ps,i,_,rfl,(hK.same W Df).T.l,he,rfl,_,rfl,?_⟩
   rw[bB]
   have e:cU a s i=if lt.goal=a.ps[i].2 then [.CU i] else []:=by
    unfold cU
    rw[eF,BQ]
    show(match s.U[(m:Int).toNat]? with | none=>[] | some t=>if t.goal=(a.ps.getD i (0,0)).2 then [Mv.CU i] else [])=_
    rw[toNat_natCast,hm,E7]
   by_cases hg:lt.goal=a.ps[i].2
   ·rw[decide_eq_true hg]
    rw[if_pos hg]at e
    have:=b0 s.U.length
    have:=b1 s.lanes.length
    have:=b2 i
    have l1:vs.length=((List.range s.U.length).flatMap (dE a s) ++ (List.range s.lanes.length).flatMap (e8 a s) ++ (List.range i).flatMap (cU a s)).length:=by rw[Paired.length p3,length_map]
    rw[length_append,length_append]at l1
    refine aH ⟨_,rfl, .inl ⟨rfl,_,AV.of g4⟩,_,rfl,by show 2 <= sizeLine;decide,λx hx=>?_⟩
    have s5:=(AO.refl H4).new (o := .tup [.str "lie", .int i]) hx
    obtain⟨q1,q2,q3⟩:=gR (ys:=[.CU i]) nD Df g4 p4 s5 (.cons ⟨x,rfl,ad⟩ .nil)
    refine⟨D,vs,_,rfl,rfl,s5 _ _ g4,by rw[sizeLine_eq];omega,D,vs ++ [.ref x],_,_,_,nD,q1,q2,?_,rfl⟩
    rw[bJ,e,←append_assoc]
    exact q3
   ·rw[decide_eq_false hg]
    rw[if_neg hg]at e
    refine aG ⟨D,vs,_,_,_,nD,Df,g4,?_,rfl⟩
    rw[bJ,e,append_nil]
    exact p4
  clear a4 a5 a6
  rintro σ3 H3 ⟨D3,PK,a4,a5,a6,nD3,s3,g3,p3,rfl⟩
  refine⟨_,rfl,_,rfl,t,_,0,_,rfl,rfl,AZ.of (s3 _ _ e0),ak (j:=0) rfl,La,_,rfl, .inl (AV.of (s3 _ _ e1)),((lv.length:Nat):Int),rfl,by omega,by omega,?_⟩
  rw[toNat_natCast,Ni]
  refine pA (s:=s) (by omega) (λi H4 acc N hi s4 hF hT=>?_) (λD4 Bk H4 s4 HC pM=>?_)
  ·obtain⟨ln,Bs⟩:∃ln,s.lanes[i]? = some ln:=⟨_,getElem?_eq_getElem hi⟩
   obtain⟨vl,DS,u,ql,Bf,rfl,gu,gq,Fu⟩:=Paired.at2 f1 Bs
   have Df:=s3.trans s4
   refine⟨_,rfl,t,_,0,_,rfl,rfl,AZ.of (Df _ _ e0),ak (j:=0) rfl,_,rfl,La,_,_,_,rfl,rfl,AV.of (Df _ _ e1),ak DS,u,_,1,_,rfl,rfl,AZ.of (Df _ _ gu),ak (j:=1) rfl,_,_,rfl,rfl,_,rfl,?_⟩
   have e:bL s i=if 0 < ln.b then [.back i] else []:=by unfold bL;rw[Bs]
   by_cases hb:0 < ln.b
   ·rw[decide_eq_true hb]
    rw[if_pos hb]at e
    exact aH ⟨_,rfl,by show 2 <= sizeLine;decide,λx hx=>hT e x _ ((AO.refl _).new hx) ad⟩
   ·rw[decide_eq_false hb]
    rw[if_neg hb]at e
    exact aG (hF e)
  ·have:=b0 s.U.length
   have:=b1 s.lanes.length
   have:=b2 s.lanes.length
   have:=b3 s.lanes.length
   have l1:PK.length=((List.range s.U.length).flatMap (dE a s) ++ (List.range s.lanes.length).flatMap (e8 a s) ++ (List.range s.lanes.length).flatMap (cU a s)).length:=by rw[Paired.length p3,length_map]
   rw[length_append,length_append]at l1
   have l2:Bk.length=((List.range s.lanes.length).flatMap (bL s)).length:=by rw[Paired.length pM,length_map]
   have s5:=(AO.refl H4).new (o := .lst Bk) HC
   refine⟨D3,D4,PK,Bk,rfl,rfl,(s4.trans s5) _ _ g3,ad,by rw[sizeLine_eq];omega,λD5 hD5=>?_⟩
   obtain⟨q1,q2,q3⟩:=FI.cat s3 p3 (s4.trans s5) (Paired.mono (bR s5) pM) hD5
   exact q D5 _ _ q2 q1 ad q3
noncomputable def tV(x:Str)(zs:List Int):List V := .str x :: zs.map V.int
theorem wj(x:Str)(zs:List Int):∀v ∈ tV x zs,(∃t,v=V.str t)∨∃i,v=V.int i:=λv hv=>by
 rcases mem_cons.mp hv with rfl | hv
 ·exact .inl ⟨_,rfl⟩
 ·obtain⟨z,_,rfl⟩:=mem_map.mp hv
  exact .inr ⟨_,rfl⟩
noncomputable def eA(a:YA)(s:YS)(x:Str)(z:Int):List Mv:=if x = "in" then (if 0 <= z/\z <= (s.U.length:Int) - 1 then dE a s z.toNat else []) else if 0 <= z/\z <= (s.lanes.length:Int) - 1 then (if x = "on" then e8 a s z.toNat else if x = "lie" then cU a s z.toNat else if x = "back" then bL s z.toNat else []) else []
noncomputable def j4(a:YA)(s:YS)(x:Str)(zs:List Int):List Mv:=match zs with
 | []=>[]
 | z :: _=>eA a s x z
inductive iJ(K:Frag)(c:Cs)(TC:Addr)(J:TJ)(ys:Ys)(vs:List V)(H:Hp)(Q:VK)(E:XK):Prop
 | mk (a:YA) (s:YS) (p:Addr) (x:Str) (zs:List Int) (_:vs=[.ref a.y, .ref p]) (_:DY K c TC J ys H a s) (_:H p=some (.tup (tV x zs))) (_:zs.length <= 9) (_:∀(D:Addr)(Bk:List V)(H':Hp),AO H H'->H D=none->H' D=some (.lst Bk)->Paired (BB H') Bk ((j4 a s x zs).map dv)->Q (.ref D) H')
theorem uS{TC f fw fi fo fl fb fm fn:Addr}(F:Bo K "moves_like" "Yard.moves_like" ub f fd)(T:dY mg)(Y:ig K ys)(W:Wy K TC fw dw J)(M:SK P w K mg base c TC J ys fi fo fl fb di Dz dl db)
  (mm:mg "is_move" = some (.ref fm)) (km:keepIn K (.ref fm)=true) (bm:Binds K dm ["move"] []) (Gm:AQ P w K mg base aD 2 fm dm ["move"] t8)
  (mn:mg "is_within" = some (.ref fn)) (kn:keepIn K (.ref fn)=true) (bn:Binds K dn ["value", "least", "most"] []) (Gn:AQ P w K mg base aD 2 fn dn ["value", "least", "most"] fK) :
  AQ P w K mg base aD 7 f fd ["self", "move"] (iJ K c TC J ys):=by
 refine F.ok Tc (λ_ _ _ _ h=>?_) (λ_ _ _ s H _ Q E hr h=>?_)
 ·obtain⟨a,s,p,x,zs,rfl,_⟩:=h
  rfl
 ·obtain⟨a,st,p,x,zs,rfl,hI,hp,Kz,q⟩:=h
  have B0:Bc 1 _:=hr.mono (by decide)
  have Cg:Bc 2 _:=hr.mono (by decide)
  have Dk:Bc 4 _:=hr.mono (by decide)
  refine⟨_,ae (aM (fN (PW.pt (eX (bW (bE (az Gm Cg rfl mm km bm .nil am (aa (pv 1) ac)))) (dH (ap fv (aC av rfl T.len PySem.boot_len (aa (pv 1) ac)) af (ax _)))))) (ag (aq (aP ac))) aB)
   (ae (aM (ap bq (ar aA (pv 1) af (λ_ _=>rfl)) aO (ax _))
    (ag (aq (cP (bE (az Gn Cg rfl mn kn bn .nil am (aa (ar aA (pv 1) af (λ_ _=>rfl)) (aa af (aa (aw cr (aC av rfl T.len PySem.boot_len (aa (al (pv 0) rfl) ac)) af) ac)))))
     (aE (pv 0) Y.cl M.mi M.Gi Dk M.bi .nil am (aa (ar aA (pv 1) af (λ_ _=>rfl)) ac)) (aP ac)))) aB)
   (ae (aM (bW (bE (az Gn Cg rfl mn kn bn .nil am (aa (ar aA (pv 1) af (λ_ _=>rfl)) (aa af (aa (aw cr (aC av rfl T.len PySem.boot_len (aa (al (pv 0) rfl) ac)) af) ac)))))) (ag (aq (aP ac))) aB)
   (ae (aM (ap bq (ar aA (pv 1) af (λ_ _=>rfl)) aO (ax _)) (ag (aq (aE (pv 0) Y.cl M.mo M.Go hr M.bo .nil am (aa (ar aA (pv 1) af (λ_ _=>rfl)) ac)))) aB)
   (ae (aM (ap bq (ar aA (pv 1) af (λ_ _=>rfl)) aO (ax _)) (ag (aq (aE (pv 0) Y.cl M.ml M.Gl Cg M.bl .nil am (aa (ar aA (pv 1) af (λ_ _=>rfl)) ac)))) aB)
   (ag (aq (cP (ap bq (ar aA (pv 1) af (λ_ _=>rfl)) aO (ax _)) (aE (pv 0) Y.cl M.mb M.Gb B0 M.bb .nil am (aa (ar aA (pv 1) af (λ_ _=>rfl)) ac)) (aP ac)))))))),?_⟩
  refine⟨λb H1=>b=zs.isEmpty/\AO H H1,?_,?_⟩
  ·refine⟨_,rfl,p,_,rfl,hp,by unfold tV;rw[length_cons,length_map];omega,wj x zs,λH1 s1=>⟨_,rfl,aG ?_⟩⟩
   refine⟨_,rfl,p,_,rfl, .inr (AZ.of (s1 _ _ hp)),_,_,rfl,rfl,_,rfl,?_,s1⟩
   unfold tV
   rw[length_cons,length_map]
   cases zs with
   | nil=>rfl
   | cons z zs=>exact decide_eq_false (by rw[length_cons];omega)
  rintro b H1 ⟨rfl,s1⟩
  have EV:=hI.same W s1
  have B6:=s1 _ _ hp
  have q1:∀(D:Addr)(Bk:List V)(H':Hp),AO H1 H'->H1 D=none->H' D=some (.lst Bk)->Paired (BB H') Bk ((j4 a st x zs).map dv)->Q (.ref D) H':=λD Bk H' s' hD g' Pl=>q D Bk H' (s1.trans s') (s1.free hD) g' Pl
  have nil:j4 a st x zs=[]->(0 <= sizeLine/\∀D:Addr,H1 D=none->Q (.ref D) (upd H1 D (.lst []))):=λe=>⟨zero_le _,λD hD=>q1 D [] _ ((AO.refl _).new hD) hD ad (by rw[e];exact .nil)⟩
  cases zs with
  | nil=>exact aH (nil rfl)
  | cons z zs =>
  refine aG ?_
  have hY:=EV.Y
  obtain⟨AY,BZ,ple⟩:=hY.hle
  have hle:AY.length=st.U.length:=Paired.length ple
  obtain⟨AX,BH,Fp⟩:=hY.BV
  have BV:AX.length=st.lanes.length:=Paired.length Fp
  clear s1 q hp hI
  have B6:H1 p=some (.tup (.str x :: .int z :: zs.map V.int)):=B6
  rw[show j4 a st x (z :: zs)=eA a st x z from rfl]at q1 nil
  unfold eA at q1 nil
  refine⟨_,rfl,p,_,0,_,rfl,rfl,AZ.of B6,ak (j:=0) rfl,rfl,_,rfl,?_⟩
  by_cases x1:x = "in"
  ·rw[if_pos x1]at q1 nil
   subst x1
   rw[jl]
   refine aH ⟨_,rfl,p,_,1,_,rfl,rfl,AZ.of B6,ak (j:=1) rfl,_,rfl,a.y,ys.AS,a.dy,_,_,rfl,hY.ins,Y.cl,Y.n4,rfl,a.le,_,rfl, .inl (AV.of BZ),_,_,rfl,rfl, .int z,0,((AY.length:Nat):Int) - 1,rfl, .int _,_,rfl,?_⟩
   rw[hle]
   by_cases hz:0 <= z/\z <= (st.U.length:Int) - 1
   ·rw[if_pos hz]at q1
    rw[show jN (.int z) 0 ((st.U.length:Int) - 1)=true from decide_eq_true hz]
    obtain⟨k,rfl⟩:=Int.eq_ofNat_of_zero_le hz.1
    rw[toNat_natCast]at q1
    exact aH ⟨_,rfl,a.y,a.dy,_,rfl,hY.ins,rfl,_,rfl,p,_,1,_,rfl,rfl,AZ.of B6,ak (j:=1) rfl,a,st,k,rfl,EV,by omega,q1⟩
   ·rw[show jN (.int z) 0 ((st.U.length:Int) - 1)=false from decide_eq_false hz]
    exact aG (nil (if_neg hz))
  rw[if_neg x1]at q1 nil
  rw[jR x1]
  refine aG ⟨_,rfl,p,_,1,_,rfl,rfl,AZ.of B6,ak (j:=1) rfl,_,rfl,a.y,ys.AS,a.dy,_,_,rfl,hY.ins,Y.cl,Y.n3,rfl,a.la,_,rfl, .inl (AV.of BH),_,_,rfl,rfl, .int z,0,((AX.length:Nat):Int) - 1,rfl, .int _,_,rfl,?_⟩
  rw[BV]
  by_cases hz:0 <= z/\z <= (st.lanes.length:Int) - 1
  ·rw[if_pos hz]at q1 nil
   rw[show jN (.int z) 0 ((st.lanes.length:Int) - 1)=true from decide_eq_true hz]
   obtain⟨k,rfl⟩:=Int.eq_ofNat_of_zero_le hz.1
   have hk:k < st.lanes.length:=by omega
   rw[toNat_natCast]at q1 nil
   refine aG ⟨_,rfl,p,_,0,_,rfl,rfl,AZ.of B6,ak (j:=0) rfl,rfl,_,rfl,?_⟩
   by_cases x2:x = "on"
   ·rw[if_pos x2]at q1
    subst x2
    rw[jl]
    exact aH ⟨_,rfl,a.y,a.dy,_,rfl,hY.ins,rfl,_,rfl,p,_,1,_,rfl,rfl,AZ.of B6,ak (j:=1) rfl,a,st,k,rfl,EV,hk,q1⟩
   rw[if_neg x2]at q1 nil
   rw[jR x2]
   refine aG ⟨_,rfl,p,_,0,_,rfl,rfl,AZ.of B6,ak (j:=0) rfl,rfl,_,rfl,?_⟩
   by_cases x3:x = "lie"
   ·rw[if_pos x3]at q1
    subst x3
    rw[jl]
    exact aH ⟨_,rfl,a.y,a.dy,_,rfl,hY.ins,rfl,_,rfl,p,_,1,_,rfl,rfl,AZ.of B6,ak (j:=1) rfl,a,st,k,rfl,EV,hk,q1⟩
   rw[if_neg x3]at q1 nil
   rw[jR x3]
   refine aG ⟨_,rfl,p,_,0,_,rfl,rfl,AZ.of B6,ak (j:=0) rfl,rfl,_,rfl,?_⟩
   by_cases x4:x = "back"
   ·rw[if_pos x4]at q1
    subst x4
    rw[jl]
    exact aH ⟨_,rfl,a.y,a.dy,_,rfl,hY.ins,rfl,_,rfl,p,_,1,_,rfl,rfl,AZ.of B6,ak (j:=1) rfl,a,st,k,rfl,EV,hk,q1⟩
   rw[jR x4]
   exact aG (nil (if_neg x4))
  ·rw[show jN (.int z) 0 ((st.lanes.length:Int) - 1)=false from decide_eq_false hz]
   exact aH (nil (if_neg hz))
theorem rJ(h:m ∈ j4 a s x zs):m ∈ bX a s:=by
 unfold bX
 cases zs with
 | nil=>cases h
 | cons z zs =>
  have h:m ∈ eA a s x z:=h
  unfold eA at h
  have rg:∀{n:Nat}{f:Nat->List Mv},0 <= z/\z <= (n:Int) - 1->m ∈ f z.toNat->m ∈ (List.range n).flatMap f:=λ{n f} hz hm=>mem_flatMap.mpr ⟨z.toNat,mem_range.mpr (by omega),hm⟩
  split at h
  ·split at h
   ·next hz=>exact mem_append_left _ (mem_append_left _ (mem_append_left _ (rg hz h)))
   ·cases h
  ·split at h
   ·next hz =>
    split at h
    ·exact mem_append_left _ (mem_append_left _ (mem_append_right _ (rg hz h)))
    ·split at h
     ·exact mem_append_left _ (mem_append_right _ (rg hz h))
     ·split at h
      ·exact mem_append_right _ (rg (f:=bL s) hz h)
      ·cases h
   ·cases h
theorem vk{TC:Addr}(vs:List V)(H:Hp)(Q:VK)(E:XK):tq K c TC J ys vs H Q E->iJ K c TC J ys vs H Q E:=by
 rintro⟨a,s,p,m,rfl,hI,hp,Bb,q⟩
 have rg:∀{k n:Nat},k < n->(0 <= (k:Int)/\(k:Int) <= (n:Int) - 1):=λh=>by omega
 cases m with
 | Cd k l=>exact⟨a,s,p, "in",[k,l],rfl,hI,hp,by show _ + 1 <= 9;simp,by show ∀D Bk H',_->_->_->Paired _ _ ((eA a s "in" k).map dv)->_;unfold eA;rw[if_pos rfl,if_pos (rg Bb)];exact q⟩
 | on k l=>exact⟨a,s,p, "on",[k,l],rfl,hI,hp,by show _ + 1 <= 9;simp,by show ∀D Bk H',_->_->_->Paired _ _ ((eA a s "on" k).map dv)->_;unfold eA;rw[if_neg (by decide +kernel),if_pos (rg Bb),if_pos rfl];exact q⟩
 | CU k=>exact⟨a,s,p, "lie",[k],rfl,hI,hp,by show _ + 1 <= 9;simp,by show ∀D Bk H',_->_->_->Paired _ _ ((eA a s "lie" k).map dv)->_;unfold eA;rw[if_neg (by decide +kernel),if_pos (rg Bb),if_neg (by decide +kernel),if_pos rfl];exact q⟩
 | back k=>exact⟨a,s,p, "back",[k],rfl,hI,hp,by show _ + 1 <= 9;simp,by show ∀D Bk H',_->_->_->Paired _ _ ((eA a s "back" k).map dv)->_;unfold eA;rw[if_neg (by decide +kernel),if_pos (rg Bb),if_neg (by decide +kernel),if_neg (by decide +kernel),if_pos rfl];exact q⟩
noncomputable def tD(x:Str)(zs:List Int):PyData := .tuple (.str x :: zs.map PyData.int)
theorem y4(h:H p=some (.tup (tV x zs))):Den K H (.ref p) (tD x zs):=by
 refine .tup (AZ.of h) (.cons (.str _) ?_)
 clear h
 induction zs with
 | nil=>exact .nil
 | cons z zs ih=>exact .cons (.int _) ih
theorem yy(zs:List Int)(h:PyData.strOk x=true):Cu (tD x zs) 1:=cG (m:=0) λy hy=>by
 rcases mem_cons.mp hy with rfl | hy
 ·exact fL h
 ·obtain⟨z,_,rfl⟩:=mem_map.mp hy
  exact bV _
noncomputable def Ql(a:YA)(s:YS)(x:Str)(zs:List Int):Bool:=((bX a s).map nP).any λy=>PyData.eqv y (tD x zs)
structure Exc(K:Frag)(mg:Str->Option Value)(yd nm:Addr):Prop where
 m:mg "NoMove" = some (.ref nm)
 mY:mg "YardError" = some (.ref yd)
 mV:mg "ValueError" = none
 x:iw K nm none=true
 k:keepIn K (.ref nm)=true
 c:ya K nm
 i:AH K nm
 e:PySem.W.exmOne K (.ref nm) (.ref nm)=some true
 y:kitOne K (.ref nm) (.ref yd)=some true
 v:kitOne K (.ref nm) (.type "ValueError")=some true
inductive tH(K:Frag)(c:Cs)(TC:Addr)(J:TJ)(ys:Ys)(nm:Addr)(vs:List V)(H:Hp)(Q:VK)(E:XK):Prop
 | mk (a:YA) (s:YS) (p:Addr) (x:Str) (zs:List Int) (_:vs=[.ref a.y, .ref p]) (_:DY K c TC J ys H a s) (_:H p=some (.tup (tV x zs))) (_:zs.length <= 9) (_:PyData.strOk x=true) (_:Ql a s x zs=false) (_:∀H':Hp,AO H H'->E (.ref nm) none H')
inductive oi(K:Frag)(c:Cs)(TC:Addr)(J:TJ)(ys:Ys)(vs:List V)(H:Hp)(Q:VK)(E:XK):Prop
 | mk (a:YA) (s:YS) (p:Addr) (x:Str) (zs:List Int) (_:vs=[.ref a.y, .ref p]) (_:DY K c TC J ys H a s) (_:H p=some (.tup (tV x zs))) (_:zs.length <= 9) (_:PyData.strOk x=true) (_:Ql a s x zs=false) (_:∀H':Hp,AO H H'->Q (.bl true) H')
abbrev NRu:List Str:=["_law_yard", "_law_move", "_law_good", "e"]
theorem Ac{TC f fk yd nm:Addr}(F:Bo K "do" "Yard.do" Pu f fd)(Y:ig K ys)(X:Exc K mg yd nm)(mk':bG K ys.AS "moves_like" fk)(bk:Binds K dk ["self", "move"] [])(Gk:AQ P w K mg base aD 7 fk dk ["self", "move"] (iJ K c TC J ys)) :
  AQ P w K mg base (yj P w) 8 f fd ["self", "move"] (tH K c TC J ys nm):=by
 refine F.okX Nz (λ_ _ _ _ h=>?_) (λ_ _ _ s H _ Q E hr h=>?_)
 ·obtain⟨a,s,p,x,zs,rfl,_⟩:=h
  rfl
 ·obtain⟨a,st,p,x,zs,rfl,hI,hp,Kz,hx,hn,q⟩:=h
  have hu:=hr.units
  refine⟨_,ae (aM (ap (ip hu) (pv 1) (aE (pv 0) Y.cl mk' Gk hr bk .nil am (aa (pv 1) ac)) (by with_unfolding_all rfl)) (ag (uy rfl X.x rm (ur X.x X.k rfl rfl X.m (aa aO ac)))) aB)
   (ae bA (ag bA)),?_⟩
  refine⟨_,rfl,_,rfl,a.y,a.dy,_,rfl,hI.Y.ins,rfl,_,rfl,a,st,p,x,zs,rfl,hI,hp,Kz,λDl Bk H1 s1 hDl Te hpr=>?_⟩
  refine⟨Dl,Bk,tD x zs,(j4 a st x zs).map nP,rfl,y4 (s1 _ _ hp),AV.of Te,du hpr,(yy zs hx).le (by decide),λz hz=>by obtain⟨m',_,rfl⟩:=mem_map.mp hz;exact(ik m').le (by decide),_,rfl,?_⟩
  have e:(((j4 a st x zs).map nP).any λy=>PyData.eqv y (tD x zs))=false:=by
   unfold Ql at hn
   rw[any_eq_false]at hn ⊢
   intro y hy
   obtain⟨m,hm,rfl⟩:=mem_map.mp hy
   exact hn _ (mem_map.mpr ⟨m,rJ hm,rfl⟩)
  rw[e]
  exact aH ⟨by show 1 <= sizeLine;decide,q _ s1⟩
theorem HD:ao NRu ["_law_yard", "_law_move"] (ai tS):=L2.Bt
theorem wY{TC f fo yd nm:Addr}(F:Bo K "_law_refused" "_law_refused" tS f fd)(T:dY mg)(Y:ig K ys)(X:Exc K mg yd nm)(Mo:bG K ys.AS "do" fo)(bo:Binds K DZ ["self", "move"] [])(Go:AQ P w K mg base (yj P w) 8 fo DZ ["self", "move"] (tH K c TC J ys nm)) :
  AQ P w K mg base aD 9 f fd ["_law_yard", "_law_move"] (oi K c TC J ys):=by
 refine F.ok HD (λ_ _ _ _ h=>?_) (λ_ _ _ s H _ Q E hr h=>?_)
 ·obtain⟨a,s,p,x,zs,rfl,_⟩:=h
  rfl
 ·obtain⟨a,st,p,x,zs,rfl,hI,hp,Kz,hx,hn,q⟩:=h
  refine⟨_,ae (ay (i:=2) HD.nd rfl (Or.inl rfl) eP)
   (ae (ux (i:=3) rfl rfl HD.nd rfl rfl rfl X.m (xW (u0 (pv 0) Y.cl Mo Go hr bo .nil rfl (aa (pv 1) ac)))
    (λea oe=>ag (ay (i:=2) HD.nd rfl (Or.inl rfl) (cE (aC nE rfl T.GR PyProof.Rows.boot_isinstance (aa (pv 3) (aa (dq (v := .ref yd) rfl X.mY rfl) ac)))
     (dz (aC nE rfl T.GR PyProof.Rows.boot_isinstance (aa (pv 3) (aa (dQ (v := .ty "ValueError") rfl X.mV (by decide +kernel) rfl) ac))))))))
   (ag (aq (pv 2)))),?_⟩
  refine⟨_,rfl,a.y,a.dy,_,rfl,hI.Y.ins,rfl,_,rfl,a,st,p,x,zs,rfl,hI,hp,Kz,hx,hn,λH' s'=>⟨X.e,λea oe vs hc hd hf hea=>?_⟩⟩
  have Ke:pI H' oe.dict:=by rw[hd];trivial
  refine⟨_,rfl,ea,oe,_, .ref yd,nm,vs,true,rfl,rfl, .head _,hc,hf,Ke,X.c,X.i,X.y,_,rfl,aH ?_⟩
  refine⟨_,rfl,ea,oe,_, .type "ValueError",nm,vs,true,rfl,rfl, .head _,hc,hf,Ke,X.c,X.i,X.v,?_⟩
  exact⟨_,rfl,q _ s'⟩
inductive Wr(H:Hp)(v:V):Prop
 | mk (p:Addr) (x:Str) (zs:List Int) (_:v = .ref p) (_:H p=some (.tup (tV x zs))) (_:zs.length <= 9) (_:PyData.strOk x=true)
theorem Wr.same(s:AO H H'):Wr H v->Wr H' v
 | ⟨p,x,zs,e,h,l,o⟩=>⟨p,x,zs,e,s _ _ h,l,o⟩
def y8(σ:St)(t:TE):Prop:=∀H Q,(∀z:Int,Q (.int z) H)->t σ H Q
def yc(σ:St)(n:Nat)(t:TA):Prop:=∀H Q,(∀zs:List Int,zs.length=n->Q (zs.map V.int) H)->t σ H Q
def XY(σ:St)(t:TE):Prop:=∀H Q,(∀v H',AO H H'->Wr H' v->Q v H')->t σ H Q
def vX(σ:St)(n:Nat)(t:TA):Prop:=∀H Q,(∀vs H',AO H H'->(∀v ∈ vs,Wr H' v)->vs.length=n->Q vs H')->t σ H Q
section
variable {σ:St}{t t1 t2:TE}{r:TA}{n:Nat}
theorem aU(h:σ[i]? = some (some (.int z))):y8 σ (jO i):=λH Q q=>⟨_,h,q z⟩
theorem zo :y8 σ (tC (.int z)):=λH Q q=>q z
theorem m8{g:Int->Int->Int}(a:y8 σ t1)(b:y8 σ t2):y8 σ (wk (qf λi j => .int (g i j)) t1 t2):=λH Q q=>a H _ λx=>b H _ λy=>⟨x,y,rfl,rfl,q _⟩
theorem jq :y8 σ (Wq (rU λi => .int (-i)) (tC (.int z))):=λH Q q=>⟨z,rfl,q _⟩
theorem bD:yc σ 0 wm:=λH Q q=>q [] rfl
theorem aL(a:y8 σ t)(b:yc σ n r):yc σ (n + 1) (lT t r):=λH Q q=>a H _ λz=>b H _ λzs e=>q (z :: zs) (by rw[length_cons,e])
theorem bC(h:PyData.strOk x=true)(b:yc σ n r)(hn:n <= 9):XY σ (Lf (lT (tC (.str x)) r)):=λH Q q=>b H _ λzs e=>⟨by rw[sizeLine_eq,length_cons,length_map];omega,λp hp=>q _ _ ((AO.refl H).new hp) ⟨p,x,zs,rfl,ad,by omega,h⟩⟩
theorem iW:vX σ 0 wm:=λH Q q=>q [] H (AO.refl H) (λv hv=>by cases hv) rfl
theorem aX(a:XY σ t)(b:vX σ n r):vX σ (n + 1) (lT t r):=λH Q q=>a H _ λv H1 s1 h1=>b H1 _ λvs H2 s2 h2 e=>q (v :: vs) H2 (s1.trans s2) (λu hu=>by
 rcases mem_cons.mp hu with rfl | hu
 ·exact h1.same s2
 ·exact h2 u hu) (by rw[length_cons,e])
theorem uk(b:vX σ n r)(hn:n <= 100)(H:Hp)(Q:VK)(q:∀(D:Addr) (vs:List V) (H':Hp),AO H H'->H' D=some (.lst vs)->(∀v ∈ vs,Wr H' v)->vs.length=n->Q (.ref D) H'):yM r σ H Q :=
 b H _ λvs H1 s1 h1 e=>⟨by rw[sizeLine_eq];omega,λD hD=>q D vs _ (s1.new hD) ad (λv hv=>(h1 v hv).same ((AO.refl H1).new hD)) e⟩
theorem lu(hi:σ[i]? = some (some (.ref D)))(b:vX σ n r)(hn:n <= 100)(H:Hp)(Q:VK)(g:H D=some (.lst v0))(w0:∀v ∈ v0,Wr H v)(h0:v0.length <= 100)(q:∀(D:Addr) (vs:List V) (H':Hp),AO H H'->H' D=some (.lst vs)->(∀v ∈ vs,Wr H' v)->vs.length=v0.length + n->Q (.ref D) H'):wk Lr (jO i) (yM r) σ H Q :=
 ⟨_,hi,uk b hn H _ λB u G s gB w l=>⟨D,B,v0,u,rfl,rfl,s _ _ g,gB,by rw[sizeLine_eq];omega,λD' n'=>q D' (v0 ++ u) _ (s.new n') ad (λv hv=>(mem_append.mp hv).elim (λhv=>(w0 v hv).same (s.new n')) λhv=>(w v hv).same ((AO.refl G).new n')) (by rw[length_append,l])⟩⟩
end
inductive pO(vs:List V)(H:Hp)(Q:VK)(E:XK):Prop
 | mk (d:Int) (n m:Nat) (_:vs=[.int d, .int n, .int m]) (_:0 < n) (_:∀(v:V)(H':Hp),AO H H'->Wr H' v->Q v H')
abbrev NWg:List Str:=["_law_draw", "_law_lanes_here", "_law_posted", "_law_one", "_law_other", "_law_some"]
theorem DV:ao NWg ["_law_draw", "_law_lanes_here", "_law_posted"] (ai oA):=L2.Bt
theorem uE(F:Bo K "_law_wrong" "_law_wrong" oA f fd):AQ P w K mg base aD 1 f fd ["_law_draw", "_law_lanes_here", "_law_posted"] pO:=by
 refine F.ok DV (λ_ _ _ _ h=>?_) (λ_ _ _ s H _ Q E hr h=>?_)
 ·obtain⟨d,n,m,rfl,_⟩:=h
  rfl
 ·obtain⟨d,n,m,rfl,hn,q⟩:=h
  refine⟨_,ae (ay (i:=3) DV.nd rfl (Or.inl rfl) (aw bz (aw cf (pv 0) af) (pv 1)))
   (ae (ay (i:=4) DV.nd rfl (Or.inl rfl) (aw bz (aw cf (pv 0) af) (pv 1)))
   (ae (ay (i:=5) DV.nd rfl (Or.inl rfl) (aP (aa (aK (aa aO (aa (aw bz (aw cf (pv 0) af) (aw bv (pv 2) af)) (aa (pv 4) ac)))) (aa (aK (aa aO (aa (pv 3) (aa (pv 4) ac)))) (aa (aK (aa aO (aa (pv 3) ac))) (aa (aK (aa aO (aa (pv 3) ac))) ac))))))
   (ae (ay (i:=5) DV.nd rfl (Or.inl rfl) (aw fz (pv 5) (aP (aa (aK (aa aO (aa (pv 3) ac))) (aa (aK (aa aO (aa (pv 3) ac))) (aa (aK (aa aO (aa (pv 3) ac))) (aa (aK (aa aO (aa (pv 3) ac))) (aa (aK (aa aO (aa (pv 3) (aa af ac)))) (aa (aK (aa aO (aa (pv 3) (aa (pv 4) ac)))) ac)))))))))
   (ae (ay (i:=5) DV.nd rfl (Or.inl rfl) (aw fz (pv 5) (aP (aa (aK (aa aO (aa (aw cr (mE jb af) (pv 3)) ac))) (aa (aK (aa aO (aa (aw cr (mE jb af) (pv 3)) ac))) (aa (aK (aa aO (aa (mE jb af) (aa (pv 3) ac)))) (aa (aK (aa aO (aa (pv 3) (aa (mE jb af) ac)))) (aa (aK (aa aO (aa (aw cr (mE jb af) (pv 3)) (aa (pv 4) ac)))) ac))))))))
   (ae (ay (i:=5) DV.nd rfl (Or.inl rfl) (aw fz (pv 5) (aP (aa (aK (aa aO (aa (aw bv (pv 1) (pv 3)) ac))) (aa (aK (aa aO (aa (pv 1) ac))) (aa (aK (aa aO (aa (pv 2) (aa (pv 4) ac)))) (aa (aK (aa aO (aa (pv 3) (aa (pv 1) ac)))) (aa (aK (aa aO (aa (pv 3) ac))) ac))))))))
   (ae (ay (i:=5) DV.nd rfl (Or.inl rfl) (aw fz (pv 5) (aP (aa (aK (aa aO (aa af (aa (pv 3) (aa (pv 4) ac))))) (aa (aK (aa aO ac)) (aa (aK (aa aO (aa (pv 3) (aa (pv 4) (aa (pv 3) ac))))) (aa (aK (aa aO (aa af (aa (aw bv (pv 1) (pv 4)) ac)))) ac)))))))
   (ag (aq (ar aF (pv 5) (aw bz (pv 0) af) (λ_ _=>rfl)))))))))),?_⟩
  have hz:((n:Int)) > 0:=by omega
  refine⟨_,rfl,_,_,rfl,rfl,⟨by decide,by decide⟩,_,rfl,_,_,rfl,rfl,hz,?_⟩
  refine⟨_,rfl,_,_,rfl,rfl,⟨by decide,by decide⟩,_,rfl,_,_,rfl,rfl,hz,?_⟩
  have hdiv:∀σ:St,σ[0]? = some (some (.int d))->σ[2]? = some (some (.int m))->y8 σ (wk (rI (λ_ j=>0 < j) λi j => .int (i % j)) (wk (rI KW λi j => .int (i / j)) (jO 0) (tC (.int 32))) (wk (qf λi j => .int (i + j)) (jO 2) (tC (.int 1)))):=λσ h0 h2 H Q q=>⟨_,h0,_,_,rfl,rfl,⟨by decide,by decide⟩,_,h2,_,_,rfl,rfl,_,_,rfl,rfl,by omega,q _⟩
  dsimp only [dB,KL,wo]
  refine uk (n:=4) ?_ (by decide) _ _ λD0 v0 I0 e0 g0 w0 l0=>?_
  ·exact(aX (bC (by decide +kernel) (aL (hdiv _ rfl rfl) (aL (aU rfl) bD)) (by decide)) (aX (bC (by decide +kernel) (aL (aU rfl) (aL (aU rfl) bD)) (by decide)) (aX (bC (by decide +kernel) (aL (aU rfl) bD) (by decide)) (aX (bC (by decide +kernel) (aL (aU rfl) bD) (by decide)) iW))))
  refine lu (n:=6) rfl ?_ (by decide) _ _ g0 w0 (by omega) λD1 v1 I1 e1 g1 w1 l1=>?_
  ·exact(aX (bC (by decide +kernel) (aL (aU rfl) bD) (by decide)) (aX (bC (by decide +kernel) (aL (aU rfl) bD) (by decide)) (aX (bC (by decide +kernel) (aL (aU rfl) bD) (by decide)) (aX (bC (by decide +kernel) (aL (aU rfl) bD) (by decide)) (aX (bC (by decide +kernel) (aL (aU rfl) (aL zo bD)) (by decide)) (aX (bC (by decide +kernel) (aL (aU rfl) (aL (aU rfl) bD)) (by decide)) iW))))))
  refine lu (n:=5) rfl ?_ (by decide) _ _ g1 w1 (by omega) λD2 v2 I2 e2 g2 w2 l2=>?_
  ·exact(aX (bC (by decide +kernel) (aL (m8 jq (aU rfl)) bD) (by decide)) (aX (bC (by decide +kernel) (aL (m8 jq (aU rfl)) bD) (by decide)) (aX (bC (by decide +kernel) (aL jq (aL (aU rfl) bD)) (by decide)) (aX (bC (by decide +kernel) (aL (aU rfl) (aL jq bD)) (by decide)) (aX (bC (by decide +kernel) (aL (m8 jq (aU rfl)) (aL (aU rfl) bD)) (by decide)) iW)))))
  refine lu (n:=5) rfl ?_ (by decide) _ _ g2 w2 (by omega) λD3 v3 I3 e3 g3 w3 l3=>?_
  ·exact(aX (bC (by decide +kernel) (aL (m8 (aU rfl) (aU rfl)) bD) (by decide)) (aX (bC (by decide +kernel) (aL (aU rfl) bD) (by decide)) (aX (bC (by decide +kernel) (aL (aU rfl) (aL (aU rfl) bD)) (by decide)) (aX (bC (by decide +kernel) (aL (aU rfl) (aL (aU rfl) bD)) (by decide)) (aX (bC (by decide +kernel) (aL (aU rfl) bD) (by decide)) iW)))))
  refine lu (n:=4) rfl ?_ (by decide) _ _ g3 w3 (by omega) λD4 v4 I4 e4 g4 w4 l4=>?_
  ·exact(aX (bC (by decide +kernel) (aL zo (aL (aU rfl) (aL (aU rfl) bD))) (by decide)) (aX (bC (by decide +kernel) bD (by decide)) (aX (bC (by decide +kernel) (aL (aU rfl) (aL (aU rfl) (aL (aU rfl) bD))) (by decide)) (aX (bC (by decide +kernel) (aL zo (aL (m8 (aU rfl) (aU rfl)) bD)) (by decide)) iW))))
  obtain⟨j,hj,O2⟩:∃j:Nat,d % 24=(j:Int)/\j < v4.length:=⟨(d % 24).toNat,by omega,by omega⟩
  refine⟨_,rfl,_,rfl,_,_,rfl,rfl,(by show (0:Int) < 24;decide),D4,v4,_,_,rfl,rfl,AV.of g4,?_,q _ _ (e0.trans (e1.trans (e2.trans (e3.trans e4)))) (w4 _ (getElem_mem O2))⟩
  rw[hj]
  exact ak (getElem?_eq_getElem O2)
end K47
namespace L2
open PySem PySem.Spec
theorem AQ.ex{ι:Type}{sp:ι->Sp}(h:∀i,AQ P w K mg base CX k f fd ps (sp i)):AQ P w K mg base CX k f fd ps (λvs H Q E=>∃i,sp i vs H Q E) :=
 ⟨λvs H Q E AU=>by obtain⟨i,q⟩:=AU;exact(h i).len vs H Q E q,λA outer s H args us vs Q E hr he hb hv AU=>by obtain⟨i,hs⟩:=AU;exact(h i).run A outer s H args us vs Q E hr he hb hv hs⟩
end L2
namespace K47
open PySem L2
variable {P:Program}{w:World}{K:Frag}{mg:Str->Option Value}{base:Heap}
theorem tK{α:Type}{l:List α}{v:α}(h:l[k]? = some v):l.set k v=l:=by
 obtain⟨hk,rfl⟩:=List.getElem?_eq_some_iff.mp h
 exact List.set_getElem_self hk
theorem CN.set(h:Paired (CN H) AX ts)(ht:ts[k]? = some t)(e:t'.start=t.start/\t'.goal=t.goal/\t'.len=t.len/\t'.word=t.word):Paired (CN H) AX (ts.set k t'):=by
 obtain⟨v,hv,x,rfl,g⟩:=Paired.at2 h ht
 have e':=Paired.set (R:=CN H) (v := .ref x) (r:=t') ⟨x,rfl,by rw[e.1,e.2.1,e.2.2.1,e.2.2.2];exact g⟩ k h
 rwa [tK hv]at e'
theorem CN.step(h:Paired (CN H) AX s.U)(st:D7 a s m s'):Paired (CN H) AX s'.U:=by
 cases st with
 | @Cd k l t ln ht hg hl Bs ho =>
  have h1:=CN.set (t':={ t with gone:=t.gone + 1 }) h ht ⟨rfl,rfl,rfl,rfl⟩
  show Paired _ _ (if t.gone=0 then _ else _)
  split
  ·exact CN.set h1 (List.getElem?_set_self (gQ0 ht)) ⟨rfl,rfl,rfl,rfl⟩
  ·exact h1
 | @on k l m c lk ln t hk hq ht hl Bs ho =>
  show Paired _ _ (if c=0 then _ else _)
  split
  ·exact CN.set h ht ⟨rfl,rfl,rfl,rfl⟩
  ·exact h
 | CU hk hq ht hg he BQ=>exact h
 | back hk hb=>exact h
theorem pick(p:Paired (BB H) Bk ((bX a s).map dv))(h:0 < Bk.length)(d:Int):∃(k:Nat)(m:Mv)(tm:Addr),d % (Bk.length:Int)=(k:Int)/\Bk[k]? = some (.ref tm)/\H tm=some (.tup (dv m))/\m ∈ bX a s:=by
 have IC:Bk.length=(bX a s).length:=by rw[Paired.length p,length_map]
 have h1:=emod_nonneg d (show((Bk.length:Nat):Int) ≠ 0 by omega)
 have h2:=emod_lt_of_pos d (show (0:Int) < (Bk.length:Int) by omega)
 have Eo:(d % (Bk.length:Int)).toNat < (bX a s).length:=by omega
 obtain⟨v,hv,tm,rfl,g⟩:=Paired.at2 p (show((bX a s).map dv)[(d % (Bk.length:Int)).toNat]? = some (dv (bX a s)[(d % (Bk.length:Int)).toNat]) by rw[getElem?_map,getElem?_eq_getElem Eo];rfl)
 exact⟨_,_,tm,by omega,hv,g,getElem_mem Eo⟩
structure Ki(K:Frag)(c:Cs)(C:Addr)(J:TJ)(ys:Ys)(H:Hp)(a:YA)(s:YS)(le:Addr)(AX:List V)(n:Nat):Prop where
 I:DY K c C J (yx ys [le]) H a s
 gl:H le=some (.lst AX)
 pl:Paired (CN H) AX s.U
 jn:Ce a s
 cn:Cn s
 rn:Rn s
 pn:Pn s
 sc:∀d ∈ s.done,∀x ∈ d,y6 x
 dn:s.done.length <= n
 nf:le ∉ a.four
inductive oh(K:Frag)(c:Cs)(C:Addr)(J:TJ)(ys:Ys)(vs:List V)(H:Hp)(Q:VK)(E:XK):Prop
 | mk (a:YA) (s:YS) (le:Addr) (AX:List V) (n:Nat) (d:Int) (_:vs=[.ref a.tb, .ref a.y, .ref le, .int d]) (_:Ki K c C J ys H a s le AX n) (_:n <= 900) (_:0 < s.lanes.length) (_:∀(H':Hp)(s':YS),Be a.four H H'->Ki K c C J ys H' a s' le AX (n + 1)->Q (.bl true) H')
abbrev NSt:List Str:=["_law_table_here", "_law_yard", "_law_letters", "_law_draw", "_law_lanes_here", "_law_stand_here", "_law_moves_here", "_law_wrong_here"]
structure U7(P:Program)(w:World)(K:Frag)(mg:Str->Option Value)(base:Heap)(c:Cs)(C:Addr)(J:TJ)(ys:Ys)(fs fm fl fg fr fo:Addr)(ds dm dl dg dr DZ:FuncData):Prop where
 ms:mg "_law_stand" = some (.ref fs)
 ks:keepIn K (.ref fs)=true
 bs:Binds K ds ["_law_yard", "_law_lanes_here", "_law_places"] []
 Gs:∀e,AQ P w K mg base aD 3 fs ds ["_law_yard", "_law_lanes_here", "_law_places"] (iH K (yx ys e))
 mm:bG K ys.AS "moves" fm
 bm:Binds K dm ["self"] []
 Gm:∀e,AQ P w K mg base aD 7 fm dm ["self"] (iI K c C J (yx ys e))
 ml:mg "_law_moves" = some (.ref fl)
 kl:keepIn K (.ref fl)=true
 bl:Binds K dl ["_law_table_here", "_law_letters", "_law_stand_here"] []
 Gl:AQ P w K mg base aD 5 fl dl ["_law_table_here", "_law_letters", "_law_stand_here"] (ji c C J)
 mw:mg "_law_wrong" = some (.ref fg)
 kw:keepIn K (.ref fg)=true
 bw:Binds K dg ["_law_draw", "_law_lanes_here", "_law_posted"] []
 Gw:AQ P w K mg base aD 1 fg dg ["_law_draw", "_law_lanes_here", "_law_posted"] pO
 mr:mg "_law_refused" = some (.ref fr)
 kr:keepIn K (.ref fr)=true
 br:Binds K dr ["_law_yard", "_law_move"] []
 Gr:∀e,AQ P w K mg base aD 9 fr dr ["_law_yard", "_law_move"] (oi K c C J (yx ys e))
 mo:bG K ys.AS "do" fo
 bo:Binds K DZ ["self", "move"] []
 Go:∀e,AQ P w K mg base aD 8 fo DZ ["self", "move"] (yR K c C J (yx ys e))
theorem FO:ao NSt ["_law_table_here", "_law_yard", "_law_letters", "_law_draw"] (ai tR):=L2.Bt
theorem wU(F:Bo K "_law_step" "_law_step" tR f fd)(T:dY mg)(Y:ig K ys)(L:jK K c)(W:Wy K C fw dw J)(kl:kitOne K (.type "list") (.type "list")=some true)(S:U7 P w K mg base c C J ys fs fm fl fg fr fo ds dm dl dg dr DZ) :
  AQ P w K mg base aD 10 f fd ["_law_table_here", "_law_yard", "_law_letters", "_law_draw"] (oh K c C J ys):=by
 refine F.ok FO (λvs H Q E h=>?_) (λcdv A outer s0 H vs Q E hr h=>?_)
 ·obtain⟨a,s,le,AX,n,d,rfl,_⟩:=h
  rfl
 ·obtain⟨a,s,le,AX,n,d,rfl,hK,hn9,BV,q⟩:=h
  have GO:=AQ.ex S.Go
  have hu:=hr.units
  have B0:Bc 1 _:=hr.mono (by decide)
  have XZ:Bc 3 _:=hr.mono (by decide)
  have IE:Bc 5 _:=hr.mono (by decide)
  have K0:Bc 7 _:=hr.mono (by decide)
  have hr8:Bc 8 _:=hr.mono (by decide)
  refine⟨_,ae (ay (i:=4) FO.nd rfl (Or.inl rfl) (aC av rfl T.len PySem.boot_len (aa (al (al (pv 0) rfl) rfl) ac)))
   (ae (ay (i:=5) FO.nd rfl (Or.inl rfl) (az (S.Gs [le]) XZ rfl S.ms S.ks S.bs .nil am (aa (pv 1) (aa (pv 4) (aa (al (al (pv 0) rfl) rfl) ac)))))
   (ae (ay (i:=6) FO.nd rfl (Or.inl rfl) (bM (pv 1) Y.cl S.mm (S.Gm [le]) K0 S.bm .nil am))
   (ae (aM (PW.pt (eX (bW (bE (aC fH rfl T.GR PyProof.Rows.boot_isinstance (aa (pv 6) (aa (dQ (v := .ty "list") rfl T.list PySem.Pv.boot_list rfl) ac))))) (dH (ap (gi hu) (pv 6) (az S.Gl IE rfl S.ml S.kl S.bl .nil am (aa (pv 0) (aa (pv 2) (aa (pv 5) ac)))) (ax _))))) (ag (aq eP)) aB)
   (ae (ay (i:=7) FO.nd rfl (Or.inl rfl) (az S.Gw B0 rfl S.mw S.kw S.bw .nil am (aa (aw cf (pv 3) af) (aa (pv 4) (aa (aC av rfl T.len PySem.boot_len (aa (pv 2) ac)) ac)))))
   (ae (aM (fN (PW.pt (im (ap (ip hu) (pv 7) (pv 6) (by with_unfolding_all rfl)) (gM (bW (bE (az (S.Gr [le]) hr rfl S.mr S.kr S.br .nil am (aa (pv 1) (aa (pv 7) ac))))))))) (ag (aq eP)) aB)
   (ae (aM (PW.pt (eX (ap (gi hu) (bM (pv 1) Y.cl S.mm (S.Gm [le]) K0 S.bm .nil am) (pv 6) (ax _)) (dH (ap (gi hu) (az (S.Gs [le]) XZ rfl S.ms S.ks S.bs .nil am (aa (pv 1) (aa (pv 4) (aa (al (al (pv 0) rfl) rfl) ac)))) (pv 5) (ax _))))) (ag (aq eP)) aB)
   (ae (dO (aM (ap (gi hu) (pv 6) (aP ac) (ax _)) (ag (aS (aE (pv 1) Y.cl S.mo GO hr8 S.bo .nil am (aa (ar aF (pv 6) (aw bz (pv 3) (aC av rfl T.len PySem.boot_len (aa (pv 6) ac))) (λ_ _=>rfl)) ac)))) aB))
   (ae (aS (ce plainAttrs_list PySem.F.slot_list_append PySem.F.type_list_append bj (pv 6) (aa (aK (aa aO (aa af ac))) ac)))
   (ag (aq eP)))))))))),?_⟩
  obtain⟨Cc,fst,BY,Br,BA⟩:=hK.I.T.i
  have hY:=hK.I.Y
  have DN:AX.length=s.U.length:=Paired.length hK.pl
  have Ep:=hK.jn.lanes
  have htv:a.AY.length=s.lanes.length:=by rw[Paired.length hK.I.T.l.2.2,Ep]
  have h12:=hK.I.T.P0
  have h40:=hK.I.T.B9
  have h60:=hK.jn.B9
  have Ya:∀{H1:Hp},AO H H1->∀Q1:VK,(∀(t:Addr)(H':Hp),AO H1 H'->Sd H' t s->Q1 (.ref t) H')->iH K (yx ys [le]) [.ref a.y, .int (a.AY.length:Nat), .int (a.n:Nat)] H1 Q1 (λ_ _ _=>False):=λs1 Q1 q1=>⟨a,s,by rw[htv,hK.jn.lies],Ba.same hY s1,by omega,by rw[hK.jn.lies];omega,by omega,q1⟩
  refine⟨_,rfl,a.tb,C,Cc,fst,_,rfl,BY,W.cl,W.nl,Br,a.lx,c.land,a.Bh,_,_,rfl,hK.I.T.l.1,L.cl,L.nl,rfl,a.lt,_,rfl, .inr (AZ.of hK.I.T.l.2.1),?_⟩
  refine⟨_,rfl,_,rfl,_,rfl,a.tb,C,Cc,fst,_,rfl,BY,W.cl,W.nl,Br,a.lx,c.land,a.Bh,_,_,rfl,hK.I.T.l.1,L.cl,L.np,rfl,Ya (AO.refl H) _ λt H1 s1 Yb=>?_⟩
  have I1:=hK.I.same W s1
  refine⟨_,rfl,a.y,a.dy,_,rfl,I1.Y.ins,rfl,a,s,rfl,I1,λD Bk H2 s2 nD gD pD=>?_⟩
  have G0:=s1.trans s2
  have Qm:=s1.free nD
  have hKn:Kn c C J H2 a s le t AX:=⟨BK.keep W hK.I.T (AO.Bl G0),hK.I.O,G0 _ _ hK.gl,Paired.mono (CN.same G0) hK.pl,Yb.same s2,hK.jn,hK.cn,hK.rn⟩
  refine⟨_,rfl, .ref D,_, "list",true,rfl, .lst gD,kl,_,rfl,aG ?_⟩
  refine⟨_,rfl,_,rfl,_,rfl,_,rfl,a,s,le,t,AX,rfl,hKn,hK.pn,by have:=hK.dn;omega,λD3 mvs3 H3 s3 nD3 Gv pD3=>?_⟩
  refine RQ (.lst (AV.of (s3 _ _ gD)) (du (Paired.mono (bR s3) pD))) (.lst (AV.of Gv) (du pD3)) (iL _) ⟨_,rfl,aG ?_⟩
  refine⟨_,rfl,_,_,rfl,rfl,⟨by decide,by decide⟩,_,rfl,_,rfl,le,_,rfl, .inl (AV.of ((G0.trans s3) _ _ hK.gl)),_,a.AY.length,AX.length,rfl,by omega,λv H4 s4 hW=>?_⟩
  obtain⟨p,x,zs,rfl,gp,Kz,hx⟩:=hW
  have JA:=s3.trans s4
  have Df:=G0.trans JA
  have gD4:=JA _ _ gD
  have pD4:=Paired.mono (bR JA) pD
  have I4:=hK.I.same W Df
  refine⟨λb H5=>b=false/\AO H4 H5,?_,?_⟩
  ·refine⟨_,rfl,_,rfl,D,Bk,tD x zs,_,rfl,y4 gp,AV.of gD4,du pD4,(yy zs hx).le (by decide),λz hz=>by obtain⟨m',_,rfl⟩:=mem_map.mp hz;exact(ik m').le (by decide),_,rfl,?_⟩
   cases hM:Ql a s x zs with
   | true =>
    rw[show(((bX a s).map nP).any λy=>PyData.eqv y (tD x zs))=true from hM]
    exact aG ⟨rfl,AO.refl _⟩
   | false =>
    rw[show(((bX a s).map nP).any λy=>PyData.eqv y (tD x zs))=false from hM]
    exact aH ⟨_,rfl,_,rfl,a,s,p,x,zs,rfl,I4,gp,Kz,hx,hM,λH5 s5=>⟨_,rfl,rfl,s5⟩⟩
  rintro b H5 ⟨rfl,s5⟩
  have s05:=Df.trans s5
  have I5:=hK.I.same W s05
  refine aG ⟨_,rfl,a.y,a.dy,_,rfl,I5.Y.ins,rfl,a,s,rfl,I5,λD6 mvs6 H6 s6 nD6 gD6 pD6=>?_⟩
  have II:=JA.trans (s5.trans s6)
  have U8:=G0.trans II
  refine⟨_,rfl,?_⟩
  refine RQ (.lst (AV.of gD6) (du pD6)) (.lst (AV.of (II _ _ gD)) (du (Paired.mono (bR II) pD))) (iL _) ⟨_,rfl,aG ?_⟩
  refine⟨_,rfl,_,rfl,_,rfl,a.tb,C,Cc,fst,_,rfl,U8 _ _ BY,W.cl,W.nl,Br,a.lx,c.land,a.Bh,_,_,rfl,U8 _ _ hK.I.T.l.1,L.cl,L.np,rfl,Ya U8 _ λt7 H7 s7 U9=>⟨_,rfl,?_⟩⟩
  have Qn:=II.trans s7
  have Qo:=G0.trans Qn
  refine RQ (vK hK.sc U9) (vK hK.sc (Yb.same (s2.trans Qn))) (yS hK.sc) ⟨_,rfl,aG ?_⟩
  have Qp:=Qn _ _ gD
  have pD7:=Paired.mono (bR Qn) pD
  have UA:B8 K (yx ys [D,le]) H7 a s:=B8.Th hY Qo λb hb=>by
   rcases mem_cons.mp hb with rfl | hb
   ·exact .inr ⟨Qm,_,Qp⟩
   ·exact .inl hb
  have Tx:yb c C J H7 a:=BK.keep W hK.I.T (AO.Bl Qo)
  have Yc:D ∉ a.four:=mK hY Qm
  refine⟨λσ H8=>σ=[some (.ref a.tb),some (.ref a.y),some (.ref le),some (.int d),some (.int (a.AY.length:Nat)),some (.ref t),some (.ref D),some (.ref p)]/\∃s',Be a.four H7 H8/\B8 K (yx ys [D,le]) H8 a s'/\(s' = s∨∃m s1,D7 a s m s1/\s' = { s1 with done:=s.done ++ [dv m] }),?_,?_⟩
  ·refine⟨_,rfl,zero_le _,λo ho=>?_⟩
   have s8:=(AO.refl H7).new (o := .lst []) ho
   have UB:=Paired.mono (bR s8) pD7
   refine neN (f:=nP) (l:=bX a s) (.lst (AV.of (s8 _ _ Qp)) (du UB)) (.lst (AV.of ad) .nil) (iL _) ⟨_,rfl,?_⟩
   generalize upd H7 o (.lst [])=H8 at s8 UB ⊢
   have O3:=s8 _ _ Qp
   cases hms:bX a s with
   | nil=>exact aG ⟨rfl,s,AO.By s8,Ba.same UA s8, .inl rfl⟩
   | cons m0 ms =>
    have IC:0 < Bk.length:=by rw[Paired.length pD,hms];exact Nat.succ_pos _
    obtain⟨k,m,tm,hk,hv,gtm,hm⟩:=pick UB IC d
    have I8:DY K c C J (yx ys [D,le]) H8 a s:=DY.same W ⟨UA,Tx,hK.I.O,hK.jn.ok⟩ s8
    refine aH ⟨_,rfl,a.y,a.dy,_,rfl,I8.Y.ins,rfl,_,rfl,_,rfl,_,rfl,D,_,rfl, .inl (AV.of O3),_,_,rfl,rfl,by omega,D,Bk,_,_,rfl,rfl,AV.of O3,by rw[hk];exact ak hv,[D,le],a,s,tm,m,rfl,I8,gtm,hm,hK.jn.PQ (by have:=hK.dn;omega),λH9 s' st o9 JC=>⟨rfl,_,(AO.By s8).trans o9,JC, .inr ⟨m,s',st,rfl⟩⟩⟩
  rintro σ H8 ⟨rfl,s',o8,hY8,HU⟩
  have O3:=o8 _ _ Yc Qp
  have hm9:Bk.length <= 200000:=by
   have b0:=aT (cW hK.I.O hK.jn.ok) s.U.length
   have b1:=aT (cT (s:=s) hK.I.O) s.lanes.length
   have b2:=aT (cI a s) s.lanes.length
   have b3:=aT (eL s) s.lanes.length
   rw[Paired.length pD,length_map]
   unfold bX
   rw[length_append,length_append,length_append]
   omega
  refine⟨_,rfl, .inl ⟨rfl,_,AV.of O3⟩,by show 2 <= sizeLine;decide,λu UC=>?_⟩
  have s9:=(AO.refl H8).new (o := .tup [.str "back", .int 0]) UC
  refine(λ(key:∀H9,AO H8 H9->qg (V.ref D) [V.ref u] H9 λ_ H'=>Q (.bl true) H')=>key _ s9) λH9 s9=>?_
  have Ye:=s9 _ _ O3
  refine⟨D,Bk,_,rfl,rfl,Ye,by rw[sizeLine_eq];omega,?_⟩
  have Hk:le ≠ D:=aj hK.gl Qm
  have oD:Be [D] H9 (upd H9 D (.lst (Bk ++ [.ref u]))):=cz (by simp)
  have gX:(upd H9 D (.lst (Bk ++ [.ref u]))) D=some (.lst (Bk ++ [.ref u])):=ad
  have kD:Bq H9 (upd H9 D (.lst (Bk ++ [.ref u]))):=fE Ye
  generalize upd H9 D (.lst (Bk ++ [.ref u]))=HX at oD gX kD ⊢
  have o0:Be a.four H HX:=λb o nb e=>oD _ _ (λz=>aj e Qm (mem_singleton.mp z)) (s9 _ _ (o8 _ _ nb (Qo _ _ e)))
  have kp:Bq H HX:=Bq.trans (AO.Bl Qo) (Bq.trans (Be.Bl UA.ES o8) (Bq.trans (AO.Bl s9) kD))
  have Yf:B8 K (yx ys [le]) HX a s':=B8.Th (B8.N7 (Ba.same hY8 s9) oD (λb hb=>by rw[mem_singleton.mp hb];exact mem_cons_self) (λb hb z=>Yc (by rw[←mem_singleton.mp z];exact hb)) (λb hb=>by rw[mem_singleton.mp hb];exact⟨_,gX⟩)) (AO.refl _) λb hb => .inl (mem_cons_of_mem _ hb)
  have pX:Paired (CN HX) AX s.U:=Paired.mono (λv t z=>by obtain⟨x,e,h⟩:=z;exact⟨x,e,kp _ _ h True.intro⟩) hK.pl
  have TX:yb c C J HX a:=BK.keep W hK.I.T kp
  have gX:HX le=some (.lst AX):=o0 _ _ hK.nf hK.gl
  have C5:=hK.dn
  rcases HU with rfl | ⟨m,s1,st,rfl⟩
  ·exact q _ _ o0 ⟨⟨Yf,TX,hK.I.O,hK.I.G⟩,gX,pX,hK.jn,hK.cn,hK.rn,hK.pn,hK.sc,by omega,hK.nf⟩
  ·have J1:=(hK.jn.step st).done (s.done ++ [dv m])
   refine q _ _ o0 ⟨⟨Yf,TX,hK.I.O,J1.ok⟩,gX,(show Paired (CN HX) AX s1.U from CN.step pX st),J1,(show Cn s1 from hK.cn.step st),(show Rn s1 from hK.rn.step st),(show Pn s1 from Pn.step hK.jn hK.pn st),λd hd=>?_,?_,hK.nf⟩
   ·rcases mem_append.mp hd with hd | hd
    ·exact hK.sc d hd
    ·rw[mem_singleton.mp hd];exact N6 m
   ·show(s.done ++ [dv m]).length <= _
    rw[length_append]
    show s.done.length + 1 <= _
    omega
def pY(K:Frag):Sp:=λvs H Q _=>∃(a:Addr)(ns:List Int),vs=[.ref a]/\AV K H a (ns.map V.int)/\ns.length <= 63/\∀H',Q (.bl true) H'
abbrev NLw:List Str:=["_law_script", "_law_table_here", "_law_most", "_law_begins_here", "_law_lanes_here", "_law_yard", "_law_letters", "_law_k", "_law_draw", "_law_start", "_law_goal"]
structure Fns(P:Program)(w:World)(K:Frag)(mg:Str->Option Value)(base:Heap)(c:Cs)(ts:Ts)(tn:lM)(tr:lL)(ys:Ys)(fW:Option Bool->Addr)(dW:Option Bool->FuncData)(fc fx ft fr fb O4 fy fm fp fs:Addr)(dc dx dt dr db Qq dy dm dp ds:FuncData):Prop where
 W:∀i,Wy K (T3 ts tn tr i) (fW i) (dW i) (J3 P w c ts tn tr i)
 mc:mg "_law_cell_at" = some (.ref fc)
 kc:keepIn K (.ref fc)=true
 bc:Binds K dc ["_law_script", "_law_k"] []
 Gc:AQ P w K mg base aD 1 fc dc ["_law_script", "_law_k"] (oy K)
 mx:mg "_law_mixed" = some (.ref fx)
 kx:keepIn K (.ref fx)=true
 bx:Binds K dx ["_law_cell", "_law_k"] []
 Gx:AQ P w K mg base aD 1 fx dx ["_law_cell", "_law_k"] lW
 mt:mg "_law_table" = some (.ref ft)
 kt:keepIn K (.ref ft)=true
 bt:Binds K dt ["_law_script"] []
 Gt:AQ P w K mg base aD 7 ft dt ["_law_script"] (ou P w K c ts tn)
 mr:mg "RowFirst" = some (.ref tr.rf)
 Mr:Mk K tr.rf fr
 br:Binds K dr ["self", "wide", "high"] []
 Gr:AQ P w K mg base aD 6 fr dr ["self", "wide", "high"] (yQ c tr)
 mb:mg "_law_begins" = some (.ref fb)
 kb:keepIn K (.ref fb)=true
 bb:Binds K db ["_law_table_here"] []
 Gb:∀i,AQ P w K mg base aD 4 fb db ["_law_table_here"] (lb c (T3 ts tn tr i) (J3 P w c ts tn tr i))
 mro:mg "_law_rooms" = some (.ref O4)
 kro:keepIn K (.ref O4)=true
 bro:Binds K Qq ["_law_table_here", "_law_cell"] []
 UD:∀i,AQ P w K mg base aD 2 O4 Qq ["_law_table_here", "_law_cell"] (jh c (T3 ts tn tr i) (J3 P w c ts tn tr i))
 my:mg "Yard" = some (.ref ys.AS)
 My:Mk K ys.AS fy
 UE:Binds K dy ["self", "table", "rooms"] []
 UG:Binds K dy ["self", "table", "rooms"] [Value.none]
 Gy:∀i,AQ P w K mg base aD 4 fy dy ["self", "table", "rooms"] (jX K c (T3 ts tn tr i) (J3 P w c ts tn tr i) (yx ys []))
 mm:bG K ys.AS "moves" fm
 bm:Binds K dm ["self"] []
 Gm:∀i,AQ P w K mg base aD 7 fm dm ["self"] (iI K c (T3 ts tn tr i) (J3 P w c ts tn tr i) (yx ys []))
 mp:bG K ys.AS "post" fp
 bp:Binds K dp Nf []
 Gp:∀(i:Option Bool)(e:List Addr),AQ P w K mg base aD 4 fp dp Nf (om K c (T3 ts tn tr i) (J3 P w c ts tn tr i) (yx ys e))
 ms:mg "_law_step" = some (.ref fs)
 ks:keepIn K (.ref fs)=true
 bs:Binds K ds ["_law_table_here", "_law_yard", "_law_letters", "_law_draw"] []
 Gs:∀i,AQ P w K mg base aD 10 fs ds ["_law_table_here", "_law_yard", "_law_letters", "_law_draw"] (oh K c (T3 ts tn tr i) (J3 P w c ts tn tr i) ys)
theorem sr{TC:Addr}(h:jX K c TC J ys vs H Q E)(m:∀v H',Q v H'->Q' v H'):jX K c TC J ys vs H Q' E':=by
 obtain⟨y,dy,tb,lx,Bh,lt,n,AY,ps,wy,rv,rvs,h1,h2,h3,h4,h5,h6⟩:=h
 exact⟨y,dy,tb,lx,Bh,lt,n,AY,ps,wy,rv,rvs,h1,h2,h3,h4,h5,λok ro la le li dn H' a b c' d e f=>m _ _ (h6 ok ro la le li dn H' a b c' d e f)⟩
theorem three{α β:Type}{P:Option Bool->α->β->Prop}{a0 a1 a2:α}{b0 b1 b2:β}(h0:P none a0 b0)(h1:P (some true) a1 b1)(h2:P (some false) a2 b2):∃(f:Option Bool->α)(g:Option Bool->β),∀i,P i (f i) (g i):=⟨λi=>i.elim a0 λb=>cond b a1 a2,λi=>i.elim b0 λb=>cond b b1 b2,λi=>by
 rcases i with _ | b
 ·exact h0
 ·cases b
  ·exact h2
  ·exact h1⟩
noncomputable def UH(t:ck):PyData := .tuple [.int t.start, .int t.goal, .int t.len, .int t.word]
theorem xP(h:Paired (CN H) AX ts):BE K H AX (ts.map UH):=hZ (λv t z=>by
 obtain⟨x,rfl,g⟩:=z
 exact .tup (AZ.of g) (.cons (.int _) (.cons (.int _) (.cons (.int _) (.cons (.int _) .nil))))) h
theorem wu(ts:List ck):Cu (.list (ts.map UH)) 64:=(c8 (m:=1) λz hz=>by
 obtain⟨t,_,rfl⟩:=mem_map.mp hz
 exact cG (m:=0) λy hy=>by
  simp only[mem_cons,not_mem_nil,or_false]at hy
  rcases hy with rfl | rfl | rfl | rfl<;>exact bV _).le (by decide)
theorem Ki.same(W:Wy K C fw dw J)(h:Ki K c C J ys H a s le AX n)(e:AO H H'):Ki K c C J ys H' a s le AX n :=
 ⟨h.I.same W e,e _ _ h.gl,Paired.mono (CN.same e) h.pl,h.jn,h.cn,h.rn,h.pn,h.sc,h.dn,h.nf⟩
theorem Ki.weak(h:Ki K c C J ys H a s le AX n)(e:n <= m):Ki K c C J ys H a s le AX m :=
 ⟨h.I,h.gl,h.pl,h.jn,h.cn,h.rn,h.pn,h.sc,le_trans h.dn e,h.nf⟩
theorem Ki.push(W:Wy K C fw dw J)(h:Ki K c C J ys H a s le AX n):B8 K (yx ys [le]) (upd H le (.lst zs)) a s/\yb c C J (upd H le (.lst zs)) a :=
 ⟨B8.N7 h.I.Y (cz (by simp)) (λb hb=>hb) (λb hb z=>h.nf (by rw[←mem_singleton.mp z];exact hb)) (λb hb=>by rw[mem_singleton.mp hb];exact⟨_,ad⟩),BK.keep W h.I.T (fE h.gl)⟩
theorem in4(a:YA):∀z ∈ [a.le,a.dn],z ∈ a.four:=λz hz=>by
 simp only[mem_cons,not_mem_nil,or_false]at hz ⊢
 rcases hz with h | h<;>simp[h]
theorem Ki.post{l w:Int}(W:Wy K C fw dw J)(h:Ki K c C J ys H a s le AX n)(hx:x < a.n)(hy:y < a.n)(hl:1 <= l/\l <= 60)(hs:s.U.length < 60)(gu:H u=some (.tup [.int x, .int y, .int l, .int w]))(o:Be [a.le,a.dn] (upd H le (.lst (AX ++ [.ref u]))) H2)(hY:B8 K (yx ys [le]) H2 a (i5 s x y l w)):Ki K c C J ys H2 a (i5 s x y l w) le (AX ++ [.ref u]) (n + 1):=by
 obtain⟨Y1,T1⟩:=h.push (zs:=AX ++ [.ref u]) W
 have k1:=Be.Bl (λb hb=>Y1.ES b (in4 a b hb)) o
 have kp:Bq H H2:=Bq.trans (fE h.gl) k1
 have J1:=h.jn.post (x:=x) (y:=y) (l:=l) (u:=w) hx hy ⟨by omega,hl.2⟩ hs
 refine⟨⟨hY,BK.keep W T1 k1,h.I.O,J1.ok⟩,o _ _ (λz=>h.nf (in4 a _ z)) ad,Paired.snoc ⟨u,rfl,kp _ _ gu True.intro⟩ (Paired.mono (λv t z=>by obtain⟨x,e,g⟩:=z;exact⟨x,e,kp _ _ g True.intro⟩) h.pl),J1,h.cn.post _ _ _ _,h.rn,h.pn,λd hd=>?_,?_,h.nf⟩
 ·rcases mem_append.mp (show d ∈ s.done ++ [_] from hd) with hd | hd
  ·exact h.sc d hd
  ·rw[mem_singleton.mp hd]
   intro z hz
   simp only[mem_cons,not_mem_nil,or_false]at hz
   rcases hz with rfl | rfl | rfl | rfl | rfl
   ·exact .inr ⟨_,rfl,by decide +kernel⟩
   all_goals exact .inl ⟨_,rfl⟩
 ·show(s.done ++ [_]).length <= _
  rw[length_append]
  have:=h.dn
  show s.done.length + 1 <= _
  omega
theorem ki0{rs:List Int}(W:Wy K C fw dw J)(hI:DY K c C J (yx ys []) H a (Y0 (rs.map V.int) n))(hJ:Ce a (Y0 (rs.map V.int) n))(Gu:∀r ∈ rs,1 <= r/\r <= 60)(hle:H le=none):Ki K c C J ys (upd H le (.lst [])) a (Y0 (rs.map V.int) n) le [] 0:=by
 have s1:=(AO.refl H).new (o := .lst []) hle
 have ln:∀ln ∈ (Y0 (rs.map V.int) n).lanes,ln.qs=[]/\0 <= ln.r:=λln h=>by
  obtain⟨v,hv,rfl⟩:=mem_map.mp h
  obtain⟨r,hr,rfl⟩:=mem_map.mp hv
  exact⟨rfl,by have:=Gu r hr;show 0 <= r;omega⟩
 refine⟨⟨B8.Th hI.Y s1 λb hb => .inr ?_,BK.keep W hI.T (AO.Bl s1),hI.O,hI.G⟩,ad, .nil,hJ,cn0 _ _ (λl h=>(ln l h).1) λq hq=>eq_of_mem_replicate hq,λk l h=>(ln l (mem_of_getElem? h)).2,λk l h q hq=>?_,λd hd=>(by cases hd),le_refl _,mK hI.Y hle⟩
 ·rw[mem_singleton.mp hb]
  exact⟨hle,_,ad⟩
 ·rw[(ln l (mem_of_getElem? h)).1]at hq
  cases hq
inductive P1(P:Program)(w:World)(c:Cs)(ts:Ts)(tn:lM)(tr:lL)(H:Hp)(sc:Addr)(σ:St)(H1:Hp):Prop
 | mk (i:Option Bool) (tb lx Bh lt:Addr) (n mo:Nat) (AY:List V) (ps:List (Int × Int)) (wy:Wf) (_:AO H H1) (_:BK c (T3 ts tn tr i) (J3 P w c ts tn tr i) H1 tb lx Bh lt n AY ps wy) (_:∀p g k,(wy p g k).length <= 400) (_:∀p ∈ ps,i7 n p=true) (_:mo <= 12) (_:σ=[some (.ref sc),some (.ref tb),some (.int mo),none,none,none,none,none,none,none,none])
inductive LI(P:Program)(w:World)(K:Frag)(c:Cs)(ts:Ts)(tn:lM)(tr:lL)(ys:Ys)(H:Hp)(i:Option Bool)(a:YA)(sc Bg le:Addr)(mo:Nat)(a7 a8:Option V)(j:Nat)(σ:St)(H1:Hp):Prop
 | mk (s:YS) (AX:List V) (a9 EC:Option V) (_:AO H H1) (_:Ki K c (T3 ts tn tr i) (J3 P w c ts tn tr i) ys H1 a s le AX j) (_:σ=[some (.ref sc),some (.ref a.tb),some (.int mo),some (.ref Bg),some (.int (a.ps.length:Nat)),some (.ref a.y),some (.ref le),a7,a8,a9,EC])
theorem Cw:ao NLw ["_law_script"] (ai lp):=L2.Bt
theorem zY(F:Bo K "law" "law" lp f df)(T:dY mg)(L:jK K c)(Y:ig K ys)(D:Fns P w K mg base c ts tn tr ys fW dW fc fx ft fr fb O4 fy fm fp fs dc dx dt dr db Qq dy dm dp ds) :
  AQ P w K mg base aD 11 f df ["_law_script"] (pY K):=by
 refine F.ok Cw (λvs H Q E h=>?_) (λcdv A0 outer s0 H vs Q E hr h=>?_)
 ·obtain⟨a,ns,rfl,_⟩:=h
  rfl
 ·obtain⟨sc,ns,rfl,hS,hlen,q⟩:=h
  have hu:=hr.units
  have B0:Bc 1 _:=hr.mono (by decide)
  have Cg:Bc 2 _:=hr.mono (by decide)
  have Dk:Bc 4 _:=hr.mono (by decide)
  have IE:Bc 5 _:=hr.mono (by decide)
  have K0:Bc 7 _:=hr.mono (by decide)
  have GRo:=AQ.ex D.UD
  have GY:=AQ.ex D.Gy
  have GB:=AQ.ex D.Gb
  have GM:=AQ.ex D.Gm
  have GP:=AQ.ex λi:Option Bool × List Addr=>D.Gp i.1 i.2
  have GS:=AQ.ex D.Gs
  refine⟨_,(ae (ay (i:=1) Cw.nd rfl (Or.inl rfl) (az D.Gt K0 rfl D.mt D.kt D.bt .nil am (aa (pv 0) ac)))
   (ae (ay (i:=2) Cw.nd rfl (Or.inl rfl) af)
   (ae (dO (aM (ap bq (aw bz (aw cf (az D.Gc B0 rfl D.mc D.kc D.bc .nil am (aa (pv 0) (aa af ac))) af) af) af (ax _)) (ae (ay (i:=1) Cw.nd rfl (Or.inl rfl) (cN D.Mr D.Gr K0 rfl D.mr D.br .nil am (aa af (aa (aw bv af (aw bz (az D.Gc B0 rfl D.mc D.kc D.bc .nil am (aa (pv 0) (aa af ac))) af)) ac))))
   (ag (ay (i:=2) Cw.nd rfl (Or.inl rfl) af))) aB))
   (ae (ay (i:=3) Cw.nd rfl (Or.inl rfl) (az GB Dk rfl D.mb D.kb D.bb .nil am (aa (pv 1) ac)))
   (ae (ay (i:=4) Cw.nd rfl (Or.inl rfl) (aC av rfl T.len PySem.boot_len (aa (al (al (pv 1) rfl) rfl) ac)))
   (ae (aM (ap bq (pv 4) af (ax _)) (ag (aq (cb (oX hu) (bM (cN D.My GY IE rfl D.my D.UG (.cons (a:=V.Bj) rfl .nil) am (aa (pv 1) ac)) Y.cl D.mm GM K0 D.bm .nil am) (aP ac) (ax _)))) aB)
   (ae (ay (i:=5) Cw.nd rfl (Or.inl rfl) (ly (cN D.My GY IE rfl D.my D.UE .nil am (aa (pv 1) (aa (az GRo Cg rfl D.mro D.kro D.bro .nil am (aa (pv 1) (aa (az D.Gc B0 rfl D.mc D.kc D.bc .nil am (aa (pv 0) (aa af ac))) ac))) ac)))))
   (ae (ay (i:=6) Cw.nd rfl (Or.inl rfl) (aP ac))
   (ae (bK PassesOwn.never rfl (rh rfl T.range (aa af (aa (aC (sh rfl) rfl T.min PyProof.Rows.boot_min (aa (aC av rfl T.len PySem.boot_len (aa (pv 0) ac)) (aa af ac))) ac))) (au (i:=7) Cw.nd rfl (Or.inl rfl)) (ae (ay (i:=8) Cw.nd rfl (Or.inl rfl) (az D.Gx B0 rfl D.mx D.kx D.bx .nil am (aa (ar aF (pv 0) (pv 7) (λ_ _=>rfl)) (aa (pv 7) ac))))
   (ae (dO (aM (fN (PW.pt (im (ap (gi hu) (pv 3) (aP ac) (ax _)) (im (ap fv (aC av rfl T.len PySem.boot_len (aa (pv 6) ac)) (pv 2) (ax _)) (gM (PW.pt (eX (ap fv (aw bz (aw cf (pv 8) af) af) (aw cf (pv 2) af) (ax _)) (dH (ap (oX hu) (pv 6) (aP ac) (ax _)))))))))) (ae (gh (ar aF (pv 3) (aw bz (aw cf (pv 8) af) (aC av rfl T.len PySem.boot_len (aa (pv 3) ac))) (λ_ _=>rfl)) (fj rfl (aW (au (i:=9) Cw.nd rfl (Or.inl rfl)) (aW (au (i:=10) Cw.nd rfl (Or.inl rfl)) dP))))
   (ae (aS (ce plainAttrs_list PySem.F.slot_list_append PySem.F.type_list_append bj (pv 6) (aa (aK (aa (pv 9) (aa (pv 10) (aa (aw bv af (aw bz (pv 8) af)) (aa (aw bz (ar aF (pv 0) (pv 7) (λ_ _=>rfl)) (aw oW af af)) ac))))) ac)))
   (ag (aM (ap jw (aE (pv 5) Y.cl D.mp GP Dk D.bp .nil am (aa (pv 9) (aa (pv 10) (aa (aw bv af (aw bz (pv 8) af)) (aa (aw bz (ar aF (pv 0) (pv 7) (λ_ _=>rfl)) (aw oW af af)) ac))))) (aw cr (aC av rfl T.len PySem.boot_len (aa (pv 6) ac)) af) (ax _)) (ag (aq eP)) aB)))) aB))
   (ag (aM (bW (bE (az GS hr rfl D.ms D.ks D.bs .nil am (aa (pv 1) (aa (pv 5) (aa (pv 6) (aa (aw cf (pv 8) af) ac))))))) (ag (aq eP)) aB)))))
   (ag (aq eP))))))))))),?_⟩
  refine⟨_,rfl,sc,ns,rfl,hS,λb tb lx Bh lt n AY ps wy H1 s1 P6 hT Ck Bb hp8 EH Ku=>?_⟩
  refine⟨P1 P w c ts tn tr H sc,?_,?_⟩
  ·refine⟨_,rfl,sc,ns,2,rfl,s1.seq hS,λd2=>⟨_,_,rfl,rfl,⟨by decide,by decide⟩,_,_,rfl,rfl,(by show (0:Int) < 8;decide),rfl,_,rfl,?_⟩⟩
   cases hb:decide (V.int (d2 / 2 % 8)=V.int 7) with
   | false=>exact aG ⟨some b,tb,lx,Bh,lt,n,5,AY,ps,wy,s1,hT,Ck,Bb,by decide,rfl⟩
   | true =>
    refine aH ⟨_,rfl,sc,ns,0,rfl,s1.seq hS,λd0=>⟨_,_,rfl,rfl,(by show (0:Int) < 2;decide),_,_,rfl,rfl,λx dx nx Hi Fn=>?_⟩⟩
    have s4:AO H1 (upd (upd H1 dx (.own x)) x (.ins tr.rf dx [])):=AO.new (AO.new (AO.refl H1) Hi) (by rw[ah (Ne.symm Fn)];exact nx)
    obtain⟨h,hh,RA⟩:∃h:Int,3 + d0 % 2=h/\(h=3∨h=4):=⟨_,rfl,by omega⟩
    dsimp only
    rw[hh]
    have ho:fA (3,h)=true:=by rcases RA with rfl | rfl<;>decide
    refine⟨x,dx,3,h,rfl,ad, .inl (by decide),(λz=>by rw[ho]at z;cases z),λm G _ H5 lx Bh lt AY off hx hL=>⟨rfl,?_⟩⟩
    have s5:AO H1 H5:=λb o e=>off b o (aj e nx) (s4 _ _ e)
    have Nd:cy H5 c lx Bh lt (m:Int) AY (aN 3 h m):=by rw[←G.wh];exact hL
    refine⟨none,x,lx,Bh,lt,m,12,AY,aN 3 h m,Qf 3 h m,s1.trans s5,⟨⟨dx,lx,Bh,lt,AY,3,h,hx,hL,G,λp g k hp hg=>if_pos ⟨hp,hg⟩⟩,⟨dx,_,hx,rfl,rfl⟩,Nd,G.Uj,G.B9,λp g k hp hg z hz=>?_⟩,wf 3 h m,G.good,by decide,rfl⟩
    rw[show Qf 3 h m p g k=lO 3 h m p g from if_pos ⟨hp,hg⟩]at hz
    exact wg G hp hg z hz
  clear hT Ck Bb P6 hp8 EH Ku s1
  rintro σ H1 ⟨i,tb,lx,Bh,lt,n,mo,AY,ps,wy,s1,hT,Ck,Bb,hmo,rfl⟩
  have W:=D.W i
  refine⟨_,rfl,i,⟨tb,tb,tb,tb,tb,tb,tb,tb,lx,Bh,lt,n,AY,ps,wy⟩,rfl,hT,λBg Cp bs H2 s2 hBg gBg Yg hpo Uc=>?_⟩
  have JD:=hT.keep W (AO.Bl s2)
  have Yh:=s1.trans s2
  obtain⟨Cc,fst,BY,Br,BA⟩:=JD.i
  have Uh:AY.length=ps.length:=Paired.length hT.l.2.2
  have UI:=hT.B9
  refine⟨_,rfl,tb,T3 ts tn tr i,Cc,fst,_,rfl,BY,W.cl,W.nl,Br,lx,c.land,Bh,_,_,rfl,JD.l.1,L.cl,L.nl,rfl,lt,_,rfl, .inr (AZ.of JD.l.2.1),?_⟩
  rw[Uh]
  refine⟨_,rfl,rfl,_,rfl,?_⟩
  rw[bB]
  by_cases hz:((ps.length:Nat):Int)=0
  ·
   rw[decide_eq_true hz]
   have Fl:ps=[]:=List.length_eq_zero_iff.mp (by omega)
   subst Fl
   refine aH ⟨_,rfl,λy dy ny N8 N9=>?_⟩
   have s4:AO H2 (upd (upd H2 dy (.own y)) y (.ins ys.AS dy [])):=AO.new (AO.new (AO.refl H2) N8) (by rw[ah (Ne.symm N9)];exact ny)
   refine⟨i,y,dy,tb,lx,Bh,lt,n,AY,[],wy, .Bj,[],rfl,ad,JD.keep W (AO.Bl s4),(λb hb=>by cases hb), .inl ⟨rfl,rfl⟩,λ_ ro la le li dn H5 o5 Hj Hk Kj MY hY=>⟨rfl,?_⟩⟩
   have s5:AO H2 H5:=λb o e=>o5 b o (λz=>by rw[mem_singleton.mp z,ny]at e;cases e) (s4 _ _ e)
   have hJ:=(N5 (a:=⟨y,dy,tb,ro,la,le,li,dn,lx,Bh,lt,n,AY,[],wy⟩) (rvs:=[]) rfl).Xr (zero_le _) (by show 0 <= 40;decide)
   refine⟨y,dy,_,rfl,hY.ins,rfl,i,⟨y,dy,tb,ro,la,le,li,dn,lx,Bh,lt,n,AY,[],wy⟩,_,rfl,⟨hY,JD.keep W (AO.Bl s5),⟨(λl pr h=>by cases h),Ck⟩,hJ.ok⟩,λDm Bk H6 s6 nD gD pD=>⟨zero_le _,λo ho=>?_⟩⟩
   have s7:=(AO.refl H6).new (o := .lst []) ho
   exact Tg (f:=nP) (l:=[]) (.lst (AV.of (s7 _ _ gD)) (du (Paired.mono (bR s7) pD))) (.lst (AV.of ad) .nil) (iL []) (q _)
  rw[decide_eq_false hz]
  refine aG ⟨λv H5=>∃(H4:Hp)(rs:List Int),AO H2 H4/\(∀r ∈ rs,1 <= r/\r <= 60)/\Xt K c (T3 ts tn tr i) (J3 P w c ts tn tr i) ys [] H4 tb ps n wy rs v H5,?_,?_⟩
  ·refine⟨_,rfl,_,rfl,_,rfl,sc,ns,3,rfl,Yh.seq hS,λd3=>⟨i,⟨tb,tb,tb,tb,tb,tb,tb,tb,lx,Bh,lt,n,AY,ps,wy⟩,d3,rfl,JD,λRo rs H4 s4 hRo gRo Fm Gu=>?_⟩⟩
   have M0:=JD.keep W (AO.Bl s4)
   exact λy dy ny N8 N9=>⟨i,sr (we (P:=P) (w:=w) (ys:=ys) (ex:=[]) (E:=λ_ _ _=>False) W M0 Ck Bb (AV.of gRo) Fm Gu UI (λz hz=>by cases hz) y dy ny N8 N9) λv H5 h=>⟨h.1,H4,rs,s4,Gu,h.2⟩⟩
  rintro v H5 ⟨H4,rs,s4,Gu,a,rfl,e1,e2,e3,e4,s5,fr,hI5,hJ5⟩
  subst e1 e2 e3 e4
  refine⟨zero_le _,λle hle=>?_⟩
  have Yi:=ki0 W hI5 hJ5 Gu hle
  have Qr:=Yh.trans s4
  have J8:=s5.trans ((AO.refl H5).new (o := .lst []) hle)
  have GH:∀z ∈ a.four,H4 z=none:=fr
  have UJ:H4 le=none:=s5.free hle
  have O5:=s4 _ _ gBg
  have O6:=Bi.same s4 Yg
  have hbv:Cp.length=bs.length:=Paired.length Yg
  show dB 6 (V.ref le) _ _ _
  generalize upd H5 le (.lst [])=H6 at Yi J8 ⊢
  refine⟨_,rfl,sc,_,rfl, .inl ((Qr.trans J8).seq hS),_,_,rfl,?_⟩
  obtain⟨m,hm,hm45⟩:∃m:Nat,(if (45:Int) < ((ns.map V.int).length:Nat) then (45:Int) else ((ns.map V.int).length:Nat))=(m:Int)/\(m <= 45/\m <= ns.length):=by
   rw[length_map]
   split
   ·exact⟨45,rfl,by omega,by omega⟩
   ·exact⟨ns.length,rfl,by omega,by omega⟩
  rw[hm]
  refine⟨5,(m:Int),rfl,⟨by omega,by omega,by omega,by omega⟩,?_⟩
  refine b6 (lo:=5) (n:=((m:Int) - 5).toNat) (λj σ Ha=>∃a7 a8:Option V,LI P w K c ts tn tr ys H4 i a sc Bg le mo a7 a8 (2 * j) σ Ha) ⟨none,none,_,[],none,none,J8,Yi,rfl⟩ ?_ ?_
  rotate_left
  ·rintro σ Ha ⟨_,_,_,_,_,_,_,_,rfl⟩
   exact q _
  rintro j σ Ha hj ⟨a7,a8,s,AX,a9,EC,sA,hK,rfl⟩
  have hk:5 + j < ns.length:=by omega
  rw[show (5:Int) + (j:Int)=((5 + j:Nat):Int) by omega]
  have hSA:=(Qr.trans sA).seq hS
  have Fe:(ns.map V.int)[5 + j]? = some (V.int ns[5 + j]):=by simp[hk]
  generalize ns[5 + j]=cl at Fe
  refine⟨_,rfl,_,rfl,sc,_,_,V.int cl,rfl,rfl,hSA,ak Fe,_,rfl,cl,5 + j,rfl,by omega,λd hd=>?_⟩
  refine⟨LI P w K c ts tn tr ys H4 i a sc Bg le mo (some (.int ((5 + j:Nat):Int))) (some (.int d)) (2 * j + 1),?_,?_⟩
  ·refine⟨λb Hb=>AO Ha Hb/\(b=true->bs ≠ []/\AX.length < mo),?_,?_⟩
   ·refine⟨_,rfl,zero_le _,λo ho=>?_⟩
    have u1:=(AO.refl Ha).new (o := .lst []) ho
    have sB:=sA.trans u1
    refine neN (f:=i6) (l:=bs) (.lst (AV.of (sB _ _ O5)) (eD (Bi.same sB O6))) (.lst (AV.of ad) .nil) (ij _) ⟨_,rfl,?_⟩
    generalize upd Ha o (.lst [])=Hb at u1 sB ⊢
    cases Dv:bs.isEmpty with
    | true=>exact aG ⟨u1,λz=>by cases z⟩
    | false =>
    have Qs:bs ≠ []:=λz=>by rw[z]at Dv;cases Dv
    refine aH ⟨_,rfl,le,_,rfl, .inl (AV.of (u1 _ _ hK.gl)),_,rfl,_,_,rfl,rfl,_,rfl,?_⟩
    by_cases UK:((AX.length:Nat):Int) < (mo:Int)
    ·rw[decide_eq_true UK]
     refine aH ⟨_,rfl,_,_,rfl,rfl,⟨by decide,by decide⟩,_,_,rfl,rfl,(by show (0:Int) < 6;decide),_,rfl,_,_,rfl,rfl,⟨by decide,by decide⟩,_,_,rfl,rfl,_,rfl,?_⟩
     cases hx:decide (d / 8 % 6 < (mo:Int) / 4) with
     | true=>exact aH ⟨u1,λ_=>⟨Qs,by omega⟩⟩
     | false =>
     refine aG ⟨_,rfl,zero_le _,λo2 Ct=>?_⟩
     have u2:=u1.trans ((AO.refl Hb).new (o := .lst []) Ct)
     exact Tg (f:=UH) (l:=s.U) (.lst (AV.of (u2 _ _ hK.gl)) (xP (Paired.mono (CN.same u2) hK.pl))) (.lst (AV.of ad) .nil) (wu _) ⟨_,rfl,u2,λ_=>⟨Qs,by omega⟩⟩
    ·rw[decide_eq_false UK]
     exact aG ⟨u1,λz=>by cases z⟩
   ·rintro b Hb ⟨sb,hb⟩
    have Kc:=hK.same W sb
    have sB:=sA.trans sb
    cases b with
    | false=>exact aG ⟨s,AX,_,_,sB,Kc.weak (by omega),rfl⟩
    | true =>
    obtain⟨Qs,UK⟩:=hb rfl
    have np:(0:Int) < ((Cp.length:Nat):Int):=by rw[hbv];have:=List.length_pos_iff.mpr Qs;omega
    have z1:=emod_nonneg (d / 64) (show((Cp.length:Nat):Int) ≠ 0 by omega)
    have z2:=emod_lt_of_pos (d / 64) np
    obtain⟨k,Mm,hkm⟩:∃k:Nat,d / 64 % ((Cp.length:Nat):Int)=(k:Int)/\k < Cp.length:=⟨(d / 64 % ((Cp.length:Nat):Int)).toNat,by omega,by omega⟩
    have UL:=getElem?_eq_getElem hkm
    obtain⟨pr,hpr,pt,hpe,DQ⟩:=Paired.at (Bi.same sB O6) UL
    rw[hpe]at UL
    obtain⟨x,y,rfl,Yj,Yk,hxy,T7⟩:=hpo pr (mem_of_getElem? hpr)
    have gB:=sB _ _ O5
    have DN:AX.length=s.U.length:=Paired.length hK.pl
    refine aH ⟨_,rfl,_,rfl,_,_,rfl,rfl,⟨by decide,by decide⟩,_,rfl,Bg,_,rfl, .inl (AV.of gB),_,_,rfl,rfl,np,Bg,Cp,(k:Int), .ref pt,rfl,congrArg V.int Mm,AV.of gB,ak UL,pt,_,rfl,AZ.of DQ,rfl,_,_,rfl,_,_,rfl,rfl,?_⟩
    have p0:(0:Int) < 10 ^ (60:Int).toNat:=by decide +kernel
    have w1:=emod_nonneg cl (show(10 ^ (60:Int).toNat:Int) ≠ 0 by decide +kernel)
    have w2:=emod_lt_of_pos cl p0
    obtain⟨wd,Yl,hwo⟩:∃wd,cl % 10 ^ (60:Int).toNat=wd/\Kg (.int wd)=true:=⟨_,rfl,by
     unfold Kg
     exact decide_eq_true (by rw[if_neg (by omega)];exact w2)⟩
    obtain⟨len,IK,MA⟩:∃len:Int,1 + d % 4=len/\1 <= len/\len <= 60:=⟨_,rfl,by omega,by omega⟩
    clear w1 w2
    have hSb:=(Qr.trans sB).seq hS
    refine⟨_,rfl, .inl ⟨rfl,_,AV.of Kc.gl⟩,_,rfl,_,rfl,_,rfl,_,_,rfl,rfl,(by show (0:Int) < 4;decide),_,_,rfl,rfl,_,rfl,_,rfl,sc,_,_,V.int cl,rfl,rfl,hSb,ak Fe,_,_,rfl,rfl,⟨by decide,by decide,by decide⟩,_,_,rfl,rfl,p0,by show 4 <= sizeLine;decide,λu UC=>?_⟩
    dsimp only
    rw[IK,Yl]
    have s9:=(AO.refl Hb).new (o := .tup [.int x, .int y, .int len, .int wd]) UC
    have gu:(upd Hb u (.tup [.int x, .int y, .int len, .int wd])) u=some (.tup [.int x, .int y, .int len, .int wd]):=ad
    generalize upd Hb u (.tup [.int x, .int y, .int len, .int wd])=H9 at s9 gu ⊢
    have UM:=Kc.same W s9
    obtain⟨Y1,T1⟩:=UM.push (zs:=AX ++ [.ref u]) W
    have sX:AO H4 (upd H9 le (.lst (AX ++ [.ref u]))):=jm (sB.trans s9) (cz (mem_singleton.mpr rfl)) λz hz=>by rw[mem_singleton.mp hz];exact UJ
    have hSX:=(Qr.trans sX).seq hS
    have C5:=hK.dn
    have gd:=rj (n:=a.n) (wy:=a.wy) (m:=s.U.length) Yj Yk MA hwo hxy T7 (by omega)
    refine⟨le,AX,_,rfl,rfl,UM.gl,by rw[sizeLine_eq];omega,?_⟩
    refine⟨_,rfl,a.y,a.dy,_,rfl,Y1.ins,rfl,_,rfl,_,rfl,_,rfl,_,_,rfl,rfl,(by show (0:Int) < 4;decide),_,_,rfl,rfl,_,rfl,_,rfl,sc,_,_,V.int cl,rfl,rfl,hSX,ak Fe,_,_,rfl,rfl,⟨by decide,by decide,by decide⟩,_,_,rfl,rfl,p0,?_⟩
    dsimp only
    rw[IK,Yl]
    refine⟨(i,[le]),a.y,a.dy,a.tb,a.ro,a.la,a.le,a.li,a.dn,a.lx,a.Bh,a.lt,a.n,a.AY,a.ps,a.wy,s, .int x, .int y, .int len, .int wd,rfl,Y1,T1, .int _, .int _, .int _, .int _,by omega,by omega,(λh=>by rw[gd]at h;cases h),(λh=>by rw[gd]at h;cases h),(λh=>by rw[gd]at h;cases h),(λh=>by rw[gd]at h;cases h),(λh=>by rw[gd]at h;cases h),λ_ HY oY hY=>?_⟩
    have Ym:=UM.post W Yj Yk MA (by omega) gu oY hY
    refine⟨_,rfl,le,_,rfl, .inl (AV.of Ym.gl),_,_,rfl,rfl,rfl,_,rfl,?_⟩
    rw[length_append,DN]
    rw[show (λi j:Int=>V.int (i - j)) ((s.U.length + [V.ref u].length:Nat):Int) 1=V.int s.U.length from congrArg V.int (by show((s.U.length + 1:Nat):Int) - 1=_;omega),decide_eq_true rfl]
    exact aG ⟨_,AX ++ [.ref u],_,_,jm sX oY λz hz=>GH z (in4 a z hz),Ym,rfl⟩
  rintro σ Hb ⟨s',Ju,b9,b10,sB,Yn,rfl⟩
  refine⟨_,rfl,_,rfl,_,rfl,_,rfl,_,_,rfl,rfl,⟨by decide,by decide⟩,i,a,s',le,Ju,2 * j + 1,_,rfl,Yn,by omega,by rw[Yn.jn.lanes];omega,λHc s2 o2 hK2=>⟨_,rfl,aG ⟨_,_,s2,Ju,_,_,jm sB o2 GH,hK2,rfl⟩⟩⟩
theorem len_of1{α:Type}{P:List α->Prop}(h:∀a0,P [a0]):∀us:List α,us.length=1->P us
 | [a0],_=>h a0
theorem len_of2{α:Type}{P:List α->Prop}(h:∀a0 a1,P [a0,a1]):∀us:List α,us.length=2->P us
 | [a0,a1],_=>h a0 a1
theorem len_of3{α:Type}{P:List α->Prop}(h:∀a0 a1 a2,P [a0,a1,a2]):∀us:List α,us.length=3->P us
 | [a0,a1,a2],_=>h a0 a1 a2
theorem len_of4{α:Type}{P:List α->Prop}(h:∀a0 a1 a2 a3,P [a0,a1,a2,a3]):∀us:List α,us.length=4->P us
 | [a0,a1,a2,a3],_=>h a0 a1 a2 a3
theorem len_of5{α:Type}{P:List α->Prop}(h:∀a0 a1 a2 a3 a4,P [a0,a1,a2,a3,a4]):∀us:List α,us.length=5->P us
 | [a0,a1,a2,a3,a4],_=>h a0 a1 a2 a3 a4
structure FT(K:Frag)(mg:Str->Option Value)(n:Str)(st:Stmt)(ps:List Str)(f:Addr)(fd:FuncData):Prop where
 F:Bo K n n st f fd
 m:mg n=some (.ref f)
 k:keepIn K (.ref f)=true
 b:Binds K fd ps []
structure FM(K:Frag)(C:Addr)(n q:Str)(st:Stmt)(ps:List Str)(f:Addr)(fd:FuncData):Prop where
 F:Bo K n q st f fd
 m:bG K C n f
 b:Binds K fd ps []
section
variable {K:Frag}{mg:Str->Option Value}{C f:Addr}{n q:Str}{st:Stmt}{ps:List Str}{h:Heap}{oc:Value}{od an:Option Addr}{Ed:Array (Option Value)}{kV doc pm cdv ct:Value}
theorem mkT(X:K.In h)(G:h.Ns mainGlobals mg)(hb:∀(kV doc pm:Value) (an:Option Addr) (cdv ct:Value) (us:List Value),us.length=ps.length->bindArgs (fnOf n n (bS st) (aJ st) (ai st) .none kV doc pm an cdv ct) ⟨us,[]⟩ = pure (ps.zip us))
  (a:nsIn K mainGlobals n=some (some (.ref f))) (l:K.lookup f=some ⟨oc,od, .func (fnOf n n (bS st) (aJ st) (ai st) .none kV doc pm an cdv ct),Ed⟩) (c:codeIn K cdv n=true) (k:keepIn K (.ref f)=true):∃fd,FT K mg n st ps f fd :=
 ⟨_,jB l c k,mg_of X G a,k,(jB l c k).binds hb⟩
theorem mkM(hb:∀(kV doc pm:Value) (an:Option Addr) (cdv ct:Value) (us:List Value),us.length=ps.length->bindArgs (fnOf n q (bS st) (aJ st) (ai st) .none kV doc pm an cdv ct) ⟨us,[]⟩ = pure (ps.zip us))
  (a:findIn K (.ref C) n=some (some (.ref f))) (l:K.lookup f=some ⟨oc,od, .func (fnOf n q (bS st) (aJ st) (ai st) .none kV doc pm an cdv ct),Ed⟩) (c:codeIn K cdv q=true) (k:keepIn K (.ref f)=true) (i:isFn K (.ref f)=true):∃fd,FM K C n q st ps f fd :=
 ⟨_,jB l c k,⟨a,i,k⟩,(jB l c k).binds hb⟩
end
section
variable {l:PySem.W.OpenLaw}{w:World}{K:Frag}{h:Heap}{mg:Str->Option Value}{fa cL cB cD cO cR cA cH cJ cQ cY f1 f2 f3 f4 f5 f6 f7 f8 f9 Yo Po Yp Yq Yr Yt Yu Yv UN Yw UO UP Yx Yy Yz Y2 Y3 Y4 Y5 Y6 Y7 Y8 Y9 YB UQ Qt YC Qu UR Qv K1 Qw f42 Qx f44 US YD UT UU YE UW YF UX UY YG YH UZ YI JE K2 YJ Va Vb Vc Vd YK Ve Vf Vg Vh Vi Vj Vk Vl Vm Vn Vo Vp:Addr}{t1 t2 t3 t4 t5:Tok}
theorem all_mk(X:K.In h)(G:h.Ns mainGlobals mg)(EA:mg "law" = some (.ref fa))
  
   
  (gcL:nsIn K mainGlobals "Land" = some (some (.ref cL)))
  (gcB:nsIn K mainGlobals "Table" = some (some (.ref cB)))
  (gcD:nsIn K mainGlobals "Told" = some (some (.ref cD)))
  (gcO:nsIn K mainGlobals "Nearer" = some (some (.ref cO)))
  (gcR:nsIn K mainGlobals "RowFirst" = some (some (.ref cR)))
  (gcA:nsIn K mainGlobals "Lane" = some (some (.ref cA)))
  (gcH:nsIn K mainGlobals "Letter" = some (some (.ref cH)))
  (gcJ:nsIn K mainGlobals "Yard" = some (some (.ref cJ)))
  (gcQ:nsIn K mainGlobals "NoMove" = some (some (.ref cQ)))
  (gcY:nsIn K mainGlobals "YardError" = some (some (.ref cY)))
  (h1:∃d,FT K mg "has" wA ["some", "number"] f1 d)
  (h2:∃d,FT K mg "members" ua ["some"] f2 d)
  (h3:∃d,FT K mg "set_of" zd ["numbers"] f3 d)
  (h4:∃d,FT K mg "is_whole" eV ["value"] f4 d)
  (h5:∃d,FT K mg "is_within" iM ["value", "least", "most"] f5 d)
  (h6:∃d,FT K mg "is_one_of" zf ["value", "numbers"] f6 d)
  (h7:∃d,FT K mg "are_two_places" zb ["places", "one", "other"] f7 d)
  (h8:∃d,FT K mg "row_fits" m6 ["land", "row"] f8 d)
  (h9:∃d,FT K mg "onward" RY ["table", "lane", "goal"] f9 d)
  (h10:∃d,FT K mg "rooms_of" ge ["land", "rooms"] Yo d)
  (h11:∃d,FT K mg "is_word" tN ["word"] Po d)
  (h12:∃d,FT K mg "is_move" mq ["move"] Yp d)
  (h13:∃d,FT K mg "is_size" oF ["wide", "high"] Yq d)
  (h14:∃d,FT K mg "places_beside" zn ["wide", "high", "place"] Yr d)
  (h15:∃d,FT K mg "row_lanes" lZ ["wide", "high"] Yt d)
  (h16:∃d,FT K mg "how_far" zl ["land", "goal"] Yu d)
  (h17:∃d,FT K mg "nearer_lanes" Mc ["land", "far", "place"] Yv d)
  (h18:∃d,FT K mg "_law_cell_at" ui ["_law_script", "_law_k"] UN d)
  (h19:∃d,FT K mg "_law_mixed" zg ["_law_cell", "_law_k"] Yw d)
  (h20:∃d,FT K mg "_law_lanes" oK ["_law_places", "_law_amount", "_law_cell"] UO d)
  (h21:∃d,FT K mg "_law_rows" jp ["_law_places", "_law_lanes_here", "_law_cell"] UP d)
  (h22:∃d,FT K mg "_law_table" ue ["_law_script"] Yx d)
  (h23:∃d,FT K mg "_law_begins" oS ["_law_table_here"] Yy d)
  (h24:∃d,FT K mg "_law_rooms" gH ["_law_table_here", "_law_cell"] Yz d)
  (h25:∃d,FT K mg "_law_stand" eJ ["_law_yard", "_law_lanes_here", "_law_places"] Y2 d)
  (h26:∃d,FT K mg "_law_sent" jo ["_law_stand_here", "_law_number"] Y3 d)
  (h27:∃d,FT K mg "_law_open" oN ["_law_stand_here", "_law_lane", "_law_number", "_law_count"] Y4 d)
  (h28:∃d,FT K mg "_law_in" uf ["_law_table_here", "_law_letters", "_law_stand_here", "_law_number"] Y5 d)
  (h29:∃d,FT K mg "_law_on" oO ["_law_table_here", "_law_letters", "_law_stand_here", "_law_lane"] Y6 d)
  (h30:∃d,FT K mg "_law_moves" gJ ["_law_table_here", "_law_letters", "_law_stand_here"] Y7 d)
  (h31:∃d,FT K mg "_law_refused" tS ["_law_yard", "_law_move"] Y8 d)
  (h32:∃d,FT K mg "_law_wrong" oA ["_law_draw", "_law_lanes_here", "_law_posted"] Y9 d)
  (h33:∃d,FT K mg "_law_step" tR ["_law_table_here", "_law_yard", "_law_letters", "_law_draw"] YB d)
  (a34:nsIn K mainGlobals "law" = some (some (.ref UQ)))
  (l34:K.lookup UQ=some ⟨Vw,Vq, .func (fnOf "law" "law" (bS lp) (aJ lp) (ai lp) .none O9 OA OB O7 JG OC),Vt⟩)
  (c34:codeIn K JG "law" = true)
  (k34:keepIn K (.ref UQ)=true)
  (h35:∃d,FM K cL "__init__" "Land.__init__" m5 ["self", "places", "lanes"] Qt d)
  (h36:∃d,FM K cL "start_of" "Land.start_of" oE ["self", "lane"] YC d)
  (h37:∃d,FM K cL "end_of" "Land.end_of" zm ["self", "lane"] Qu d)
  (h38:∃d,FM K cL "out_of" "Land.out_of" tX ["self", "place"] UR d)
  (h39:∃d,FM K cL "into" "Land.into" mz ["self", "place"] Qv d)
  (h40:∃d,FM K cB "__init__" "Table.__init__" zc ["self", "land"] K1 d)
  (h41:∃d,FM K cD "__init__" "Told.__init__" tQ ["self", "land", "rows"] Qw d)
  (h42:∃d,FM K cD "ways" "Told.ways" oC ["self", "place", "goal", "came"] f42 d)
  (h43:∃d,FM K cO "__init__" "Nearer.__init__" tZ ["self", "land"] Qx d)
  (h44:∃d,FM K cO "ways" "Nearer.ways" tO ["self", "place", "goal", "came"] f44 d)
  (h45:∃d,FM K cR "__init__" "RowFirst.__init__" RZ ["self", "wide", "high"] US d)
  (h46:∃d,FM K cR "ways" "RowFirst.ways" oB ["self", "place", "goal", "came"] YD d)
  (h47:∃d,FM K cR "next_place" "RowFirst.next_place" oG ["self", "place", "goal"] UT d)
  (h48:∃d,FM K cA "__init__" "Lane.__init__" zj ["self", "room"] UU d)
  (h49:∃d,FM K cA "open_to" "Lane.open_to" tY ["self", "letter", "count"] YE d)
  (h50:∃d,FM K cA "put" "Lane.put" ze ["self", "letter", "count", "last"] UW d)
  (h51:∃d,FM K cA "front" "Lane.front" oP ["self"] YF d)
  (h52:∃d,FM K cA "pull" "Lane.pull" tT ["self"] UX d)
  (h53:∃d,FM K cA "bring" "Lane.bring" oR ["self"] UY d)
  (h54:∃d,FM K cA "told" "Lane.told" zi ["self"] YG d)
  (h55:∃d,FM K cA "twin" "Lane.twin" zh ["self"] YH d)
  (h56:∃d,FM K cH "__init__" "Letter.__init__" ud ["self", "start", "goal", "length", "word"] UZ d)
  (h57:∃d,FM K cH "twin" "Letter.twin" uc ["self"] YI d)
  (a58:findIn K (.ref cJ) "__init__" = some (some (.ref JE)))
  (l58:K.lookup JE=some ⟨Vx,Vr, .func (fnOf "__init__" "Yard.__init__" (bS fR) (aJ fR) (ai fR) (.ref OH) JH JI JK JF HE JL),Vu⟩)
  (d58:K.lookup OH=some ⟨Vz,V1, .seq #[Value.none] V3,V6⟩)
  (c58:codeIn K HE "Yard.__init__" = true)
  (k58:keepIn K (.ref JE)=true)
  (i58:isFn K (.ref JE)=true)
  (a59:findIn K (.ref cJ) "post" = some (some (.ref K2)))
  (l59:K.lookup K2=some ⟨Vy,Vs, .func (fnOf "post" "Yard.post" (bS gG) (aJ gG) (ai gG) (.ref OI) OD OE OF O8 JM OG),Vv⟩)
  (d59:K.lookup OI=some ⟨V0,V2, .seq #[Value.int 0 V5] V4,V7⟩)
  (c59:codeIn K JM "Yard.post" = true)
  (k59:keepIn K (.ref K2)=true)
  (i59:isFn K (.ref K2)=true)
  (h60:∃d,FM K cJ "moves" "Yard.moves" oI ["self"] YJ d)
  (h61:∃d,FM K cJ "moves_in" "Yard.moves_in" mj ["self", "number"] Va d)
  (h62:∃d,FM K cJ "moves_on" "Yard.moves_on" md ["self", "lane"] Vb d)
  (h63:∃d,FM K cJ "moves_lie" "Yard.moves_lie" oH ["self", "lane"] Vc d)
  (h64:∃d,FM K cJ "moves_back" "Yard.moves_back" lm ["self", "lane"] Vd d)
  (h65:∃d,FM K cJ "wanted" "Yard.wanted" gF ["self", "lane"] YK d)
  (h66:∃d,FM K cJ "moves_like" "Yard.moves_like" ub ["self", "move"] Ve d)
  (h67:∃d,FM K cJ "do" "Yard.do" Pu ["self", "move"] Vf d)
  (h68:∃d,FM K cJ "go_in" "Yard.go_in" uh ["self", "number", "lane"] Vg d)
  (h69:∃d,FM K cJ "enter" "Yard.enter" oQ ["self", "piece", "lane"] Vh d)
  (h70:∃d,FM K cJ "lay" "Yard.lay" zk ["self", "piece", "place"] Vi d)
  (h71:∃d,FM K cJ "own_lane" "Yard.own_lane" tW ["self", "lane"] Vj d)
  (h72:∃d,FM K cJ "own_letter" "Yard.own_letter" tU ["self", "number"] Vk d)
  (h73:∃d,FM K cJ "lane_told" "Yard.lane_told" oM ["self", "lane"] Vl d)
  (h74:∃d,FM K cJ "way_told" "Yard.way_told" tP ["self", "number"] Vm d)
  (h75:∃d,FM K cJ "lying" "Yard.lying" oJ ["self", "place"] Vn d)
  (h76:∃d,FM K cJ "posted" "Yard.posted" ll ["self"] Vo d)
  (h77:∃d,FM K cJ "history" "Yard.history" ug ["self"] Vp d)
  (mp:nsIn K mainGlobals "MOST_PLACES" = some (some (.int 12 t1)))
  (ml:nsIn K mainGlobals "MOST_LANES" = some (some (.int 40 t2)))
  (mr:nsIn K mainGlobals "MOST_ROOM" = some (some (.int 60 t3)))
  (mh:nsIn K mainGlobals "MOST_LENGTH" = some (some (.int 60 t4)))
  (mk:nsIn K mainGlobals "MOST_LETTERS" = some (some (.int 60 t5)))
  (p1cL:plainGet K cL Str.empty=true)
  (p2cL:hasDictIn K cL=true)
  (p3cL:plainOver K cL=true)
  (p4cL:findIn K (.ref cL) "__setattr__" = some (some (.builtin "object.__setattr__")))
  (p5cL:makesIn K cL=true)
  (p6cL:keepIn K (.ref cL)=true)
  (ncLplaces:findIn K (.ref cL) "places" = some none)
  (ncLlanes:findIn K (.ref cL) "lanes" = some none)
  (p1cB:plainGet K cB Str.empty=true)
  (p2cB:hasDictIn K cB=true)
  (p3cB:plainOver K cB=true)
  (p4cB:findIn K (.ref cB) "__setattr__" = some (some (.builtin "object.__setattr__")))
  (p5cB:makesIn K cB=true)
  (p6cB:keepIn K (.ref cB)=true)
  (ncBland:findIn K (.ref cB) "land" = some none)
  (p1cD:plainGet K cD Str.empty=true)
  (p2cD:hasDictIn K cD=true)
  (p3cD:plainOver K cD=true)
  (p4cD:findIn K (.ref cD) "__setattr__" = some (some (.builtin "object.__setattr__")))
  (p5cD:makesIn K cD=true)
  (p6cD:keepIn K (.ref cD)=true)
  (ncDland:findIn K (.ref cD) "land" = some none)
  (ncDentries:findIn K (.ref cD) "entries" = some none)
  (p1cO:plainGet K cO Str.empty=true)
  (p2cO:hasDictIn K cO=true)
  (p3cO:plainOver K cO=true)
  (p4cO:findIn K (.ref cO) "__setattr__" = some (some (.builtin "object.__setattr__")))
  (p5cO:makesIn K cO=true)
  (p6cO:keepIn K (.ref cO)=true)
  (ncOland:findIn K (.ref cO) "land" = some none)
  (ncOentries:findIn K (.ref cO) "entries" = some none)
  (p1cR:plainGet K cR Str.empty=true)
  (p2cR:hasDictIn K cR=true)
  (p3cR:plainOver K cR=true)
  (p4cR:findIn K (.ref cR) "__setattr__" = some (some (.builtin "object.__setattr__")))
  (p5cR:makesIn K cR=true)
  (p6cR:keepIn K (.ref cR)=true)
  (ncRland:findIn K (.ref cR) "land" = some none)
  (ncRwide:findIn K (.ref cR) "wide" = some none)
  (p1cA:plainGet K cA Str.empty=true)
  (p2cA:hasDictIn K cA=true)
  (p3cA:plainOver K cA=true)
  (p4cA:findIn K (.ref cA) "__setattr__" = some (some (.builtin "object.__setattr__")))
  (p5cA:makesIn K cA=true)
  (p6cA:keepIn K (.ref cA)=true)
  (ncArights:findIn K (.ref cA) "rights" = some none)
  (ncAreturning:findIn K (.ref cA) "returning" = some none)
  (ncAholder:findIn K (.ref cA) "holder" = some none)
  (ncApieces:findIn K (.ref cA) "pieces" = some none)
  (p1cH:plainGet K cH Str.empty=true)
  (p2cH:hasDictIn K cH=true)
  (p3cH:plainOver K cH=true)
  (p4cH:findIn K (.ref cH) "__setattr__" = some (some (.builtin "object.__setattr__")))
  (p5cH:makesIn K cH=true)
  (p6cH:keepIn K (.ref cH)=true)
  (ncHstart:findIn K (.ref cH) "start" = some none)
  (ncHgoal:findIn K (.ref cH) "goal" = some none)
  (ncHlength:findIn K (.ref cH) "length" = some none)
  (ncHword:findIn K (.ref cH) "word" = some none)
  (ncHgone:findIn K (.ref cH) "gone" = some none)
  (ncHway:findIn K (.ref cH) "way" = some none)
  (p1cJ:plainGet K cJ Str.empty=true)
  (p2cJ:hasDictIn K cJ=true)
  (p3cJ:plainOver K cJ=true)
  (p4cJ:findIn K (.ref cJ) "__setattr__" = some (some (.builtin "object.__setattr__")))
  (p5cJ:makesIn K cJ=true)
  (p6cJ:keepIn K (.ref cJ)=true)
  (ncJtable:findIn K (.ref cJ) "table" = some none)
  (ncJrooms:findIn K (.ref cJ) "rooms" = some none)
  (ncJlanes:findIn K (.ref cJ) "lanes" = some none)
  (ncJletters:findIn K (.ref cJ) "letters" = some none)
  (ncJlies:findIn K (.ref cJ) "lies" = some none)
  (ncJdone:findIn K (.ref cJ) "done" = some none)
  (x1cQ:iw K cQ none=true)
  (x2cQ:keepIn K (.ref cQ)=true)
  (x3cQ:v9 K cQ=true)
  (x4cQ:hasDictIn K cQ=true)
  (x5cQ:findIn K (.ref cQ) "__setattr__" = some (some (.builtin "object.__setattr__")))
  (x6cQ:findIn K (.ref cQ) "__getattribute__" = some (some (.builtin "BaseException.__getattribute__")))
  (x7cQ:findIn K (.ref cQ) "__getattr__" = some none)
  (w1cB:PySem.W.readsIn K cB (.type "type")=true)
  (w2cB:PySem.W.findCls K (.ref cB) (.type "type") "__init__" = some (.val (.ref K1)))
  (w3cB:PySem.W.specialIn K (.ref cB) "__getattribute__" = some (some (.builtin "type.__getattribute__")))
  (y1cQ:findIn K (.ref cQ) "__class__" = some (some (.builtin "object.__class__")))
  (y2cQ:PySem.W.specialIn K (.builtin "object.__class__") "__get__" = some (some (.builtin "getset_descriptor.__get__")))
  (y3cQ:PySem.W.takesIn K (.builtin "object.__class__")=some true)
  (y4cQ:PySem.W.exmOne K (.ref cQ) (.ref cQ)=some true)
  (zV:nsIn K mainGlobals "ValueError" = some none)
  (yk1:kitOne K (.ref cQ) (.ref cY)=some true)
  (yk2:kitOne K (.ref cQ) (.type "ValueError")=some true)
  (kk1:kitOne K (.type "int") (.type "int")=some true)
  (kk2:kitOne K (.type "int") (.type "bool")=some false)
  (kk3:kitOne K (.type "bool") (.type "int")=some true)
  (kk4:kitOne K (.type "bool") (.type "bool")=some true)
  (kk5:kitOne K (.type "NoneType") (.type "int")=some false)
  (kk6:kitOne K (.type "str") (.type "str")=some true)
  (kk7:kitOne K (.type "int") (.type "str")=some false)
  (kk8:kitOne K (.type "tuple") (.type "tuple")=some true)
  (kk9:kitOne K (.type "list") (.type "list")=some true)
  (z0:nsIn K mainGlobals "isinstance" = some none)
  (z1:nsIn K mainGlobals "int" = some none)
  (z2:nsIn K mainGlobals "bool" = some none)
  (z3:nsIn K mainGlobals "len" = some none)
  (z4:nsIn K mainGlobals "enumerate" = some none)
  (z5:nsIn K mainGlobals "tuple" = some none)
  (z6:nsIn K mainGlobals "range" = some none)
  (z7:nsIn K mainGlobals "list" = some none)
  (z8:nsIn K mainGlobals "all" = some none)
  (z9:nsIn K mainGlobals "abs" = some none)
  (z10:nsIn K mainGlobals "str" = some none)
  (z11:nsIn K mainGlobals "min" = some none)
  : ∃fd:FuncData,(∀(s:Shared)(v:Value),BindsTo s fd ⟨[v],[]⟩ [("_law_script",v)])/\∀base:Heap,K.In base->base.Ns mainGlobals mg->AQ l.prog w K mg base aD 11 fa fd ["_law_script"] (pY K):=by
 have e:=EA.symm.trans (mg_of X G a34)
 cases e
 have T:dY mg:=⟨mg_none_of X G z0,mg_none_of X G z1,mg_none_of X G z2,mg_none_of X G z3,mg_none_of X G z4,mg_none_of X G z5,mg_none_of X G z6,mg_none_of X G z7,mg_none_of X G z8,mg_none_of X G z9,mg_none_of X G z10,mg_none_of X G z11⟩
 obtain⟨d1,H1⟩:=h1
 obtain⟨d2,H2⟩:=h2
 obtain⟨d3,H3⟩:=h3
 obtain⟨d4,H4⟩:=h4
 obtain⟨d5,H5⟩:=h5
 obtain⟨d6,H6⟩:=h6
 obtain⟨d7,H7⟩:=h7
 obtain⟨d8,H8⟩:=h8
 obtain⟨d9,H9⟩:=h9
 obtain⟨d10,GG⟩:=h10
 obtain⟨d11,Qy⟩:=h11
 obtain⟨d12,Qz⟩:=h12
 obtain⟨d13,Q0⟩:=h13
 obtain⟨d14,Q2⟩:=h14
 obtain⟨d15,Q3⟩:=h15
 obtain⟨d16,Q4⟩:=h16
 obtain⟨d17,Q5⟩:=h17
 obtain⟨d18,JN⟩:=h18
 obtain⟨d19,EZ⟩:=h19
 obtain⟨d20,Q6⟩:=h20
 obtain⟨d21,Q7⟩:=h21
 obtain⟨d22,Q8⟩:=h22
 obtain⟨d23,Q9⟩:=h23
 obtain⟨d24,QA⟩:=h24
 obtain⟨d25,QB⟩:=h25
 obtain⟨d26,QC⟩:=h26
 obtain⟨d27,JO⟩:=h27
 obtain⟨d28,QD⟩:=h28
 obtain⟨d29,QE⟩:=h29
 obtain⟨d30,QF⟩:=h30
 obtain⟨d31,QG⟩:=h31
 obtain⟨d32,QH⟩:=h32
 obtain⟨d33,QI⟩:=h33
 obtain⟨d35,OJ⟩:=h35
 obtain⟨d36,V8⟩:=h36
 obtain⟨d37,OK⟩:=h37
 obtain⟨d38,K3⟩:=h38
 obtain⟨d39,OL⟩:=h39
 obtain⟨d40,JP⟩:=h40
 obtain⟨d41,QJ⟩:=h41
 obtain⟨d42,V9⟩:=h42
 obtain⟨d43,QK⟩:=h43
 obtain⟨d44,VA⟩:=h44
 obtain⟨d45,QL⟩:=h45
 obtain⟨d46,VB⟩:=h46
 obtain⟨d47,VC⟩:=h47
 obtain⟨d48,OM⟩:=h48
 obtain⟨d49,JQ⟩:=h49
 obtain⟨d50,VD⟩:=h50
 obtain⟨d51,JR⟩:=h51
 obtain⟨d52,VE⟩:=h52
 obtain⟨d53,VF⟩:=h53
 obtain⟨d54,VG⟩:=h54
 obtain⟨d55,VH⟩:=h55
 obtain⟨d56,ON⟩:=h56
 obtain⟨d57,VI⟩:=h57
 obtain⟨d60,OO⟩:=h60
 obtain⟨d61,VJ⟩:=h61
 obtain⟨d62,VL⟩:=h62
 obtain⟨d63,VM⟩:=h63
 obtain⟨d64,VN⟩:=h64
 obtain⟨d65,VO⟩:=h65
 obtain⟨d66,OP⟩:=h66
 obtain⟨d67,K4⟩:=h67
 obtain⟨d68,VP⟩:=h68
 obtain⟨d69,OQ⟩:=h69
 obtain⟨d70,VQ⟩:=h70
 obtain⟨d71,VR⟩:=h71
 obtain⟨d72,VS⟩:=h72
 obtain⟨d73,VT⟩:=h73
 obtain⟨d74,VU⟩:=h74
 obtain⟨d75,VW⟩:=h75
 obtain⟨d76,VX⟩:=h76
 obtain⟨d77,VY⟩:=h77
 have F34:=jB (st:=lp) l34 c34 k34
 have F58:EN K "__init__" "Yard.__init__" fR JE _:=⟨⟨_,_,_,_,_,_,_,_,_,_,rfl,l58,c58⟩,k58⟩
 have F59:EN K "post" "Yard.post" gG K2 _:=⟨⟨_,_,_,_,_,_,_,_,_,_,rfl,l59,c59⟩,k59⟩
 have L:jK K ⟨cL⟩:=⟨⟨p1cL,p2cL,p3cL,p4cL⟩,ncLplaces,ncLlanes⟩
 have Z:vY K:=⟨kk1,kk2,kk3,kk4,kk5⟩
 have ZS:Ny K:=⟨kk6,kk7,kk8⟩
 have B:Sb K mg ⟨cB,cD⟩ K1 _:=⟨⟨p1cB,p2cB,p3cB,p4cB⟩,ncBland,⟨p1cD,p2cD,p3cD,p4cD⟩,ncDland,ncDentries,(mg_of X G gcB),⟨w1cB,w2cB,w3cB,JP.m.kp⟩,JP.b⟩
 have M:Mu K ⟨cL⟩ UR Qv _ _:=⟨K3.m,OL.m,K3.b,OL.b⟩
 have BN:T5 K mg ⟨cB,cO⟩ K1 _:=⟨⟨p1cO,p2cO,p3cO,p4cO⟩,ncOland,ncOentries,(mg_of X G gcB),⟨w1cB,w2cB,w3cB,JP.m.kp⟩,JP.b⟩
 have BR:Qe K mg ⟨cB,cR⟩ K1 _:=⟨⟨p1cR,p2cR,p3cR,p4cR⟩,ncRland,ncRwide,(mg_of X G gcB),⟨w1cB,w2cB,w3cB,JP.m.kp⟩,JP.b⟩
 have ME:sk K ⟨cL⟩ Qu _:=⟨OK.m,OK.b⟩
 have XE:Exc K mg cY cQ:=⟨(mg_of X G gcQ),(mg_of X G gcY),mg_none_of X G zV,x1cQ,x2cQ,⟨x3cQ,x4cQ,x5cQ,x6cQ,x7cQ⟩,⟨y1cQ,y2cQ,y3cQ⟩,y4cQ,yk1,yk2⟩
 have Y:∀ex:List Addr,ig K ⟨cJ,cA,cH,ex⟩:=λ_=>⟨⟨p1cJ,p2cJ,p3cJ,p4cJ⟩,ncJtable,ncJrooms,ncJlanes,ncJletters,ncJlies,ncJdone,⟨p1cH,p2cH,p3cH,p4cH⟩,ncHstart,ncHgoal,ncHlength,ncHword,ncHgone,ncHway,⟨⟨p1cA,p2cA,p3cA,p4cA⟩,ncArights,ncAreturning,ncAholder,ncApieces⟩⟩
 have UE:=pF (kV:=JH) (doc:=JI) (pm:=JK) (cdv:=HE) (ct:=JL) (an:=JF) d58 rfl
 have UG:=pE (kV:=JH) (doc:=JI) (pm:=JK) (cdv:=HE) (ct:=JL) (an:=JF) d58 rfl
 have bp0:=nH (kV:=OD) (doc:=OE) (pm:=OF) (cdv:=JM) (ct:=OG) (an:=O8) d59 rfl
 have Mi:Mk K cL Qt:=⟨p5cL,OJ.m.at_,OJ.m.fn,p6cL⟩
 have Mt:Mk K cD Qw:=⟨p5cD,QJ.m.at_,QJ.m.fn,p6cD⟩
 have Mn:Mk K cO Qx:=⟨p5cO,QK.m.at_,QK.m.fn,p6cO⟩
 have Mr:Mk K cR US:=⟨p5cR,QL.m.at_,QL.m.fn,p6cR⟩
 have My:Mk K cJ JE:=⟨p5cJ,a58,i58,p6cJ⟩
 have Ma:Mk K cA UU:=⟨p5cA,OM.m.at_,OM.m.fn,p6cA⟩
 have Mh:Mk K cH UZ:=⟨p5cH,ON.m.at_,ON.m.fn,p6cH⟩
 have Ml:Lm K ⟨cL⟩ YC Qu UR Qv _ _ _ _:=⟨V8.m,V8.b,OK.m,OK.b,K3.m,K3.b,OL.m,OL.b⟩
 refine⟨fnOf "law" "law" (bS lp) (aJ lp) (ai lp) .none O9 OA OB O7 JG OC,λs v => .of_eq rfl,λbase _ _=>?_⟩
 have Gm:AQ l.prog w K mg base aD 2 f2 _ _ _:=zO H2.F T H1.m H1.F H1.b
 have NX:Nx K ⟨cB,cR⟩ UT _:=⟨VC.m,VC.b⟩
 have Gnp:AQ l.prog w K mg base aD 1 UT _ _ _:=uN VC.F BR
 have Gwr:AQ l.prog w K mg base aD 3 YD _ _ (kU ⟨cL⟩ ⟨cB,cR⟩):=(uF VB.F L BR NX Gnp).mono (by decide)
 obtain⟨fw,dw,WG⟩:=three (P:=λb f d=>Wy K (T3 ⟨cB,cD⟩ ⟨cB,cO⟩ ⟨cB,cR⟩ b) f d (J3 l.prog w ⟨cL⟩ ⟨cB,cD⟩ ⟨cB,cO⟩ ⟨cB,cR⟩ b)/\AQ l.prog w K mg base aD 3 f d ["self", "place", "goal", "came"] (dj (J3 l.prog w ⟨cL⟩ ⟨cB,cD⟩ ⟨cB,cO⟩ ⟨cB,cR⟩ b)))
  ⟨⟨⟨p1cR,p2cR,p3cR,p4cR⟩,ncRland,VB.m,VB.b,λH H' x n wy h k=>Kx.keep (n:=n) (wy:=wy) h k⟩,uo Gwr⟩
  ⟨⟨⟨p1cO,p2cO,p3cO,p4cO⟩,ncOland,VA.m,VA.b,λH H' x n wy h k=>Kt.keep (n:=n) (wy:=wy) h k⟩,uG VA.F BN H2.m H2.k H2.b Gm⟩ ⟨⟨⟨p1cD,p2cD,p3cD,p4cD⟩,ncDland,V9.m,V9.b,λH H' x n wy h k=>Dd.keep (n:=n) (wy:=wy) h k⟩,nZ (uH V9.F B H2.m H2.k H2.b Gm)⟩
 have Wb:=λb=>(WG b).1
 have Gb:=λb=>(WG b).2
 have Gw:AQ l.prog w K mg base aD 2 f5 _ _ _:=r6 H5.F T H4.m H4.F H4.b
 have VZ:AQ l.prog w K mg base aD 2 f5 _ _ _:=oZ H5.F T Z H4.m H4.F H4.b
 have GW:AQ l.prog w K mg base aD 1 f4 _ _ _:=kj H4.F T Z
 have G2:AQ l.prog w K mg base aD 3 f7 _ _ _:=zH H7.F H5.m H5.k H5.b Gw
 have Gi:AQ l.prog w K mg base aD 4 Qt _ _ _:=xp OJ.F T L H5.m H5.k H5.b Gw H7.m H7.k H7.b G2 (mg_of X G mp) (mg_of X G ml)
 have Go:AQ l.prog w K mg base aD 2 f6 _ _ _:=zL H6.F T H4.m H4.F H4.b
 have YL:AQ l.prog w K mg base aD 1 Qv _ _ _:=xo OL.F T L
 have Gf:AQ l.prog w K mg base aD 4 f8 _ _ _:=xt H8.F T L M H7.m H7.k H7.b G2 H6.m H6.k H6.b Go (uM K3.F T L) YL
 have G1:AQ l.prog w K mg base aD 1 K1 _ _ _:=zI JP.F
 have YM:AQ l.prog w K mg base aD 1 f3 _ _ _:=zJ H3.F
 have Gt:AQ l.prog w K mg base aD 5 Qw _ _ _:=wT QJ.F T B G1 H8.m H8.k H8.b Gf H3.m H3.k H3.b YM
 have Ge:AQ l.prog w K mg base aD 1 Qu _ _ _:=Ab OK.F L
 have Gh:AQ l.prog w K mg base aD 2 Yu _ _ _:=zZ Q4.F T L Ml (uI V8.F L) YL
 have Gnl:AQ l.prog w K mg base aD 2 Yv _ _ _:=NJ Q5.F T L Ml Ge (uM K3.F T L)
 have Gn:AQ l.prog w K mg base aD 3 Qx _ _ _:=xh QK.F T L BN G1 Q4.m Q4.k Q4.b Gh Q5.m Q5.k Q5.b Gnl H3.m H3.k H3.b YM
 have Gsz:AQ l.prog w K mg base aD 2 Yq _ _ _:=uK Q0.F T H4.m H4.F H4.b (mg_of X G mp)
 have Gbe:AQ l.prog w K mg base aD 1 Yr _ _ _:=Ad Q2.F
 have Grl:AQ l.prog w K mg base aD 2 Yt _ _ _:=wX Q3.F T Q2.m Q2.k Q2.b Gbe
 have Gir:AQ l.prog w K mg base aD 6 US _ _ (yQ ⟨cL⟩ ⟨cB,cR⟩):=Ob QL.F BR G1 Q0.m Q0.k Q0.b Gsz Q3.m Q3.k Q3.b Grl Mi (mg_of X G gcL) OJ.b Gi
 have UD:AQ l.prog w K mg base aD 3 Yo _ _ _:=uL GG.F T L H5.m H5.k H5.b VZ (mg_of X G mr)
 have Sv:AQ l.prog w K mg base aD 2 Po _ _ _:=wR Qy.F T H4.m H4.k H4.b GW
 have YN:AQ l.prog w K mg base aD 1 UU _ _ _:=zU OM.F (Y []).L
 have Glt:AQ l.prog w K mg base aD 1 YG _ _ _:=zT VG.F T (Y []).L
 have Wc:AQ l.prog w K mg base aD 1 YE _ _ _:=xg JQ.F (Y []).L
 have Wd:AQ l.prog w K mg base aD 1 YF _ _ _:=uV JR.F (Y []).L
 have Gpu:AQ l.prog w K mg base aD 2 UW _ _ _:=zK VD.F (Y []).L JQ.m JQ.b Wc
 have Gpl:AQ l.prog w K mg base aD 1 UX _ _ _:=wZ VE.F (Y []).L
 have Gbr:AQ l.prog w K mg base aD 1 UY _ _ _:=uX VF.F (Y []).L
 have Gtw:AQ l.prog w K mg base aD 3 YH _ _ _:=zS VH.F T (Y []).L (mg_of X G gcA) Ma OM.b YN
 have YO:AQ l.prog w K mg base aD 1 UZ _ _ _:=zQ ON.F (Y [])
 have Gtx:AQ l.prog w K mg base aD 3 YI _ _ _:=zP VI.F T (Y []) (mg_of X G gcH) Mh ON.b YO
 have Gy:∀b:Option Bool,AQ l.prog w K mg base aD 4 JE _ _ (jX K ⟨cL⟩ (T3 ⟨cB,cD⟩ ⟨cB,cO⟩ ⟨cB,cR⟩ b) (J3 l.prog w ⟨cL⟩ ⟨cB,cD⟩ ⟨cB,cO⟩ ⟨cB,cR⟩ b) ⟨cJ,cA,cH,[]⟩):=λb=>zG F58 T L (Y []) (Wb b) GG.m GG.k GG.b UD (mg_of X G gcA) Ma OM.b YN
 have Gp:∀(b:Option Bool)(ex:List Addr),AQ l.prog w K mg base aD 4 K2 _ _ (om K ⟨cL⟩ (T3 ⟨cB,cD⟩ ⟨cB,cO⟩ ⟨cB,cR⟩ b) (J3 l.prog w ⟨cL⟩ ⟨cB,cD⟩ ⟨cB,cO⟩ ⟨cB,cR⟩ b) ⟨cJ,cA,cH,ex⟩):=λb ex=>xa F59 T L (Y ex) (Wb b) (Gb b) H5.m H5.k H5.b VZ Qy.m Qy.k Qy.b Sv (mg_of X G gcH) Mh ON.b YO (mg_of X G mh) (mg_of X G mk)
 have Gol:∀ex:List Addr,AQ l.prog w K mg base aD 4 Vj _ _ _:=λex=>xf VR.F (Y ex) VH.m VH.b Gtw
 have Got:∀ex:List Addr,AQ l.prog w K mg base aD 4 Vk _ _ _:=λex=>xb VS.F (Y ex) VI.m VI.b Gtx
 have O:∀ex:List Addr,Own l.prog w K mg base ⟨cJ,cA,cH,ex⟩ Vj Vk UW _ _ _:=λex=>⟨VR.m,VR.b,Gol ex,VS.m,VS.b,Got ex,VD.m,VD.b,Gpu⟩
 have Gly:∀ex:List Addr,AQ l.prog w K mg base aD 1 Vi _ _ _:=λex=>zX VQ.F (Y ex)
 have Glg:∀ex:List Addr,AQ l.prog w K mg base aD 1 Vn _ _ _:=λex=>uQ VW.F T (Y ex)
 have Gen:∀ex:List Addr,AQ l.prog w K mg base aD 5 Vh _ _ _:=λex=>uW OQ.F (Y ex) (O ex)
 have Ggi:∀ex:List Addr,AQ l.prog w K mg base aD 6 Vg _ _ _:=λex=>xr VP.F (Y ex) (O ex) OQ.m OQ.b (Gen ex)
 have Gon:∀b:Option Bool,AQ l.prog w K mg base aD 4 f9 _ _ (sW ⟨cL⟩ (T3 ⟨cB,cD⟩ ⟨cB,cO⟩ ⟨cB,cR⟩ b) (J3 l.prog w ⟨cL⟩ ⟨cB,cD⟩ ⟨cB,cO⟩ ⟨cB,cR⟩ b)):=λb=>zM H9.F L (Wb b) (Gb b) ME Ge
 have Gmi:∀(b:Option Bool)(ex:List Addr),AQ l.prog w K mg base aD 4 Va _ _ (ot K ⟨cL⟩ (T3 ⟨cB,cD⟩ ⟨cB,cO⟩ ⟨cB,cR⟩ b) (J3 l.prog w ⟨cL⟩ ⟨cB,cD⟩ ⟨cB,cO⟩ ⟨cB,cR⟩ b) ⟨cJ,cA,cH,ex⟩):=λb ex=>xk VJ.F (Y ex) (Wb b) (Gb b) JQ.m JQ.b Wc
 have Gwa:∀(b:Option Bool)(ex:List Addr),AQ l.prog w K mg base aD 5 YK _ _ (jf K ⟨cL⟩ (T3 ⟨cB,cD⟩ ⟨cB,cO⟩ ⟨cB,cR⟩ b) (J3 l.prog w ⟨cL⟩ ⟨cB,cD⟩ ⟨cB,cO⟩ ⟨cB,cR⟩ b) ⟨cJ,cA,cH,ex⟩):=λb ex=>r8 VO.F (Y ex) (Wb b) JR.m JR.b Wd H9.m H9.k H9.b (Gon b)
 have Gmo:∀(b:Option Bool)(ex:List Addr),AQ l.prog w K mg base aD 6 Vb _ _ (oq K ⟨cL⟩ (T3 ⟨cB,cD⟩ ⟨cB,cO⟩ ⟨cB,cR⟩ b) (J3 l.prog w ⟨cL⟩ ⟨cB,cD⟩ ⟨cB,cO⟩ ⟨cB,cR⟩ b) ⟨cJ,cA,cH,ex⟩):=λb ex=>xj VL.F (Y ex) (Wb b) JR.m JR.b Wd VO.m VO.b (Gwa b ex) JQ.m JQ.b Wc
 have Gml:∀(b:Option Bool)(ex:List Addr),AQ l.prog w K mg base aD 2 Vc _ _ (kX K ⟨cL⟩ (T3 ⟨cB,cD⟩ ⟨cB,cO⟩ ⟨cB,cR⟩ b) (J3 l.prog w ⟨cL⟩ ⟨cB,cD⟩ ⟨cB,cO⟩ ⟨cB,cR⟩ b) ⟨cJ,cA,cH,ex⟩):=λb ex=>uO VM.F (Y ex) L (Wb b) JR.m JR.b Wd ME Ge
 have Gmb:∀(b:Option Bool)(ex:List Addr),AQ l.prog w K mg base aD 1 Vd _ _ (jg K ⟨cL⟩ (T3 ⟨cB,cD⟩ ⟨cB,cO⟩ ⟨cB,cR⟩ b) (J3 l.prog w ⟨cL⟩ ⟨cB,cD⟩ ⟨cB,cO⟩ ⟨cB,cR⟩ b) ⟨cJ,cA,cH,ex⟩):=λb ex=>rA VN.F (Y ex)
 have MM:∀(b:Option Bool)(ex:List Addr),SK l.prog w K mg base ⟨cL⟩ (T3 ⟨cB,cD⟩ ⟨cB,cO⟩ ⟨cB,cR⟩ b) (J3 l.prog w ⟨cL⟩ ⟨cB,cD⟩ ⟨cB,cO⟩ ⟨cB,cR⟩ b) ⟨cJ,cA,cH,ex⟩ Va Vb Vc Vd _ _ _ _:=λb ex=>⟨VJ.m,VJ.b,Gmi b ex,VL.m,VL.b,Gmo b ex,VM.m,VM.b,Gml b ex,VN.m,VN.b,Gmb b ex⟩
 have YQ:∀(b:Option Bool)(ex:List Addr),AQ l.prog w K mg base aD 7 YJ _ _ (iI K ⟨cL⟩ (T3 ⟨cB,cD⟩ ⟨cB,cO⟩ ⟨cB,cR⟩ b) (J3 l.prog w ⟨cL⟩ ⟨cB,cD⟩ ⟨cB,cO⟩ ⟨cB,cR⟩ b) ⟨cJ,cA,cH,ex⟩):=λb ex=>uP OO.F T (Y ex) (Wb b) (MM b ex)
 have Gim:AQ l.prog w K mg base aD 2 Yp _ _ _:=xn Qz.F T ZS H4.m H4.k H4.b GW
 have YR:∀(b:Option Bool)(ex:List Addr),AQ l.prog w K mg base aD 7 Ve _ _ (iJ K ⟨cL⟩ (T3 ⟨cB,cD⟩ ⟨cB,cO⟩ ⟨cB,cR⟩ b) (J3 l.prog w ⟨cL⟩ ⟨cB,cD⟩ ⟨cB,cO⟩ ⟨cB,cR⟩ b) ⟨cJ,cA,cH,ex⟩):=λb ex=>uS OP.F T (Y ex) (Wb b) (MM b ex) Qz.m Qz.k Qz.b Gim H5.m H5.k H5.b VZ
 have DM:∀(b:Option Bool)(ex:List Addr),Xn l.prog w K mg base ⟨cL⟩ (T3 ⟨cB,cD⟩ ⟨cB,cO⟩ ⟨cB,cR⟩ b) (J3 l.prog w ⟨cL⟩ ⟨cB,cD⟩ ⟨cB,cO⟩ ⟨cB,cR⟩ b) ⟨cJ,cA,cH,ex⟩ Ve Vg Vh UX UY Vi _ _ _ _ _ _:=λb ex=>⟨OP.m,OP.b,(YR b ex).imp vk,VP.m,VP.b,Ggi ex,OQ.m,OQ.b,Gen ex,VE.m,VE.b,Gpl,VF.m,VF.b,Gbr,VQ.m,VQ.b,Gly ex⟩
 have Gdo:∀(b:Option Bool)(ex:List Addr),AQ l.prog w K mg base aD 8 Vf _ _ (yR K ⟨cL⟩ (T3 ⟨cB,cD⟩ ⟨cB,cO⟩ ⟨cB,cR⟩ b) (J3 l.prog w ⟨cL⟩ ⟨cB,cD⟩ ⟨cB,cO⟩ ⟨cB,cR⟩ b) ⟨cJ,cA,cH,ex⟩):=λb ex=>N0 K4.F (Y ex) L (Wb b) (O ex) (DM b ex) ME Ge
 have Gdw:∀(b:Option Bool)(ex:List Addr),AQ l.prog w K mg base (yj l.prog w) 8 Vf _ _ (tH K ⟨cL⟩ (T3 ⟨cB,cD⟩ ⟨cB,cO⟩ ⟨cB,cR⟩ b) (J3 l.prog w ⟨cL⟩ ⟨cB,cD⟩ ⟨cB,cO⟩ ⟨cB,cR⟩ b) ⟨cJ,cA,cH,ex⟩ cQ):=λb ex=>Ac K4.F (Y ex) XE OP.m OP.b (YR b ex)
 have Gru:∀(b:Option Bool)(ex:List Addr),AQ l.prog w K mg base aD 9 Y8 _ _ (oi K ⟨cL⟩ (T3 ⟨cB,cD⟩ ⟨cB,cO⟩ ⟨cB,cR⟩ b) (J3 l.prog w ⟨cL⟩ ⟨cB,cD⟩ ⟨cB,cO⟩ ⟨cB,cR⟩ b) ⟨cJ,cA,cH,ex⟩):=λb ex=>wY QG.F T (Y ex) XE K4.m K4.b (Gdw b ex)
 have We:∀ex:List Addr,AQ l.prog w K mg base aD 2 Vl _ _ _:=λex=>uU VT.F (Y ex) VG.m VG.b Glt
 have Gwt:∀ex:List Addr,AQ l.prog w K mg base aD 1 Vm _ _ _:=λex=>wS VU.F T (Y ex)
 have Gpd:∀ex:List Addr,AQ l.prog w K mg base aD 1 Vo _ _ _:=λex=>r9 VX.F T (Y ex)
 have Ghi:∀ex:List Addr,AQ l.prog w K mg base aD 1 Vp _ _ _:=λex=>xq VY.F T (Y ex)
 have SM:∀ex:List Addr,XN l.prog w K mg base ⟨cJ,cA,cH,ex⟩ Vl Vm Vo Vn Vp _ _ _ _ _:=λex=>⟨VT.m,VT.b,We ex,VU.m,VU.b,Gwt ex,VX.m,VX.b,Gpd ex,VW.m,VW.b,Glg ex,VY.m,VY.b,Ghi ex⟩
 have Gsd:∀ex:List Addr,AQ l.prog w K mg base aD 3 Y2 _ _ (iH K ⟨cJ,cA,cH,ex⟩):=λex=>uJ QB.F T (Y ex) (SM ex)
 have Gc:AQ l.prog w K mg base aD 1 UN _ _ _:=xv JN.F T
 have Gx:AQ l.prog w K mg base aD 1 Yw _ _ _:=zN EZ.F
 have Gl:AQ l.prog w K mg base aD 2 UO _ _ _:=uT Q6.F T EZ.m EZ.k EZ.b Gx
 have Grs:AQ l.prog w K mg base aD 2 UP _ _ _:=wW Q7.F T EZ.m EZ.k EZ.b Gx
 have TM:XA l.prog w K mg base ⟨cL⟩ ⟨cB,cD⟩ ⟨cB,cO⟩ UN UO Qt Qx Qw UP _ _ _ _ _ _:=⟨JN.m,JN.k,JN.b,Gc,Q6.m,Q6.k,Q6.b,Gl,(mg_of X G gcL),Mi,OJ.b,Gi,(mg_of X G gcO),Mn,QK.b,Gn,(mg_of X G gcD),Mt,QJ.b,Gt,Q7.m,Q7.k,Q7.b,Grs⟩
 have Wg:AQ l.prog w K mg base aD 7 Yx _ _ (ou l.prog w K ⟨cL⟩ ⟨cB,cD⟩ ⟨cB,cO⟩):=xm Q8.F TM
 have Gbg:∀b:Option Bool,AQ l.prog w K mg base aD 4 Yy _ _ (lb ⟨cL⟩ (T3 ⟨cB,cD⟩ ⟨cB,cO⟩ ⟨cB,cR⟩ b) (J3 l.prog w ⟨cL⟩ ⟨cB,cD⟩ ⟨cB,cO⟩ ⟨cB,cR⟩ b)):=λb=>uY Q9.F T L (Wb b) (Gb b)
 have Glr:∀b:Option Bool,AQ l.prog w K mg base aD 2 Yz _ _ (jh ⟨cL⟩ (T3 ⟨cB,cD⟩ ⟨cB,cO⟩ ⟨cB,cR⟩ b) (J3 l.prog w ⟨cL⟩ ⟨cB,cD⟩ ⟨cB,cO⟩ ⟨cB,cR⟩ b)):=λb=>rB QA.F T L (Wb b) EZ.m EZ.k EZ.b Gx
 have Gsn:AQ l.prog w K mg base aD 1 Y3 _ _ _:=wV QC.F T
 have YT:AQ l.prog w K mg base aD 1 Y4 _ _ _:=uR JO.F
 have Gli:∀b:Option Bool,AQ l.prog w K mg base aD 4 Y5 _ _ (tw ⟨cL⟩ (T3 ⟨cB,cD⟩ ⟨cB,cO⟩ ⟨cB,cR⟩ b) (J3 l.prog w ⟨cL⟩ ⟨cB,cD⟩ ⟨cB,cO⟩ ⟨cB,cR⟩ b)):=λb=>zW QD.F (Wb b) (Gb b) QC.m QC.k QC.b Gsn JO.m JO.k JO.b YT
 have Glj:∀b:Option Bool,AQ l.prog w K mg base aD 4 Y6 _ _ (tu ⟨cL⟩ (T3 ⟨cB,cD⟩ ⟨cB,cO⟩ ⟨cB,cR⟩ b) (J3 l.prog w ⟨cL⟩ ⟨cB,cD⟩ ⟨cB,cO⟩ ⟨cB,cR⟩ b)):=λb=>zR QE.F L (Wb b) (Gb b) ME Ge JO.m JO.k JO.b YT
 have Glm:∀b:Option Bool,AQ l.prog w K mg base aD 5 Y7 _ _ (ji ⟨cL⟩ (T3 ⟨cB,cD⟩ ⟨cB,cO⟩ ⟨cB,cR⟩ b) (J3 l.prog w ⟨cL⟩ ⟨cB,cD⟩ ⟨cB,cO⟩ ⟨cB,cR⟩ b)):=λb=>rC QF.F T L (Wb b) ME Ge QD.m QD.k QD.b (Gli b) QE.m QE.k QE.b (Glj b)
 have Gwg:AQ l.prog w K mg base aD 1 Y9 _ _ _:=uE QH.F
 have Gst:∀b:Option Bool,AQ l.prog w K mg base aD 10 YB _ _ (oh K ⟨cL⟩ (T3 ⟨cB,cD⟩ ⟨cB,cO⟩ ⟨cB,cR⟩ b) (J3 l.prog w ⟨cL⟩ ⟨cB,cD⟩ ⟨cB,cO⟩ ⟨cB,cR⟩ b) ⟨cJ,cA,cH,[]⟩):=λb=>wU QI.F T (Y []) L (Wb b) kk9 ⟨QB.m,QB.k,QB.b,Gsd,OO.m,OO.b,YQ b,QF.m,QF.k,QF.b,Glm b,QH.m,QH.k,QH.b,Gwg,QG.m,QG.k,QG.b,Gru b,K4.m,K4.b,Gdo b⟩
 exact zY (c:=⟨cL⟩) (ts:=⟨cB,cD⟩) (tn:=⟨cB,cO⟩) (tr:=⟨cB,cR⟩) (ys:=⟨cJ,cA,cH,[]⟩) F34 T L (Y []) ⟨Wb,JN.m,JN.k,JN.b,Gc,EZ.m,EZ.k,EZ.b,Gx,Q8.m,Q8.k,Q8.b,Wg,(mg_of X G gcR),Mr,QL.b,Gir,Q9.m,Q9.k,Q9.b,Gbg,QA.m,QA.k,QA.b,Glr,(mg_of X G gcJ),My,UE,UG,Gy,OO.m,OO.b,λb=>YQ b [],⟨a59,i59,k59⟩,bp0,Gp,QI.m,QI.k,QI.b,Gst⟩
end
theorem walk{l:PySem.W.OpenLaw}{XP:(Str->Option Value)->Heap->Prop}{K:Params->Frag}(hn:l.most=some 63)(Ls:d.params.defaults=[])
  (hY:∀(w:World)(h:Heap),YP w h->(K w.params).In h)
  (F:∀(w:World)(mg:Str->Option Value)(fa:Addr)(h:Heap),(K w.params).In h->h.Ns mainGlobals mg->mg d.name=some (.ref fa) ->
   ∃fd:FuncData,(∀(s:Shared)(u:Value),BindsTo s fd ⟨[u],[]⟩ [("_law_script",u)])/\∀base:Heap,(K w.params).In base->base.Ns mainGlobals mg->AQ l.prog w (K w.params) mg base aD 11 fa fd ["_law_script"] (pY (K w.params))) :
  PySem.W.WalkO q loose XP YP l.row.toRowW d [] (λf vs=>PySem.call f vs) :=
 L2.G9 (n:=63) (k:=11) (x := "_law_script") (CX:=λ_=>aD) (sp:=λw=>pY (K w.params)) hn (by decide) Ls ⟨rfl,by decide,by decide⟩ hY F (λ_ _ a ns hl _ hS=>⟨a,ns,rfl,hS,hl,λ_=>rfl⟩) λ_ _ _ _ _ z=>z
end K47
structure PySem.W.Fast:Prop where
 (tw3384724821339345982 tw7550120112214602544 tw14326523580979057582 tw15399143449580594211 tw14726790166926077994 tw12921433101990588337 tw10145116294047731517 tw9699835575547086701 tw9901080374641243096 tw13911955252117245309 tw613927851318043596 tw13105820861933922866 tw10563465282106960882 tw10339069133208399798 tw9090635581718770406 tw17987866382712421596 tw8160181985094387023 tw10118084041952995983 tw14073312166479390587 tw3983880366348457566 tw5715310284689378816 tw4920912502283098976 tw12087069753376412398 tw10788537505749195393 tw2614603568622290459 tw12150619054024002803 tw8010105696861168873 tw15404993827452623701 tw6124551283992557390 tw3916865264540542733 tw12579209467406044895 tw10826899961398787729 tw18201876318415585276 tw6379780506077290595 tw17840733737552351313 tw10531403347347877387 tw17610022553498919570 tw17563988291470213908 tw9832583899036022992 tw11086993245149294852 tw4005334220969280793 tw446844292379990559 tw1068670062821220185 tw10129939951607950819 tw778200909859848731 tw15908598857649039475 tw15560627600769167940 tw15034328009781626923 tw5166425142974033874 tw14721786945055086658 tw10259242543690029118 tw9995046342275196914 tw15107702072133637836 tw15600848307192666062 tw13696194136365455966 tw8758225500369031720 tw15459068747834964460 tw16908109336017253054 tw2806064974035189038 tw14499007924829849993 tw17787668224562923547 tw12824087503279417978 tw6597038593893389945 tw2309402785832312767 tw1170776646948441446 tw18321413014231797041 tw1020931999721255970 tw6631535034396658679 tw14802464909070689824 tw432306319465174697 tw8313595901659654995 tw1737123752784030 tw7002496167020946474 tw8643266843456861046 tw15961384267659897346 tw14633574556784881393 tw9976400253781076550 tw13842891330050263971 tw14259479988462613619 tw522230725278892555 tw10109345462741645273 tw7527146664920284471 tw17090590284302263120 tw9436943979862340530 tw1376185318651632865 tw6486741665481776079 tw16186410205077594502 tw5521603581121565043 tw18220372593515252208 tw17145295509408591572 tw14685638636701099469 tw4664847173820681766 tw14049313887405653518 tw18054194521040331627 tw10505383350224119756 tw3118213460492635700 tw10875208268775061098 tw8559501318820607051 tw6653028315217847123 tw11426444567167316677 tw6959253005785368147 tw14266404077641558189 tw5484152385329537305 tw12108643642210114534 tw4632878160120052095 tw4749788396731570136 tw12658584341394269192 tw15839837468358786115 tw690606896869801500 tw14882383310422376554 tw5139288350300562928 tw15534938430893522485 tw10959276962554643216 tw15423255745370151837 tw11852243039775200985 tw2103400952426177309 tw17107548494940529603 tw14322575446985312108 tw14479492501475148173 tw18193104290580930841 tw7573940747597977939 tw17016163785418422133 tw3664838386774652611 tw837153462826878515 tw3501998602780669967 tw8488088128949073589 tw5821122251738034816 tw17861395020122382580 tw12309201518740932346 tw18268531762816763615 tw2517932032130413318 tw10686982714378745482 tw3831296562779903747 tw1857732853177930016 tw2348564361938200721 tw13797773271517833832 tw5731047958000112951 tw5185989490721200045 tw7096460026083782169 tw7760270307274531632 tw9666556624108957389 tw16389684095008229789 tw8729993879100482979 tw5774476513444655516 tw12783750042670923068 tw7739828748632242278 tw7958713860053721015 tw8511573111461665809 tw3164471763832713862 tw9548591356594360892 tw5606776673565091263 tw6524313990835860584 tw6294425357018766995 tw5627227715943666750 tw9205172126352953268 tw4262390285717859240 tw4699408971454891378 tw13149477822470349115 tw14191252131253616380 tw13094058299701593826 tw17171459247015862468 tw15305882360634899268 tw9444344680279960235 tw13155448937601599336 tw18048738878512766596 tw222395543177773450 tw16666188622627208733 tw15817855016601489684 tw1800008357160483951 tw10266488446604907044 tw7440396711861141469 tw15870985621076648769 tw8689414595787745874 tw7117701256462489782 tw1301513099114138257 tw7391520095889652781 tw4858898365520646755 tw3518782806812341193 tw15379541766516849722 tw18384346163555403548 tw4303584723058596674 tw3824497009115619261 tw7051525127541092495 tw2536965474887176480 tw7964364438417303467 tw15551748619610645869 tw10583643293053372717 tw15761187314169370341 tw3867122902789420109 tw12510911438701097370 tw1108625983931372995 tw13729858813299860561 tw11027594351311356665 tw4358333512213116318 tw6610624051045314699 tw7067380810632259260 tw11782089277462080994 tw16074617094345967325 tw7965109330729518222 tw18173416347887647514 tw7008283433865325134 tw5564338247947072904 tw14651765799571605842 tw16468652678108378668 tw6120694105205603735 tw7735310137859424411 tw12739489495610436833 tw11480620451736146157 tw1491171018150121690 tw7583350291416712451 tw14350816929533273576 tw10380753882976122641 tw7940689322669664986 tw15630167623911934727 tw2172415506986832617 tw17955844561982953084 tw8885529109474354746 tw12805938438573814319 tw4950724457769725029 tw16062579867181461114 tw10108947245414467197 tw12701823460684946831 tw7683993990822072148 tw2684212530405023502 tw145114888185782585 tw2117624838584706909 tw13827530526288573493 tw11842549384216234103 tw12347020518152216978 tw17199339896000176114 tw5563333716868160558 tw16152895862672517287 tw15225022244982513226 tw7508380294077938751 tw6373028238081081894 tw18096219866327959024 tw13831841767288370636 tw12894793562070034135 tw6054247371669700914 tw18026782124152138510 tw16909969895033037229 tw8643039584242826742 tw18124782186867478951 tw14976355368372085125 tw8561434913075028957 tw11968485584717478210 tw910583012389366879 tw14669946876027527671 tw11739889320405631640 tw18055994750197950977 tw10527549265376300087 tw16662149065461287567 tw16352042698953317307 tw8475425816883462349 tw15366198277760081564 tw5272905972484468271 tw10627810703430550859 tw5825690178174454886 tw12499345391212123241 tw15034206304393556420 tw668927724534022037 tw14998130744884375891 tw6271320560608164054 tw6923838569987370508 tw10884902018626930037 tw10122861554494120797 tw1309891862283385697 tw786361587239355353 tw10420627225431247349 tw218755457627006026 tw8509259987247206539 tw6599772426249442312 tw11488601598746208111 tw13455313950571628366 tw3641499300624778654 tw682275140030959659 tw1950517096572257907 tw7551103573577562795 tw4455450092957678966 tw16308217002493458632 tw3977004616833419272 tw15291427080825294700 tw7448416072202366770 tw17343587030780117857 tw17210897901671356009 tw3344402117284930946 tw2531677973109060577 tw13446721505282470883 tw16383650583799865368 tw652311331467495647 tw1933207257168927208 tw17309578462875159557 tw10717124390417592352 tw14690490250586462448 tw17964948727348078298 tw11325061338243817660 tw493833240338373189 tw8601452040975488973 tw7070897147222075377 tw4414363493830274804 tw6830057887746511387 tw17407923316724026597 tw564325930252692103 tw13427962281667727118 tw11678040228764948370 tw12432470804479403177 tw14450476578773971784 tw6789528402350407022 tw13099177464486773363 tw837949628681563717 tw6146878668791506887 tw4468531685129923978 tw4398657822619105642 tw3036566168888015994 tw2547575805487092562 tw8125027619952399255 tw13797303582129814529 tw10302063273336237273 tw16026918426977821253 tw2964237355346853905 tw18028151835238234359 tw18152649766333138524 tw9360424964370553881 tw5792325497209067048 tw2735700537893828238 tw2203150613585874664 tw12638571363089311859 tw3151182383478759618 tw4703950703152025992 tw16768246881497998308 tw7435177721248114656 tw17016402940445728301 tw13918800474931134716 tw12830047793444886141 tw15544695760424978356 tw7257784482978810376 tw14706554271059395623 tw12381478658445127125 tw15711598975046848299 tw3161909504663464076 tw13123945040417786880 tw16720772344222534659 tw13865091078229983691 tw11434695969125477490 tw4211194905018185092 tw15318427217172503230 tw11720711211590768474 tw17865695985793544132 tw17846180191533674396 tw16840240380334358876 tw5047570879600687788 tw2289367876252316701 tw12060340718701796796 tw2925320231523919122 tw626108461707518955 tw469559069668820613 tw3054212133709211075 tw315751448878916171 tw16136199792679044624 tw12568018516715575364 tw7120596186187869840 tw10625565096370093787 tw10568431554654144481 tw3169005752707384466 tw15315343667501660959 tw8425323516046175922 tw7592743023542697406 tw3867438236569793503 tw2042155232728762146 tw5059996015201269255 tw10636252772534664755 tw9916842382207803959 tw18352553422405088110 tw2583915427663267311 tw1220456997781102231 tw5749677448556890897 tw10458456829343901424 tw10398797079860416653 tw16765574648981546467 tw9798828199721196429 tw6893408391933952794 tw14448897569826458210 tw7334304962961440998 tw4881402976083630318 tw24408714584862994 tw1639566562718162679 tw15710975642625109675 tw16525398909021331542 tw9428118242940262746 tw16384006416538052140 tw11460826688431472607 tw4900921763175802135 tw5065539672638918529 tw466234533011678865 tw11649702434938474149 tw1105703728709467056 tw247403643403551549 tw6469927243012345531 tw4931199070012146914 tw7401296627825122391 tw5737002276671655907 tw14930325227265648092 tw13581417507385621874 tw9198389221107970839 tw4570989661020946401 tw8052792773883904473 tw3774436223424994383 tw11455722871367147648 tw2543594459581481638 tw15914770273039041818 tw2722521067039210896 tw1363071653263840939 tw18181622187251390459 tw7583709832360663452 tw11376679156782646594 tw1753412586432055996 tw6677183166816740293 tw474025457807326314 tw7258908559248957129 tw4561496014555499560 tw1873141842692410586 tw14846790068040085852 tw8970067103940457104 tw8650845027636316183 tw4535691864665772214 tw16654190627129106863 tw14617798931885120882 tw1918951509178648048 tw10616353313607051142 tw18154215276229799520 tw11141893826676086957 tw11061910326228026300 tw2001659357545285236 tw5881646511567498159 tw338564653565630948 tw7498399333884921494 tw5938129627699814651 tw60298203799456883 tw7253633510035980882 tw12919750076461409382 tw9112959387930867558 tw6351515958308212433 tw7346862601162654835 tw791645479896270775 tw13381414364177356330 tw2934064197380908914 tw1429745213220327570 tw17538774305324325996 tw14952629156546436103 tw6437674056798361902 tw1040708690670750255 tw12122165795097927191 tw4983428454000152242 tw2976726836705968454 tw645564783298930894 tw7000816444005652298 tw6269511366435014131 tw13696194471321973286 tw9681113575068996072 tw2752881870867111559 tw6547628888479000811 tw7754709292476964738 tw3065987839865744590 tw7439960754665732203 tw7171214762606136273 tw13040654146007879316 tw10654724176265086032 tw2856016341249371576 tw17927154171537555878 tw9869326976931952167 tw9438965797325890915 tw13666501006979082280 tw877889573059762018 tw586527895033358051 tw6557889461710034921 tw14213532376180197364 tw1243043493847981326 tw5960610984822978769 tw5831539597062417657 tw1517559341102794323 tw14366082176017548800 tw13391205963093553242 tw14891417599508891340 tw3745249583166921993 tw2969083284089085293 tw2936824473587283890 tw13142854547819389852 tw978793010973989166 tw5503112859539584810 tw4861402957518720046 tw4531336254749682321 tw2602371795638206016 tw14289400726690805167 tw3542998003663851520 tw9908679659766208968 tw9791537986289298275 tw16738691773981166600 tw1366095663027835243 tw304707884585393326 tw7924237508153365833 tw18076917875153604355 tw7309786057064163720 tw9500890783364022975 tw9328952774127729561 tw5726180804926590845 tw4430281186863491888 tw16088790775157672425 tw15043523140623601394 tw11681637869359020619 tw13008312938015921522 tw601937733340623106 tw5298070300882484106 tw5268360181712600911 tw5114519096931695006 tw3607290835005993478 tw16714839623401615215 tw8848121062583495792 tw18321275296860789855 tw14013013788752030057 tw112855679248784442 tw13561256937728828535 tw13272360795515931822 tw7811142706074879252 tw6173552476600567084 tw10787434032586395178 tw9240953877491946603 tw7101362189861761 tw4873445811015465311 tw2900746275358168198 tw1411994513485547645 tw10473853593712838108 tw16736291462455390931 tw13292829197729703195 tw601234829589319446 tw5703234571266112912 tw13211329916962357015 tw12967241469096214440 tw12265984808567131543 tw15575997273427905611 tw14800775064342275692 tw9781889832454087071 tw9163702133277669150 tw8273462323129641671 tw5334366823099082963 tw4209140288400276546 tw2485626305207222901 tw17383778012062118940 tw15328523936472495627 tw14953141722627237119 tw1272866331742749698 tw9581971985489005540 tw239099119487219650 tw17339310661551127364 tw10340301618274761921 tw313180587525849432 tw18249355335336448117 tw3708729778193924861 tw6410846997530752688 tw317399129464945364 tw15381575023736219713 tw8764640033362071403 tw1776534783612781156 tw16794193633785406907 tw9631530486714917013 tw9066660409874773022 tw3798852401597124392 tw14358562828042697995 tw13883526888756484818 tw11659192861017316079 tw18022342168904371721 tw5248846048154433028 tw4744194935840116911 tw3942789708680492106 tw3345810216880234307 tw14953139048701554854 tw1491180477613346710 tw13172850845695583093 tw10767062211168397169 tw9411555694609246641 tw7335741200013502203 tw6519931333476425438 tw16212202447708736655 tw6530428391388686703 tw5519220485764523272 tw5243745714393154322 tw4754078714180911132 tw4322837857680282681 tw3733507287623172460 tw16851752031951386490 tw14096371868775785918 tw13916248585321490443 tw12790332278165714996 tw10964343273655237965 tw10385349733500503450 tw10039562661094394481 tw12692018351568708921 tw9552854314974985693 tw1157119482174384191 tw7631882453060327460 tw6974259535263682460 tw6313297833187189556 tw605715082093472882 tw583445774272066548 tw4065273335067103218 tw28021963271742082 tw226494178837793095 tw1860663877933310986 tw17189222389872601539 tw17091534560120501629 tw17068741820188198596 tw16513826542110363159 tw16100934140034978869 tw1463744208155603526 tw13701737232660330638 tw13217842350433856787 tw1303908676005656475 tw1259328602133277244 tw11305460119427732123 tw10857217547569500221 tw8827512688908872274 tw8539640998114094988 tw7722023369755965916 tw6697756682843094855 tw666396900981532620 tw5540794483768831772 tw5172310295885741336 tw5012820653865080500 tw3405008502132676182 tw2646577355172794911 tw17649467954081455845 tw17178593196291076795 tw16290800094212434440 tw1590687492292636052 tw1558872937130328030 tw13652872272477693833 tw12671672431868008673 tw12456389909520242961 tw11397810486899987224 tw1010165479507591301 tw10139374538847270449 tw2199931388871324257 tw12563330829349029450 tw6616850456254253848 tw6320497547774871555 tw6212697507906179684 tw6147378751423656293 tw3314888979578802479 tw2728440909821723880 tw18126089718716772965 tw17741617696555253924 tw16884978674283699559 tw16602110121279118786 tw15906644775128575711 tw13698000301854168803 tw10756107719943573255 tw10084209831921963541 tw9681557481558471563 tw9196491984092039303 tw6027874371207996366 tw5119912900669750061 tw4699146186373786230 tw2835142306567684003 tw2538276247523588815 tw2358460168772717633 tw17902290737082196101 tw17013334722919881399 tw16882055082746748783 tw16077134826148293948 tw15556426818984874004 tw14922808026488605139 tw13987615358450748092 tw13849035638031991553 tw12603339773398073763 tw1102621291556031177 tw10630096819507934441 tw10372863878029270913 tw8250646748389208164 tw6564753351936328774 tw9977781686986412265 tw9973371237067690157 tw9961762420052623102 tw9853533486468042885 tw9833789589030503241 tw9780282994310427341 tw9755196903025666428 tw9704327328372122555 tw9608120728166429659 tw9491858527181533512 tw9483512120447318026 tw9363613724097116893 tw920162765110602912 tw9179702910668941098 tw9179145216896516775 tw868403028396768028 tw8671828125771869174 tw8613252551329380835 tw8594191424758111443 tw8591754443183637882 tw8495260459278494321 tw8488195336205351793 tw829523332164734736 tw8160076219529459819 tw8154611794400696707 tw8122956686278750691 tw8108681731091638158 tw7939919769600688455 tw7866815299148999085 tw7757091338434521178 tw769255215970075669 tw7633666542245496331 tw7559704593192699299 tw7380008281408411387 tw731069317844941486 tw7277525343019971910 tw7237874613976235279 tw7193343697364808061 tw7155801771916001926 tw701243295529201547 tw6974687980478878883 tw6809817485256949628 tw6733027484403708044 tw653413747367456493 tw6342918801466102053 tw6157776791506228527 tw6069503179979749055 tw6056912518360837971 tw603855734406266924 tw5722281687007242698 tw5681745862594009372 tw5670832716343857852 tw5570055393614038747 tw5497411001834615363 tw5406984169729618793 tw5382552148596021527 tw5360016696709424958 tw5332823843255589207 tw5277746096550695944 tw5177993418116970537 tw5173362422768123056 tw5047751773290005538 tw4710086077332916862 tw4692370484238071650 tw4687127692616374339 tw4683716753173133925 tw4672864763893052519 tw4607347449262639861 tw4600763970634503560 tw4470937755447468235 tw4437789018817893975 tw4362367861365048240 tw4332258899198566906 tw4310745527543260105 tw426339581418159250 tw4234182775765003456 tw4223849034621580116 tw4082184737549843155 tw3968556245473590786 tw3914892930300004661 tw3604440392156492255 tw3529395494469604582 tw3462637028911609778 tw3412566481718866290 tw3246582971898800408 tw3244795815326721294 tw3222076389831176573 tw3150403713846283420 tw3093163707030142260 tw3087013492128310805 tw3048722715103722232 tw2977369051496059261 tw2948547211882718630 tw2660662399010189788 tw2657628897305387771 tw2590219632312053018 tw2584232698372441976 tw2470571369444257229 tw2402085562209401489 tw2222638358482488083 tw2102241287936166331 tw2005783792584291001 tw2000861116813921249 tw18237866369370048118 tw18059805460709777951 tw17977292627980500718 tw17975076309520012518 tw17930674132885714837 tw17916957491300065835 tw1790837575343638908 tw1779782666816943830 tw17728823160715898822 tw1767359313658833710 tw17619536139389772170 tw17530108925895155761 tw17417418334944522407 tw17355607552130165692 tw17275574833535714202 tw17037578704850153249 tw16786478707643534952 tw16727074383094629608 tw16669518098725338871 tw16304015154690861648 tw16265533640863787224 tw16246493568615136561 tw16204237778162640103 tw16044754123936874352 tw16033200225812691050 tw16026457539846526961 tw15972815108672090978 tw15900435494988433569 tw15741691611684742135 tw15604780058436352951 tw15573420188127137703 tw15536158116922414380 tw15407322787450787111 tw15402512736847246082 tw15325243575934817562 tw15209123862046477460 tw15088735457650814257 tw150430877091265105 tw150380910203161031 tw15026710136311214386 tw14975881991129843141 tw1492967643716895399 tw14872975619409413954 tw14830373957853279849 tw14817639069222686916 tw14813607441730858358 tw14751739191472724157 tw14724358811464140256 tw14715089923045775815 tw1471318211100642940 tw14600592790845144029 tw14553290383970194341 tw14384177550903600329 tw14340325236164367030 tw14272689411425063024 tw14132891138032836080 tw14115124687617132469 tw14001771609555679223 tw13913300703567571490 tw13867039051470668397 tw13828548610702472316 tw13814533863771466625 tw13803596374541345812 tw13756152271130786521 tw13659115621747015072 tw13108986806036299055 tw13045493364975968372 tw12950572577539055324 tw12930193227830980744 tw12906356187949922509 tw12891811662775302625 tw1286748617957677523 tw12817291966330165470 tw12776697082006251308 tw12350453402744961640 tw12329309421745112125 tw12086472441669447153 tw1201573871529011633 tw11996464158859833780 tw11952985448948547646 tw11952936018329849213 tw11911053678041862195 tw11897974421532037012 tw11852739081868767058 tw11788130372049305321 tw11786961713185802550 tw11779191867618131510 tw1156238230806058065 tw11344615268966952834 tw11277886915246646936 tw11253002114899281109 tw11189629092938071171 tw11141948353299957687 tw11065614351820033370 tw10936668152269886958 tw10903750563476777766 tw1088330423804291878 tw10795358063620532781 tw10795139720437415345 tw10717786528307305389 tw10676560238321596941 tw10605993845841833915 tw10602210211790067444 tw10291305223245932700 tw10255923642971647179 tw10107144577972879560 tw10013125014446278873 tw10005982491204909872:True)
open PySem PySem.W PyProof.Rows
set_option maxRecDepth 100000 in
set_option maxHeartbeats 0 in
theorem PySem.Challenge.cw_wormyard_k47_moves_listed_holds : PySem.Challenge.rw_wormyard_k47_moves_listed.Holds := by
 w_on;o_law;k_head; (case hw=>w_witness2)
 k_fill
 refine K47.walk (l:=PySem.Challenge.rw_wormyard_k47_moves_listed) rfl rfl (λw h Y=>PySem.W.kIn_of Y) ?F
 case F =>
  intro w mg fa h KX G hmg
  refine' K47.all_mk KX G hmg ?Aa ?Ab ?Ac ?Ad ?Ae ?Af ?Ag ?Ah ?Ai ?Aj ?Ak ?Al ?Am ?An ?Ao ?Ap ?Aq ?Ar ?As ?At ?Au ?Av ?Aw ?Ax ?Ay ?Az ?Ba ?Bb ?Bc ?Bd ?Be ?Bf ?Bg ?Bh ?Bi ?Bj ?Bk ?Bl ?Bm ?Bn ?Bo ?Bp ?Bq ?Br ?Bs ?Bt ?Bu ?Bv ?Bw ?Bx ?By ?Bz ?Ca ?Cb ?Cc ?Cd ?Ce ?Cf ?Cg ?Ch ?Ci ?Cj ?Ck ?Cl ?Cm ?Cn ?Co ?Cp ?Cq ?Cr ?Cs ?Ct ?Cu ?Cv ?Cw ?Cx ?Cy ?Cz ?Da ?Db ?Dc ?Dd ?De ?Df ?Dg ?Dh ?Di ?Dj ?Dk ?Dl ?Dm ?Dn ?Do ?Dp ?Dq ?Dr ?Ds ?Dt ?Du ?Dv ?Dw ?Dx ?Dy ?Dz ?Ea ?Eb ?Ec ?Ed ?Ee ?Ef ?Eg ?Eh ?Ei ?Ej ?Ek ?El ?Em ?En ?Eo ?Ep ?Eq ?Er ?Es ?Et ?Eu ?Ev ?Ew ?Ex ?Ey ?Ez ?Fa ?Fb ?Fc ?Fd ?Fe ?Ff ?Fg ?Fh ?Fi ?Fj ?Fk ?Fl ?Fm ?Fn ?Fo ?Fp ?Fq ?Fr ?Fs ?Ft ?Fu ?Fv ?Fw ?Fx ?Fy ?Fz ?Ga ?Gb ?Gc ?Gd ?Ge ?Gf ?Gg ?Gh ?Gi ?Gj ?Gk ?Gl ?Gm ?Gn ?Go ?Gp ?Gq ?Gr ?Gs ?Gt ?Gu ?Gv ?Gw ?Gx ?Gy ?Gz ?Ha ?Hb ?Hc ?Hd ?He ?Hf ?Hg ?Hh ?Hi ?Hj ?Hk ?Hl ?Hm ?Hn ?Ho ?Hp ?Hq ?Hr ?Hs ?Ht ?Hu ?Hv ?Hw ?Hx ?Hy ?Hz ?Ia ?Ib ?Ic ?Id ?Ie ?If ?Ig ?Ih
  case Aa|Ab|Ac|Ad|Ae|Af|Ag|Ah|Ai|Aj=>k_is
  case Ak|Al|Am|An|Ao|Ap|Aq|Ar|As|At|Au|Av|Aw|Ax|Ay|Az|Ba|Bb|Bc|Bd|Be|Bf|Bg|Bh|Bi|Bj|Bk|Bl|Bm|Bn|Bo|Bp|Bq|Br|Bs|Bt|Bu|Bv|Bw|Bx|By|Bz|Ca|Cb|Cc|Cd|Ce|Cf|Cg|Ch|Ci|Cj|Ck|Cl|Cm|Cn|Co|Cp|Cq|Cr|Cs|Ct|Cu|Cv|Cw|Cx|Cy|Cz|Da|Db|Dc|Dd|De|Df|Dg|Dh|Di|Dj|Dk|Dl|Dm|Dn|Do|Dp|Dq|Dr|Ds|Dt|Du|Dv=>first |(refine' K47.mkT (by assumption) (by assumption) ?b ?a ?l ?c ?k;(case b=>first|exact λ_ _ _ _ _ _=>K47.len_of1 (λ_=>rfl)|exact λ_ _ _ _ _ _=>K47.len_of2 (λ_ _=>rfl)|exact λ_ _ _ _ _ _=>K47.len_of3 (λ_ _ _=>rfl)|exact λ_ _ _ _ _ _=>K47.len_of4 (λ_ _ _ _=>rfl)|exact λ_ _ _ _ _ _=>K47.len_of5 (λ_ _ _ _ _=>rfl));(case a=>k_is);(case l=>k_is);(case c=>k_is);(case k=>k_is))|(refine' K47.mkM ?b ?a ?l ?c ?k ?i;(case b=>first|exact λ_ _ _ _ _ _=>K47.len_of1 (λ_=>rfl)|exact λ_ _ _ _ _ _=>K47.len_of2 (λ_ _=>rfl)|exact λ_ _ _ _ _ _=>K47.len_of3 (λ_ _ _=>rfl)|exact λ_ _ _ _ _ _=>K47.len_of4 (λ_ _ _ _=>rfl)|exact λ_ _ _ _ _ _=>K47.len_of5 (λ_ _ _ _ _=>rfl));(case a=>k_is);(case l=>k_is);(case c=>k_is);(case k=>k_is);(case i=>k_is))|k_is
  case Dw|Dx|Dy|Dz|Ea|Eb|Ec|Ed|Ee|Ef|Eg|Eh|Ei|Ej|Ek|El|Em|En|Eo|Ep|Eq|Er|Es|Et|Eu|Ev|Ew|Ex|Ey|Ez|Fa|Fb|Fc|Fd|Fe|Ff|Fg|Fh|Fi|Fj|Fk|Fl|Fm|Fn|Fo|Fp|Fq|Fr|Fs|Ft|Fu|Fv|Fw|Fx|Fy|Fz|Ga|Gb|Gc|Gd|Ge|Gf|Gg|Gh|Gi|Gj|Gk|Gl|Gm|Gn|Go|Gp|Gq|Gr|Gs|Gt|Gu|Gv=>k_is
  case Gw=>kernel_rfl
  case Gx=>k_is
  case Gy=>kernel_rfl
  case Gz|Ha|Hb|Hc=>k_is
  case Hd|He|Hf=>first | k_is | kernel_rfl
  case Hg|Hh|Hi=>k_is
  case Hj=>kts_exm
  case Hk=>k_is
  case Hl|Hm|Hn|Ho|Hp|Hq|Hr|Hs|Ht|Hu|Hv=>kit_is
  case Hw|Hx|Hy|Hz|Ia|Ib|Ic|Id|Ie|If|Ig|Ih=>k_is
