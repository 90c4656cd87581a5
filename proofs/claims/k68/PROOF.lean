import PyProof.Rows.All
import Wide.All
import OpenK.AllK
import Wide.FinOn
import Lean
import PyProof.EqAt
import PyProof.EqKinds
import PyProof.TupleCall
import PyProof.ExcBaseAll.ValueError
import PyProof.EnumMake
import PyProof.Rows.EnumRows
import PyProof.TupleIter
import PyProof.DictValues
import PyProof.CollectStr
import PySem.Builtin.Int.W1All
import PyProof.DictRoadsH
import PyProof.DictKinds
import PyProof.FactsAll.NoneType
import KE.KRevIter
import PyProof.FactsAll.list_3
import KE.KDictList
import PyProof.DictIter
import PyProof.DictWalks
import PyProof.ListRange
import PyProof.Rows.SumAny
import PyProof.Rows.SeqCalls
import PyProof.P3In
import PyProof.DictItems
import KE.KPairComp
import PyProof.FactsAll.dict_3
import PyProof.CollectIter
import PyProof.TupleOfGen
import PyProof.TupleOfSeq
import PyProof.FactsAll.subtypes_4
import PyProof.ZipIter
import KE.KDictLaws
import PySem.Challenge.RW_wormyard_k68_stands_of_rings
set_option compiler.extract_closed false
set_option Elab.async false
set_option linter.all false
set_option maxRecDepth 100000
set_option maxHeartbeats 4000000
theorem η0(h:1=1:=by rfl):1=1:=h
def η:=η0._auto_1
theorem θ0(h:1=1:=by decide):1=1:=h
def θ:=θ0._auto_1
theorem ζ0(h:1=1:=by first | exact .inl rfl | exact .inr rfl | assumption):1=1:=h
def ζ:=ζ0._auto_1
theorem ξ0(h:1=1:=by decide +kernel):1=1:=h
def ξ:=ξ0._auto_1
theorem ψ0(h:1=1:=by intro _;rfl):1=1:=h
def ψ:=ψ0._auto_1
open PySem.W (Frag keepIn findIn fnOf codeIn nsIn mg_of isFn kitOne hasDictIn mg_none_of plainGet plainOver makesIn)
open List (getElem?_eq_getElem getElem?_map getElem?_append_left find?_cons getElem?_set_ne getElem?_concat_length getElem?_append_right all_cons all_eq_true all_map any_cons append_assoc append_nil eq_of_mem_replicate ext_getElem? filterMap_cons filter_append flatMap_eq_nil_iff forIn_cons forIn_nil getD_eq_getElem?_getD getElem_map getElem_mem getElem_of_mem length_append length_cons length_drop length_filter_le length_map length_range length_replicate length_set length_singleton length_take length_take_le lookup_cons map_append map_congr_left map_cons map_map map_nil mem_append mem_append_left mem_append_right mem_cons mem_cons_of_mem mem_cons_self mem_filter mem_flatMap mem_map mem_of_find?_eq_some mem_of_getElem? mem_of_head? mem_of_mem_take mem_range mem_reverse mem_singleton mem_take_iff_getElem nodup_cons nodup_nil nodup_range not_mem_nil of_mem_zip range_succ size_toArray sum_cons take_length take_of_length_le take_succ take_zero)
open Nat (le_of_eq le_of_lt le_refl le_succ le_trans lt_irrefl lt_of_le_of_lt lt_of_lt_of_le lt_or_ge lt_succ_self min_eq_left mod_eq_of_lt mod_lt mod_self ne_of_gt ne_of_lt not_lt_zero pow_le_pow_right sub_self testBit_lt_two_pow zero_le)
open Int (add_emod_right emod_lt_of_pos emod_nonneg natCast_emod natCast_mul toNat_natCast zero_add)
open PySem.F (args_tuple_add_2 entry_tuple_add plainAttrs_list slot_list_extend slot_tuple_add type_list_extend)
open PySem.Heap (lt_size size_push)
noncomputable section
abbrev L2.zQ0:PySem.Scope:={kind:=.function,names:=[],isGenerator:=false,isCoroutine:=false}
theorem L2.gQ0 {α:Type}{l:List α}{i:Nat}{a:α}(h:l[i]?=some a):i<l.length:=(List.getElem?_eq_some_iff.mp h).1
namespace L2
theorem DU {α:Type}{n:Nat}{l:List α}(h:l.length=n + 1):∃ a t,l=a :: t/\t.length=n:=by
 cases l with
 | nil=>cases h
 | cons a t=>exact⟨a,t,rfl,Nat.succ.inj h⟩
open PySem PySem.Spec PyProof.Rows
abbrev dP:=Sum Int Str
noncomputable def vF:dP->Value->Bool
 | .inl k,v=>Value.isInt k v
 | .inr x,v=>Value.isStrOf x v
noncomputable def NA (w:World):dP->Int
 | .inl k=>hashInt k
 | .inr x=>hashStr w x
theorem b7:∀ {k:dP}{v:Value},vF k v=true->(∃ i t,k=Sum.inl i/\v=Value.int i t)∨(∃ x t,k=Sum.inr x/\v=Value.str x t)
 | .inl i,v,h=>by
  obtain⟨t,e⟩:=Value.isInt_shape (k:=i) (v:=v) h
  exact .inl ⟨i,t,rfl,e⟩
 | .inr x,v,h=>by
  obtain⟨t,e⟩:=Value.isStrOf_shape (x:=x) (v:=v) h
  exact .inr ⟨x,t,rfl,e⟩
theorem xn (a b:Int):decide ((Sum.inl a:dP)=Sum.inl b)=(a == b):=by
 by_cases e:a=b
 ·subst e;simp
 ·have h:¬ (Sum.inl a:dP)=Sum.inl b:=fun q=>e (Sum.inl.inj q)
  rw[decide_eq_false h]
  exact(beq_eq_false_iff_ne.mpr e).symm
theorem xj (a b:Str):decide ((Sum.inr a:dP)=Sum.inr b)=decide (a=b):=by
 by_cases e:a=b
 ·subst e;simp
 ·have h:¬ (Sum.inr a:dP)=Sum.inr b:=fun q=>e (Sum.inr.inj q)
  rw[decide_eq_false h,decide_eq_false e]
theorem xm (a:Int)(b:Str):decide ((Sum.inl a:dP)=Sum.inr b)=false:=decide_eq_false (fun q=>nomatch q)
theorem xk (a:Str)(b:Int):decide ((Sum.inr a:dP)=Sum.inl b)=false:=decide_eq_false (fun q=>nomatch q)
noncomputable def kM (prog:Program)(w:World):PySem.KeyKind prog w dP where
 is:=vF
 hash:=NA w
 inj:=fun v a b ha hb=>by
  rcases b7 ha with ⟨i,t,rfl,rfl⟩ | ⟨x,t,rfl,rfl⟩
  ·rcases b7 hb with ⟨j,u,rfl,e⟩ | ⟨y,u,rfl,e⟩
   ·injection e with e1 _;rw[e1]
   ·exact nomatch e
  ·rcases b7 hb with ⟨j,u,rfl,e⟩ | ⟨y,u,rfl,e⟩
   ·exact nomatch e
   ·injection e with e1 _;rw[e1]
 byValue:=fun k v h=>by
  rcases b7 h with ⟨i,t,rfl,rfl⟩ | ⟨x,t,rfl,rfl⟩<;>rfl
 pyHash:=fun hv h=>by
  rcases b7 hv with ⟨i,t,rfl,rfl⟩ | ⟨x,t,rfl,rfl⟩
  ·exact wpAny_pyHash_int h
  ·exact wpAny_pyHash_str h
 eqBool:=fun hu hv h=>by
  rcases b7 hu with ⟨i,t,rfl,rfl⟩ | ⟨x,t,rfl,rfl⟩
  ·rcases b7 hv with ⟨j,u,rfl,rfl⟩ | ⟨y,u,rfl,rfl⟩
   ·rw[xn]at h;exact wpAny_eqBool_int h
   ·rw[xm]at h;exact SeqAt.EqAt.int_str i t y u _ _ _ _ h
  ·rcases b7 hv with ⟨j,u,rfl,rfl⟩ | ⟨y,u,rfl,rfl⟩
   ·rw[xk]at h;exact SeqAt.EqAt.str_int x t j u _ _ _ _ h
   ·rw[xj]at h;exact wpAny_eqBool_str h
 «strs»:=fun k x t v h=>by
  rcases b7 h with ⟨i,u,rfl,e⟩ | ⟨y,u,rfl,e⟩
  ·exact nomatch e
  ·injection e with e1 _
   subst e1
   cases v<;>rfl
open PySem.Spec PyProof.Rows
inductive V where
 | yd | bl (b:Bool) | int (i:Int) | str (x:Str) | Bj (b:Array UInt8) | Fb (b:UInt64) | ref (a:Addr) | ty (n:String)
 deriving DecidableEq
noncomputable def RelV:V->Value->Prop
 | .yd,u=>u=Value.none
 | .bl b,u=>u=Value.bool b
 | .int i,u=>∃ t,u=Value.int i t
 | .str x,u=>∃ t,u=Value.str x t
 | .Bj b,u=>∃ t,u=Value.bytes b t
 | .Fb b,u=>∃ t,u=Value.float b t
 | .ref a,u=>u=Value.ref a
 | .ty n,u=>u=Value.type n
abbrev Vals:List V->List Value->Prop:=Paired RelV
theorem Vals.length {xs:List V}{us:List Value}(r:Vals xs us):xs.length=us.length:=Paired.length r
theorem Vals.get:∀ {xs:List V}{us:List Value}{i:Nat}{x:V},Vals xs us->xs[i]? = some x->∃ u,us[i]? = some u/\RelV x u
 | _,_,_,_, .nil,e=>by simp at e
 | _,_,0,_, .cons r _,e=>by simp at e;subst e;exact⟨_,rfl,r⟩
 | _,_,i + 1,x, .cons _ t,e=>by
  obtain⟨u,h1,h2⟩:=Vals.get (i:=i) (x:=x) t (by simpa using e)
  exact⟨u,by simpa using h1,h2⟩
theorem Vals.set {x:V}{u:Value}(r:RelV x u):∀ {xs:List V}{us:List Value}(i:Nat),Vals xs us->Vals (xs.set i x) (us.set i u)
 | _,_,_, .nil => .nil
 | _,_,0, .cons _ t => .cons r t
 | _,_,i + 1, .cons q t => .cons q (Vals.set r i t)
theorem Vals.append:∀ {xs ys:List V}{us ws:List Value},Vals xs us->Vals ys ws->Vals (xs ++ ys) (us ++ ws)
 | _,_,_,_, .nil,s=>s
 | _,_,_,_, .cons r t,s => .cons r (Vals.append t s)
theorem Vals.take:∀ {xs:List V}{us:List Value}(n:Nat),Vals xs us->Vals (xs.take n) (us.take n)
 | _,_,0,_ => .nil
 | _,_,_ + 1, .nil => .nil
 | _,_,n + 1, .cons r t => .cons r (Vals.take n t)
theorem Vals.drop:∀ {xs:List V}{us:List Value}(n:Nat),Vals xs us->Vals (xs.drop n) (us.drop n)
 | _,_,0,r=>r
 | _,_,_ + 1, .nil => .nil
 | _,_,n + 1, .cons _ t=>Vals.drop n t
theorem Vals.none_of:∀ {xs:List V}{us:List Value}{i:Nat},Vals xs us->xs[i]? = none->us[i]? = none:=fun {xs us i} r e=>by
 have h1:=r.length
 have h2:xs.length <= i:=List.getElem?_eq_none_iff.mp e
 exact List.getElem?_eq_none_iff.mpr (by omega)
noncomputable def zb:Option V->Option Value->Prop
 | some v,some u=>RelV v u
 | none,none=>True
 | _,_=>False
noncomputable def KV {κ:Type}:List (κ × V)->List (κ × Value)->Prop:=Paired fun (p:κ × V)(q:κ × Value)=>p.1=q.1/\RelV p.2 q.2
noncomputable def kV:dP->V
 | .inl i => .int i
 | .inr x => .str x
inductive HO where
  | lst (xs:List V)
  | tup (xs:List V)
  | dK (xP:List (dP × V)) | dT (xP:List (List dP × V))
  | set (S:Int->Bool) (n:Nat)
  | ins (C dx:Addr) (fs:List (Str × V))
  | own (x:Addr)
  | xd (fs:List (Str × V))
  | met (f x:Addr)
  | NB (lo hi:Int)
  | yW (o:Obj) (u:HO)
  | DV (ps:Array Value)
  | ext (φ:Heap->Prop)
abbrev Hp:=Addr->Option HO
noncomputable def upd (H:Hp)(a:Addr)(o:HO):Hp:=fun b=>if b=a then some o else H b
theorem ac {H:Hp}{a:Addr}{o:HO}:upd H a o a=some o:=by unfold upd;rw[if_pos rfl]
theorem ae {H:Hp}{a b:Addr}{o:HO}(h:b ≠ a):upd H a o b=H b:=by unfold upd;rw[if_neg h]
theorem aV {H:Hp}{a b:Addr}{o u:HO}(h:H a=some o)(h':H b=some u)(d:o ≠ u):a ≠ b:=by
 intro e;subst e;rw[h]at h';exact d (Option.some.inj h')
theorem ag {H:Hp}{a b:Addr}{o:HO}(h:H a=some o)(h':H b=none):a ≠ b:=by
 intro e;subst e;rw[h]at h';cases h'
noncomputable def yG (h:Heap)(a:Addr)(items:Array Value):Prop:=∃ o,h.get? a=some o/\(o.cls = .type "tuple"/\∃ n,o.data = .seq items n)/\o.dict=none
theorem yG.isTup {h:Heap}{a:Addr}{items:Array Value}:yG h a items->IsTup h a items:=fun xU=>by obtain⟨o,e,c,_⟩:=xU;exact⟨o,e,c⟩
theorem yG.new (h:Heap)(items:Array Value):yG (h.push { cls := .type "tuple",data := .seq items }) h.objs.size items:=⟨_,Heap.get?_push_size _ rfl,⟨rfl,_,rfl⟩,rfl⟩
section
variable (P:Program)(w:World)
noncomputable def ym (H:Hp)(h:Heap)(a:Addr):HO->Prop
 | .lst xs=>xs.length <= sizeLine/\∃ (xT:List Value)(n:Nat),Vals xs xT/\h.get? a=some { cls := .type "list",data := .seq xT.toArray n }
 | .tup xs=>xs.length <= sizeLine/\∃ xT:List Value,Vals xs xT/\yG h a xT.toArray
 | .dK xP=>xP.length <= sizeLine/\(a == sysModules)=false/\∃ vs,KV xP vs/\h.DictOf (kM P w) a vs
 | .dT xP=>xP.length <= sizeLine/\(a == sysModules)=false/\∃ xs:List (List dP × Addr × Value),
   Paired (fun (p:List dP × V)(q:List dP × Addr × Value)=>p.1=q.1/\H q.2.1=some (.tup (p.1.map kV))/\RelV p.2 q.2.2) xP xs /\
   ∃ o es ep,h.get? a=some o/\o.ExactDict/\o.data = .dict es ep/\es.toList=xs.map (entryOfKey (tupleKind (kM P w)))/\(xs.map (·.1)).Nodup
 | .set S n=>h.SetOf (intKind P w) a S n
 | .ins C dx fs=>H dx=some (.own a)/\fs.length <= 1000/\dx ≠ a/\h.get? a=some (PySem.W.instObj C dx) /\
   ∃ mA,h.Ns1 dx mA/\(∀ f,zb (fs.lookup f) (mA f))/\PySem.Within mA (fs.map (·.1))
 | .own _=>∃ o,h.get? a=some o
 | .xd fs=>∃ mA,h.Ns1 a mA/\∀ f,zb (fs.lookup f) (mA f)
 | .NB lo hi=>∃ t u v,h.get? a=some { cls := .type "range",data := .fields #[.int lo t, .int hi u, .int 1 v] }
 | .yW o u=>h.get? a=some o/\ym H h a u
 | .DV ps=>h.get? a=some { cls := .none,data := .fields ps }
 | .met f x=>h.get? a=some (PySem.W.methodObj (.ref f) (.ref x))
 | .ext φ=>φ h/\(∃ o,h.get? a=some o)/\∀ h1 h2:Heap,φ h1->(∀ o,h1.get? a=some o->h2.get? a=some o)->φ h2
noncomputable def zk (H:Hp)(h:Heap):Prop:=∀ a o,H a=some o->ym P w H h a o
end
section
variable {P:Program}{w:World}{H H':Hp}{h h':Heap}{a:Addr}{o:HO}
theorem ym.lt (x:ym P w H h a o):a < h.objs.size:=by
 cases o with
 | lst xs=>obtain⟨_,_,_,_,e⟩:=x;exact lt_size e
 | tup xs=>obtain⟨_,_,_,p⟩:=x;exact p.isTup.lt
 | dK xP=>obtain⟨_,_,_,_,o,_,_,e,_⟩:=x;exact lt_size e
 | dT xP=>obtain⟨_,_,_,_,o,_,_,e,_⟩:=x;exact lt_size e
 | set S n=>obtain⟨o,_,_,_,e,_⟩:=x;exact lt_size e
 | ins C dx fs=>obtain⟨_,_,_,e,_⟩:=x;exact lt_size e
 | own y=>obtain⟨_,e⟩:=x;exact lt_size e
 | xd fs=>obtain⟨_,⟨_,_,_,e,_⟩,_⟩:=x;exact lt_size e
 | NB lo hi=>obtain⟨_,_,_,e⟩:=x;exact lt_size e
 | yW ob u=>obtain⟨e,_⟩:=x;exact lt_size e
 | DV ps=>exact lt_size (show h.get? a=some _ from x)
 | met f y=>exact lt_size (show h.get? a=some _ from x)
 | ext φ=>obtain⟨_,⟨_,e⟩,_⟩:=x;exact lt_size e
theorem Paired.HJ {α β:Type}{F G:α->β->Prop}:∀ {l₁:List α}{l₂:List β},Paired F l₁ l₂->(∀ a b,F a b->G a b)->Paired G l₁ l₂
 | _,_, .nil,_ => .nil
 | _,_, .cons r t,f => .cons (f _ _ r) (Paired.HJ t f)
theorem ym.zc (x:ym P w H h a o)(k:∀ b u,(b=a∨H b=some (.own a))->h.get? b=some u->h'.get? b=some u)
  (ho:∀ b,H b=some (.own a)->H' b=some (.own a)) (ht:∀ b xs,H b=some (.tup xs)->H' b=some (.tup xs)):ym P w H' h' a o:=by
 induction o with
 | lst xs=>obtain⟨z,xT,n,r,e⟩:=x;exact⟨z,xT,n,r,k _ _ (.inl rfl) e⟩
 | tup xs=>obtain⟨z,xT,r,ob,e,c⟩:=x;exact⟨z,xT,r,ob,k _ _ (.inl rfl) e,c⟩
 | dK xP=>obtain⟨z,y,vs,r,ob,es,ep,e,c⟩:=x;exact⟨z,y,vs,r,ob,es,ep,k _ _ (.inl rfl) e,c⟩
 | dT xP =>
  obtain⟨z,y,xs,r,ob,es,ep,e,c⟩:=x
  exact⟨z,y,xs,Paired.HJ r fun p q z=>⟨z.1,ht _ _ z.2.1,z.2.2⟩,ob,es,ep,k _ _ (.inl rfl) e,c⟩
 | set S n=>obtain⟨ob,es,ep,t,e,c⟩:=x;exact⟨ob,es,ep,t,k _ _ (.inl rfl) e,c⟩
 | ins C dx fs =>
  obtain⟨d,z,ne,e,mA,⟨od,es,ep,e2,c⟩,r⟩:=x
  exact⟨ho _ d,z,ne,k _ _ (.inl rfl) e,mA,⟨od,es,ep,k _ _ (.inr d) e2,c⟩,r⟩
 | own y=>obtain⟨ob,e⟩:=x;exact⟨ob,k _ _ (.inl rfl) e⟩
 | xd fs=>obtain⟨mA,⟨od,es,ep,e,c⟩,r⟩:=x;exact⟨mA,⟨od,es,ep,k _ _ (.inl rfl) e,c⟩,r⟩
 | NB lo hi=>obtain⟨t,u,v,e⟩:=x;exact⟨t,u,v,k _ _ (.inl rfl) e⟩
 | yW ob u ih=>obtain⟨e,q⟩:=x;exact⟨k _ _ (.inl rfl) e,ih q⟩
 | DV ps =>
  have e:h.get? a=some { cls := .none,data := .fields ps }:=x
  show h'.get? a=some { cls := .none,data := .fields ps }
  exact k a _ (.inl rfl) e
 | met f y =>
  have e:h.get? a=some (PySem.W.methodObj (.ref f) (.ref y)):=x
  show h'.get? a=some (PySem.W.methodObj (.ref f) (.ref y))
  exact k a _ (.inl rfl) e
 | ext φ=>obtain⟨p,⟨o,e⟩,st⟩:=x;exact⟨st _ _ p fun o q=>k _ _ (.inl rfl) q,⟨o,k _ _ (.inl rfl) e⟩,st⟩
theorem zk.lt (x:zk P w H h)(e:H a=some o):a < h.objs.size:=(x a o e).lt
theorem zk.fresh (x:zk P w H h)(e:h.objs.size <= a):H a=none:=by
 cases q:H a with
 | none=>rfl
 | some u=>exact absurd (lt_of_lt_of_le (x.lt q) e) (lt_irrefl _)
theorem zk.kept (x:zk P w H h)(k:∀ b u,h.get? b=some u->h'.get? b=some u):zk P w H h':=fun a o e =>
 (x a o e).zc (fun b u _ q=>k b u q) (fun _ q=>q) fun _ _ q=>q
theorem zk.laid (x:zk P w H h)(k:∀ b u,h.get? b=some u->h'.get? b=some u)(hp:h.objs.size <= a)(new:ym P w (upd H a o) h' a o):zk P w (upd H a o) h':=fun b u e=>by
 have hn:=x.fresh hp
 by_cases hb:b=a
 ·subst hb;rw[ac]at e;cases e;exact new
 ·rw[ae hb]at e
  exact(x b u e).zc (fun c v _ q=>k c v q) (fun c q=>by rw[ae (ag q hn)];exact q) fun c xs q=>by rw[ae (ag q hn)];exact q
end
noncomputable def Rd (H:Hp)(a:Addr)(u:HO):Prop:=H a=some u∨∃ o,H a=some (.yW o u)
theorem Rd.ok {P:Program}{w:World}{H:Hp}{h:Heap}{a:Addr}{u:HO}(r:Rd H a u)(x:zk P w H h):ym P w H h a u:=by
 rcases r with r | ⟨o,r⟩
 ·exact x a u r
 ·obtain⟨_,q⟩:=x a _ r
  exact q
noncomputable def LV:Option HO->Prop
 | some (.lst _)=>True
 | some (.dK _)=>True
 | some (.dT _)=>True
 | some (.set _ _)=>True
 | some (.ins _ _ _)=>True
 | some (.ext _)=>True
 | _=>False
section
variable {P:Program}{w:World}{H:Hp}{h h':Heap}{x e:Addr}{o':HO}
theorem zk.write (ok:zk P w H h)(mu:LV (H x))(he:e=x∨H e=some (.own x))(k:∀ b u,b ≠ e->h.get? b=some u->h'.get? b=some u)(GN:∃ u,h'.get? e=some u)
  (new:ym P w (upd H x o') h' x o'):zk P w (upd H x o') h':=fun b u q=>by
 have HK:∀ c y,H c=some (.own y)->c ≠ x:=fun c y r z=>by subst z;rw[r]at mu;exact mu
 have NC:∀ c xs,H c=some (.tup xs)->c ≠ x:=fun c xs r z=>by subst z;rw[r]at mu;exact mu
 by_cases hb:b=x
 ·subst hb;rw[ac]at q;cases q;exact new
 ·rw[ae hb]at q
  by_cases Fc:b=e
  ·have q':H b=some (.own x):=by
    rcases he with z | z
    ·exact absurd (Fc.trans z) hb
    ·rw[Fc];exact z
   rw[q]at q';cases q'
   obtain⟨v,hv⟩:=GN
   exact⟨v,by rw[Fc];exact hv⟩
  ·refine(ok b u q).zc (fun c v hc r=>k c v ?_ r) (fun c r=>by rw[ae (HK c b r)];exact r) fun c xs r=>by rw[ae (NC c xs r)];exact r
   rcases hc with rfl | hc
   ·exact Fc
   ·rintro rfl
    rcases he with z | z
    ·exact HK c b hc z
    ·rw[hc]at z;cases z;exact hb rfl
end
structure Un (fs ex:List Addr)(H H':Hp)(h h':Heap):Prop where
 keep:∀ b o,h.get? b=some o->H b=none->b ∉ fs->b ∉ ex->h'.get? b=some o
 slot:∀ b o,h.get? b=some o->H b=none->b ∈ fs->b ∉ ex->∃ sl,h'.get? b=some { o with slots:=sl }
 free:∀ b o,h.get? b=some o->H b=none->b ∉ ex->H' b=none
 there:∀ b o,h.get? b=some o->b ∉ ex->∃ o',h'.get? b=some o'
 zV:∀ b xs,H b=some (.tup xs)->H' b=some (.tup xs)
 zG:∀ b o u,H b=some (.yW o u)->H' b=some (.yW o u)
 zW:∀ b ps,H b=some (.DV ps)->∃ more,H' b=some (.DV (ps ++ more))
section
variable {fs BA ex GO:List Addr}{H H1 H2:Hp}{h h1 h2 h':Heap}{a x e:Addr}{o:HO}
theorem Un.any (u:Un fs ex H H1 h h1){b:Addr}{ob:Obj}(q:h.get? b=some ob)(n:H b=none)(hx:b ∉ ex):∃ sl,h1.get? b=some { ob with slots:=sl }:=by
 by_cases hb:b ∈ fs
 ·exact u.slot b ob q n hb hx
 ·exact⟨ob.slots,u.keep b ob q n hb hx⟩
theorem Un.kept (k:∀ b u,h.get? b=some u->h'.get? b=some u):Un fs ex H H h h' :=
 ⟨fun b ob q _ _ _=>k b ob q,fun b ob q _ _ _=>⟨ob.slots,k b ob q⟩,fun _ _ _ n _=>n,fun b ob q _=>⟨ob,k b ob q⟩,fun _ _ q=>q,fun _ _ _ q=>q,fun _ ps q=>⟨#[],by rw[q];simp⟩⟩
theorem Un.refl:Un fs ex H H h h:=Un.kept fun _ _ q=>q
theorem Un.laid (k:∀ b u,h.get? b=some u->h'.get? b=some u)(hp:h.objs.size <= a)(hn:H a=none):Un fs ex H (upd H a o) h h' where
 keep:=fun b u q _ _ _=>k b u q
 slot:=fun b u q _ _ _=>⟨u.slots,k b u q⟩
 free:=fun b u q n _=>by rw[ae (ne_of_lt (lt_of_lt_of_le (lt_size q) hp))];exact n
 there:=fun b u q _=>⟨u,k b u q⟩
 zV:=fun b xs q=>by rw[ae (ag q hn)];exact q
 zG:=fun b u xs q=>by rw[ae (ag q hn)];exact q
 zW:=fun b ps q=>⟨#[],by rw[ae (ag q hn),q];simp⟩
theorem Un.write (mu:LV (H x))(he:e=x∨H e=some (.own x))(k:∀ b u,b ≠ e->h.get? b=some u->h'.get? b=some u)(GN:∃ u,h'.get? e=some u):Un fs ex H (upd H x o) h h':=by
 have hx:∀ b,H b=none->b ≠ x:=fun b n z=>by subst z;rw[n]at mu;exact mu
 have hb:∀ b,H b=none->b ≠ e:=fun b n z=>by
  subst z
  rcases he with r | r
  ·exact hx b n r
  ·rw[n]at r;cases r
 have hm:∀ b u,H b=some u->¬ LV (some u)->b ≠ x:=fun b u q nm z=>by subst z;rw[q]at mu;exact nm mu
 refine⟨fun b u q n _ _=>k b u (hb b n) q,fun b u q n _ _=>⟨u.slots,k b u (hb b n) q⟩,fun b u q n _=>by rw[ae (hx b n)];exact n,fun b u q _=>?_,
  fun b xs q=>by rw[ae (hm b _ q fun z=>z)];exact q,fun b u xs q=>by rw[ae (hm b _ q fun z=>z)];exact q,fun b ps q=>⟨#[],by rw[ae (hm b _ q fun z=>z),q];simp⟩⟩
 by_cases Fc:b=e
 ·subst Fc;exact GN
 ·exact⟨u,k b u Fc q⟩
end
noncomputable def LW (h:Heap)(H:Hp):List Addr:=(List.range h.objs.size).filter fun a=>(H a).isSome
noncomputable def kX (h:Heap)(H:Hp):Heap:=PySem.W.hideAll h (LW h H)
theorem pV (h:Heap)(H:Hp):(kX h H).objs.size=h.objs.size:=PySem.W.hideAll_size _ _
theorem sE {h:Heap}{H:Hp}{b:Addr}{o:Obj}(e:h.get? b=some o)(n:H b=none):(kX h H).get? b=some o :=
 PySem.W.hideAll_get _ e fun hm=>by
  have q:(H b).isSome=true:=(mem_filter.mp hm).2
  rw[n]at q;simp at q
theorem uJ {h:Heap}{H:Hp}{b:Addr}{o:Obj}(e:(kX h H).get? b=some o):h.get? b=some o/\H b=none:=by
 have e':h.get? b=some o:=PySem.W.of_hideAll (LW h H) e
 refine⟨e',?_⟩
 cases q:H b with
 | none=>rfl
 | some x =>
  have hm:b ∈ LW h H:=mem_filter.mpr ⟨mem_range.mpr (lt_size e'),by simp[q]⟩
  have z:(kX h H).get? b=none:=PySem.W.hideAll_none (LW h H) hm
  rw[z]at e;cases e
structure Mod (K:Frag)(mg:Str->Option Value)(base:Heap):Prop where
 CP:K.In base
 glob:base.Ns mainGlobals mg
 blt:∃ mb,base.Ns builtinsNs mb/\∀ x:Str,x ≠ "__name__"->mb x=bootBuiltins x
 nolimit:base.NoLimit
structure Cx where
 prog:Program
 w:World
 K:Frag
 mg:Str->Option Value
 base:Heap
 A:Around
 N:List Str
 s₀:Shared
 H₀:Hp
 env:Env
 outer:List Env
 stack:List Env
 ex:List Addr
 fn:Str->Bool
 calm:Bool
 pn:List (Addr × Obj)
 xe:Value->Shared->Prop
noncomputable def oY (l:List Env):List Addr:=l.filterMap (·.frame)
abbrev Cx.fs (X:Cx):List Addr:=oY X.outer
noncomputable def ND (sc:Scope)(x:Str):Prop:=sc.names.lookup x=some .local∨sc.names.lookup x=some .cell∨sc.names.lookup x=some .free
noncomputable def Loc (sc:Scope)(x:Str):Prop:=sc.names.lookup x=some .local∨sc.names.lookup x=some .cell
noncomputable def Look (env:Env)(h:Heap)(m:Str->Option Value)(x:Str)(u:Value):Prop :=
 (env.kindOf x=some .local/\m x=some u)∨((env.kindOf x=some .cell∨env.kindOf x=some .free)/\∃ c,env.cells.lookup x=some c/\h.IsCell c (some u))
structure Cx.Ok (X:Cx):Prop where
 mod:Mod X.K X.mg X.base
 kind:X.env.scope.kind = .function
 glob:X.env.globals=mainGlobals
 blt:X.env.builtins=builtinsNs
 above:X.s₀.heap.objs.size <= X.env.locals
 inj:∀ x y c,X.env.cells.lookup x=some c->X.env.cells.lookup y=some c->x=y
 has:∀ x,(X.env.kindOf x=some .cell∨X.env.kindOf x=some .free)->∃ c,X.env.cells.lookup x=some c
 HL:∀ x c,X.fn x=true->X.env.cells.lookup x=some c->X.s₀.heap.objs.size <= c
 hd:X.calm=true->X.A.handled=none
 frames:X.A.frames=some X.stack
 LX:X.stack=X.outer∨(X.stack=X.env :: X.outer/\X.env.frame=some X.env.locals)
 Ss:∀ b ∈ X.ex,b ≠ X.env.locals/\∀ x c,X.env.cells.lookup x=some c->c ≠ b
 bs:∀ b o,X.base.get? b=some o->X.s₀.heap.get? b=some o/\X.H₀ b=none
 Dh:X.base.objs.size <= X.s₀.heap.objs.size
 Cp:∀ b o,X.base.get? b=some o->b ∉ X.ex
 Di:∀ b ∈ X.ex,b ∉ X.fs
 zx:X.s₀.heap.FunFrames X.base X.outer
 Fe:∀ b ∈ X.fs,X.H₀ b=none
structure Inv (X:Cx)(pins:List (Addr × Obj))(σ:List (Option V))(H:Hp)(s:Shared):Prop where
 ok:X.Ok
 os:s.os=X.s₀.os
 bare:AllBare s.gens
 base:Un X.fs X.ex X.H₀ H X.s₀.heap s.heap
 loc:∃ m,s.heap.Ns X.env.locals m/\∀ (i:Nat)(x:Str)(v:V),X.N[i]? = some x->σ[i]? = some (some v)->ND X.env.scope x->∃ u,RelV v u/\Look X.env s.heap m x u
 cell:∀ x c,X.env.cells.lookup x=some c->∃ v,s.heap.IsCell c v
 free:H X.env.locals=none
 y1:∀ x c,X.env.cells.lookup x=some c->H c=none
 pin:∀ p ∈ X.pn ++ pins,s.heap.get? p.1=some p.2/\H p.1=none/\p.1 ≠ X.env.locals/\p.1 ∉ X.fs/\∀ v,p.2.data ≠ .cell v
 xY:zk X.prog X.w H s.heap
 len:σ.length=X.N.length
section
variable {X:Cx}{pins:List (Addr × Obj)}{σ:List (Option V)}{H H':Hp}{s:Shared}{h':Heap}
theorem Cx.Ok.NG (ok:X.Ok){b:Addr}{o:Obj}(e:X.base.get? b=some o):b ∉ X.fs:=fun hb=>by
 have:=(ok.zx.mem hb).1
 rw[e]at this;cases this
theorem Inv.bs (I:Inv X pins σ H s):∀ b o,X.base.get? b=some o->s.heap.get? b=some o/\H b=none:=fun b o e =>
 ⟨I.base.keep b o (I.ok.bs b o e).1 (I.ok.bs b o e).2 (I.ok.NG e) (I.ok.Cp b o e),I.base.free b o (I.ok.bs b o e).1 (I.ok.bs b o e).2 (I.ok.Cp b o e)⟩
theorem Inv.bk (I:Inv X pins σ H s):∀ b o,X.base.get? b=some o->s.heap.get? b=some o:=fun b o e=>(I.bs b o e).1
theorem Inv.mod (I:Inv X pins σ H s):Mod X.K X.mg X.base:=I.ok.mod
theorem Inv.zg (I:Inv X pins σ H s):X.K.In s.heap:=I.ok.mod.CP.keeps I.bk
theorem Inv.lt (I:Inv X pins σ H s):X.env.locals < s.heap.objs.size:=let ⟨_,hn,_⟩:=I.loc;hn.lt
theorem Inv.sz (I:Inv X pins σ H s):X.s₀.heap.objs.size <= s.heap.objs.size:=le_trans I.ok.above (le_of_lt I.lt)
theorem Inv.NH (I:Inv X pins σ H s){a:Addr}(h:s.heap.objs.size <= a):a ∉ X.fs:=fun hb=>by
 obtain⟨_,o,ho,_⟩:=I.ok.zx.mem hb
 exact absurd (lt_of_lt_of_le (lt_size ho) (le_trans I.sz h)) (lt_irrefl _)
theorem Inv.Ff (I:Inv X pins σ H s):∀ x c,X.env.cells.lookup x=some c->c ≠ X.env.locals:=fun x c e z=>by
 obtain⟨v,o,ho,hd⟩:=I.cell x c e
 obtain⟨m,⟨o',es,ep,Cq,NJ,_⟩,_⟩:=I.loc
 rw[z,Cq]at ho;cases ho;rw[NJ]at hd;cases hd
theorem Inv.zx (I:Inv X pins σ H s):s.heap.FunFrames X.base X.outer:=by
 have all:∀ (l:List Env),(∀ b ∈ oY l,b ∈ X.fs)->X.s₀.heap.FunFrames X.base l->s.heap.FunFrames X.base l:=by
  intro l
  induction l with
  | nil=>intro _ _;trivial
  | cons env r ih =>
   intro hs hl
   obtain⟨hk,⟨L,o,hf,hn,ho,hd⟩,hr⟩:=hl
   have hL:L ∈ X.fs:=hs L (by unfold oY;rw[filterMap_cons,hf];exact mem_cons_self)
   obtain⟨sl,e⟩:=I.base.slot L o ho (I.ok.Fe L hL) hL fun z=>I.ok.Di L z hL
   exact⟨hk,⟨L,_,hf,hn,e,hd⟩,ih (fun b hb=>hs b (by unfold oY;rw[filterMap_cons,hf];exact mem_cons_of_mem _ hb)) hr⟩
 exact all X.outer (fun _ hb=>hb) I.ok.zx
theorem Inv.stack (I:Inv X pins σ H s):s.heap.FunFrames X.base X.stack:=by
 rcases I.ok.LX with e | ⟨e,hf⟩
 ·rw[e];exact I.zx
 ·rw[e]
  obtain⟨m,hn,_⟩:=I.loc
  refine .cons (by rw[I.ok.kind];decide) hf hn ?_ I.zx
  exact Heap.get?_none_of_le (le_trans I.ok.Dh I.ok.above)
theorem Inv.Am (I:Inv X pins σ H s):∀ b ∈ oY X.stack,b ∈ X.env.locals :: X.fs:=fun b hb=>by
 rcases I.ok.LX with e | ⟨e,hf⟩
 ·rw[e]at hb;exact mem_cons_of_mem _ hb
 ·rw[e]at hb
  unfold oY at hb
  rw[filterMap_cons,hf]at hb
  exact hb
theorem Inv.Bk (I:Inv X pins σ H s):∀ b ∈ oY X.stack,H b=none:=fun b hb=>by
 rcases mem_cons.mp (I.Am b hb) with e | hb
 ·rw[e];exact I.free
 ·obtain⟨_,o,ho,_⟩:=I.ok.zx.mem hb
  exact I.base.free b o ho (I.ok.Fe b hb) fun z=>I.ok.Di b z hb
theorem Inv.step {g':Array GenState}{t':Nat}{d':Drawn}{ch:List Addr}(I:Inv X pins σ H s)
  (CQ:∀ b ∈ ch,(b ∈ X.ex∨X.s₀.heap.objs.size <= b)/\b ≠ X.env.locals/\(∀ x c,X.env.cells.lookup x=some c->c ≠ b)/\∀ p ∈ X.pn ++ pins,p.1 ≠ b)
  (keep:∀ b o,b ≠ X.env.locals->b ∉ X.fs->b ∉ ch->s.heap.get? b=some o->H b=none->h'.get? b=some o)
  (slot:∀ b o,b ≠ X.env.locals->b ∈ X.fs->b ∉ ch->s.heap.get? b=some o->H b=none->∃ sl,h'.get? b=some { o with slots:=sl }) (free:∀ b o,b ∉ ch->s.heap.get? b=some o->H b=none->H' b=none)
  (there:∀ b o,b ∉ ch->s.heap.get? b=some o->∃ o',h'.get? b=some o')
  (zV:∀ b xs,H b=some (.tup xs)->H' b=some (.tup xs)) (zG:∀ b o u,H b=some (.yW o u)->H' b=some (.yW o u)) (zW:∀ b ps,H b=some (.DV ps)->∃ more,H' b=some (.DV (ps ++ more)))
  (ns:∀ m,s.heap.Ns X.env.locals m->h'.Ns X.env.locals m) (xY:zk X.prog X.w H' h') (hg:AllBare g') :
  Inv X pins σ H' { s with heap:=h',gens:=g',drawn:=d',toks:=t' }:=by
 have Su:∀ b o,X.s₀.heap.get? b=some o->b ≠ X.env.locals:=fun b o e=>ne_of_lt (lt_of_lt_of_le (lt_size e) I.ok.above)
 have LY:∀ b o,X.s₀.heap.get? b=some o->b ∉ X.ex->b ∉ ch:=fun b o e hx hb=>by
  rcases (CQ b hb).1 with z | z
  ·exact hx z
  ·exact absurd (lt_of_lt_of_le (lt_size e) z) (lt_irrefl _)
 have cellK:∀ x c,X.env.cells.lookup x=some c->∀ v,s.heap.IsCell c v->h'.IsCell c v:=fun x c e v ⟨o,ho,hd⟩=>by
  have HM:c ∉ ch:=fun z=>(CQ c z).2.2.1 x c e rfl
  by_cases hc:c ∈ X.fs
  ·obtain⟨sl,q⟩:=slot c o (I.Ff x c e) hc HM ho (I.y1 x c e)
   exact⟨_,q,hd⟩
  ·exact⟨o,keep c o (I.Ff x c e) hc HM ho (I.y1 x c e),hd⟩
 refine⟨I.ok,I.os,hg,⟨fun b o e n hb hx=>?_,fun b o e n hb hx=>?_,fun b o e n hx=>?_,fun b o e hx=>?_,fun b xs e=>zV b xs (I.base.zV b xs e),fun b o xs e=>zG b o xs (I.base.zG b o xs e),fun b ps e=>?_⟩,?_,fun x c e=>?_,?_,fun x c e=>?_,fun p hp=>?_,xY,I.len⟩
 ·exact keep b o (Su b o e) hb (LY b o e hx) (I.base.keep b o e n hb hx) (I.base.free b o e n hx)
 ·obtain⟨sl,e1⟩:=I.base.slot b o e n hb hx
  obtain⟨sl',e2⟩:=slot b _ (Su b o e) hb (LY b o e hx) e1 (I.base.free b o e n hx)
  exact⟨sl',e2⟩
 ·obtain⟨o',e1⟩:=I.base.there b o e hx
  exact free b o' (LY b o e hx) e1 (I.base.free b o e n hx)
 ·obtain⟨o',e1⟩:=I.base.there b o e hx
  exact there b o' (LY b o e hx) e1
 ·obtain⟨m1,e1⟩:=I.base.zW b ps e
  obtain⟨m2,e2⟩:=zW b _ e1
  exact⟨m1 ++ m2,by rw[e2,Array.append_assoc]⟩
 ·obtain⟨m,hn,hl⟩:=I.loc
  refine⟨m,ns m hn,fun i x v e1 e2 e3=>?_⟩
  obtain⟨u,r,l⟩:=hl i x v e1 e2 e3
  refine⟨u,r,?_⟩
  rcases l with l | ⟨k,c,e,z⟩
  ·exact .inl l
  ·exact .inr ⟨k,c,e,cellK x c e _ z⟩
 ·obtain⟨v,z⟩:=I.cell x c e
  exact⟨v,cellK x c e v z⟩
 ·obtain⟨m,⟨o,_,_,ho,_⟩,_⟩:=I.loc
  exact free _ o (fun z=>(CQ _ z).2.1 rfl) ho I.free
 ·obtain⟨v,o,ho,hd⟩:=I.cell x c e
  exact free c o (fun z=>(CQ c z).2.2.1 x c e rfl) ho (I.y1 x c e)
 ·obtain⟨e,n,ne,nf,d⟩:=I.pin p hp
  have HM:p.1 ∉ ch:=fun z=>(CQ p.1 z).2.2.2 p hp rfl
  exact⟨keep p.1 p.2 ne nf HM e n,free p.1 p.2 HM e n,ne,nf,d⟩
theorem Inv.un {t':Nat}(I:Inv X pins σ H s)(u:Un X.fs [] H H' s.heap h')(xY:zk X.prog X.w H' h'):Inv X pins σ H' { s with heap:=h',toks:=t' }:=by
 obtain⟨m,⟨o,es,ep,ho,r⟩,_⟩:=id I.loc
 obtain⟨sl,hL⟩:=u.any ho I.free (by simp)
 exact I.step (g':=s.gens) (d':=s.drawn) (ch:=[]) (fun _ z=>nomatch z) (fun b o _ hb _ e n=>u.keep b o e n hb (by simp)) (fun b o _ hb _ e n=>u.slot b o e n hb (by simp)) (fun b o _ e n=>u.free b o e n (by simp)) (fun b o _ e=>u.there b o e (by simp)) u.zV u.zG u.zW (fun m' hm=>by
  obtain⟨o',NK,NM,Cq,r'⟩:=hm
  rw[ho]at Cq;cases Cq
  exact⟨_,NK,NM,hL,r'⟩) xY I.bare
theorem Inv.call {g':Array GenState}{t':Nat}{d':Drawn}{ch:List Addr}(I:Inv X pins σ H s)(u:Un (oY X.stack) ch H H' s.heap h')(xY:zk X.prog X.w H' h')(hg:AllBare g')
  (CQ:∀ b ∈ ch,(b ∈ X.ex∨X.s₀.heap.objs.size <= b)/\b ≠ X.env.locals/\(∀ x c,X.env.cells.lookup x=some c->c ≠ b)/\∀ p ∈ X.pn ++ pins,p.1 ≠ b) :
  Inv X pins σ H' { s with heap:=h',gens:=g',drawn:=d',toks:=t' }:=by
 obtain⟨m,⟨o,es,ep,ho,r⟩,_⟩:=id I.loc
 obtain⟨sl,hL⟩:=u.any ho I.free fun z=>(CQ _ z).2.1 rfl
 exact I.step (ch:=ch) CQ (fun b o hL hb hc e n=>u.keep b o e n (fun z=>(mem_cons.mp (I.Am b z)).elim hL hb) hc) (fun b o _ _ hc e n=>u.any e n hc) (fun b o hc e n=>u.free b o e n hc) (fun b o hc e=>u.there b o e hc) u.zV u.zG u.zW (fun m' hm=>by
  obtain⟨o',NK,NM,Cq,r'⟩:=hm
  rw[ho]at Cq;cases Cq
  exact⟨_,NK,NM,hL,r'⟩) xY hg
theorem Inv.turned {t':Nat}{it:Addr}(I:Inv X pins σ H s)(k:∀ b o,b ≠ it->s.heap.get? b=some o->h'.get? b=some o)(hn:H it=none)(hL:it ≠ X.env.locals)
  (h1:it ∈ X.ex∨X.s₀.heap.objs.size <= it) (h2:∀ x c,X.env.cells.lookup x=some c->c ≠ it) (h3:∀ p ∈ X.pn ++ pins,p.1 ≠ it):Inv X pins σ H { s with heap:=h',toks:=t' }:=by
 have Sv:∀ b u,H b=some u->b ≠ it:=fun b u e z=>by rw[z,hn]at e;cases e
 refine I.step (g':=s.gens) (d':=s.drawn) (ch:=[it]) (fun b hb=>?_) (fun b o _ _ hc e _=>k b o (fun z=>hc (by simp[z])) e) (fun b o _ _ hc e _=>⟨o.slots,k b o (fun z=>hc (by simp[z])) e⟩) (fun _ _ _ _ n=>n)
  (fun b o hc e=>⟨o,k b o (fun z=>hc (by simp[z])) e⟩) (fun _ _ e=>e) (fun _ _ _ e=>e) (fun b ps e=>⟨#[],by rw[e];simp⟩) (fun m hm=>?_) (fun b u e=>?_) I.bare
 ·have e:b=it:=by simpa using hb
  subst e
  exact⟨h1,hL,h2,h3⟩
 ·obtain⟨o,es,ep,ho,r⟩:=hm
  exact⟨o,es,ep,k _ o (Ne.symm hL) ho,r⟩
 ·refine(I.xY b u e).zc (fun c v hc q=>k c v ?_ q) (fun _ q=>q) fun _ _ q=>q
  rcases hc with z | z
  ·rw[z];exact Sv b u e
  ·exact Sv c _ z
theorem Inv.tok (I:Inv X pins σ H s)(t:Nat):Inv X pins σ H { s with toks:=t }:=I.un (h':=s.heap) (t':=t) Un.refl I.xY
theorem Inv.kept {t':Nat}(I:Inv X pins σ H s)(k:∀ b u,s.heap.get? b=some u->h'.get? b=some u):Inv X pins σ H { s with heap:=h',toks:=t' }:=I.un (Un.kept k) (I.xY.kept k)
theorem Inv.laid {a:Addr}{o:HO}{t':Nat}(I:Inv X pins σ H s)(k:∀ b u,s.heap.get? b=some u->h'.get? b=some u)(hp:s.heap.objs.size <= a)(new:ym X.prog X.w (upd H a o) h' a o) :
  Inv X pins σ (upd H a o) { s with heap:=h',toks:=t' }:=I.un (Un.laid k hp (I.xY.fresh hp)) (I.xY.laid k hp new)
theorem Inv.write {x e:Addr}{o:HO}{t':Nat}(I:Inv X pins σ H s)(mu:LV (H x))(he:e=x∨H e=some (.own x))(k:∀ b u,b ≠ e->s.heap.get? b=some u->h'.get? b=some u)(GN:∃ u,h'.get? e=some u)
  (new:ym X.prog X.w (upd H x o) h' x o):Inv X pins σ (upd H x o) { s with heap:=h',toks:=t' }:=I.un (Un.write mu he k GN) (I.xY.write mu he k GN new)
theorem Inv.yQ {AE:List (Addr × Obj)}(I:Inv X pins σ H s)(h:∀ p ∈ AE,s.heap.get? p.1=some p.2/\H p.1=none/\p.1 ≠ X.env.locals/\p.1 ∉ X.fs/\∀ v,p.2.data ≠ .cell v):Inv X AE σ H s :=
 ⟨I.ok,I.os,I.bare,I.base,I.loc,I.cell,I.free,I.y1,fun p hp=>(mem_append.mp hp).elim (fun z=>I.pin p (mem_append_left _ z)) (h p),I.xY,I.len⟩
theorem lC {N:List Str}(hN:N.Nodup){i j:Nat}{x:Str}(a:N[i]? = some x)(b:N[j]? = some x):i=j:=by
 obtain⟨h1,e1⟩:=List.getElem?_eq_some_iff.mp a
 obtain⟨h2,e2⟩:=List.getElem?_eq_some_iff.mp b
 exact(List.getElem_inj hN).mp (e1.trans e2.symm)
theorem jF {M:Model}{A:Around}{E:Value->Shared->Prop}{i:Nat}{x:Str}{v:V}{u:Value}{Q:Unit->Shared->Prop}(I:Inv X pins σ H s)(hN:X.N.Nodup)(hi:X.N[i]? = some x)(hx:Loc X.env.scope x)(r:RelV v u)
  (h:∀ s',Inv X pins (σ.set i (some v)) H s'->(∃ a,Heap.SameBut a s.heap s'.heap/\(a=X.env.locals∨X.env.cells.lookup x=some a))->Q () s') (hf:autoParam (X.fn x=true∨X.env.scope.names.lookup x=some .local) ζ):wpAny M A (storeName X.env x u) Q E s:=by
 obtain⟨m,hn,hl⟩:=id I.loc
 have NN:(X.env.scope.kind == .class || (X.env.scope.kind == .module && X.env.locals != X.env.globals))=false:=by rw[I.ok.kind];rfl
 have HN:i < σ.length:=by rw[I.len];exact(gQ0 hi)
 have Ff:=I.Ff
 have tracked:∀ {a:Addr}{h':Heap},(∃ o,s.heap.get? a=some o/\H a=none)->Heap.SameBut a s.heap h'->zk X.prog X.w H h':=fun {a h'} ha hs b ob e=>by
  obtain⟨_,_,DW⟩:=ha
  refine(I.xY b ob e).zc (fun c w' hc q=>(hs.2 c ?_).trans q) (fun _ q=>q) fun _ _ q=>q
  rintro rfl
  rcases hc with rfl | hc
  ·rw[DW]at e;cases e
  ·rw[DW]at hc;cases hc
 rcases hx with hk | hk
 ·refine wpAny_storeName_local hk hn (fun h' hn' hs=>?_) NN
  obtain⟨oL,_,_,Sw,_⟩:=id hn
  refine h _ ⟨I.ok,I.os,I.bare,⟨fun b o e n hb hx=>?_,fun b o e n hb hx=>?_,I.base.free,fun b o e hx=>?_,I.base.zV,I.base.zG,I.base.zW⟩,⟨_,hn',fun j y v' e1 e2 e3=>?_⟩,fun y c e=>?_,I.free,I.y1,fun p hp=>?_,tracked ⟨oL,Sw,I.free⟩ hs,by simpa using I.len⟩ ⟨_,hs, .inl rfl⟩
  ·exact(hs.2 b (ne_of_lt (lt_of_lt_of_le (lt_size e) I.ok.above))).trans (I.base.keep b o e n hb hx)
  ·obtain⟨sl,e1⟩:=I.base.slot b o e n hb hx
   exact⟨sl,(hs.2 b (ne_of_lt (lt_of_lt_of_le (lt_size e) I.ok.above))).trans e1⟩
  ·obtain⟨o',e1⟩:=I.base.there b o e hx
   exact⟨o',(hs.2 b (ne_of_lt (lt_of_lt_of_le (lt_size e) I.ok.above))).trans e1⟩
  ·by_cases hj:j=i
   ·subst hj
    rw[hi]at e1;cases e1
    rw[List.getElem?_set_self HN]at e2
    cases e2
    exact⟨u,r, .inl ⟨hk,by simp⟩⟩
   ·rw[getElem?_set_ne (Ne.symm hj)]at e2
    obtain⟨u',r',q⟩:=hl j y v' e1 e2 e3
    refine⟨u',r',?_⟩
    rcases q with ⟨k,e⟩ | ⟨k,c,e,z⟩
    ·refine .inl ⟨k,?_⟩
     have:y ≠ x:=fun e=>hj (lC hN e1 (e ▸ hi))
     simp[this,e]
    ·exact .inr ⟨k,c,e,z.sameBut hs (Ff y c e)⟩
  ·obtain⟨w',z⟩:=I.cell y c e
   exact⟨w',z.sameBut hs (Ff y c e)⟩
  ·obtain⟨e,n,ne,nf,d⟩:=I.pin p hp
   exact⟨(hs.2 p.1 ne).trans e,n,ne,nf,d⟩
 ·have NO:X.fn x=true:=by
   rcases hf with z | z
   ·exact z
   ·rw[z]at hk;cases hk
  obtain⟨c,hc⟩:=I.ok.has x (.inl hk)
  obtain⟨w',z⟩:=I.cell x c hc
  refine wpAny_storeName_cell I.ok.kind hk hc z (fun h' Cd hs=>?_)
  obtain⟨oc,Sy,NP⟩:=id z
  refine h { s with heap:=h' } ⟨I.ok,I.os,I.bare,⟨fun b o e n hb hx=>?_,fun b o e n hb hx=>?_,I.base.free,fun b o e hx=>?_,I.base.zV,I.base.zG,I.base.zW⟩,⟨m,hn.sameBut hs (Ne.symm (Ff x c hc)),fun j y v' e1 e2 e3=>?_⟩,fun y c' e=>?_,I.free,I.y1,fun p hp=>?_,tracked ⟨oc,Sy,I.y1 x c hc⟩ hs,by simpa using I.len⟩ ⟨c,hs, .inr hc⟩
  ·exact(hs.2 b (ne_of_lt (lt_of_lt_of_le (lt_size e) (I.ok.HL x c NO hc)))).trans (I.base.keep b o e n hb hx)
  ·obtain⟨sl,e1⟩:=I.base.slot b o e n hb hx
   exact⟨sl,(hs.2 b (ne_of_lt (lt_of_lt_of_le (lt_size e) (I.ok.HL x c NO hc)))).trans e1⟩
  ·obtain⟨o',e1⟩:=I.base.there b o e hx
   exact⟨o',(hs.2 b (ne_of_lt (lt_of_lt_of_le (lt_size e) (I.ok.HL x c NO hc)))).trans e1⟩
  ·by_cases hj:j=i
   ·subst hj
    rw[hi]at e1;cases e1
    rw[List.getElem?_set_self HN]at e2
    cases e2
    exact⟨u,r, .inr ⟨.inl hk,c,hc,Cd⟩⟩
   ·rw[getElem?_set_ne (Ne.symm hj)]at e2
    obtain⟨u',r',q⟩:=hl j y v' e1 e2 e3
    refine⟨u',r',?_⟩
    rcases q with q | ⟨k,c',e,z'⟩
    ·exact .inl q
    ·refine .inr ⟨k,c',e,z'.sameBut hs ?_⟩
     rintro rfl
     exact hj (lC hN e1 (I.ok.inj _ _ _ e hc ▸ hi))
  ·by_cases LZ:c' = c
   ·subst LZ;exact⟨_,Cd⟩
   ·obtain⟨w2,z2⟩:=I.cell y c' e
    exact⟨w2,z2.sameBut hs LZ⟩
  ·obtain⟨e,n,ne,nf,d⟩:=I.pin p hp
   refine⟨(hs.2 p.1 ?_).trans e,n,ne,nf,d⟩
   intro q
   rw[q,Sy]at e
   have q':oc=p.2:=Option.some.inj e
   exact d w' (by rw[← q'];exact NP)
theorem ll {M:Model}{A:Around}{E:Value->Shared->Prop}{i:Nat}{x:Str}{v:V}{u:Value}{Q:Unit->Shared->Prop}(I:Inv X pins σ H s)(hN:X.N.Nodup)(hi:X.N[i]? = some x)(hx:Loc X.env.scope x)(r:RelV v u)
  (h:∀ s',Inv X pins (σ.set i (some v)) H s'->Q () s') (hf:autoParam (X.fn x=true∨X.env.scope.names.lookup x=some .local) ζ):wpAny M A (storeName X.env x u) Q E s :=
 jF I hN hi hx r (fun s' I' _=>h s' I') hf
theorem Inv.HP {s':Shared}{ch:List Addr}(I:Inv X pins σ H s)(ho:s'.os=s.os)(u:Un (oY X.stack) ch H H' s.heap s'.heap)(xY:zk X.prog X.w H' s'.heap)(hg:AllBare s'.gens)
  (CQ:∀ b ∈ ch,(b ∈ X.ex∨X.s₀.heap.objs.size <= b)/\b ≠ X.env.locals/\(∀ x c,X.env.cells.lookup x=some c->c ≠ b)/\∀ p ∈ X.pn ++ pins,p.1 ≠ b):Inv X pins σ H' s':=by
 obtain⟨h',g',d',t',o'⟩:=s'
 have e:o' = s.os:=ho
 subst e
 exact I.call (g':=g') (t':=t') (d':=d') u xY hg CQ
end
abbrev XK:=Value->Option Addr->Hp->Prop
abbrev St:=List (Option V)
abbrev VK:=V->Hp->Prop
abbrev TE:=St->Hp->VK->Prop
abbrev TT:=St->Hp->(Bool->Hp->Prop)->Prop
abbrev TA:=St->Hp->(List V->Hp->Prop)->Prop
structure j1 where
 nx:St->Hp->Prop
 rt:VK
 bk:St->Hp->Prop:=fun _ _=>False
 ct:St->Hp->Prop:=fun _ _=>False
abbrev TS:=j1->St->Hp->Prop
noncomputable def EP (X:Cx)(pins:List (Addr × Obj))(σ:St)(Q:VK)(u:Value)(s':Shared):Prop:=∃ v H',Inv X pins σ H' s'/\RelV v u/\Q v H'
noncomputable def TP (X:Cx)(pins:List (Addr × Obj))(σ:St)(Q:Bool->Hp->Prop)(b:Bool)(s':Shared):Prop:=∃ H',Inv X pins σ H' s'/\Q b H'
noncomputable def AP (X:Cx)(pins:List (Addr × Obj))(σ:St)(Q:List V->Hp->Prop)(us:List Value)(s':Shared):Prop:=∃ vs H',Inv X pins σ H' s'/\Vals vs us/\Q vs H'
noncomputable def SP (X:Cx)(pins:List (Addr × Obj))(D:j1)(f:Flow)(s':Shared):Prop :=
 match f with
 | .next=>∃ σ' H',Inv X pins σ' H' s'/\D.nx σ' H'
 | .brk=>∃ σ' H',Inv X pins σ' H' s'/\D.bk σ' H'
 | .cont=>∃ σ' H',Inv X pins σ' H' s'/\D.ct σ' H'
 | .ret u=>∃ v σ' H',Inv X pins σ' H' s'/\RelV v u/\D.rt v H'
noncomputable def PE (X:Cx)(e:Expr)(t:TE):Prop :=
 ∀ (pins:List (Addr × Obj))(s:Shared)(σ:St)(H:Hp)(Q:VK),Inv X pins σ H s->t σ H Q->wpAny (model X.prog X.w) X.A (eval e X.env) (EP X pins σ Q) X.xe s
noncomputable def PT (X:Cx)(e:Expr)(t:TT):Prop :=
 ∀ (pins:List (Addr × Obj))(s:Shared)(σ:St)(H:Hp)(Q:Bool->Hp->Prop),Inv X pins σ H s->t σ H Q->wpAny (model X.prog X.w) X.A (isTrue e X.env (eval e X.env)) (TP X pins σ Q) X.xe s
noncomputable def PW (X:Cx)(e:Expr)(t:TT):Prop :=
 ∀ (whole:Sem Value)(pins:List (Addr × Obj))(s:Shared)(σ:St)(H:Hp)(Q:Bool->Hp->Prop),Inv X pins σ H s->t σ H Q->wpAny (model X.prog X.w) X.A (isTrue e X.env whole) (TP X pins σ Q) X.xe s
theorem PW.pt {X:Cx}{e:Expr}{t:TT}(h:PW X e t):PT X e t:=h _
noncomputable def PA (X:Cx)(es:List Expr)(t:TA):Prop :=
 ∀ (pos:Pos)(pins:List (Addr × Obj))(s:Shared)(σ:St)(H:Hp)(Q:List V->Hp->Prop),Inv X pins σ H s->t σ H Q->wpAny (model X.prog X.w) X.A (spliced (backTo pos (starEach es X.env))) (AP X pins σ Q) X.xe s
noncomputable def PS (X:Cx)(st:Stmt)(t:TS):Prop :=
 ∀ (pins:List (Addr × Obj))(s:Shared)(σ:St)(H:Hp)(D:j1),Inv X pins σ H s->t D σ H->wpAny (model X.prog X.w) X.A (exec st X.env) (SP X pins D) X.xe s
noncomputable def BB (X:Cx)(st:List Stmt)(t:TS):Prop :=
 ∀ (pins:List (Addr × Obj))(s:Shared)(σ:St)(H:Hp)(D:j1),Inv X pins σ H s->t D σ H->wpAny (model X.prog X.w) X.A (execs st X.env) (SP X pins D) X.xe s
theorem bq {α:Type}{t:Sem α}{Q Q':α->Shared->Prop}{M:Model}{A:Around}{E:Value->Shared->Prop}{s:Shared}(h:wpAny M A t Q E s)(hQ:∀ a s,Q a s->Q' a s):wpAny M A t Q' E s:=wpAny_mono h hQ fun _ _ x=>x
section
variable {X:Cx}
noncomputable def lj (i:Nat):TE:=fun σ H Q=>∃ v,σ[i]? = some (some v)/\Q v H
noncomputable def tC (v:V):TE:=fun _ H Q=>Q v H
theorem wA {i:Nat}{x:Str}{pos:Pos}(hN:X.N[i]? = some x)(hv:ND X.env.scope x)(hd:autoParam ((x == ("__debug__":Str))=false) θ)(BC:autoParam ((x == ("__classdict__":Str))=false) θ):PE X (.Name x pos) (lj i):=by
 intro pins s σ H Q I h
 obtain⟨v,e,h⟩:=h
 obtain⟨m,hn,hl⟩:=I.loc
 obtain⟨u,r,l⟩:=hl i x v hN e hv
 have fin:EP X pins σ Q u s:=⟨v,H,I,r,h⟩
 rcases l with ⟨hk,hm⟩ | ⟨hk,c,hc,DX⟩
 ·exact wpAny_Name (wpAny_loadName_local I.ok.kind hk hn hm fin) hd
 ·rcases hk with hk | hk
  ·exact wpAny_Name (wpAny_loadName_cell I.ok.kind hk hc DX fin) hd
  ·exact wpAny_Name (wpAny_loadName_free I.ok.kind hk hc DX fin BC) hd
theorem ai {i j pos}:PE X (.Constant (.int i) j pos) (tC (.int i)):=fun _ _ _ H _ I h=>wpAny_Constant_int ⟨.int i,H,I.tok _,⟨_,rfl⟩,h⟩
theorem eK {b j pos}:PE X (.Constant (.bool b) j pos) (tC (.bl b)):=fun _ _ _ H _ I h=>Constant_bool ⟨.bl b,H,I,rfl,h⟩
theorem bH {j pos}:PE X (.Constant .none j pos) (tC .yd):=fun _ _ _ H _ I h=>Constant_none ⟨.yd,H,I,rfl,h⟩
theorem c8 {x j pos}:PE X (.Constant (.str x) j pos) (tC (.str x)):=fun _ _ _ H _ I h=>Calls.Constant_str ⟨.str x,H,I.tok _,⟨_,rfl⟩,h⟩
noncomputable def Gl (X:Cx)(x:Str):Prop:=X.env.kindOf x=some .globalImplicit
theorem kQ {E:Value->Shared->Prop}{pins:List (Addr × Obj)}{s:Shared}{σ:St}{H:Hp}{x:Str}{u:Value}{pos:Pos}{Q:Value->Shared->Prop}(I:Inv X pins σ H s)(hg:Gl X x)(hm:X.mg x=some u)(h:Q u s)
  (hd:autoParam ((x == ("__debug__":Str))=false) θ):wpAny (model X.prog X.w) X.A (eval (.Name x pos) X.env) Q E s :=
 Calls.Name_function_global I.ok.kind hg (Calls.loadGlobal_global (by rw[I.ok.glob];exact I.mod.glob.keeps I.bk) hm h) hd
theorem fP {E:Value->Shared->Prop}{pins:List (Addr × Obj)}{s:Shared}{σ:St}{H:Hp}{x:Str}{u:Value}{pos:Pos}{Q:Value->Shared->Prop}(I:Inv X pins σ H s)(hg:Gl X x)(hm:X.mg x=none)(hv:bootBuiltins x=some u)(h:Q u s)
  (hn:autoParam (x ≠ "__name__") θ) (hd:autoParam ((x == ("__debug__":Str))=false) θ):wpAny (model X.prog X.w) X.A (eval (.Name x pos) X.env) Q E s:=by
 obtain⟨mb,h1,h2⟩:=I.mod.blt
 exact Calls.Name_function_global I.ok.kind hg (Calls.loadGlobal_builtin (by rw[I.ok.glob];exact I.mod.glob.keeps I.bk) hm (by rw[I.ok.blt];exact h1.keeps I.bk) ((h2 x hn).trans hv) h) hd
theorem eY {x:Str}{v:V}{u:Value}{pos:Pos}(hg:Gl X x)(hm:X.mg x=some u)(r:RelV v u)(hd:autoParam ((x == ("__debug__":Str))=false) θ):PE X (.Name x pos) (tC v) :=
 fun _ _ _ H _ I h=>kQ I hg hm ⟨v,H,I,r,h⟩ hd
theorem dB {x:Str}{v:V}{u:Value}{pos:Pos}(hg:Gl X x)(hm:X.mg x=none)(hv:bootBuiltins x=some u)(r:RelV v u)(hn:autoParam (x ≠ "__name__") θ)(hd:autoParam ((x == ("__debug__":Str))=false) θ):PE X (.Name x pos) (tC v) :=
 fun _ _ _ H _ I h=>fP I hg hm hv ⟨v,H,I,r,h⟩ hn hd
variable {a b:Expr}{ta tb:TE}{pos:Pos}
noncomputable def PC (X:Cx)(op:CmpOp)(a b:Expr)(t:TE):Prop :=
 ∀ (pins:List (Addr × Obj))(s:Shared)(σ:St)(H:Hp)(Q:VK),Inv X pins σ H s->t σ H Q ->
  wpAny (model X.prog X.w) X.A (eval a X.env) (fun v s₁=>wpAny (model X.prog X.w) X.A (eval b X.env) (fun u s₂=>wpAny (model X.prog X.w) X.A (compareOp op v u) (EP X pins σ Q) X.xe s₂) X.xe s₁) X.xe s
noncomputable def tB (t:TE):TT:=fun σ H Q=>t σ H fun x H1=>∃ c,x = .bl c/\Q c H1
theorem w8 {op:CmpOp}{t:TE}(h:PC X op a b t)(h1:behindInMarks op b=false:=by first | exact HQ _ (by decide) (by decide) | rfl):PT X (.Compare a [op] [b] pos) (tB t):=by
 intro pins s σ H Q I hw
 refine wpAny_isTrue_Compare1 (bq (h pins s σ H _ I hw) fun v s1 h1=>bq h1 fun u s2 h2=>bq h2 fun c s3 xU=>?_) h1
 obtain⟨x,H1,I1,r1,q1⟩:=xU
 obtain⟨d,rfl,q⟩:=q1
 cases r1
 exact wpAny_truthy_bool ⟨H1,I1,q⟩
theorem b9 {e:Expr}{t:TE}(h:PE X e t)(he:autoParam (∀ whole,isTrue e X.env whole=(do let v ← whole;standAt e.pos;holding [v] (truthy v))) ψ):PT X e (tB t):=by
 intro pins s σ H Q I hw
 refine isTrue_plain (bq (h pins s σ H _ I hw) fun v s1 xU=>?_) (he _)
 obtain⟨x,H1,I1,r1,q1⟩:=xU
 obtain⟨d,rfl,q⟩:=q1
 cases r1
 exact wpAny_truthy_bool ⟨H1,I1,q⟩
variable {tA Mb:TT}{rest:List Expr}
noncomputable def NQ (t u:TT):TT:=fun σ H Q=>t σ H fun c H1=>if c=true then u σ H1 Q else Q false H1
noncomputable def tOr (t u:TT):TT:=fun σ H Q=>t σ H fun c H1=>if c=true then Q true H1 else u σ H1 Q
noncomputable def NR (t:TT):TT:=fun σ H Q=>t σ H fun c H1=>Q (!c) H1
theorem oC (ha:PT X a tA):PW X (.BoolOp .And [a] pos) tA:=by
 intro wh pins s σ H Q I h
 refine isTrue_and (bq (ha pins s σ H Q I h) fun c s1 e=>?_)
 cases c with
 | true=>exact isTrue_and_nil e
 | false=>exact e
theorem dW (ha:PT X a tA):PW X (.BoolOp .Or [a] pos) tA:=by
 intro wh pins s σ H Q I h
 refine isTrue_or (bq (ha pins s σ H Q I h) fun c s1 e=>?_)
 cases c with
 | false=>exact isTrue_or_nil e
 | true=>exact e
theorem rn (ha:PT X a tA)(hb:PW X (.BoolOp .And (b :: rest) pos) Mb):PW X (.BoolOp .And (a :: b :: rest) pos) (NQ tA Mb):=by
 intro wh pins s σ H Q I h
 refine isTrue_and (bq (ha pins s σ H _ I h) fun c s1 xU=>?_)
 obtain⟨H1,I1,q1⟩:=xU
 cases c with
 | true=>exact hb wh pins s1 σ H1 Q I1 q1
 | false=>exact⟨H1,I1,q1⟩
theorem fD (ha:PT X a tA)(hb:PW X (.BoolOp .Or (b :: rest) pos) Mb):PW X (.BoolOp .Or (a :: b :: rest) pos) (tOr tA Mb):=by
 intro wh pins s σ H Q I h
 refine isTrue_or (bq (ha pins s σ H _ I h) fun c s1 xU=>?_)
 obtain⟨H1,I1,q1⟩:=xU
 cases c with
 | true=>exact⟨H1,I1,q1⟩
 | false=>exact hb wh pins s1 σ H1 Q I1 q1
theorem bM (ha:PT X a tA):PT X (.UnaryOp .Not a pos) (NR tA):=by
 intro pins s σ H Q I h
 exact isTrue_not (ha pins s σ H (fun c H1=>Q (!c) H1) I h)
noncomputable def HR (ta tb:TE):TE:=fun σ H Q=>ta σ H fun x H1=>∃ c,x = .bl c/\if c=true then tb σ H1 Q else Q (.bl false) H1
noncomputable def NS (ta tb:TE):TE:=fun σ H Q=>ta σ H fun x H1=>∃ c,x = .bl c/\if c=true then Q (.bl true) H1 else tb σ H1 Q
noncomputable def HS (ta:TE):TE:=fun σ H Q=>ta σ H fun x H1=>∃ c,x = .bl c/\Q (.bl (!c)) H1
theorem cG {op} {t:TE} (h:PE X a t):PE X (.BoolOp op [a] pos) t:=fun pins s σ H Q I hw=>BoolOp_one (h pins s σ H Q I hw)
theorem cr (ha:PE X a ta)(hb:PE X (.BoolOp .And (b :: rest) pos) tb):PE X (.BoolOp .And (a :: b :: rest) pos) (HR ta tb):=by
 intro pins s σ H Q I h
 refine BoolOp_and (bq (ha pins s σ H _ I h) fun v s1 xU=>?_)
 obtain⟨x,H1,I1,r1,q1⟩:=xU
 obtain⟨c,rfl,q1⟩:=q1
 cases r1
 refine wpAny_truthy_bool ?_
 cases c with
 | true=>exact hb pins s1 σ H1 Q I1 q1
 | false=>exact⟨.bl false,H1,I1,rfl,q1⟩
theorem HU (ha:PE X a ta)(hb:PE X (.BoolOp .Or (b :: rest) pos) tb):PE X (.BoolOp .Or (a :: b :: rest) pos) (NS ta tb):=by
 intro pins s σ H Q I h
 refine BoolOp_or (bq (ha pins s σ H _ I h) fun v s1 xU=>?_)
 obtain⟨x,H1,I1,r1,q1⟩:=xU
 obtain⟨c,rfl,q1⟩:=q1
 cases r1
 refine wpAny_truthy_bool ?_
 cases c with
 | false=>exact hb pins s1 σ H1 Q I1 q1
 | true=>exact⟨.bl true,H1,I1,rfl,q1⟩
theorem kI (ha:PE X a ta):PE X (.UnaryOp .Not a pos) (HS ta):=by
 intro pins s σ H Q I h
 refine UnaryOp_ (bq (ha pins s σ H _ I h) fun v s1 xU=>?_)
 obtain⟨x,H1,I1,r1,q1⟩:=xU
 obtain⟨c,rfl,q1⟩:=q1
 cases r1
 exact not_of (wpAny_truthy_bool ⟨.bl (!c),H1,I1,rfl,q1⟩)
noncomputable def tIf (t:TT)(ta tb:TE):TE:=fun σ H Q=>t σ H fun c H1=>if c=true then ta σ H1 Q else tb σ H1 Q
theorem cY {c:Expr}(hc:PT X c tA)(ha:PE X a ta)(hb:PE X b tb):PE X (.IfExp c a b pos) (tIf tA ta tb):=by
 intro pins s σ H Q I h
 refine wpAny_IfExp (bq (hc pins s σ H _ I h) fun d s1 xU=>?_)
 obtain⟨H1,I1,q1⟩:=xU
 cases d with
 | true=>exact ha pins s1 σ H1 Q I1 q1
 | false=>exact hb pins s1 σ H1 Q I1 q1
end
noncomputable def xS (K:Frag)(H:Hp)(a:Addr)(xs:List V):Prop :=
 Rd H a (.lst xs) ∨
  ∃ (o:Obj)(xT:Array Value)(n:Nat),K.lookup a=some o/\o.cls = .type "list"/\o.dict=none/\o.data = .seq xT n/\xT.size <= sizeLine/\Vals xs xT.toList
noncomputable def xV (K:Frag)(H:Hp)(a:Addr)(xs:List V):Prop :=
 Rd H a (.tup xs) ∨
  ∃ (o:Obj)(xT:Array Value)(n:Nat),K.lookup a=some o/\o.cls = .type "tuple"/\o.data = .seq xT n/\xT.size <= sizeLine/\Vals xs xT.toList
noncomputable def NU:Value->Option V
 | .none=>some .yd
 | .bool b=>some (.bl b)
 | .int i _=>some (.int i)
 | .str x _=>some (.str x)
 | .bytes b _=>some (.Bj b)
 | .float b _=>some (.Fb b)
 | .ref a=>some (.ref a)
 | .type n=>some (.ty n)
 | _=>none
theorem RelV.abs {x:V}{u:Value}(r:RelV x u):NU u=some x:=by
 cases x with
 | yd=>cases r;rfl
 | bl _=>cases r;rfl
 | int _=>obtain⟨t,rfl⟩:=r;rfl
 | str _=>obtain⟨t,rfl⟩:=r;rfl
 | Bj _=>obtain⟨t,rfl⟩:=r;rfl
 | Fb _=>obtain⟨t,rfl⟩:=r;rfl
 | ref _=>cases r;rfl
 | ty _=>cases r;rfl
theorem RelV.inj {x y:V}{u:Value}(r:RelV x u)(q:RelV y u):x=y:=Option.some.inj (r.abs.symm.trans q.abs)
theorem Vals.inj:∀ {xs ys:List V}{us:List Value},Vals xs us->Vals ys us->xs=ys
 | _,_,_, .nil, .nil=>rfl
 | _,_,_, .cons r t, .cons r' t'=>by rw[r.inj r',Vals.inj t t']
section
variable {X:Cx}{pins:List (Addr × Obj)}{σ:St}{H:Hp}{s:Shared}{a:Addr}{xs ys:List V}
theorem xS.of {K:Frag}(h:H a=some (.lst xs)):xS K H a xs := .inl (.inl h)
theorem xV.of {K:Frag}(h:H a=some (.tup xs)):xV K H a xs := .inl (.inl h)
theorem Inv.list (I:Inv X pins σ H s)(h:xS X.K H a xs):∃ xT:List Value,Vals xs xT/\PlainL s.heap a xT.toArray/\xs.length <= sizeLine:=by
 rcases h with h | ⟨o,xT,n,hk,hc,hd,hs,hz,r⟩
 ·obtain⟨z,xT,n,r,e⟩:=h.ok I.xY
  exact⟨xT,r,⟨_,n,e,rfl,rfl,rfl⟩,z⟩
 ·refine⟨xT.toList,r,⟨o,n,I.zg a o hk,hc,hd,by simpa using hs⟩,?_⟩
  have e:=r.length
  simp only[Array.length_toList]at e
  omega
theorem Inv.tuple (I:Inv X pins σ H s)(h:xV X.K H a xs):∃ xT:List Value,Vals xs xT/\IsTup s.heap a xT.toArray/\xs.length <= sizeLine:=by
 rcases h with h | ⟨o,xT,n,hk,hc,hs,hz,r⟩
 ·obtain⟨z,xT,r,p⟩:=h.ok I.xY
  exact⟨xT,r,p.isTup,z⟩
 ·refine⟨xT.toList,r,⟨o,I.zg a o hk,hc,n,by simpa using hs⟩,?_⟩
  have e:=r.length
  simp only[Array.length_toList]at e
  omega
theorem Inv.zH (I:Inv X pins σ H s)(h:xS X.K H a xs)(h':xS X.K H a ys):xs=ys:=by
 obtain⟨xT,r,⟨o,n,e,_,_,d⟩,_⟩:=I.list h
 obtain⟨its',r',⟨o',n',e',_,_,d'⟩,_⟩:=I.list h'
 rw[e]at e';cases e'
 rw[d]at d'
 injection d' with d1 _
 have:xT=its':=by simpa using congrArg Array.toList d1
 subst this
 exact r.inj r'
theorem Inv.zl (I:Inv X pins σ H s)(h:xV X.K H a xs)(h':xV X.K H a ys):xs=ys:=by
 obtain⟨xT,r,⟨o,e,_,n,d⟩,_⟩:=I.tuple h
 obtain⟨its',r',⟨o',e',_,n',d'⟩,_⟩:=I.tuple h'
 rw[e]at e';cases e'
 rw[d]at d'
 injection d' with d1 _
 have:xT=its':=by simpa using congrArg Array.toList d1
 subst this
 exact r.inj r'
end
abbrev Cx.zX (X:Cx)(E:Value->Shared->Prop):Cx:={ X with xe:=E }
abbrev Cx.GP (X:Cx):Cx:=X.zX fun _ _=>False
theorem Cx.Ok.zX {X:Cx}(ok:X.Ok)(E:Value->Shared->Prop):(X.zX E).Ok :=
 ⟨ok.mod,ok.kind,ok.glob,ok.blt,ok.above,ok.inj,ok.has,ok.HL,ok.hd,ok.frames,ok.LX,ok.Ss,ok.bs,ok.Dh,ok.Cp,ok.Di,ok.zx,ok.Fe⟩
theorem Cx.Ok.yM {X:Cx}{E:Value->Shared->Prop}(ok:(X.zX E).Ok):X.Ok :=
 ⟨ok.mod,ok.kind,ok.glob,ok.blt,ok.above,ok.inj,ok.has,ok.HL,ok.hd,ok.frames,ok.LX,ok.Ss,ok.bs,ok.Dh,ok.Cp,ok.Di,ok.zx,ok.Fe⟩
section
variable {X:Cx}{pins:List (Addr × Obj)}{σ:St}{H:Hp}{s:Shared}{E:Value->Shared->Prop}
theorem Inv.zX (I:Inv X pins σ H s)(E:Value->Shared->Prop):Inv (X.zX E) pins σ H s:=⟨I.ok.zX E,I.os,I.bare,I.base,I.loc,I.cell,I.free,I.y1,I.pin,I.xY,I.len⟩
theorem Inv.yM (I:Inv (X.zX E) pins σ H s):Inv X pins σ H s:=⟨I.ok.yM,I.os,I.bare,I.base,I.loc,I.cell,I.free,I.y1,I.pin,I.xY,I.len⟩
theorem SP.yM {D:j1}{f:Flow}{s':Shared}(h:SP (X.zX E) pins D f s'):SP X pins D f s':=by
 cases f with
 | next=>obtain⟨σ',H',I,q⟩:=h;exact⟨σ',H',I.yM,q⟩
 | brk=>obtain⟨σ',H',I,q⟩:=h;exact⟨σ',H',I.yM,q⟩
 | cont=>obtain⟨σ',H',I,q⟩:=h;exact⟨σ',H',I.yM,q⟩
 | ret u=>obtain⟨v,σ',H',I,r,q⟩:=h;exact⟨v,σ',H',I.yM,r,q⟩
theorem BB.GP {st:List Stmt}{t:TS}(h:BB X.GP st t):BB X st t:=fun pins s σ H D I hw =>
 wpAny_mono (h pins s σ H D (I.zX _) hw) (fun _ _ q=>q.yM) fun _ _ z=>False.elim z
end
section
variable {X:Cx}{st:Stmt}{rest:List Stmt}{t u:TS}{e:Expr}{te:TE}{pos:Pos}
noncomputable def HV:TS:=fun D σ H=>D.nx σ H
noncomputable def NV (t u:TS):TS:=fun D σ H=>t { D with nx:=u D } σ H
theorem aE:BB X [] HV:=fun _ _ σ H _ I h=>wpAny_execs_nil ⟨σ,H,I,h⟩
theorem af (h1:PS X st t)(h2:BB X rest u):BB X (st :: rest) (NV t u):=by
 intro pins s σ H D I h
 refine wpAny_execs_cons (bq (h1 pins s σ H { D with nx:=u D } I h) fun f s1 q=>?_)
 cases f with
 | next =>
  obtain⟨σ',H',I',q⟩:=q
  exact h2 pins s1 σ' H' D I' q
 | ret v=>exact q
 | brk=>exact q
 | cont=>exact q
theorem ak (h1:PS X st t):BB X [st] t:=by
 intro pins s σ H D I h
 refine wpAny_execs_cons (bq (h1 pins s σ H D I h) fun f s1 q=>?_)
 cases f with
 | next=>exact wpAny_execs_nil q
 | ret v=>exact q
 | brk=>exact q
 | cont=>exact q
theorem Inv.quiet {pins:List (Addr × Obj)}{σ:St}{H:Hp}{s:Shared}(I:Inv X pins σ H s):interactive X.env=false:=by simp[interactive,I.ok.kind]
noncomputable def HW (te:TE):TS:=fun D σ H=>te σ H fun _ H1=>D.nx σ H1
theorem aU (he:PE X e te)(hs:autoParam (swapsWith e none pos.line X.env=pure false) η):PS X (.Expr e pos) (HW te):=by
 intro pins s σ H D I h
 exact wpAny_Expr_any (bq (he pins s σ H _ I h) fun v s1 xU=>by obtain⟨x,H1,I1,r1,q1⟩:=xU;exact⟨σ,H1,I1,q1⟩) I.quiet hs
noncomputable def NW (te:TE):TS:=fun D σ H=>te σ H D.rt
theorem au (he:PE X e te):PS X (.Return (some e) pos) (NW te):=by
 intro pins s σ H D I h
 exact wpAny_Return_some (bq (he pins s σ H _ I h) fun v s1 xU=>by obtain⟨x,H1,I1,r1,q1⟩:=xU;exact⟨x,σ,H1,I1,r1,q1⟩)
noncomputable def NX (c:TT)(t u:TS):TS:=fun D σ H=>c σ H fun b H1=>if b=true then t D σ H1 else u D σ H1
theorem aR {c:Expr}{a b:List Stmt}{tc:TT}(hc:PT X c tc)(ha:BB X a t)(hb:BB X b u):PS X (.If c a b pos) (NX tc t u):=by
 intro pins s σ H D I h
 refine wpAny_If (bq (hc pins s σ H _ I h) fun d s1 xU=>?_)
 obtain⟨H1,I1,q1⟩:=xU
 cases d with
 | true=>exact ha pins s1 σ H1 D I1 q1
 | false=>exact hb pins s1 σ H1 D I1 q1
noncomputable def vR:TS:=fun _ _ _=>False
theorem b6:PS X st vR:=fun _ _ _ _ _ _ h=>h.elim
end
abbrev TG:=V->St->Hp->(St->Hp->Prop)->Prop
abbrev xE:=List V->St->Hp->(St->Hp->Prop)->Prop
noncomputable def PG (X:Cx)(target:Expr)(t:TG):Prop :=
 ∀ (pins:List (Addr × Obj))(s:Shared)(σ:St)(H:Hp)(v:V)(u:Value)(Q:St->Hp->Prop),Inv X pins σ H s->RelV v u->t v σ H Q ->
  wpAny (model X.prog X.w) X.A (assign target X.env u) (fun _ s'=>∃ σ' H',Inv X pins σ' H' s'/\Q σ' H') X.xe s
noncomputable def Mc (X:Cx)(ts:List Expr)(t:xE):Prop :=
 ∀ (pins:List (Addr × Obj))(s:Shared)(σ:St)(H:Hp)(vs:List V)(us:List Value)(Q:St->Hp->Prop),Inv X pins σ H s->Vals vs us->t vs σ H Q ->
  wpAny (model X.prog X.w) X.A (assignInOrder ((assignEach ts X.env).map (·.2)) us) (fun _ s'=>∃ σ' H',Inv X pins σ' H' s'/\Q σ' H') X.xe s
abbrev xD:=V->V->V->Hp->(Hp->Prop)->Prop
noncomputable def HX (X:Cx)(t:xD):Prop :=
 ∀ (pins:List (Addr × Obj))(s:Shared)(σ:St)(H:Hp)(o i v:V)(ov iv u:Value)(Q:Hp->Prop),Inv X pins σ H s->RelV o ov->RelV i iv->RelV v u->t o i v H Q ->
  wpAny (model X.prog X.w) X.A (setItem ov iv u) (fun _ s'=>∃ H',Inv X pins σ H' s'/\Q H') X.xe s
section
variable {X:Cx}{pos:Pos}
noncomputable def bE (i:Nat):TG:=fun v σ H Q=>Q (σ.set i (some v)) H
theorem aq {i:Nat}{x:Str}(hN:X.N.Nodup)(hi:X.N[i]? = some x)(hx:Loc X.env.scope x)(hf:autoParam (X.fn x=true∨X.env.scope.names.lookup x=some .local) ζ):PG X (.Name x pos) (bE i):=by
 intro pins s σ H v u Q I r h
 exact wpAny_assign_Name (ll I hN hi hx r (fun s' I'=>⟨_,H,I',h⟩) hf)
noncomputable def NY:xE:=fun vs σ H Q=>vs=[]/\Q σ H
noncomputable def HY (t:TG)(u:xE):xE:=fun vs σ H Q=>∃ v r,vs=v :: r/\t v σ H fun σ' H'=>u r σ' H' Q
theorem ck:Mc X [] NY:=by
 intro pins s σ H vs us Q I r h
 obtain⟨e,h⟩:=h
 subst e
 cases r
 exact assignInOrder_nil ⟨σ,H,I,h⟩
theorem aQ {e:Expr}{es:List Expr}{t:TG}{u:xE}(h1:PG X e t)(h2:Mc X es u)
  (hs:autoParam ((assignEach (e :: es) X.env).map (·.2)=assign e X.env :: (assignEach es X.env).map (·.2)) η):Mc X (e :: es) (HY t u):=by
 intro pins s σ H vs us Q I r h
 obtain⟨v,vr,e1,h⟩:=h
 subst e1
 cases r with
 | cons r rr =>
  rw[hs]
  refine assignInOrder_cons (bq (h1 pins s σ H _ _ _ I r h) fun _ s1 xU=>?_)
  obtain⟨σ1,H1,I1,q1⟩:=xU
  exact h2 pins s1 σ1 H1 _ _ Q I1 rr q1
noncomputable def sI (K:Frag)(n:Nat)(t:xE):TG:=fun v σ H Q=>∃ a xs,v = .ref a/\xV K H a xs/\xs.length=n/\t xs σ H Q
theorem cX {es:List Expr}{k:Nat}{t:xE}{n:Nat}(hc:X.calm=true)(h:Mc X es t)
  (hn:autoParam ((assignEach es X.env).length=n) η) (An:autoParam ((assignEach es X.env).findIdx? (·.1)=none) η):PG X (.Tuple es k pos) (sI X.K n t):=by
 intro pins s σ H v u Q I r hw
 obtain⟨a,xs,e1,hq,hl,hw⟩:=hw
 subst e1
 cases r
 obtain⟨xT,rv,ht,hz⟩:=I.tuple hq
 refine assign_Tuple_tuple (I.ok.hd hc) ht (by simp[hn,← hl,rv.length]) An fun h' hx=>?_
 have I1:Inv X pins σ H { s with heap:=h' }:=I.kept (t':=s.toks) fun b o e=>hx b o (ne_of_lt (lt_size e)) e
 exact h pins _ σ H xs _ Q I1 (by simpa using rv) hw
noncomputable def NZ (to ti:TE)(t:xD):TG:=fun v σ H Q=>to σ H fun o H1=>ti σ H1 fun i H2=>t o i v H2 fun H3=>Q σ H3
theorem nj {o i:Expr}{to ti:TE}{t:xD}(ho:PE X o to)(hi:PE X i ti)(hs:HX X t)
  (ha:∀ v,assign (.Subscript o i pos) X.env v=(do
   let ov ← holding [v] (eval o X.env)
   let iv ← holding [v,ov] (eval i X.env)
   standAt pos
   holding [v,ov,iv] (setItem ov iv v)
   release [v,ov,iv] []):=by intro _;rfl):PG X (.Subscript o i pos) (NZ to ti t):=by
 intro pins s σ H v u Q I r h
 rw[ha]
 refine wpAny_bind (wpAny_holding (bq (ho pins s σ H _ I h) fun ov s1 xU=>?_))
 obtain⟨x,H1,I1,r1,q1⟩:=xU
 refine wpAny_bind (wpAny_holding (bq (hi pins s1 σ H1 _ I1 q1) fun iv s2 xU=>?_))
 obtain⟨y,H2,I2,r2,q2⟩:=xU
 refine wpAny_bind (wpAny_standAt (wpAny_bind (wpAny_holding (bq (hs pins s2 σ H2 x y v ov iv u _ I2 r1 r2 r q2) fun _ s3 xU=>?_))))
 obtain⟨H3,I3,q3⟩:=xU
 exact wpAny_release ⟨σ,H3,I3,q3⟩
noncomputable def vU (te:TE)(g:TG):TS:=fun D σ H=>te σ H fun x H1=>g x σ H1 D.nx
theorem gW {tg e:Expr}{te:TE}{g:TG}(he:PE X e te)(hg:PG X tg g)(hs:autoParam (swapsWithSole [tg] e pos.line X.env=pure false) η)(hw:autoParam (swappedStores [tg] e X.env=pure none) η)
  (h1:autoParam ((assignEach [tg] X.env).map (·.2)=[assign tg X.env]) η):PS X (.Assign [tg] e pos) (vU te g):=by
 intro pins s σ H D I h
 refine wpAny_Assign_stores (bq (he pins s σ H _ I h) fun v s1 xU=>?_) hs hw
 obtain⟨x,H1,I1,r1,q1⟩:=xU
 rw[h1]
 exact bq (hg pins s1 σ H1 x v _ I1 r1 q1) fun _ s2 q=>q
theorem aD {i:Nat}{x:Str}{e:Expr}{te:TE}{pos':Pos}(hN:X.N.Nodup)(hi:X.N[i]? = some x)(hx:Loc X.env.scope x)(he:PE X e te)(hs:autoParam (swapsWith e (some (.Name x pos')) pos.line X.env=pure false) η)(hf:autoParam (X.fn x=true∨X.env.scope.names.lookup x=some .local) ζ) :
  PS X (.Assign [.Name x pos'] e pos) (vU te (bE i)):=by
 intro pins s σ H D I h
 refine wpAny_Assign_Name (bq (he pins s σ H _ I h) fun v s1 xU=>?_) hs
 obtain⟨y,H1,I1,r1,q1⟩:=xU
 exact ll I1 hN hi hx r1 (fun s2 I2=>⟨_,H1,I2,q1⟩) hf
end
section
variable {X:Cx}{pos:Pos}
end
structure It where
 go:Nat->Hp->Prop
 CS:Nat->Hp->V->Hp->Prop
 stop:Nat->Hp->Prop
noncomputable def eG (X:Cx)(pins:List (Addr × Obj))(H:Hp)(b:Addr):Prop :=
 H b=none/\b ≠ X.env.locals/\b ∉ X.fs/\(b ∈ X.ex∨X.s₀.heap.objs.size <= b)/\(∀ x c,X.env.cells.lookup x=some c->c ≠ b)/\∀ p ∈ X.pn ++ pins,p.1 ≠ b
theorem Inv.AV {X:Cx}{pins:List (Addr × Obj)}{σ:St}{H H':Hp}{s:Shared}{b:Addr}(I:Inv X pins σ H s)(hb:s.heap.objs.size <= b)(hn:H' b=none):eG X pins H' b:=by
 refine⟨hn,ne_of_gt (lt_of_lt_of_le I.lt hb),I.NH hb, .inr (le_trans I.sz hb),fun x c e z=>?_,fun p hp z=>?_⟩
 ·obtain⟨v,q⟩:=I.cell x c e
  exact absurd (lt_of_lt_of_le q.lt (by rw[z];exact hb)) (lt_irrefl _)
 ·exact absurd (lt_of_lt_of_le (lt_size (I.pin p hp).1) (by rw[z];exact hb)) (lt_irrefl _)
structure lc (P:Program)(w:World)(K:Frag)(tg:Expr)(J:It)(fp:List Addr)(it:Addr)(tn:Nat->Heap->Prop):Prop where
 mem:it ∈ fp
 obj:∀ i h,tn i h->∀ b ∈ fp,∃ o,h.get? b=some o/\∀ v,o.data ≠ .cell v
 keep:∀ i h h',tn i h->(∀ b ∈ fp,∀ o,h.get? b=some o->h'.get? b=some o)->tn i h'
 item:∀ (X:Cx),X.prog=P->X.w=w->X.K=K->X.calm=true->∀ (i:Nat)(pins:List (Addr × Obj))(s:Shared)(σ:St)(H:Hp)(E:Value->Shared->Prop),Inv X pins σ H s->(∀ b ∈ fp,eG X pins H b)->tn i s.heap->J.go i H ->
  wpAny (model P w) X.A (pyNext (.ref it)) (fun r s1=>∃ u,r=some u /\
   wpAny (model P w) X.A (letOwnedTupleGo tg (.ref it) u) (fun _ s2=>∃ x H',Inv X pins σ H' s2/\RelV x u/\J.CS i H x H'/\tn (i + 1) s2.heap/\∀ b ∈ fp,H' b=none) E s1) E s
 done:∀ (X:Cx),X.prog=P->X.w=w->X.K=K->X.calm=true->∀ (i:Nat)(pins:List (Addr × Obj))(s:Shared)(σ:St)(H:Hp)(E:Value->Shared->Prop),Inv X pins σ H s->(∀ b ∈ fp,eG X pins H b)->tn i s.heap->J.stop i H ->
  wpAny (model P w) X.A (pyNext (.ref it)) (fun r s1=>r=none/\Inv X pins σ H s1) E s
 self:∀ (A:Around)(i:Nat)(s:Shared)(Q:Value->Shared->Prop)(E:Value->Shared->Prop),tn i s.heap->Q (.ref it) s->wpAny (model P w) A (pyIter (.ref it)) Q E s
abbrev TI:=St->Hp->(It->Hp->Prop)->Prop
noncomputable def Sz (X:Cx)(pins:List (Addr × Obj))(σ:St)(tg:Expr)(R:It->Hp->Prop)(Md:Value)(s2:Shared):Prop :=
 ∃ (it:Addr)(fp:List Addr)(tn:Nat->Heap->Prop)(J:It)(H':Hp),Md = .ref it/\Inv X pins σ H' s2/\lc X.prog X.w X.K tg J fp it tn/\tn 0 s2.heap/\(∀ b ∈ fp,eG X pins H' b)/\R J H'
noncomputable def PI (X:Cx)(tg iter:Expr)(wi:TI):Prop :=
 ∀ (pins:List (Addr × Obj))(s:Shared)(σ:St)(H:Hp)(R:It->Hp->Prop),Inv X pins σ H s->wi σ H R ->
  wpAny (model X.prog X.w) X.A (eval iter X.env) (fun v s1=>wpAny (model X.prog X.w) X.A (pyIter v) (Sz X pins σ tg R) X.xe s1) X.xe s
theorem oX {M:Model}{A:Around}{E:Value->Shared->Prop}{s:Shared}{tg:Expr}{it:Addr}{u:Value}{o:Obj}{n:String}{vs:Array Value}{Q:Unit->Shared->Prop}(ho:s.heap.get? it=some o)(hc:o.cls = .type n)(hd:o.data = .fields vs)
  (hn:["enumerate", "zip", "dict_itemiterator", "dict_reverseitemiterator", "odict_iterator", "itertools.zip_longest", "itertools.pairwise"].contains n=false) (hQ:Q () s):wpAny M A (letOwnedTupleGo tg (.ref it) u) Q E s:=by
 unfold letOwnedTupleGo
 cases tg<;>first
  | exact wpAny_pure hQ
  | (cases u<;>first
    | exact wpAny_pure hQ
    | (refine wpAny_bind (wpAny_load ho ?_)
       rw[hc,hd]
       show wpAny M A (if (["enumerate", "zip", "dict_itemiterator", "dict_reverseitemiterator", "odict_iterator", "itertools.zip_longest", "itertools.pairwise"].contains n && vs[0]? == some (rawInt _))=true then _ else _) Q E s
       rw[if_neg (by intro h;rw[hn,Bool.false_and]at h;cases h)]
       exact wpAny_pure hQ))
noncomputable def tL (K:Frag)(a:Addr):It :=
 ⟨fun i H=>∃ xs x,xS K H a xs/\xs[i]? = some x,fun i H x H'=>H' = H/\∀ xs,xS K H a xs->xs[i]? = some x,fun i H=>∃ xs,xS K H a xs/\xs.length <= i⟩
noncomputable def HZ (K:Frag)(a:Addr):It :=
 ⟨fun i H=>∃ xs x,xV K H a xs/\xs[i]? = some x,fun i H x H'=>H' = H/\∀ xs,xV K H a xs->xs[i]? = some x,fun i H=>∃ xs,xV K H a xs/\xs.length <= i⟩
noncomputable def tK (lo:Int)(n:Nat):It:=⟨fun i _=>i < n,fun i H x H'=>H' = H/\x = .int (lo + i),fun i _=>n <= i⟩
theorem p8 {P:Program}{w:World}{K:Frag}{tg:Expr}(a it:Addr):lc P w K tg (tL K a) [it] it (fun i h=>h.IsListIter it a i) where
 mem:=by simp
 obj:=fun i h st b hb=>by
  have e:b=it:=by simpa using hb
  subst e
  obtain⟨o,e,c,d⟩:=st
  exact⟨o,e,fun v z=>by rw[d]at z;cases z⟩
 keep:=fun i h h' st k=>st.at fun o e=>k it (by simp) o e
 item:=by
  intro X hP hw hK hc i pins s σ H E I hf st hg
  subst hP hw hK
  obtain⟨xs,x,hq,hx⟩:=hg
  obtain⟨xT,rv,p,hz⟩:=I.list hq
  obtain⟨u,hu,ru⟩:=rv.get hx
  obtain⟨f0,f1,f2,f3,f4,f5⟩:=hf it (by simp)
  refine wpAny_pyNext_list_item st p.isList (x:=u) (by simpa using hu) fun h' DY sb=>?_
  have I1:Inv X pins σ H { s with heap:=h' }:=I.turned (t':=s.toks) (fun b o hb e=>(sb.2 b hb).trans e) f0 f1 f3 f4 f5
  obtain⟨o,e,c,d⟩:=id DY
  exact⟨u,rfl,oX (s:={ s with heap:=h' }) e c d (by decide) ⟨x,H,I1,ru,⟨rfl,fun ys hy=>by rw[I.zH hy hq];exact hx⟩,DY,fun b hb=>(hf b hb).1⟩⟩
 done:=by
  intro X hP hw hK hc i pins s σ H E I hf st hg
  subst hP hw hK
  obtain⟨xs,hq,hx⟩:=hg
  obtain⟨xT,rv,p,hz⟩:=I.list hq
  obtain⟨f0,f1,f2,f3,f4,f5⟩:=hf it (by simp)
  have hl:=rv.length
  exact wpAny_pyNext_list_end (I.ok.hd hc) st p.isList (by simp;omega) fun h' eb=>⟨rfl,I.turned (t':=s.toks) (fun b o hb e=>eb b o hb e) f0 f1 f3 f4 f5⟩
 self:=fun _ _ _ _ _ st h=>wpAny_pyIter_listiter st h
theorem m9 {P:Program}{w:World}{K:Frag}{tg:Expr}(a it:Addr):lc P w K tg (HZ K a) [it] it (fun i h=>h.IsTupleIter it a i) where
 mem:=by simp
 obj:=fun i h st b hb=>by
  have e:b=it:=by simpa using hb
  subst e
  obtain⟨o,e,c,d⟩:=st
  exact⟨o,e,fun v z=>by rw[d]at z;cases z⟩
 keep:=fun i h h' st k=>st.at fun o e=>k it (by simp) o e
 item:=by
  intro X hP hw hK hc i pins s σ H E I hf st hg
  subst hP hw hK
  obtain⟨xs,x,hq,hx⟩:=hg
  obtain⟨xT,rv,p,hz⟩:=I.tuple hq
  obtain⟨u,hu,ru⟩:=rv.get hx
  obtain⟨f0,f1,f2,f3,f4,f5⟩:=hf it (by simp)
  refine wpAny_pyNext_tuple_item st (show s.heap.IsTuple a xT.toArray from p) (x:=u) (by simpa using hu) fun h' DY sb=>?_
  have I1:Inv X pins σ H { s with heap:=h' }:=I.turned (t':=s.toks) (fun b o hb e=>(sb.2 b hb).trans e) f0 f1 f3 f4 f5
  obtain⟨o,e,c,d⟩:=id DY
  exact⟨u,rfl,oX (s:={ s with heap:=h' }) e c d (by decide) ⟨x,H,I1,ru,⟨rfl,fun ys hy=>by rw[I.zl hy hq];exact hx⟩,DY,fun b hb=>(hf b hb).1⟩⟩
 done:=by
  intro X hP hw hK hc i pins s σ H E I hf st hg
  subst hP hw hK
  obtain⟨xs,hq,hx⟩:=hg
  obtain⟨xT,rv,p,hz⟩:=I.tuple hq
  obtain⟨f0,f1,f2,f3,f4,f5⟩:=hf it (by simp)
  have hl:=rv.length
  exact wpAny_pyNext_tuple_end (I.ok.hd hc) st (show s.heap.IsTuple a xT.toArray from p) (by simp;omega) fun h' eb=>⟨rfl,I.turned (t':=s.toks) (fun b o hb e=>eb b o hb e) f0 f1 f3 f4 f5⟩
 self:=fun _ _ _ _ _ st h=>wpAny_pyIter_tupleiter st h
theorem mD {P:Program}{w:World}{K:Frag}{tg:Expr}(it:Addr)(lo:Int)(n:Nat):lc P w K tg (tK lo n) [it] it (fun i h=>IsRangeIter h it (lo + (i:Nat) * 1) ((n:Int) - (i:Nat)) 1) where
 mem:=by simp
 obj:=fun i h st b hb=>by
  have e:b=it:=by simpa using hb
  subst e
  exact⟨_,st,fun v z=>by
   have z':Data.fields _=Data.cell v:=z
   cases z'⟩
 keep:=fun i h h' st k=>k it (by simp) _ st
 item:=by
  intro X hP hw hK hc i pins s σ H E I hf st hg
  subst hP hw hK
  obtain⟨f0,f1,f2,f3,f4,f5⟩:=hf it (by simp)
  have W:=Walks.range (prog:=X.prog) (w:=X.w) (I.ok.hd hc) it lo 1 n
  refine W.item i s _ _ hg st fun v h' tk hv DY kk=>?_
  obtain⟨t,rfl⟩:=hv
  have I1:Inv X pins σ H { s with heap:=h',toks:=tk }:=I.turned (fun b o hb e=>kk b o (by simpa using hb) e) f0 f1 f3 f4 f5
  refine⟨_,rfl,oX (s:={ s with heap:=h',toks:=tk }) (n := "range_iterator") DY rfl rfl (by decide) ⟨.int (lo + i),H,I1,⟨t,?_⟩,⟨rfl,rfl⟩,DY,fun b hb=>(hf b hb).1⟩⟩
  rw[Int.mul_one]
 done:=by
  intro X hP hw hK hc i pins s σ H E I hf st hg
  subst hP hw hK
  obtain⟨f0,f1,f2,f3,f4,f5⟩:=hf it (by simp)
  exact wpAny_pyNext_range_end (I.ok.hd hc) st (by have:n <= i:=hg;omega) fun h' eb=>⟨rfl,I.turned (t':=s.toks) (fun b o hb e=>eb b o hb e) f0 f1 f3 f4 f5⟩
 self:=fun _ _ _ _ _ st h=>wpAny_pyIter_rangeiter st h
section
variable {X:Cx}{tg:Expr}
noncomputable def Ia (K:Frag)(tl:TE):TI:=fun σ H R=>tl σ H fun x H1=>∃ a,x = .ref a/\(∃ xs,xS K H1 a xs)/\R (tL K a) H1
noncomputable def Oa (K:Frag)(tl:TE):TI:=fun σ H R=>tl σ H fun x H1=>∃ a,x = .ref a/\(∃ xs,xV K H1 a xs)/\R (HZ K a) H1
theorem bA {l:Expr}{tl:TE}(hl:PE X l tl):PI X tg l (Ia X.K tl):=by
 intro pins s σ H R I h
 refine bq (hl pins s σ H _ I h) fun v s1 xU=>?_
 obtain⟨x,H1,I1,r1,q1⟩:=xU
 obtain⟨a,e,⟨xs,hq⟩,q⟩:=q1
 subst e
 cases r1
 obtain⟨xT,rv,p,hz⟩:=I1.list hq
 refine wpAny_pyIter_list p.isList ?_
 refine⟨s1.heap.objs.size,[s1.heap.objs.size],_,_,H1,rfl,I1.kept (t':=s1.toks) fun b o e=>Heap.get?_push_of_some _ e,p8 a _,⟨_,Heap.get?_push_size _ rfl,rfl,rfl⟩,fun b hb=>?_,q⟩
 have e:b=s1.heap.objs.size:=by simpa using hb
 subst e
 exact I1.AV (le_refl _) (I1.xY.fresh (le_refl _))
theorem jb {l:Expr}{tl:TE}(hl:PE X l tl):PI X tg l (Oa X.K tl):=by
 intro pins s σ H R I h
 refine bq (hl pins s σ H _ I h) fun v s1 xU=>?_
 obtain⟨x,H1,I1,r1,q1⟩:=xU
 obtain⟨a,e,⟨xs,hq⟩,q⟩:=q1
 subst e
 cases r1
 obtain⟨xT,rv,p,hz⟩:=I1.tuple hq
 refine wpAny_pyIter_tuple (show s1.heap.IsTuple a xT.toArray from p) ?_
 refine⟨s1.heap.objs.size,[s1.heap.objs.size],_,_,H1,rfl,I1.kept (t':=s1.toks) fun b o e=>Heap.get?_push_of_some _ e,m9 a _,⟨_,Heap.get?_push_size _ rfl,rfl,rfl⟩,fun b hb=>?_,q⟩
 have e:b=s1.heap.objs.size:=by simpa using hb
 subst e
 exact I1.AV (le_refl _) (I1.xY.fresh (le_refl _))
theorem rk {pins:List (Addr × Obj)}{σ:St}{H:Hp}{s:Shared}{R:It->Hp->Prop}{E:Value->Shared->Prop}{lo hi:Int}{t u v:Tok}{tk:Nat}(I:Inv X pins σ H s)(h1:-(2 ^ 62) <= lo)(h2:lo < 2 ^ 62)(h3:-(2 ^ 62) <= hi)(h4:hi < 2 ^ 62)
  (q:R (tK lo (hi - lo).toNat) H):wpAny (model X.prog X.w) X.A (pyIter (.ref s.heap.objs.size)) (Sz X pins σ tg R) E { s with heap:=s.heap.push { cls := .type "range",data := .fields #[.int lo t, .int hi u, .int 1 v] },toks:=tk }:=by
 refine wpAny_pyIter_range (IsRange.new ..) (small_one h1 h2 h3 h4) ?_
 have I1:Inv X pins σ H { s with heap:=s.heap.push { cls := .type "range",data := .fields #[.int lo t, .int hi u, .int 1 v] },toks:=tk }:=I.kept fun b o e=>Heap.get?_push_of_some _ e
 refine⟨(s.heap.push { cls := .type "range",data := .fields #[.int lo t, .int hi u, .int 1 v] }).objs.size,[(s.heap.push { cls := .type "range",data := .fields #[.int lo t, .int hi u, .int 1 v] }).objs.size],_,_,H,rfl,
  I1.kept (t':=tk) fun b o e=>Heap.get?_push_of_some _ e,mD _ lo (hi - lo).toNat,?_,fun b hb=>?_,q⟩
 ·have e1:lo + ((0:Nat):Int) * 1=lo:=by simp
  have e2:(((hi - lo).toNat:Nat):Int) - ((0:Nat):Int)=Builtin.Range.rangeSize lo hi 1:=by rw[rangeSize_one];split<;>omega
  show IsRangeIter _ _ (lo + ((0:Nat):Int) * 1) ((((hi - lo).toNat:Nat):Int) - ((0:Nat):Int)) 1
  rw[e1,e2]
  exact Heap.get?_push_size _ rfl
 ·have e:b=(s.heap.push { cls := .type "range",data := .fields #[.int lo t, .int hi u, .int 1 v] }).objs.size:=by simpa using hb
  subst e
  exact I1.AV (le_refl _) (I1.xY.fresh (le_refl _))
noncomputable def Ig (ta:TA):TI:=fun σ H R=>ta σ H fun vs H1=>∃ j:Int,vs=[.int j]/\-(2 ^ 62) <= j/\j < 2 ^ 62/\R (tK 0 j.toNat) H1
theorem aS {a:Expr}{ta:TA}{p pos:Pos}(hg:Gl X "range")(hm:X.mg "range" = none)(ha:PA X [a] ta)(hs:autoParam (starEach [a] X.env=[(false,eval a X.env)]) η):PI X tg (.Call (.Name "range" p) [a] [] pos) (Ig ta):=by
 intro pins s σ H R I h
 refine Call_ (fP I hg hm boot_range (PyProof.Rows.callWith_type1 (bq (ha pos pins s σ H _ I h) fun us s1 xU=>?_) hs rfl))
 obtain⟨vs,H1,I1,r1,q1⟩:=xU
 obtain⟨j,e,q1,q2,q⟩:=q1
 subst e
 cases r1 with
 | cons r rr =>
  cases rr
  obtain⟨t,rfl⟩:=r
  exact call_range_1 (rk I1 (by omega) (by omega) q1 q2 (by simpa using q))
noncomputable def Ob (wi:TI)(g:TG)(tb:TS):TS:=fun D σ H=>wi σ H fun J H1=>∃ W:Nat->Nat->St->Hp->Prop,(∃ m,W 0 m σ H1)/\∀ i m σ H,W i m σ H ->
 (J.stop i H/\D.nx σ H)∨(J.go i H/\∃ N:St->Hp->Prop,(∀ σ' H',N σ' H'->∃ m',m' < m/\W (i + 1) m' σ' H')/\∀ x H',J.CS i H x H'->g x σ H' fun σ2 H2=>tb { D with nx:=N,ct:=N,bk:=D.nx } σ2 H2)
noncomputable def dX (fp:List Addr)(h:Heap):List (Addr × Obj):=fp.filterMap fun b=>(h.get? b).map fun o=>(b,o)
theorem dZ {fp:List Addr}{h:Heap}{b:Addr}{o:Obj}(hb:b ∈ fp)(e:h.get? b=some o):(b,o) ∈ dX fp h:=List.mem_filterMap.mpr ⟨b,hb,by rw[e];rfl⟩
theorem jL {fp:List Addr}{h:Heap}{p:Addr × Obj}(hp:p ∈ dX fp h):p.1 ∈ fp/\h.get? p.1=some p.2:=by
 obtain⟨b,hb,e⟩:=List.mem_filterMap.mp hp
 cases q:h.get? b with
 | none=>rw[q]at e;cases e
 | some o =>
  rw[q]at e
  have e':(b,o)=p:=Option.some.inj e
  subst e'
  exact⟨hb,q⟩
theorem Inv.pinned {pins:List (Addr × Obj)}{σ:St}{H:Hp}{s:Shared}{fp:List Addr}(I:Inv X pins σ H s)(hf:∀ b ∈ fp,eG X pins H b)(ho:∀ b ∈ fp,∃ o,s.heap.get? b=some o/\∀ v,o.data ≠ .cell v):Inv X (pins ++ dX fp s.heap) σ H s :=
 I.yQ fun p hp=>(mem_append.mp hp).elim (fun z=>I.pin p (mem_append_right _ z)) fun z=>by
  obtain⟨hb,e⟩:=jL z
  obtain⟨f0,f1,f2,_⟩:=hf p.1 hb
  obtain⟨o,e',d⟩:=ho p.1 hb
  rw[e]at e';cases e'
  exact⟨e,f0,f1,f2,d⟩
theorem Inv.zd {pins pl:List (Addr × Obj)}{σ:St}{H:Hp}{s:Shared}(I:Inv X (pins ++ pl) σ H s):Inv X pins σ H s:=I.yQ fun p hp=>I.pin p (mem_append_right _ (mem_append_left _ hp))
theorem bB {iter:Expr}{body:List Stmt}{wi:TI}{g:TG}{tb:TS}{pos:Pos}(hp:PassesOwn (model X.prog X.w) X.A X.env X.xe)(hc:X.calm=true)(hi:PI X tg iter wi)(hg:PG X tg g)(hb:BB X body tb)
  (hs:autoParam (∀ x,foldedSetIterable iter X.env x=pure x) ψ):PS X (.For tg iter body [] pos) (Ob wi g tb):=by
 intro pins s σ H D I h
 refine wpAny_For (bq (hi pins s σ H _ I h) fun v s1 h1=>bq h1 fun Md s2 h2=>?_) hs
 obtain⟨it,fp,tn,J,H2,e,I2,T,Ih,f2,W,⟨m0,w0⟩,turn⟩:=h2
 subst e
 have stat:∀ {H':Hp},(∀ b ∈ fp,H' b=none)->∀ b ∈ fp,eG X pins H' b:=fun hn b hb=>⟨hn b hb,(f2 b hb).2⟩
 refine codeAny_forLoop_any (fun n s'=>∃ i σ' H',Inv X pins σ' H' s'/\tn i s'.heap/\(∀ b ∈ fp,H' b=none)/\W i n σ' H') ?_ m0 ⟨0,σ,H2,I2,Ih,fun b hb=>(f2 b hb).1,w0⟩
 rintro n s3 ⟨i,σ3,H3,I3,S0,S1,w3⟩
 rcases turn i n σ3 H3 w3 with ⟨stop,qn⟩ | ⟨go,N,hN,step⟩
 ·refine wpAny_passesOwn hp (bq (T.done X rfl rfl rfl hc i pins s3 σ3 H3 X.xe I3 (stat S1) S0 stop) fun r s4 xU=>?_)
  obtain⟨hr,I4⟩:=xU
  subst hr
  exact wpAny_execs_nil ⟨σ3,H3,I4,qn⟩
 ·refine wpAny_passesOwn hp (bq (T.item X rfl rfl rfl hc i pins s3 σ3 H3 X.xe I3 (stat S1) S0 go) fun r s4 xU=>?_)
  obtain⟨u,hr,h4⟩:=xU
  subst hr
  refine wpAny_passesOwn hp (bq h4 fun _ s5 xU=>?_)
  obtain⟨x,H5,I5,r5,y5,GQ,Mf⟩:=xU
  have I5':=I5.pinned (stat Mf) (T.obj _ _ GQ)
  refine wpAny_passesOwn hp (bq (hg _ s5 σ3 H5 x u _ I5' r5 (step x H5 y5)) fun _ s6 xU=>?_)
  obtain⟨σ6,H6,I6,q6⟩:=xU
  refine wpAny_passesOwn hp (bq (hb _ s6 σ6 H6 _ I6 q6) fun f s7 q7=>?_)
  have again:∀ {σ7:St}{H7:Hp},Inv X (pins ++ dX fp s5.heap) σ7 H7 s7->N σ7 H7->∃ m,m < n/\∃ i σ' H',Inv X pins σ' H' s7/\tn i s7.heap/\(∀ b ∈ fp,H' b=none)/\W i m σ' H':=fun {σ7 H7} I7 n7=>by
   obtain⟨m',hm,w7⟩:=hN σ7 H7 n7
   refine⟨m',hm,i + 1,σ7,H7,I7.zd,T.keep _ _ _ GQ fun b hb o e=>(I7.pin (b,o) (mem_append_right _ (mem_append_right _ (dZ hb e)))).1,fun b hb=>?_,w7⟩
   obtain⟨o,e,d⟩:=T.obj _ _ GQ b hb
   exact(I7.pin (b,o) (mem_append_right _ (mem_append_right _ (dZ hb e)))).2.1
  cases f with
  | next=>obtain⟨σ7,H7,I7,n7⟩:=q7;exact again I7 n7
  | cont=>obtain⟨σ7,H7,I7,n7⟩:=q7;exact again I7 n7
  | brk=>obtain⟨σ7,H7,I7,q7⟩:=q7;exact⟨σ7,H7,I7.zd,q7⟩
  | ret v=>obtain⟨x7,σ7,H7,I7,r7,q7⟩:=q7;exact⟨x7,σ7,H7,I7.zd,r7,q7⟩
end
theorem gx {K:Frag}{a:Addr}{xs:List V}{g:TG}{tb:TS}{D:j1}{σ:St}{H:Hp}(Pv:Nat->St->Hp->Prop)(h0:Pv 0 σ H)(hl:∀ i σ H,i <= xs.length->Pv i σ H->xS K H a xs)
  (hs:∀ i x σ H,xs[i]? = some x->Pv i σ H->g x σ H fun σ2 H2=>tb { D with nx:=Pv (i + 1),ct:=Pv (i + 1),bk:=D.nx } σ2 H2) (hd:∀ σ H,Pv xs.length σ H->D.nx σ H) :
  ∃ W:Nat->Nat->St->Hp->Prop,(∃ m,W 0 m σ H)/\∀ i m σ H,W i m σ H ->
   ((tL K a).stop i H/\D.nx σ H)∨((tL K a).go i H/\∃ N:St->Hp->Prop,(∀ σ' H',N σ' H'->∃ m',m' < m/\W (i + 1) m' σ' H')/\∀ x H',(tL K a).CS i H x H'->g x σ H' fun σ2 H2=>tb { D with nx:=N,ct:=N,bk:=D.nx } σ2 H2):=by
 refine⟨fun i m σ H=>m=xs.length - i/\i <= xs.length/\Pv i σ H,⟨xs.length,by simp,zero_le _,h0⟩,?_⟩
 rintro i m σ H ⟨rfl,hi,p⟩
 have q:=hl i σ H hi p
 by_cases yu:i < xs.length
 ·refine .inr ⟨⟨xs,xs[i],q,by simp[yu]⟩,Pv (i + 1),fun σ' H' p'=>⟨xs.length - (i + 1),by omega,rfl,yu,p'⟩,fun x H' y=>?_⟩
  obtain⟨e,y⟩:=y
  subst e
  exact hs i x σ _ (y xs q) p
 ·have e:i=xs.length:=by omega
  subst e
  exact .inl ⟨⟨xs,q,le_refl _⟩,hd σ H p⟩
theorem b5 {lo:Int}{n:Nat}{g:TG}{tb:TS}{D:j1}{σ:St}{H:Hp}(Pv:Nat->St->Hp->Prop)(h0:Pv 0 σ H)
  (hs:∀ i σ H,i < n->Pv i σ H->g (.int (lo + i)) σ H fun σ2 H2=>tb { D with nx:=Pv (i + 1),ct:=Pv (i + 1),bk:=D.nx } σ2 H2) (hd:∀ σ H,Pv n σ H->D.nx σ H) :
  ∃ W:Nat->Nat->St->Hp->Prop,(∃ m,W 0 m σ H)/\∀ i m σ H,W i m σ H ->
   ((tK lo n).stop i H/\D.nx σ H)∨((tK lo n).go i H/\∃ N:St->Hp->Prop,(∀ σ' H',N σ' H'->∃ m',m' < m/\W (i + 1) m' σ' H')/\∀ x H',(tK lo n).CS i H x H'->g x σ H' fun σ2 H2=>tb { D with nx:=N,ct:=N,bk:=D.nx } σ2 H2):=by
 refine⟨fun i m σ H=>m=n - i/\i <= n/\Pv i σ H,⟨n,by simp,zero_le _,h0⟩,?_⟩
 rintro i m σ H ⟨rfl,hi,p⟩
 by_cases yu:i < n
 ·refine .inr ⟨yu,Pv (i + 1),fun σ' H' p'=>⟨n - (i + 1),by omega,rfl,yu,p'⟩,fun x H' y=>?_⟩
  obtain⟨e,y⟩:=y
  subst e y
  exact hs i σ _ yu p
 ·have e:i=n:=by omega
  subst e
  exact .inl ⟨le_refl _,hd σ H p⟩
abbrev R2:=V->V->Hp->VK->Prop
noncomputable def dH (X:Cx)(f:Value->Value->Sem Value)(r:R2):Prop :=
 ∀ (pins:List (Addr × Obj))(s:Shared)(σ:St)(H:Hp)(x y:V)(v u:Value)(Q:VK),Inv X pins σ H s->RelV x v->RelV y u->r x y H Q ->
  wpAny (model X.prog X.w) X.A (f v u) (EP X pins σ Q) X.xe s
noncomputable def cR (X:Cx)(f:Value)(r:List V->Hp->VK->Prop):Prop :=
 ∀ (pins:List (Addr × Obj))(s:Shared)(σ:St)(H:Hp)(xs:List V)(us:List Value)(Q:VK),Inv X pins σ H s->Vals xs us->r xs H Q ->
  wpAny (model X.prog X.w) X.A (call f us) (EP X pins σ Q) X.xe s
noncomputable def Oc (X:Cx)(r:V->Hp->(Bool->Hp->Prop)->Prop):Prop :=
 ∀ (pins:List (Addr × Obj))(s:Shared)(σ:St)(H:Hp)(x:V)(v:Value)(Q:Bool->Hp->Prop),Inv X pins σ H s->RelV x v->r x H Q ->
  wpAny (model X.prog X.w) X.A (truthy v) (TP X pins σ Q) X.xe s
noncomputable def Mg (r:R2)(ta tb:TE):TE:=fun σ H Q=>ta σ H fun x H1=>tb σ H1 fun y H2=>r x y H2 Q
noncomputable def rI (C:Int->Int->Prop)(g:Int->Int->V):R2:=fun x y H Q=>∃ i j,x = .int i/\y = .int j/\C i j/\Q (g i j) H
noncomputable def qj (g:Int->Int->V):R2:=fun x y H Q=>∃ i j,x = .int i/\y = .int j/\Q (g i j) H
section
variable {X:Cx}{a b c:Expr}{ta tb tc:TE}{pos:Pos}
theorem x9 (ha:PE X a ta)(hb:PE X b tb){pins:List (Addr × Obj)}{s:Shared}{σ:St}{H:Hp}{R:V->V->Hp->Prop}(I:Inv X pins σ H s)
  (h:ta σ H fun x H1=>tb σ H1 fun y H2=>R x y H2) {Q:Value->Shared->Prop} {f:Value->Value->Sem Value}
  (hf:∀ v u s2 x y H2,Inv X pins σ H2 s2->RelV x v->RelV y u->R x y H2->wpAny (model X.prog X.w) X.A (f v u) Q X.xe s2) :
  wpAny (model X.prog X.w) X.A (eval a X.env) (fun v s₁=>wpAny (model X.prog X.w) X.A (eval b X.env) (fun u s₂=>wpAny (model X.prog X.w) X.A (f v u) Q X.xe s₂) X.xe s₁) X.xe s:=by
 refine bq (ha pins s σ H _ I h) fun v s1 xU=>?_
 obtain⟨x,H1,I1,r1,q1⟩:=xU
 refine bq (hb pins s1 σ H1 _ I1 q1) fun u s2 xU=>?_
 obtain⟨y,H2,I2,r2,q2⟩:=xU
 exact hf v u s2 x y H2 I2 r1 r2 q2
theorem ax {op:Operator}{r:R2}(ho:dH X (binaryOp op) r)(ha:PE X a ta)(hb:PE X b tb):PE X (.BinOp a op b pos) (Mg r ta tb):=by
 intro pins s σ H Q I h
 exact wpAny_BinOp (x9 ha hb I h fun v u s2 x y H2 I2 rx ry q=>ho pins s2 σ H2 x y v u Q I2 rx ry q)
theorem GR {f:Value->Value->Sem Value}{C:Int->Int->Prop}{g:Int->Int->Int}
  (rule:∀ (i j:Int)(t u:Tok)(s:Shared)(Q:Value->Shared->Prop)(E:Value->Shared->Prop),C i j->Q (.int (g i j) s.toks) { s with toks:=s.toks + 1 }->wpAny (model X.prog X.w) X.A (f (.int i t) (.int j u)) Q E s) :
  dH X f (rI C fun i j => .int (g i j)):=by
 intro pins s σ H x y v u Q I rx ry h
 obtain⟨i,j,rfl,rfl,hc,q⟩:=h
 obtain⟨t,rfl⟩:=rx
 obtain⟨t',rfl⟩:=ry
 exact rule i j t t' s _ _ hc ⟨.int (g i j),H,I.tok _,⟨_,rfl⟩,q⟩
theorem pK {f:Value->Value->Sem Value}{g:Int->Int->Int}
  (rule:∀ (i j:Int)(t u:Tok)(s:Shared)(Q:Value->Shared->Prop)(E:Value->Shared->Prop),Q (.int (g i j) s.toks) { s with toks:=s.toks + 1 }->wpAny (model X.prog X.w) X.A (f (.int i t) (.int j u)) Q E s) :
  dH X f (qj fun i j => .int (g i j)):=by
 intro pins s σ H x y v u Q I rx ry h
 obtain⟨i,j,rfl,rfl,q⟩:=h
 obtain⟨t,rfl⟩:=rx
 obtain⟨t',rfl⟩:=ry
 exact rule i j t t' s _ _ ⟨.int (g i j),H,I.tok _,⟨_,rfl⟩,q⟩
theorem uw {f:Value->Value->Sem Value}{g:Int->Int->Bool}
  (rule:∀ (i j:Int)(t u:Tok)(s:Shared)(Q:Value->Shared->Prop)(E:Value->Shared->Prop),Q (.bool (g i j)) s->wpAny (model X.prog X.w) X.A (f (.int i t) (.int j u)) Q E s) :
  dH X f (qj fun i j => .bl (g i j)):=by
 intro pins s σ H x y v u Q I rx ry h
 obtain⟨i,j,rfl,rfl,q⟩:=h
 obtain⟨t,rfl⟩:=rx
 obtain⟨t',rfl⟩:=ry
 exact rule i j t t' s _ _ ⟨.bl (g i j),H,I,rfl,q⟩
noncomputable def Od (i j:Int):Prop:=0 < j/\j < 1073741824
noncomputable def Ii (i j:Int):Prop:=0 <= j/\j <= 1000000/\i.natAbs < 2 ^ 64
noncomputable def Fg (i j:Int):Prop:=(-(2 ^ 64) < i/\i < 2 ^ 64)∨(-(2 ^ 64) < j/\j < 2 ^ 64)
theorem Fg.ok {i j:Int}(h:Fg i j):IntMulOk i j:=by
 rcases h with ⟨h1,h2⟩ | ⟨h1,h2⟩
 ·exact .of_left (intBits_le_64 h1 h2)
 ·exact .of_right (intBits_le_64 h1 h2)
theorem m8 (k:Nat):(0:Int) <= 2 ^ k:=by
 rw[two_pow_cast]
 exact Int.natCast_nonneg _
theorem bD:dH X (binaryOp .Add) (qj fun i j => .int (i + j)):=pK fun _ _ _ _ _ _ _ q=>add_int q
theorem cI:dH X (binaryOp .Sub) (qj fun i j => .int (i - j)):=pK fun _ _ _ _ _ _ _ q=>sub_int q
theorem dE:dH X (binaryOp .Mult) (rI Fg fun i j => .int (i * j)):=GR fun _ _ _ _ _ _ _ hc q=>mul_int q hc.ok
theorem dY:dH X (binaryOp .FloorDiv) (rI Od fun i j => .int (i / j)):=GR fun i j _ _ _ _ _ hc q=>by
 have h1:(0:Int) < j:=hc.1
 have h2:j < 1073741824:=hc.2
 exact floordiv_int (by omega) (by rw[Int.fdiv_eq_ediv_of_nonneg i (by omega)];exact q) (.inl (PyProof.noPylong_small (by omega)))
theorem bx:dH X (binaryOp .Mod) (rI (fun _ j=>0 < j) fun i j => .int (i % j)):=GR fun i j _ _ _ _ _ hc q=>by
 have h1:(0:Int) < j:=hc
 exact mod_int' (by omega) (by rw[Int.fmod_eq_emod_of_nonneg i (by omega)];exact q)
theorem wF:dH X (binaryOp .Pow) (rI Ii fun i j => .int (i ^ j.toNat)):=GR fun _ _ _ _ _ _ _ hc q=>pow_int_small hc.1 hc.2.1 hc.2.2 q
theorem wE:dH X (binaryOp .LShift) (rI Ii fun i j => .int (i * 2 ^ j.toNat)):=GR fun _ _ _ _ _ _ _ hc q=>lshift_int_small hc.1 hc.2.1 hc.2.2 q
theorem r9:dH X (binaryOp .RShift) (rI (fun _ j=>0 <= j) fun i j => .int (i / 2 ^ j.toNat)):=GR fun i j _ _ _ _ _ hc q =>
 rshift_int hc (by rw[Int.fdiv_eq_ediv_of_nonneg i (m8 _)];exact q)
theorem rE:dH X (binaryOp .BitAnd) (qj fun i j => .int (Builtin.bitAnd i j)):=pK fun _ _ _ _ _ _ _ q=>and_int q
theorem Ij:dH X (binaryOp .BitOr) (qj fun i j => .int (Builtin.bitOr i j)):=pK fun _ _ _ _ _ _ _ q=>or_int q
theorem kW:dH X (inplaceOp .Add) (qj fun i j => .int (i + j)):=pK fun _ _ _ _ _ _ _ q=>iadd_int q
theorem oV:dH X (inplaceOp .Sub) (qj fun i j => .int (i - j)):=pK fun _ _ _ _ _ _ _ q=>isub_int q
end
noncomputable def vY:V->V->Bool
 | .yd, .yd=>true | .yd, .int _=>true | .int _, .yd=>true | .yd, .bl _=>true | .bl _, .yd=>true | .yd, .str _=>true | .str _, .yd=>true
 | .int _, .int _=>true | .bl _, .bl _=>true | .str _, .str _=>true | .Bj _, .Bj _=>true
 | .int _, .str _=>true | .str _, .int _=>true | .bl _, .str _=>true | .str _, .bl _=>true
 | _,_=>false
noncomputable def rEq:R2:=fun x y H Q=>vY x y=true/\Q (.bl (decide (x=y))) H
noncomputable def rNe:R2:=fun x y H Q=>vY x y=true/\Q (.bl (!decide (x=y))) H
theorem pf {i j:Int}:decide (V.int i=V.int j)=(i == j):=by
 rw[Bool.eq_iff_iff]
 simp
theorem sS {i j:Bool}:decide (V.bl i=V.bl j)=(i == j):=by
 rw[Bool.eq_iff_iff]
 simp
theorem pe {i j:Str}:decide (V.str i=V.str j)=(i == j):=by
 rw[Bool.eq_iff_iff]
 simp
theorem pi {i j:Array UInt8}:decide (V.Bj i=V.Bj j)=(i.toList == j.toList):=by
 rw[Bool.eq_iff_iff]
 cases i
 cases j
 simp
section
variable {X:Cx}{a b c:Expr}{ta tb tc:TE}{pos:Pos}
theorem aT {pins:List (Addr × Obj)}{σ:St}{H:Hp}{s:Shared}{Q:VK}{k k':Bool}(I:Inv X pins σ H s)(q:Q (.bl k) H)(e:k=k'):EP X pins σ Q (.bool k') s:=by
 subst e
 exact⟨.bl k,H,I,rfl,q⟩
theorem bG:dH X (compareOp .Eq) rEq:=by
 intro pins s σ H x y v u Q I rx ry h
 obtain⟨hs,q⟩:=h
 cases x with
 | yd =>
  cases rx
  cases y with
  | yd=>cases ry;exact PySem.EqNone.eq_none_none (aT I q (by simp))
  | bl j=>cases ry;exact PySem.EqNone.eq_none_bool (aT I q (by simp))
  | int j=>obtain⟨t',rfl⟩:=ry;exact PySem.EqNone.eq_none_int (aT I q (by simp))
  | str j=>obtain⟨t',rfl⟩:=ry;exact PySem.EqNone.eq_none_str (aT I q (by simp))
  | _=>exact absurd (show false=true from hs) Bool.false_ne_true
 | bl i =>
  cases rx
  cases y with
  | yd=>cases ry;exact PySem.EqNone.eq_bool_none (aT I q (by simp))
  | bl j=>cases ry;exact eq_bool (aT I q sS)
  | str j=>obtain⟨t',rfl⟩:=ry;exact PySem.EqMixed.eq_bool_str (aT I q (by simp))
  | _=>exact absurd (show false=true from hs) Bool.false_ne_true
 | int i =>
  obtain⟨t,rfl⟩:=rx
  cases y with
  | yd=>cases ry;exact PySem.EqNone.eq_int_none (aT I q (by simp))
  | int j=>obtain⟨t',rfl⟩:=ry;exact eq_int (aT I q pf)
  | str j=>obtain⟨t',rfl⟩:=ry;exact PySem.EqMixed.eq_int_str (aT I q (by simp))
  | _=>exact absurd (show false=true from hs) Bool.false_ne_true
 | str i =>
  obtain⟨t,rfl⟩:=rx
  cases y with
  | yd=>cases ry;exact PySem.EqNone.eq_str_none (aT I q (by simp))
  | bl j=>cases ry;exact PySem.EqMixed.eq_str_bool (aT I q (by simp))
  | int j=>obtain⟨t',rfl⟩:=ry;exact PySem.EqMixed.eq_str_int (aT I q (by simp))
  | str j=>obtain⟨t',rfl⟩:=ry;exact eq_str (aT I q pe)
  | _=>exact absurd (show false=true from hs) Bool.false_ne_true
 | Bj i =>
  obtain⟨t,rfl⟩:=rx
  cases y with
  | Bj j=>obtain⟨t',rfl⟩:=ry;exact PySem.W.eq_bytes (aT I q pi)
  | _=>exact absurd (show false=true from hs) Bool.false_ne_true
 | _=>cases y<;>exact absurd (show false=true from hs) Bool.false_ne_true
theorem iq:dH X (compareOp .NotEq) rNe:=by
 intro pins s σ H x y v u Q I rx ry h
 obtain⟨hs,q⟩:=h
 cases x with
 | yd =>
  cases rx
  cases y with
  | yd=>cases ry;exact PySem.EqNone.ne_none_none (aT I q (by simp))
  | bl j=>cases ry;exact PySem.EqNone.ne_none_bool (aT I q (by simp))
  | int j=>obtain⟨t',rfl⟩:=ry;exact PySem.EqNone.ne_none_int (aT I q (by simp))
  | str j=>obtain⟨t',rfl⟩:=ry;exact PySem.EqNone.ne_none_str (aT I q (by simp))
  | _=>exact absurd (show false=true from hs) Bool.false_ne_true
 | bl i =>
  cases rx
  cases y with
  | yd=>cases ry;exact PySem.EqNone.ne_bool_none (aT I q (by simp))
  | bl j=>cases ry;exact ne_bool (aT I q (congrArg not sS))
  | str j=>obtain⟨t',rfl⟩:=ry;exact PySem.EqMixed.ne_bool_str (aT I q (by simp))
  | _=>exact absurd (show false=true from hs) Bool.false_ne_true
 | int i =>
  obtain⟨t,rfl⟩:=rx
  cases y with
  | yd=>cases ry;exact PySem.EqNone.ne_int_none (aT I q (by simp))
  | int j=>obtain⟨t',rfl⟩:=ry;exact ne_int (aT I q (congrArg not pf))
  | str j=>obtain⟨t',rfl⟩:=ry;exact PySem.EqMixed.ne_int_str (aT I q (by simp))
  | _=>exact absurd (show false=true from hs) Bool.false_ne_true
 | str i =>
  obtain⟨t,rfl⟩:=rx
  cases y with
  | yd=>cases ry;exact PySem.EqNone.ne_str_none (aT I q (by simp))
  | bl j=>cases ry;exact PySem.EqMixed.ne_str_bool (aT I q (by simp))
  | int j=>obtain⟨t',rfl⟩:=ry;exact PySem.EqMixed.ne_str_int (aT I q (by simp))
  | str j=>obtain⟨t',rfl⟩:=ry;exact ne_str (aT I q (congrArg not pe))
  | _=>exact absurd (show false=true from hs) Bool.false_ne_true
 | Bj i =>
  obtain⟨t,rfl⟩:=rx
  cases y with
  | Bj j=>obtain⟨t',rfl⟩:=ry;exact PySem.W.ne_bytes (aT I q (congrArg not pi))
  | _=>exact absurd (show false=true from hs) Bool.false_ne_true
 | _=>cases y<;>exact absurd (show false=true from hs) Bool.false_ne_true
theorem jI:dH X (compareOp .Lt) (qj fun i j => .bl (decide (i < j))):=uw fun _ _ _ _ _ _ _ q=>lt_int q
theorem oG:dH X (compareOp .LtE) (qj fun i j => .bl (decide (i <= j))):=uw fun _ _ _ _ _ _ _ q=>le_int q
theorem rB:dH X (compareOp .Gt) (qj fun i j => .bl (decide (j < i))):=uw fun _ _ _ _ _ _ _ q=>gt_int q
theorem vC:dH X (compareOp .GtE) (qj fun i j => .bl (decide (j <= i))):=uw fun _ _ _ _ _ _ _ q=>ge_int q
theorem je:dH X (compareOp .Is) (fun x y H Q=>y = .yd/\Q (.bl (decide (x = .yd))) H):=by
 intro pins s σ H x y v u Q I rx ry h
 obtain⟨rfl,q⟩:=h
 cases ry
 refine is_none_gen (aT I q ?_)
 cases x<;>first
  | (cases rx;rfl)
  | (obtain⟨t,rfl⟩:=rx;rfl)
theorem oF:dH X (compareOp .IsNot) (fun x y H Q=>y = .yd/\Q (.bl (!decide (x = .yd))) H):=by
 intro pins s σ H x y v u Q I rx ry h
 obtain⟨rfl,q⟩:=h
 cases ry
 refine isnot_none_gen (aT I q ?_)
 cases x<;>first
  | (cases rx;rfl)
  | (obtain⟨t,rfl⟩:=rx;rfl)
theorem ay (b:Expr){op:CmpOp}(h:autoParam (op ≠ .In) θ)(h2:autoParam (op ≠ .NotIn) θ):behindInMarks op b=false:=by
 have e1:(op == CmpOp.In)=false:=by cases op<;>first | rfl | exact absurd rfl h
 have e2:(op == CmpOp.NotIn)=false:=by cases op<;>first | rfl | exact absurd rfl h2
 cases b<;>simp[behindInMarks,e1,e2]
theorem bU {op:CmpOp}{r:R2}(ho:dH X (compareOp op) r)(ha:PE X a ta)(hb:PE X b tb)(hm:behindInMarks op b=false):PE X (.Compare a [op] [b] pos) (Mg r ta tb):=by
 intro pins s σ H Q I h
 exact wpAny_Compare1 (x9 ha hb I h fun v u s2 x y H2 I2 rx ry q=>ho pins s2 σ H2 x y v u Q I2 rx ry q) hm
noncomputable def Ik (t:TE):TT:=fun σ H Q=>t σ H fun x H'=>∃ k,x = .bl k/\Q k H'
theorem aw {op:CmpOp}{r:R2}(ho:dH X (compareOp op) r)(ha:PE X a ta)(hb:PE X b tb)(hm:behindInMarks op b=false):PT X (.Compare a [op] [b] pos) (Ik (Mg r ta tb)):=by
 intro pins s σ H Q I h
 refine wpAny_isTrue_Compare1 (bq (ha pins s σ H _ I h) fun v s1 ⟨x,H1,I1,r1,q1⟩=>bq (hb pins s1 σ H1 _ I1 q1) fun u s2 ⟨y,H2,I2,r2,q2⟩ =>
  bq (ho pins s2 σ H2 x y v u _ I2 r1 r2 q2) fun c s3 ⟨z,H3,I3,r3,k,e,q3⟩=>?_) hm
 subst e
 cases r3
 exact wpAny_truthy_bool ⟨H3,I3,q3⟩
noncomputable def vS (r r':R2)(ta tb tc:TE):TE:=fun σ H Q=>ta σ H fun x H1=>tb σ H1 fun y H2=>r x y H2 fun z H3=>∃ k,z = .bl k /\
 (if k=true then tc σ H3 fun w' H4=>r' y w' H4 Q else Q (.bl false) H3)
theorem l8 {op Oe:CmpOp}{r r':R2}(ho:dH X (compareOp op) r)(Cq:dH X (compareOp Oe) r')(ha:PE X a ta)(hb:PE X b tb)(hc:PE X c tc)
  (hm:lastMarks [op,Oe] [b,c]=false:=by with_unfolding_all rfl):PE X (.Compare a [op,Oe] [b,c] pos) (vS r r' ta tb tc):=by
 intro pins s σ H Q I h
 refine Compare_chain (bq (ha pins s σ H _ I h) fun v s1 ⟨x,H1,I1,r1,q1⟩=>chain_link (bq (hb pins s1 σ H1 _ I1 q1) fun u s2 ⟨y,H2,I2,r2,q2⟩ =>
  bq (ho pins s2 σ H2 x y v u _ I2 r1 r2 q2) fun d s3 ⟨z,H3,I3,r3,k,e,q3⟩=>?_)) hm
 subst e
 cases r3
 refine wpAny_truthy_bool ?_
 cases k with
 | false=>exact ite_ff ⟨.bl false,H3,I3,rfl,q3⟩
 | true=>exact ite_tt (chain_last (bq (hc pins s3 σ H3 _ I3 q3) fun w' s4 xU=>by obtain⟨z',H4,I4,r4,q4⟩:=xU;exact Cq pins s4 σ H4 y z' u w' Q I4 r2 r4 q4))
noncomputable def xC (K:Frag)(x:V)(H:Hp)(k:Bool):Prop :=
 match x with
 | .yd=>k=false
 | .bl b=>k=b
 | .int i=>k=(i != 0)
 | .str y=>y.length <= sizeLine/\k=((y.length:Int) != 0)
 | .Bj y=>y.size <= sizeLine/\k=((y.size:Int) != 0)
 | .ref p=>(∃ xs,xS K H p xs/\k = !xs.isEmpty)∨(∃ xs,xV K H p xs/\k = !xs.isEmpty)∨∃ xP,H p=some (.dK xP)/\k = !xP.isEmpty
 | _=>False
theorem nA {κ:Type} {xP:List (κ × V)} {vs:List (κ × Value)} (r:KV xP vs):(!vs.isEmpty) = !xP.isEmpty:=by
 cases r<;>rfl
theorem jq {xs:List V}{xT:List Value}(r:Vals xs xT):(!xT.toArray.isEmpty) = !xs.isEmpty:=by
 cases r<;>simp
theorem jo:(sizeLine:Nat) < 2 ^ 63:=by rw[sizeLine_eq];decide
theorem qu:Oc X (fun x H Q=>∃ k,xC X.K x H k/\Q k H):=by
 intro pins s σ H x v Q I rx h
 obtain⟨k,e,q⟩:=h
 have hl:=jo
 have hs:sizeLine=16777216:=sizeLine_eq
 cases x with
 | yd =>
  cases rx
  have e':k=false:=e
  subst e'
  exact truthy_none ⟨H,I,q⟩
 | bl b =>
  cases rx
  have e':k=b:=e
  subst e'
  exact wpAny_truthy_bool ⟨H,I,q⟩
 | int i =>
  obtain⟨t,rfl⟩:=rx
  have e':k=(i != 0):=e
  subst e'
  exact PySem.P.truthy_int ⟨H,I,q⟩
 | str y =>
  obtain⟨t,rfl⟩:=rx
  obtain⟨hy,e'⟩:y.length <= sizeLine/\k=((y.length:Int) != 0):=e
  subst e'
  exact PySem.P.truthy_str (by omega) ⟨H,I.tok _,q⟩
 | Bj y =>
  obtain⟨t,rfl⟩:=rx
  obtain⟨hy,e'⟩:y.size <= sizeLine/\k=((y.size:Int) != 0):=e
  subst e'
  exact PySem.W.truthy_bytes (by omega) ⟨H,I.tok _,q⟩
 | ref p =>
  cases rx
  have e':(∃ xs,xS X.K H p xs/\k = !xs.isEmpty)∨(∃ xs,xV X.K H p xs/\k = !xs.isEmpty)∨∃ xP,H p=some (.dK xP)/\k = !xP.isEmpty:=e
  rcases e' with ⟨xs,hx,e'⟩ | ⟨xs,hx,e'⟩ | ⟨xP,hx,e'⟩
  ·subst e'
   obtain⟨xT,r,pl,hz⟩:=I.list hx
   have hlen:=r.length
   exact wpAny_truthy_list pl.isList (by simp only[size_toArray];omega) ⟨H,I.tok _,by rw[jq r];exact q⟩
  ·subst e'
   obtain⟨xT,r,pl,hz⟩:=I.tuple hx
   have hlen:=r.length
   exact truthy_tuple pl (by simp only[size_toArray];omega) ⟨H,I.tok _,by rw[jq r];exact q⟩
  ·subst e'
   obtain⟨hz,hS,vs,r,m⟩:xP.length <= sizeLine/\(p == sysModules)=false/\∃ vs,KV xP vs/\s.heap.DictOf (kM X.prog X.w) p vs:=I.xY p _ hx
   have hlen:xP.length=vs.length:=Paired.length r
   exact wpAny_truthy_dict hS m (by omega) ⟨H,I.tok _,by rw[nA r];exact q⟩
 | _=>exact(show False from e).elim
theorem ja (ha:PE X a ta)(he:∀ whole,isTrue a X.env whole=(do let v ← whole;standAt a.pos;holding [v] (truthy v))) :
  PT X a (fun σ H Q=>ta σ H fun x H'=>∃ k,xC X.K x H' k/\Q k H'):=by
 intro pins s σ H Q I h
 exact isTrue_plain (bq (ha pins s σ H _ I h) fun v s1 xU=>by obtain⟨x,H1,I1,r1,q1⟩:=xU;exact qu pins s1 σ H1 x v Q I1 r1 q1) (he _)
theorem jC {x:V}{us:List Value}(r:Vals [x] us):∃ u,us=[u]/\RelV x u:=by
 cases r with
 | cons r1 r2=>cases r2;exact⟨_,rfl,r1⟩
theorem vals2 {x y:V}{us:List Value}(r:Vals [x,y] us):∃ u w',us=[u,w']/\RelV x u/\RelV y w':=by
 cases r with
 | cons r1 r2 =>
  cases r2 with
  | cons r3 r4=>cases r4;exact⟨_,_,rfl,r1,r3⟩
theorem tf:cR X (.builtin "abs") (fun xs H Q=>∃ i,xs=[.int i]/\Q (.int (if i < 0 then -i else i)) H):=by
 intro pins s σ H xs us Q I r h
 obtain⟨i,rfl,q⟩:=h
 obtain⟨u,rfl,t,rfl⟩:=jC r
 exact call_abs_int fun u tk=>⟨.int (if i < 0 then -i else i),H,I.tok _,⟨_,rfl⟩,q⟩
theorem qf (hc:X.calm=true):cR X (.builtin "max") (fun xs H Q=>∃ i j,xs=[.int i, .int j]/\Q (.int (if j > i then j else i)) H):=by
 intro pins s σ H xs us Q I r h
 obtain⟨i,j,rfl,q⟩:=h
 obtain⟨u,w',rfl,⟨t,rfl⟩,⟨t',rfl⟩⟩:=vals2 r
 refine max_two_ints (I.ok.hd hc) fun h' tk k=>⟨_,H,I.kept k,?_,q⟩
 by_cases hj:j > i
 ·rw[if_pos hj,if_pos hj];exact⟨_,rfl⟩
 ·rw[if_neg hj,if_neg hj];exact⟨_,rfl⟩
end
structure AW (h:Heap)(x dx C:Addr)(mA:Str->Option Value):Prop where
 obj:h.get? x=some (PySem.W.instObj C dx)
 ns:h.Ns1 dx mA
 ne:dx ≠ x
theorem pS {h:Heap}{dx:Addr}{mA:Str->Option Value}(n:h.Ns1 dx mA):∃ od,h.get? dx=some od/\∀ name,PySem.W.lookIn name od=some (mA name):=by
 obtain⟨o,es,ep,ho,hd,hk,_,hm⟩:=n
 refine⟨o,ho,fun name=>?_⟩
 have e:=hm name
 unfold nsFind findBy at e
 rw[← Array.find?_toList]at e
 unfold PySem.W.lookIn
 rw[hd]
 dsimp only
 split
 ·rename_i y q
  rw[q]at e
  exact congrArg some e
 ·rename_i q
  rw[q]at e
  have a:es.toList.any (·.refKey)=false:=by
   rw[List.any_eq_false]
   intro y hy
   obtain⟨z,t,Of⟩:=hk y (Array.mem_toList_iff.mp hy)
   simp[DictEntry.refKey,Of]
  have a':¬ es.toList.any (·.refKey)=true:=by rw[a];exact Bool.false_ne_true
  rw[if_neg a']
  exact congrArg some e
theorem AW.look {h:Heap}{x dx C:Addr}{mA:Str->Option Value}(I:AW h x dx C mA):∃ od,PySem.W.InstAt h x (PySem.W.instObj C dx) C (some od)/\∀ name,PySem.W.lookIn name od=some (mA name) :=
 let ⟨od,ho,hl⟩:=pS I.ns
 ⟨od,⟨I.obj,rfl,rfl,ho⟩,hl⟩
section
variable {prog:Program}{w:World}{A:Around}{E:Value->Shared->Prop}{s:Shared}{K:Frag}{x dx C f:Addr}{mA:Str->Option Value}{name:Str}{v:Value}
theorem uT {expr:Bool}{Q:Value->Shared->Prop}(X:K.In s.heap)(I:AW s.heap x dx C mA)(hg:plainGet K C name=true)(hh:hasDictIn K C=true)
  (ha:findIn K (.ref C) name=some none) (hv:mA name=some v) (GS:PySem.W.handedIn v=true) (h:Q v { s with toks:=s.toks + 1 }) :
  wpAny (model prog w) A (getAttr (.ref x) name expr) Q E s:=by
 obtain⟨od,J,hl⟩:=I.look
 exact PySem.W.get_value X J (PySem.W.plainGet_of hg).1 (PySem.W.findObj_own hh ha rfl (by rw[hl,hv])) GS h
theorem sH {pl:Sem Bool}{Q:Value × List Value->Shared->Prop}(X:K.In s.heap)(I:AW s.heap x dx C mA)(hg:plainGet K C name=true)
  (hf:findIn K (.ref C) name=some (some (.ref f))) (ht:isFn K (.ref f)=true) (hv:mA name=none) (h:Q (.ref f,[.ref x]) s) :
  wpAny (model prog w) A (getMethod (.ref x) name pl) Q E s:=by
 obtain⟨od,J,hl⟩:=I.look
 exact PySem.W.method_fn X J (PySem.W.plainGet_of hg).1 (PySem.W.plainGet_of hg).2 hf (beq_iff_eq.mp ht) (by show(PySem.W.lookIn name od).map (·.isSome)=some false;rw[hl,hv];rfl) h
theorem tX {ns:List Str}{Q:Unit->Shared->Prop}(X:K.In s.heap)(I:AW s.heap x dx C mA)
  (hs:findIn K (.ref C) "__setattr__" = some (some (.builtin "object.__setattr__"))) (hp:plainOver K C=true) (ht:PySem.W.takerIn K C name=some none) (hh:hasDictIn K C=true)
  (hw:PySem.Within mA ns) (hsz:ns.length <= sizeLine)
  (h:∀ h',AW h' x dx C (fun y=>if y=name then some v else mA y)->Heap.SameBut dx s.heap h'->Q () { s with heap:=h',toks:=s.toks + 2 }) :
  wpAny (model prog w) A (setAttr (.ref x) name v) Q E s:=by
 obtain⟨od,J,hl⟩:=I.look
 refine PySem.W.set_plain X J hs (PySem.W.osa_open (s:={ s with toks:=s.toks + 1 }) (r:=none) X J hp ht fun b=>?_)
 obtain⟨cd,hc,NJ⟩:=PySem.W.any_some hh
 have hx:s.heap.get? x=some ⟨.ref C,some dx, .plain,#[]⟩:=I.obj
 refine wpAny_bind (wpAny_pure (wpAny_bind (wpAny_bind (wpAny_loadPart hx (wpAny_bind (PySem.W.Looks.here (s:={ s with toks:=s.toks + 1 }) (PySem.W.looks_clsIn X hc) ?_))))))
 rw[NJ]
 refine wpAny_pure (a:=some dx) (wpAny_bind (wpAny_pure (wpAny_bind ?_)))
 refine wpAny_nsSet1 (s:={ s with toks:=s.toks + 1 }) I.ns fun h' Mj Az=>?_
 obtain⟨oD,esD,epD,hoD,hdD,hcD⟩:=Mj.count (PySem.Within.cons name v hw)
 refine wpAny_bind (wpAny_lookBehind hoD (by rw[hdD];exact pastItsLine_dict (le_trans hcD (by rw[length_cons];omega))) ?_)
 exact wpAny_pure (h _ ⟨(Az.2 _ (Ne.symm I.ne)).trans I.obj,Mj,I.ne⟩ Az)
theorem sr {R:Result->Shared->Prop}{vs:List Value}{kw:List (Str × Value)}(X:K.In s.heap)(hm:makesIn K C=true)
  (hi:findIn K (.ref C) "__init__" = some (some (.ref f))) (hf:PySem.W.typeIn K (.ref f)=some (.type "function"))
  (h:codeAny (model prog w) (A.under (.builtin "type.__call__" ⟨.ref C :: vs,kw⟩)) (.call (.ref f) ⟨.ref (s.heap.objs.size + 1) :: vs,kw⟩) (PySem.W.InitBack (s.heap.objs.size + 1) R)
   { s with heap:=(s.heap.push PySem.W.emptyDict).push (PySem.W.instObj C s.heap.objs.size) }) :
  codeAny (model prog w) A (.call (.ref C) ⟨vs,kw⟩) R s:=by
 obtain⟨hh,g,d,t,os⟩:=s
 exact PySem.W.make_core (PySem.W.makes_of X hm) (PySem.W.looks_findIn X hi) (fun self=>PySem.W.bind_fn X self hf) (.inl rfl) h
end
noncomputable def aO (f:Str)(v:V):List (Str × V)->List (Str × V)
 | []=>[(f,v)]
 | (g,x) :: r=>if g=f then (g,v) :: r else (g,x) :: aO f v r
theorem ir (f g:Str)(v:V):∀ fs:List (Str × V),(aO f v fs).lookup g=if g=f then some v else fs.lookup g
 | []=>by
  show List.lookup g [(f,v)]=_
  by_cases h:g=f
  ·have hb:(g == f)=true:=beq_iff_eq.mpr h
   simp only[List.lookup,hb,if_pos h]
  ·have hb:(g == f)=false:=beq_eq_false_iff_ne.mpr h
   simp only[List.lookup,hb,if_neg h]
 | (k,x) :: r=>by
  have ih:=ir f g v r
  rw[show aO f v ((k,x) :: r)=(if k=f then (k,v) :: r else (k,x) :: aO f v r) from rfl]
  by_cases hk:k=f
  ·rw[if_pos hk]
   by_cases h:g=k
   ·have hb:(g == k)=true:=beq_iff_eq.mpr h
    simp only[List.lookup,hb,if_pos (h.trans hk)]
   ·have hb:(g == k)=false:=beq_eq_false_iff_ne.mpr h
    simp only[List.lookup,hb,if_neg (fun e:g=f=>h (e.trans hk.symm))]
  ·rw[if_neg hk]
   by_cases h:g=k
   ·have hb:(g == k)=true:=beq_iff_eq.mpr h
    simp only[List.lookup,hb,if_neg (fun e:g=f=>hk (h.symm.trans e))]
   ·have hb:(g == k)=false:=beq_eq_false_iff_ne.mpr h
    simp only[List.lookup,hb]
    exact ih
theorem hZ (f:Str)(v:V):∀ fs:List (Str × V),f ∈ (aO f v fs).map (·.1)/\∀ g,g ∈ fs.map (·.1)->g ∈ (aO f v fs).map (·.1)
 | []=>⟨by simp[aO],fun g h=>by simp at h⟩
 | (k,x) :: r=>by
  obtain⟨i1,i2⟩:=hZ f v r
  rw[show aO f v ((k,x) :: r)=(if k=f then (k,v) :: r else (k,x) :: aO f v r) from rfl]
  by_cases hk:k=f
  ·rw[if_pos hk]
   subst hk
   exact⟨by simp,fun g h=>by simpa using h⟩
  ·rw[if_neg hk]
   refine⟨?_,fun g h=>?_⟩
   ·rw[map_cons]
    exact mem_cons_of_mem _ i1
   ·rw[map_cons]at h ⊢
    rcases mem_cons.mp h with e | e
    ·exact mem_cons.mpr (.inl e)
    ·exact mem_cons_of_mem _ (i2 g e)
theorem iu (f:Str)(v:V):∀ fs:List (Str × V),(aO f v fs).length <= fs.length + 1
 | []=>by simp[aO]
 | (k,x) :: r=>by
  have ih:=iu f v r
  rw[show aO f v ((k,x) :: r)=(if k=f then (k,v) :: r else (k,x) :: aO f v r) from rfl]
  by_cases hk:k=f
  ·rw[if_pos hk,length_cons,length_cons];omega
  ·rw[if_neg hk,length_cons,length_cons];omega
theorem zb.some_of {v:V}{o:Option Value}(r:zb (some v) o):∃ u,o=some u/\RelV v u:=by
 cases o with
 | none=>exact(show False from r).elim
 | some u=>exact⟨u,rfl,r⟩
theorem zb.none_of {o:Option Value}(r:zb none o):o=none:=by
 cases o with
 | none=>rfl
 | some u=>exact(show False from r).elim
theorem pX {v:V}{u:Value}(r:RelV v u):PySem.W.handedIn u=true:=by
 cases v with
 | yd=>cases (show u=Value.none from r);rfl
 | bl b=>cases (show u=Value.bool b from r);rfl
 | int i=>obtain⟨t,e⟩:=(show ∃ t,u=Value.int i t from r);cases e;rfl
 | str x=>obtain⟨t,e⟩:=(show ∃ t,u=Value.str x t from r);cases e;rfl
 | Bj b=>obtain⟨t,e⟩:=(show ∃ t,u=Value.bytes b t from r);cases e;rfl
 | Fb b=>obtain⟨t,e⟩:=(show ∃ t,u=Value.float b t from r);cases e;rfl
 | ref a=>cases (show u=Value.ref a from r);rfl
 | ty n=>cases (show u=Value.type n from r);rfl
section
variable {P:Program}{w:World}{H H':Hp}{h h':Heap}{a C dx:Addr}{fs BA:List (Str × V)}
theorem iG (xY:zk P w H h)(e:H a=some (.ins C dx fs)):∃ mA,AW h a dx C mA/\(∀ f,zb (fs.lookup f) (mA f))/\PySem.Within mA (fs.map (·.1))/\fs.length <= 1000/\H dx=some (.own a):=by
 obtain⟨d,z,ne,ob,mA,n,r,q⟩:=(show ym P w H h a (.ins C dx fs) from xY a _ e)
 exact⟨mA,⟨ob,n,ne⟩,r,q,z,d⟩
end
structure Ao (K:Frag)(C:Addr):Prop where
 pg:plainGet K C Str.empty=true
 hd:hasDictIn K C=true
 po:plainOver K C=true
 sa:findIn K (.ref C) "__setattr__" = some (some (.builtin "object.__setattr__"))
theorem Ao.get {K:Frag}{C:Addr}(c:Ao K C)(f:Str):plainGet K C f=true:=c.pg
noncomputable def yb (K:Frag)(C:Addr)(f:Str):Prop:=findIn K (.ref C) f=some none
theorem yb.Il {K:Frag}{C:Addr}{f:Str}(n:yb K C f):PySem.W.takerIn K C f=some none:=by
 unfold PySem.W.takerIn
 rw[show findIn K (.ref C) f=some none from n]
 rfl
structure bK (K:Frag)(C:Addr)(m:Str)(f:Addr):Prop where
 at_:findIn K (.ref C) m=some (some (.ref f))
 fn:isFn K (.ref f)=true
 kp:keepIn K (.ref f)=true
section
variable {X:Cx}{pins:List (Addr × Obj)}{σ:St}{H:Hp}{s:Shared}{a C dx:Addr}{fs:List (Str × V)}{f:Str}{v:V}{A:Around}{E:Value->Shared->Prop}
theorem js {b:Bool}{Q:Value->Shared->Prop}(I:Inv X pins σ H s)(e:H a=some (.ins C dx fs))(c:Ao X.K C)(n:yb X.K C f)(l:fs.lookup f=some v)
  (h:∀ u s',Inv X pins σ H s'->RelV v u->Q u s'):wpAny (model X.prog X.w) A (getAttr (.ref a) f b) Q E s:=by
 obtain⟨mA,O,r,_,_,_⟩:=iG I.xY e
 obtain⟨u,hu,ru⟩:=zb.some_of (v:=v) (o:=mA f) (by rw[← l];exact r f)
 exact uT I.zg O (c.get f) c.hd n hu (pX ru) (h u _ (I.tok _) ru)
theorem jr {m:Str}{g:Addr}{pl:Sem Bool}{Q:Value × List Value->Shared->Prop}(I:Inv X pins σ H s)(e:H a=some (.ins C dx fs))(c:Ao X.K C)(k:bK X.K C m g)(l:fs.lookup m=none)
  (h:Q (.ref g,[.ref a]) s):wpAny (model X.prog X.w) A (getMethod (.ref a) m pl) Q E s:=by
 obtain⟨mA,O,r,_,_,_⟩:=iG I.xY e
 have hn:mA m=none:=zb.none_of (by rw[← l];exact r m)
 exact sH I.zg O (c.get m) k.at_ k.fn hn h
theorem iT {y:V}{u:Value}{Q:Unit->Shared->Prop}(I:Inv X pins σ H s)(e:H a=some (.ins C dx fs))(c:Ao X.K C)(n:yb X.K C f)(hl:fs.length < 1000)(ry:RelV y u)
  (h:∀ s',Inv X pins σ (upd H a (.ins C dx (aO f y fs))) s'->Q () s'):wpAny (model X.prog X.w) A (setAttr (.ref a) f u) Q E s:=by
 obtain⟨mA,O,r,wi,_,ho⟩:=iG I.xY e
 have hz:(fs.map (·.1)).length <= sizeLine:=by rw[length_map,sizeLine_eq];omega
 refine tX I.zg O c.sa c.po n.Il c.hd wi hz fun h' O' sb=>h _ ?_
 have hd:∃ o,h'.get? dx=some o:=let ⟨o,_,_,e',_⟩:=O'.ns; ⟨o,e'⟩
 refine I.write (x:=a) (e:=dx) (by rw[e];exact True.intro) (.inr ho) (fun b q hb z=>(sb.2 b hb).trans z) hd ?_
 refine⟨by rw[ae O.ne];exact ho,?_,O.ne,O'.obj,_,O'.ns,fun g=>?_,fun g hg=>?_⟩
 ·have:=iu f y fs;omega
 ·show zb ((aO f y fs).lookup g) (if g=f then some u else mA g)
  rw[ir]
  by_cases q:g=f
  ·rw[if_pos q,if_pos q];exact ry
  ·rw[if_neg q,if_neg q];exact r g
 ·by_cases q:g=f
  ·rw[q];exact(hZ f y fs).1
  ·refine(hZ f y fs).2 g (wi g fun z=>hg ?_)
   show(if g=f then some u else mA g)=none
   rw[if_neg q];exact z
theorem Inv.made (I:Inv X pins σ H s):Inv X pins σ (upd (upd H s.heap.objs.size (.own (s.heap.objs.size + 1))) (s.heap.objs.size + 1) (.ins C s.heap.objs.size []))
  { s with heap:=(s.heap.push PySem.W.emptyDict).push (PySem.W.instObj C s.heap.objs.size) }:=by
 have e1:(s.heap.push PySem.W.emptyDict).get? s.heap.objs.size=some PySem.W.emptyDict:=Heap.get?_push_size s.heap rfl
 have e2:((s.heap.push PySem.W.emptyDict).push (PySem.W.instObj C s.heap.objs.size)).get? (s.heap.objs.size + 1)=some (PySem.W.instObj C s.heap.objs.size):=by
  have:=Heap.get?_push_size (s.heap.push PySem.W.emptyDict) (o:=PySem.W.instObj C s.heap.objs.size) rfl
  rwa [size_push]at this
 have e3:(s.heap.push PySem.W.emptyDict).Ns s.heap.objs.size (fun _=>none):=⟨PySem.W.emptyDict,#[],_,e1,rfl,(fun e he=>absurd he (by simp)),fun _=>rfl⟩
 have I1:=I.laid (a:=s.heap.objs.size) (o := .own (s.heap.objs.size + 1)) (h':=s.heap.push PySem.W.emptyDict) (t':=s.toks) (fun b u q=>Heap.get?_push_of_some _ q) (le_refl _) ⟨_,e1⟩
 refine I1.laid (a:=s.heap.objs.size + 1) (o := .ins C s.heap.objs.size []) (t':=s.toks) (fun b u q=>Heap.get?_push_of_some _ q) (le_of_eq (size_push _ _)) ?_
 have ne:s.heap.objs.size ≠ s.heap.objs.size + 1:=ne_of_lt (lt_succ_self _)
 refine⟨by rw[ae ne,ac],zero_le _,ne,e2,fun _=>none,(Heap.Ns1.of_empty e3).at fun o q=>Heap.get?_push_of_some _ q,fun _=>True.intro,fun y hy=>absurd rfl hy⟩
theorem ve {prog:Program}{w:World}{env:Env}{e:Expr}{f:Str}{pos:Pos}{s:Shared}{Q:Value->Shared->Prop}(hb:attributeBase e f env (eval e env)=eval e env)
  (h:wpAny (model prog w) A (eval e env) (fun o s₁=>wpAny (model prog w) A (getAttr o f true) Q E s₁) E s):wpAny (model prog w) A (eval (.Attribute e f pos) env) Q E s :=
 Attribute_any_ h (by rw[arm_eval_Attribute,hb])
end
noncomputable def pA (K:Frag)(ta:TE)(f:Str):TE:=fun σ H Q=>ta σ H fun x H1=>∃ a C dx fs v,x = .ref a/\H1 a=some (.ins C dx fs)/\Ao K C/\yb K C f/\fs.lookup f=some v/\Q v H1
noncomputable def Og (K:Frag)(ta tv:TE)(f:Str):TS:=fun D σ H=>tv σ H fun y H1=>ta σ H1 fun x H2=>∃ a C dx fs,x = .ref a/\H2 a=some (.ins C dx fs)/\Ao K C/\yb K C f/\fs.length < 1000 /\
 D.nx σ (upd H2 a (.ins C dx (aO f y fs)))
noncomputable def Oh (X:Cx)(op:Operator)(rd:V->V->Hp->VK->Prop):Prop :=
 ∀ (pins:List (Addr × Obj))(s:Shared)(σ:St)(H:Hp)(x y:V)(u v:Value)(Q:VK),Inv X pins σ H s->RelV x u->RelV y v->rd x y H Q->wpAny (model X.prog X.w) X.A (inplaceOp op u v) (EP X pins σ Q) X.xe s
noncomputable def ud (K:Frag)(ta tv:TE)(rd:V->V->Hp->VK->Prop)(f:Str):TS:=fun D σ H=>ta σ H fun x H1=>∃ a C dx fs v,x = .ref a/\H1 a=some (.ins C dx fs)/\Ao K C/\yb K C f/\fs.lookup f=some v /\
 tv σ H1 fun y H2=>rd v y H2 fun z H3=>∃ BD BA,H3 a=some (.ins C BD BA)/\BA.length < 1000/\D.nx σ (upd H3 a (.ins C BD (aO f z BA)))
section
variable {X:Cx}{o e value:Expr}{f:Str}{pos pos' zY:Pos}{ta tv:TE}
theorem am (he:PE X e ta)(hb:attributeBase e f X.env (eval e X.env)=eval e X.env):PE X (.Attribute e f pos) (pA X.K ta f):=by
 intro pins s σ H Q I h
 refine ve hb (bq (he pins s σ H _ I h) fun u s1 xU=>?_)
 obtain⟨x,H1,I1,rx,a,C,dx,fs,v,ex,ea,c,n,l,q⟩:=xU
 subst ex
 obtain rfl:u=Value.ref a:=rx
 exact js I1 ea c n l fun u' s2 I2 ru=>⟨v,H1,I2,ru,q⟩
theorem aZ (ha:PE X o ta)(hv:PE X value tv)(hs:swapsWith value (some (.Attribute o f pos')) pos.line X.env=pure false):PS X (.Assign [.Attribute o f pos'] value pos) (Og X.K ta tv f):=by
 intro pins s σ H D I h
 refine plainObj_wpAny_Assign_Attribute (bq (hv pins s σ H _ I h) fun u s1 ⟨y,H1,I1,ry,q⟩=>bq (ha pins s1 σ H1 _ I1 q) fun ov s2 xU=>?_) hs
 obtain⟨x,H2,I2,rx,a,C,dx,fs,ex,ea,c,n,l,q2⟩:=xU
 subst ex
 obtain rfl:ov=Value.ref a:=rx
 exact iT I2 ea c n l ry fun s3 I3=>⟨σ,_,I3,q2⟩
theorem dI {op:Operator}{rd:V->V->Hp->VK->Prop}(ha:PE X o ta)(hv:PE X value tv)(Fi:Oh X op rd):PS X (.AugAssign (.Attribute o f zY) op value pos) (ud X.K ta tv rd f):=by
 intro pins s σ H D I h
 refine wpAny_AugAssign_AttributeAny (bq (ha pins s σ H _ I h) fun ov s1 xU=>?_)
 obtain⟨x,H1,I1,rx,a,C,dx,fs,v,ex,ea,c,n,l,q⟩:=xU
 subst ex
 obtain rfl:ov=Value.ref a:=rx
 refine js I1 ea c n l fun u s2 I2 ru=>bq (hv pins s2 σ H1 _ I2 q) fun w3 s3 ⟨y,H2,I3,ry,q3⟩=>bq (Fi pins s3 σ H2 v y u w3 _ I3 ru ry q3) fun w4 s4 xU=>?_
 obtain⟨z,H3,I4,rz,BD,BA,ea',l',q4⟩:=xU
 exact iT I4 ea' c n l' rz fun s5 I5=>⟨σ,_,I5,q4⟩
end
section
variable {X:Cx}{pins:List (Addr × Obj)}{σ:St}{H:Hp}{s:Shared}{A:Around}{E:Value->Shared->Prop}{Q:Value->Shared->Prop}{c:Value}{b:Bool}
inductive ik (K:Frag)(H:Hp):V->Value->Prop where
 | yd:ik K H .yd (.type "NoneType")
 | bl (x:Bool):ik K H (.bl x) (.type "bool")
 | int (i:Int):ik K H (.int i) (.type "int")
 | str (x:Str):ik K H (.str x) (.type "str")
 | Fb (x:UInt64):ik K H (.Fb x) (.type "float")
 | lst {a:Addr} {xs:List V} (e:H a=some (.lst xs)):ik K H (.ref a) (.type "list")
 | yW {a:Addr} {o:Obj} {xs:List V} (e:H a=some (.yW o (.lst xs))):ik K H (.ref a) (.type "list")
 | tup {a:Addr} {xs:List V} (e:H a=some (.tup xs)):ik K H (.ref a) (.type "tuple")
 | dK {a:Addr} {xP:List (dP × V)} (e:H a=some (.dK xP)):ik K H (.ref a) (.type "dict")
 | dT {a:Addr} {xP:List (List dP × V)} (e:H a=some (.dT xP)):ik K H (.ref a) (.type "dict")
 | ins {a C dx:Addr} {fs:List (Str × V)} (e:H a=some (.ins C dx fs)) (cl:Ao K C) (ha:findIn K (.ref C) "__class__" = some (some (.builtin "object.__class__")))
   (hn:PySem.W.specialIn K (.builtin "object.__class__") "__get__" = some (some (.builtin "getset_descriptor.__get__"))) (Mm:PySem.W.takesIn K (.builtin "object.__class__")=some true)
   (hm:PySem.W.mroIn K C (.type "object")=some true):ik K H (.ref a) (.ref C)
theorem pT {x:V}{u t:Value}(I:Inv X pins σ H s)(rx:RelV x u)(ty:ik X.K H x t)(e:kitOne X.K t c=some b)(h:∀ tk,Q (.bool b) { s with toks:=tk }) :
  wpAny (model X.prog X.w) A (call (.builtin "isinstance") [u,c]) Q E s:=by
 cases ty with
 | yd=>cases (show u=Value.none from rx);exact PySem.W.kia_one PySem.W.kitx_none I.zg True.intro e (fun z=>nomatch z) h
 | bl y=>cases (show u=Value.bool y from rx);exact PySem.W.kia_one PySem.W.kitx_bool I.zg True.intro e (fun z=>nomatch z) h
 | int i=>obtain⟨t,q⟩:=(show ∃ t,u=Value.int i t from rx);cases q;exact PySem.W.kia_one PySem.W.kitx_int I.zg True.intro e (fun z=>nomatch z) h
 | str y=>obtain⟨t,q⟩:=(show ∃ t,u=Value.str y t from rx);cases q;exact PySem.W.kia_one PySem.W.kitx_str I.zg True.intro e (fun z=>nomatch z) h
 | Fb y=>obtain⟨t,q⟩:=(show ∃ t,u=Value.float y t from rx);cases q;exact PySem.W.kia_one PySem.W.kitx_float I.zg True.intro e (fun z=>nomatch z) h
 | @lst a xs ea =>
  cases (show u=Value.ref a from rx)
  obtain⟨_,_,n,_,h1⟩:=(show ym X.prog X.w H s.heap a (.lst xs) from I.xY a _ ea)
  exact PySem.W.kia_one PySem.W.kitx_list I.zg ⟨_,h1,rfl⟩ e (fun z=>nomatch z) h
 | @yW a ob xs ea =>
  cases (show u=Value.ref a from rx)
  obtain⟨_,_,_,n,_,h1⟩:=(show ym X.prog X.w H s.heap a (.yW ob (.lst xs)) from I.xY a _ ea)
  exact PySem.W.kia_one PySem.W.kitx_list I.zg ⟨_,h1,rfl⟩ e (fun z=>nomatch z) h
 | @tup a xs ea =>
  cases (show u=Value.ref a from rx)
  obtain⟨_,_,_,p⟩:=(show ym X.prog X.w H s.heap a (.tup xs) from I.xY a _ ea)
  obtain⟨o,h1,⟨h2,_⟩,_⟩:=p
  exact PySem.W.kia_one PySem.W.kitx_tuple I.zg ⟨o,h1,h2⟩ e (fun z=>nomatch z) h
 | @dK a xP ea =>
  cases (show u=Value.ref a from rx)
  obtain⟨_,_,vs,_,p⟩:=(show ym X.prog X.w H s.heap a (.dK xP) from I.xY a _ ea)
  obtain⟨o,es,ep,h1,h2,_⟩:=p
  exact PySem.W.kia_one PySem.W.kitx_dict I.zg ⟨o,h1,h2.1⟩ e (fun z=>nomatch z) h
 | @dT a xP ea =>
  cases (show u=Value.ref a from rx)
  obtain⟨_,_,xs,_,o,es,ep,h1,h2,_⟩:=(show ym X.prog X.w H s.heap a (.dT xP) from I.xY a _ ea)
  exact PySem.W.kia_one PySem.W.kitx_dict I.zg ⟨o,h1,h2.1⟩ e (fun z=>nomatch z) h
 | @ins a C dx fs ea cl ha hn Mm hm =>
  cases (show u=Value.ref a from rx)
  obtain⟨mA,O,_⟩:=iG I.xY ea
  obtain⟨od,J,_⟩:=O.look
  exact PySem.W.kia_one (PySem.W.kitx_own (cl.get _) cl.hd ha hn Mm hm) I.zg J e (fun z=>nomatch z) h
end
structure ya (k:Nat)(A:Around):Prop where
 hd:A.handled=none
 dp:A.depth + 3 * k + 5 < recursionLimit
 un:A.units + 16 * k + 200 < cLine
theorem ya.mono {j k:Nat}{A:Around}(r:ya k A)(h:j <= k):ya j A:=⟨r.hd,by have:=r.dp;omega,by have:=r.un;omega⟩
theorem ya.deeper {k:Nat}{A:Around}(r:ya (k + 1) A)(env:Env):ya k (A.deeper env) :=
 ⟨r.hd,by have:=r.dp;show A.depth + 1 + 3 * k + 5 < _;omega,by have:=r.un;show A.units + 3 + 16 * k + 200 < _;omega⟩
theorem nu {A:Around}{C:Addr}{us:List Value}{kw:List (Str × Value)}:(A.under (.builtin "type.__call__" ⟨.ref C :: us,kw⟩)).depth=A.depth + 1:=by
 first | rfl | simp[Around.under,Code.weight,Code.isCreation,Code.isGuard,Code.isCaller,Code.frames,Code.isFrame,guardIds]
theorem nr {A:Around}{C:Addr}{us:List Value}{kw:List (Str × Value)}:(A.under (.builtin "type.__call__" ⟨.ref C :: us,kw⟩)).units=A.units + 1:=by
 first | rfl | simp[Around.under,Code.cUnits,Code.frames,Code.isFrame]
theorem ya.make {k:Nat}{A:Around}(r:ya (k + 1) A)(C:Addr)(us:List Value)(kw:List (Str × Value)):ya k (A.under (.builtin "type.__call__" ⟨.ref C :: us,kw⟩)) :=
 ⟨r.hd,by have:=r.dp;rw[nu];omega,by have:=r.un;rw[nr];omega⟩
theorem ya.depth {k:Nat}{A:Around}(r:ya k A):A.depth < recursionLimit:=by have:=r.dp;omega
theorem ya.units {k:Nat}{A:Around}(r:ya k A):A.units + 64 < cLine:=by have:=r.un;omega
noncomputable def Im:TA:=fun _ H Q=>Q [] H
noncomputable def Io (ta:TE)(tr:TA):TA:=fun σ H Q=>ta σ H fun x H1=>tr σ H1 fun xs H2=>Q (x :: xs) H2
section
variable {X:Cx}{e:Expr}{es:List Expr}{te:TE}{t:TA}{pos:Pos}
theorem ad:PA X [] Im:=fun _ _ _ _ H Q I h=>Calls.spliced_nil ⟨[],H,I, .nil,h⟩
theorem aa (ha:PE X e te)(hr:PA X es t)(hs:autoParam (starEach (e :: es) X.env=(false,eval e X.env) :: starEach es X.env) η):PA X (e :: es) (Io te t):=by
 intro pos pins s σ H Q I h
 rw[hs]
 show wpAny _ _ (spliced ((false,eval e X.env) :: backTo pos (starEach es X.env))) _ _ s
 refine Calls.spliced_cons (bq (ha pins s σ H _ I h) fun u s1 xU=>?_)
 obtain⟨x,H1,I1,r1,q1⟩:=xU
 exact bq (hr pos pins s1 σ H1 _ I1 q1) fun us s2 xU=>by obtain⟨xs,H2,I2,r2,q2⟩:=xU;exact⟨x :: xs,H2,I2, .cons r1 r2,q2⟩
noncomputable def Oi (t:TA):TE:=fun σ H Q=>t σ H fun xs H1=>xs.length <= sizeLine/\∀ p,H1 p=none->Q (.ref p) (upd H1 p (.tup xs))
noncomputable def Oj (t:TA):TE:=fun σ H Q=>t σ H fun xs H1=>xs.length <= sizeLine/\∀ p,H1 p=none->Q (.ref p) (upd H1 p (.lst xs))
theorem aW {x1} (h:PA X es t):PE X (.Tuple es x1 pos) (Oi t):=by
 intro pins s σ H Q I hq
 refine wpAny_Tuple_spliced (bq (h pos pins s σ H _ I hq) fun us s1 ⟨xs,H1,I1,r,z,q⟩=>⟨by rw[← r.length];exact z,?_⟩)
 have hf:H1 s1.heap.objs.size=none:=I1.xY.fresh (le_refl _)
 refine⟨.ref s1.heap.objs.size,upd H1 s1.heap.objs.size (.tup xs),I1.laid (t':=s1.toks) (fun b u e=>Heap.get?_push_of_some _ e) (le_refl _) ?_,rfl,q _ hf⟩
 exact⟨z,us,r,⟨_,Heap.get?_push_size _ rfl,⟨rfl,_,rfl⟩,rfl⟩⟩
theorem aP (h:PA X es t):PE X (.List es pos) (Oj t):=by
 intro pins s σ H Q I hq
 refine wpAny_List_spliced (bq (h pos pins s σ H _ I hq) fun us s1 ⟨xs,H1,I1,r,z,q⟩=>⟨by rw[← r.length];exact z,?_⟩)
 have hf:H1 s1.heap.objs.size=none:=I1.xY.fresh (le_refl _)
 refine⟨.ref s1.heap.objs.size,upd H1 s1.heap.objs.size (.lst xs),I1.laid (t':=s1.toks) (fun b u e=>Heap.get?_push_of_some _ e) (le_refl _) ?_,rfl,q _ hf⟩
 exact⟨z,us,0,r,Heap.get?_push_size _ rfl⟩
end
abbrev Sp:=List V->Hp->VK->XK->Prop
abbrev qi:=List Env->Hp->Shared->XK->Value->Shared->Prop
structure AX (P:Program)(w:World)(K:Frag)(mg:Str->Option Value)(base:Heap)(A:Around)(outer:List Env)(s:Shared)(H:Hp):Prop where
 frames:A.frames=some outer
 mod:Mod K mg base
 bs:∀ b o,base.get? b=some o->s.heap.get? b=some o/\H b=none
 Dh:base.objs.size <= s.heap.objs.size
 zx:s.heap.FunFrames base outer
 Fe:∀ b ∈ oY outer,H b=none
 xY:zk P w H s.heap
 bare:AllBare s.gens
noncomputable def CE (outer:List Env)(P:Program)(w:World)(H:Hp)(s:Shared)(Q:VK)(u:Value)(s':Shared):Prop :=
 ∃ v H',s'.os=s.os/\AllBare s'.gens/\Un (oY outer) [] H H' s.heap s'.heap/\zk P w H' s'.heap/\RelV v u/\Q v H'
noncomputable def CR (CX:qi)(outer:List Env)(P:Program)(w:World)(H:Hp)(s:Shared)(Q:VK)(E:XK)(r:Result)(s':Shared):Prop :=
 match r with
 | .ok (.ret u)=>CE outer P w H s Q u s'
 | .ok _=>False
 | .error e=>CX outer H s E e s'
structure xO (P:Program)(w:World)(K:Frag)(mg:Str->Option Value)(base:Heap)(CX:qi)(k:Nat)(f:Addr)(fd:FuncData)(ps:List Str)(sp:Sp):Prop where
 len:∀ vs H Q E,sp vs H Q E->vs.length=ps.length
 run:∀ (A:Around)(outer:List Env)(s:Shared)(H:Hp)(args:Args)(us:List Value)(vs:List V)(Q:VK)(E:XK),ya k A->AX P w K mg base A outer s H->BindsTo s fd args (ps.zip us)->Vals vs us->sp vs H Q E ->
  codeAny (model P w) A (.call (.ref f) args) (CR CX outer P w H s Q E) s
theorem xO.imp {P:Program}{w:World}{K:Frag}{mg:Str->Option Value}{base:Heap}{CX:qi}{k:Nat}{f:Addr}{fd:FuncData}{ps:List Str}{sp S2:Sp}(F:xO P w K mg base CX k f fd ps sp)
  (h:∀ vs H Q E,S2 vs H Q E->sp vs H Q E):xO P w K mg base CX k f fd ps S2 :=
 ⟨fun vs H Q E q=>F.len vs H Q E (h _ _ _ _ q),fun A outer s H args us vs Q E hr he hb hv hs=>F.run A outer s H args us vs Q E hr he hb hv (h _ _ _ _ hs)⟩
theorem AX.make {P:Program}{w:World}{K:Frag}{mg:Str->Option Value}{base:Heap}{A:Around}{outer:List Env}{s:Shared}{H:Hp}(e:AX P w K mg base A outer s H)(C:Addr)(us:List Value)(kw:List (Str × Value)) :
  AX P w K mg base (A.under (.builtin "type.__call__" ⟨.ref C :: us,kw⟩)) outer s H:=⟨by first | exact e.frames | (simpa [Around.under,Code.envs,Code.isFrame,pushEnvs] using e.frames),e.mod,e.bs,e.Dh,e.zx,e.Fe,e.xY,e.bare⟩
section
variable {X:Cx}{pins:List (Addr × Obj)}{σ:St}{H:Hp}{s s':Shared}
theorem Inv.Ip (I:Inv X pins σ H s):AX X.prog X.w X.K X.mg X.base X.A X.stack s H :=
 ⟨I.ok.frames,I.ok.mod,I.bs,le_trans I.ok.Dh I.sz,I.stack,I.Bk,I.xY,I.bare⟩
theorem Inv.after {Q:VK}{u:Value}(I:Inv X pins σ H s)(h:CE X.stack X.prog X.w H s Q u s'):EP X pins σ Q u s':=by
 obtain⟨v,H',os,bare,un,xY,r,q⟩:=h
 obtain⟨hh,g,d,t,os'⟩:=s'
 obtain rfl:os' = s.os:=os
 exact⟨v,H',I.call (h':=hh) (g':=g) (d':=d) (t':=t) (ch:=[]) un xY bare (fun b z=>absurd z (by simp)),r,q⟩
end
noncomputable def Iq (sp:Sp)(yS:List V)(E:XK)(t:TA):TE:=fun σ H Q=>t σ H fun vs H1=>sp (vs ++ yS) H1 Q E
noncomputable def vo (C:Addr)(m:Str)(sp:Sp)(yS:List V)(E:XK)(ta:TE)(t:TA):TE:=fun σ H Q=>ta σ H fun x H1=>∃ a dx fs,x = .ref a/\H1 a=some (.ins C dx fs)/\fs.lookup m=none /\
 t σ H1 fun vs H2=>sp (x :: (vs ++ yS)) H2 Q E
noncomputable def Ir (C:Addr)(sp:Sp)(yS:List V)(E:XK)(t:TA):TE:=fun σ H Q=>t σ H fun vs H1=>∀ x dx,H1 x=none->H1 dx=none->dx ≠ x ->
 sp (.ref x :: (vs ++ yS)) (upd (upd H1 dx (.own x)) x (.ins C dx [])) (fun v H2=>v = .yd/\Q (.ref x) H2) E
noncomputable def Binds (K:Frag)(fd:FuncData)(ps:List Str)(ds:List Value):Prop :=
 ∀ (s:Shared)(us:List Value),K.In s.heap->(us ++ ds).length=ps.length->BindsTo s fd ⟨us,[]⟩ (ps.zip (us ++ ds))
theorem Binds.all {K:Frag}{fd:FuncData}{ps:List Str}(h:∀ us:List Value,us.length=ps.length->bindArgs fd ⟨us,[]⟩ = pure (ps.zip us)):Binds K fd ps []:=fun s us _ hl=>by
 rw[append_nil]at hl ⊢
 exact .of_eq (h us hl)
noncomputable def eT (CX:qi)(X:Cx)(E:XK):Prop:=∀ (pins:List (Addr × Obj))(σ:St)(H:Hp)(s:Shared)(e:Value)(s':Shared),Inv X pins σ H s->CX X.stack H s E e s'->X.xe e s'
section
variable {X:Cx}{CX:qi}{k:Nat}{f C:Addr}{fd:FuncData}{ps:List Str}{sp:Sp}{yS:List V}{ds:List Value}{E:XK}{x m:Str}{p pos apos:Pos}{e o:Expr}{es:List Expr}{ta:TE}{t:TA}
theorem kB {pins:List (Addr × Obj)}{σ:St}{H:Hp}{s:Shared}{Q:VK}{us:List Value}{vs:List V}(F:xO X.prog X.w X.K X.mg X.base CX k f fd ps sp)(hr:ya k X.A)(hb:Binds X.K fd ps ds)(hd:Vals yS ds)(hx:eT CX X E)
  (I:Inv X pins σ H s) (r:Vals vs us) (h:sp (vs ++ yS) H Q E):wpAny (model X.prog X.w) X.A (call (.ref f) us) (EP X pins σ Q) X.xe s:=by
 have r2:Vals (vs ++ yS) (us ++ ds):=r.append hd
 have hl:(us ++ ds).length=ps.length:=by rw[← r2.length];exact F.len _ _ _ _ h
 refine wpAny_call (codeAny_mono (F.run X.A X.stack s H ⟨us,[]⟩ (us ++ ds) (vs ++ yS) Q E hr I.Ip (hb s us I.zg hl) r2 h) fun r s' hq=>?_)
 cases r with
 | error e=>exact hx pins σ H s e s' I hq
 | ok fl =>
  cases fl with
  | ret u=>exact I.after hq
  | next=>exact False.elim hq
  | brk=>exact False.elim hq
  | cont=>exact False.elim hq
theorem az (F:xO X.prog X.w X.K X.mg X.base CX k f fd ps sp)(hr:ya k X.A)(hg:Gl X x)(hm:X.mg x=some (.ref f))(hk:keepIn X.K (.ref f)=true)(hb:Binds X.K fd ps ds)(hd:Vals yS ds)(hx:eT CX X E)
  (ha:PA X (e :: es) t) (Fj:autoParam ((x == ("__debug__":Str))=false) θ) (he:autoParam (starEach (e :: es) X.env=(false,eval e X.env) :: starEach es X.env) η) (zm:autoParam ((backTo pos (starEach es X.env)).any (·.1)=false) η) :
  PE X (.Call (.Name x p) (e :: es) [] pos) (Iq sp yS E t):=by
 intro pins s σ H Q I h
 refine wpAny_Call_Name_kw (kQ I hg hm ?_ Fj)
 refine PySem.W.callWith_K (h₀:=X.base) I.ok.mod.CP hk (bq (ha pos pins s σ H _ I h) fun us s1 ⟨vs,H1,I1,r,q⟩=>⟨I1.zg,?_⟩) he zm
 exact kB F hr hb hd hx I1 r q
theorem aI {pl:Sem Bool}(he:PE X o ta)(c:Ao X.K C)(hm:bK X.K C m f)(F:xO X.prog X.w X.K X.mg X.base CX k f fd ps sp)(hr:ya k X.A)(hb:Binds X.K fd ps ds)(hd:Vals yS ds)(hx:eT CX X E)(ha:PA X (e :: es) t)
  (An:autoParam (starEach (e :: es) X.env=(false,eval e X.env) :: starEach es X.env) η) (zm:autoParam ((backTo pos (starEach es X.env)).any (·.1)=false) η)
  (ht:eval (.Call (.Attribute o m apos) (e :: es) [] pos) X.env=(do
   let ov ← eval o X.env
   standAt apos.atName
   let (f,first) ← holding [ov] (getMethod ov m pl)
   callWith pos f first (backTo pos (starEach (e :: es) X.env)) (backToKw pos (keywordEach [] X.env))):=by rfl) :
  PE X (.Call (.Attribute o m apos) (e :: es) [] pos) (vo C m sp yS E ta t):=by
 intro pins s σ H Q I h
 refine PySem.W.methodCall_KW (pl:=pl) (bq (he pins s σ H _ I h) fun u s1 xU=>?_) ht
 obtain⟨x,H1,I1,rx,a,dx,fs,ex,ea,l,q⟩:=xU
 subst ex
 obtain rfl:u=Value.ref a:=rx
 refine jr I1 ea c hm l ?_
 refine PySem.W.callWith_K (first:=[.ref a]) (h₀:=X.base) I.ok.mod.CP hm.kp (bq (ha pos pins s1 σ H1 _ I1 q) fun us s2 ⟨vs,H2,I2,r,q2⟩=>⟨I2.zg,?_⟩) An zm
 exact kB (us := .ref a :: us) (vs := .ref a :: vs) F hr hb hd hx I2 (.cons rfl r) q2
theorem bC {pl:Sem Bool}(he:PE X o ta)(c:Ao X.K C)(hm:bK X.K C m f)(F:xO X.prog X.w X.K X.mg X.base CX k f fd ps sp)(hr:ya k X.A)(hb:Binds X.K fd ps ds)(hd:Vals yS ds)(hx:eT CX X E)
  (ht:eval (.Call (.Attribute o m apos) [] [] pos) X.env=(do
   let ov ← eval o X.env
   standAt apos.atName
   let (f,first) ← holding [ov] (getMethod ov m pl)
   callWith pos f first (backTo pos (starEach [] X.env)) (backToKw pos (keywordEach [] X.env))):=by rfl) :
  PE X (.Call (.Attribute o m apos) [] [] pos) (vo C m sp yS E ta Im):=by
 intro pins s σ H Q I h
 refine PySem.W.methodCall_KW (pl:=pl) (bq (he pins s σ H _ I h) fun u s1 xU=>?_) ht
 obtain⟨x,H1,I1,rx,a,dx,fs,ex,ea,l,q⟩:=xU
 subst ex
 obtain rfl:u=Value.ref a:=rx
 refine jr I1 ea c hm l ?_
 exact PySem.W.callWith_K0 (first:=[.ref a]) I1.zg hm.kp (kB (us:=[.ref a]) (vs:=[.ref a]) F hr hb hd hx I1 (.cons rfl .nil) q)
structure Mk (K:Frag)(C f:Addr):Prop where
 makes:makesIn K C=true
 init:findIn K (.ref C) "__init__" = some (some (.ref f))
 fn:isFn K (.ref f)=true
 kp:keepIn K (.ref C)=true
theorem rh {pins:List (Addr × Obj)}{σ:St}{H:Hp}{s:Shared}{Q:VK}{us:List Value}{vs:List V}(M:Mk X.K C f)(F:xO X.prog X.w X.K X.mg X.base CX k f fd ps sp)(hr:ya (k + 1) X.A)(hb:Binds X.K fd ps ds)(hd:Vals yS ds)
  (hx:eT CX X E) (I:Inv X pins σ H s) (r:Vals vs us)
  (h:∀ x dx,H x=none->H dx=none->dx ≠ x->sp (.ref x :: (vs ++ yS)) (upd (upd H dx (.own x)) x (.ins C dx [])) (fun v H2=>v = .yd/\Q (.ref x) H2) E) :
  wpAny (model X.prog X.w) X.A (call (.ref C) us) (EP X pins σ Q) X.xe s:=by
 have hq:=h (s.heap.objs.size + 1) s.heap.objs.size (I.xY.fresh (le_succ _)) (I.xY.fresh (le_refl _)) (ne_of_lt (lt_succ_self _))
 have I2:=Inv.made (C:=C) I
 have r2:Vals (V.ref (s.heap.objs.size + 1) :: (vs ++ yS)) (Value.ref (s.heap.objs.size + 1) :: (us ++ ds)) := .cons rfl (r.append hd)
 have hl:(Value.ref (s.heap.objs.size + 1) :: us ++ ds).length=ps.length:=by
  have e:=r2.length
  rw[F.len _ _ _ _ hq]at e
  exact e.symm
 refine wpAny_call (sr (f:=f) I.zg M.makes M.init (beq_iff_eq.mp M.fn) (codeAny_mono (F.run _ X.stack _ _ ⟨Value.ref (s.heap.objs.size + 1) :: us,[]⟩ (Value.ref (s.heap.objs.size + 1) :: (us ++ ds)) _ _ E (hr.make C us [])
  (I2.Ip.make C us []) (hb _ (Value.ref (s.heap.objs.size + 1) :: us) I2.zg hl) r2 hq) fun r s' BE=>?_))
 cases r with
 | error e=>exact hx pins σ _ _ e s' I2 BE
 | ok fl =>
  cases fl with
  | ret u =>
   obtain⟨v,H',I3,rv,ev,q3⟩:=I2.after BE
   subst ev
   exact⟨rv,⟨V.ref (s.heap.objs.size + 1),H',I3,rfl,q3⟩⟩
  | next=>exact False.elim BE
  | brk=>exact False.elim BE
  | cont=>exact False.elim BE
theorem dA (M:Mk X.K C f)(F:xO X.prog X.w X.K X.mg X.base CX k f fd ps sp)(hr:ya (k + 1) X.A)(hg:Gl X x)(hm:X.mg x=some (.ref C))(hb:Binds X.K fd ps ds)(hd:Vals yS ds)(hx:eT CX X E)
  (ha:PA X (e :: es) t) (Fj:autoParam ((x == ("__debug__":Str))=false) θ) (he:autoParam (starEach (e :: es) X.env=(false,eval e X.env) :: starEach es X.env) η) (zm:autoParam ((backTo pos (starEach es X.env)).any (·.1)=false) η) :
  PE X (.Call (.Name x p) (e :: es) [] pos) (Ir C sp yS E t):=by
 intro pins s σ H Q I h
 refine wpAny_Call_Name_kw (kQ I hg hm ?_ Fj)
 refine PySem.W.callWith_K (h₀:=X.base) I.ok.mod.CP M.kp (bq (ha pos pins s σ H _ I h) fun us s1 ⟨vs,H1,I1,r,q⟩=>⟨I1.zg,?_⟩) he zm
 exact rh M F hr hb hd hx I1 r q
end
section
variable {X:Cx}{CX:qi}{k:Nat}{f C:Addr}{fd:FuncData}{ps ks:List Str}{sp:Sp}{E:XK}{x m:Str}{p pos apos kpos:Pos}{e o:Expr}{es:List Expr}{kws:List Keyword}{te ta:TE}{t tk:TA}{nm:Option Str}
variable {g:List Value->List Value->List Value}{gV:List V->List V->List V}
end
structure ar (N P:List Str)(sc:Scope):Prop where
 kind:sc.kind = .function
 co:sc.isCoroutine=false
 gen:sc.isGenerator=false
 nd:N.Nodup
 pre:N.take P.length=P
 par:∀ x ∈ P,sc.names.lookup x=some .local∨sc.names.lookup x=some .cell
 Fl:∀ y ∈ sc.names,y.2 ≠ .free
theorem jW {kindOf:Str->Option NameKind}{x:Str}:∀ {binds:List (Str × Value)}{m:Str->Option Value},(∀ v,(x,v) ∉ binds)->bindL kindOf binds m x=m x
 | [],_,_=>rfl
 | (n,v) :: r,m,h=>by
  unfold bindL
  rw[jW fun w hw=>h w (mem_cons_of_mem _ hw)]
  split
  ·have:x ≠ n:=by rintro rfl;exact h v mem_cons_self
   simp[this]
  ·rfl
theorem jY {kindOf:Str->Option NameKind}{x:Str}:∀ {binds:List (Str × Value)}{m:Str->Option Value},(∀ v,(x,v) ∉ binds)->bindC kindOf binds m x=m x
 | [],_,_=>rfl
 | (n,v) :: r,m,h=>by
  unfold bindC
  rw[jY fun w hw=>h w (mem_cons_of_mem _ hw)]
  split
  ·rfl
  ·have:x ≠ n:=by rintro rfl;exact h v mem_cons_self
   simp[this]
theorem jX {kindOf:Str->Option NameKind}{x:Str}{v:Value}:∀ {P:List Str}{vs:List Value}{i:Nat}{m:Str->Option Value},P.Nodup->P[i]? = some x->vs[i]? = some v->kindOf x=some .local ->
  bindL kindOf (P.zip vs) m x=some v
 | [],_,_,_,_,h,_,_=>by simp at h
 | _ :: _,[],_,_,_,_,h,_=>by simp at h
 | p :: P,w :: vs,0,m,nd,h1,h2,hk=>by
  simp at h1 h2;subst h1;subst h2
  show bindL kindOf ((p,w) :: P.zip vs) m p=_
  unfold bindL
  rw[jW fun v hv=>(nodup_cons.mp nd).1 (of_mem_zip hv).1,if_pos hk]
  simp
 | p :: P,w :: vs,i + 1,m,nd,h1,h2,hk=>by
  show bindL kindOf ((p,w) :: P.zip vs) m x=_
  unfold bindL
  exact jX (i:=i) (nodup_cons.mp nd).2 (by simpa using h1) (by simpa using h2) hk
theorem jZ {kindOf:Str->Option NameKind}{x:Str}{v:Value}:∀ {P:List Str}{vs:List Value}{i:Nat}{m:Str->Option Value},P.Nodup->P[i]? = some x->vs[i]? = some v->kindOf x ≠ some .local ->
  bindC kindOf (P.zip vs) m x=some v
 | [],_,_,_,_,h,_,_=>by simp at h
 | _ :: _,[],_,_,_,_,h,_=>by simp at h
 | p :: P,w :: vs,0,m,nd,h1,h2,hk=>by
  simp at h1 h2;subst h1;subst h2
  show bindC kindOf ((p,w) :: P.zip vs) m p=_
  unfold bindC
  rw[jY fun v hv=>(nodup_cons.mp nd).1 (of_mem_zip hv).1,if_neg hk]
  simp
 | p :: P,w :: vs,i + 1,m,nd,h1,h2,hk=>by
  show bindC kindOf ((p,w) :: P.zip vs) m x=_
  unfold bindC
  exact jZ (i:=i) (nodup_cons.mp nd).2 (by simpa using h1) (by simpa using h2) hk
noncomputable def start (N:List Str)(vs:List V):St:=vs.map some ++ List.replicate (N.length - vs.length) none
noncomputable def nJ (CX:qi)(P:Program)(w:World)(K:Frag)(mg:Str->Option Value)(base:Heap)(N:List Str)(qual:Str)(scope:Scope)(f:Addr)(cd:Value)(A:Around)(outer:List Env)(s:Shared)(H:Hp)(E:XK):Cx where
 prog:=P
 w:=w
 K:=K
 mg:=mg
 base:=base
 A:=A.deeper (envOfC qual scope s.heap.objs.size f cd)
 N:=N
 s₀:=s
 H₀:=H
 env:=envOfC qual scope s.heap.objs.size f cd
 outer:=outer
 stack:=envOfC qual scope s.heap.objs.size f cd :: outer
 ex:=[]
 calm:=true
 fn:=fun _=>true
 pn:=[]
 xe:=fun e s'=>wpAny (model P w) (A.deeper (envOfC qual scope s.heap.objs.size f cd)) (leaving (envOfC qual scope s.heap.objs.size f cd) e) (fun _ Iu=>CX outer H s E e Iu) (fun e' Iu=>CX outer H s E e' Iu) s'
theorem lV {sc:Scope}{n:Nat}{x:Str}(h:sc.names.lookup x=some .cell):∃ c,(cellsFrom n sc.names []).lookup x=some c:=by
 have q:=PySem.W.cellsFrom_some sc.names n [] (.inl h)
 exact Option.isSome_iff_exists.mp q
theorem pU {CX:qi}{P:Program}{w:World}{K:Frag}{mg:Str->Option Value}{base:Heap}{N ps:List Str}{qual:Str}{scope:Scope}{f:Addr}{cd:Value}{A:Around}{outer:List Env}{s s1:Shared}{H:Hp}{E:XK}{us:List Value}{vs:List V}
  (S:ar N ps scope) (hd:A.handled=none) (e0:AX P w K mg base A outer s H) (hl:vs.length=ps.length) (r:Vals vs us)
  (x:InCallC s s.heap.objs.size (bindL (envOfC qual scope s.heap.objs.size f cd).kindOf (ps.zip us) fun _=>none) (cellsFrom (s.heap.objs.size + 1) scope.names []) (bindC (envOfC qual scope s.heap.objs.size f cd).kindOf (ps.zip us) fun _=>none) s1) :
  Inv (nJ CX P w K mg base N qual scope f cd A outer s H E) [] (start N vs) H s1:=by
 have zm:ps.length <= N.length:=by have:=congrArg List.length S.pre;rw[length_take]at this;omega
 obtain⟨h1,tk,rfl,hk⟩:=x.done
 have Iv:∀ b:Addr,b ∉ (nJ CX P w K mg base N qual scope f cd A outer s H E).ex:=fun b z=>absurd (show b ∈ ([]:List Addr) from z) (by simp)
 refine⟨⟨e0.mod,S.kind,rfl,rfl,le_refl _,fun y z c h1 h2=>?_,fun y hy=>?_,fun y c _ h=>?_,fun _=>hd,Around.frames_deeper e0.frames, .inr ⟨rfl,rfl⟩,fun b z=>absurd z (Iv b),e0.bs,e0.Dh,fun b _ _=>Iv b,fun b z=>absurd z (Iv b),e0.zx,e0.Fe⟩,
  rfl,e0.bare,Un.kept hk,⟨_,x.toInCall.ns,fun i y v h1 h2 h3=>?_⟩,fun y c h=>⟨_,x.cell y c h⟩,e0.xY.fresh (le_refl _),fun y c h=>?_,fun p hp=>absurd (show p ∈ ([]:List (Addr × Obj)) from hp) (by simp),e0.xY.kept hk,?_⟩
 ·exact name_of_addr x.apart (PySem.mem_of_lookup h1) (PySem.mem_of_lookup h2)
 ·have hy:scope.names.lookup y=some .cell∨scope.names.lookup y=some .free:=hy
  rcases hy with hy | hy
  ·exact lV hy
  ·exact absurd rfl (S.Fl _ (PySem.mem_of_lookup hy))
 ·exact le_of_lt (x.above y c (PySem.mem_of_lookup h))
 ·have hi:i < vs.length:=by
   unfold start at h2
   by_cases hi:i < vs.length
   ·exact hi
   ·rw[getElem?_append_right (by simpa using hi)]at h2
    rw[List.getElem?_replicate]at h2
    split at h2<;>cases h2
  have ha:vs[i]? = some v:=by
   unfold start at h2
   rw[getElem?_append_left (by simpa using hi),getElem?_map]at h2
   cases e:vs[i]? with
   | none=>rw[e]at h2;cases h2
   | some a=>rw[e]at h2;cases h2;rfl
  obtain⟨u,hu,rv⟩:=r.get ha
  have hp:ps[i]? = some y:=by
   rw[← S.pre,List.getElem?_take_of_lt (by omega)];exact h1
  have S3:ps.Nodup:=by rw[← S.pre];exact S.nd.sublist (List.take_sublist _ _)
  refine⟨u,rv,?_⟩
  rcases S.par y (mem_of_getElem? hp) with k | k
  ·exact .inl ⟨k,jX S3 hp hu k⟩
  ·obtain⟨c,e⟩:=lV (n:=s.heap.objs.size + 1) k
   refine .inr ⟨.inl k,c,e,?_⟩
   have q:=x.cell y c e
   rw[jZ S3 hp hu (by show scope.names.lookup y ≠ _;rw[k];decide)]at q
   exact q
 ·exact e0.xY.fresh (le_of_lt (x.above y c (PySem.mem_of_lookup h)))
 ·unfold start
  show _=N.length
  rw[length_append,length_map,length_replicate]
  omega
theorem vJ {CX:qi}{P:Program}{w:World}{K:Frag}{mg:Str->Option Value}{base:Heap}{k:Nat}{f:Addr}{name qual:Str}{params:Arguments}{body:List Stmt}{scope:Scope}{dV kV doc pm cdv ct oc:Value}{an od:Option Addr}
  {Bl:Array (Option Value)} {N ps:List Str} {sp:Sp} (lk:K.lookup f=some ⟨oc,od, .func (fnOf name qual params body scope dV kV doc pm an cdv ct),Bl⟩) (BC:codeIn K cdv qual=true) (S:ar N ps scope)
  (len:∀ vs H Q E,sp vs H Q E->vs.length=ps.length)
  (AF:∀ (A:Around)(outer:List Env)(s:Shared)(H:Hp)(vs:List V)(Q:VK)(E:XK),ya k (A.deeper (envOfC qual scope s.heap.objs.size f cdv))->sp vs H Q E ->
   ∃ t,BB (nJ CX P w K mg base N qual scope f cdv A outer s H E) body t/\t { nx:=fun _ H'=>Q .yd H',rt:=Q } (start N vs) H) :
  xO P w K mg base CX (k + 1) f (fnOf name qual params body scope dV kV doc pm an cdv ct) ps sp:=by
 refine⟨len,fun A outer s H args us vs Q E hr e0 hb r CT=>?_⟩
 have hl:=len _ _ _ _ CT
 have KX:K.In s.heap:=e0.mod.CP.keeps fun b o e=>(e0.bs b o e).1
 have lim:s.heap.NoLimit:=e0.mod.nolimit.keeps fun b o e=>(e0.bs b o e).1
 have Iw:∀ y ∈ ps.zip us,scope.names.lookup y.1=some .local∨(scope.names.lookup y.1=some .cell/\((cellsFrom (s.heap.objs.size + 1) scope.names []).lookup y.1).isSome=true):=fun⟨n,v⟩ hy=>by
  rcases S.par n (of_mem_zip hy).1 with q | q
  ·exact .inl q
  ·exact .inr ⟨q,PySem.W.cellsFrom_some _ _ _ (.inl q)⟩
 refine codeAny_call_function hr.depth (KX _ _ lk) rfl S.co S.gen rfl (PySem.W.codeRec_of KX BC) (hb _ _ _ _ ?_)
 refine wpAny_newFunctionEnv_cells S.kind Iw fun env he s1 x=>?_
 subst he
 refine⟨lim.keeps x.toInCall.keep,codeAny_func ?_⟩
 obtain⟨t,ht,hq⟩:=AF A outer s H vs Q E (hr.deeper _) CT
 have I:Inv (nJ CX P w K mg base N qual scope f cdv A outer s H E) [] (start N vs) H s1:=pU S hr.hd e0 hl r x
 refine wpAny_mono (ht [] s1 (start N vs) H _ I hq) (fun fl s' hs=>?_) fun e s' hs=>hs
 have fin:∀ {σ':St}{H':Hp}{v:V}{u:Value},Inv (nJ CX P w K mg base N qual scope f cdv A outer s H E) [] σ' H' s'->RelV v u->Q v H'->CE outer P w H s Q u s' :=
  fun {σ' H' v u} J rv q=>⟨v,H',J.os,J.bare,J.base,J.xY,rv,q⟩
 cases fl with
 | ret u =>
  obtain⟨v,σ',H',J,rv,q⟩:=hs
  exact fin J rv q
 | next =>
  obtain⟨σ',H',J,q⟩:=hs
  exact fin (v:=V.yd) (u:=Value.none) J rfl q
 | brk =>
  obtain⟨_,_,_,q⟩:=hs
  exact False.elim q
 | cont =>
  obtain⟨_,_,_,q⟩:=hs
  exact False.elim q
section
variable {X:Cx}{x:Str}{p pos:Pos}{e:Expr}{es:List Expr}{t:TA}{id T:String}{r:List V->Hp->VK->Prop}
noncomputable def S4 (r:List V->Hp->VK->Prop)(t:TA):TE:=fun σ H Q=>t σ H fun vs H1=>r vs H1 Q
theorem aB (hc:cR X (.builtin id) r)(hg:Gl X x)(hm:X.mg x=none)(hv:bootBuiltins x=some (.builtin id))(ha:PA X (e :: es) t)(hn:autoParam (x ≠ "__name__") θ)(Fj:autoParam ((x == ("__debug__":Str))=false) θ)
  (he:autoParam (starEach (e :: es) X.env=(false,eval e X.env) :: starEach es X.env) η) (zm:autoParam ((backTo pos (starEach es X.env)).any (·.1)=false) η):PE X (.Call (.Name x p) (e :: es) [] pos) (S4 r t):=by
 intro pins s σ H Q I h
 refine wpAny_Call_Name_kw (fP I hg hm hv ?_ hn Fj)
 exact PyProof.Rows.callWith_builtin1 (bq (ha pos pins s σ H _ I h) fun us s1 xU=>by obtain⟨vs,H1,I1,r1,q1⟩:=xU;exact hc pins s1 σ H1 vs us Q I1 r1 q1) he zm
theorem aY (hc:cR X (.type T) r)(hg:Gl X x)(hm:X.mg x=none)(hv:bootBuiltins x=some (.type T))(ha:PA X (e :: es) t)(hn:autoParam (x ≠ "__name__") θ)(Fj:autoParam ((x == ("__debug__":Str))=false) θ)
  (he:autoParam (starEach (e :: es) X.env=(false,eval e X.env) :: starEach es X.env) η) (zm:autoParam ((backTo pos (starEach es X.env)).any (·.1)=false) η):PE X (.Call (.Name x p) (e :: es) [] pos) (S4 r t):=by
 intro pins s σ H Q I h
 refine wpAny_Call_Name_kw (fP I hg hm hv ?_ hn Fj)
 exact PyProof.Rows.callWith_type1 (bq (ha pos pins s σ H _ I h) fun us s1 xU=>by obtain⟨vs,H1,I1,r1,q1⟩:=xU;exact hc pins s1 σ H1 vs us Q I1 r1 q1) he zm
end
end L2
namespace HT
open PySem PyProof.Rows
section
open PySem.SeqAt
open PySem.AutoSeq1 (wpAny_loadPart')
open PySem.MeetsSeq PySem.MeetsSeq2 PySem.MeetsSeq3
end
section
variable {prog:Program}{w:World}{A:Around}{E:Value->Shared->Prop}{s:Shared}
theorem Dj {t b:Addr}{vs ws:List Value}{Q:Value->Shared->Prop}(ht:IsTup s.heap t vs.toArray)(hb:IsTup s.heap b ws.toArray)(hv:vs ≠ [])
  (h1:ws=[]->Q (.ref t) s) (h2:ws ≠ []->Q (.ref s.heap.objs.size) { s with heap:=s.heap.push { cls := .type "tuple",data := .seq (vs ++ ws).toArray } })
  (hsz:vs.length + ws.length <= sizeLine):wpAny (model prog w) A (binaryOp .Add (.ref t) (.ref b)) Q E s:=by
 obtain⟨⟨cls,dd,data,sl⟩,ho,hc,n,hd⟩:=id ht
 obtain⟨⟨Ol,Mn,data2,Mp⟩,zq,Ag,n2,hd2⟩:=id hb
 simp only at hc hd Ag hd2
 subst hc hd Ag hd2
 have e:vs.toArray ++ ws.toArray=(vs ++ ws).toArray:=by simp
 by_cases hw:ws=[]
 ·exact concat_meets ⟨_,ho,rfl⟩ ⟨_,zq,rfl⟩ noFill_tuple_add seq_tuple_add slot_tuple_add entry_tuple_add (args_tuple_add_2 _ _)
   (tuple_addW1 t b vs.toArray ws.toArray n n2 dd Mn sl Mp (by simpa using hv) (by simp[hw])) ⟨ho,zq,h1 hw⟩
 ·refine concat_meets ⟨_,ho,rfl⟩ ⟨_,zq,rfl⟩ noFill_tuple_add seq_tuple_add slot_tuple_add entry_tuple_add (args_tuple_add_2 _ _)
   (tuple_addW2 t b vs.toArray ws.toArray n n2 dd Mn sl Mp (by simpa using hv) (by simpa using hw) (by rw[size_toArray,size_toArray];exact hsz)) ⟨ho,zq,?_⟩
  rw[e]
  exact h2 hw
noncomputable def zZ (n d:Nat):Option Int->Nat
 | none=>d
 | some v=>if v < 0 then (v + (n:Int)).toNat else min v.toNat n
theorem Cr (n d:Nat):zZ n d none=d:=rfl
theorem zC (n d k:Nat):zZ n d (some (k:Int))=min k n:=by
 show(if (k:Int) < 0 then ((k:Int) + (n:Int)).toNat else min (k:Int).toNat n)=min k n
 rw[if_neg (by omega),toNat_natCast]
end
end HT
namespace L2
open PySem PySem.Spec PyProof.Rows
abbrev TO:=St->Hp->(Option Int->Hp->Prop)->Prop
noncomputable def PO (X:Cx)(e:Option Expr)(t:TO):Prop :=
 ∀ (pins:List (Addr × Obj))(s:Shared)(σ:St)(H:Hp)(Q:Option Int->Hp->Prop),Inv X pins σ H s->t σ H Q ->
  wpAny (model X.prog X.w) X.A (evalPart e X.env) (fun u s'=>∃ o H',Inv X pins σ H' s'/\IsPart u o/\Q o H') X.xe s
noncomputable def tO:TO:=fun _ H Q=>Q none H
noncomputable def Iy (t:TE):TO:=fun σ H Q=>t σ H fun x H1=>∃ i,x = .int i/\Q (some i) H1
theorem nB {ns:List Int}:∀ {us:List Value},Vals (ns.map V.int) us->IntsAre us ns:=by
 induction ns with
 | nil=>intro us r;rw[map_nil]at r;cases r;exact .nil
 | cons n ns ih =>
  intro us r
  rw[map_cons]at r
  cases r with
  | cons r1 r2 =>
   obtain⟨t,e⟩:=r1
   subst e
   exact .cons n t (ih r2)
section
variable {X:Cx}{e:Expr}{te:TE}{lo hi:Option Expr}{tl th:TO}{pos p2:Pos}
theorem kF:PO X none tO:=by
 intro pins s σ H Q I h
 rw[evalPart_none]
 exact wpAny_pure ⟨none,H,I, .none,h⟩
theorem gj (h:PE X e te):PO X (some e) (Iy te):=by
 intro pins s σ H Q I hw
 rw[evalPart_some]
 refine bq (h pins s σ H _ I hw) fun u s1 xU=>?_
 obtain⟨x,H1,I1,r1,q1⟩:=xU
 obtain⟨i,rfl,q⟩:=q1
 obtain⟨t,rfl⟩:=r1
 exact⟨some i,H1,I1, .int i t,q⟩
noncomputable def S5 (X:Cx)(r:V->Option Int->Option Int->Hp->VK->Prop):Prop :=
 ∀ (pins:List (Addr × Obj))(s:Shared)(σ:St)(H:Hp)(x:V)(v vl vu:Value)(lo hi:Option Int)(sl:Addr)(Q:VK),Inv X pins σ H s->RelV x v->s.heap.IsSliceOf sl vl vu .none->IsPart vl lo->IsPart vu hi->r x lo hi H Q ->
  ∃ T id,typeLookup (.type T) "__getitem__" = pure (some (.builtin id))/\s.TypeIs v T/\wpAny (model X.prog X.w) X.A (getItem v (.ref sl)) (EP X pins σ Q) X.xe s
noncomputable def tSl (r:V->Option Int->Option Int->Hp->VK->Prop)(te:TE)(tl th:TO):TE:=fun σ H Q=>te σ H fun x H1=>tl σ H1 fun l H2=>th σ H2 fun u H3=>r x l u H3 Q
theorem gm {r:V->Option Int->Option Int->Hp->VK->Prop}(hr:S5 X r)(he:PE X e te)(hl:PO X lo tl)(hu:PO X hi th):PE X (.Subscript e (.Slice lo hi none p2) pos) (tSl r te tl th):=by
 intro pins s σ H Q I h
 refine Subscript_ (bq (he pins s σ H _ I h) fun v s1 xU=>?_)
 obtain⟨x,H1,I1,r1,q1⟩:=xU
 refine wpAny_Slice (bq (hl pins s1 σ H1 _ I1 q1) fun vl s2 ⟨l,H2,I2,pl,q2⟩=>bq (hu pins s2 σ H2 _ I2 q2) fun vu s3 xU=>?_)
 obtain⟨u,H3,I3,pu,q3⟩:=xU
 rw[evalPart_none]
 refine wpAny_pure ?_
 have I4:Inv X pins σ H3 { s3 with heap:=s3.heap.push { cls := .type "slice",data := .fields #[vl,vu, .none] } }:=I3.kept (t':=s3.toks) fun b ob q=>Heap.get?_push_of_some _ q
 obtain⟨T,id,hT,ht,hg⟩:=hr pins { s3 with heap:=s3.heap.push { cls := .type "slice",data := .fields #[vl,vu, .none] } } σ H3 x v vl vu l u s3.heap.objs.size Q I4 r1 (Heap.IsSliceOf.new ..) pl pu q3
 show wpAny (model X.prog X.w) X.A (subscriptTail e (.Slice lo hi none p2) v (.ref s3.heap.objs.size)) (EP X pins σ Q) X.xe { s3 with heap:=s3.heap.push { cls := .type "slice",data := .fields #[vl,vu, .none] } }
 exact tail_any (ops:=[.ref s3.heap.objs.size,v]) ht hT hg (by with_unfolding_all rfl)
noncomputable def ia (xs:List V)(lo hi:Option Int):List V:=(xs.drop (HT.zZ xs.length 0 lo)).take (HT.zZ xs.length xs.length hi - HT.zZ xs.length 0 lo)
theorem lQ (xs:List V)(lo hi:Option Int):(ia xs lo hi).length <= xs.length:=by
 unfold ia
 rw[length_take,length_drop]
 omega
noncomputable def Iz (K:Frag):R2:=fun x y H Q=>∃ a b xs ys,x = .ref a/\y = .ref b/\xV K H a xs/\xV K H b ys/\xs ≠ []/\xs.length + ys.length <= sizeLine /\
 (ys=[]->Q (.ref a) H)/\(ys ≠ []->∀ p,H p=none->Q (.ref p) (upd H p (.tup (xs ++ ys))))
theorem Vals.zD {xs:List V}{us:List Value}(r:Vals xs us):us=[]↔xs=[]:=by
 cases r with
 | nil=>simp
 | cons _ _=>simp
theorem uu:dH X (binaryOp .Add) (Iz X.K):=by
 intro pins s σ H x y v u Q I rx ry h
 obtain⟨a,b,xs,ys,rfl,rfl,ha,hb,hx,hz,q1,q2⟩:=h
 cases rx
 cases ry
 obtain⟨xT,r1,p1,_⟩:=I.tuple ha
 obtain⟨ze,r2,p2,_⟩:=I.tuple hb
 refine HT.Dj p1 p2 (fun z=>hx (r1.zD.mp z)) (fun z=>⟨.ref a,H,I,rfl,q1 (r2.zD.mp z)⟩) (fun z=>?_) (by rw[← r1.length,← r2.length];exact hz)
 refine⟨.ref s.heap.objs.size,_,I.laid (t':=s.toks) (o := .tup (xs ++ ys)) (fun b ob q=>Heap.get?_push_of_some _ q) (le_refl _) ?_,rfl,q2 (fun w=>z (r2.zD.mpr w)) _ (I.xY.fresh (le_refl _))⟩
 exact⟨by rw[length_append];exact hz,_,r1.append r2,yG.new _ _⟩
end
noncomputable def uP (n:Nat)(i:Int):Option Nat:=if 0 <= i then (if i < n then some i.toNat else none) else if -(n:Int) <= i then some (i + n).toNat else none
noncomputable def GU {α:Type}(xs:List α)(i:Int):Option α:=(uP xs.length i).bind fun j=>xs[j]?
theorem oR {n:Nat}{i:Int}{j:Nat}(h:uP n i=some j):seqIndex? i n=some j/\j < n/\-(n:Int) <= i/\i < n:=by
 unfold uP at h
 by_cases h0:0 <= i
 ·rw[if_pos h0]at h
  by_cases h1:i < n
  ·rw[if_pos h1]at h
   have e:i.toNat=j:=Option.some.inj h
   exact⟨by rw[seqIndex_of h0 h1,e],by omega,by omega,h1⟩
  ·rw[if_neg h1]at h;cases h
 ·rw[if_neg h0]at h
  by_cases h1:-(n:Int) <= i
  ·rw[if_pos h1]at h
   have e:(i + n).toNat=j:=Option.some.inj h
   exact⟨by rw[seqIndex_neg (by omega) h1,e],by omega,h1,by omega⟩
  ·rw[if_neg h1]at h;cases h
theorem pz {α:Type}{xs:List α}{i:Int}{v:α}(h:GU xs i=some v):∃ j,seqIndex? i xs.length=some j/\xs[j]? = some v/\j < xs.length/\-(xs.length:Int) <= i/\i < xs.length:=by
 unfold GU at h
 cases e:uP xs.length i with
 | none=>rw[e]at h;cases h
 | some j =>
  rw[e]at h
  obtain⟨h1,h2,h3,h4⟩:=oR e
  exact⟨j,h1,h,h2,h3,h4⟩
theorem aj {α:Type}{xs:List α}{j:Nat}{v:α}(h:xs[j]? = some v):GU xs (j:Int)=some v:=by
 have hj:j < xs.length:=(gQ0 h)
 have e:uP xs.length (j:Int)=some j:=by
  unfold uP
  rw[if_pos (by omega),if_pos (by omega)];simp
 unfold GU;rw[e];exact h
noncomputable def vi (b:Expr):Prop:=∀ o i,subscripted b false o i=operate [o,i] (getItem o i)
noncomputable def j0 (X:Cx)(r:R2):Prop :=
 ∀ (value slice:Expr)(pins:List (Addr × Obj))(s:Shared)(σ:St)(H:Hp)(x y:V)(v u:Value)(Q:VK),Inv X pins σ H s->RelV x v->RelV y u->r x y H Q ->
  subscripted slice false v u=operate [v,u] (getItem v u)->wpAny (model X.prog X.w) X.A (subscriptTail value slice v u) (EP X pins σ Q) X.xe s
noncomputable def Mq (X:Cx)(id:String)(r:V->List V->Hp->VK->Prop):Prop :=
 ∀ (pins:List (Addr × Obj))(s:Shared)(σ:St)(H:Hp)(x:V)(xs:List V)(v:Value)(us:List Value)(Q:VK),Inv X pins σ H s->RelV x v->Vals xs us->r x xs H Q ->
  wpAny (model X.prog X.w) X.A (call (.builtin id) (v :: us)) (EP X pins σ Q) X.xe s
section
variable {X:Cx}{a b:Expr}{ta tb:TE}{pos:Pos}
theorem ao {r:R2}(hr:j0 X r)(ha:PE X a ta)(hb:PE X b tb)(hs:vi b):PE X (.Subscript a b pos) (Mg r ta tb):=by
 intro pins s σ H Q I h
 exact Subscript_ (x9 ha hb I h fun v u s2 x y H2 I2 rx ry q=>hr a b pins s2 σ H2 x y v u Q I2 rx ry q (hs _ _))
noncomputable def kD (K:Frag):R2:=fun x y H Q=>∃ p xs i v,x = .ref p/\y = .int i/\xS K H p xs/\GU xs i=some v/\Q v H
noncomputable def gP (K:Frag):R2:=fun x y H Q=>∃ p xs i v,x = .ref p/\y = .int i/\xV K H p xs/\GU xs i=some v/\Q v H
theorem aA:j0 X (kD X.K):=by
 intro value slice pins s σ H x y v u Q I rx ry h hs
 obtain⟨p,xs,i,z,rfl,rfl,hq,he,q⟩:=h
 cases rx
 obtain⟨t,rfl⟩:=ry
 obtain⟨xT,r,pl,hz⟩:=I.list hq
 obtain⟨j,h1,h2,h3,h4,h5⟩:=pz he
 obtain⟨w,ew,Dk⟩:=r.get h2
 have hl:=r.length
 have hn:=jo
 have fin:EP X pins σ Q w s:=⟨z,H,I,Dk,q⟩
 by_cases h0:0 <= i
 ·have hj:i.toNat=j:=by
   rw[seqIndex_of h0 h5]at h1
   exact Option.some.inj h1
  exact item_listR pl.isList h0 (by omega) (by rw[hj];simpa using ew) fin hs
 ·have hj:(i + (xT.toArray.size:Int)).toNat=j:=by
   rw[seqIndex_neg (by omega) h4]at h1
   rw[size_toArray,← hl]
   exact Option.some.inj h1
  exact subscriptTail_builtinR (x:=w) pl.isList.typeIs slot_list_getitem.lookup
   (wpAny_getItem_list_neg (Q:=fun r s'=>r=w/\EP X pins σ Q r s') pl.isList (by omega) (by rw[size_toArray]<;>omega) (by omega) (by rw[hj];simpa using ew) ⟨rfl,fin⟩) hs
theorem av:j0 X (gP X.K):=by
 intro value slice pins s σ H x y v u Q I rx ry h hs
 obtain⟨p,xs,i,z,rfl,rfl,hq,he,q⟩:=h
 cases rx
 obtain⟨t,rfl⟩:=ry
 obtain⟨xT,r,pl,hz⟩:=I.tuple hq
 obtain⟨j,h1,h2,h3,h4,h5⟩:=pz he
 obtain⟨w,ew,Dk⟩:=r.get h2
 have hl:=r.length
 have hn:=jo
 have fin:EP X pins σ Q w s:=⟨z,H,I,Dk,q⟩
 exact subscriptTail_builtinR (x:=w) pl.typeIs slot_tuple_getitem.lookup
  (getItem_tuple (j:=j) (Q:=fun r s'=>r=w/\EP X pins σ Q r s') pl (by omega) (by omega) (by rw[size_toArray,← hl];exact h1) (by simpa using ew) ⟨rfl,fin⟩) hs
theorem nq (xT:List Value)(n j:Nat)(u:Value):Obj.mapSeq (·.setIfInBounds j u) { cls := .type "list",data := .seq xT.toArray n } = { cls := .type "list",data := .seq (xT.set j u).toArray n }:=by
 simp[Obj.mapSeq]
theorem Inv.lst {pins:List (Addr × Obj)}{σ:St}{H:Hp}{s:Shared}{p:Addr}{xs:List V}(I:Inv X pins σ H s)(h:H p=some (.lst xs)) :
  ∃ (xT:List Value)(n:Nat),Vals xs xT/\s.heap.get? p=some { cls := .type "list",data := .seq xT.toArray n }/\xs.length <= sizeLine:=by
 obtain⟨z,xT,n,r,e⟩:=I.xY p _ h
 exact⟨xT,n,r,e,z⟩
theorem Inv.Fm {pins:List (Addr × Obj)}{σ:St}{H:Hp}{s:Shared}{p:Addr}{xs ys:List V}{xT its':List Value}{n n':Nat}{f:Obj->Obj}(I:Inv X pins σ H s)(h:H p=some (.lst xs))
  (ho:s.heap.get? p=some { cls := .type "list",data := .seq xT.toArray n }) (hf:f { cls := .type "list",data := .seq xT.toArray n } = { cls := .type "list",data := .seq its'.toArray n' }) (r:Vals ys its') (hz:ys.length <= sizeLine) (t:Nat) :
  Inv X pins σ (upd H p (.lst ys)) { s with heap:=s.heap.update p f,toks:=t }:=by
 have e:(s.heap.update p f).get? p=some { cls := .type "list",data := .seq its'.toArray n' }:=by
  rw[Heap.get?_update_self f ho (by rw[hf]<;>rfl),hf]
 refine I.write (x:=p) (e:=p) (by rw[h];trivial) (.inl rfl) (fun b u hb q=>(Heap.get?_update_other _ _ (Ne.symm hb)).trans q) ⟨_,e⟩ ?_
 exact⟨hz,its',n',r,e⟩
noncomputable def IA:V->V->V->Hp->(Hp->Prop)->Prop:=fun o i v H Q=>∃ p xs k j,o = .ref p/\i = .int k/\H p=some (.lst xs)/\uP xs.length k=some j/\Q (upd H p (.lst (xs.set j v)))
theorem iU:HX X IA:=by
 intro pins s σ H o i v ov iv u Q I ro ri rv h
 obtain⟨p,xs,k,j,rfl,rfl,hp,hj,q⟩:=h
 cases ro
 obtain⟨t,rfl⟩:=ri
 obtain⟨xT,n,r,ho,hz⟩:=I.lst hp
 obtain⟨h1,h2,h3,h4⟩:=oR hj
 have hl:=r.length
 have hn:=jo
 have I':Inv X pins σ (upd H p (.lst (xs.set j v))) { s with heap:=s.heap.update p (Obj.mapSeq (·.setIfInBounds j u)) } :=
  I.Fm hp ho (nq xT n j u) (r.set rv j) (by rw[length_set];exact hz) s.toks
 by_cases h0:0 <= k
 ·have hk:k.toNat=j:=by
   rw[seqIndex_of h0 h4]at h1
   exact Option.some.inj h1
  exact PySem.W.ki_setAt ho h0 (by omega) (by rw[size_toArray,← hl];exact h4) (by rw[hk];exact⟨_,I',q⟩)
 ·have hk:(k + (xT.toArray.size:Int)).toNat=j:=by
   rw[seqIndex_neg (by omega) h3]at h1
   rw[size_toArray,← hl]
   exact Option.some.inj h1
  exact PySem.W.ki_setBack ho (by omega) (by rw[size_toArray,← hl];exact h3) (by omega) (by rw[hk];exact⟨_,I',q⟩)
theorem k7 (lo hi:Option Int)(n:Nat):(sliceBounds lo hi none n).1=((HT.zZ n 0 lo:Nat):Int)/\(sliceBounds lo hi none n).2.1=((HT.zZ n n hi:Nat):Int)/\(sliceBounds lo hi none n).2.2=1:=by
 refine⟨?_,?_,rfl⟩
 ·cases lo with
  | none=>simp[sliceBounds,HT.zZ]
  | some i =>
   simp only[sliceBounds,HT.zZ,Option.getD_none,show (1:Int) > 0 by decide,if_true]
   by_cases h:i < 0
   ·simp only[h,if_true]<;>omega
   ·simp only[h,if_false]<;>omega
 ·cases hi with
  | none=>simp[sliceBounds,HT.zZ]
  | some i =>
   simp only[sliceBounds,HT.zZ,Option.getD_none,show (1:Int) > 0 by decide,if_true]
   by_cases h:i < 0
   ·simp only[h,if_true]<;>omega
   ·simp only[h,if_false]<;>omega
theorem j6 (xT:List Value)(lo hi:Option Int):slicePick xT.toArray lo hi none=((xT.drop (HT.zZ xT.length 0 lo)).take (HT.zZ xT.length xT.length hi - HT.zZ xT.length 0 lo)).toArray:=by
 obtain⟨h1,h2,h3⟩:=k7 lo hi xT.toArray.size
 unfold slicePick
 rw[h1,h2,h3]
 simp only[sliceRange_one,pick_run,size_toArray]<;>rfl
noncomputable def Om (K:Frag):V->Option Int->Option Int->Hp->VK->Prop:=fun x lo hi H Q=>∃ a xs,x = .ref a/\xS K H a xs/\∀ p,H p=none->Q (.ref p) (upd H p (.lst (ia xs lo hi)))
theorem iA:S5 X (Om X.K):=by
 intro pins s σ H x v vl vu lo hi sl Q I rx hs pl pu h
 obtain⟨a,xs,rfl,hx,q⟩:=h
 cases rx
 obtain⟨xT,r,ht,hz⟩:=I.list hx
 have hlen:=r.length
 refine⟨"list",_,slot_list_getitem.lookup,ht.isList.typeIs,?_⟩
 refine wpAny_getItem_list_slice ht.isList hs pl pu .none (by simp) ?_ (by rw[size_toArray]<;>omega)
 rw[j6,← hlen]
 refine⟨.ref s.heap.objs.size,_,I.laid (t':=s.toks) (o := .lst (ia xs lo hi)) (fun b ob q=>Heap.get?_push_of_some _ q) (le_refl _) ?_,rfl,q _ (I.xY.fresh (le_refl _))⟩
 exact⟨le_trans (lQ xs lo hi) hz,_,0,(r.drop (HT.zZ xs.length 0 lo)).take (HT.zZ xs.length xs.length hi - HT.zZ xs.length 0 lo),Heap.get?_push_size _ rfl⟩
noncomputable def gy:V->Bool
 | .yd=>true
 | .bl _=>true
 | .int _=>true
 | .str _=>true
 | _=>false
noncomputable def vK:V->V->Bool
 | .yd, .yd=>true
 | .bl a, .bl b=>a == b
 | .bl a, .int b=>(if a then 1 else 0) == b
 | .int a, .bl b=>a == (if b then 1 else 0)
 | .int a, .int b=>a == b
 | .str a, .str b=>a == b
 | _,_=>false
theorem xx {A:Around}{s:Shared}{y x:V}{u v:Value}(ry:RelV y u)(rx:RelV x v)(fy:gy y=true)(fx:gy x=true):SeqAt.EqAt A s u v (vK y x):=by
 cases y with
 | yd =>
  cases ry
  cases x with
  | yd=>cases rx;exact SeqAt.EqAt.same _
  | bl b=>cases rx;exact SeqAt.EqAt.none_bool b
  | int b=>obtain⟨t,rfl⟩:=rx;exact SeqAt.EqAt.none_int b t
  | str b=>obtain⟨t,rfl⟩:=rx;exact SeqAt.EqAt.none_str b t
  | _=>exact absurd (show false=true from fx) Bool.false_ne_true
 | bl a =>
  cases ry
  cases x with
  | yd=>cases rx;exact SeqAt.EqAt.bool_none a
  | bl b=>cases rx;exact SeqAt.EqAt.bool_bool a b
  | int b=>obtain⟨t,rfl⟩:=rx;exact SeqAt.EqAt.bool_int a b t
  | str b=>obtain⟨t,rfl⟩:=rx;exact SeqAt.EqAt.bool_str a b t
  | _=>exact absurd (show false=true from fx) Bool.false_ne_true
 | int a =>
  obtain⟨t',rfl⟩:=ry
  cases x with
  | yd=>cases rx;exact SeqAt.EqAt.int_none a t'
  | bl b=>cases rx;exact SeqAt.EqAt.int_bool a t' b
  | int b=>obtain⟨t,rfl⟩:=rx;exact SeqAt.EqAt.int_int a t' b t
  | str b=>obtain⟨t,rfl⟩:=rx;exact SeqAt.EqAt.int_str a t' b t
  | _=>exact absurd (show false=true from fx) Bool.false_ne_true
 | str a =>
  obtain⟨t',rfl⟩:=ry
  cases x with
  | yd=>cases rx;exact SeqAt.EqAt.str_none a t'
  | bl b=>cases rx;exact SeqAt.EqAt.str_bool a t' b
  | int b=>obtain⟨t,rfl⟩:=rx;exact SeqAt.EqAt.str_int a t' b t
  | str b=>obtain⟨t,rfl⟩:=rx;exact SeqAt.EqAt.str_str a t' b t
  | _=>exact absurd (show false=true from fx) Bool.false_ne_true
 | _=>exact absurd (show false=true from fy) Bool.false_ne_true
noncomputable def nG (x:V)(u:Value):Bool:=match u with
 | .none=>vK .yd x
 | .bool b=>vK (.bl b) x
 | .int i _=>vK (.int i) x
 | .str z _=>vK (.str z) x
 | _=>false
theorem sK {x y:V}{u:Value}(r:RelV y u)(f:gy y=true):nG x u=vK y x:=by
 cases y with
 | yd=>cases r;rfl
 | bl b=>cases r;rfl
 | int i=>obtain⟨t,rfl⟩:=r;rfl
 | str z=>obtain⟨t,rfl⟩:=r;rfl
 | _=>exact absurd (show false=true from f) Bool.false_ne_true
theorem gI {x:V}:∀ {xs:List V}{us:List Value},Vals xs us->xs.all gy=true->us.any (nG x)=xs.any fun y=>vK y x
 | _,_, .nil,_=>rfl
 | y :: xs,u :: us, .cons r t,f=>by
  rw[all_cons,Bool.and_eq_true]at f
  rw[any_cons,any_cons,sK r f.1,gI t f.2]
theorem eM {A:Around}{s:Shared}{x:V}{v:Value}(rx:RelV x v)(fx:gy x=true):∀ {xs:List V}{us:List Value},Vals xs us->xs.all gy=true->∀ u ∈ us,SeqAt.EqAt A s u v (nG x u)
 | _,_, .nil,_=>fun u hu=>by cases hu
 | y :: xs,u :: us, .cons r t,f=>fun u' hu=>by
  rw[all_cons,Bool.and_eq_true]at f
  rcases mem_cons.mp hu with rfl | hu
  ·rw[sK r f.1];exact xx r rx f.1 fx
  ·exact eM rx fx t f.2 u' hu
noncomputable def GV (x:V)(xs:List V):Bool:=xs.any fun y=>vK y x
noncomputable def Mr (K:Frag)(neg:Bool):R2:=fun x y H Q=>∃ p xs,y = .ref p/\(xS K H p xs∨xV K H p xs)/\gy x=true/\xs.all gy=true/\Q (.bl (if neg then !GV x xs else GV x xs)) H
theorem pJ:dH X (compareOp .In) (Mr X.K false):=by
 intro pins s σ H x y v u Q I rx ry h
 obtain⟨p,xs,rfl,hq,fx,fs,q⟩:=h
 cases ry
 rcases hq with hq | hq
 ·obtain⟨xT,r,pl,hz⟩:=I.list hq
  refine SeqAt.in_listAt (nG x) pl.isList (fun w hw=>eM rx fx r fs w (by simpa using hw)) ⟨.bl _,H,I,rfl,?_⟩
  rw[show xT.toArray.any (nG x)=xT.any (nG x) by simp,gI r fs]
  exact q
 ·obtain⟨xT,r,pl,hz⟩:=I.tuple hq
  refine SeqAt.in_tupleAt (nG x) pl (fun w hw=>eM rx fx r fs w (by simpa using hw)) ⟨.bl _,H,I,rfl,?_⟩
  rw[show xT.toArray.any (nG x)=xT.any (nG x) by simp,gI r fs]
  exact q
theorem gn:dH X (compareOp .NotIn) (Mr X.K true):=by
 intro pins s σ H x y v u Q I rx ry h
 obtain⟨p,xs,rfl,hq,fx,fs,q⟩:=h
 cases ry
 rcases hq with hq | hq
 ·obtain⟨xT,r,pl,hz⟩:=I.list hq
  refine SeqAt.notIn_listAt (nG x) pl.isList (fun w hw=>eM rx fx r fs w (by simpa using hw)) ⟨.bl _,H,I,rfl,?_⟩
  rw[show xT.toArray.any (nG x)=xT.any (nG x) by simp,gI r fs]
  exact q
 ·obtain⟨xT,r,pl,hz⟩:=I.tuple hq
  refine SeqAt.notIn_tupleAt (nG x) pl (fun w hw=>eM rx fx r fs w (by simpa using hw)) ⟨.bl _,H,I,rfl,?_⟩
  rw[show xT.toArray.any (nG x)=xT.any (nG x) by simp,gI r fs]
  exact q
theorem aC:cR X (.builtin "len") (fun xs H Q=>∃ p ys,xs=[.ref p]/\(xS X.K H p ys∨xV X.K H p ys)/\Q (.int ys.length) H):=by
 intro pins s σ H xs us Q I r h
 obtain⟨p,ys,rfl,hq,q⟩:=h
 obtain⟨u,rfl,rx⟩:=jC r
 cases rx
 have hn:=jo
 rcases hq with hq | hq
 ·obtain⟨xT,r',pl,hz⟩:=I.list hq
  have hlen:=r'.length
  exact Calls.call_len_list pl.isList (by simp only[size_toArray]<;>omega) ⟨.int ys.length,H,I.tok _,⟨s.toks + 1,by rw[size_toArray,hlen]⟩,q⟩
 ·obtain⟨xT,r',pl,hz⟩:=I.tuple hq
  have hlen:=r'.length
  exact len_tuple pl (by simp only[size_toArray]<;>omega) ⟨.int ys.length,H,I.tok _,⟨s.toks + 1,by rw[size_toArray,hlen]⟩,q⟩
theorem bW:cR X (.type "list") (fun xs H Q=>∃ p ys,xs=[.ref p]/\(xS X.K H p ys∨xV X.K H p ys)/\∀ l,H l=none->Q (.ref l) (upd H l (.lst ys))):=by
 intro pins s σ H xs us Q I r h
 obtain⟨p,ys,rfl,hq,q⟩:=h
 obtain⟨u,rfl,rx⟩:=jC r
 cases rx
 have fin:∀ (xT:List Value),Vals ys xT->ys.length <= sizeLine->∀ (h':Heap)(c':Nat),(∀ b o',s.heap.get? b=some o'->h'.get? b=some o') ->
   h'.get? s.heap.objs.size=some { cls := .type "list",dict:=none,data := .seq xT.toArray c',slots:=#[] }->EP X pins σ Q (.ref s.heap.objs.size) { s with heap:=h' }:=fun xT r' hz h' c' kp e =>
  ⟨.ref s.heap.objs.size,_,I.laid (t':=s.toks) kp (le_refl _) (show ym X.prog X.w _ h' _ (.lst ys) from ⟨hz,xT,c',r',e⟩),rfl,q _ (I.xY.fresh (le_refl _))⟩
 rcases hq with hq | hq
 ·obtain⟨xT,r',pl,hz⟩:=I.list hq
  have hlen:=r'.length
  obtain⟨o,ho,hc,n,hd⟩:=pl.isList
  exact call_list_seq p (.inl rfl) ho hc hd (fun h' c' kp e=>fin xT r' hz h' c' kp e) (by simp only[size_toArray]<;>omega)
 ·obtain⟨xT,r',pl,hz⟩:=I.tuple hq
  have hlen:=r'.length
  obtain⟨o,ho,hc,n,hd⟩:=pl
  exact call_list_seq p (.inr rfl) ho hc hd (fun h' c' kp e=>fin xT r' hz h' c' kp e) (by simp only[size_toArray]<;>omega)
theorem ce:cR X (.type "tuple") (fun xs H Q=>∃ p ys,xs=[.ref p]/\((xS X.K H p ys/\∀ l,H l=none->Q (.ref l) (upd H l (.tup ys)))∨(xV X.K H p ys/\Q (.ref p) H))):=by
 intro pins s σ H xs us Q I r h
 obtain⟨p,ys,rfl,h⟩:=h
 obtain⟨u,rfl,rx⟩:=jC r
 cases rx
 rcases h with ⟨hq,q⟩ | ⟨hq,q⟩
 ·obtain⟨xT,r',pl,hz⟩:=I.list hq
  have hlen:=r'.length
  refine call_tuple_list pl.isList (fun h' kp=>?_) (by simp only[size_toArray]<;>omega)
  have I1:Inv X pins σ H { s with heap:=h' }:=I.kept (t':=s.toks) kp
  have I2:Inv X pins σ (upd H h'.objs.size (.tup ys)) { s with heap:=h'.push { cls := .type "tuple",data := .seq xT.toArray } } :=
   I1.laid (t':=s.toks) (fun b o e=>Heap.get?_push_of_some _ e) (le_refl _) (show ym X.prog X.w _ _ _ (.tup ys) from ⟨hz,xT,r',yG.new _ _⟩)
  exact⟨.ref h'.objs.size,_,I2,rfl,q _ (I1.xY.fresh (le_refl _))⟩
 ·obtain⟨xT,r',pl,hz⟩:=I.tuple hq
  exact call_tuple_same pl ⟨.ref p,H,I,rfl,q⟩
noncomputable def Oo (K:Frag)(T:String)(x:V)(H:Hp):Prop:=match x with
 | .str _=>T = "str"
 | .int _=>T = "int"
 | .ref p=>(T = "list"/\∃ xs,xS K H p xs)∨(T = "tuple"/\∃ o,K.lookup p=some o/\o.cls = .type "tuple"/\o.dict=none) ∨
   (T = "dict"/\((∃ xP,H p=some (.dK xP))∨∃ xP,H p=some (.dT xP)))∨(T = "set"/\∃ S n,H p=some (.set S n))
 | _=>False
theorem qq {pins:List (Addr × Obj)}{σ:St}{H:Hp}{s:Shared}{T:String}{x:V}{v:Value}(I:Inv X pins σ H s)(r:RelV x v)(ty:Oo X.K T x H) :
  s.TypeIs v T/\∀ a,v = .ref a->∃ ob,s.heap.get? a=some ob/\ob.dict=none:=by
 cases x with
 | str z =>
  obtain⟨t,rfl⟩:=r
  cases (show T = "str" from ty)
  exact⟨typeIs_str s z t,fun _ e=>nomatch e⟩
 | int i =>
  obtain⟨t,rfl⟩:=r
  cases (show T = "int" from ty)
  exact⟨typeIs_int s i t,fun _ e=>nomatch e⟩
 | ref p =>
  cases r
  rcases ty with ⟨rfl,xs,hq⟩ | ⟨rfl,o,hk,hc,hd⟩ | ⟨rfl,hk⟩ | ⟨rfl,S,n,hk⟩
  ·obtain⟨xT,_,pl,_⟩:=I.list hq
   refine⟨pl.isList.typeIs,fun a e=>?_⟩
   cases e
   obtain⟨o,n,e,c,hd,_⟩:=pl
   exact⟨o,e,hd⟩
  ·refine⟨⟨o,I.zg p o hk,hc⟩,fun a e=>?_⟩
   cases e
   exact⟨o,I.zg _ o hk,hd⟩
  ·have z:∃ o,s.heap.get? p=some o/\o.ExactDict:=by
    rcases hk with ⟨xP,hk⟩ | ⟨xP,hk⟩
    ·obtain⟨_,_,_,_,o,_,_,e,ex,_⟩:=I.xY p _ hk
     exact⟨o,e,ex⟩
    ·obtain⟨_,_,_,_,o,_,_,e,ex,_⟩:=I.xY p _ hk
     exact⟨o,e,ex⟩
   obtain⟨o,e,ex⟩:=z
   refine⟨⟨o,e,ex.1⟩,fun a e2=>?_⟩
   cases e2
   exact⟨o,e,ex.2.1⟩
  ·obtain⟨o,_,_,_,e,ex,_⟩:=I.xY p _ hk
   refine⟨⟨o,e,ex.1⟩,fun a e2=>?_⟩
   cases e2
   exact⟨o,e,ex.2.1⟩
 | _=>exact False.elim ty
noncomputable def Oq (K:Frag)(T:String)(r:V->List V->Hp->VK->Prop)(to:TE):TE:=fun σ H Q=>to σ H fun x H1=>Oo K T x H1/\r x [] H1 Q
noncomputable def tBM (K:Frag)(T:String)(r:V->List V->Hp->VK->Prop)(to:TE)(t:TA):TE:=fun σ H Q=>to σ H fun x H1=>Oo K T x H1/\t σ H1 fun xs H2=>r x xs H2 Q
variable {o e:Expr}{es:List Expr}{to:TE}{t:TA}{name:Str}{apos yH:Pos}{T id:String}{r:V->List V->Hp->VK->Prop}
theorem wB (pa:PlainAttrs T)(slot:Slot T name id)(Ot:typeOf (.builtin id)=pure (.type "method_descriptor"))(hm:Mq X id r)(ho:PE X o to)
  (Ct:autoParam (attributeBase o name X.env (eval o X.env)=eval o X.env) η) (Cu:autoParam ((apos.endLine == yH.line)=true) η):PE X (.Call (.Attribute o name apos) [] [] yH) (Oq X.K T r to):=by
 intro pins s σ H Q I h
 refine wpAny_Call_method0_late Ct Cu (bq (ho pins s σ H _ I h) fun v s1 xU=>?_)
 obtain⟨x,H1,I1,r1,ty,q1⟩:=xU
 obtain⟨h1,h2⟩:=qq I1 r1 ty
 exact⟨T,id,pa,slot,Ot,h1,h2,Calls.callWith_builtin rfl (PySem.evalArgs_none (hm pins s1 σ H1 x [] v [] Q I1 r1 .nil q1))⟩
theorem cp (pa:PlainAttrs T)(slot:Slot T name id)(Ot:typeOf (.builtin id)=pure (.type "method_descriptor"))(hm:Mq X id r)(ho:PE X o to)(ha:PA X (e :: es) t)
  (Ct:autoParam (attributeBase o name X.env (eval o X.env)=eval o X.env) η)
  (Aa:((backTo yH (starEach (e :: es) X.env)).all (fun x=>!x.1) && (backToKw yH (keywordEach [] X.env)).all (fun x=>x.1.isSome)
   && decide ((e :: es).length + ([]:List Keyword).length + (if ([]:List Keyword).isEmpty then 0 else 1) < 30))=true:=by rfl)
  (Cu:autoParam ((apos.endLine == yH.line)=true) η) (hs:autoParam (starEach (e :: es) X.env=(false,eval e X.env) :: starEach es X.env) η) (Fn:autoParam ((backTo yH (starEach es X.env)).any (·.1)=false) η) :
  PE X (.Call (.Attribute o name apos) (e :: es) [] yH) (tBM X.K T r to t):=by
 intro pins s σ H Q I h
 refine wpAny_Call_method_late Ct Aa Cu rfl (bq (ho pins s σ H _ I h) fun v s1 xU=>?_)
 obtain⟨x,H1,I1,r1,ty,q1⟩:=xU
 obtain⟨h1,h2⟩:=qq I1 r1 ty
 refine⟨T,id,pa,slot,Ot,h1,h2,?_⟩
 have hA:=ha yH pins s1 σ H1 _ I1 q1
 rw[hs]at hA ⊢
 refine Calls.callWith_builtin (by show(false || (backTo yH (starEach es X.env)).any (·.1))=false;rw[Fn]<;>rfl) (Calls.evalArgs_plain ?_)
 exact bq hA fun us s2 xU=>by obtain⟨vs,H2,I2,r2,q2⟩:=xU;exact hm pins s2 σ H2 x vs v us Q I2 r1 r2 q2
end
noncomputable def Ov (X:Cx)(id:String)(r:V->List V->Hp->VK->Prop):Prop :=
 ∀ (pins:List (Addr × Obj))(s:Shared)(σ:St)(H:Hp)(x:V)(xs:List V)(v:Value)(us:List Value)(Q:VK),Inv X pins σ H s->RelV x v->Vals xs us->r x xs H Q ->
  wpAny (model X.prog X.w) X.A (call (.builtin id) (v :: us)) (EP X pins σ Q) X.xe s
theorem Vals.one:∀ {x:V}{us:List Value},Vals [x] us->∃ u,us=[u]/\RelV x u:=by
 intro x us h
 cases h with
 | cons r t=>cases t;exact⟨_,rfl,r⟩
theorem Vals.two:∀ {x y:V}{us:List Value},Vals [x,y] us->∃ u v,us=[u,v]/\RelV x u/\RelV y v:=by
 intro x y us h
 cases h with
 | cons r t =>
  cases t with
  | cons q t2=>cases t2;exact⟨_,_,rfl,r,q⟩
theorem Vals.eraseIdx:∀ {xs:List V}{us:List Value}(i:Nat),Vals xs us->Vals (xs.eraseIdx i) (us.eraseIdx i)
 | _,_,_, .nil => .nil
 | _,_,0, .cons _ t=>t
 | _,_,i + 1, .cons r t => .cons r (Vals.eraseIdx i t)
theorem jQ {α:Type}:∀ (l:List α)(i:Nat),(l.eraseIdx i).length <= l.length
 | [],_=>le_refl _
 | _ :: _,0=>le_succ _
 | _ :: r,i + 1=>Nat.succ_le_succ (jQ r i)
section
variable {X:Cx}{pins:List (Addr × Obj)}{σ:St}{H:Hp}{s:Shared}{l b:Addr}{xs ys zs:List V}
theorem Inv.Fp {xT its':List Value}{n:Nat}{f:Array Value->Array Value}{t':Nat}(I:Inv X pins σ H s)(hH:H l=some (.lst xs))
  (e:s.heap.get? l=some { cls := .type "list",data := .seq xT.toArray n }) (hf:f xT.toArray=its'.toArray) (hv:Vals ys its') (hz:ys.length <= sizeLine) :
  Inv X pins σ (upd H l (.lst ys)) { s with heap:=s.heap.update l (Obj.mapSeq f),toks:=t' }:=by
 have q:=PySem.IsL.update e f
 rw[hf]at q
 refine I.write (x:=l) (e:=l) (by rw[hH];exact trivial) (.inl rfl) (fun b' u hb hu=>(Heap.get?_update_other s.heap (Obj.mapSeq f) (Ne.symm hb)).trans hu) ⟨_,q⟩ ?_
 exact⟨hz,its',_,hv,q⟩
theorem Inv.Ow {xT:List Value}{t':Nat}(I:Inv X pins σ H s)(hv:Vals ys xT)(hz:ys.length <= sizeLine) :
  Inv X pins σ (upd H s.heap.objs.size (.lst ys)) { s with heap:=s.heap.push { cls := .type "list",data := .seq xT.toArray },toks:=t' } :=
 I.laid (fun _ _ q=>Heap.get?_push_of_some _ q) (le_refl _) ⟨hz,xT,0,hv,Heap.get?_push_size _ rfl⟩
theorem Inv.fresh (I:Inv X pins σ H s):H s.heap.objs.size=none:=I.xY.fresh (le_refl _)
theorem Inv.AY (I:Inv X pins σ H s)(hH:H l=some (.lst xs)):xs.length <= sizeLine/\∃ (xT:List Value)(n:Nat),Vals xs xT/\xs.length=xT.length/\s.heap.get? l=some { cls := .type "list",data := .seq xT.toArray n }:=by
 obtain⟨z,xT,n,r,e⟩:=I.xY l _ hH
 exact⟨z,xT,n,r,r.length,e⟩
theorem rU {n:Nat}(h:n <= sizeLine):Builtin.List.listTooLong n=false:=by
 unfold Builtin.List.listTooLong
 exact decide_eq_false (by omega)
end
section
variable {X:Cx}
noncomputable def um:V->List V->Hp->VK->Prop:=fun x vs H Q=>∃ l xs y,x = .ref l/\vs=[y]/\H l=some (.lst xs)/\xs.length < sizeLine/\Q .yd (upd H l (.lst (xs ++ [y])))
theorem b0:Ov X "list.append" um:=by
 intro pins s σ H x vs v us Q I rx rv h
 obtain⟨l,xs,y,rfl,rfl,hH,hz,q⟩:=h
 cases rx
 obtain⟨u,rfl,ru⟩:=rv.one
 obtain⟨z,xT,n,r,hl,e⟩:=I.AY hH
 refine call_meets F.slot_list_append ⟨_,e,rfl⟩ F.entry_list_append (F.args_list_append_2 _ _) (PySem.list_append l xT.toArray n u (by rw[size_toArray];omega)) ⟨e,?_⟩
 refine⟨.yd,_,I.Fp (its':=xT ++ [u]) hH e (by simp) (r.append (.cons ru .nil)) ?_,rfl,q⟩
 rw[length_append,length_singleton]
 omega
noncomputable def uk:V->List V->Hp->VK->Prop:=fun x vs H Q=>∃ l b xs zs,x = .ref l/\vs=[.ref b]/\H l=some (.lst xs)/\H b=some (.lst zs)/\xs.length + zs.length <= sizeLine/\Q .yd (upd H l (.lst (xs ++ zs)))
theorem dN:Ov X "list.extend" uk:=by
 intro pins s σ H x vs v us Q I rx rv h
 obtain⟨l,b,xs,zs,rfl,rfl,hH,hB,hz,q⟩:=h
 cases rx
 obtain⟨u,rfl,ru⟩:=rv.one
 cases ru
 obtain⟨z,xT,n,r,hl,e⟩:=I.AY hH
 obtain⟨z2,ze,n2,r2,zI,e2⟩:=I.AY hB
 have hsz:xT.toArray.size + ze.toArray.size <= sizeLine:=by rw[size_toArray,size_toArray];omega
 have IB:¬ (!xT.toArray.isEmpty && Builtin.List.listTooLong (xT.toArray.size + ze.toArray.size))=true:=by
  rw[rU hsz,Bool.and_false]
  exact Bool.false_ne_true
 refine call_meets F.slot_list_extend ⟨_,e,rfl⟩ F.entry_list_extend (F.args_list_extend_2 _ _)
  (AutoSeq1.list_extend_list_list_0 l xT.toArray n b ze.toArray n2 IB (by rw[size_toArray];omega) (by omega)) ⟨e,e2,?_⟩
 refine⟨.yd,_,I.Fp (its':=xT ++ ze) hH e (by simp) (r.append r2) ?_,rfl,q⟩
 rw[length_append]
 omega
noncomputable def w6:V->List V->Hp->VK->Prop:=fun x vs H Q=>∃ l xs i k y,x = .ref l/\vs=[.int i]/\H l=some (.lst xs)/\-(2 ^ 63) <= i/\i < 2 ^ 63/\seqIndex? i xs.length=some k/\xs[k]? = some y/\Q y (upd H l (.lst (xs.eraseIdx k)))
theorem rW:Ov X "list.pop" w6:=by
 intro pins s σ H x vs v us Q I rx rv h
 obtain⟨l,xs,i,k,y,rfl,rfl,hH,h1,h2,hk,hy,q⟩:=h
 cases rx
 obtain⟨u,rfl,ru⟩:=rv.one
 obtain⟨t,rfl⟩:=ru
 obtain⟨z,xT,n,r,hl,e⟩:=I.AY hH
 obtain⟨w,hw,Dk⟩:=r.get hy
 refine call_meets F.slot_list_pop ⟨_,e,rfl⟩ F.entry_list_pop (F.args_list_pop_2 _ _)
  (MeetsSeq.list_pop_at l xT.toArray n i t k w (fitsIndex_both h1 h2) (by rw[size_toArray,← hl];exact hk) (by rw[← Array.getElem?_toList];exact hw) (by rw[size_toArray];omega)) ⟨e,?_⟩
 refine⟨y,_,I.Fp (its':=xT.eraseIdx k) hH e ?_ (r.eraseIdx k) ?_,Dk,q⟩
 ·show xT.toArray.eraseIdxIfInBounds k=(xT.eraseIdx k).toArray
  rw[List.eraseIdxIfInBounds_toArray]
 ·have:=jQ xs k
  omega
noncomputable def Ox:R2:=fun x y H Q=>∃ l b xs zs,x = .ref l/\y = .ref b/\H l=some (.lst xs)/\H b=some (.lst zs)/\xs.length + zs.length <= sizeLine/\∀ p,H p=none->Q (.ref p) (upd H p (.lst (xs ++ zs)))
theorem jf:dH X (binaryOp .Add) Ox:=by
 intro pins s σ H x y v u Q I rx ry h
 obtain⟨l,b,xs,zs,rfl,rfl,hH,hB,hz,q⟩:=h
 cases rx
 cases ry
 obtain⟨z,xT,n,r,hl,e⟩:=I.AY hH
 obtain⟨z2,ze,n2,r2,zI,e2⟩:=I.AY hB
 refine PySem.P.add_list e e2 ?_ (by rw[size_toArray,size_toArray];omega)
 have ea:xT.toArray ++ ze.toArray=(xT ++ ze).toArray:=by simp
 rw[ea]
 exact⟨.ref _,_,I.Ow (t':=s.toks) (r.append r2) (by rw[length_append];omega),rfl,q _ I.fresh⟩
end
section
variable {prog:Program}{w:World}{A:Around}{E:Value->Shared->Prop}{s:Shared}
set_option maxRecDepth 100000 in
end
section
variable {X:Cx}
end
end L2
namespace S6
open PySem PySem.W PySem.Calls PyProof.Rows
theorem i4 {P:Params}{h:Heap}:∀ (ns:List Int)(vs:List Value),WellAll P h vs (ns.map WData.int)->IntsAre vs ns:=by
 intro ns
 induction ns with
 | nil =>
  intro vs w
  rw[map_nil]at w
  cases w
  exact .nil
 | cons n ns ih =>
  intro vs w
  rw[map_cons]at w
  cases w with
  | cons a b =>
   cases a
   exact .cons _ _ (ih _ b)
theorem pC {l:OpenLaw}{n:Nat}(hn:l.most=some n){P:Params}{h:Heap}{args:List WData}{vals:List Value}
  (Dn:l.row.toRowW.claim.pre args=true) (CU:WellAll P h vals args) :
  ∃ a vs ns,vals=[Value.ref a]/\args=[WData.list (ns.map WData.int)]/\h.get? a=some { cls := .type "list",data := .seq vs.toArray }/\IntsAre vs ns/\ns.length <= n:=by
 have hsh:WShape.hasAll [] args [.list .int]=true:=(pre_splitW Dn).1
 have hc:l.pre.holds [] { args:=args } = true:=(pre_splitW Dn).2
 obtain⟨d,r,rfl,h1,h2⟩:=hasAllW_cons hsh
 obtain rfl:=hasAllW_nil h2
 obtain⟨xs,rfl,h3⟩:=hasW_list h1
 obtain⟨ns,rfl⟩:=items_int h3
 have hlen:ns.length <= n:=by
  unfold OpenLaw.pre at hc
  have h4:(WTm.not (.lt (.lit (.int (n:Int))) (.len (.arg 0)))).holds [] { args:=[.list (ns.map .int)] } = true:=by
   have h4:=(holds_andW hc).1
   rw[hn]at h4
   exact h4
  have h5:=condW_of h4 (w_not (w_lt w_lit (w_len_list (w_arg rfl))))
  rw[length_map]at h5
  refine Nat.le_of_not_lt fun q=>?_
  have q':(n:Int) < ((ns.length:Nat):Int):=by omega
  first
   | (rw[decide_eq_true q']at h5;exact absurd h5 (by decide))
   | (simp at h5;omega)
 cases CU with
 | cons w1 w2 =>
  cases w2
  cases w1 with
  | list ho zy=>exact⟨_,_,ns,rfl,rfl,ho,i4 ns _ zy,hlen⟩
theorem pG (l:OpenLaw)(args:List WData):l.row.toRowW.claim.post args (.bool true) args=true :=
 postW_of (r:=l.row.toRowW) (X:=(true == true))
  (show WShape.has [] (.bool true) .bool=true by first | rfl | decide | simp[WShape.has,WShape.arms,WShape.armsAll])
  (show(WTm.eq .res (.lit (.bool true))).value [] { args:=args,res:=some (.bool true),after:=args } = some (.bool (true == true)) from w_eq_bool (w_res rfl) w_lit) rfl
theorem AG {l:OpenLaw}{n:Nat}{q:Program}{loose:List Str}{XP:(Str->Option Value)->Heap->Prop}{YP:World->Heap->Prop}{d:DefRec}
  (hn:l.most=some n) (IC:d.params.defaults=[])
  (call:∀ (w:World)(s₀ s₁:Shared)(mg mb:Str->Option Value)(fa:Addr)(o:Obj)(pm cd doc:Value)(a:Addr)(vs:List Value)(ns:List Int),
   Ground q loose [] XP w s₀ mg mb s₁.heap->YP w s₁.heap ->
   s₁.heap.get? fa=some o->o.data = .func (docDef d.name d.params d.body d.scope pm cd doc)->s₁.heap.CodeRec cd d.name->mg d.name=some (.ref fa) ->
   s₁.heap.get? a=some { cls := .type "list",data := .seq vs.toArray }->IntsAre vs ns->ns.length <= n->s₁.gens = #[] ->
   codeAny (model l.prog w) callerA (.call (.ref fa) ⟨[.ref a],[]⟩) (fun r s'=>r = .ok (.ret (.bool true))/\OldK s₁.heap s'.heap/\s'.os=s₁.os/\AllBare s'.gens) s₁) :
  WalkO q loose XP YP l.row.toRowW d [] (fun f vs=>PySem.call f vs):=by
 intro w s₀ s₁ mg mb G Y fa o pm cd doc dV kV ho hd BC hD hmg hg args vals as Dn hlay hrd CU hlo
 obtain rfl:dV = .none:=Dflts.none hD IC
 obtain rfl:kV = .none:=Dflts.noKw hD
 obtain⟨a,vs,ns,rfl,rfl,Fq,hints,hlen⟩:=pC hn Dn CU
 refine enter_call (codeAny_mono (call w s₀ s₁ mg mb fa o pm cd doc a vs ns G Y ho (fd_plain hd) BC hmg Fq hints hlen hg) fun r s' hq=>?_)
 obtain⟨rfl,h2,h3,h4⟩:=hq
 exact⟨.inl ⟨.bool true, .bool true,[],rfl,fun _=>rfl, .bool true,pG l _,fun _=>⟨List.Pairwise.nil,fun _ hm=>(nomatch hm)⟩⟩,h2,h3,h4⟩
section
variable {prog:Program}{w:World}{A:Around}{E:Value->Shared->Prop}{s:Shared}{K:Frag}
end
end S6
namespace L2
open PySem PySem.Spec PyProof.Rows
theorem jB:∀ {vs:List Value}{ns:List Int},IntsAre vs ns->Vals (ns.map V.int) vs
 | _,_, .nil => .nil
 | _,_, .cons n t h => .cons ⟨t,rfl⟩ (jB h)
noncomputable def xG (H:Hp):Prop:=∀ b,H b=none∨∃ o xs,H b=some (.yW o (.lst xs))
theorem sy {P:Program}{w:World}{K:Frag}{mg mb:Str->Option Value}{CX:qi}{k:Nat}{fa a:Addr}{fd:FuncData}{x:Str}{sp:Sp}{s₁:Shared}{vs:List Value}{ns:List Int}
  (KX:K.In s₁.heap) (GX:s₁.heap.Ns mainGlobals mg) (hb:s₁.heap.Ns builtinsNs mb) (Ft:∀ x:Str,x ≠ "__name__"->mb x=bootBuiltins x) (Oy:s₁.heap.NoLimit) (hg:s₁.gens = #[])
  (ha:s₁.heap.get? a=some { cls := .type "list",data := .seq vs.toArray }) (hi:IntsAre vs ns) (hl:ns.length <= sizeLine) (hr:ya k callerA)
  (F:∀ base:Heap,K.In base->base.Ns mainGlobals mg->xO P w K mg base CX k fa fd [x] sp) (ID:∀ (s:Shared)(u:Value),BindsTo s fd ⟨[u],[]⟩ [(x,u)])
  (CT:∀ H:Hp,xG H->xS K H a (ns.map V.int)->sp [.ref a] H (fun v _=>v = .bl true) fun _ _ _=>False)
  (Oz:∀ H e s',CX [] H s₁ (fun _ _ _=>False) e s'->False) :
  codeAny (model P w) callerA (.call (.ref fa) ⟨[.ref a],[]⟩) (fun r s'=>r = .ok (.ret (.bool true))/\OldK s₁.heap s'.heap/\s'.os=s₁.os/\AllBare s'.gens) s₁:=by
 have rv:=jB hi
 have O0:=hi.length
 have core:∀ H:Hp,xG H->xS K H a (ns.map V.int)->zk P w H s₁.heap->(∀ b,H b ≠ none->b=a)->(H a ≠ none->K.lookup a=none) ->
   codeAny (model P w) callerA (.call (.ref fa) ⟨[.ref a],[]⟩) (fun r s'=>r = .ok (.ret (.bool true))/\OldK s₁.heap s'.heap/\s'.os=s₁.os/\AllBare s'.gens) s₁:=by
  intro H hO hS xY hA hK
  have base_of:∀ {b:Addr}{o:Obj},s₁.heap.get? b=some o->H b=none->(kX s₁.heap H).get? b=some o:=fun e n=>sE e n
  have Iv:∀ {b:Addr}{o:Obj}{es:Array DictEntry}{ep:Nat},s₁.heap.get? b=some o->o.data = .dict es ep->H b=none:=fun {b o es ep} e d=>by
   cases q:H b with
   | none=>rfl
   | some u =>
    have e':b=a:=hA b (by rw[q];simp)
    subst e'
    rw[ha]at e;cases e
    have d':Data.seq vs.toArray _=Data.dict es ep:=d
    cases d'
  have Ms:∀ {b:Addr}{m:Str->Option Value},s₁.heap.Ns b m->(kX s₁.heap H).Ns b m:=fun {b m} ⟨o,es,ep,e,d,r⟩=>⟨o,es,ep,base_of e (Iv e d),d,r⟩
  have S7:K.In (kX s₁.heap H):=fun b o e=>base_of (KX b o e) (by
   cases q:H b with
   | none=>rfl
   | some u =>
    have e':b=a:=hA b (by rw[q];simp)
    subst e'
    rw[hK (by rw[q];simp)]at e;cases e)
  have hM:Mod K mg (kX s₁.heap H):=⟨S7,Ms GX,⟨mb,Ms hb,Ft⟩,let ⟨mc,h1,h2⟩:=Oy; ⟨mc,Ms h1,h2⟩⟩
  have e0:AX P w K mg (kX s₁.heap H) callerA [] s₁ H:=⟨rfl,hM,fun b o e=>uJ e,le_of_eq (pV _ _),trivial,fun b hb=>absurd (show b ∈ ([]:List Addr) from hb) (by simp),xY, .of_eq hg⟩
  refine codeAny_mono ((F _ S7 (Ms GX)).run callerA [] s₁ H ⟨[.ref a],[]⟩ [.ref a] [.ref a] _ _ hr e0 (ID s₁ (.ref a)) (.cons rfl .nil) (CT H hO hS)) fun r s' h=>?_
  cases r with
  | error e=>exact(Oz H e s' h).elim
  | ok fl =>
   cases fl with
   | next=>exact False.elim h
   | brk=>exact False.elim h
   | cont=>exact False.elim h
   | ret u =>
    obtain⟨v,H',os,bare,un,O1,r',q⟩:=h
    have q':v = .bl true:=q
    subst q'
    obtain rfl:u=Value.bool true:=r'
    refine⟨rfl,OldK.of_keep fun b o e=>?_,os,bare⟩
    cases q:H b with
    | none=>exact un.keep b o e q (by intro z;exact absurd (show b ∈ ([]:List Addr) from z) (by simp)) (by simp)
    | some u =>
     rcases hO b with z | ⟨ob,xs,z⟩
     ·rw[q]at z;cases z
     ·have z2:=un.zG b ob _ z
      obtain⟨e1,_⟩:=xY b _ z
      obtain⟨e2,_⟩:=O1 b _ z2
      rw[e]at e1;cases e1
      exact e2
 cases hk:K.lookup a with
 | some o =>
  have e:=KX a o hk
  rw[ha]at e
  cases e
  refine core (fun _=>none) (fun _ => .inl rfl) (.inr ⟨_,vs.toArray,_,hk,rfl,rfl,rfl,by rw[size_toArray,O0];exact hl,by simpa using rv⟩) (fun b u z=>by have z':(none:Option HO)=some u:=z;cases z') (fun b z=>absurd rfl z) fun z=>absurd rfl z
 | none =>
  refine core (fun b=>if b=a then some (.yW { cls := .type "list",data := .seq vs.toArray } (.lst (ns.map V.int))) else none) (fun b=>?_) (.inl (.inr ⟨{ cls := .type "list",data := .seq vs.toArray },if_pos rfl⟩)) (fun b u z=>?_) (fun b z=>?_) fun _=>hk
  ·by_cases hb:b=a
   ·exact .inr ⟨_,_,if_pos hb⟩
   ·exact .inl (if_neg hb)
  ·by_cases hb:b=a
   ·have z':=(if_pos hb).symm.trans z
    cases z'
    subst hb
    exact⟨ha,by rw[length_map];exact hl,vs,_,rv,ha⟩
   ·have z':=(if_neg hb).symm.trans z
    cases z'
  ·by_cases hb:b=a
   ·exact hb
   ·exact absurd (if_neg hb) z
theorem Dp {l:PySem.W.OpenLaw}{n k:Nat}{q:Program}{loose:List Str}{XP:(Str->Option Value)->Heap->Prop}{YP:World->Heap->Prop}{d:DefRec}{K:Params->Frag}{CX:World->qi}{sp:World->Sp}{x:Str}
  (hn:l.most=some n) (Mj:n <= sizeLine) (IC:d.params.defaults=[]) (hr:ya k callerA)
  (hY:∀ (w:World)(h:Heap),YP w h->(K w.params).In h)
  (F:∀ (w:World)(mg:Str->Option Value)(fa:Addr)(h:Heap),(K w.params).In h->h.Ns mainGlobals mg->mg d.name=some (.ref fa) ->
   ∃ fd:FuncData,(∀ (s:Shared)(u:Value),BindsTo s fd ⟨[u],[]⟩ [(x,u)]) /\
    ∀ base:Heap,(K w.params).In base->base.Ns mainGlobals mg->xO l.prog w (K w.params) mg base (CX w) k fa fd [x] (sp w))
  (CT:∀ (w:World)(H:Hp)(a:Addr)(ns:List Int),ns.length <= n->xG H->xS (K w.params) H a (ns.map V.int)->sp w [.ref a] H (fun v _=>v = .bl true) fun _ _ _=>False)
  (Oz:∀ (w:World)(H:Hp)(s:Shared)(e:Value)(s':Shared),CX w [] H s (fun _ _ _=>False) e s'->False) :
  PySem.W.WalkO q loose XP YP l.row.toRowW d [] (fun f vs=>PySem.call f vs):=by
 refine S6.AG hn IC fun w s₀ s₁ mg mb fa o pm cd doc a vs ns G Y ho hd BC hmg Fq hints hlen hg=>?_
 have KX:=hY w _ Y
 obtain⟨fd,hb,hF⟩:=F w mg fa _ KX G.T.g hmg
 exact sy KX G.T.g G.T.b G.T.builtins G.T.nolimit hg Fq hints (le_trans hlen Mj) hr hF hb (fun H hO hS=>CT w H a ns hlen hO hS) fun H e s'=>Oz w H s₁ e s'
noncomputable def aM (s:Stmt)(j:Nat):Stmt:=match s with
 | .ClassDef _ _ _ body _ _ _ _ _ _ _=>body.getD j (.Pass ⟨0,0,0,0⟩)
 | _ => .Pass ⟨0,0,0,0⟩
noncomputable def bJ (s:Stmt):Arguments:=match s with
 | .FunctionDef _ a _ _ _ _ _ _ _ _=>a
 | _=>{ posonlyargs:=[],args:=[],vararg:=none,kwonlyargs:=[],kw_defaults:=[],kwarg:=none,defaults:=[] }
noncomputable def aG (s:Stmt):List Stmt:=match s with
 | .FunctionDef _ _ b _ _ _ _ _ _ _=>b
 | _=>[]
noncomputable def al (s:Stmt):Scope:=match s with
 | .FunctionDef _ _ _ _ _ _ sc _ _ _=>sc
 | _=>zQ0
abbrev aF:qi:=fun _ _ _ _ _ _=>False
abbrev E0:XK:=fun _ _ _=>False
theorem ap {X:Cx}:eT aF X E0:=fun _ _ _ _ _ _ _ h=>h.elim
structure yn (K:Frag)(x qual:Str)(st:Stmt)(f:Addr)(fd:FuncData):Prop where
 ex:∃ (oc:Value)(od:Option Addr)(kV doc pm:Value)(an:Option Addr)(cdv ct:Value)(Bl:Array (Option Value)),
  fd=fnOf x qual (bJ st) (aG st) (al st) .none kV doc pm an cdv ct/\K.lookup f=some ⟨oc,od, .func fd,Bl⟩/\codeIn K cdv qual=true
 kp:keepIn K (.ref f)=true
section
variable {P:Program}{w:World}{K:Frag}{mg:Str->Option Value}{base:Heap}
theorem yn.ok {x qual:Str}{st:Stmt}{f:Addr}{fd:FuncData}{N ps:List Str}{k:Nat}{sp:Sp}(F:yn K x qual st f fd)(S:ar N ps (al st))(len:∀ vs H Q E,sp vs H Q E->vs.length=ps.length)
  (AF:∀ (cdv:Value)(A:Around)(outer:List Env)(s:Shared)(H:Hp)(vs:List V)(Q:VK)(E:XK),ya k (A.deeper (envOfC qual (al st) s.heap.objs.size f cdv))->sp vs H Q E ->
   ∃ t,BB (nJ aF P w K mg base N qual (al st) f cdv A outer s H E).GP (aG st) t/\t { nx:=fun _ H'=>Q .yd H',rt:=Q } (start N vs) H):xO P w K mg base aF (k + 1) f fd ps sp:=by
 obtain⟨oc,od,kV,doc,pm,an,cdv,ct,Bl,rfl,lk,BC⟩:=F.ex
 refine vJ lk BC S len fun A outer s H vs Q E hr CT=>?_
 obtain⟨t,h,q⟩:=AF cdv A outer s H vs Q E hr CT
 exact⟨t,h.GP,q⟩
theorem yn.binds {x qual:Str}{st:Stmt}{f:Addr}{fd:FuncData}{ps:List Str}(F:yn K x qual st f fd)
  (h:∀ (kV doc pm:Value)(an:Option Addr)(cdv ct:Value)(us:List Value),us.length=ps.length->bindArgs (fnOf x qual (bJ st) (aG st) (al st) .none kV doc pm an cdv ct) ⟨us,[]⟩ = pure (ps.zip us)):Binds K fd ps []:=by
 obtain⟨oc,od,kV,doc,pm,an,cdv,ct,Bl,rfl,lk,BC⟩:=F.ex
 exact .all (h kV doc pm an cdv ct)
theorem jt {x qual:Str}{st:Stmt}{f:Addr}{oc:Value}{od an:Option Addr}{Bl:Array (Option Value)}{kV doc pm cdv ct:Value}(l:K.lookup f=some ⟨oc,od, .func (fnOf x qual (bJ st) (aG st) (al st) .none kV doc pm an cdv ct),Bl⟩)
  (c:codeIn K cdv qual=true) (k:keepIn K (.ref f)=true):yn K x qual st f (fnOf x qual (bJ st) (aG st) (al st) .none kV doc pm an cdv ct):=⟨⟨oc,od,kV,doc,pm,an,cdv,ct,Bl,rfl,l,c⟩,k⟩
end
theorem vH {A:Around}{k:Nat}(hr:ya k A):A.units + 1 < cLine:=lt_of_le_of_lt (Nat.add_le_add_left (by decide:1 <= 64) _) hr.units
section
variable {X:Cx}
theorem pv (i:Nat){x:Str}{pos:Pos}(hN:autoParam (X.N[i]? = some x) η)(hv:ND X.env.scope x:=by first | exact Or.inl rfl | exact Or.inr (Or.inl rfl) | exact Or.inr (Or.inr rfl))(hd:autoParam ((x == ("__debug__":Str))=false) θ)
  (BC:autoParam ((x == ("__classdict__":Str))=false) θ):PE X (.Name x pos) (lj i):=wA hN hv hd BC
end
theorem aJ {A B:Prop}(h:B):if false=true then A else B:=by
 rw[if_neg Bool.false_ne_true]
 exact h
theorem aN {A B:Prop}(h:A):if true=true then A else B:=by
 rw[if_pos rfl]
 exact h
theorem IE {c A B:Prop} [Decidable c] (h1:c->A) (h2:¬ c->B):if c then A else B:=by
 by_cases h:c
 ·rw[if_pos h]
  exact h1 h
 ·rw[if_neg h]
  exact h2 h
noncomputable def xN (H H':Hp):Prop:=∀ b o,H b=some o->H' b=some o
theorem xN.refl (H:Hp):xN H H:=fun _ _ h=>h
theorem xN.trans {H H1 H2:Hp}(a:xN H H1)(b:xN H1 H2):xN H H2:=fun c o h=>b c o (a c o h)
theorem xN.free {H H':Hp}(e:xN H H'){l:Addr}(h:H' l=Option.none):H l=Option.none:=by
 cases q:H l with
 | none=>rfl
 | some o =>
  rw[e l o q]at h
  cases h
theorem xN.seq {K:Frag}{H H':Hp}{a:Addr}{xs:List V}(e:xN H H')(h:xS K H a xs):xS K H' a xs:=by
 rcases h with (h | ⟨o,h⟩) | h
 ·exact .inl (.inl (e _ _ h))
 ·exact .inl (.inr ⟨o,e _ _ h⟩)
 ·exact .inr h
end L2
namespace Yd
open PySem
theorem nM (a b:Nat):Builtin.bitAnd (a:Int) (b:Int)=((a &&& b:Nat):Int):=by
 unfold Builtin.bitAnd
 simp
theorem cU (x:Int):Builtin.bitNot x = -x - 1:=by
 unfold Builtin.bitNot
 omega
theorem BF (a b:Nat):Builtin.bitOr (a:Int) (b:Int)=((a ||| b:Nat):Int):=by
 unfold Builtin.bitOr
 have h1:Builtin.bitNot (a:Int) = -(a:Int) - 1:=cU _
 have h2:Builtin.bitNot (b:Int) = -(b:Int) - 1:=cU _
 unfold Builtin.bitAnd
 rw[h1,h2]
 have e1:decide (0 <= -(a:Int) - 1)=false:=decide_eq_false (by omega)
 have e2:decide (0 <= -(b:Int) - 1)=false:=decide_eq_false (by omega)
 rw[e1,e2]
 simp only[]
 have e3:Builtin.bitNot (-(a:Int) - 1)=a:=by rw[cU];omega
 have e4:Builtin.bitNot (-(b:Int) - 1)=b:=by rw[cU];omega
 rw[e3,e4]
 simp only[toNat_natCast]
 rw[cU,cU]
 omega
noncomputable def yJ:List Nat->Nat->Nat
 | [],s=>s
 | n :: r,s=>yJ r (s ||| 2 ^ n)
theorem zf (k:Nat):∀ (l:List Nat)(s:Nat),(yJ l s).testBit k=(s.testBit k || decide (k ∈ l))
 | [],s=>by simp[yJ]
 | n :: r,s=>by
  unfold yJ
  rw[zf k r]
  rw[Nat.testBit_or,Nat.testBit_two_pow]
  by_cases h:n=k
  ·subst h;simp
  ·have:¬ k=n:=fun z=>h z.symm
   simp[h,this]
theorem Cv (l r:List Nat)(s:Nat):yJ (l ++ r) s=yJ r (yJ l s):=by
 induction l generalizing s with
 | nil=>rfl
 | cons n t ih=>exact ih _
noncomputable def j8 (l:List Nat):Nat->Nat
 | 0=>0
 | n + 1=>if n ∈ l then j8 l n + 2 ^ n else j8 l n
theorem Ap (l:List Nat):∀ n,j8 l n < 2 ^ n
 | 0=>by simp[j8]
 | n + 1=>by
  have:=Ap l n
  unfold j8
  rw[Nat.pow_succ]
  split<;>omega
theorem lP (l:List Nat)(k:Nat):∀ n,(j8 l n).testBit k=decide (k < n/\k ∈ l)
 | 0=>by simp[j8]
 | n + 1=>by
  have ih:=lP l k n
  have yu:=Ap l n
  unfold j8
  by_cases hn:n ∈ l
  ·rw[if_pos hn,Nat.add_comm]
   rcases Nat.lt_trichotomy k n with h | h | h
   ·rw[Nat.testBit_two_pow_add_gt h,ih]
    simp[h,Nat.lt_succ_of_lt h]
   ·subst h
    rw[Nat.testBit_two_pow_add_eq,testBit_lt_two_pow yu]
    simp[hn]
   ·have hb:2 ^ n + j8 l n < 2 ^ k:=by
     have:2 ^ (n + 1) <= 2 ^ k:=pow_le_pow_right (by decide) h
     rw[Nat.pow_succ]at this
     omega
    rw[testBit_lt_two_pow hb]
    have:¬ k < n + 1:=by omega
    simp[this]
  ·rw[if_neg hn,ih]
   by_cases h:k=n
   ·subst h;simp[hn]
   ·have:k < n↔k < n + 1:=by omega
    simp[this]
theorem Dq {l:List Nat}{n:Nat}(h:∀ k ∈ l,k < n):j8 l n=yJ l 0:=by
 apply Nat.eq_of_testBit_eq
 intro k
 rw[lP,zf]
 by_cases hk:k ∈ l
 ·simp[hk,h k hk]
 ·simp[hk]
noncomputable def Dr (m b:Nat):List Nat:=(List.range b).filter fun k=>m.testBit k
theorem Cw {m b k:Nat}(h:m < 2 ^ b):k ∈ Dr m b↔m.testBit k=true:=by
 unfold Dr
 rw[mem_filter,mem_range]
 constructor
 ·exact fun z=>z.2
 ·intro z
  refine⟨?_,z⟩
  by_cases hk:k < b
  ·exact hk
  ·have:m < 2 ^ k:=lt_of_lt_of_le h (pow_le_pow_right (by decide) (by omega))
   rw[testBit_lt_two_pow this]at z
   cases z
theorem Ds (m:Nat):m < 2 ^ (Builtin.Int.intBits (m:Int)):=by
 unfold Builtin.Int.intBits
 by_cases h:m=0
 ·subst h;simp
 ·have e:((m:Int) == 0)=false:=by simp[h]
  rw[e]
  simp only[Bool.false_eq_true,if_false,Int.natAbs_natCast]
  exact Nat.lt_log2_self
theorem bits_le {m b:Nat}(h:m < 2 ^ b):Builtin.Int.intBits (m:Int) <= b:=by
 unfold Builtin.Int.intBits
 by_cases h0:m=0
 ·subst h0;simp
 ·have e:((m:Int) == 0)=false:=by simp[h0]
  rw[e]
  simp only[Bool.false_eq_true,if_false,Int.natAbs_natCast]
  have:=(Nat.log2_lt h0).mpr h
  omega
theorem Bm (m k:Nat):decide (Builtin.bitAnd ((m:Int) / 2 ^ k) 1=1)=m.testBit k:=by
 have e:((m:Int) / 2 ^ k)=((m / 2 ^ k:Nat):Int):=by
  rw[Int.natCast_ediv,Int.natCast_pow]
  rfl
 rw[e,show (1:Int)=((1:Nat):Int) from rfl,nM,Nat.testBit_eq_decide_div_mod_eq]
 rw[Nat.and_one_is_mod]
 congr 1
 exact propext ⟨fun z=>by exact_mod_cast z,fun z=>by exact_mod_cast z⟩
end Yd
namespace L2
open PySem PySem.Spec PyProof.Rows
noncomputable def bZ (cells:List (Str × Addr)):List (Str × NameKind)->List (Str × Addr)->List (Str × Addr)
 | [],acc=>acc
 | (n,k) :: r,acc=>if k == .free then bZ cells r ((n,(cells.lookup n).getD 0) :: acc) else bZ cells r acc
theorem fF {scope:Scope}{env:Env}(h:∀ y ∈ scope.names,y.2 = .free->∃ c,env.cells.lookup y.1=some c) :
  closureFor scope env=pure (bZ env.cells scope.names []):=by
 unfold closureFor
 have key:∀ (names:List (Str × NameKind))(acc:List (Str × Addr)),(∀ y ∈ names,y.2 = .free->∃ c,env.cells.lookup y.1=some c) ->
   (forIn names acc fun (x:Str × NameKind)(cs:List (Str × Addr))=>(match x with
    | (name,kind)=>if (kind == NameKind.free)=true then do
      let c ← cellOf env name
      pure (ForInStep.yield ((name,c) :: cs))
     else pure (ForInStep.yield cs):Sem (ForInStep (List (Str × Addr)))))=(pure (bZ env.cells names acc):Sem (List (Str × Addr))):=by
  intro names
  induction names with
  | nil=>intro acc _;rfl
  | cons y r ih =>
   intro acc hy
   obtain⟨n,k⟩:=y
   rw[forIn_cons]
   by_cases hk:(k == NameKind.free)=true
   ·obtain⟨c,hc⟩:=hy (n,k) mem_cons_self (by simpa using hk)
    have e1:cellOf env n=pure c:=by
     unfold cellOf
     simp only[]at hc
     rw[hc]
    simp only[hk,if_true,e1,pure_bind]
    rw[ih _ fun z hz=>hy z (mem_cons_of_mem _ hz)]
    unfold bZ
    simp only[]at hc
    rw[if_pos hk,hc]
    conv=>rhs;unfold bZ
    rfl
   ·simp only[hk,Bool.false_eq_true,if_false,pure_bind]
    rw[ih _ fun z hz=>hy z (mem_cons_of_mem _ hz)]
    conv=>rhs;unfold bZ
    rw[if_neg hk]
 exact(congrArg (fun (m:Sem (List (Str × Addr)))=>m >>= fun z=>pure z) (key scope.names [] h)).trans (pure_bind _ _)
theorem dG {cells:List (Str × Addr)}{x:Str}{c:Addr}:∀ (names:List (Str × NameKind))(acc:List (Str × Addr)),(∀ y ∈ names,y.2 = .free->∃ c,cells.lookup y.1=some c) ->
  (∀ c,acc.lookup x=some c->cells.lookup x=some c)->(bZ cells names acc).lookup x=some c->cells.lookup x=some c
 | [],acc,_,ha,e=>ha c e
 | (n,k) :: r,acc,hn,ha,e=>by
  unfold bZ at e
  have hr:=fun z hz=>hn z (mem_cons_of_mem _ hz)
  split at e
  ·rename_i hk
   refine dG r _ hr (fun c' e'=>?_) e
   rw[lookup_cons]at e'
   split at e'
   ·rename_i hx
    have Ce:x=n:=by simpa using hx
    subst Ce
    obtain⟨c0,Fu⟩:=hn (x,k) mem_cons_self (by simpa using hk)
    simp only[]at Fu
    rw[Fu]at e' ⊢
    exact e'
   ·exact ha c' e'
  ·exact dG r acc hr ha e
theorem eA {cells:List (Str × Addr)}{x:Str}:∀ (names:List (Str × NameKind))(acc:List (Str × Addr)),((x,NameKind.free) ∈ names∨∃ c,acc.lookup x=some c) ->
  ∃ c,(bZ cells names acc).lookup x=some c
 | [],acc,h=>by
  rcases h with h | h
  ·cases h
  ·exact h
 | (n,k) :: r,acc,h=>by
  unfold bZ
  split
  ·rename_i hk
   refine eA r _ ?_
   rcases h with h | ⟨c,h⟩
   ·rcases mem_cons.mp h with h | h
    ·refine .inr ⟨(cells.lookup n).getD 0,?_⟩
     injection h with h1 h2
     rw[lookup_cons,h1]
     simp
    ·exact .inl h
   ·refine .inr ?_
    rw[lookup_cons]
    split
    ·exact⟨_,rfl⟩
    ·exact⟨c,h⟩
  ·rename_i hk
   refine eA r _ ?_
   rcases h with h | h
   ·rcases mem_cons.mp h with h | h
    ·injection h with h1 h2
     subst h2
     exact absurd rfl hk
    ·exact .inl h
   ·exact .inr h
theorem gi {env:Env}{x:Str}:∀ {names:List (Str × NameKind)},names.lookup x=some .free ->
  (names.map fun (n,k)=>if (k == NameKind.free && env.scope.kind == .function && env.kindOf n == some .cell) then (n,NameKind.cell) else (n,k)).lookup x=some .cell ∨
  (names.map fun (n,k)=>if (k == NameKind.free && env.scope.kind == .function && env.kindOf n == some .cell) then (n,NameKind.cell) else (n,k)).lookup x=some .free
 | [],h=>by simp at h
 | (n,k) :: r,h=>by
  have ih:=@gi env x r
  rw[map_cons]
  cases hx:x == n with
  | true =>
   rw[lookup_cons,hx]at h
   cases h
   simp only[]
   split
   ·left;rw[lookup_cons,hx]
   ·right;rw[lookup_cons,hx]
  | false =>
   rw[lookup_cons,hx]at h
   simp only[]
   split
   ·rw[lookup_cons,hx];exact ih h
   ·rw[lookup_cons,hx];exact ih h
theorem eJ {env:Env}{x:Str}{k:NameKind}(hk:k = .cell∨k = .free):∀ {names:List (Str × NameKind)},(∀ y ∈ names,y.2 ≠ .cell) ->
  (names.map fun (n,k)=>if (k == NameKind.free && env.scope.kind == .function && env.kindOf n == some .cell) then (n,NameKind.cell) else (n,k)).lookup x=some k->(x,NameKind.free) ∈ names
 | [],_,h=>by simp at h
 | (n,k') :: r,hc,h=>by
  have ih:=@eJ env x k hk r fun y hy=>hc y (mem_cons_of_mem _ hy)
  rw[map_cons]at h
  simp only[]at h
  cases hx:x == n with
  | true =>
   have e:x=n:=by simpa using hx
   subst e
   split at h
   ·rename_i q
    have q':k' = .free:=by
     have:=(Bool.and_eq_true _ _ ▸ q:_/\_).1
     have:=(Bool.and_eq_true _ _ ▸ this:_/\_).1
     simpa using this
    rw[q']
    exact mem_cons_self
   ·rw[lookup_cons,hx]at h
    have e2:k' = k:=Option.some.inj h
    rcases hk with z | z
    ·exact absurd (e2.trans z) (hc (x,k') mem_cons_self)
    ·rw[e2,z];exact mem_cons_self
  | false =>
   split at h
   ·rw[lookup_cons,hx]at h;exact mem_cons_of_mem _ (ih h)
   ·rw[lookup_cons,hx]at h;exact mem_cons_of_mem _ (ih h)
section
variable {prog:Program}{w:World}{A:Around}{R:Result->Shared->Prop}{s:Shared}
abbrev ki (ifs:List Expr)(env:Env):Sem Bool :=
 forIn ifs true fun c r=>if r=true then do let ok ← isTrue c env (eval c env);pure (ForInStep.yield ok) else pure (ForInStep.yield r)
theorem lU {elt tg iter:Expr}{ifs:List Expr}{scope:Scope}{pos:Pos}{it acc:Value}{env:Env}(I:Nat->Shared->Prop)
  (turn:∀ n s,I n s->wpAny (model prog w) A (pyNext it) (fun r s1=>match r with
   | none=>R (.ok .next) s1
   | some v=>wpAny (model prog w) A (letOwnedTupleGo tg it v) (fun _ s2=>wpAny (model prog w) A (assign tg env v) (fun _ s3 =>
     wpAny (model prog w) A (ki ifs env) (fun ok s4 =>
      if ok=true then wpAny (model prog w) A (eval elt env) (fun x s5 =>
       wpAny (model prog w) A (call (.builtin "list.append") [acc,x]) (fun _ s6=>∃ m,m < n/\I m s6) (fun _ _=>False) s5) (fun _ _=>False) s4
      else ∃ m,m < n/\I m s4) (fun _ _=>False) s3) (fun _ _=>False) s2) (fun _ _=>False) s1) (fun _ _=>False) s)
  (n:Nat) (h:I n s):codeAny (model prog w) A (.compLoop (.ListComp elt [⟨tg,iter,ifs,0⟩] scope pos) 0 it acc env) R s:=by
 refine codeAny_loop rfl I (fun n s hI=>?_) n h
 have no:∀ {E':Value->Shared->Prop}(e:Value)(s':Shared),False->E' e s':=fun _ _ z=>z.elim
 show wpAny _ A (Sem.onRaise (compTurn (.ListComp elt [⟨tg,iter,ifs,0⟩] scope pos) 0 it acc env) fun x=>do
  noteFrame x env
  theTreesLotGoes x) _ _ s
 refine wpAny_noted ?_
 rw[compTurn_list]
 refine wpAny_bind (wpAny_standAt (wpAny_bind (wpAny_mono (turn n s hI) (fun r s1 h1=>?_) no)))
 cases r with
 | none=>exact wpAny_pure h1
 | some v =>
  refine wpAny_bind (wpAny_mono h1 (fun _ s2 h2=>?_) no)
  refine wpAny_bind (wpAny_mono h2 (fun _ s3 h3=>?_) no)
  refine wpAny_bind (wpAny_mono h3 (fun ok s4 h4=>?_) no)
  cases ok with
  | false=>exact wpAny_pure ⟨rfl,h4⟩
  | true =>
   refine wpAny_bind (wpAny_bind (wpAny_mono h4 (fun x s5 h5=>?_) no))
   exact wpAny_bind (wpAny_mono h5 (fun _ s6 h6=>wpAny_pure (wpAny_pure ⟨rfl,h6⟩)) no)
end
noncomputable def IF (X:Cx)(ifs:List Expr)(t:TT):Prop :=
 ∀ (pins:List (Addr × Obj))(s:Shared)(σ:St)(H:Hp)(Q:Bool->Hp->Prop),Inv X pins σ H s->t σ H Q->wpAny (model X.prog X.w) X.A (ki ifs X.env) (TP X pins σ Q) X.xe s
noncomputable def j4:TT:=fun _ H Q=>Q true H
theorem bT {X:Cx}:IF X [] j4:=fun _ _ _ H _ I h=>wpAny_pure ⟨H,I,h⟩
theorem cf {X:Cx}{c:Expr}{t:TT}(h:PT X c t):IF X [c] t:=fun pins s σ H Q I hw=>by
 simp only[ki,forIn_cons,forIn_nil,if_true]
 exact wpAny_bind (wpAny_bind (bq (h pins s σ H Q I hw) fun b s' hb=>wpAny_pure (wpAny_pure hb)))
structure yK (N:List Str)(sc scope:Scope)(capN:List Str)(cap:List Nat):Prop where
 kind:scope.kind = .function
 AZ:∀ y ∈ scope.names,y.2 ≠ .cell
 loc:∀ y ∈ scope.names,y.2 = .local->scope.names.lookup y.1=some .local
 free:∀ y ∈ scope.names,y.2 = .free->sc.names.lookup y.1=some .cell∨sc.names.lookup y.1=some .free
 len:cap.length=capN.length
 cap:∀ p ∈ capN.zip cap,scope.names.lookup p.1=some .free/\N[p.2]? = some p.1
abbrev bR (X:Cx)(scope:Scope)(N:List Str)(C:Addr)(s:Shared)(H:Hp)(fp:List Addr):Cx :=
 { X with N:=N,s₀:=s,H₀:=H,env:=compEnvC scope (bZ X.env.cells scope.names []) C X.env,outer:=X.stack,stack:=X.stack,ex:=fp,fn:=fun _=>false,pn:=[],xe:=fun _ _=>False }
noncomputable def ig (n:Nat)(cap:List Nat)(σ:St):St:=List.replicate n none ++ cap.map fun j=>(σ[j]?).join
theorem lZ (n:Nat)(cap:List Nat)(σ:St):(ig n cap σ).length=n + cap.length:=by simp[ig]
section
variable {X:Cx}{pins:List (Addr × Obj)}{σ:St}{H:Hp}{s:Shared}{scope:Scope}{own capN:List Str}{cap:List Nat}{fp:List Addr}
theorem yK.Fv (B:yK X.N X.env.scope scope capN cap)(ok:X.Ok):∀ y ∈ scope.names,y.2 = .free->∃ c,X.env.cells.lookup y.1=some c:=fun y hy hf=>ok.has y.1 (B.free y hy hf)
theorem yK.cell (B:yK X.N X.env.scope scope capN cap)(ok:X.Ok){x:Str}{c:Addr}(h:(bZ X.env.cells scope.names []).lookup x=some c):X.env.cells.lookup x=some c :=
 dG scope.names [] (B.Fv ok) (fun _ e=>by cases e) h
theorem yK.locs (I:Inv X pins σ H s)(B:yK X.N X.env.scope scope capN cap){h':Heap}(k:∀ x c v,X.env.cells.lookup x=some c->s.heap.IsCell c v->h'.IsCell c v)(C:Addr)(m0:Str->Option Value) :
  ∀ (i:Nat)(x:Str)(v:V),(own ++ capN)[i]? = some x->(ig own.length cap σ)[i]? = some (some v)->∃ u,RelV v u/\Look (compEnvC scope (bZ X.env.cells scope.names []) C X.env) h' m0 x u:=by
 intro i x v e1 e2
 have hi:own.length <= i:=by
  by_cases q:own.length <= i
  ·exact q
  ·unfold ig at e2
   rw[getElem?_append_left (by simp;omega),List.getElem?_replicate,if_pos (by omega)]at e2
   cases e2
 have Fw:capN[i - own.length]? = some x:=by
  rwa [getElem?_append_right hi]at e1
 unfold ig at e2
 rw[getElem?_append_right (by simpa using hi),length_replicate,getElem?_map]at e2
 cases ej:cap[i - own.length]? with
 | none=>rw[ej]at e2;cases e2
 | some j =>
  rw[ej]at e2
  have Fx:(σ[j]?).join=some v:=Option.some.inj e2
  have e3':σ[j]? = some (some v):=by
   cases q:σ[j]? with
   | none=>rw[q]at Fx;cases Fx
   | some u=>rw[q]at Fx;exact congrArg some Fx
  have hz:(x,j) ∈ capN.zip cap:=by
   refine List.mem_iff_getElem?.mpr ⟨i - own.length,?_⟩
   rw[List.getElem?_zip_eq_some]
   exact⟨Fw,ej⟩
  obtain⟨c1,c2⟩:=B.cap (x,j) hz
  have S8:(x,NameKind.free) ∈ scope.names:=PySem.mem_of_lookup c1
  have hX:=B.free _ S8 rfl
  obtain⟨m,hm,hl⟩:=I.loc
  obtain⟨u,ru,lk⟩:=hl j x v c2 e3' (hX.elim (fun z => .inr (.inl z)) fun z => .inr (.inr z))
  refine⟨u,ru, .inr ⟨gi c1,?_⟩⟩
  rcases lk with ⟨q,_⟩ | ⟨_,c,ec,ic⟩
  ·have q':X.env.scope.names.lookup x=some .local:=q
   rcases hX with z | z
   ·rw[z]at q';cases q'
   ·rw[z]at q';cases q'
  ·obtain⟨c',S9⟩:=eA (cells:=X.env.cells) (x:=x) scope.names [] (.inl S8)
   have:=B.cell I.ok S9
   rw[ec]at this
   cases this
   exact⟨c,S9,k x c _ ec ic⟩
theorem Inv.blk {h4:Heap}{tk:Nat}{m0:Str->Option Value}{C:Addr}(I:Inv X pins σ H s)(B:yK X.N X.env.scope scope capN cap)(hC:s.heap.objs.size <= C)(k:∀ b o,s.heap.get? b=some o->h4.get? b=some o)
  (hn:h4.Ns C m0) (hf:∀ b ∈ fp,eG X pins H b) (yu:∀ b ∈ fp,b < s.heap.objs.size) :
  Inv (bR X scope (own ++ capN) C s H fp) [] (ig own.length cap σ) H { s with heap:=h4,toks:=tk }:=by
 have O2:∀ b ∈ fp,b ∉ oY X.stack:=fun b hb z=>by
  obtain⟨_,f1,f2,_⟩:=hf b hb
  rcases mem_cons.mp (I.Am b z) with e | e
  ·exact f1 e
  ·exact f2 e
 have hinv:∀ x,((relabel scope X.env).names.lookup x=some .cell∨(relabel scope X.env).names.lookup x=some .free)->(x,NameKind.free) ∈ scope.names:=fun x hx=>by
  rcases hx with q | q
  ·exact eJ (.inl rfl) B.AZ q
  ·exact eJ (.inr rfl) B.AZ q
 refine⟨⟨I.ok.mod,B.kind,I.ok.glob,I.ok.blt,hC,fun x y c h1 h2=>I.ok.inj x y c (B.cell I.ok h1) (B.cell I.ok h2),fun x hx=>eA scope.names [] (.inl (hinv x hx)),fun _ _ z=>absurd z Bool.false_ne_true,I.ok.hd,I.ok.frames, .inl rfl,
  fun b hb=>⟨ne_of_lt (lt_of_lt_of_le (yu b hb) hC),fun x c e=>(hf b hb).2.2.2.2.1 x c (B.cell I.ok e)⟩,I.bs,le_trans I.ok.Dh I.sz,fun b o e hb=>?_,fun b hb=>O2 b hb,I.stack,I.Bk⟩,
  rfl,I.bare,Un.kept k,⟨m0,hn,fun i x v e1 e2 _=>B.locs I (fun _ _ _ _ q=>q.keeps k) C m0 i x v e1 e2⟩,fun x c e=>?_,I.xY.fresh hC,fun x c e=>I.y1 x c (B.cell I.ok e),fun p hp=>absurd (show p ∈ ([]:List (Addr × Obj)) from hp) (by simp),I.xY.kept k,?_⟩
 ·rcases (hf b hb).2.2.2.1 with z | z
  ·exact I.ok.Cp b o e z
  ·exact absurd (lt_of_lt_of_le (lt_size e) (le_trans I.ok.Dh z)) (lt_irrefl _)
 ·obtain⟨v,q⟩:=I.cell x c (B.cell I.ok e)
  exact⟨v,q.keeps k⟩
 ·show(ig own.length cap σ).length=(own ++ capN).length
  rw[lZ,length_append,B.len]
theorem Inv.reset {AE:List (Addr × Obj)}{σ':St}{H':Hp}{s':Shared}{C:Addr}(I:Inv X pins σ H s)(B:yK X.N X.env.scope scope capN cap)(hf:∀ b ∈ fp,eG X pins H b)(J:Inv (bR X scope (own ++ capN) C s H fp) AE σ' H' s') :
  Inv (bR X scope (own ++ capN) C s H fp) AE (ig own.length cap σ) H' s':=by
 obtain⟨m,hn,_⟩:=J.loc
 refine⟨J.ok,J.os,J.bare,J.base,⟨m,hn,fun i x v e1 e2 _=>?_⟩,J.cell,J.free,J.y1,J.pin,J.xY,?_⟩
 ·refine B.locs I (fun y c v' ec ic=>?_) C m i x v e1 e2
  obtain⟨o,ho,hd⟩:=ic
  have hx:c ∉ fp:=fun z=>(hf c z).2.2.2.2.1 y c ec rfl
  obtain⟨sl,e⟩:=J.base.any ho (I.y1 y c ec) hx
  exact⟨_,e,hd⟩
 ·show(ig own.length cap σ).length=(own ++ capN).length
  rw[lZ,length_append,B.len]
theorem Inv.adopt {D:Addr}{o:HO}(I:Inv X pins σ H s)(hn:H D=none)(h0:X.s₀.heap.objs.size <= D)(hL:D ≠ X.env.locals)(hc:∀ x c,X.env.cells.lookup x=some c->c ≠ D)(hp:∀ p ∈ X.pn ++ pins,p.1 ≠ D)
  (new:ym X.prog X.w (upd H D o) s.heap D o):Inv X pins σ (upd H D o) s:=by
 have ne:∀ b u,H b=some u->b ≠ D:=fun b u e=>ag e hn
 refine⟨I.ok,I.os,I.bare,⟨I.base.keep,I.base.slot,fun b ob e n hx=>?_,I.base.there,fun b xs e=>?_,fun b ob u e=>?_,fun b ps e=>?_⟩,I.loc,I.cell,?_,fun x c e=>?_,fun p Bn=>?_,fun b u e=>?_,I.len⟩
 ·rw[ae (ne_of_lt (lt_of_lt_of_le (lt_size e) h0))]
  exact I.base.free b ob e n hx
 ·have q:=I.base.zV b xs e
  rw[ae (ne b _ q)];exact q
 ·have q:=I.base.zG b ob u e
  rw[ae (ne b _ q)];exact q
 ·obtain⟨more,q⟩:=I.base.zW b ps e
  exact⟨more,by rw[ae (ne b _ q)];exact q⟩
 ·rw[ae (Ne.symm hL)];exact I.free
 ·rw[ae (hc x c e)];exact I.y1 x c e
 ·obtain⟨e,n,r⟩:=I.pin p Bn
  exact⟨e,by rw[ae (hp p Bn)];exact n,r⟩
 ·by_cases hb:b=D
  ·subst hb;rw[ac]at e;cases e;exact new
  ·rw[ae hb]at e
   exact(I.xY b u e).zc (fun _ _ _ q=>q) (fun c q=>by rw[ae (ne c _ q)];exact q) fun c xs q=>by rw[ae (ne c _ q)];exact q
end
noncomputable def cQ (J:It)(g:TG)(tt:TT)(te:TE)(σ0:St)(Q:VK)(H1:Hp):Prop:=∃ W:Nat->Nat->List V->Hp->Prop,(∃ m,W 0 m [] H1)/\∀ i m acc H,W i m acc H ->
 acc.length < sizeLine/\((J.stop i H/\∀ D,H D=none->Q (.ref D) (upd H D (.lst acc)))∨(J.go i H/\∃ N:List V->Hp->Prop,(∀ yB H',N yB H'->∃ m',m' < m/\W (i + 1) m' yB H') /\
  ∀ x H',J.CS i H x H'->g x σ0 H' fun σ2 H2=>tt σ2 H2 fun b H3=>if b=true then te σ2 H3 fun y H4=>N (acc ++ [y]) H4 else N acc H3))
noncomputable def vp (wi:TI)(g:TG)(tt:TT)(te:TE)(n:Nat)(cap:List Nat):TE:=fun σ H Q=>wi σ H fun J H1=>cQ J g tt te (ig n cap σ) Q H1
section
variable {X:Cx}{tg iter elt:Expr}{ifs:List Expr}{scope:Scope}{pos:Pos}{wi:TI}{g:TG}{tt:TT}{te:TE}{own capN:List Str}{cap:List Nat}
abbrev kP (xT:List Value)(k:Nat):Obj:={ cls := .type "list",data := .seq xT.toArray k }
theorem lR {pins:List (Addr × Obj)}{s:Shared}{σ:St}{H:Hp}{Q:VK}{it:Addr}{fp:List Addr}{tn:Nat->Heap->Prop}{J:It}(B:yK X.N X.env.scope scope capN cap)(hc:X.calm=true)
  (hb:∀ (C:Addr)(s:Shared)(H:Hp)(fp:List Addr),PG (bR X scope (own ++ capN) C s H fp) tg g/\IF (bR X scope (own ++ capN) C s H fp) ifs tt/\PE (bR X scope (own ++ capN) C s H fp) elt te)
  (I:Inv X pins σ H s) (T:lc X.prog X.w X.K tg J fp it tn) (st:tn 0 s.heap) (hf:∀ b ∈ fp,eG X pins H b) {W:Nat->Nat->List V->Hp->Prop} {m0:Nat} (w0:W 0 m0 [] H)
  (turn:∀ i m acc H,W i m acc H->acc.length < sizeLine/\((J.stop i H/\∀ D,H D=none->Q (.ref D) (upd H D (.lst acc)))∨(J.go i H/\∃ N:List V->Hp->Prop,(∀ yB H',N yB H'->∃ m',m' < m/\W (i + 1) m' yB H') /\
   ∀ x H',J.CS i H x H'->g x (ig own.length cap σ) H' fun σ2 H2=>tt σ2 H2 fun b H3=>if b=true then te σ2 H3 fun y H4=>N (acc ++ [y]) H4 else N acc H3)))
  {RR:Value->Addr->Result->Shared->Prop}
  (fin:∀ (D C:Addr)(H':Hp)(s':Shared),Q (.ref D) H'->Inv X pins σ H' s'->(∃ m,s'.heap.Ns C m)->H' C=none->C ≠ X.env.locals->X.s₀.heap.objs.size <= C->(∀ x c,X.env.cells.lookup x=some c->c ≠ C)->(∀ p ∈ X.pn ++ pins,p.1 ≠ C) ->
   RR (.ref D) C (.ok .next) s') :
  wpAny (model X.prog X.w) X.A (newList []) (fun acc s3=>wpAny (model X.prog X.w) X.A (newFunctionEnv scope X.env.globals (bZ X.env.cells scope.names []) [] X.env.qual none .none (some X.env)) (fun IG s4 =>
   codeAny (model X.prog X.w) X.A (.compStart (.ListComp elt [⟨tg,iter,ifs,0⟩] scope pos) 0 (.ref it) acc { IG with scope:=relabel scope X.env }) (RR acc IG.locals) s4) X.xe s3) X.xe s:=by
 refine wpAny_newObj_type (wpAny_newFunctionEnv B.AZ (by intro y hy;simp at hy) (fun h1 GX DZ=>?_) B.kind)
 dsimp only at GX DZ ⊢
 generalize Fy:s.heap.push { cls := .type "list",dict:=none,data := .seq ([]:List Value).toArray } = H2 at GX DZ ⊢
 have hCs:H2.objs.size=s.heap.objs.size + 1:=by rw[← Fy,size_push]
 have Ba:s.heap.objs.size <= H2.objs.size:=by omega
 have Dt:∀ b ∈ fp,b < s.heap.objs.size:=fun b hb=>by
  obtain⟨o,e,_⟩:=T.obj 0 s.heap st b hb
  exact lt_size e
 have old:∀ b o,s.heap.get? b=some o->h1.get? b=some o:=fun b o e =>
  DZ.extBut b o (ne_of_lt (lt_of_lt_of_le (lt_size e) Ba)) (Heap.get?_push_of_some _ (Fy ▸ Heap.get?_push_of_some _ e))
 have Mu:s.heap.objs.size ≠ H2.objs.size:=by omega
 have O3:h1.get? s.heap.objs.size=some (kP [] 0):=DZ.extBut _ _ Mu (Heap.get?_push_of_some _ (Fy ▸ Heap.get?_push_size _ rfl))
 have I4:Inv (bR X scope (own ++ capN) H2.objs.size s H fp) [] (ig own.length cap σ) H { s with heap:=h1,toks:=s.toks + ([]:List (Str × Value)).length }:=I.blk (own:=own) B Ba old GX hf Dt
 have O2:∀ b ∈ fp,b ∉ oY X.stack:=fun b hb z=>by
  obtain⟨_,f1,f2,_⟩:=hf b hb
  rcases mem_cons.mp (I.Am b z) with e | e
  ·exact f1 e
  ·exact f2 e
 have Dv:∀ b ∈ oY X.stack,b < s.heap.objs.size:=fun b hb=>by
  obtain⟨_,o,ho,_⟩:=I.stack.mem hb
  exact lt_size ho
 have Bb:∀ x c,X.env.cells.lookup x=some c->c < s.heap.objs.size:=fun x c e=>by
  obtain⟨v,q⟩:=I.cell x c e
  exact q.lt
 have Ea:∀ (H':Hp)(h':Heap)(xT:List Value)(k:Nat),H' s.heap.objs.size=none->h'.get? s.heap.objs.size=some (kP xT k) ->
   ∀ p ∈ [(s.heap.objs.size,kP xT k)],h'.get? p.1=some p.2/\H' p.1=none/\p.1 ≠ (bR X scope (own ++ capN) H2.objs.size s H fp).env.locals/\p.1 ∉ (bR X scope (own ++ capN) H2.objs.size s H fp).fs/\∀ v,p.2.data ≠ .cell v:=fun H' h' xT k hn he p hp=>by
  have e:p=(s.heap.objs.size,kP xT k):=by simpa using hp
  subst e
  exact⟨he,hn,Mu,fun z=>absurd (Dv _ z) (lt_irrefl _),fun v z=>by cases z⟩
 have stat:∀ (H':Hp)(xT:List Value)(k:Nat),(∀ b ∈ fp,H' b=none)->∀ b ∈ fp,eG (bR X scope (own ++ capN) H2.objs.size s H fp) [(s.heap.objs.size,kP xT k)] H' b:=fun H' xT k hn b hb =>
  ⟨hn b hb,ne_of_lt (lt_of_lt_of_le (Dt b hb) Ba),O2 b hb, .inl hb,fun x c e=>(hf b hb).2.2.2.2.1 x c (B.cell I.ok e),fun p hp=>by
   have e:p=(s.heap.objs.size,kP xT k):=by simpa using hp
   subst e
   exact ne_of_gt (Dt b hb)⟩
 have loop:∀ s3:Shared,s3 = { s with heap:=h1,toks:=s.toks + ([]:List (Str × Value)).length } ->
   codeAny (model X.prog X.w) X.A (.compLoop (.ListComp elt [⟨tg,iter,ifs,0⟩] scope pos) 0 (.ref it) (.ref s.heap.objs.size) (compEnvC scope (bZ X.env.cells scope.names []) H2.objs.size X.env))
    (RR (.ref s.heap.objs.size) H2.objs.size) s3:=by
  rintro s3 rfl
  refine lU (fun n s'=>∃ i acc xT k H',Inv (bR X scope (own ++ capN) H2.objs.size s H fp) [(s.heap.objs.size,kP xT k)] (ig own.length cap σ) H' s'/\tn i s'.heap/\(∀ b ∈ fp,H' b=none)/\Vals acc xT/\W i n acc H') ?_ m0
   ⟨0,[],[],0,H,I4.yQ (Ea _ _ _ _ (I.xY.fresh (le_refl _)) O3),T.keep 0 s.heap h1 st fun b _ o e=>old b o e,fun b hb=>(hf b hb).1, .nil,w0⟩
  rintro n s5 ⟨i,acc,xT,k,H5,I5,GQ,Mf,rv,w5⟩
  obtain⟨hsz,IH⟩:=turn i n acc H5 w5
  obtain⟨hgt,Bo,hte⟩:=hb H2.objs.size s H fp
  rcases IH with ⟨stop,q⟩ | ⟨go,N,hN,step⟩
  ·refine bq (T.done (bR X scope (own ++ capN) H2.objs.size s H fp) rfl rfl rfl hc i _ s5 _ H5 _ I5 (stat H5 xT k Mf) GQ stop) fun r s6 xU=>?_
   obtain⟨hr,I6⟩:=xU
   subst hr
   obtain⟨hD,II,_⟩:=I6.pin (s.heap.objs.size,kP xT k) (by simp)
   have J1:Inv X pins σ H5 s6:=I.HP (s':=s6) (ch:=fp) I6.os I6.base I6.xY I6.bare fun b hb=>by
    obtain⟨_,f1,_,f3,f4,f5⟩:=hf b hb
    exact⟨f3,f1,f4,f5⟩
   have J2:Inv X pins σ (upd H5 s.heap.objs.size (.lst acc)) s6:=J1.adopt II I.sz (ne_of_gt I.lt) (fun x c e=>ne_of_lt (Bb x c e)) (fun p hp=>ne_of_lt (lt_size (I.pin p hp).1)) ⟨le_of_lt hsz,xT,k,rv,hD⟩
   obtain⟨mC,IJ,_⟩:=I6.loc
   refine fin _ _ _ s6 (q _ II) J2 ⟨mC,IJ⟩ (by rw[ae (Ne.symm Mu)];exact I6.free) (ne_of_gt (lt_of_lt_of_le I.lt Ba)) (le_trans I.sz Ba) (fun x c e=>ne_of_lt (lt_of_lt_of_le (Bb x c e) Ba)) fun p hp =>
    ne_of_lt (lt_of_lt_of_le (lt_size (I.pin p hp).1) Ba)
  ·refine bq (T.item (bR X scope (own ++ capN) H2.objs.size s H fp) rfl rfl rfl hc i _ s5 _ H5 _ I5 (stat H5 xT k Mf) GQ go) fun r s6 xU=>?_
   obtain⟨u,hr,h6⟩:=xU
   subst hr
   refine bq h6 fun _ s7 xU=>?_
   obtain⟨x,H7,I7,r7,y7,O4,fr7⟩:=xU
   have I7':=I7.pinned (stat H7 xT k fr7) (T.obj _ _ O4)
   refine bq (hgt _ s7 _ H7 x u _ I7' r7 (step x H7 y7)) fun _ s8 xU=>?_
   obtain⟨σ8,H8,I8,q8⟩:=xU
   refine bq (Bo _ s8 σ8 H8 _ I8 q8) fun b s9 xU=>?_
   obtain⟨H9,I9,q9⟩:=xU
   have SA:∀ {H':Hp}{s':Shared}{σ':St},Inv (bR X scope (own ++ capN) H2.objs.size s H fp) (dX fp s7.heap) σ' H' s'->tn (i + 1) s'.heap/\∀ b ∈ fp,H' b=none:=fun {H' s' σ'} K=>by
    refine⟨T.keep _ _ _ O4 fun b hb o e=>(K.pin (b,o) (dZ hb e)).1,fun b hb=>?_⟩
    obtain⟨o,e,_⟩:=T.obj _ _ O4 b hb
    exact(K.pin (b,o) (dZ hb e)).2.1
   cases b with
   | false =>
    rw[if_neg Bool.false_ne_true]
    obtain⟨m',hm,w9⟩:=hN acc H9 (by simpa using q9)
    have K9:Inv (bR X scope (own ++ capN) H2.objs.size s H fp) (dX fp s7.heap) σ8 H9 s9:=I9.yQ fun p hp=>I9.pin p (mem_append_right _ (mem_append_right _ hp))
    obtain⟨t9,f9⟩:=SA K9
    exact⟨m',hm,i + 1,acc,xT,k,H9,I.reset B hf I9.zd,t9,f9,rv,w9⟩
   | true =>
    rw[if_pos rfl]
    have q9':te σ8 H9 fun y H4=>N (acc ++ [y]) H4:=by simpa using q9
    refine bq (hte _ s9 σ8 H9 _ I9 q9') fun yv Aq xU=>?_
    obtain⟨y,zJ,O5,r10,q10⟩:=xU
    obtain⟨hD,II,_⟩:=O5.pin (s.heap.objs.size,kP xT k) (by simp)
    have hlen:=rv.length
    refine wpAny_list_append_plain ⟨k,hD⟩ (fun h' zm Fz=>?_) (by rw[size_toArray];omega)
    obtain⟨k',hD'⟩:=zm
    obtain⟨m',hm,w10⟩:=hN (acc ++ [y]) zJ q10
    have K10:Inv (bR X scope (own ++ capN) H2.objs.size s H fp) (dX fp s7.heap) σ8 zJ Aq:=O5.yQ fun p hp=>O5.pin p (mem_append_right _ (mem_append_right _ hp))
    have SD:Inv (bR X scope (own ++ capN) H2.objs.size s H fp) (dX fp s7.heap) σ8 zJ { Aq with heap:=h' }:=K10.turned (t':=Aq.toks) (it:=s.heap.objs.size) (fun b o hb e=>(Fz.2 b hb).trans e) II Mu (.inr (le_refl _))
     (fun x c e=>ne_of_lt (Bb x c (B.cell I.ok e))) fun p hp=>by
      obtain⟨hb,_⟩:=jL (show p ∈ dX fp s7.heap from hp)
      exact ne_of_lt (Dt p.1 hb)
    obtain⟨t11,Mw⟩:=SA SD
    refine⟨m',hm,i + 1,acc ++ [y],xT ++ [yv],k',zJ,?_,t11,Mw,rv.append (.cons r10 .nil),w10⟩
    refine I.reset B hf (SD.yQ (Ea _ _ _ _ II ?_))
    show h'.get? s.heap.objs.size=some { cls := .type "list",data := .seq (xT ++ [yv]).toArray k' }
    rw[show(xT ++ [yv]).toArray=xT.toArray.push yv by simp]
    exact hD'
 exact codeAny_compStart_list (loop _ rfl) (T.self X.A 0 _ _ _ (T.keep 0 s.heap h1 st fun b _ o e=>old b o e) (loop _ rfl))
theorem bv (B:yK X.N X.env.scope scope capN cap)(hc:X.calm=true)(hi:PI X tg iter wi)
  (hb:∀ (C:Addr)(s:Shared)(H:Hp)(fp:List Addr),PG (bR X scope (own ++ capN) C s H fp) tg g/\IF (bR X scope (own ++ capN) C s H fp) ifs tt/\PE (bR X scope (own ++ capN) C s H fp) elt te)
  (hs:autoParam (∀ x,foldedSetIterable iter X.env x=pure x) ψ):PE X (.ListComp elt [⟨tg,iter,ifs,0⟩] scope pos) (vp wi g tt te own.length cap):=by
 intro pins s σ H Q I h
 rw[eval_ListComp]
 refine wpAny_comprehension_free (use:=none) rfl hs (fF (B.Fv I.ok)) B.kind B.loc (bq (hi pins s σ H _ I h) fun v s1 h1=>bq h1 fun Md s2 h2=>?_)
 obtain⟨it,fp,tn,J,H2,e,I2,T,Ih,f2,W,⟨m0,w0⟩,turn⟩:=h2
 subst e
 refine lR (own:=own) B hc hb I2 T Ih f2 w0 turn (RR:=fun acc C=>compPost (model X.prog X.w) X.A X.xe none (EP X pins σ Q) acc C) fun D C H' s' q J2 ⟨mC,IJ⟩ fC n1 n2 n3 n4=>?_
 refine⟨mC,IJ,fun h' DZ=>⟨.ref D,H',?_,rfl,q⟩⟩
 exact J2.turned (t':=s'.toks) (it:=C) (fun b o hb e=>(DZ.2 b hb).trans e) fC n1 (.inr n2) n3 n4
theorem c7 {i:Nat}{x:Str}{px:Pos}{IK:Pos}(B:yK X.N X.env.scope scope capN cap)(hc:X.calm=true)(hN:X.N.Nodup)(hx:X.N[i]? = some x)(hl:X.env.scope.names.lookup x=some .local)(hi:PI X tg iter wi)
  (hb:∀ (C:Addr)(s:Shared)(H:Hp)(fp:List Addr),PG (bR X scope (own ++ capN) C s H fp) tg g/\IF (bR X scope (own ++ capN) C s H fp) ifs tt/\PE (bR X scope (own ++ capN) C s H fp) elt te)
  (hsw:autoParam (swapsWith (.ListComp elt [⟨tg,iter,ifs,0⟩] scope pos) (some (.Name x px)) IK.line X.env=pure true) η)
  (hs:autoParam (∀ x,foldedSetIterable iter X.env x=pure x) ψ):PS X (.Assign [.Name x px] (.ListComp elt [⟨tg,iter,ifs,0⟩] scope pos) IK) (vU (vp wi g tt te own.length cap) (bE i)):=by
 intro pins s σ H D0 I h
 rw[exec_Assign_Name_used _ _ _ _ hsw]
 refine wpAny_bind (wpAny_standAt (wpAny_bind ?_))
 show wpAny _ X.A (do
  let _ ← comprehension (.ListComp elt [⟨tg,iter,ifs,0⟩] scope pos) scope X.env _ (newList []) false (eval iter X.env) (some (assign (.Name x px) X.env))) _ _ s
 refine wpAny_bind (wpAny_mono (wpAny_comprehension_free (use:=some (assign (.Name x px) X.env)) (Q:=fun _ s'=>SP X pins D0 .next s') rfl hs (fF (B.Fv I.ok)) B.kind B.loc
  (bq (hi pins s σ H _ I h) fun v s1 h1=>bq h1 fun Md s2 h2=>?_)) (fun _ s' hq=>wpAny_pure (wpAny_pure hq)) fun _ _ e=>e)
 obtain⟨it,fp,tn,J,H2,e,I2,T,Ih,f2,W,⟨m0,w0⟩,turn⟩:=h2
 subst e
 refine lR (own:=own) (Q:=fun x H1=>bE i x σ H1 D0.nx) B hc hb I2 T Ih f2 w0 turn (RR:=fun acc C=>compPost (model X.prog X.w) X.A X.xe (some (assign (.Name x px) X.env)) (fun _ s'=>SP X pins D0 .next s') acc C) fun D C H' s' q J2 ⟨mC,IJ⟩ fC n1 n2 n3 n4=>?_
 show wpAny _ X.A (assign (.Name x px) X.env (.ref D)) _ _ s'
 refine wpAny_assign_Name (jF J2 hN hx (.inl hl) (show RelV (.ref D) (.ref D) from rfl) (fun Iu J3 xU=>?_) (.inr hl))
 obtain⟨a,DZ,ha⟩:=xU
 have hCa:C ≠ a:=by
  rcases ha with z | z
  ·rw[z];exact n1
  ·exact(n3 x a z).symm
 refine⟨mC,IJ.sameBut DZ hCa,fun h' Fz=>⟨_,H',?_,q⟩⟩
 exact J3.turned (t':=Iu.toks) (it:=C) (fun b o hb e=>(Fz.2 b hb).trans e) fC n1 (.inr n2) n3 n4
end
mutual
inductive j9 (K:Frag)(H:Hp):V->PyData->Prop
 | yd:j9 K H .yd .none
 | bl (b:Bool):j9 K H (.bl b) (.bool b)
 | int (i:Int):j9 K H (.int i) (.int i)
 | str (x:Str):j9 K H (.str x) (.str x)
 | lst {a:Addr} {xs:List V} {ds:List PyData}:xS K H a xs->j2 K H xs ds->j9 K H (.ref a) (.list ds)
 | tup {a:Addr} {xs:List V} {ds:List PyData}:xV K H a xs->j2 K H xs ds->j9 K H (.ref a) (.tuple ds)
inductive j2 (K:Frag)(H:Hp):List V->List PyData->Prop
 | nil:j2 K H [] []
 | cons {x:V} {d:PyData} {xs:List V} {ds:List PyData}:j9 K H x d->j2 K H xs ds->j2 K H (x :: xs) (d :: ds)
end
section
variable {X:Cx}{pins:List (Addr × Obj)}{σ:St}{H:Hp}{s:Shared}
mutual
theorem Inv.den (I:Inv X pins σ H s):∀ {x:V}{d:PyData}{u:Value},j9 X.K H x d->RelV x u->∃ as,Reads s.heap u d as
 | _,_,_, .yd,r=>by cases r;exact⟨_, .none⟩
 | _,_,_, .bl b,r=>by cases r;exact⟨_, .bool b⟩
 | _,_,_, .int i,r=>by obtain⟨t,rfl⟩:=r;exact⟨_, .int i t⟩
 | _,_,_, .str x,r=>by obtain⟨t,rfl⟩:=r;exact⟨_, .str x t⟩
 | _,_,_, .lst hq hd,r=>by
  cases r
  obtain⟨xT,rv,⟨o,n,e,hc,_,O6⟩,_⟩:=I.list hq
  obtain⟨as,q⟩:=I.F0 hd rv
  exact⟨_, .list e hc O6 (by simpa using q)⟩
 | _,_,_, .tup hq hd,r=>by
  cases r
  obtain⟨xT,rv,⟨o,e,hc,n,O6⟩,_⟩:=I.tuple hq
  obtain⟨as,q⟩:=I.F0 hd rv
  exact⟨_, .tuple e hc O6 (by simpa using q)⟩
theorem Inv.F0 (I:Inv X pins σ H s):∀ {xs:List V}{ds:List PyData}{us:List Value},j2 X.K H xs ds->Vals xs us->∃ as,ReadsAll s.heap us ds as
 | _,_,_, .nil, .nil=>⟨_, .nil⟩
 | _,_,_, .cons hd hr, .cons r rr=>by
  obtain⟨as,q⟩:=I.den hd r
  obtain⟨bs,q'⟩:=I.F0 hr rr
  exact⟨_, .cons q q'⟩
end
noncomputable def IL (K:Frag):R2:=fun x y H Q=>∃ da db,j9 K H x da/\j9 K H y db/\SeqAt.shaped da=true/\SeqAt.shaped db=true/\Q (.bl (PyData.eqv da db)) H
noncomputable def uj (K:Frag):R2:=fun x y H Q=>∃ da db,j9 K H x da/\j9 K H y db/\SeqAt.shaped da=true/\SeqAt.shaped db=true/\Q (.bl (!PyData.eqv da db)) H
end
section
variable {X:Cx}
theorem rD (hu:X.A.units + 64 < cLine):dH X (compareOp .Eq) (IL X.K):=by
 intro pins s σ H x y v u Q I rx ry h
 obtain⟨da,db,h1,h2,h3,h4,q⟩:=h
 obtain⟨as,r1⟩:=I.den h1 rx
 obtain⟨bs,r2⟩:=I.den h2 ry
 exact SeqAt.compareEq_shaped r1 r2 h3 h4 hu ⟨.bl _,H,I,rfl,q⟩
theorem kK (hu:X.A.units + 64 < cLine):dH X (compareOp .NotEq) (uj X.K):=by
 intro pins s σ H x y v u Q I rx ry h
 obtain⟨da,db,h1,h2,h3,h4,q⟩:=h
 obtain⟨as,r1⟩:=I.den h1 rx
 obtain⟨bs,r2⟩:=I.den h2 ry
 exact SeqAt.compareNe_shaped r1 r2 h3 h4 hu ⟨.bl _,H,I,rfl,q⟩
theorem jU {K:Frag}{H:Hp}:∀ ns:List Int,j2 K H (ns.map V.int) (ns.map PyData.int)
 | [] => .nil
 | n :: r => .cons (.int n) (jU r)
theorem gB {K:Frag}{H:Hp}{a:Addr}{ns:List Int}(h:xS K H a (ns.map V.int)):j9 K H (.ref a) (.list (ns.map PyData.int)) := .lst h (jU ns)
noncomputable def O7 (K:Frag):R2:=fun x y H Q=>∃ (p q:Addr)(ns ms:List Int),x = .ref p/\y = .ref q/\xS K H p (ns.map V.int)/\xS K H q (ms.map V.int)/\Q (.bl (decide (ns=ms))) H
noncomputable def O8 (K:Frag):R2:=fun x y H Q=>∃ (p q:Addr)(ns ms:List Int),x = .ref p/\y = .ref q/\xS K H p (ns.map V.int)/\xS K H q (ms.map V.int)/\Q (.bl (!decide (ns=ms))) H
theorem rC (hu:X.A.units + 64 < cLine):dH X (compareOp .Eq) (O7 X.K):=by
 intro pins s σ H x y v u Q I rx ry h
 obtain⟨p,q,ns,ms,rfl,rfl,h1,h2,q⟩:=h
 refine rD hu pins s σ H _ _ v u Q I rx ry ⟨_,_,gB h1,gB h2,PySem.W.shaped_ints ns,PySem.W.shaped_ints ms,?_⟩
 simp only[PyData.eqv,PySem.W.ked_eqvAll]
 exact q
theorem rA (hu:X.A.units + 64 < cLine):dH X (compareOp .NotEq) (O8 X.K):=by
 intro pins s σ H x y v u Q I rx ry h
 obtain⟨p,q,ns,ms,rfl,rfl,h1,h2,q⟩:=h
 refine kK hu pins s σ H _ _ v u Q I rx ry ⟨_,_,gB h1,gB h2,PySem.W.shaped_ints ns,PySem.W.shaped_ints ms,?_⟩
 simp only[PyData.eqv,PySem.W.ked_eqvAll]
 exact q
noncomputable def O9 (K:Frag):List V->Hp->VK->Prop:=fun xs H Q =>
 (∃ i,xs=[.int i, .ty "int"]/\Q (.bl true) H)∨(∃ i,xs=[.int i, .ty "bool"]/\Q (.bl false) H)∨(∃ p ys,xs=[.ref p, .ty "list"]/\xS K H p ys/\Q (.bl true) H)∨(∃ p ys,xs=[.ref p, .ty "tuple"]/\xV K H p ys/\Q (.bl true) H)
theorem lY:cR X (.builtin "isinstance") (O9 X.K):=by
 intro pins s σ H xs us Q I r h
 rcases h with ⟨i,rfl,q⟩ | ⟨i,rfl,q⟩ | ⟨p,ys,rfl,hq,q⟩ | ⟨p,ys,rfl,hq,q⟩
 ·cases r with
  | cons r1 r2 =>
   cases r2 with
   | cons r2 r3 =>
    cases r3
    obtain⟨t,rfl⟩:=r1
    cases r2
    exact IsiPair.int_int ⟨.bl true,H,I,rfl,q⟩
 ·cases r with
  | cons r1 r2 =>
   cases r2 with
   | cons r2 r3 =>
    cases r3
    obtain⟨t,rfl⟩:=r1
    cases r2
    exact IsiPair.int_bool ⟨.bl false,H,I.tok _,rfl,q⟩
 ·cases r with
  | cons r1 r2 =>
   cases r2 with
   | cons r2 r3 =>
    cases r3
    cases r1
    cases r2
    obtain⟨xT,rv,⟨o,n,e,hc,_⟩,_⟩:=I.list hq
    exact IsiPair.list_list e hc ⟨.bl true,H,I,rfl,q⟩
 ·cases r with
  | cons r1 r2 =>
   cases r2 with
   | cons r2 r3 =>
    cases r3
    cases r1
    cases r2
    obtain⟨xT,rv,⟨o,e,hc,_⟩,_⟩:=I.tuple hq
    exact IsiPair.tuple_tuple e hc ⟨.bl true,H,I,rfl,q⟩
theorem uL:Mq X "int.bit_length" (fun x xs H Q=>∃ i,x = .int i/\xs=[]/\Q (.int (Builtin.Int.intBits i:Nat)) H):=by
 intro pins s σ H x xs v us Q I rx rv h
 obtain⟨i,rfl,rfl,q⟩:=h
 obtain⟨t,rfl⟩:=rx
 cases rv
 exact call_int_bit_length ⟨.int _,H,I.tok _,⟨_,rfl⟩,q⟩
theorem Inv.same {pins:List (Addr × Obj)}{σ:St}{H:Hp}{s s':Shared}(I:Inv X pins σ H s)(k:∀ b o,s.heap.get? b=some o->s'.heap.get? b=some o)(g:s'.gens=s.gens)(ho:s'.os=s.os):Inv X pins σ H s':=by
 obtain⟨hh,gg,dd,tt,oo⟩:=s'
 simp only at k g ho
 subst g
 subst ho
 have J:Inv X pins σ H { s with heap:=hh,toks:=tt }:=I.kept k
 exact⟨J.ok,J.os,J.bare,J.base,J.loc,J.cell,J.free,J.y1,J.pin,J.xY,J.len⟩
theorem jw (hc:X.calm=true):cR X (.builtin "all") (fun xs H Q=>∃ (p:Addr)(bs:List Bool),xs=[.ref p]/\xS X.K H p (bs.map V.bl)/\Q (.bl (bs.all id)) H):=by
 intro pins s σ H xs us Q I r h
 obtain⟨p,bs,rfl,hq,q⟩:=h
 obtain⟨u,rfl,rx⟩:=jC r
 cases rx
 obtain⟨xT,rv,pl,hz⟩:=I.list hq
 have hlen:=rv.length
 rw[length_map]at hlen
 have yu:p < s.heap.objs.size:=by obtain⟨o,n,e,_⟩:=pl;exact lt_size e
 have SE:∀ (i:Nat)(v:Value),xT.toArray[i]? = some v->v=Value.bool (bs.getD i false):=fun i v hv=>by
  have GS:xT[i]? = some v:=by simpa using hv
  have hi:i < bs.length:=by rw[hlen];exact(gQ0 GS)
  obtain⟨u,hu,ru⟩:=rv.get (i:=i) (x := .bl bs[i]) (by simp[hi])
  rw[GS]at hu
  cases hu
  rw[getD_eq_getElem?_getD,getElem?_eq_getElem hi]
  exact ru
 have hh1:X.A.in1.handled=none:=I.ok.hd hc
 refine call_all_walkS (wpAny_pyIter_list pl.isList ⟨s.heap.objs.size,[s.heap.objs.size,p],[s.heap.objs.size],fun a b=>b=a,xT.toArray.size,fun i v=>xT.toArray[i]? = some v,_,fun i=>bs.getD i false,rfl,
  (Walks.list hh1 _ p (ne_of_lt yu) xT.toArray).toS,⟨⟨_,Heap.get?_push_size _ rfl,rfl,rfl⟩,pl.isList.push _⟩,fun i v s1 Q1 E1 hv CV=>?_,fun s' hm=>?_⟩)
 ·rw[SE i v hv]
  exact wpAny_truthy_bool CV
 ·have I1:Inv X pins σ H { s with heap:=s.heap.push { cls := .type "list_iterator",data := .fields #[.ref p, .int 0 0] } }:=I.kept (t':=s.toks) fun b o e=>Heap.get?_push_of_some _ e
  refine⟨.bl _,H,I.same (fun b o e=>hm.heap b o (fun hb=>?_) (Heap.get?_push_of_some _ e)) hm.gens hm.os,rfl,?_⟩
  ·have Ab:b=s.heap.objs.size:=by simpa using hb
   exact absurd (lt_size e) (by rw[Ab];exact lt_irrefl _)
  ·have e:((List.range xT.toArray.size).all fun i=>bs.getD i false)=bs.all id:=by
    rw[size_toArray,← hlen]
    clear SE hlen hq rv q
    have:(List.range bs.length).map (fun i=>bs.getD i false)=bs:=by
     apply List.ext_getElem
     ·simp
     ·intro i h1 h2
      simp[h2]
    conv=>rhs;rw[← this]
    rw[all_map]
    rfl
   rw[e]
   exact q
end
section
variable {M:Model}{A:Around}{E:Value->Shared->Prop}{s:Shared}
end
section
variable {X:Cx}{pins:List (Addr × Obj)}{σ:St}{H:Hp}{s:Shared}
end
section
variable {prog:Program}{w:World}{A:Around}{E:Value->Shared->Prop}{s:Shared}{K:Frag}{x C:Addr}{ox:Obj}{name:Str}{v:Value}
open PySem.W in
open PySem.W in
end
end L2
namespace PySem
section
variable {prog:Program}{w:World}{A:Around}{E:Value->Shared->Prop}{h:Heap}{g:Array GenState}{d:Drawn}{t:Nat}{os:OsState}
variable {nm q:Str}{C N:Addr}{bs bm bmB:List Value}{OA:Bool}{sn:List Str}{sub:List Value}{ab:Bool}{col:Option Bool}{dd:Option Addr}{k0 k1 k2 k3 k5:Option Value}{B newId OB:String}
end
section
variable {M:Model}{A:Around}{E:Value->Shared->Prop}{env:Env}
variable {nm q:Str}{C N:Addr}{bs bm:List Value}{OA:Bool}{sn:List Str}{sub:List Value}{ab:Bool}{col:Option Bool}{dd:Option Addr}{k0 k1 k2 k3 k5:Option Value}{newId:String}
end
end PySem
namespace L2
open PySem PySem.Spec PyProof.Rows
section
variable {X:Cx}{C f:Addr}{x:Str}{p pos apos:Pos}{e:Expr}{es:List Expr}{t:TA}
end
section
variable {prog:Program}{w:World}{A:Around}{E:Value->Shared->Prop}{s:Shared}{K:Frag}{x C:Addr}{ox:Obj}{od:Option Obj}{name:Str}{v:Value}
open PySem.W in
open PySem.W in
end
section
variable {X:Cx}{pins:List (Addr × Obj)}{σ:St}{H:Hp}{s:Shared}{ea:Addr}{oe:Obj}
end
section
variable {X:Cx}{o e value:Expr}{f:Str}{pos pos':Pos}{ta tv:TE}
end
section
variable {P:Program}{w:World}{K:Frag}{mg:Str->Option Value}{base:Heap}
end
section
variable {X:Cx}{k:Nat}{f C:Addr}{fd:FuncData}{ps:List Str}{sp:Sp}{yS:List V}{ds:List Value}{x m:Str}{p pos apos:Pos}{e o:Expr}{es:List Expr}{ta:TE}{t:TA}
end
section
variable {X:Cx}{e:Expr}{t:St->Hp->VK->XK->Prop}{pos zY:Pos}{n:Str}{i:Nat}
end
section
variable {M:Model}{A:Around}{E:Value->Shared->Prop}{s:Shared}
end
end L2
namespace PySem
open Sem (wp)
open AutoSeq1 (wpAny_loadPart')
theorem dR (l:Addr)(items:Array Value)(n:Nat)(OC:Option Addr)(sl:Array (Option Value)) :
  Meets (Builtin.«enumerate.__new__» ⟨[.type "enumerate", .ref l],[]⟩) (fun _ R s=>s.heap.get? l=some { cls := .type "tuple",dict:=OC,data := .seq items n,slots:=sl } /\
   R (.ok (.ret (.ref (s.heap.push { cls := .type "tuple_iterator",data := .fields #[.ref l, .int 0 0] }).objs.size)))
    { s with heap:=(s.heap.push { cls := .type "tuple_iterator",data := .fields #[.ref l, .int 0 0] }).push { cls := .type "enumerate",data := .fields #[.none, .bool false, .ref s.heap.objs.size,rawInt 0, .none, .none] } }) :=
 .of_wp fun prog w A R s h=>by
  obtain⟨hp,g,d,tk,os⟩:=s;obtain⟨hl,h⟩:=h
  have Cy:=sub_enumerate
  have hL:Heap.IsTuple (Shared.heap ⟨hp,g,d,tk,os⟩) l items:=⟨_,hl,rfl,n,rfl⟩
  wp_walk using wpAny_loadPart' hl
  refine wpAny_stack_any fun st=>wpAny_pure ?_
  split
  ·rename_i c _ _ _ _ _
   cases (c == Value.type "enumerate")
   ·wp_walk using wpAny_loadPart' hl,wpAny_pyIter_tuple hL
    exact⟨_,rfl,h⟩
   ·wp_walk using wpAny_loadPart' hl,wpAny_pyIter_tuple hL
    exact⟨_,rfl,h⟩
  ·wp_walk using wpAny_loadPart' hl,wpAny_pyIter_tuple hL
   exact⟨_,rfl,h⟩
section
variable {prog:Program}{w:World}{A:Around}{E:Value->Shared->Prop}{s:Shared}
theorem dS {l:Addr}{items:Array Value}{Q:Value->Shared->Prop}(hL:s.heap.IsTuple l items)
  (h:∀ h',IsEnum h' (s.heap.objs.size + 1) s.heap.objs.size 0 .none->h'.IsTupleIter s.heap.objs.size l 0->h'.objs.size=s.heap.objs.size + 2 ->
   (∀ b o,s.heap.get? b=some o->h'.get? b=some o)->Q (.ref (s.heap.objs.size + 1)) { s with heap:=h' }) :
  wpAny (model prog w) A (call (.type "enumerate") [.ref l]) Q E s:=by
 obtain⟨⟨c,OC,dt,sl⟩,hl,hc,n,hd⟩:=hL
 replace hc:c = .type "tuple":=hc
 replace hd:dt = .seq items n:=hd
 subst hc hd
 refine callType_new F.called_enumerate (by decide) (F.typeCall_enumerate_1 _) (F.newCall_enumerate_1 _) (fun obj=>F.args_object_init_2 obj _) F.entry_enumerate_new
  (dR l items n OC sl) ⟨hl,?_⟩
 have hz:(s.heap.push { cls := .type "tuple_iterator",data := .fields #[.ref l, .int 0 0] }).objs.size=s.heap.objs.size + 1:=size_push ..
 show _/\_
 rw[hz]
 have he:IsEnum ((s.heap.push { cls := .type "tuple_iterator",data := .fields #[.ref l, .int 0 0] }).push
   { cls := .type "enumerate",data := .fields #[.none, .bool false, .ref s.heap.objs.size,rawInt 0, .none, .none] }) (s.heap.objs.size + 1) s.heap.objs.size 0 .none:=by
  have:=Heap.get?_push_size (s.heap.push { cls := .type "tuple_iterator",data := .fields #[.ref l, .int 0 0] })
   (o:={ cls := .type "enumerate",data := .fields #[.none, .bool false, .ref s.heap.objs.size,rawInt 0, .none, .none] }) rfl
  rw[hz]at this;exact this
 refine⟨⟨_,he,rfl⟩,h _ he ⟨_,Heap.get?_push_of_some _ (Heap.get?_push_size _ rfl),rfl,rfl⟩ (by rw[size_push,hz]) fun b o x=>Heap.get?_push_of_some _ (Heap.get?_push_of_some _ x)⟩
theorem fz {it l:Addr}{i:Nat} {items} {x:Value} {Q:Value->Shared->Prop} (hit:s.heap.IsTupleIter it l i)
  (hl:s.heap.IsTuple l items) (hx:items[i]? = some x)
  (hQ:∀ h',h'.IsTupleIter it l (i + 1)->Heap.SameBut it s.heap h'->Q x { s with heap:=h' }) :
  wpAny (model prog w) A (Builtin.SmallTypes.nextOf (.ref it)) Q E s:=by
 obtain⟨o,ho,hc,hd⟩:=id hit
 obtain⟨ol,Eb,_,nl,Dx⟩:=hl
 unfold Builtin.SmallTypes.nextOf
 refine wpAny_bind (wpAny_callSpecial?_slot (name:=Str.ofString "__next__") hit.typeIs F.slot_tuple_iterator_next
  (wpAny_call_entry F.slot_tuple_iterator_next hit.typeIs F.entry_tuple_iterator_next ?_ (F.args_tuple_iterator_next_1 _)))
 show wpAny _ _ (field (.ref it) 0 >>= _) _ _ s
 refine wpAny_bind (wpAny_field ho hd (x := .ref l) rfl ?_)
 show wpAny _ _ (if (Value.ref l == Value.none)=true then _ else _) _ _ s
 rw[if_neg (show ¬ ((Value.ref l == Value.none)=true) from Bool.false_ne_true)]
 show wpAny _ _ (field (.ref it) 1 >>= _) _ _ s
 refine wpAny_bind (wpAny_field ho hd (x := .int i 0) rfl ?_)
 show wpAny _ _ (seqItems? (.ref l) >>= _) _ _ s
 refine wpAny_bind (wpAny_seqItems Eb Dx ?_)
 simp only[toNat_natCast,hx]
 refine wpAny_bind (wpAny_setField ho hd (by simp) (wpAny_pure ⟨x,rfl,wpAny_pure (hQ _ ?_ (Heap.SameBut.update ..))⟩))
 exact⟨_,Heap.get?_update_self _ ho (Obj.isFreed_of_fields (Obj.data_mapFields hd _)),(Obj.cls_mapFields ..).trans hc,by
  rw[Obj.data_mapFields hd];simp[rawInt]⟩
theorem fH {it l:Addr}{i:Nat} {items} {Q:Value->Shared->Prop} (hh:A.handled=none)
  (hit:s.heap.IsTupleIter it l i) (hl:s.heap.IsTuple l items) (hx:items[i]? = none)
  (hE:∀ h' e,Heap.ExtBut it s.heap h'->(∃ o,h'.get? e=some o/\o.cls = .type "StopIteration")->E (.ref e) { s with heap:=h' }) :
  wpAny (model prog w) A (Builtin.SmallTypes.nextOf (.ref it)) Q E s:=by
 obtain⟨o,ho,hc,hd⟩:=id hit
 obtain⟨ol,Eb,_,nl,Dx⟩:=hl
 unfold Builtin.SmallTypes.nextOf
 refine wpAny_bind (wpAny_callSpecial?_slot (name:=Str.ofString "__next__") hit.typeIs F.slot_tuple_iterator_next
  (wpAny_call_entry F.slot_tuple_iterator_next hit.typeIs F.entry_tuple_iterator_next ?_ (F.args_tuple_iterator_next_1 _)))
 show wpAny _ _ (field (.ref it) 0 >>= _) _ _ s
 refine wpAny_bind (wpAny_field ho hd (x := .ref l) rfl ?_)
 show wpAny _ _ (if (Value.ref l == Value.none)=true then _ else _) _ _ s
 rw[if_neg (show ¬ ((Value.ref l == Value.none)=true) from Bool.false_ne_true)]
 show wpAny _ _ (field (.ref it) 1 >>= _) _ _ s
 refine wpAny_bind (wpAny_field ho hd (x := .int i 0) rfl ?_)
 show wpAny _ _ (seqItems? (.ref l) >>= _) _ _ s
 refine wpAny_bind (wpAny_seqItems Eb Dx ?_)
 simp only[toNat_natCast,hx]
 refine wpAny_bind (wpAny_rule (wpAny_bind (wpAny_setField ho hd (by simp) ?_)))
 show wpAny _ _ (newExc (.type "StopIteration") [] >>= _) _ _ _
 refine wpAny_bind ?_
 simp only[newExc,newTuple]
 refine wpAny_bind (wpAny_newObj_type ?_ (by size_fits))
 refine wpAny_bind (m:=firstArgMember _ _) (wpAny_of_eq (a:=Value.none) (by first | rfl | (simp only[firstArgMember];rfl)) ?_)
 refine wpAny_newObj_type ?_ (by size_fits)
 simp only[raiseNew]
 refine wpAny_bind (wpAny_handled ?_)
 first | rw[show A.in1.handled=none from hh] | rw[hh]
 refine wpAny_bind (wpAny_pure (wpAny_throw ?_))
 exact hE _ _ (((Heap.SameBut.update ..).extBut.push _).push _) ⟨_,Heap.get?_push_size _ rfl,rfl⟩
end
theorem fB {prog:Program}{w:World}{A:Around}(hh:A.handled=none)(it l:Addr)(Ac:l ≠ it)(items:Array Value) :
  Draws prog w A it [it,l] items.size (fun i v=>items[i]? = some v) (fun i h=>h.IsTupleIter it l i/\h.IsTuple l items) where
 live:=fun _ _ st=>let ⟨o,ho,_⟩:=st.1; ⟨o,ho⟩
 frame:=fun _ _ _ st hk=>⟨st.1.at fun o e=>hk it (by simp) o e,let ⟨o,ho,r⟩:=st.2; ⟨o,hk l (by simp) o ho,r⟩⟩
 item:=fun i s Q E hi st hQ=>by
  refine fz st.1 st.2 (x:=items[i]) (by simp[hi]) fun h' OD Mx=>?_
  exact hQ _ h' s.toks (by simp[hi]) ⟨OD,let ⟨o,ho,r⟩:=st.2; ⟨o,Mx.extBut l o Ac ho,r⟩⟩ Mx
 done:=fun s Q E st hE=>fH hh st.1 st.2 (by simp) hE
end PySem
namespace L2
open PySem PySem.Spec PyProof.Rows
section
variable {X:Cx}{pins:List (Addr × Obj)}{σ:St}{H:Hp}{s:Shared}
theorem Inv.F1 {h':Heap}{t':Nat}{a b p:Addr}{xs:List V}{us:List Value}(I:Inv X pins σ H s)(fa:eG X pins H a)(fb:eG X pins H b)(hp:s.heap.objs.size <= p)
  (k:∀ c o,c ≠ a->c ≠ b->s.heap.get? c=some o->h'.get? c=some o) (ka:∃ o,h'.get? a=some o) (kb:∃ o,h'.get? b=some o) (hl:xs.length <= sizeLine) (r:Vals xs us) (ht:yG h' p us.toArray) :
  Inv X pins σ (upd H p (.tup xs)) { s with heap:=h',toks:=t' }:=by
 have hf:H p=none:=I.xY.fresh hp
 have nt:∀ c u,H c=some u->c ≠ p:=fun c u q z=>by rw[z,hf]at q;cases q
 have lt:∀ c o,s.heap.get? c=some o->c ≠ p:=fun c o q=>ne_of_lt (lt_of_lt_of_le (lt_size q) hp)
 have ne:∀ c,c ∉ [a,b]->c ≠ a/\c ≠ b:=fun c hc=>by simpa using hc
 refine I.call (g':=s.gens) (d':=s.drawn) (ch:=[a,b]) ⟨fun c o e n h1 h2=>k c o (ne c h2).1 (ne c h2).2 e,fun c o e n h1 h2=>⟨o.slots,k c o (ne c h2).1 (ne c h2).2 e⟩,fun c o e n h2=>by rw[ae (lt c o e)];exact n,
  fun c o e h2=>⟨o,k c o (ne c h2).1 (ne c h2).2 e⟩,fun c ys q=>by rw[ae (nt c _ q)];exact q,fun c o u q=>by rw[ae (nt c _ q)];exact q,fun c ps q=>⟨#[],by rw[ae (nt c _ q),q];simp⟩⟩ (fun c u q=>?_) I.bare fun c hc=>?_
 ·by_cases hc:c=p
  ·subst hc
   rw[ac]at q
   cases q
   exact⟨hl,us,r,ht⟩
  ·rw[ae hc]at q
   refine(I.xY c u q).zc (fun d v hd z=>?_) (fun d z=>by rw[ae (nt d _ z)];exact z) fun d ys z=>by rw[ae (nt d _ z)];exact z
   have nd:∀ e,H e=none->d ≠ e:=fun e he w=>by
    rcases hd with rfl | hd
    ·rw[w,he]at q;cases q
    ·rw[w,he]at hd;cases hd
   exact k d v (nd a fa.1) (nd b fb.1) z
 ·have Cd:c=a∨c=b:=by simpa using hc
  rcases Cd with rfl | rfl
  ·obtain⟨_,f1,_,f3,f4,f5⟩:=fa;exact⟨f3,f1,f4,f5⟩
  ·obtain⟨_,f1,_,f3,f4,f5⟩:=fb;exact⟨f3,f1,f4,f5⟩
theorem Inv.Bp {h':Heap}{t':Nat}{a b:Addr}(I:Inv X pins σ H s)(fa:eG X pins H a)(fb:eG X pins H b)
  (k:∀ c o,c ≠ a->c ≠ b->s.heap.get? c=some o->h'.get? c=some o):Inv X pins σ H { s with heap:=h',toks:=t' }:=by
 have ne:∀ c,c ∉ [a,b]->c ≠ a/\c ≠ b:=fun c hc=>by simpa using hc
 refine I.call (g':=s.gens) (d':=s.drawn) (ch:=[a,b]) ⟨fun c o e n h1 h2=>k c o (ne c h2).1 (ne c h2).2 e,fun c o e n h1 h2=>⟨o.slots,k c o (ne c h2).1 (ne c h2).2 e⟩,fun c o e n h2=>n,
  fun c o e h2=>⟨o,k c o (ne c h2).1 (ne c h2).2 e⟩,fun c ys q=>q,fun c o u q=>q,fun c ps q=>⟨#[],by rw[q];simp⟩⟩ (fun c u q=>?_) I.bare fun c hc=>?_
 ·refine(I.xY c u q).zc (fun d v hd z=>?_) (fun d z=>z) fun d ys z=>z
  have nd:∀ e,H e=none->d ≠ e:=fun e he w=>by
   rcases hd with rfl | hd
   ·rw[w,he]at q;cases q
   ·rw[w,he]at hd;cases hd
  exact k d v (nd a fa.1) (nd b fb.1) z
 ·have Cd:c=a∨c=b:=by simpa using hc
  rcases Cd with rfl | rfl
  ·obtain⟨_,f1,_,f3,f4,f5⟩:=fa;exact⟨f3,f1,f4,f5⟩
  ·obtain⟨_,f1,_,f3,f4,f5⟩:=fb;exact⟨f3,f1,f4,f5⟩
theorem jR {e it:Addr}{fp:List Addr}{n i:Nat}{P:Nat->Value->Prop}{Sx:Nat->Heap->Prop}{old:Value}{xs:List V}{E:Value->Shared->Prop}{elts:List Expr}{kk:Nat}{pos:Pos}
  (D:Draws X.prog X.w X.A.in1 it fp n P Sx) (I:Inv X pins σ H s) (he:IsEnum s.heap e it i old) (An:Sx i s.heap) (yu:i < n) (Ac:e ≠ it) (SF:e ∉ fp) (fe:eG X pins H e) (fi:eG X pins H it)
  (hP:∀ v,P i v->∃ x,xs[i]? = some x/\RelV x v) :
  wpAny (model X.prog X.w) X.A (pyNext (.ref e)) (fun r s1=>∃ u,r=some u/\wpAny (model X.prog X.w) X.A (letOwnedTupleGo (.Tuple elts kk pos) (.ref e) u) (fun _ s2=>∃ p x,xs[i]? = some x/\H p=none/\u = .ref p /\
   Inv X pins σ (upd H p (.tup [.int i,x])) s2/\(∃ old,IsEnum s2.heap e it ((i + 1:Nat):Int) old)/\Sx (i + 1) s2.heap/\p ≠ e/\p ≠ it) E s1) E s:=by
 refine wpAny_pyNext_enum_itemD D he An yu Ac SF fun x h' tk hx ho Mx hT hsz hk=>⟨_,rfl,?_⟩
 refine wpAny_letOwnedTupleGo_enum ho fun h2 CW Az=>?_
 obtain⟨y,hy,ry⟩:=hP x hx
 have SG:e < s.heap.objs.size:=lt_size he
 have hie:it < s.heap.objs.size:=by obtain⟨_,z⟩:=D.live _ _ An;exact lt_size z
 have IM:Sx (i + 1) h2:=D.frame _ _ _ Mx fun b hb o z=>(Az.2 b fun q=>SF (q ▸ hb)).trans z
 refine⟨s.heap.objs.size,y,hy,I.xY.fresh (le_refl _),rfl,?_,⟨x,by simpa using CW⟩,IM,ne_of_gt SG,ne_of_gt hie⟩
 refine Inv.F1 (s:=s) (h':=h2) (t':=tk + 1) I fe fi (le_refl _) (fun c o h1 IP z=>(Az.2 c h1).trans (hk c o h1 IP z)) ⟨_,CW⟩ (let ⟨o,z⟩:=D.live _ _ IM; ⟨o,z⟩) (by show 2 <= sizeLine;decide) (us:=[.int i tk,x]) (.cons ⟨tk,rfl⟩ (.cons ry .nil)) ?_
 exact⟨_,(Az.2 _ (ne_of_gt SG)).trans hT,⟨rfl,_,rfl⟩,rfl⟩
end
noncomputable def xJ (sq:Hp->List V->Prop):It :=
 ⟨fun i H=>∃ xs x,sq H xs/\xs[i]? = some x,fun i H v H'=>∃ p,H p=none/\v = .ref p/\∀ xs,sq H xs->∃ x,xs[i]? = some x/\H' = upd H p (.tup [.int i,x]),fun i H=>∃ xs,sq H xs/\xs.length=i⟩
theorem mG {P:Program}{w:World}{K:Frag}{elts:List Expr}{kk:Nat}{pos:Pos}(a e it:Addr)(Ac:e ≠ it):lc P w K (.Tuple elts kk pos) (xJ fun H=>xS K H a) [e,it] e (fun i h=>(∃ old,IsEnum h e it (i:Int) old)/\h.IsListIter it a i) where
 mem:=by simp
 obj:=fun i h st b hb=>by
  obtain⟨⟨old,he⟩,o,ho,c,d⟩:=st
  have Ab:b=e∨b=it:=by simpa using hb
  rcases Ab with rfl | rfl
  ·exact⟨_,he,fun v z=>by have z':Data.fields _=Data.cell v:=z;cases z'⟩
  ·exact⟨o,ho,fun v z=>by rw[d]at z;cases z⟩
 keep:=fun i h h' st k=>by
  obtain⟨⟨old,he⟩,hi⟩:=st
  exact⟨⟨old,k e (by simp) _ he⟩,hi.at fun o z=>k it (by simp) o z⟩
 item:=by
  intro X hP hw hK hc i pins s σ H E I hf st hg
  subst hP hw hK
  obtain⟨xs,x,hq,hx⟩:=hg
  obtain⟨xT,rv,p,hz⟩:=I.list hq
  obtain⟨⟨old,he⟩,hi⟩:=st
  have hl:i < xT.toArray.size:=by
   have:=(gQ0 hx)
   have l2:=rv.length
   simp;omega
  have OE:e ≠ a:=by
   rintro rfl
   obtain⟨o,ho,BG,_⟩:=p.isList
   rw[he]at ho;cases ho
   injection BG with z;exact absurd z (by decide)
  have F2:a ≠ it:=by
   rintro rfl
   obtain⟨o,ho,BG,_⟩:=p.isList
   obtain⟨o2,zq,Ag,_⟩:=hi
   rw[ho]at zq;cases zq;rw[BG]at Ag
   injection Ag with z;exact absurd z (by decide)
  refine bq (jR (xs:=xs) (Draws.list (A:=X.A.in1) (I.ok.hd hc) it a F2 xT.toArray) I he ⟨hi,p.isList⟩ hl Ac (by simp only[mem_cons,not_mem_nil,or_false,not_or];exact⟨Ac,OE⟩) (hf e (by simp)) (hf it (by simp)) fun v hv=>?_) fun r s1 ⟨u,hr,h1⟩=>⟨u,hr,bq h1 fun _ s2 ⟨q,y,hy,OF,hu,I2,CW,Az,n1,n2⟩=>?_⟩
  ·obtain⟨u,hu,ru⟩:=rv.get hx
   have e1:xT[i]? = some v:=by simpa using hv
   rw[hu]at e1;cases e1
   exact⟨x,hx,ru⟩
  ·refine⟨.ref q,_,I2,hu,⟨q,OF,rfl,fun zs OG=>⟨y,by rw[I.zH OG hq];exact hy,rfl⟩⟩,⟨CW,Az.1⟩,fun b hb=>?_⟩
   have Ab:b=e∨b=it:=by simpa using hb
   rcases Ab with rfl | rfl
   ·rw[ae (Ne.symm n1)];exact(hf b (by simp)).1
   ·rw[ae (Ne.symm n2)];exact(hf b (by simp)).1
 done:=by
  intro X hP hw hK hc i pins s σ H E I hf st hg
  subst hP hw hK
  obtain⟨xs,hq,hx⟩:=hg
  obtain⟨xT,rv,p,hz⟩:=I.list hq
  obtain⟨⟨old,he⟩,hi⟩:=st
  have hl:i=xT.toArray.size:=by have l2:=rv.length;simp;omega
  have F2:a ≠ it:=by
   rintro rfl
   obtain⟨o,ho,BG,_⟩:=p.isList
   obtain⟨o2,zq,Ag,_⟩:=hi
   rw[ho]at zq;cases zq;rw[BG]at Ag
   injection Ag with z;exact absurd z (by decide)
  refine wpAny_pyNext_enum_endD (Draws.list (A:=X.A.in1) (I.ok.hd hc) it a F2 xT.toArray) he (by rw[← hl];exact⟨hi,p.isList⟩) fun h' Ce=>⟨rfl,?_⟩
  exact I.Bp (t':=s.toks) (hf e (by simp)) (hf it (by simp)) fun c o h1 h2 z=>Ce c o h2 z
 self:=fun _ _ _ _ _ st h=>by
  obtain⟨⟨old,he⟩,_⟩:=st
  exact wpAny_pyIter_enum he h
theorem mF {P:Program}{w:World}{K:Frag}{elts:List Expr}{kk:Nat}{pos:Pos}(a e it:Addr)(Ac:e ≠ it):lc P w K (.Tuple elts kk pos) (xJ fun H=>xV K H a) [e,it] e (fun i h=>(∃ old,IsEnum h e it (i:Int) old)/\h.IsTupleIter it a i) where
 mem:=by simp
 obj:=fun i h st b hb=>by
  obtain⟨⟨old,he⟩,o,ho,c,d⟩:=st
  have Ab:b=e∨b=it:=by simpa using hb
  rcases Ab with rfl | rfl
  ·exact⟨_,he,fun v z=>by have z':Data.fields _=Data.cell v:=z;cases z'⟩
  ·exact⟨o,ho,fun v z=>by rw[d]at z;cases z⟩
 keep:=fun i h h' st k=>by
  obtain⟨⟨old,he⟩,hi⟩:=st
  exact⟨⟨old,k e (by simp) _ he⟩,hi.at fun o z=>k it (by simp) o z⟩
 item:=by
  intro X hP hw hK hc i pins s σ H E I hf st hg
  subst hP hw hK
  obtain⟨xs,x,hq,hx⟩:=hg
  obtain⟨xT,rv,p,hz⟩:=I.tuple hq
  have pt:s.heap.IsTuple a xT.toArray:=p
  obtain⟨⟨old,he⟩,hi⟩:=st
  have hl:i < xT.toArray.size:=by
   have:=(gQ0 hx)
   have l2:=rv.length
   simp;omega
  have OE:e ≠ a:=by
   rintro rfl
   obtain⟨o,ho,BG,_⟩:=pt
   rw[he]at ho;cases ho
   injection BG with z;exact absurd z (by decide)
  have F2:a ≠ it:=by
   rintro rfl
   obtain⟨o,ho,BG,_⟩:=pt
   obtain⟨o2,zq,Ag,_⟩:=hi
   rw[ho]at zq;cases zq;rw[BG]at Ag
   injection Ag with z;exact absurd z (by decide)
  refine bq (jR (xs:=xs) (fB (A:=X.A.in1) (I.ok.hd hc) it a F2 xT.toArray) I he ⟨hi,pt⟩ hl Ac (by simp only[mem_cons,not_mem_nil,or_false,not_or];exact⟨Ac,OE⟩) (hf e (by simp)) (hf it (by simp)) fun v hv=>?_) fun r s1 ⟨u,hr,h1⟩=>⟨u,hr,bq h1 fun _ s2 ⟨q,y,hy,OF,hu,I2,CW,Az,n1,n2⟩=>?_⟩
  ·obtain⟨u,hu,ru⟩:=rv.get hx
   have e1:xT[i]? = some v:=by simpa using hv
   rw[hu]at e1;cases e1
   exact⟨x,hx,ru⟩
  ·refine⟨.ref q,_,I2,hu,⟨q,OF,rfl,fun zs OG=>⟨y,by rw[I.zl OG hq];exact hy,rfl⟩⟩,⟨CW,Az.1⟩,fun b hb=>?_⟩
   have Ab:b=e∨b=it:=by simpa using hb
   rcases Ab with rfl | rfl
   ·rw[ae (Ne.symm n1)];exact(hf b (by simp)).1
   ·rw[ae (Ne.symm n2)];exact(hf b (by simp)).1
 done:=by
  intro X hP hw hK hc i pins s σ H E I hf st hg
  subst hP hw hK
  obtain⟨xs,hq,hx⟩:=hg
  obtain⟨xT,rv,p,hz⟩:=I.tuple hq
  have pt:s.heap.IsTuple a xT.toArray:=p
  obtain⟨⟨old,he⟩,hi⟩:=st
  have hl:i=xT.toArray.size:=by have l2:=rv.length;simp;omega
  have F2:a ≠ it:=by
   rintro rfl
   obtain⟨o,ho,BG,_⟩:=pt
   obtain⟨o2,zq,Ag,_⟩:=hi
   rw[ho]at zq;cases zq;rw[BG]at Ag
   injection Ag with z;exact absurd z (by decide)
  refine wpAny_pyNext_enum_endD (fB (A:=X.A.in1) (I.ok.hd hc) it a F2 xT.toArray) he (by rw[← hl];exact⟨hi,pt⟩) fun h' Ce=>⟨rfl,?_⟩
  exact I.Bp (t':=s.toks) (hf e (by simp)) (hf it (by simp)) fun c o h1 h2 z=>Ce c o h2 z
 self:=fun _ _ _ _ _ st h=>by
  obtain⟨⟨old,he⟩,_⟩:=st
  exact wpAny_pyIter_enum he h
section
variable {X:Cx}{elts:List Expr}{kk:Nat}{zY p pos:Pos}{a:Expr}{ta:TE}
noncomputable def OH (K:Frag)(t:TA):TI:=fun σ H R=>t σ H fun vs H1=>∃ a,vs=[.ref a]/\(∃ xs,xS K H1 a xs)/\R (xJ fun H=>xS K H a) H1
noncomputable def OI (K:Frag)(t:TA):TI:=fun σ H R=>t σ H fun vs H1=>∃ a,vs=[.ref a]/\(∃ xs,xV K H1 a xs)/\R (xJ fun H=>xV K H a) H1
theorem l7 {t:TA}(hg:Gl X "enumerate")(hm:X.mg "enumerate" = none)(ha:PA X [a] t)(hs:autoParam (starEach [a] X.env=[(false,eval a X.env)]) η):PI X (.Tuple elts kk zY) (.Call (.Name "enumerate" p) [a] [] pos) (OH X.K t):=by
 intro pins s σ H R I h
 refine Call_ (fP I hg hm boot_enumerate (PyProof.Rows.callWith_type1 (bq (ha pos pins s σ H _ I h) fun us s1 xU=>?_) hs rfl))
 obtain⟨vs,H1,I1,r1,q1⟩:=xU
 obtain⟨l,e,⟨xs,hq⟩,q⟩:=q1
 subst e
 cases r1 with
 | cons r rr =>
  cases rr
  cases r
  obtain⟨xT,rv,pp,hz⟩:=I1.list hq
  refine call_enumerate_list pp.isList fun h' he hit hsz hk=>?_
  have I2:Inv X pins σ H1 { s1 with heap:=h' }:=I1.kept (t':=s1.toks) hk
  refine wpAny_pyIter_enum (s:={ s1 with heap:=h' }) he ?_
  refine⟨_,_,_,_,H1,rfl,I2,mG l _ s1.heap.objs.size (Nat.succ_ne_self _),⟨⟨_,he⟩,hit⟩,fun b hb=>?_,q⟩
  have Ab:b=s1.heap.objs.size + 1∨b=s1.heap.objs.size:=by simpa using hb
  have hle:s1.heap.objs.size <= b:=by
   rcases Ab with e | e
   ·rw[e];exact le_succ _
   ·rw[e];exact le_refl _
  exact I1.AV hle (I1.xY.fresh hle)
theorem jc {t:TA}(hg:Gl X "enumerate")(hm:X.mg "enumerate" = none)(ha:PA X [a] t)(hs:autoParam (starEach [a] X.env=[(false,eval a X.env)]) η):PI X (.Tuple elts kk zY) (.Call (.Name "enumerate" p) [a] [] pos) (OI X.K t):=by
 intro pins s σ H R I h
 refine Call_ (fP I hg hm boot_enumerate (PyProof.Rows.callWith_type1 (bq (ha pos pins s σ H _ I h) fun us s1 xU=>?_) hs rfl))
 obtain⟨vs,H1,I1,r1,q1⟩:=xU
 obtain⟨l,e,⟨xs,hq⟩,q⟩:=q1
 subst e
 cases r1 with
 | cons r rr =>
  cases rr
  cases r
  obtain⟨xT,rv,pp,hz⟩:=I1.tuple hq
  refine dS (show s1.heap.IsTuple l xT.toArray from pp) fun h' he hit hsz hk=>?_
  have I2:Inv X pins σ H1 { s1 with heap:=h' }:=I1.kept (t':=s1.toks) hk
  refine wpAny_pyIter_enum (s:={ s1 with heap:=h' }) he ?_
  refine⟨_,_,_,_,H1,rfl,I2,mF l _ s1.heap.objs.size (Nat.succ_ne_self _),⟨⟨_,he⟩,hit⟩,fun b hb=>?_,q⟩
  have Ab:b=s1.heap.objs.size + 1∨b=s1.heap.objs.size:=by simpa using hb
  have hle:s1.heap.objs.size <= b:=by
   rcases Ab with e | e
   ·rw[e];exact le_succ _
   ·rw[e];exact le_refl _
  exact I1.AV hle (I1.xY.fresh hle)
end
theorem jv {sq:Hp->List V->Prop}{xs:List V}{g:TG}{tb:TS}{D:j1}{σ:St}{H:Hp}(Pv:Nat->St->Hp->Prop)(h0:Pv 0 σ H)(hl:∀ i σ H,i <= xs.length->Pv i σ H->sq H xs)
  (hs:∀ i x p σ H,xs[i]? = some x->Pv i σ H->H p=none->g (.ref p) σ (upd H p (.tup [.int i,x])) fun σ2 H2=>tb { D with nx:=Pv (i + 1),ct:=Pv (i + 1),bk:=D.nx } σ2 H2) (hd:∀ σ H,Pv xs.length σ H->D.nx σ H) :
  ∃ W:Nat->Nat->St->Hp->Prop,(∃ m,W 0 m σ H)/\∀ i m σ H,W i m σ H ->
   ((xJ sq).stop i H/\D.nx σ H)∨((xJ sq).go i H/\∃ N:St->Hp->Prop,(∀ σ' H',N σ' H'->∃ m',m' < m/\W (i + 1) m' σ' H')/\∀ x H',(xJ sq).CS i H x H'->g x σ H' fun σ2 H2=>tb { D with nx:=N,ct:=N,bk:=D.nx } σ2 H2):=by
 refine⟨fun i m σ H=>m=xs.length - i/\i <= xs.length/\Pv i σ H,⟨xs.length,by simp,zero_le _,h0⟩,?_⟩
 rintro i m σ H ⟨rfl,hi,p⟩
 have q:=hl i σ H hi p
 by_cases yu:i < xs.length
 ·refine .inr ⟨⟨xs,xs[i],q,by simp[yu]⟩,Pv (i + 1),fun σ' H' p'=>⟨xs.length - (i + 1),by omega,rfl,yu,p'⟩,fun x H' y=>?_⟩
  obtain⟨pp,hn,rfl,hx⟩:=y
  obtain⟨x',Ce,e⟩:=hx xs q
  subst e
  exact hs i x' pp σ H Ce p hn
 ·have e:i=xs.length:=by omega
  subst e
  exact .inl ⟨⟨xs,q,rfl⟩,hd σ H p⟩
noncomputable def zE (d:PyData)(m:Nat):Prop:=d.canLay0=true/\d.depth <= m
theorem zE.shaped {d:PyData}{m:Nat}(h:zE d m)(hm:m <= 64):SeqAt.shaped d=true:=by
 unfold SeqAt.shaped
 rw[h.1,decide_eq_true (le_trans h.2 hm)];rfl
theorem dq (i:Int):zE (.int i) 0:=⟨by simp[PyData.canLay0],by simp[PyData.depth]⟩
theorem k8 {m:Nat}:∀ {ds:List PyData},(∀ d ∈ ds,zE d m)->PyData.canLayAll0 ds=true/\PyData.depthAll ds <= m
 | [],_=>⟨by simp[PyData.canLayAll0],by simp[PyData.depthAll]⟩
 | d :: r,h=>by
  obtain⟨a,b⟩:=k8 (ds:=r) fun z hz=>h z (mem_cons_of_mem _ hz)
  obtain⟨c,e⟩:=h d mem_cons_self
  exact⟨by simp[PyData.canLayAll0,c,a],by simp only[PyData.depthAll];omega⟩
theorem eI {m:Nat}{ds:List PyData}(h:∀ d ∈ ds,zE d m):zE (.list ds) (m + 1):=by
 obtain⟨a,b⟩:=k8 h
 exact⟨by simp[PyData.canLay0,a],by simp only[PyData.depth];omega⟩
theorem eW {m:Nat}{ds:List PyData}(h:∀ d ∈ ds,zE d m):zE (.tuple ds) (m + 1):=by
 obtain⟨a,b⟩:=k8 h
 exact⟨by simp[PyData.canLay0,a],by simp only[PyData.depth];omega⟩
theorem SH {K:Frag}{x y:V}{H:Hp}{Q:VK}{d:PyData}(h1:j9 K H x d)(h2:j9 K H y d)(s:zE d 64)(q:Q (.bl false) H):uj K x y H Q :=
 ⟨d,d,h1,h2,s.shaped (le_refl _),s.shaped (le_refl _),by rw[SeqAt.eqv_refl d s.1];exact q⟩
theorem zE.le {d:PyData}{m n:Nat}(h:zE d m)(l:m <= n):zE d n:=⟨h.1,le_trans h.2 l⟩
end L2
namespace L2
open PySem
theorem lS {n:Nat}{lo:Int}{g:TG}{tt:TT}{te:TE}{σ0:St}{H:Hp}{Q:VK}(p:Nat->Bool)(f:Nat->V)(hn:n < sizeLine)
  (hs:∀ (i:Nat)(acc:List V)(N:List V->Hp->Prop),i < n->N (if p i then acc ++ [f i] else acc) H->g (.int (lo + i)) σ0 H fun σ2 H2=>tt σ2 H2 fun b H3=>if b=true then te σ2 H3 fun y H4=>N (acc ++ [y]) H4 else N acc H3)
  (hq:∀ D,H D=none->Q (.ref D) (upd H D (.lst (((List.range n).filter p).map f)))) :
  cQ (tK lo n) g tt te σ0 Q H:=by
 refine⟨fun i m acc H'=>m=n - i/\i <= n/\H' = H/\acc=((List.range i).filter p).map f,⟨n,by simp,zero_le _,rfl,rfl⟩,?_⟩
 rintro i m acc H' ⟨rfl,hi,rfl,rfl⟩
 have hl:(((List.range i).filter p).map f).length < sizeLine:=by
  rw[length_map]
  have:=length_filter_le p (List.range i)
  rw[length_range]at this
  omega
 refine⟨hl,?_⟩
 by_cases yu:i < n
 ·refine .inr ⟨yu,fun yB H2=>H2=H'/\yB = ((List.range (i + 1)).filter p).map f,fun yB H2 xU=>by obtain⟨h1,h2⟩:=xU;exact⟨n - (i + 1),by omega,rfl,yu,h1,h2⟩,fun x H2 y=>?_⟩
  obtain⟨e,y⟩:=y
  subst e y
  refine hs i _ (fun yB H3=>H3=H2/\yB = ((List.range (i + 1)).filter p).map f) yu ⟨rfl,?_⟩
  rw[range_succ,filter_append]
  cases hp:p i with
  | true=>simp[hp]
  | false=>simp[hp]
 ·have e:i=n:=by omega
  subst e
  exact .inl ⟨le_refl _,hq⟩
theorem gE {K:Frag}{a:Addr}{xs:List V}{g:TG}{tt:TT}{te:TE}{σ0:St}{H:Hp}{Q:VK}(p:V->Bool)(f:V->V)(hn:xs.length < sizeLine)(ha:xS K H a xs)
  (hs:∀ (x:V)(acc:List V)(N:List V->Hp->Prop),x ∈ xs->N (if p x then acc ++ [f x] else acc) H->g x σ0 H fun σ2 H2=>tt σ2 H2 fun b H3=>if b=true then te σ2 H3 fun y H4=>N (acc ++ [y]) H4 else N acc H3)
  (hq:∀ D,H D=none->Q (.ref D) (upd H D (.lst ((xs.filter p).map f)))) :
  cQ (tL K a) g tt te σ0 Q H:=by
 refine⟨fun i m acc H'=>m=xs.length - i/\i <= xs.length/\H' = H/\acc=((xs.take i).filter p).map f,⟨xs.length,by simp,zero_le _,rfl,rfl⟩,?_⟩
 rintro i m acc H' ⟨rfl,hi,rfl,rfl⟩
 have hl:(((xs.take i).filter p).map f).length < sizeLine:=by
  rw[length_map]
  have h1:=length_filter_le p (xs.take i)
  have h2:=length_take_le i xs
  omega
 refine⟨hl,?_⟩
 by_cases yu:i < xs.length
 ·refine .inr ⟨⟨xs,xs[i],ha,by simp[yu]⟩,fun yB H2=>H2=H'/\yB = ((xs.take (i + 1)).filter p).map f,fun yB H2 xU=>by obtain⟨h1,h2⟩:=xU;exact⟨xs.length - (i + 1),by omega,rfl,yu,h1,h2⟩,fun x H2 y=>?_⟩
  obtain⟨e,y⟩:=y
  subst e
  have hx:=y xs ha
  refine hs x _ (fun yB H3=>H3=H2/\yB = ((xs.take (i + 1)).filter p).map f) (mem_of_getElem? hx) ⟨rfl,?_⟩
  rw[take_succ,hx,filter_append]
  cases hp:p x with
  | true=>simp[hp]
  | false=>simp[hp]
 ·have e:i=xs.length:=by omega
  subst e
  rw[take_length]
  exact .inl ⟨⟨xs,ha,le_refl _⟩,hq⟩
theorem iH (k:Int):∀ ns:List Int,GV (.int k) (ns.map V.int)=decide (k ∈ ns)
 | []=>by simp[GV]
 | n :: r=>by
  have ih:=iH k r
  unfold GV at ih ⊢
  rw[map_cons,any_cons,ih]
  show((n == k) || decide (k ∈ r))=decide (k ∈ n :: r)
  by_cases h:k=n
  ·subst h;simp
  ·have h':¬ n=k:=fun z=>h z.symm
   simp[h,h']
theorem fq:∀ ns:List Int,(ns.map V.int).all gy=true
 | []=>rfl
 | n :: r=>by rw[map_cons,all_cons,fq r];rfl
open PySem.Spec PyProof.Rows
section
open PySem.W
variable {prog:Program}{w:World}{A:Around}{E:Value->Shared->Prop}{s:Shared}{K:Frag}{x C:Addr}{name:Str}{v:Value}
end
section
variable {X:Cx}{o e value:Expr}{f:Str}{pos pos':Pos}{ta tv:TE}
end
end L2
namespace L2
open PySem
noncomputable def oU:Option Int->Value->Bool
 | none,v=>v == .none
 | some k,v=>Value.isInt k v
noncomputable def ut:Option Int->Int
 | none=>4238894112
 | some k=>hashInt k
theorem bQ {k:Option Int}{v:Value}(h:oU k v=true):(k=none/\v = .none)∨∃ i t,k=some i/\v = .int i t:=by
 cases k with
 | none=>exact .inl ⟨rfl,eq_of_beq h⟩
 | some i=>obtain⟨t,e⟩:=Value.isInt_shape h;exact .inr ⟨i,t,rfl,e⟩
section
variable {prog:Program}{w:World}{A:Around}{E:Value->Shared->Prop}{s:Shared}
theorem pW {Q:Int->Shared->Prop}(h:Q 4238894112 { s with toks:=s.toks + 1 }):wpAny (model prog w) A (pyHash .none) Q E s:=by
 have hT:s.TypeIs .none "NoneType":=rfl
 unfold pyHash
 have hv:[Value.none].any Value.onHeap=false:=rfl
 refine wpAny_bind ?_
 rw[cRoomFor,if_neg (by rw[hv];exact Bool.false_ne_true)];refine wpAny_pure ?_
 refine wpAny_bind (wpAny_specialOf hT F.slot_NoneType_hash.lookup ?_)
 show wpAny _ _ (if (some (Value.builtin "NoneType.__hash__") == some Value.none)=true then _ else _) Q E s
 rw[if_neg (by rw[beq_builtin_none];exact Bool.false_ne_true)]
 refine wpAny_bind (wpAny_specialOf hT F.slot_NoneType_hash.lookup ?_)
 show wpAny _ _ (callSpecialIfBoundUnlessNone? .none "__hash__" _ >>= _) Q E s
 refine wpAny_bind (wpAny_callSpecialIfBoundUnlessNone?_slot hT F.slot_NoneType_hash (wpAny_call_entry F.slot_NoneType_hash hT F.entry_NoneType_hash
  (show wpAny _ _ (do ret (← mkInt 4238894112)) _ _ s from wpAny_ret_mkInt ?_) (F.args_NoneType_hash_1 _)))
 exact wpAny_pure h
theorem xw {a b:Option Int}{u v:Value}{Q:Bool->Shared->Prop}(hu:oU a u=true)(hv:oU b v=true)(h:Q (decide (a=b)) s):wpAny (model prog w) A (PySem.eqBool u v) Q E s:=by
 rcases bQ hu with ⟨rfl,rfl⟩ | ⟨i,t,rfl,rfl⟩<;>rcases bQ hv with ⟨rfl,rfl⟩ | ⟨j,t',rfl,rfl⟩
 ·unfold eqBool
  refine wpAny_holding ?_
  refine wpAny_ite_split (fun _=>wpAny_bind (wpAny_rule (wpAny_pure (by simpa using h)))) (fun n=>absurd rfl n)
 ·exact PySem.SeqAt.EqAt.none_int j t' prog w E Q (by simpa using h)
 ·exact PySem.SeqAt.EqAt.int_none i t prog w E Q (by simpa using h)
 ·refine wpAny_eqBool_int ?_
  have e:(i == j)=decide (some i=some j):=by
   by_cases q:i=j
   ·simp[q]
   ·simp[q]
  rw[e];exact h
end
noncomputable def dC (prog:Program)(w:World):KeyKind prog w (Option Int) where
 is:=oU
 hash:=ut
 inj:=fun v a b ha hb=>by
  rcases bQ ha with ⟨rfl,rfl⟩ | ⟨i,t,rfl,rfl⟩<;>rcases bQ hb with ⟨rfl,e⟩ | ⟨j,t',rfl,e⟩
  ·rfl
  ·cases e
  ·cases e
  ·cases e;rfl
 byValue:=fun k v h=>by
  rcases bQ h with ⟨_,rfl⟩ | ⟨i,t,_,rfl⟩<;>rfl
 pyHash:=fun {A E s k v Q} hv h=>by
  rcases bQ hv with ⟨rfl,rfl⟩ | ⟨i,t,rfl,rfl⟩
  ·exact pW h
  ·exact wpAny_pyHash_int h
 eqBool:=fun hu hv h=>xw hu hv h
 «strs»:=fun k x t v h=>by
  rcases bQ h with ⟨_,e⟩ | ⟨i,t,_,e⟩<;>cases e
open PySem.Spec PyProof.Rows
abbrev fv:=List (Option Int)
noncomputable def gY:Option Int->V
 | none => .yd
 | some i => .int i
abbrev bO:=fv × Addr × V
abbrev gJ (p:bO)(q:fv × Addr × Value):Prop:=p.1=q.1/\p.2.1=q.2.1/\RelV p.2.2 q.2.2
noncomputable def tJ (P:Program)(w:World)(a:Addr)(xP:List bO):Heap->Prop:=fun h=>xP.length <= sizeLine/\(a == sysModules)=false/\∃ xs,Paired gJ xP xs /\
 ∃ o es ep,h.get? a=some o/\o.ExactDict/\o.data = .dict es ep/\es.toList=xs.map (entryOfKey (tupleKind (dC P w)))/\(xs.map (·.1)).Nodup
noncomputable def bF (P:Program)(w:World)(a:Addr)(xP:List bO):HO := .ext (tJ P w a xP)
noncomputable def y2 (P:Program)(w:World)(H:Hp)(a:Addr)(xP:List bO):Prop:=H a=some (bF P w a xP)/\∀ x ∈ xP,H x.2.1=some (.tup (x.1.map gY))
theorem y2.same {P:Program}{w:World}{H H':Hp}{a:Addr}{xP:List bO}(h:y2 P w H a xP)(s:xN H H'):y2 P w H' a xP:=⟨s _ _ h.1,fun x hx=>s _ _ (h.2 x hx)⟩
noncomputable def c6 (xP:List bO)(k:fv):Option V:=(xP.find? fun x=>decide (x.1=k)).map (·.2.2)
noncomputable def i3 (k:fv)(v:V)(x:bO):bO:=if x.1=k then (x.1,x.2.1,v) else x
noncomputable def cF (xP:List bO)(k:fv)(b:Addr)(v:V):List bO:=if (c6 xP k).isSome then xP.map (i3 k v) else xP ++ [(k,b,v)]
theorem iN {k:fv}:c6 [] k=none:=rfl
theorem bL {x:bO}{xP:List bO}{k:fv}:c6 (x :: xP) k=if x.1=k then some x.2.2 else c6 xP k:=by
 unfold c6
 rw[find?_cons]
 by_cases h:x.1=k
 ·rw[decide_eq_true h,if_pos h];rfl
 ·rw[decide_eq_false h,if_neg h]
theorem qo {xP:List bO}{k k':fv}{v:V}:c6 (xP.map (i3 k v)) k' = if k' = k then (c6 xP k).map (fun _=>v) else c6 xP k':=by
 induction xP with
 | nil=>rw[map_nil,iN,iN];split<;>rfl
 | cons x xP ih =>
  rw[map_cons,bL,ih,bL,bL]
  unfold i3
  by_cases h:x.1=k<;>by_cases h':k' = k
  ·have:x.1=k':=h.trans h'.symm
   simp[h,h']
  ·have:¬ x.1=k':=fun z=>h' (z.symm.trans h)
   rw[if_pos h,if_neg h',if_neg this,if_neg this,if_neg h']
  ·subst h'
   simp[h]
  ·simp[h,h']
theorem lf {xP:List bO}{k k':fv}{b:Addr}{v:V}(h:c6 xP k=none):c6 (xP ++ [(k,b,v)]) k' = if k' = k then some v else c6 xP k':=by
 induction xP with
 | nil =>
  rw[List.nil_append,bL,iN]
  by_cases e:k' = k
  ·rw[if_pos e,if_pos e.symm]
  ·rw[if_neg e,if_neg (Ne.symm e)]
 | cons x xP ih =>
  rw[bL]at h
  by_cases hx:x.1=k
  ·rw[if_pos hx]at h;cases h
  ·rw[if_neg hx]at h
   rw[List.cons_append,bL,ih h,bL]
   by_cases e:k' = k
   ·subst e;rw[if_neg hx,if_pos rfl,if_pos rfl]
   ·rw[if_neg e,if_neg e]
theorem qm {xP:List bO}{k k':fv}{b:Addr}{v:V}:c6 (cF xP k b v) k' = if k' = k then some v else c6 xP k':=by
 unfold cF
 cases h:c6 xP k with
 | none=>rw[if_neg (by simp)];exact lf h
 | some u =>
  rw[if_pos (by simp),qo,h];rfl
theorem io {xP:List bO}{k:fv}{b:Addr}{v:V}:(cF xP k b v).length <= xP.length + 1:=by
 unfold cF
 split
 ·rw[length_map];omega
 ·rw[length_append];exact le_refl _
theorem pE {xP:List bO}{k:fv}{b:Addr}{v:V}{F:fv->Addr->Prop}(h:∀ x ∈ xP,F x.1 x.2.1)(hk:F k b):∀ x ∈ cF xP k b v,F x.1 x.2.1:=by
 intro x hx
 unfold cF at hx
 split at hx
 ·obtain⟨y,hy,rfl⟩:=mem_map.mp hx
  unfold i3
  split
  ·exact h y hy
  ·exact h y hy
 ·rcases mem_append.mp hx with q | q
  ·exact h x q
  ·rw[mem_singleton.mp q];exact hk
theorem iI {xP:List bO}{xs:List (fv × Addr × Value)}(r:Paired gJ xP xs)(k:fv):zb (c6 xP k) ((atKey xs k).map (·.2)):=by
 induction r with
 | nil=>exact True.intro
 | @cons p q _ _ h1 _ ih =>
  rw[bL]
  unfold atKey at ih ⊢
  rw[find?_cons]
  by_cases e:p.1=k
  ·rw[if_pos e,decide_eq_true (h1.1.symm.trans e)];exact h1.2.2
  ·rw[if_neg e,decide_eq_false (fun z=>e (h1.1.trans z))];exact ih
theorem im {o:Option V}{u:Option Value}(r:zb o u):o.isSome=u.isSome:=by
 cases o<;>cases u<;>first | rfl | exact r.elim
theorem pD {o:Option V}{u:Option Value}{d:V}{r:Value}(h:zb o u)(hd:RelV d r):RelV (o.getD d) (u.getD r):=by
 cases o<;>cases u<;>first | exact hd | exact h | exact h.elim
theorem uW {xP:List bO}{xs:List (fv × Addr × Value)}{k:fv}{v:V}{u:Value}(r:Paired gJ xP xs)(hv:RelV v u):Paired gJ (xP.map (i3 k v)) (xs.map (putAt k u)):=by
 induction r with
 | nil=>exact .nil
 | @cons p q _ _ h1 _ ih =>
  refine .cons ?_ ih
  unfold i3 putAt
  by_cases e:p.1=k
  ·rw[if_pos e,if_pos (h1.1.symm.trans e)];exact⟨h1.1,h1.2.1,hv⟩
  ·rw[if_neg e,if_neg (fun z=>e (h1.1.trans z))];exact h1
theorem sL {xP:List bO}{xs:List (fv × Addr × Value)}{p:bO}{q:fv × Addr × Value}(r:Paired gJ xP xs)(h:gJ p q):Paired gJ (xP ++ [p]) (xs ++ [q]):=by
 induction r with
 | nil=>exact .cons h .nil
 | cons h1 _ ih=>exact .cons h1 ih
theorem uV {xP:List bO}{xs:List (fv × Addr × Value)}{k:fv}{b:Addr}{v:V}{u:Value}(r:Paired gJ xP xs)(hv:RelV v u):Paired gJ (cF xP k b v) (storedH xs k b u):=by
 have h:=im (iI r k)
 rw[Option.isSome_map]at h
 unfold cF storedH
 rw[h]
 split
 ·exact uW r hv
 ·exact sL r ⟨rfl,rfl,hv⟩
section
variable {P:Program}{w:World}{H:Hp}{h:Heap}{a b:Addr}{xP:List bO}{k:fv}
theorem gX:∀ {k:fv}{us:List Value},Vals (k.map gY) us->ItemsAre (dC P w) k us
 | [],_, .nil => .nil
 | none :: _,_, .cons r t => .cons (by have e:_=Value.none:=r;subst e;rfl) (gX t)
 | some i :: _,_, .cons r t => .cons (by obtain⟨tk,e⟩:=(show ∃ t,_=Value.int i t from r);subst e;exact beq_self_eq_true i) (gX t)
theorem eZ (ok:zk P w H h)(e:H b=some (.tup (k.map gY))):(tupleKind (dC P w)).is h k b:=by
 obtain⟨_,xT,r,o,ho,⟨hc,n,hd⟩,_⟩:=ok _ _ e
 exact⟨o,xT.toArray,n,ho,hc,hd,gX r⟩
theorem iJ (ok:zk P w H h)(e:y2 P w H a xP):xP.length <= sizeLine/\(a == sysModules)=false/\∃ xs,Paired gJ xP xs/\h.DictOfH (tupleKind (dC P w)) a xs:=by
 obtain⟨e,ek⟩:=e
 obtain⟨⟨z,hs,xs,r,o,es,ep,h1,h2,h3,h4,h5⟩,_⟩:=ok _ _ e
 refine⟨z,hs,xs,r,o,es,ep,h1,h2,h3,h4,?_,h5⟩
 have all:∀ {xP:List bO}{xs:List (fv × Addr × Value)},Paired gJ xP xs->(∀ x ∈ xP,H x.2.1=some (.tup (x.1.map gY)))->∀ x ∈ xs,(tupleKind (dC P w)).is h x.1 x.2.1:=by
  intro xP xs r
  induction r with
  | nil=>intro _ x hx;cases hx
  | @cons p q _ _ h1 _ ih =>
   intro hk x hx
   rcases mem_cons.mp hx with rfl | hx
   ·have:=hk p mem_cons_self
    rw[h1.1,h1.2.1]at this
    exact eZ ok this
   ·exact ih (fun y hy=>hk y (mem_cons_of_mem _ hy)) x hx
 exact all r ek
theorem jT (h1 h2:Heap)(p:tJ P w a xP h1)(st:∀ o,h1.get? a=some o->h2.get? a=some o):tJ P w a xP h2:=by
 obtain⟨z,hs,xs,r,o,es,ep,q,c⟩:=p
 exact⟨z,hs,xs,r,o,es,ep,st _ q,c⟩
theorem sQ (hb:sysModules < h.objs.size):ym P w H (h.push { cls := .type "dict",data := .dict #[] }) h.objs.size (bF P w h.objs.size []) :=
 ⟨⟨zero_le _,beq_eq_false_iff_ne.mpr (Ne.symm (ne_of_lt hb)),[], .nil,_,#[],0,Heap.get?_push_size _ rfl,⟨rfl,rfl,rfl⟩,rfl,rfl,nodup_nil⟩,⟨_,Heap.get?_push_size _ rfl⟩,fun _ _=>jT _ _⟩
end
noncomputable def vj (P:Program)(w:World)(H:Hp)(a:Addr)(y:V)(r:Option V):Prop:=∃ xP k b,y2 P w H a xP/\y = .ref b/\H b=some (.tup (k.map gY))/\r=c6 xP k
section
variable {X:Cx}{pins:List (Addr × Obj)}{σ:St}{H:Hp}{s:Shared}{a b:Addr}{y v d:V}{u r:Value}{o:Option V}{A:Around}{E:Value->Shared->Prop}
theorem xA (I:Inv X pins σ H s):sysModules < s.heap.objs.size :=
 Nat.lt_trans (by decide) (show mainGlobals < s.heap.objs.size from (I.mod.glob.keeps I.bk).lt)
theorem OJ {Q:Value->Shared->Prop}(hu:A.units + 1 < cLine)(I:Inv X pins σ H s)(g:vj X.prog X.w H a y o)(ry:RelV y u)(h:∀ s',Inv X pins σ H s'->Q (.bool o.isSome) s') :
  wpAny (model X.prog X.w) A (compareOp .In u (.ref a)) Q E s:=by
 obtain⟨xP,k,b,e,rfl,eb,rfl⟩:=g
 cases (show u=Value.ref b from ry)
 obtain⟨_,hd,xs,rel,dd⟩:=iJ I.xY e
 refine wpAny_in_heap (tupleKind_room_in1 hu) (eZ I.xY eb) hd dd ?_
 have q:=im (iI rel k)
 rw[Option.isSome_map]at q
 rw[← q]
 exact h _ (I.tok _)
theorem xc {Q:Value->Shared->Prop}(hu:A.units + 1 < cLine)(I:Inv X pins σ H s)(g:vj X.prog X.w H a y o)(ry:RelV y u)(rd:RelV d r)(h:∀ w' s',Inv X pins σ H s'->RelV (o.getD d) w'->Q w' s') :
  wpAny (model X.prog X.w) A (call (.builtin "dict.get") [.ref a,u,r]) Q E s:=by
 obtain⟨xP,k,b,e,rfl,eb,rfl⟩:=g
 cases (show u=Value.ref b from ry)
 obtain⟨_,hd,xs,rel,dd⟩:=iJ I.xY e
 exact call_meetsIn PySem.F.slot_dict_get dd.typeIs PySem.F.entry_dict_get (PySem.F.args_dict_get_3 _ _ _) (meetsH_dict_get_default (tupleKind (dC X.prog X.w)) a b hd r)
  ⟨tupleKind_room_in1 hu,k,xs,eZ I.xY eb,dd,h _ _ (I.tok _) (pD (iI rel k) rd)⟩
theorem IQ {xP:List bO}{k:fv}{Q:Unit->Shared->Prop}(hu:A.units + 1 < cLine)(I:Inv X pins σ H s)(e:y2 X.prog X.w H a xP)(eb:H b=some (.tup (k.map gY)))(hl:xP.length < sizeLine)(rv:RelV v r)
  (h:∀ s',Inv X pins σ (upd H a (bF X.prog X.w a (cF xP k b v))) s'->Q () s'):wpAny (model X.prog X.w) A (setItem (.ref a) (.ref b) r) Q E s:=by
 obtain⟨z,hd,xs,rel,dd⟩:=iJ I.xY e
 have hz:xs.length <= sizeLine:=by rw[← Paired.length rel];exact z
 have BH:(cF xP k b v).length <= sizeLine:=le_trans io hl
 refine wpAny_setItem_heap (hsz:=hz) (tupleKind_room_in1 hu) (eZ I.xY eb) dd fun h' dd' hs=>h _ ?_
 obtain⟨q,es,ep,hq,h2,h3,h4,_,h5⟩:=dd'
 exact I.write (x:=a) (e:=a) (by rw[e.1];exact True.intro) (.inl rfl) (fun c q hc z=>(hs.2 c hc).trans z) ⟨q,hq⟩
  ⟨⟨BH,hd,_,uV rel rv,q,es,ep,hq,h2,h3,h4,h5⟩,⟨q,hq⟩,fun _ _=>jT _ _⟩
theorem qa {xP:List bO}(I:Inv X pins σ H s)(e:y2 X.prog X.w H a xP):s.TypeIs (.ref a) "dict"/\∀ b,Value.ref a = .ref b->∃ ob,s.heap.get? b=some ob/\ob.dict=none:=by
 obtain⟨_,_,xs,_,dd⟩:=iJ I.xY e
 refine⟨dd.typeIs,fun b q=>?_⟩
 cases q
 obtain⟨ob,_,_,h1,h2,_⟩:=dd
 exact⟨ob,h1,h2.2.1⟩
end
noncomputable def qv (P:Program)(w:World):TE:=fun _ H Q=>∀ p,H p=none->Q (.ref p) (upd H p (bF P w p []))
noncomputable def OK (P:Program)(w:World)(ty td:TE):TE:=fun σ H Q=>ty σ H fun y H1=>td σ H1 fun x H2=>∃ a o,x = .ref a/\vj P w H2 a y o/\Q (.bl o.isSome) H2
noncomputable def il (P:Program)(w:World)(td ty tv:TE):TS:=fun D σ H=>tv σ H fun v H1=>td σ H1 fun x H2=>ty σ H2 fun y H3=>∃ a xP k b,x = .ref a/\y2 P w H3 a xP/\y = .ref b/\H3 b=some (.tup (k.map gY))/\xP.length < sizeLine/\D.nx σ (upd H3 a (bF P w a (cF xP k b v)))
noncomputable def vQ (P:Program)(w:World)(td:TE)(t:TA):TE:=fun σ H Q=>td σ H fun x H1=>∃ a xP,x = .ref a/\y2 P w H1 a xP/\t σ H1 fun xs H2=>∃ y z o,xs=[y,z]/\vj P w H2 a y o/\Q (o.getD z) H2
section
variable {X:Cx}{o i e f value:Expr}{pos pos' apos yH:Pos}{td ty tv tx:TE}
theorem oE:PE X (.Dict [] [] pos) (qv X.prog X.w):=fun pins s σ H Q I h =>
 wpAny_Dict_empty ⟨.ref s.heap.objs.size,_,I.laid (a:=s.heap.objs.size) (o:=bF X.prog X.w s.heap.objs.size []) (t':=s.toks) (fun _ _ q=>Heap.get?_push_of_some _ q) (le_refl _) (sQ (xA I)),rfl,h _ (I.xY.fresh (le_refl _))⟩
theorem wC (hu:X.A.units + 1 < cLine)(hi:PE X i ty)(ho:PE X o td):PC X .In i o (OK X.prog X.w ty td):=by
 intro pins s σ H Q I h
 refine bq (hi pins s σ H _ I h) fun iv s1 ⟨y,H1,I1,ry,q1⟩=>bq (ho pins s1 σ H1 _ I1 q1) fun u s2 xU=>?_
 obtain⟨x,H2,I2,rx,a,ov,ex,g,q2⟩:=xU
 subst ex
 obtain rfl:u=Value.ref a:=rx
 exact OJ hu I2 g ry fun s3 I3=>⟨.bl ov.isSome,H2,I3,rfl,q2⟩
theorem dz (hu:X.A.units + 1 < cLine)(ho:PE X o td)(hi:PE X i ty)(hv:PE X value tv)(hs:swapsWith value (some (.Subscript o i pos')) pos.line X.env=pure false) :
  PS X (.Assign [.Subscript o i pos'] value pos) (il X.prog X.w td ty tv):=by
 intro pins s σ H D I h
 refine wpAny_Assign_Subscript (bq (hv pins s σ H _ I h) fun r s1 ⟨v,H1,I1,rv,q1⟩=>bq (ho pins s1 σ H1 _ I1 q1) fun u s2 ⟨x,H2,I2,rx,q2⟩=>bq (hi pins s2 σ H2 _ I2 q2) fun iv s3 xU=>?_) hs
 obtain⟨y,H3,I3,ry,a,xP,k,b,ex,e,ey,eb,hl,q3⟩:=xU
 subst ex ey
 obtain rfl:u=Value.ref a:=rx
 obtain rfl:iv=Value.ref b:=ry
 exact IQ hu I3 e eb hl rv fun s4 I4=>⟨σ,_,I4,q3⟩
theorem rq {es:List Expr}{t:TA}(hu:X.A.units + 1 < cLine)(ho:PE X o td)(ha:PA X (e :: es) t)
  (h1:autoParam (attributeBase o "get" X.env (eval o X.env)=eval o X.env) η)
  (h2:autoParam (((backTo yH (starEach (e :: es) X.env)).all (fun x=>!x.1) && (backToKw yH (keywordEach [] X.env)).all (fun x=>x.1.isSome) && decide ((e :: es).length + ([]:List Keyword).length + (if ([]:List Keyword).isEmpty then 0 else 1) < 30))=true) η)
  (h3:autoParam ((apos.endLine == yH.line)=true) η) (h4:autoParam (starEach (e :: es) X.env=(false,eval e X.env) :: starEach es X.env) η) (h5:autoParam ((backTo yH (starEach es X.env)).any (·.1)=false) η) :
  PE X (.Call (.Attribute o "get" apos) (e :: es) [] yH) (vQ X.prog X.w td t):=by
 intro pins s σ H Q I h
 refine wpAny_Call_method_late h1 h2 h3 rfl (bq (ho pins s σ H _ I h) fun v s1 xU=>?_)
 obtain⟨x,H1,I1,r1,a,xP,ex,e1,q1⟩:=xU
 subst ex
 obtain rfl:v=Value.ref a:=r1
 obtain⟨t1,t2⟩:=qa I1 e1
 refine⟨"dict", "dict.get",PySem.F.plainAttrs_dict,PySem.F.slot_dict_get,PySem.F.type_dict_get,t1,t2,?_⟩
 have hA:=ha yH pins s1 σ H1 _ I1 q1
 rw[h4]at hA ⊢
 refine Calls.callWith_builtin (by show(false || (backTo yH (starEach es X.env)).any (·.1))=false;rw[h5]<;>rfl) (Calls.evalArgs_plain ?_)
 refine bq hA fun us s2 xU=>?_
 obtain⟨vs,H2,I2,r2,y,z,ov,evs,g,q2⟩:=xU
 subst evs
 cases r2 with
 | cons ry r2=>cases r2 with
  | cons rz r2=>cases r2 with
   | nil=>exact xc hu I2 g ry rz fun w' s4 I4 Dk=>⟨_,H2,I4,Dk,q2⟩
end
structure vN (K:Frag)(C:Addr)(m:Str)(f:Addr):Prop where
 reads:PySem.W.readsIn K C (.type "type")=true
 found:PySem.W.findCls K (.ref C) (.type "type") m=some (.val (.ref f))
 spec:PySem.W.specialIn K (.ref C) "__getattribute__" = some (some (.builtin "type.__getattribute__"))
 kp:keepIn K (.ref f)=true
noncomputable def vT (C:Addr)(sp:Sp)(yS:List V)(E:XK)(ta:TE)(t:TA):TE:=fun σ H Q=>ta σ H fun x H1=>x = .ref C/\t σ H1 fun vs H2=>sp (vs ++ yS) H2 Q E
section
variable {X:Cx}{CX:qi}{k:Nat}{f C:Addr}{fd:FuncData}{ps:List Str}{sp:Sp}{yS:List V}{ds:List Value}{E:XK}{x m:Str}{p pos apos:Pos}{e o:Expr}{es:List Expr}{ta:TE}{t:TA}
theorem r6 {pl:Sem Bool}(he:PE X o ta)(hm:vN X.K C m f)(F:xO X.prog X.w X.K X.mg X.base CX k f fd ps sp)(hr:ya k X.A)(hb:Binds X.K fd ps ds)(hd:Vals yS ds)(hx:eT CX X E)(ha:PA X (e :: es) t)
  (h1:autoParam (starEach (e :: es) X.env=(false,eval e X.env) :: starEach es X.env) η) (h2:autoParam ((backTo pos (starEach es X.env)).any (·.1)=false) η)
  (ht:eval (.Call (.Attribute o m apos) (e :: es) [] pos) X.env=(do
   let ov ← eval o X.env
   standAt apos.atName
   let (f,first) ← holding [ov] (getMethod ov m pl)
   callWith pos f first (backTo pos (starEach (e :: es) X.env)) (backToKw pos (keywordEach [] X.env))):=by rfl) :
  PE X (.Call (.Attribute o m apos) (e :: es) [] pos) (vT C sp yS E ta t):=by
 intro pins s σ H Q I h
 refine PySem.W.methodCall_KW (pl:=pl) (bq (he pins s σ H _ I h) fun u s1 xU=>?_) ht
 obtain⟨x,H1,I1,rx,ex,q⟩:=xU
 subst ex
 obtain rfl:u=Value.ref C:=rx
 refine PySem.W.method_cls I1.zg hm.spec (PySem.W.cls_value I1.zg hm.reads hm.found rfl ?_)
 refine PySem.W.callWith_K (first:=[]) (h₀:=X.base) I.ok.mod.CP hm.kp (bq (ha pos pins _ σ H1 _ (I1.tok _) q) fun us s2 ⟨vs,H2,I2,r,q2⟩=>⟨I2.zg,?_⟩) h1 h2
 exact kB F hr hb hd hx I2 r q2
end
section
variable {X:Cx}
end
section
variable {X:Cx}{tg:Expr}
noncomputable def OL:V->List V->Hp->VK->Prop:=fun x vs H Q=>∃ (l:Addr)(ns:List Int)(k:Int),x = .ref l/\vs=[.int k]/\H l=some (.lst (ns.map V.int))/\k ∈ ns/\ns.length <= 100000/\Q (.int (ns.idxOf k:Nat)) H
theorem pQ:Mq X "list.index" OL:=by
 intro pins s σ H x vs v us Q I rx rv h
 obtain⟨l,ns,k,rfl,rfl,hH,hk,hlen,q⟩:=h
 cases rx
 obtain⟨u,rfl,ru⟩:=rv.one
 obtain⟨t,rfl⟩:=ru
 obtain⟨z,xT,n,r,hl,e⟩:=I.AY hH
 have hi:IntsAre xT.toArray.toList ns:=nB r
 have AH:xT.length=ns.length:=by rw[← r.length,length_map]
 have hj:ns.idxOf k < ns.length:=List.idxOf_lt_length_of_mem hk
 have at_:∀ m (hm:m < xT.toArray.size),∃ t,xT.toArray[m]=Value.int (ns[m]'(by simpa [AH] using hm)) t:=fun m hm=>by
  have Bq:m < xT.length:=by simpa using hm
  have hv:(ns.map V.int)[m]? = some (V.int (ns[m]'(by omega))):=by simp[show m < ns.length by omega]
  obtain⟨w',hw,Dk⟩:=r.get hv
  obtain⟨t',rfl⟩:=Dk
  refine⟨t',?_⟩
  have:xT[m]? = some xT[m]:=getElem?_eq_getElem Bq
  rw[this]at hw
  simpa using Option.some.inj hw
 let e':Value->Bool:=fun y=>Value.isInt k y
 refine call_meets PySem.F.slot_list_index ⟨_,e,rfl⟩ PySem.F.entry_list_index (PySem.F.args_list_index_2 _ _)
  (SeqAt.list_indexAt l xT.toArray n none #[] (.int k t) e' (ns.idxOf k) (by simpa [AH] using hj) (by omega) ?_ ?_) ⟨e,fun y hy=>?_,?_⟩
 ·obtain⟨t',et⟩:=at_ (ns.idxOf k) (by simpa [AH] using hj)
  show Value.isInt k (xT.toArray[ns.idxOf k]'(by simpa [AH] using hj))=true
  rw[et,List.getElem_idxOf]
  simp[Value.isInt]
 ·intro m hm hmj
  obtain⟨t',et⟩:=at_ m hm
  show Value.isInt k xT.toArray[m]=false
  rw[et]
  have Ac:ns[m]'(by simpa [AH] using hm) ≠ k:=fun z=>by
   have:=List.not_of_lt_findIdx (p:=fun x=>x == k) (xs:=ns) (i:=m) hmj
   rw[z]at this
   simp at this
  simp only[Value.isInt,beq_eq_false_iff_ne,ne_eq]
  first | exact Ac | exact fun z=>Ac z.symm
 ·have hm:y ∈ xT:=by simpa using hy
  obtain⟨m,Bq,em⟩:=getElem_of_mem hm
  obtain⟨t',et⟩:=at_ m (by simpa using Bq)
  have ey:y=Value.int (ns[m]'(by omega)) t':=by rw[← em];simpa using et
  subst ey
  intro prog w E Q' hQ'
  refine wpAny_eqBool_int ?_
  have:(ns[m]'(by omega) == k)=Value.isInt k (Value.int (ns[m]'(by omega)) t'):=by simp[Value.isInt,Bool.beq_comm]
  rw[this]
  exact hQ'
 ·exact⟨.int (ns.idxOf k:Nat),H,I.tok _,⟨_,rfl⟩,q⟩
noncomputable def IS (K:Frag):List V->Hp->VK->Prop:=fun xs H Q=>∃ (v:V)(t:Value)(c:String)(b:Bool),xs=[v, .ty c]/\ik K H v t/\kitOne K t (.type c)=some b/\Q (.bl b) H
theorem dO:cR X (.builtin "isinstance") (IS X.K):=by
 intro pins s σ H xs us Q I r h
 obtain⟨v,t,c,b,rfl,ty,hk,q⟩:=h
 cases r with
 | cons r1 r2=>cases r2 with
  | cons r2 r3 =>
   cases r3
   cases r2
   exact pT I r1 ty hk fun tk=>⟨.bl b,H,I.tok _,rfl,q⟩
end
section
variable {κ:Type} [DecidableEq κ]
end
section
variable {P:Program}{w:World}{H:Hp}{h:Heap}{a:Addr}
end
section
variable {X:Cx}{pins:List (Addr × Obj)}{σ:St}{H:Hp}{s:Shared}{a:Addr}{y v:V}{u r:Value}{o:Option V}{A:Around}{E:Value->Shared->Prop}
end
section
variable {X:Cx}{pins:List (Addr × Obj)}{σ:St}{H:Hp}{s:Shared}{a:Addr}{xP:List (dP × V)}{k:dP}{u:Value}{A:Around}{E:Value->Shared->Prop}
end
noncomputable def IT (i:Expr):Prop:=∀ ov iv,subscripted i false ov iv=operate [ov,iv] (getItem ov iv)
theorem tP {prog:Program}{w:World}{A:Around}{E:Value->Shared->Prop}{s:Shared}{env:Env}{value slice:Expr}{pos:Pos}{T id:String}{Q:Value->Shared->Prop}
  (hl:typeLookup (.type T) "__getitem__" = pure (some (.builtin id))) (hs:IT slice)
  (h:wpAny (model prog w) A (eval value env) (fun o s₁=>wpAny (model prog w) A (eval slice env) (fun i s₂=>s₂.TypeIs o T/\wpAny (model prog w) A (getItem o i) Q E s₂) E s₁) E s) :
  wpAny (model prog w) A (eval (.Subscript value slice pos) env) Q E s:=by
 refine Subscript_ (wpAny_mono h (fun o s₁ h₁=>wpAny_mono h₁ (fun i s₂ h₂=>?_) fun _ _ x=>x) fun _ _ x=>x)
 obtain⟨hT,h₂⟩:=h₂
 unfold subscriptTail
 refine wpAny_bind ?_
 rw[getitemInPython_of_ne hT.not_modules]
 refine wpAny_bind (wpAny_specialOf hT hl ?_)
 have fin:wpAny (model prog w) A (subscripted slice false o i) (fun r s₃=>wpAny (model prog w) A (letTemporaryGo value o r >>= fun _=>pure r) Q E s₃) E s₂:=by
  rw[hs o i]
  exact wpAny_operating (wpAny_mono h₂ (fun r s₃ h₃=>wpAny_bind (wpAny_letTemporaryGo (wpAny_pure h₃))) fun _ _ x=>x)
 first
  | exact wpAny_pure (wpAny_bind fin)
  | exact wpAny_bind (wpAny_pure (wpAny_bind fin))
  | exact wpAny_bind fin
section
variable {X:Cx}{o i e value:Expr}{pos pos' zY:Pos}{td ty tv:TE}
end
section
variable {X:Cx}{pos:Pos}
end
section
variable {X:Cx}{pins:List (Addr × Obj)}{σ:St}{H:Hp}{s:Shared}{a:Addr}{y d:V}{u r:Value}{o:Option V}{A:Around}{E:Value->Shared->Prop}
end
section
variable {X:Cx}{o e f:Expr}{apos yH:Pos}{td ty tx:TE}
end
section
variable {X:Cx}{pins:List (Addr × Obj)}{σ:St}{H:Hp}{s:Shared}{a:Addr}{xP:List (dP × V)}{A:Around}{E:Value->Shared->Prop}
end
section
variable {X:Cx}{pins:List (Addr × Obj)}{σ:St}{H:Hp}{s:Shared}{a:Addr}{y:V}{u:Value}{A:Around}{E:Value->Shared->Prop}
end
section
variable {X:Cx}
end
section
variable {κ:Type} [DecidableEq κ]
end
theorem nY:∀ {xs:List V}{us:List Value},xs.length=us.length->(∀ (i:Nat)(x:V)(u:Value),xs[i]? = some x->us[i]? = some u->RelV x u)->Vals xs us:=by
 intro xs;induction xs with
 | nil=>intro us hl h;cases us with|nil=>exact .nil|cons=>cases hl
 | cons x xs ih=>intro us hl h;cases us with|nil=>cases hl|cons u us=>exact .cons (h 0 x u rfl rfl) (ih (by simpa using hl) fun i x u hx hu=>h (i + 1) x u hx hu)
section
variable {X:Cx}{tg:Expr}
end
noncomputable def i6 (p:Addr)(j:Int):HO := .ext fun h=>∃ t u v,IsRange h p 0 j 1 t u v
section
variable {X:Cx}
theorem lX:cR X (.type "range") (fun xs H Q=>∃ j:Int,xs=[.int j]/\∀ p,H p=none->Q (.ref p) (upd H p (i6 p j))):=by
 intro pins s σ H xs us Q I r h
 obtain⟨j,rfl,q⟩:=h
 obtain⟨u,rfl,ru⟩:=r.one
 obtain⟨t,rfl⟩:=ru
 refine call_range_1 ⟨.ref s.heap.objs.size,_,I.laid (a:=s.heap.objs.size) (o:=i6 s.heap.objs.size j) (t':=s.toks + 1 + 1) (fun _ _ q=>Heap.get?_push_of_some _ q) (le_refl _) ?_,rfl,q _ (I.xY.fresh (le_refl _))⟩
 exact⟨⟨_,_,_,IsRange.new ..⟩,⟨_,Heap.get?_push_size _ rfl⟩,fun h1 h2 ⟨t,u,v,e⟩ st=>⟨t,u,v,st _ e⟩⟩
theorem fG (hc:X.calm=true):cR X (.type "list") (fun xs H Q=>∃ (p:Addr)(n:Nat),xs=[.ref p]/\H p=some (i6 p (n:Int))/\n <= 10000/\∀ l,H l=none->Q (.ref l) (upd H l (.lst ((List.range n).map fun k:Nat=>V.int (k:Int))))):=by
 intro pins s σ H xs us Q I r h
 obtain⟨p,n,rfl,hp,hn,q⟩:=h
 obtain⟨u,rfl,ru⟩:=r.one
 cases ru
 obtain⟨⟨t,u,v,hr⟩,_⟩:=I.xY _ _ hp
 refine call_list_range (n:=n) (I.ok.hd hc) hr (small_one (by omega) (by omega) (by omega) (by omega)) (by rw[rangeSize_one];split<;>omega) (by omega) fun h' tk acc c keep hl it=>?_
 have hv:Vals ((List.range n).map fun k:Nat=>V.int (k:Int)) acc.toList:=by
  refine nY (by rw[length_map,length_range];exact it.1.symm) fun i x u hx hu=>?_
  obtain⟨tk,rfl⟩:=it.2 i u (by simpa using hu)
  have hi:i < n:=by
   have:=(gQ0 hx)
   simpa using this
  rw[getElem?_map,List.getElem?_range hi]at hx
  have hx:V.int (i:Int)=x:=Option.some.inj hx
  subst hx
  exact⟨tk,by rw[Int.mul_one,zero_add]⟩
 refine⟨.ref _,_,I.laid (a:=s.heap.objs.size) (o := .lst ((List.range n).map fun k:Nat=>V.int (k:Int))) (t':=tk) (fun b q hq=>keep b q hq) (le_refl _) ⟨by rw[length_map,length_range,sizeLine_eq];omega,acc.toList,c,hv,by simpa using hl⟩,rfl,q _ (I.xY.fresh (le_refl _))⟩
end
end L2
namespace L2
open PySem
section
variable {X:Cx}
noncomputable def IU (t:TS):TS:=fun D σ H=>∃ zK:St->Hp->Prop,t { D with nx:=zK } σ H/\∀ σ' H',zK σ' H'->D.nx σ' H'
theorem eX {st:Stmt}{t:TS}(h:PS X st t):PS X st (IU t):=fun pins s σ H D I ⟨zK,q,k⟩ =>
 bq (h pins s σ H _ I q) fun f s1 z=>by
  cases f with
  | next=>obtain⟨σ1,H1,I1,p⟩:=z;exact⟨σ1,H1,I1,k _ _ p⟩
  | brk=>exact z
  | cont=>exact z
  | ret u=>exact z
noncomputable def vP (t:TE):TE:=fun σ H Q=>∃ zK:V->Hp->Prop,t σ H zK/\∀ v H',zK v H'->Q v H'
theorem kG {e:Expr}{t:TE}(h:PE X e t):PE X e (vP t):=fun pins s σ H Q I ⟨zK,q,k⟩ =>
 bq (h pins s σ H _ I q) fun u s1 xU=>by obtain⟨v,H1,I1,r,p⟩:=xU;exact⟨v,H1,I1,r,k v H1 p⟩
noncomputable def vO (t:TT):TT:=fun σ H Q=>∃ zK:Bool->Hp->Prop,t σ H zK/\∀ b H',zK b H'->Q b H'
theorem kE {e:Expr}{t:TT}(h:PT X e t):PT X e (vO t):=fun pins s σ H Q I ⟨zK,q,k⟩ =>
 bq (h pins s σ H _ I q) fun b s1 xU=>by obtain⟨H1,I1,p⟩:=xU;exact⟨H1,I1,k b H1 p⟩
end
open PySem.Spec PyProof.Rows
theorem lK:∀ {ns:List Int}{us:List Value},Vals (ns.map V.int) us->IntsAre us ns
 | [],_, .nil => .nil
 | n :: ns,_, .cons r t=>by
  obtain⟨tk,e⟩:=(show ∃ t,_=Value.int n t from r)
  subst e
  exact .cons n tk (lK t)
theorem lW {X:Cx}(hc:X.calm=true):cR X (.builtin "sum") (fun xs H Q=>∃ (p:Addr)(ns:List Int),xs=[.ref p]/\xS X.K H p (ns.map V.int)/\Q (.int ns.sum) H):=by
 intro pins s σ H xs us Q I r h
 obtain⟨p,ns,rfl,hq,q⟩:=h
 obtain⟨u,rfl,rx⟩:=jC r
 cases rx
 obtain⟨xT,rv,pl,hz⟩:=I.list hq
 have hi:=lK rv
 obtain⟨xs,hx⟩:=hi.allInts.items
 have BH:s.heap.IsList p (intItems xs):=hx ▸ pl.isList
 refine sum_intListG (I.ok.hd hc) BH fun h' tk t' hk=>?_
 have e1:ns=xs.toList.map (·.1):=by
  rw[← nums_intItems,← hx]
  exact(show numsOf xT.toArray.toList=ns from hi.numsOf).symm
 have e2:preSum (numAt xs) xs.size=ns.sum:=by
  rw[preSum_eq,take_of_length_le (by simp),e1]
 rw[e2]
 exact⟨.int ns.sum,H,I.kept hk,⟨_,rfl⟩,q⟩
structure BI (K:Frag)(x qual:Str)(st:Stmt)(f:Addr)(fd:FuncData):Prop where
 ex:∃ (oc:Value)(od:Option Addr)(dV kV doc pm:Value)(an:Option Addr)(cdv ct:Value)(Bl:Array (Option Value)),
  fd=fnOf x qual (bJ st) (aG st) (al st) dV kV doc pm an cdv ct/\K.lookup f=some ⟨oc,od, .func fd,Bl⟩/\codeIn K cdv qual=true
 kp:keepIn K (.ref f)=true
section
variable {P:Program}{w:World}{K:Frag}{mg:Str->Option Value}{base:Heap}
theorem BI.ok {x qual:Str}{st:Stmt}{f:Addr}{fd:FuncData}{N ps:List Str}{k:Nat}{sp:Sp}(F:BI K x qual st f fd)(S:ar N ps (al st))(len:∀ vs H Q E,sp vs H Q E->vs.length=ps.length)
  (AF:∀ (cdv:Value)(A:Around)(outer:List Env)(s:Shared)(H:Hp)(vs:List V)(Q:VK)(E:XK),ya k (A.deeper (envOfC qual (al st) s.heap.objs.size f cdv))->sp vs H Q E ->
   ∃ t,BB (nJ aF P w K mg base N qual (al st) f cdv A outer s H E).GP (aG st) t/\t { nx:=fun _ H'=>Q .yd H',rt:=Q } (start N vs) H):xO P w K mg base aF (k + 1) f fd ps sp:=by
 obtain⟨oc,od,dV,kV,doc,pm,an,cdv,ct,Bl,rfl,lk,BC⟩:=F.ex
 refine vJ lk BC S len fun A outer s H vs Q E hr CT=>?_
 obtain⟨t,h,q⟩:=AF cdv A outer s H vs Q E hr CT
 exact⟨t,h.GP,q⟩
end
noncomputable def ui (K:Frag):R2:=fun x y H Q=>∃ (p:Addr)(vs:List V)(d:PyData)(ds:List PyData),y = .ref p/\j9 K H x d/\xS K H p vs/\j2 K H vs ds/\zE d 8/\(∀ z ∈ ds,zE z 8)/\Q (.bl (!(ds.any fun y=>PyData.eqv y d))) H
theorem jH {X:Cx}(hu:X.A.units + 64 < cLine):dH X (compareOp .NotIn) (ui X.K):=by
 intro pins s σ H x y v u Q I rx ry h
 obtain⟨p,vs,d,ds,rfl,h1,h2,h3,s1,s2,q⟩:=h
 obtain⟨as,r1⟩:=I.den (.lst h2 h3) ry
 obtain⟨bs,r2⟩:=I.den h1 rx
 refine SeqAt.notIn_list_reads r1 r2 (k8 s2).1 s1.1 ?_ ⟨.bl _,H,I,rfl,q⟩
 have:=s1.2
 have:=Nat.min_le_right (PyData.depthAll ds) d.depth
 omega
noncomputable def IV (K:Frag):R2:=fun x y H Q=>∃ a b xs ys,x = .ref a/\y = .ref b/\xV K H a xs/\xV K H b ys/\ys ≠ []/\xs.length + ys.length <= sizeLine /\
 (xs=[]->Q (.ref b) H)/\(xs ≠ []->∀ p,H p=none->Q (.ref p) (upd H p (.tup (xs ++ ys))))
theorem uv {X:Cx}:dH X (binaryOp .Add) (IV X.K):=by
 intro pins s σ H x y v u Q I rx ry h
 obtain⟨a,b,xs,ys,rfl,rfl,ha,hb,hy,hz,q1,q2⟩:=h
 by_cases hx:xs=[]
 ·cases rx
  cases ry
  obtain⟨xT,r1,p1,_⟩:=I.tuple ha
  obtain⟨ze,r2,p2,_⟩:=I.tuple hb
  have e1:xT=[]:=r1.zD.mpr hx
  obtain⟨⟨cls,dd,data,sl⟩,ho,hc,n,hd⟩:=id p1
  obtain⟨⟨Ol,Mn,data2,Mp⟩,zq,Ag,n2,hd2⟩:=id p2
  simp only at hc hd Ag hd2
  subst hc hd Ag hd2
  exact concat_meets ⟨_,ho,rfl⟩ ⟨_,zq,rfl⟩ noFill_tuple_add seq_tuple_add slot_tuple_add entry_tuple_add (args_tuple_add_2 _ _)
   (tuple_addW0 a b xT.toArray ze.toArray n n2 dd Mn sl Mp (by simp[e1])) ⟨ho,zq,⟨.ref b,H,I,rfl,q1 hx⟩⟩
 ·exact uu pins s σ H _ _ v u Q I rx ry ⟨a,b,xs,ys,rfl,rfl,ha,hb,hx,hz,fun z=>absurd z hy,fun _=>q2 hx⟩
end L2
namespace L2
open PySem
section
variable {X:Cx}
end
open PySem.Spec PyProof.Rows
noncomputable def xK (h:Heap)(d:Addr)(es:Array DictEntry)(ep:Nat):Prop:=∃ o,h.get? d=some o/\o.data = .dict es ep
section
variable {prog:Program}{w:World}{A:Around}{E:Value->Shared->Prop}{s:Shared}
end
section
variable {X:Cx}{pins:List (Addr × Obj)}{σ:St}{H:Hp}{s:Shared}{a:Addr}{o:Obj}{u:HO}
theorem Inv.BJ (I:Inv X pins σ H s)(ha:H a=some (.yW o u))(h0:∀ o' u',X.H₀ a ≠ some (.yW o' u')):Inv X pins σ (upd H a u) s:=by
 have no:∀ b,H b=none->b ≠ a:=fun b e z=>by rw[z,ha]at e;cases e
 have ot:∀ b x,H b=some x->(∀ o' u',x ≠ .yW o' u')->b ≠ a:=fun b x e n z=>by rw[z,ha]at e;exact n _ _ (Option.some.inj e).symm
 refine⟨I.ok,I.os,I.bare,⟨I.base.keep,I.base.slot,fun b ob q n hx=>?_,I.base.there,fun b xs q=>?_,fun b o' u' q=>?_,fun b ps q=>?_⟩,I.loc,I.cell,?_,fun x c hc=>?_,fun p hp=>?_,fun b x q=>?_,I.len⟩
 ·have z:=I.base.free b ob q n hx
  rw[ae (no b z)];exact z
 ·have z:=I.base.zV b xs q
  rw[ae (ot b _ z (fun _ _ w=>by cases w))];exact z
 ·have z:=I.base.zG b o' u' q
  rw[ae (fun w=>h0 o' u' (by rw[← w];exact q))];exact z
 ·obtain⟨m,z⟩:=I.base.zW b ps q
  exact⟨m,by rw[ae (ot b _ z (fun _ _ w=>by cases w))];exact z⟩
 ·rw[ae (no _ I.free)];exact I.free
 ·rw[ae (no _ (I.y1 x c hc))];exact I.y1 x c hc
 ·obtain⟨h1,h2,h3⟩:=I.pin p hp
  exact⟨h1,by rw[ae (no _ h2)];exact h2,h3⟩
 ·have own:∀ d c,H d=some (.own c)->(upd H a u) d=some (.own c):=fun d c z=>by rw[ae (ot d _ z (fun _ _ w=>by cases w))];exact z
  have tup:∀ d ys,H d=some (.tup ys)->(upd H a u) d=some (.tup ys):=fun d ys z=>by rw[ae (ot d _ z (fun _ _ w=>by cases w))];exact z
  by_cases hb:b=a
  ·subst hb
   rw[ac]at q
   cases q
   exact(I.xY b _ ha).2.zc (fun d v _ z=>z) (fun d z=>own d b z) fun d ys z=>tup d ys z
  ·rw[ae hb]at q
   exact(I.xY b _ q).zc (fun d v _ z=>z) (fun d z=>own d b z) fun d ys z=>tup d ys z
end
noncomputable def Mz (H₀ H:Hp)(G:Hp->Prop):Prop:=∃ a o u,H a=some (.yW o u)/\(∀ o' u',H₀ a ≠ some (.yW o' u'))/\G (upd H a u)
section
variable {X:Cx}
noncomputable def IW (H₀:Hp)(D:j1):j1:={ nx:=fun σ H=>Mz H₀ H (D.nx σ),rt:=fun v H=>Mz H₀ H (D.rt v),bk:=fun σ H=>Mz H₀ H (D.bk σ),ct:=fun σ H=>Mz H₀ H (D.ct σ) }
theorem uo {st:Stmt}{t:TS}(h:PS X st t):PS X st (fun D σ H=>t (IW X.H₀ D) σ H):=fun pins s σ H D I q =>
 bq (h pins s σ H _ I q) fun f s1 z=>by
  cases f with
  | next=>obtain⟨σ1,H1,I1,a,o,x,ha,h0,k⟩:=z;exact⟨σ1,_,I1.BJ ha h0,k⟩
  | brk=>obtain⟨σ1,H1,I1,a,o,x,ha,h0,k⟩:=z;exact⟨σ1,_,I1.BJ ha h0,k⟩
  | cont=>obtain⟨σ1,H1,I1,a,o,x,ha,h0,k⟩:=z;exact⟨σ1,_,I1.BJ ha h0,k⟩
  | ret u=>obtain⟨v,σ1,H1,I1,r,a,o,x,ha,h0,k⟩:=z;exact⟨v,σ1,_,I1.BJ ha h0,r,k⟩
end
theorem e9:∀ {xP:List bO}{xs:List (fv × Addr × Value)}{i:Nat}{x:bO},Paired gJ xP xs->xP[i]? = some x->∃ y,xs[i]? = some y/\gJ x y
 | _,_,_,_, .nil,h=>by cases h
 | _,_,0,_, .cons h1 _,h=>by cases h;exact⟨_,rfl,h1⟩
 | _,_,i + 1,_, .cons _ t,h=>e9 (i:=i) t h
theorem sP {P:Program}{w:World}{h:Heap}{a:Addr}{o:Obj}{xP:List bO}(d:tJ P w a xP h)(g:h.get? a=some o):∃ es ep,o.data = .dict es ep/\es.size=xP.length/\∀ (i:Nat)(x:bO),xP[i]? = some x->∃ e:DictEntry,es[i]? = some e/\e.key = .ref x.2.1/\RelV x.2.2 e.val:=by
 obtain⟨_,_,xs,r,o',es,ep,g',_,hd,he,_⟩:=d
 rw[g]at g'
 cases g'
 have hl:es.size=xP.length:=by
  have z:=congrArg List.length he
  rw[length_map,← Paired.length r,Array.length_toList]at z
  exact z
 refine⟨es,ep,hd,hl,fun i x hx=>?_⟩
 obtain⟨y,hy,ry⟩:=e9 r hx
 refine⟨entryOfKey (tupleKind (dC P w)) y,?_,?_,?_⟩
 ·rw[← Array.getElem?_toList,he,getElem?_map,hy];rfl
 ·show Value.ref y.2.1=_
  rw[ry.2.1]
 ·exact ry.2.2
section
variable {X:Cx}{elts:List Expr}{kk:Nat}{zY:Pos}
end
section
variable {prog:Program}{w:World}{A:Around}{E:Value->Shared->Prop}{s:Shared}
theorem pL {d:Addr}{es:Array DictEntry}{ep:Nat}{Q:Value->Shared->Prop}(hd:(d == sysModules)=false)(ty:s.TypeIs (.ref d) "dict")(en:xK s.heap d es ep)
  (k:Q (.ref s.heap.objs.size) { s with heap:=s.heap.push { cls := .type "dict_keyiterator",data := .fields #[.ref d, .int 0 0, .int es.size 0, .int ep 0] } }):wpAny (model prog w) A (pyIter (.ref d)) Q E s:=by
 obtain⟨od,gd,fd⟩:=en
 refine wpAny_pyIter_slot ty F.slot_dict_iter (wpAny_call_entry F.slot_dict_iter ty F.entry_dict_iter ?_ (F.args_dict_iter_1 _))
 unfold Builtin.«dict.__iter__» Builtin.Dict.dictSlotNone
 refine wpAny_bind (wpAny_bind (wpAny_notOrdered_dict ty (wpAny_pure ?_)))
 show wpAny _ _ (Builtin.Dict.showsAll d >>= _) _ _ s
 unfold Builtin.Dict.showsAll
 rw[if_neg (by simp[hd])]
 refine wpAny_bind (wpAny_pure (wpAny_bind (wpAny_dictEntries gd fd (wpAny_bind (wpAny_dictEpoch gd fd ?_)))))
 refine wpAny_bind (wpAny_newObj_type (wpAny_pure ⟨_,rfl, "dict_keyiterator",_,⟨_,Heap.get?_push_size _ rfl,rfl⟩,F.slot_dict_keyiterator_next.lookup,?_⟩))
 simpa [rawInt] using k
theorem jg {it d:Addr}{i ep:Nat}{es:Array DictEntry}{Q:Option Value->Shared->Prop}(st:s.heap.IsKeyIter it d i es.size ep)(en:xK s.heap d es ep)
  (Dy:∀ (e:DictEntry),es[i]? = some e->∀ h',h'.IsKeyIter it d (i + 1) es.size ep->Heap.SameBut it s.heap h'->Q (some e.key) { s with heap:=h' })
  (IX:es[i]? = none->A.handled=none/\∀ h',(∀ x o,x ≠ it->s.heap.get? x=some o->h'.get? x=some o)->Q none { s with heap:=h' }):wpAny (model prog w) A (pyNext (.ref it)) Q E s:=by
 obtain⟨o,go,co,fo⟩:=id st
 obtain⟨od,gd,fd⟩:=en
 have ty:s.TypeIs (.ref it) "dict_keyiterator":=⟨o,go,co⟩
 have own:Builtin.Dict_items.ownsTuple "dict_keyiterator" = false:=by decide
 unfold pyNext
 refine wpAny_bind (wpAny_attempt (wpAny_callSpecial?_slot (name:=Str.ofString "__next__") ty F.slot_dict_keyiterator_next (wpAny_call_entry F.slot_dict_keyiterator_next ty F.entry_dict_keyiterator_next ?_ (F.args_dict_keyiterator_next_1 _))))
 refine wpAny_bind (wpAny_pure (wpAny_bind (wpAny_bind (wpAny_bind (wpAny_typeNameOfWhole_keyiter ty (wpAny_pure (wpAny_bind (wpAny_fieldsOf go fo ?_))))))))
 simp only[own,Bool.false_eq_true,if_false]
 show wpAny _ _ (if (Value.ref d == Value.none)=true then _ else _) _ _ _
 rw[if_neg (by simp)]
 refine wpAny_bind (wpAny_pure (wpAny_bind (wpAny_dictEntries gd fd ?_)))
 rw[if_neg (by simp)]
 refine wpAny_bind (wpAny_pure (wpAny_bind (wpAny_dictEpoch gd fd ?_)))
 rw[if_neg (by simp)]
 refine wpAny_pure ?_
 simp only[show ¬ ((i:Int) < 0) by omega,if_false,toNat_natCast]
 cases ee:es[i]? with
 | none =>
  obtain⟨hh,k⟩:=IX ee
  dsimp only
  refine wpAny_bind (wpAny_bind (wpAny_typeNameOfWhole_keyiter ty (wpAny_pure ?_)))
  show wpAny _ _ (setField (.ref it) 0 .none >>= _) _ _ _
  refine wpAny_bind (wpAny_setField go fo (by simp) ?_)
  show wpAny _ _ (newExc (.type "StopIteration") [] >>= _) _ _ _
  simp only[newExc,newTuple]
  refine wpAny_bind (wpAny_bind (wpAny_newObj_type ?_ (by size_fits)))
  refine wpAny_bind (m:=firstArgMember _ _) (wpAny_of_eq (a:=Value.none) (by simp only[firstArgMember];rfl) ?_)
  refine wpAny_newObj_type ?_ (by size_fits)
  simp only[raiseNew]
  refine wpAny_bind (wpAny_handled ?_)
  rw[show A.in1.handled=Option.none from hh]
  refine wpAny_bind (wpAny_pure (wpAny_throw ?_))
  refine wpAny_bind (wpAny_isInstance (T := "StopIteration") (b:=true) ⟨_,Heap.get?_push_size _ rfl,rfl⟩ isSubtype_stop (wpAny_pure (k _ ?_)))
  exact((Heap.SameBut.update ..).extBut.push _).push _
 | some e =>
  have k:=Dy e ee
  clear Dy IX
  dsimp only
  refine wpAny_bind (wpAny_bind (wpAny_typeNameOfWhole_keyiter ty (wpAny_pure (wpAny_bind (wpAny_isOneOf_keyiter ty ?_)))))
  show wpAny _ _ (setField (.ref it) 1 (rawInt ((i:Int) + 1)) >>= _) _ _ _
  refine wpAny_bind (wpAny_setField go fo (by simp) ?_)
  have SI:(s.heap.update it (Obj.mapFields (·.setIfInBounds 1 (rawInt ((i:Int) + 1))))).IsKeyIter it d (i + 1) es.size ep:=⟨_,Heap.get?_update_self _ go (Obj.isFreed_of_fields (Obj.data_mapFields fo _)),(Obj.cls_mapFields ..).trans co,by rw[Obj.data_mapFields fo];simp[rawInt]⟩
  refine wpAny_bind (wpAny_holding (wpAny_bind (wpAny_isOneOf_keyiter (s:={ s with heap:=s.heap.update it (Obj.mapFields (·.setIfInBounds 1 (rawInt ((i:Int) + 1)))) }) SI.typeIs ?_)))
  show wpAny _ _ (pure e.key) _ _ _
  exact wpAny_pure (wpAny_pure ⟨_,rfl,wpAny_pure (k _ SI (Heap.SameBut.update ..))⟩)
end
noncomputable def OM (P:Program)(w:World)(a:Addr)(o:Obj)(xP:List bO):It :=
 ⟨fun i H=>H a=some (.yW o (bF P w a xP))/\i < xP.length,fun i H v H'=>H' = H/\∃ x,xP[i]? = some x/\v = .ref x.2.1,fun i H=>H a=some (.yW o (bF P w a xP))/\i=xP.length⟩
theorem mE {P:Program}{w:World}{K:Frag}{tg:Expr}(a it:Addr)(o:Obj)(xP:List bO)(es:Array DictEntry)(ep:Nat)(hd:o.data = .dict es ep)(hl:es.size=xP.length)
  (hx:∀ (i:Nat)(x:bO),xP[i]? = some x->∃ e:DictEntry,es[i]? = some e/\e.key = .ref x.2.1/\RelV x.2.2 e.val):lc P w K tg (OM P w a o xP) [it] it (fun i h=>h.IsKeyIter it a i es.size ep) where
 mem:=by simp
 obj:=fun i h st b hb=>by
  have e:b=it:=by simpa using hb
  subst e
  obtain⟨ob,e,c,d⟩:=st
  exact⟨ob,e,fun v z=>by rw[d]at z;cases z⟩
 keep:=fun i h h' st k=>by
  obtain⟨ob,e,c,d⟩:=st
  exact⟨ob,k it (by simp) ob e,c,d⟩
 item:=by
  intro X hP hw hK hc i pins s σ H E I hf st hg
  subst hP hw hK
  obtain⟨ha,hi⟩:=hg
  have Ce:=hx i xP[i] (getElem?_eq_getElem hi)
  have SJ:=getElem?_eq_getElem hi
  generalize xP[i]=ent at Ce SJ
  obtain⟨e,he,ke,re⟩:=Ce
  obtain⟨f0,f1,f2,f3,f4,f5⟩:=hf it (by simp)
  refine jg st ⟨o,(I.xY a _ ha).1,hd⟩ (fun e' IY h1 g1 q1=>⟨_,rfl,?_⟩) (fun z=>by rw[he]at z;cases z)
  rw[he]at IY
  cases IY
  have I1:Inv X pins σ H { s with heap:=h1 }:=I.turned (t':=s.toks) (fun b o hb e=>(q1.2 b hb).trans e) f0 f1 f3 f4 f5
  obtain⟨ob,eo,c,d⟩:=id g1
  exact oX (s:={ s with heap:=h1 }) eo c d (by decide) ⟨.ref ent.2.1,H,I1,ke,⟨rfl,ent,SJ,rfl⟩,g1,fun b hb=>(hf b hb).1⟩
 done:=by
  intro X hP hw hK hc i pins s σ H E I hf st hg
  subst hP hw hK
  obtain⟨ha,rfl⟩:=hg
  obtain⟨f0,f1,f2,f3,f4,f5⟩:=hf it (by simp)
  exact jg st ⟨o,(I.xY a _ ha).1,hd⟩ (fun e' IY=>by rw[Array.getElem?_eq_none (by omega)]at IY;cases IY) (fun _=>⟨I.ok.hd hc,fun h1 k1=>⟨rfl,I.turned (t':=s.toks) (fun b o hb e=>k1 b o hb e) f0 f1 f3 f4 f5⟩⟩)
 self:=fun _ _ _ _ _ st h=>wpAny_pyIter_keyiter st h
section
variable {X:Cx}{tg:Expr}
theorem pc {P:Program}{w:World}{H:Hp}{h:Heap}{a:Addr}{xP:List bO}(dp:tJ P w a xP h):∃ ob es ep,h.get? a=some ob/\ob.data = .dict es ep/\es.size=xP.length/\(∀ (i:Nat)(x:bO),xP[i]? = some x->∃ e:DictEntry,es[i]? = some e/\e.key = .ref x.2.1/\RelV x.2.2 e.val)/\ob.cls = .type "dict"/\ob.dict=none:=by
 obtain⟨hz,hs,xs,r,ob,es,ep,g,ex,hd,he,hr⟩:=id dp
 obtain⟨es2,ep2,hd2,zI,Cf⟩:=sP dp g
 exact⟨ob,es2,ep2,g,hd2,zI,Cf,ex.1,ex.2.1⟩
noncomputable def sD (P:Program)(w:World)(tl:TE):TI:=fun σ H R=>tl σ H fun x H1=>∃ a xP,x = .ref a/\H1 a=some (bF P w a xP)/\∀ o,R (OM P w a o xP) (upd H1 a (.yW o (bF P w a xP)))
theorem rp {l:Expr}{tl:TE}(hl:PE X l tl):PI X tg l (sD X.prog X.w tl):=by
 intro pins s σ H R I h
 refine bq (hl pins s σ H _ I h) fun v s1 xU=>?_
 obtain⟨x,H1,I1,r1,a,xP,ex,ha,q⟩:=xU
 subst ex
 cases (show v=Value.ref a from r1)
 obtain⟨dp,_,IZ⟩:=I1.xY a _ ha
 obtain⟨ob,es,ep,gb,hd,hsz,hx,hc,Ah⟩:=pc (H:=H1) dp
 have I2:Inv X pins σ (upd H1 a (.yW ob (bF X.prog X.w a xP))) s1:=I1.write (x:=a) (e:=a) (h':=s1.heap) (t':=s1.toks) (by rw[ha];exact True.intro) (.inl rfl) (fun b u _ q=>q) ⟨_,gb⟩ ⟨gb,dp,⟨ob,gb⟩,IZ⟩
 refine pL dp.2.1 ⟨ob,gb,hc⟩ ⟨ob,gb,hd⟩ ?_
 refine⟨s1.heap.objs.size,[s1.heap.objs.size],_,_,_,rfl,I2.kept (t':=s1.toks) fun b o e=>Heap.get?_push_of_some _ e,mE a _ ob xP es ep hd hsz hx,⟨_,Heap.get?_push_size _ rfl,rfl,rfl⟩,fun b hb=>?_,q ob⟩
 have e:b=s1.heap.objs.size:=by simpa using hb
 subst e
 exact I2.AV (le_refl _) (I2.xY.fresh (le_refl _))
theorem sx {prog:Program}{w:World}{A:Around}{E:Value->Shared->Prop}{s:Shared}{d:Addr}{es:Array DictEntry}{ep:Nat}{Q:Value->Shared->Prop}(hd:(d == sysModules)=false)(ty:s.TypeIs (.ref d) "dict")(en:xK s.heap d es ep)(Dz:(es.size:Int) < 2 ^ 63)
  (h:Q (.int es.size (s.toks + 1)) { s with toks:=s.toks + 1 + 1 }):wpAny (model prog w) A (call (.builtin "len") [.ref d]) Q E s:=by
 obtain⟨o,go,fo⟩:=en
 have M:MeetsIn prog w (Builtin.«dict.__len__» ⟨[.ref d],[]⟩) (fun _ R s'=>(∃ o',s'.heap.get? d=some o'/\o'.data = .dict es ep)/\R (.ok (.ret (.int es.size s'.toks))) { s' with toks:=s'.toks + 1 }) := .of_wp fun A' R' s' ⟨⟨o',g',d'⟩,k⟩=>by
  show wpAny _ _ (dictSize d >>= fun n=>Builtin.Dict.pendingCount d >>= _) _ _ s'
  unfold dictSize
  refine wpAny_bind (wpAny_bind (wpAny_dictEntries g' d' (wpAny_pure (wpAny_bind (wpAny_pendingCount_other hd (wpAny_ret_mkInt ?_))))))
  rw[Nat.add_zero]
  exact k
 refine Calls.call_function_entry kind_len plain_len entry_len (args_len1 _) ?_
 unfold Builtin.«len»
 refine wpAny_bind (m:=oneArg "len" _) (wpAny_pure (wpAny_bind (m:=callSpecial? (.ref d) (Str.ofString "__len__")) (wpAny_callSpecial?_slot (name:=Str.ofString "__len__") ty F.slot_dict_len (call_meetsIn F.slot_dict_len ty F.entry_dict_len (F.args_dict_len_1 _) M ⟨⟨o,go,fo⟩,?_⟩))))
 show wpAny _ _ _ _ _ { s with toks:=s.toks + 1 }
 refine wpAny_bind (wpAny_holding (wpAny_pure (wpAny_bind (wpAny_letGo ?_))))
 show wpAny _ _ (if ((es.size:Nat):Int) < 0 then _ else _) _ _ _
 rw[if_neg (by omega)]
 show wpAny _ _ (if ((es.size:Nat):Int) ≥ 2 ^ 63 then _ else _) _ _ _
 rw[if_neg (by omega)]
 exact wpAny_bind (wpAny_mkInt (wpAny_pure ⟨_,rfl,h⟩))
theorem qg:cR X (.builtin "len") (fun xs H Q=>∃ (a:Addr)(xP:List bO),xs=[.ref a]/\H a=some (bF X.prog X.w a xP)/\Q (.int xP.length) H):=by
 intro pins s σ H xs us Q I r h
 obtain⟨a,xP,rfl,ha,q⟩:=h
 obtain⟨u,rfl,ru⟩:=r.one
 cases ru
 obtain⟨dp,_,IZ⟩:=I.xY a _ ha
 obtain⟨ob,es,ep,gb,hd,hsz,hx,BG,Ah⟩:=pc (H:=H) dp
 have z:=dp.1
 refine sx dp.2.1 ⟨ob,gb,BG⟩ ⟨ob,gb,hd⟩ (by rw[hsz];rw[sizeLine_eq]at z;omega) ?_
 rw[hsz]
 exact⟨.int xP.length,H,I.tok _,⟨_,rfl⟩,q⟩
noncomputable def vn (P:Program)(w:World)(H:Hp)(a:Addr)(xP:List bO):Prop:=Rd H a (bF P w a xP)/\∀ x ∈ xP,H x.2.1=some (.tup (x.1.map gY))
theorem uY {P:Program}{w:World}{H:Hp}{h:Heap}{a:Addr}{xP:List bO}(ok:zk P w H h)(e:vn P w H a xP):∃ xs,Paired gJ xP xs/\h.DictOfH (tupleKind (dC P w)) a xs:=by
 obtain⟨⟨_,_,xs,rel,o,es,ep,g1,g2,g3,g4,g5⟩,_,_⟩:=e.1.ok ok
 refine⟨xs,rel,o,es,ep,g1,g2,g3,g4,fun y hy=>?_,g5⟩
 obtain⟨i,hi,ei⟩:=getElem_of_mem hy
 have SK:i < xP.length:=by rw[Paired.length rel];exact hi
 obtain⟨y',Ja,r1,r2,r3⟩:=e9 rel (getElem?_eq_getElem SK)
 rw[getElem?_eq_getElem hi,ei]at Ja
 cases Ja
 rw[← r1,← r2]
 exact eZ ok (e.2 _ (getElem_mem SK))
noncomputable def qw (P:Program)(w:World)(td ty:TE):TE:=fun σ H Q=>td σ H fun x H1=>ty σ H1 fun y H2=>∃ a xP k b v,x = .ref a/\vn P w H2 a xP/\y = .ref b/\H2 b=some (.tup (k.map gY))/\c6 xP k=some v/\Q v H2
theorem kH {o i:Expr}{td ty:TE}{pos:Pos}(hu:X.A.units + 1 < cLine)(ho:PE X o td)(hi:PE X i ty)(hs:IT i):PE X (.Subscript o i pos) (qw X.prog X.w td ty):=by
 intro pins s σ H Q I h
 refine tP PySem.F.slot_dict_getitem.lookup hs (bq (ho pins s σ H _ I h) fun u s1 ⟨x,H1,I1,rx,q1⟩=>bq (hi pins s1 σ H1 _ I1 q1) fun iv s2 xU=>?_)
 obtain⟨y,H2,I2,ry,a,xP,k,b,v,ex,dr,ey,eb,hv,q2⟩:=xU
 subst ex ey
 obtain rfl:u=Value.ref a:=rx
 obtain rfl:iv=Value.ref b:=ry
 obtain⟨xs,rel,dd⟩:=uY I2.xY dr
 have r:=iI rel k
 rw[hv]at r
 obtain⟨u',e1,ru⟩:=zb.some_of r
 cases e2:atKey xs k with
 | none=>rw[e2]at e1;cases e1
 | some p =>
  rw[e2]at e1
  have e1:p.2=u':=Option.some.inj e1
  refine⟨dd.typeIs,wpAny_getItem_heap (tupleKind_room_in1 hu) (eZ I2.xY eb) dd e2 ⟨v,H2,I2.tok _,by rw[e1];exact ru,q2⟩⟩
end
section
variable {prog:Program}{w:World}{A:Around}{E:Value->Shared->Prop}{s:Shared}{I:Addr}{fp wr:List Addr}{G:Array GenState->Array GenState->Prop}{n:Nat}{P:Nat->Value->Prop}{St:Nat->Shared->Prop}
end
section
variable {X:Cx}
end
section
variable {X:Cx}{o e f:Expr}{apos yH:Pos}{td ty tx:TE}
end
section
variable {X:Cx}{pins:List (Addr × Obj)}{σ:St}{H:Hp}{s:Shared}
theorem Inv.F3 {h':Heap}{t':Nat}{ch:List Addr}{p:Addr}{xs:List V}{us:List Value}(I:Inv X pins σ H s)(fc:∀ c ∈ ch,eG X pins H c)(hp:s.heap.objs.size <= p)
  (k:∀ c o,c ∉ ch->s.heap.get? c=some o->h'.get? c=some o) (hl:xs.length <= sizeLine) (r:Vals xs us) (ht:yG h' p us.toArray) :
  Inv X pins σ (upd H p (.tup xs)) { s with heap:=h',toks:=t' }:=by
 have hf:H p=none:=I.xY.fresh hp
 have nt:∀ c u,H c=some u->c ≠ p:=fun c u q z=>by rw[z,hf]at q;cases q
 have lt:∀ c o,s.heap.get? c=some o->c ≠ p:=fun c o q=>ne_of_lt (lt_of_lt_of_le (lt_size q) hp)
 refine I.call (g':=s.gens) (d':=s.drawn) (ch:=ch) ⟨fun c o e n h1 h2=>k c o h2 e,fun c o e n h1 h2=>⟨o.slots,k c o h2 e⟩,fun c o e n h2=>by rw[ae (lt c o e)];exact n,
  fun c o e h2=>⟨o,k c o h2 e⟩,fun c ys q=>by rw[ae (nt c _ q)];exact q,fun c o u q=>by rw[ae (nt c _ q)];exact q,fun c ps q=>⟨#[],by rw[ae (nt c _ q),q];simp⟩⟩ (fun c u q=>?_) I.bare fun c hc=>?_
 ·by_cases hc:c=p
  ·subst hc
   rw[ac]at q
   cases q
   exact⟨hl,us,r,ht⟩
  ·rw[ae hc]at q
   refine(I.xY c u q).zc (fun d v hd z=>?_) (fun d z=>by rw[ae (nt d _ z)];exact z) fun d ys z=>by rw[ae (nt d _ z)];exact z
   have nd:d ∉ ch:=fun w=>by
    have he:=(fc d w).1
    rcases hd with rfl | hd
    ·rw[he]at q;cases q
    ·rw[he]at hd;cases hd
   exact k d v nd z
 ·obtain⟨f0,f1,_,f3,f4,f5⟩:=fc c hc
  exact⟨f3,f1,f4,f5⟩
theorem Inv.D1 {h':Heap}{t':Nat}{ch:List Addr}(I:Inv X pins σ H s)(fc:∀ c ∈ ch,eG X pins H c)(k:∀ c o,c ∉ ch->s.heap.get? c=some o->h'.get? c=some o):Inv X pins σ H { s with heap:=h',toks:=t' }:=by
 refine I.call (g':=s.gens) (d':=s.drawn) (ch:=ch) ⟨fun c o e n h1 h2=>k c o h2 e,fun c o e n h1 h2=>⟨o.slots,k c o h2 e⟩,fun c o e n h2=>n,
  fun c o e h2=>⟨o,k c o h2 e⟩,fun c ys q=>q,fun c o u q=>q,fun c ps q=>⟨#[],by rw[q];simp⟩⟩ (fun c u q=>?_) I.bare fun c hc=>?_
 ·refine(I.xY c u q).zc (fun d v hd z=>?_) (fun d z=>z) fun d ys z=>z
  have nd:d ∉ ch:=fun w=>by
   have he:=(fc d w).1
   rcases hd with rfl | hd
   ·rw[he]at q;cases q
   ·rw[he]at hd;cases hd
  exact k d v nd z
 ·obtain⟨f0,f1,_,f3,f4,f5⟩:=fc c hc
  exact⟨f3,f1,f4,f5⟩
end
section
variable {X:Cx}{elts:List Expr}{kk:Nat}{zY p pos:Pos}{e1 e2:Expr}
end
section
variable {X:Cx}
end
section
variable {prog:Program}{w:World}{A:Around}{E:Value->Shared->Prop}{s:Shared}{I:Addr}{fp wr:List Addr}{G:Array GenState->Array GenState->Prop}{n:Nat}{P:Nat->Value->Prop}{St:Nat->Shared->Prop}
end
section
variable {X:Cx}
end
theorem oI {H:Hp}{a b:Addr}{o:HO}(h:H a=none)(e:H b=some o):a ≠ b:=fun z=>by rw[z,e]at h;cases h
section
variable {prog:Program}{w:World}{A:Around}{E:Value->Shared->Prop}{s:Shared}
theorem eD {it l:Addr}{i:Nat} {items} {x:Value} {Q:Value->Shared->Prop} (hit:s.heap.IsTupleIter it l i)
  (hl:s.heap.IsTuple l items) (hx:items[i]? = some x)
  (hQ:∀ h',h'.IsTupleIter it l (i + 1)->Heap.SameBut it s.heap h'->Q x { s with heap:=h' }) :
  wpAny (model prog w) A (Builtin.SmallTypes.nextOf (.ref it)) Q E s:=by
 obtain⟨o,ho,hc,hd⟩:=id hit
 obtain⟨ol,Eb,_,nl,Dx⟩:=hl
 unfold Builtin.SmallTypes.nextOf
 refine wpAny_bind (wpAny_callSpecial?_slot (name:=Str.ofString "__next__") hit.typeIs F.slot_tuple_iterator_next
  (wpAny_call_entry F.slot_tuple_iterator_next hit.typeIs F.entry_tuple_iterator_next ?_ (F.args_tuple_iterator_next_1 _)))
 show wpAny _ _ (field (.ref it) 0 >>= _) _ _ s
 refine wpAny_bind (wpAny_field ho hd (x := .ref l) rfl ?_)
 show wpAny _ _ (if (Value.ref l == Value.none)=true then _ else _) _ _ s
 rw[if_neg (show ¬ ((Value.ref l == Value.none)=true) from Bool.false_ne_true)]
 show wpAny _ _ (field (.ref it) 1 >>= _) _ _ s
 refine wpAny_bind (wpAny_field ho hd (x := .int i 0) rfl ?_)
 show wpAny _ _ (seqItems? (.ref l) >>= _) _ _ s
 refine wpAny_bind (wpAny_seqItems Eb Dx ?_)
 simp only[toNat_natCast,hx]
 refine wpAny_bind (wpAny_setField ho hd (by simp) (wpAny_pure ⟨x,rfl,wpAny_pure (hQ _ ?_ (Heap.SameBut.update ..))⟩))
 exact⟨_,Heap.get?_update_self _ ho (Obj.isFreed_of_fields (Obj.data_mapFields hd _)),(Obj.cls_mapFields ..).trans hc,by
  rw[Obj.data_mapFields hd];simp[rawInt]⟩
theorem ji {it l:Addr}{i:Nat} {items} {Q:Value->Shared->Prop} (hh:A.handled=none)
  (hit:s.heap.IsTupleIter it l i) (hl:s.heap.IsTuple l items) (hx:items[i]? = none)
  (hE:∀ h' e,Heap.ExtBut it s.heap h'->(∃ o,h'.get? e=some o/\o.cls = .type "StopIteration")->E (.ref e) { s with heap:=h' }) :
  wpAny (model prog w) A (Builtin.SmallTypes.nextOf (.ref it)) Q E s:=by
 obtain⟨o,ho,hc,hd⟩:=id hit
 obtain⟨ol,Eb,_,nl,Dx⟩:=hl
 unfold Builtin.SmallTypes.nextOf
 refine wpAny_bind (wpAny_callSpecial?_slot (name:=Str.ofString "__next__") hit.typeIs F.slot_tuple_iterator_next
  (wpAny_call_entry F.slot_tuple_iterator_next hit.typeIs F.entry_tuple_iterator_next ?_ (F.args_tuple_iterator_next_1 _)))
 show wpAny _ _ (field (.ref it) 0 >>= _) _ _ s
 refine wpAny_bind (wpAny_field ho hd (x := .ref l) rfl ?_)
 show wpAny _ _ (if (Value.ref l == Value.none)=true then _ else _) _ _ s
 rw[if_neg (show ¬ ((Value.ref l == Value.none)=true) from Bool.false_ne_true)]
 show wpAny _ _ (field (.ref it) 1 >>= _) _ _ s
 refine wpAny_bind (wpAny_field ho hd (x := .int i 0) rfl ?_)
 show wpAny _ _ (seqItems? (.ref l) >>= _) _ _ s
 refine wpAny_bind (wpAny_seqItems Eb Dx ?_)
 simp only[toNat_natCast,hx]
 refine wpAny_bind (wpAny_rule (wpAny_bind (wpAny_setField ho hd (by simp) ?_)))
 show wpAny _ _ (newExc (.type "StopIteration") [] >>= _) _ _ _
 refine wpAny_bind ?_
 simp only[newExc,newTuple]
 refine wpAny_bind (wpAny_newObj_type ?_ (by size_fits))
 refine wpAny_bind (m:=firstArgMember _ _) (wpAny_of_eq (a:=Value.none) (by first | rfl | (simp only[firstArgMember];rfl)) ?_)
 refine wpAny_newObj_type ?_ (by size_fits)
 simp only[raiseNew]
 refine wpAny_bind (wpAny_handled ?_)
 first | rw[show A.in1.handled=none from hh] | rw[hh]
 refine wpAny_bind (wpAny_pure (wpAny_throw ?_))
 exact hE _ _ (((Heap.SameBut.update ..).extBut.push _).push _) ⟨_,Heap.get?_push_size _ rfl,rfl⟩
theorem iK {z TI TO i1 i2 l1 l2:Addr}{k1 k2:Nat}{xs ys:Array Value}{x y a b:Value}{Q:Value->Shared->Prop}(D:ZipApart z TI TO i1 i2 l1 l2)
  (hz:IsZip s.heap z TI TO .none) (F4:IsPair s.heap TI (.ref i1) (.ref i2)) (F5:IsPair s.heap TO a b)
  (h1:s.heap.IsTupleIter i1 l1 k1) (h2:s.heap.IsListIter i2 l2 k2) (AI:s.heap.IsTuple l1 xs) (zI:s.heap.IsList l2 ys) (hx:xs[k1]? = some x) (hy:ys[k2]? = some y)
  (hQ:∀ h',IsZip h' z TI TO (rawInt s.heap.objs.size)->IsPair h' TO x y->h'.IsTupleIter i1 l1 (k1 + 1)->h'.IsListIter i2 l2 (k2 + 1)->IsPair h' s.heap.objs.size x y->h'.objs.size=s.heap.objs.size + 1 ->
   (∀ c o,c ≠ z->c ≠ TO->c ≠ i1->c ≠ i2->s.heap.get? c=some o->h'.get? c=some o)->Q (.ref s.heap.objs.size) { s with heap:=h' }) :
  wpAny (model prog w) A (Builtin.«zip.__next__» ⟨[.ref z],[]⟩) (fun fin s'=>∃ v,fin = .done (.ret v)/\Q v s') E s:=by
 show wpAny _ _ (field (.ref z) 2 >>= _) _ _ _
 refine wpAny_bind (wpAny_field hz rfl (x := .bool false) rfl ?_)
 show wpAny _ _ (field (.ref z) 3 >>= _) _ _ _
 refine wpAny_bind (wpAny_field hz rfl (x := .ref TI) rfl ?_)
 refine wpAny_bind (wpAny_seqItems F4 rfl ?_)
 show wpAny _ _ (Builtin.SmallTypes.ownedTupleIsFree (.ref z) >>= _) _ _ _
 refine wpAny_bind ?_
 unfold Builtin.SmallTypes.ownedTupleIsFree
 refine wpAny_bind (wpAny_field hz rfl (x := .none) rfl (wpAny_pure ?_))
 simp only[if_true]
 refine wpAny_bind (wpAny_rule ?_)
 refine wpAny_bind (wpAny_field hz rfl (x := .ref TO) rfl ?_)
 refine wpAny_bind (wpAny_setField_rec hz (by simp) fun h₁ zr yy=>?_)
 replace zr:IsZip h₁ z TI TO .ellipsis:=zr
 refine wpAny_bind ?_
 simp only[List.zipIdx_cons,List.zipIdx_nil,forIn_cons,forIn_nil]
 refine wpAny_bind (wpAny_bind (wpAny_onRaise ?_))
 show wpAny _ _ (Builtin.SmallTypes.nextOf (.ref i1) >>= _) _ _ _
 refine wpAny_bind (eD (h1.extBut yy.extBut D.i1z) (AI.extBut yy.extBut D.l1z) hx fun h₂ Ec y4=>wpAny_pure ?_)
 have zL:IsPair h₂ TO a b:=y4.extBut _ _ D.TOi1 (yy.extBut _ _ D.TOz F5)
 refine wpAny_bind (wpAny_seqItems zL rfl ?_)
 refine wpAny_bind (wpAny_updateSeq_pair zL fun h₃ Ar y9=>?_)
 replace Ar:IsPair h₃ TO x b:=Ar
 refine wpAny_bind (wpAny_letGo (wpAny_pure ?_))
 refine wpAny_bind (wpAny_bind (wpAny_onRaise ?_))
 show wpAny _ _ (Builtin.SmallTypes.nextOf (.ref i2) >>= _) _ _ _
 refine wpAny_bind (wpAny_nextOf_list_item (((h2.extBut yy.extBut D.i2z).extBut y4.extBut D.i12.symm).extBut y9.extBut D.TOi2.symm)
  (((zI.extBut yy.extBut D.l2z).extBut y4.extBut D.l2i1).extBut y9.extBut D.l2TO) hy fun h₄ Jb zt=>wpAny_pure ?_)
 have Cz:IsPair h₄ TO x b:=zt.extBut _ _ D.TOi2 Ar
 refine wpAny_bind (wpAny_seqItems Cz rfl ?_)
 refine wpAny_bind (wpAny_updateSeq_pair Cz fun h₅ zM zu=>?_)
 replace zM:IsPair h₅ TO x y:=zM
 refine wpAny_bind (wpAny_letGo (wpAny_pure (wpAny_pure ?_)))
 refine wpAny_bind (wpAny_seqItems zM rfl ?_)
 refine wpAny_bind (wpAny_newTuple ?_)
 have hsz:h₅.objs.size=s.heap.objs.size:=by rw[zu.1,zt.1,y9.1,y4.1,yy.1]
 have Ed:IsZip h₅ z TI TO .ellipsis:=zu.extBut _ _ D.TOz.symm (zt.extBut _ _ D.i2z.symm (y9.extBut _ _ D.TOz.symm (y4.extBut _ _ D.i1z.symm zr)))
 have Jc:∀ c o,c ≠ z->c ≠ TO->c ≠ i1->c ≠ i2->s.heap.get? c=some o->h₅.get? c=some o:=fun c o c1 c2 c3 c4 e =>
  zu.extBut _ _ c2 (zt.extBut _ _ c4 (y9.extBut _ _ c2 (y4.extBut _ _ c3 (yy.extBut _ _ c1 e))))
 have Ee:h₅.IsTupleIter i1 l1 (k1 + 1):=((Ec.extBut y9.extBut D.TOi1.symm).extBut zt.extBut D.i12).extBut zu.extBut D.TOi1.symm
 have Ef:h₅.IsListIter i2 l2 (k2 + 1):=Jb.extBut zu.extBut D.TOi2.symm
 have Jd:z < h₅.objs.size:=lt_size Ed
 have SM:TO < h₅.objs.size:=lt_size zM
 have SN:i1 < h₅.objs.size:=by obtain⟨_,e,_⟩:=Ee;exact lt_size e
 have SO:i2 < h₅.objs.size:=by obtain⟨_,e,_⟩:=Ef;exact lt_size e
 show wpAny _ _ (Builtin.SmallTypes.ownedTupleHandOut (.ref z) (.ref h₅.objs.size) >>= _) _ _ _
 refine wpAny_bind ?_
 unfold Builtin.SmallTypes.ownedTupleHandOut
 have Je:IsZip (h₅.push { cls := .type "tuple",data := .seq #[x,y] }) z TI TO .ellipsis:=Heap.get?_push_of_some _ Ed
 refine wpAny_bind (wpAny_setField_rec Je (by simp) fun h₇ C0 C1=>?_)
 replace C0:IsZip h₇ z TI TO (rawInt h₅.objs.size):=C0
 refine wpAny_setField_rec C0 (by simp) fun h₈ Br C2=>?_
 replace Br:IsZip h₈ z TI TO (rawInt h₅.objs.size):=Br
 have up:∀ c o,c ≠ z->h₅.get? c=some o->h₈.get? c=some o:=fun c o c1 e=>C2.extBut _ _ c1 (C1.extBut _ _ c1 (Heap.get?_push_of_some _ e))
 have Eg:IsPair h₈ h₅.objs.size x y:=C2.extBut _ _ (ne_of_gt Jd) (C1.extBut _ _ (ne_of_gt Jd) (Heap.get?_push_size _ rfl))
 have SQ:h₈.objs.size=h₅.objs.size + 1:=by rw[C2.1,C1.1,size_push]
 rw[hsz]at Br Eg SQ
 refine wpAny_pure ⟨_,rfl,?_⟩
 show Q (.ref h₅.objs.size) _
 rw[hsz]
 exact hQ h₈ Br (up _ _ D.TOz zM) (Ee.at fun o e=>up _ o D.i1z e) (Ef.at fun o e=>up _ o D.i2z e) Eg SQ fun c o c1 c2 c3 c4 e=>up c o c1 (Jc c o c1 c2 c3 c4 e)
theorem j3 {z TI TO i1 i2 l1 l2:Addr}{k1 k2:Nat}{xs ys:Array Value}{a b:Value}{Q:Fin->Shared->Prop}(hh:A.handled=none)(D:ZipApart z TI TO i1 i2 l1 l2)
  (hz:IsZip s.heap z TI TO .none) (F4:IsPair s.heap TI (.ref i1) (.ref i2)) (F5:IsPair s.heap TO a b)
  (h1:s.heap.IsTupleIter i1 l1 k1) (h2:s.heap.IsListIter i2 l2 k2) (AI:s.heap.IsTuple l1 xs) (zI:s.heap.IsList l2 ys) (AJ:xs[k1]? = none∨ys[k2]? = none)
  (hE:∀ h' e,(∀ c o,c ≠ z->c ≠ TO->c ≠ i1->c ≠ i2->s.heap.get? c=some o->h'.get? c=some o)->(∃ o,h'.get? e=some o/\o.cls = .type "StopIteration")->E (.ref e) { s with heap:=h' }) :
  wpAny (model prog w) A (Builtin.«zip.__next__» ⟨[.ref z],[]⟩) Q E s:=by
 show wpAny _ _ (field (.ref z) 2 >>= _) _ _ _
 refine wpAny_bind (wpAny_field hz rfl (x := .bool false) rfl ?_)
 show wpAny _ _ (field (.ref z) 3 >>= _) _ _ _
 refine wpAny_bind (wpAny_field hz rfl (x := .ref TI) rfl ?_)
 refine wpAny_bind (wpAny_seqItems F4 rfl ?_)
 show wpAny _ _ (Builtin.SmallTypes.ownedTupleIsFree (.ref z) >>= _) _ _ _
 refine wpAny_bind ?_
 unfold Builtin.SmallTypes.ownedTupleIsFree
 refine wpAny_bind (wpAny_field hz rfl (x := .none) rfl (wpAny_pure ?_))
 simp only[if_true]
 refine wpAny_bind (wpAny_rule ?_)
 refine wpAny_bind (wpAny_field hz rfl (x := .ref TO) rfl ?_)
 refine wpAny_bind (wpAny_setField_rec hz (by simp) fun h₁ zr yy=>?_)
 replace zr:IsZip h₁ z TI TO .ellipsis:=zr
 refine wpAny_bind ?_
 simp only[List.zipIdx_cons,List.zipIdx_nil,forIn_cons,forIn_nil]
 refine wpAny_bind (wpAny_bind (wpAny_onRaise ?_))
 show wpAny _ _ (Builtin.SmallTypes.nextOf (.ref i1) >>= _) _ _ _
 cases hx:xs[k1]? with
 | none =>
  refine wpAny_bind (ji hh (h1.extBut yy.extBut D.i1z) (AI.extBut yy.extBut D.l1z) hx fun h₂ e y4 he=>?_)
  obtain⟨oe,F6,Jf⟩:=he
  have Eh:IsZip h₂ z TI TO .ellipsis:=y4 _ _ D.i1z.symm zr
  have ON:e ≠ z:=fun x=>by subst x;rw[Eh]at F6;cases F6;simp at Jf
  refine wpAny_setField_rec Eh (by simp) fun h₃ _ y9=>hE h₃ e (fun c o c1 _ c3 _ x=>y9.extBut _ _ c1 (y4 _ _ c3 (yy.extBut _ _ c1 x))) ⟨oe,y9.extBut _ _ ON F6,Jf⟩
 | some x =>
  have hy:ys[k2]? = none:=by rcases AJ with h | h;rw[hx]at h;cases h;exact h
  refine wpAny_bind (eD (h1.extBut yy.extBut D.i1z) (AI.extBut yy.extBut D.l1z) hx fun h₂ Ec y4=>wpAny_pure ?_)
  have zL:IsPair h₂ TO a b:=y4.extBut _ _ D.TOi1 (yy.extBut _ _ D.TOz F5)
  refine wpAny_bind (wpAny_seqItems zL rfl ?_)
  refine wpAny_bind (wpAny_updateSeq_pair zL fun h₃ Ar y9=>?_)
  refine wpAny_bind (wpAny_letGo (wpAny_pure ?_))
  refine wpAny_bind (wpAny_bind (wpAny_onRaise ?_))
  show wpAny _ _ (Builtin.SmallTypes.nextOf (.ref i2) >>= _) _ _ _
  refine wpAny_bind (wpAny_nextOf_list_end hh (((h2.extBut yy.extBut D.i2z).extBut y4.extBut D.i12.symm).extBut y9.extBut D.TOi2.symm)
   (((zI.extBut yy.extBut D.l2z).extBut y4.extBut D.l2i1).extBut y9.extBut D.l2TO) hy fun h₄ e zt he=>?_)
  obtain⟨oe,F6,Jf⟩:=he
  have Ei:IsZip h₄ z TI TO .ellipsis:=zt _ _ D.i2z.symm (y9.extBut _ _ D.TOz.symm (y4.extBut _ _ D.i1z.symm zr))
  have ON:e ≠ z:=fun x=>by subst x;rw[Ei]at F6;cases F6;simp at Jf
  refine wpAny_setField_rec Ei (by simp) fun h₅ _ zu=>hE h₅ e (fun c o c1 c2 c3 c4 x=>zu.extBut _ _ c1 (zt _ _ c4 (y9.extBut _ _ c2 (y4.extBut _ _ c3 (yy.extBut _ _ c1 x))))) ⟨oe,zu.extBut _ _ ON F6,Jf⟩
theorem gQ {z TI TO i1 i2 l1 l2:Addr}{k1 k2:Nat}{xs ys:Array Value}{x y a b:Value}{Q:Option Value->Shared->Prop}(D:ZipApart z TI TO i1 i2 l1 l2)
  (hz:IsZip s.heap z TI TO .none) (F4:IsPair s.heap TI (.ref i1) (.ref i2)) (F5:IsPair s.heap TO a b)
  (h1:s.heap.IsTupleIter i1 l1 k1) (h2:s.heap.IsListIter i2 l2 k2) (AI:s.heap.IsTuple l1 xs) (zI:s.heap.IsList l2 ys) (hx:xs[k1]? = some x) (hy:ys[k2]? = some y)
  (hQ:∀ h',IsZip h' z TI TO (rawInt s.heap.objs.size)->IsPair h' TO x y->h'.IsTupleIter i1 l1 (k1 + 1)->h'.IsListIter i2 l2 (k2 + 1)->IsPair h' s.heap.objs.size x y->h'.objs.size=s.heap.objs.size + 1 ->
   (∀ c o,c ≠ z->c ≠ TO->c ≠ i1->c ≠ i2->s.heap.get? c=some o->h'.get? c=some o)->Q (some (.ref s.heap.objs.size)) { s with heap:=h' }) :
  wpAny (model prog w) A (pyNext (.ref z)) Q E s:=by
 have hT:s.TypeIs (.ref z) "zip":=⟨_,hz,rfl⟩
 unfold pyNext
 exact wpAny_bind (wpAny_attempt (wpAny_callSpecial?_slot (name:=Str.ofString "__next__") hT F.slot_zip_next
  (wpAny_call_entry F.slot_zip_next hT F.entry_zip_next
   (iK D hz F4 F5 h1 h2 AI zI hx hy fun h' a1 a2 a3 a4 a5 a6 a7=>wpAny_pure (hQ h' a1 a2 a3 a4 a5 a6 a7)) (F.args_zip_next_1 _))))
theorem i0 {z TI TO i1 i2 l1 l2:Addr}{k1 k2:Nat}{xs ys:Array Value}{a b:Value}{Q:Option Value->Shared->Prop}(hh:A.handled=none)(D:ZipApart z TI TO i1 i2 l1 l2)
  (hz:IsZip s.heap z TI TO .none) (F4:IsPair s.heap TI (.ref i1) (.ref i2)) (F5:IsPair s.heap TO a b)
  (h1:s.heap.IsTupleIter i1 l1 k1) (h2:s.heap.IsListIter i2 l2 k2) (AI:s.heap.IsTuple l1 xs) (zI:s.heap.IsList l2 ys) (AJ:xs[k1]? = none∨ys[k2]? = none)
  (hQ:∀ h',(∀ c o,c ≠ z->c ≠ TO->c ≠ i1->c ≠ i2->s.heap.get? c=some o->h'.get? c=some o)->Q none { s with heap:=h' }):wpAny (model prog w) A (pyNext (.ref z)) Q E s:=by
 have hT:s.TypeIs (.ref z) "zip":=⟨_,hz,rfl⟩
 unfold pyNext
 refine wpAny_bind (wpAny_attempt (wpAny_callSpecial?_slot (name:=Str.ofString "__next__") hT F.slot_zip_next
  (wpAny_call_entry F.slot_zip_next hT F.entry_zip_next (j3 hh D hz F4 F5 h1 h2 AI zI AJ fun h' e hk he=>?_) (F.args_zip_next_1 _))))
 obtain⟨o,ho,hc⟩:=he
 refine wpAny_bind (wpAny_isInstance (T := "StopIteration") (b:=true) ⟨o,ho,hc⟩ isSubtype_stop ?_)
 exact wpAny_pure (hQ _ hk)
end
abbrev nU (h:Heap)(l1:Addr):Heap:=h.push { cls := .type "tuple_iterator",data := .fields #[.ref l1, .int 0 0] }
abbrev nT (h:Heap)(l1 l2:Addr):Heap:=(nU h l1).push { cls := .type "list_iterator",data := .fields #[.ref l2, .int 0 0] }
abbrev nQ (h:Heap)(l1 l2:Addr):Heap:=(nT h l1 l2).push { cls := .type "tuple",data := .seq #[.ref h.objs.size, .ref (nU h l1).objs.size] }
abbrev nP (h:Heap)(l1 l2:Addr):Heap:=(nQ h l1 l2).push { cls := .type "tuple",data := .seq #[.none, .none] }
abbrev iM (h:Heap)(l1 l2:Addr):Heap:=(nP h l1 l2).push { cls := .type "zip",data := .fields #[.none, .bool false, .bool false, .ref (nT h l1 l2).objs.size, .ref (nQ h l1 l2).objs.size] }
theorem jn (l1 l2:Addr)(xs ys:Array Value) :
  Meets (Builtin.«zip.__new__» ⟨[.type "zip", .ref l1, .ref l2],[]⟩) (fun _ R s=>s.heap.IsTuple l1 xs/\s.heap.IsList l2 ys /\
   R (.ok (.ret (.ref (nP s.heap l1 l2).objs.size))) { s with heap:=iM s.heap l1 l2 }) :=
 .of_wp fun prog w A R s h=>by
  obtain⟨hp,g,d,tk,os⟩:=s;obtain⟨AI,zI,h⟩:=h
  have Cy:=sub_zip
  have CY:Heap.IsTuple (Shared.heap ⟨hp,g,d,tk,os⟩) l1 xs:=AI
  have zN:Heap.IsList (Shared.heap ⟨hp.push { cls := .type "tuple_iterator",data := .fields #[.ref l1, .int 0 0] },g,d,tk,os⟩) l2 ys:=Heap.IsList.push zI _
  wp_walk using wpAny_pyIter_tuple CY,wpAny_pyIter_list zN
  exact⟨_,rfl,h⟩
section
variable {prog:Program}{w:World}{A:Around}{E:Value->Shared->Prop}{s:Shared}
theorem nL {l1 l2:Addr}{xs ys:Array Value}{Q:Value->Shared->Prop}(AI:s.heap.IsTuple l1 xs)(zI:s.heap.IsList l2 ys)
  (h:∀ h',IsZip h' (s.heap.objs.size + 4) (s.heap.objs.size + 2) (s.heap.objs.size + 3) .none->IsPair h' (s.heap.objs.size + 2) (.ref s.heap.objs.size) (.ref (s.heap.objs.size + 1)) ->
   IsPair h' (s.heap.objs.size + 3) .none .none->h'.IsTupleIter s.heap.objs.size l1 0->h'.IsListIter (s.heap.objs.size + 1) l2 0->h'.objs.size=s.heap.objs.size + 5 ->
   (∀ c o,s.heap.get? c=some o->h'.get? c=some o)->Q (.ref (s.heap.objs.size + 4)) { s with heap:=h' }) :
  wpAny (model prog w) A (call (.type "zip") [.ref l1, .ref l2]) Q E s:=by
 refine callType_new F.called_zip (by decide) (F.typeCall_zip_2 _ _) (F.newCall_zip_2 _ _) (fun obj=>F.args_object_init_3 obj _ _) F.entry_zip_new
  (jn l1 l2 xs ys) ⟨AI,zI,?_⟩
 have z1:(nU s.heap l1).objs.size=s.heap.objs.size + 1:=size_push ..
 have z2:(nT s.heap l1 l2).objs.size=s.heap.objs.size + 2:=by rw[size_push,z1]
 have z3:(nQ s.heap l1 l2).objs.size=s.heap.objs.size + 3:=by rw[size_push,z2]
 have z4:(nP s.heap l1 l2).objs.size=s.heap.objs.size + 4:=by rw[size_push,z3]
 have z5:(iM s.heap l1 l2).objs.size=s.heap.objs.size + 5:=by rw[size_push,z4]
 have g5:(iM s.heap l1 l2).get? (nP s.heap l1 l2).objs.size=some _:=Heap.get?_push_size _ rfl
 have g4:(iM s.heap l1 l2).get? (nQ s.heap l1 l2).objs.size=some _:=Heap.get?_push_of_some _ (Heap.get?_push_size _ rfl)
 have g3:(iM s.heap l1 l2).get? (nT s.heap l1 l2).objs.size=some _:=Heap.get?_push_of_some _ (Heap.get?_push_of_some _ (Heap.get?_push_size _ rfl))
 have g2:(iM s.heap l1 l2).get? (nU s.heap l1).objs.size=some _:=Heap.get?_push_of_some _ (Heap.get?_push_of_some _ (Heap.get?_push_of_some _ (Heap.get?_push_size _ rfl)))
 have g1:(iM s.heap l1 l2).get? s.heap.objs.size=some _:=Heap.get?_push_of_some _ (Heap.get?_push_of_some _ (Heap.get?_push_of_some _ (Heap.get?_push_of_some _ (Heap.get?_push_size _ rfl))))
 show _/\_
 rw[z2,z3,z4]at g5
 rw[z1,z2]at g3
 rw[z3]at g4
 rw[z1]at g2
 rw[z4]
 exact⟨⟨_,g5,rfl⟩,h _ g5 g3 g4 ⟨_,g1,rfl,rfl⟩ ⟨_,g2,rfl,rfl⟩ z5 fun c o x =>
  Heap.get?_push_of_some _ (Heap.get?_push_of_some _ (Heap.get?_push_of_some _ (Heap.get?_push_of_some _ (Heap.get?_push_of_some _ x))))⟩
end
noncomputable def tI (K:Frag)(a b:Addr):It :=
 ⟨fun i H=>∃ xs ys x y,H a=some (.tup xs)/\xS K H b ys/\xs[i]? = some x/\ys[i]? = some y,
  fun i H v H'=>∃ p,H p=none/\v = .ref p/\∀ xs ys,H a=some (.tup xs)->xS K H b ys->∃ x y,xs[i]? = some x/\ys[i]? = some y/\H' = upd H p (.tup [x,y]),
  fun i H=>∃ xs ys,H a=some (.tup xs)/\xS K H b ys/\(xs[i]? = none∨ys[i]? = none)⟩
noncomputable def tF (z ti to i1 i2 a b:Addr)(i:Nat)(h:Heap):Prop:=IsZip h z ti to .none/\IsPair h ti (.ref i1) (.ref i2)/\(∃ x y,IsPair h to x y)/\h.IsTupleIter i1 a i/\h.IsListIter i2 b i
theorem iL {z ti to i1 i2 a b:Addr}{i:Nat}{h:Heap}{xs ys:Array Value}(t:tF z ti to i1 i2 a b i h)(n1:ti ≠ to)(n2:i1 ≠ i2)(nt:a ≠ to)(ha:h.IsTuple a xs)(hb:h.IsList b ys):ZipApart z ti to i1 i2 a b:=by
 obtain⟨hz,BK,⟨x,y,BL⟩,⟨o1,e1,c1,d1⟩,o2,e2,c2,d2⟩:=t
 obtain⟨oa,ea,ca,da⟩:=ha
 obtain⟨ob,eb,cb,db⟩:=hb
 have cls:∀ {p q:Addr}{o u:Obj}{s t:String},h.get? p=some o->h.get? q=some u->o.cls = .type s->u.cls = .type t->s ≠ t->p ≠ q:=fun e f g k n m=>by
  subst m
  rw[e]at f
  cases f
  rw[g]at k
  injection k with k
  exact n k
 exact⟨cls BK hz rfl rfl (by decide),cls BL hz rfl rfl (by decide),cls e1 hz c1 rfl (by decide),cls e2 hz c2 rfl (by decide),n1,cls BK e1 rfl c1 (by decide),cls BK e2 rfl c2 (by decide),cls BL e1 rfl c1 (by decide),cls BL e2 rfl c2 (by decide),n2,
  cls ea hz ca rfl (by decide),nt,cls ea e1 ca c1 (by decide),cls ea e2 ca c2 (by decide),cls eb hz cb rfl (by decide),cls eb BL cb rfl (by decide),cls eb e1 cb c1 (by decide),cls eb e2 cb c2 (by decide)⟩
theorem p7 {P:Program}{w:World}{K:Frag}{elts:List Expr}{kk:Nat}{pos:Pos}(a b z ti to i1 i2:Addr)(n1:ti ≠ to)(n2:i1 ≠ i2):lc P w K (.Tuple elts kk pos) (tI K a b) [z,ti,to,i1,i2] z (tF z ti to i1 i2 a b) where
 mem:=by simp
 obj:=fun i h st c hc=>by
  obtain⟨hz,BK,⟨x,y,BL⟩,⟨o1,e1,c1,d1⟩,o2,e2,c2,d2⟩:=st
  have Cd:c=z∨c=ti∨c=to∨c=i1∨c=i2:=by simpa using hc
  rcases Cd with rfl | rfl | rfl | rfl | rfl
  ·exact⟨_,hz,fun v q=>by have q':Data.fields _=Data.cell v:=q;cases q'⟩
  ·exact⟨_,BK,fun v q=>by have q':Data.seq _ _=Data.cell v:=q;cases q'⟩
  ·exact⟨_,BL,fun v q=>by have q':Data.seq _ _=Data.cell v:=q;cases q'⟩
  ·exact⟨o1,e1,fun v q=>by rw[d1]at q;cases q⟩
  ·exact⟨o2,e2,fun v q=>by rw[d2]at q;cases q⟩
 keep:=fun i h h' st k=>by
  obtain⟨hz,BK,⟨x,y,BL⟩,h1,h2⟩:=st
  exact⟨k z (by simp) _ hz,k ti (by simp) _ BK,⟨x,y,k to (by simp) _ BL⟩,h1.at fun o q=>k i1 (by simp) o q,h2.at fun o q=>k i2 (by simp) o q⟩
 item:=by
  intro X hP hw hK hc i pins s σ H E I hf st hg
  subst hP hw hK
  obtain⟨xs,ys,x,y,CV,GY,hx,hy⟩:=hg
  obtain⟨F7,M0,p1,Jg⟩:=I.tuple (xV.of CV)
  obtain⟨ze,M1,p2,M3⟩:=I.list GY
  obtain⟨u1,BM,ru1⟩:=M0.get hx
  obtain⟨u2,hu2,ru2⟩:=M1.get hy
  have A:=iL st n1 n2 (Ne.symm (oI (hf to (by simp)).1 CV)) p1 p2.isList
  obtain⟨hz,BK,⟨v1,v2,BL⟩,h1,h2⟩:=st
  refine gQ A hz BK BL h1 h2 p1 p2.isList (x:=u1) (y:=u2) (by simpa using BM) (by simpa using hu2) fun h' a1 a2 a3 a4 a5 a6 hk=>⟨_,rfl,?_⟩
  refine wpAny_letOwnedTupleGo_zip a1 fun IP b1 b2=>?_
  have yu:∀ c o,s.heap.get? c=some o->c ≠ s.heap.objs.size:=fun c o q=>ne_of_lt (lt_size q)
  have nz:s.heap.objs.size ≠ z:=Ne.symm (yu _ _ hz)
  have Ai:∀ c o,c ≠ z->h'.get? c=some o->IP.get? c=some o:=fun c o q e=>(b2.2 c q).trans e
  have I2:Inv X pins σ (upd H s.heap.objs.size (.tup [x,y])) { s with heap:=IP }:=by
   refine Inv.F3 (s:=s) (h':=IP) (t':=s.toks) (us:=[u1,u2]) I hf (le_refl _) (fun c o hn q=>?_) (by show 2 <= sizeLine;decide) (.cons ru1 (.cons ru2 .nil)) ⟨_,Ai _ _ nz a5,⟨rfl,_,rfl⟩,rfl⟩
   simp only[mem_cons,not_mem_nil,or_false,not_or]at hn
   exact Ai c o hn.1 (hk c o hn.1 hn.2.2.1 hn.2.2.2.1 hn.2.2.2.2 q)
  refine⟨.ref s.heap.objs.size,_,I2,rfl,⟨_,I.xY.fresh (le_refl _),rfl,fun zs ws g1 g2=>⟨x,y,by rw[I.zl (xV.of g1) (xV.of CV)];exact hx,by rw[I.zH g2 GY];exact hy,rfl⟩⟩,⟨b1,Ai _ _ A.TIz (hk _ _ A.TIz A.TITO A.TIi1 A.TIi2 BK),⟨_,_,Ai _ _ A.TOz a2⟩,a3.at fun o q=>Ai _ o A.i1z q,a4.at fun o q=>Ai _ o A.i2z q⟩,fun c hc=>?_⟩
  have hl:c ≠ s.heap.objs.size:=by
   have Cd:c=z∨c=ti∨c=to∨c=i1∨c=i2:=by simpa using hc
   obtain⟨o1,e1,_⟩:=h1
   obtain⟨o2,e2,_⟩:=h2
   rcases Cd with rfl | rfl | rfl | rfl | rfl
   ·exact yu _ _ hz
   ·exact yu _ _ BK
   ·exact yu _ _ BL
   ·exact yu _ _ e1
   ·exact yu _ _ e2
  rw[ae hl]
  exact(hf c hc).1
 done:=by
  intro X hP hw hK hc i pins s σ H E I hf st hg
  subst hP hw hK
  obtain⟨xs,ys,CV,GY,AJ⟩:=hg
  obtain⟨F7,M0,p1,Jg⟩:=I.tuple (xV.of CV)
  obtain⟨ze,M1,p2,M3⟩:=I.list GY
  have A:=iL st n1 n2 (Ne.symm (oI (hf to (by simp)).1 CV)) p1 p2.isList
  obtain⟨hz,BK,⟨v1,v2,BL⟩,h1,h2⟩:=st
  have he:F7.toArray[i]? = none∨ze.toArray[i]? = none:=by
   rcases AJ with q | q
   ·exact .inl (by simpa using M0.none_of q)
   ·exact .inr (by simpa using M1.none_of q)
  refine i0 (I.ok.hd hc) A hz BK BL h1 h2 p1 p2.isList he fun h' hk=>⟨rfl,?_⟩
  refine I.D1 (t':=s.toks) hf fun c o hn q=>?_
  simp only[mem_cons,not_mem_nil,or_false,not_or]at hn
  exact hk c o hn.1 hn.2.2.1 hn.2.2.2.1 hn.2.2.2.2 q
 self:=fun _ _ _ _ _ st h=>wpAny_pyIter_zip st.1 h
section
variable {X:Cx}{elts:List Expr}{kk:Nat}{zY p pos:Pos}{e1 e2:Expr}
noncomputable def Jh (K:Frag)(t:TA):TI:=fun σ H R=>t σ H fun vs H1=>∃ a b,vs=[.ref a, .ref b]/\(∃ xs,H1 a=some (.tup xs))/\(∃ ys,xS K H1 b ys)/\R (tI K a b) H1
theorem uq {t:TA}(hg:Gl X "zip")(hm:X.mg "zip" = none)(ha:PA X [e1,e2] t)(hs:autoParam (starEach [e1,e2] X.env=(false,eval e1 X.env) :: starEach [e2] X.env) η)(Az:autoParam (((backTo pos (starEach [e2] X.env)).any fun x=>x.fst)=false) η):PI X (.Tuple elts kk zY) (.Call (.Name "zip" p) [e1,e2] [] pos) (Jh X.K t):=by
 intro pins s σ H R I h
 refine Call_ (fP I hg hm (show bootBuiltins "zip" = some (.type "zip") by decide +kernel) (PyProof.Rows.callWith_type1 (bq (ha pos pins s σ H _ I h) fun us s1 xU=>?_) hs Az))
 obtain⟨vs,H1,I1,r1,q1⟩:=xU
 obtain⟨l1,l2,e,⟨xs,CV⟩,⟨ys,GY⟩,q⟩:=q1
 subst e
 obtain⟨u,v,rfl,ru,rv⟩:=r1.two
 cases ru
 cases rv
 obtain⟨F7,M0,p1,Jg⟩:=I1.tuple (xV.of CV)
 obtain⟨ze,M1,p2,M3⟩:=I1.list GY
 refine nL p1 p2.isList fun h' a1 a2 a3 a4 a5 a6 hk=>?_
 have I2:Inv X pins σ H1 { s1 with heap:=h' }:=I1.kept (t':=s1.toks) hk
 refine wpAny_pyIter_zip (s:={ s1 with heap:=h' }) a1 ?_
 refine⟨_,_,_,_,H1,rfl,I2,p7 l1 l2 _ (s1.heap.objs.size + 2) (s1.heap.objs.size + 3) s1.heap.objs.size (s1.heap.objs.size + 1) (ne_of_lt (lt_succ_self _)) (ne_of_lt (lt_succ_self _)),⟨a1,a2,⟨_,_,a3⟩,a4,a5⟩,fun c hc=>?_,q⟩
 have hle:s1.heap.objs.size <= c:=by
  have Cd:c=s1.heap.objs.size + 4∨c=s1.heap.objs.size + 2∨c=s1.heap.objs.size + 3∨c=s1.heap.objs.size∨c=s1.heap.objs.size + 1:=by simpa using hc
  rcases Cd with e | e | e | e | e<;>rw[e]<;>first | exact le_refl _ | exact Nat.le_add_right _ _
 exact I1.AV hle (I1.xY.fresh hle)
end
end L2
namespace L2
open PySem
theorem b8 {J:It}{g:TG}{tt:TT}{te:TE}{σ0:St}{H:Hp}{Q:VK}(n:Nat)(hn:n < sizeLine)(W:Nat->List V->Hp->Prop)(h0:W 0 [] H)(hlen:∀ i acc H',W i acc H'->acc.length <= i)
  (turn:∀ i acc H',i < n->W i acc H'->J.go i H'/\∀ x H2,J.CS i H' x H2->g x σ0 H2 fun σ2 H3=>tt σ2 H3 fun b H4=>if b=true then te σ2 H4 fun y H5=>W (i + 1) (acc ++ [y]) H5 else W (i + 1) acc H4)
  (stop:∀ acc H',W n acc H'->J.stop n H'/\∀ D,H' D=none->Q (.ref D) (upd H' D (.lst acc))):cQ J g tt te σ0 Q H:=by
 refine⟨fun i m acc H'=>m=n - i/\i <= n/\W i acc H',⟨n,by simp,zero_le _,h0⟩,?_⟩
 rintro i m acc H' ⟨rfl,hi,w⟩
 refine⟨by have:=hlen i acc H' w;omega,?_⟩
 by_cases yu:i < n
 ·obtain⟨go,q⟩:=turn i acc H' yu w
  exact .inr ⟨go,fun yB H2=>W (i + 1) yB H2,fun yB H2 w2=>⟨n - (i + 1),by omega,rfl,yu,w2⟩,q⟩
 ·have e:i=n:=by omega
  subst e
  exact .inl (stop acc H' w)
theorem xN.new {H H':Hp}{a:Addr}{o:HO}(h:xN H H')(n:H' a=none):xN H (upd H' a o):=fun b u e=>by rw[ae (ag (h _ _ e) n)];exact h _ _ e
end L2
namespace L2
open PySem
theorem yq {N P:List Str}{sc:Scope}(a:autoParam (sc.kind = .function) η)(b:autoParam (sc.isCoroutine=false) η)(c:autoParam (sc.isGenerator=false) η)(d:autoParam (N.Nodup) ξ)(e:autoParam (N.take P.length=P) η)(f:autoParam (∀ x ∈ P,sc.names.lookup x=some .local∨sc.names.lookup x=some .cell) ξ)(g:autoParam (∀ y ∈ sc.names,y.2 ≠ .free) ξ):ar N P sc:=⟨a,b,c,d,e,f,g⟩
theorem zA {N:List Str}{sc scope:Scope}{capN:List Str}{cap:List Nat}(a:autoParam (scope.kind = .function) η)(b:autoParam (∀ y ∈ scope.names,y.2 ≠ .cell) ξ)(c:autoParam (∀ y ∈ scope.names,y.2 = .local->scope.names.lookup y.1=some .local) ξ)(d:autoParam (∀ y ∈ scope.names,y.2 = .free->sc.names.lookup y.1=some .cell∨sc.names.lookup y.1=some .free) ξ)(e:autoParam (cap.length=capN.length) η)(f:autoParam (∀ p ∈ capN.zip cap,scope.names.lookup p.1=some .free/\N[p.2]? = some p.1) ξ):yK N sc scope capN cap:=⟨a,b,c,d,e,f⟩
end L2
namespace K68
open PySem L2
variable {P:Program}{w:World}{K:Frag}{mg:Str->Option Value}{base:Heap}
noncomputable def cz (i:Nat):Stmt:=PySem.Challenge.pw_wormyard_k68_stands_of_rings.main.body.getD i (.Pass ⟨0,0,0,0⟩)
abbrev uc:Stmt:=cz 2
abbrev qW:Stmt:=cz 3
abbrev wk:Stmt:=cz 4
abbrev fK:Stmt:=cz 19
abbrev iC:Stmt:=cz 20
abbrev wm:Stmt:=cz 21
abbrev wg:Stmt:=cz 25
abbrev l5:Stmt:=cz 28
abbrev OO:Stmt:=cz 29
abbrev fL:Stmt:=cz 38
abbrev qP:Stmt:=cz 39
abbrev ly:Stmt:=cz 40
abbrev mS:Stmt:=cz 44
abbrev rf:Stmt:=cz 45
abbrev ls:Stmt:=cz 46
abbrev rc:Stmt:=cz 48
abbrev wn:Stmt:=cz 49
abbrev mX:Stmt:=cz 50
abbrev mY:Stmt:=cz 51
abbrev cW:Stmt:=cz 52
abbrev fX:Stmt:=cz 53
abbrev iW:Stmt:=cz 54
abbrev l4:Stmt:=aM (cz 26) 0
abbrev mT:Stmt:=aM (cz 26) 1
abbrev wu:Stmt:=aM (cz 26) 2
abbrev qU:Stmt:=aM (cz 26) 3
abbrev lz:Stmt:=aM (cz 26) 4
abbrev wj:Stmt:=aM (cz 30) 0
abbrev qQ:Stmt:=aM (cz 31) 0
abbrev mR:Stmt:=aM (cz 31) 1
abbrev wq:Stmt:=aM (cz 33) 0
abbrev qV:Stmt:=aM (cz 33) 1
abbrev wl:Stmt:=aM (cz 33) 2
abbrev mZ:Stmt:=aM (cz 33) 3
abbrev qR:Stmt:=aM (cz 33) 4
abbrev nc:Stmt:=aM (cz 33) 5
abbrev wo:Stmt:=aM (cz 33) 7
abbrev qZ:Stmt:=aM (cz 41) 0
abbrev qY:Stmt:=aM (cz 41) 1
abbrev gL:Stmt:=aM (cz 42) 0
abbrev fY:Stmt:=aM (cz 42) 1
abbrev mV:Stmt:=aM (cz 42) 2
abbrev lw:Stmt:=aM (cz 42) 3
abbrev lu:Stmt:=aM (cz 42) 4
abbrev mU:Stmt:=aM (cz 42) 5
abbrev k9:Stmt:=aM (cz 42) 6
abbrev fW:Stmt:=aM (cz 42) 7
abbrev qX:Stmt:=aM (cz 42) 8
abbrev OP:Stmt:=aM (cz 42) 9
abbrev rb:Stmt:=aM (cz 42) 10
abbrev na:Stmt:=aM (cz 42) 11
abbrev wt:Stmt:=aM (cz 42) 12
abbrev qT:Stmt:=aM (cz 42) 13
abbrev qS:Stmt:=aM (cz 42) 14
abbrev fM:Stmt:=aM (cz 42) 15
abbrev mW:Stmt:=aM (cz 42) 19
structure fR (mg:Str->Option Value):Prop where
 Ej:mg "isinstance" = none
 int:mg "int" = none
 bool:mg "bool" = none
 len:mg "len" = none
 enum:mg "enumerate" = none
 tuple:mg "tuple" = none
 range:mg "range" = none
 list:mg "list" = none
 all:mg "all" = none
 sum:mg "sum" = none
 abs:mg "abs" = none
 str:mg "str" = none
 max:mg "max" = none
 zip:mg "zip" = none
noncomputable def vk (H:Hp)(v:V)(p:Int × Int):Prop:=∃ t,v = .ref t/\H t=some (.tup [.int p.1, .int p.2])
abbrev yk (H:Hp):List V->List (Int × Int)->Prop:=Paired (vk H)
theorem yk.same {H H':Hp}(h:xN H H'):∀ {vs:List V}{ps:List (Int × Int)},yk H vs ps->yk H' vs ps:=fun xU=>by
 induction xU with
 | nil=>exact .nil
 | cons zz r ih=>obtain⟨t,e,q⟩:=zz;exact .cons ⟨t,e,h _ _ q⟩ ih
theorem yk.get {H:Hp}:∀ {vs:List V}{ps:List (Int × Int)}{i:Nat}{v:V},yk H vs ps->vs[i]? = some v->∃ p,ps[i]? = some p/\vk H v p:=by
 intro _ _ i _ xU
 induction xU generalizing i with
 | nil=>intro h;cases h
 | cons x r ih =>
  intro h
  cases i with
  | zero=>cases h;exact⟨_,rfl,x⟩
  | succ i=>exact ih (i:=i) h
theorem yk.Bc {H:Hp}:∀ {vs:List V}{ps:List (Int × Int)}{i:Nat}{p:Int × Int},yk H vs ps->ps[i]? = some p->∃ v,vs[i]? = some v/\vk H v p:=by
 intro _ _ i _ xU
 induction xU generalizing i with
 | nil=>intro h;cases h
 | cons x r ih =>
  intro h
  cases i with
  | zero=>cases h;exact⟨_,rfl,x⟩
  | succ i=>exact ih (i:=i) h
theorem yk.snoc {H:Hp}{v:V}{p:Int × Int}(h:vk H v p):∀ {vs:List V}{ps:List (Int × Int)},yk H vs ps->yk H (vs ++ [v]) (ps ++ [p]):=fun xU=>by
 induction xU with
 | nil=>exact .cons h .nil
 | cons q r ih=>exact .cons q ih
noncomputable def fO (n:Int)(p:Int × Int):Bool:=decide (0 <= p.1/\p.1 <= n - 1) && (decide (0 <= p.2/\p.2 <= n - 1) && !decide (p.1=p.2))
noncomputable def kx:Sp:=fun vs H Q _=>∃ i:Int,vs=[.int i]/\Q (.bl true) H
noncomputable def iQ:Sp:=fun vs H Q _=>∃ i a b:Int,vs=[.int i, .int a, .int b]/\Q (.bl (decide (a <= i/\i <= b))) H
noncomputable def q5:Sp:=fun vs H Q _=>∃ n a b:Int,vs=[.int n, .int a, .int b]/\Q (.bl (fO n (a,b))) H
theorem oA:ar ["value"] ["value"] (al fK):=L2.yq
theorem lA {f:Addr}{fd:FuncData}(F:yn K "is_whole" "is_whole" fK f fd)(T:fR mg):xO P w K mg base aF 1 f fd ["value"] kx:=by
 refine F.ok oA (fun _ _ _ _ h=>?_) (fun _ _ _ s H _ Q E hr h=>?_)
 ·obtain⟨m,rfl,_⟩:=h
  rfl
 ·obtain⟨i,rfl,q⟩:=h
  refine⟨_,ak (au (cr (aB lY rfl T.Ej PyProof.Rows.boot_isinstance (aa (pv 0) (aa (dB (v := .ty "int") rfl T.int PySem.Pv.boot_int rfl) ad)))
   (cG (kI (aB lY rfl T.Ej PyProof.Rows.boot_isinstance (aa (pv 0) (aa (dB (v := .ty "bool") rfl T.bool PySem.Pv.boot_bool rfl) ad))))))),?_⟩
  refine⟨_,rfl, .inl ⟨i,rfl,true,rfl,?_⟩⟩
  refine aN ?_
  exact⟨_,rfl, .inr (.inl ⟨i,rfl,false,rfl,q⟩)⟩
theorem lr:ar ["value", "least", "most"] ["value", "least", "most"] (al iC):=L2.yq
theorem pM {f fh:Addr}{fd A0:FuncData}(F:yn K "is_within" "is_within" iC f fd)(T:fR mg)(mh:mg "is_whole" = some (.ref fh))(Fh:yn K "is_whole" "is_whole" fK fh A0)(bh:Binds K A0 ["value"] []) :
  xO P w K mg base aF 2 f fd ["value", "least", "most"] iQ:=by
 have G:xO P w K mg base aF 1 fh A0 ["value"] kx:=lA Fh T
 refine F.ok lr (fun _ _ _ _ h=>?_) (fun _ _ _ s H _ Q E hr h=>?_)
 ·obtain⟨i,a,b,rfl,_⟩:=h
  rfl
 ·obtain⟨i,a,b,rfl,q⟩:=h
  refine⟨_,ak (au (cr (az G hr rfl mh Fh.kp bh .nil ap (aa (pv 0) ad)) (cG (l8 oG oG (pv 1) (pv 0) (pv 2))))),?_⟩
  refine⟨_,rfl,i,rfl,true,rfl,aN ?_⟩
  refine⟨_,rfl,_,rfl,_,_,rfl,rfl,_,rfl,?_⟩
  by_cases h1:a <= i
  ·rw[decide_eq_true h1]
   refine aN ⟨_,rfl,_,_,rfl,rfl,?_⟩
   show Q (V.bl (decide (i <= b))) H
   by_cases h2:i <= b
   ·rw[decide_eq_true h2];rw[decide_eq_true ⟨h1,h2⟩]at q;exact q
   ·rw[decide_eq_false h2];rw[decide_eq_false fun z=>h2 z.2]at q;exact q
  ·rw[decide_eq_false h1]
   refine aJ ?_
   rw[decide_eq_false fun z=>h1 z.1]at q;exact q
theorem Ek:ar ["places", "one", "other", "last"] ["places", "one", "other"] (al wg):=L2.yq
theorem wJ {f fh:Addr}{fd A0:FuncData}(F:yn K "are_two_places" "are_two_places" wg f fd)(mh:mg "is_within" = some (.ref fh))(kh:keepIn K (.ref fh)=true)(bh:Binds K A0 ["value", "least", "most"] [])
  (G:xO P w K mg base aF 2 fh A0 ["value", "least", "most"] iQ) :
  xO P w K mg base aF 3 f fd ["places", "one", "other"] q5:=by
 refine F.ok Ek (fun _ _ _ _ h=>?_) (fun _ _ _ s H _ Q E hr h=>?_)
 ·obtain⟨i,a,b,rfl,_⟩:=h
  rfl
 ·obtain⟨n,a,b,rfl,q⟩:=h
  refine⟨_,af (aD (i:=3) Ek.nd rfl (Or.inl rfl) (ax cI (pv 0) ai))
   (ak (au (cr (az G hr rfl mh kh bh .nil ap (aa (pv 1) (aa ai (aa (pv 3) ad))))
    (cr (az G hr rfl mh kh bh .nil ap (aa (pv 2) (aa ai (aa (pv 3) ad)))) (cG (bU iq (pv 1) (pv 2) (ay _))))))),?_⟩
  refine⟨_,rfl,_,_,rfl,rfl,?_⟩
  refine⟨_,rfl,_,rfl,a,0,n - 1,rfl,_,rfl,?_⟩
  unfold fO at q
  dsimp only at q
  by_cases h1:0 <= a/\a <= n - 1
  ·rw[decide_eq_true h1]at q ⊢
   rw[Bool.true_and]at q
   refine aN ⟨_,rfl,_,rfl,b,0,n - 1,rfl,_,rfl,?_⟩
   by_cases h2:0 <= b/\b <= n - 1
   ·rw[decide_eq_true h2]at q ⊢
    rw[Bool.true_and]at q
    refine aN ⟨_,rfl,_,rfl,rfl,?_⟩
    have e:decide (V.int a=V.int b)=decide (a=b):=by
     by_cases h:a=b
     ·rw[h];simp
     ·rw[decide_eq_false h,decide_eq_false fun z=>h (by injection z)]
    show Q (V.bl (!decide (V.int a=V.int b))) H
    rw[e];exact q
   ·rw[decide_eq_false h2]at q ⊢
    exact aJ q
  ·rw[decide_eq_false h1]at q ⊢
   exact aJ q
end K68
namespace L2
open PySem
end L2
namespace K68
open PySem L2
variable {P:Program}{w:World}{K:Frag}{mg:Str->Option Value}{base:Heap}
inductive Due | places | many (k:Nat) | yh (k:Nat) | good
noncomputable def mx (n:Int)(ps:List (Int × Int)):Option Nat:=ps.findIdx? fun p=>!fO n p
noncomputable def eQ (n:Int)(ps:List (Int × Int)):Due:=if decide (1 <= n/\n <= 12)=false then .places else if 40 < ps.length then .many ps.length else match mx n ps with | some k => .yh k | none => .good
structure Cs where
 land:Addr
noncomputable def eB (H:Hp)(c:Cs)(x dx t:Addr)(n:Int)(ye:List V)(ps:List (Int × Int)):Prop:=H x=some (.ins c.land dx [("places", .int n),("lanes", .ref t)])/\H t=some (.tup ye)/\yk H ye ps
noncomputable def qL (K:Frag)(c:Cs):Sp:=fun vs H Q E=>∃ x dx n p xW ps,vs=[.ref x, .int n, .ref p]/\H x=some (.ins c.land dx [])/\xS K H p xW/\yk H xW ps/\xW.length <= 1000 /\
 (eQ n ps = .places->False) /\
 (∀ k,eQ n ps = .many k->False) /\
 (∀ k,eQ n ps = .yh k->False) /\
 (eQ n ps = .good->∀ H' t ye,(∀ b o,b ≠ x->H b=some o->H' b=some o)->eB H' c x dx t n ye ps->Q .yd H')
noncomputable def qt (s:Stmt):Scope:=match s with
 | .Assign _ (.Call _ [.ListComp _ _ sc _] _ _) _=>sc
 | _=>zQ0
noncomputable def iY (s:Stmt):Scope:=match aG s with
 | .Return (some (.ListComp _ _ sc _)) _ :: _=>sc
 | _=>zQ0
abbrev NI:List Str:=["self", "places", "lanes", "lane", "pair"]
structure m6 (K:Frag)(c:Cs):Prop where
 cl:Ao K c.land
 np:yb K c.land "places"
 nl:yb K c.land "lanes"
theorem jx {n:Int}{ps:List (Int × Int)}(h:∀ p ∈ ps,fO n p=true):mx n ps=none:=by
 unfold mx
 rw[List.findIdx?_eq_none_iff]
 intro p hp
 rw[h p hp];rfl
theorem nO {n:Int}{ps:List (Int × Int)}{i:Nat}{p:Int × Int}(h:∀ q ∈ ps.take i,fO n q=true)(hi:ps[i]? = some p)(hb:fO n p=false):mx n ps=some i:=by
 unfold mx
 rw[List.findIdx?_eq_some_iff_getElem]
 obtain⟨yu,e⟩:=List.getElem?_eq_some_iff.mp hi
 refine⟨yu,by rw[e,hb];rfl,fun j hj=>?_⟩
 have hm:ps[j]'(Nat.lt_trans hj yu) ∈ ps.take i:=mem_take_iff_getElem.mpr ⟨j,by omega,rfl⟩
 rw[h _ hm];simp
noncomputable def Off (x:Addr)(H H':Hp):Prop:=∀ b o,b ≠ x->H b=some o->H' b=some o
theorem Off.sq {K:Frag}{H H':Hp}{x p C dx:Addr}{fs:List (Str × V)}{xs:List V}(o:Off x H H')(hx:H x=some (.ins C dx fs))(h:xS K H p xs):xS K H' p xs:=by
 rcases h with (h | ⟨ob,h⟩) | h
 ·exact .inl (.inl (o _ _ (aV h hx (by intro z;cases z)) h))
 ·exact .inl (.inr ⟨ob,o _ _ (aV h hx (by intro z;cases z)) h⟩)
 ·exact .inr h
theorem Off.BN {H H':Hp}{x C dx:Addr}{fs:List (Str × V)}(o:Off x H H')(hx:H x=some (.ins C dx fs)):∀ {vs:List V}{ps:List (Int × Int)},yk H vs ps->yk H' vs ps:=fun xU=>by
 induction xU with
 | nil=>exact .nil
 | cons zz r ih=>obtain⟨t,e,q⟩:=zz;exact .cons ⟨t,e,o _ _ (aV q hx (by intro z;cases z)) q⟩ ih
theorem Bd:ar NI ["self", "places", "lanes"] (al l4):=L2.yq
theorem x5:yK NI (al l4) (qt ((aG l4).getD 4 (.Pass ⟨0,0,0,0⟩))) [] []:=L2.zA
theorem xf:(["pair"]:List Str).Nodup:=by decide +kernel
theorem uF {c:Cs}{f fw ft:Addr}{fd dw dt:FuncData}{t1 t2:Tok}(F:yn K "__init__" "Land.__init__" l4 f fd)(T:fR mg)(L:m6 K c)
  (mw:mg "is_within" = some (.ref fw)) (kw:keepIn K (.ref fw)=true) (bw:Binds K dw ["value", "least", "most"] []) (Gw:xO P w K mg base aF 2 fw dw ["value", "least", "most"] iQ)
  (mt:mg "are_two_places" = some (.ref ft)) (kt:keepIn K (.ref ft)=true) (bt:Binds K dt ["places", "one", "other"] []) (Gt:xO P w K mg base aF 3 ft dt ["places", "one", "other"] q5)
  (mp:mg "MOST_PLACES" = some (.int 12 t1)) (ml:mg "MOST_LANES" = some (.int 40 t2)) :
  xO P w K mg base aF 4 f fd ["self", "places", "lanes"] (qL K c):=by
 refine F.ok Bd (fun _ _ _ _ h=>?_) (fun _ _ _ s H _ Q E hr h=>?_)
 ·obtain⟨x,dx,n,p,xW,ps,rfl,_⟩:=h
  rfl
 ·obtain⟨x,dx,n,p,xW,ps,rfl,hx,hp,hl,hlen,h1,h2,h3,h4⟩:=h
  have zh:ya 2 _:=hr.mono (by decide)
  refine⟨_,af (aR (bM (b9 (az Gw zh rfl mw kw bw .nil ap (aa (pv 1) (aa ai (aa (eY (v := .int 12) rfl mp ⟨_,rfl⟩) ad))))))
    (ak b6) aE)
   (af (aR (aw rB (aB aC rfl T.len PySem.boot_len (aa (pv 2) ad)) (eY (v := .int 40) rfl ml ⟨_,rfl⟩) (ay _))
    (ak b6) aE)
   (af (bB PassesOwn.never rfl (l7 rfl T.enum (aa (pv 2) ad)) (cX rfl (aQ (aq (i:=3) Bd.nd rfl (Or.inl rfl)) (aQ (aq (i:=4) Bd.nd rfl (Or.inl rfl)) ck)))
    (ak (aR (bM (b9 (az Gt hr rfl mt kt bt .nil ap (aa (pv 1) (aa (ao av (pv 4) ai (fun _ _=>rfl)) (aa (ao av (pv 4) ai (fun _ _=>rfl)) ad))))))
     (ak b6) aE)))
   (af (aZ (pv 0) (pv 1) rfl)
   (ak (aZ (pv 0) (aY ce rfl T.tuple PySem.Pv.boot_tuple (aa (bv (own:=["pair"]) (capN:=[]) (cap:=[]) x5 rfl (bA (pv 2))
    (fun C s' H' fp=>⟨aq (i:=0) xf rfl (Or.inl rfl),bT,aW (aa (ao (show j0 _ (gP K) from av) (pv 0) ai (fun _ _=>rfl)) (aa (ao (show j0 _ (gP K) from av) (pv 0) ai (fun _ _=>rfl)) ad))⟩)) ad)) rfl))))),?_⟩
  refine⟨_,rfl,n,1,12,rfl,_,rfl,?_⟩
  by_cases hn:1 <= n/\n <= 12
  rotate_left
  ·rw[decide_eq_false hn]
   exact aN (h1 (by unfold eQ;rw[if_pos (decide_eq_false hn)]))
  rw[decide_eq_true hn]
  refine aJ ?_
  have Cg:xW.length=ps.length:=Paired.length hl
  refine⟨_,rfl,p,_,rfl, .inl hp,_,_,rfl,rfl,_,rfl,?_⟩
  by_cases hm:40 < ps.length
  ·rw[decide_eq_true (show (40:Int) < (xW.length:Nat) by omega)]
   refine aN (h2 ps.length ?_)
   unfold eQ
   rw[decide_eq_true hn,if_neg (by decide),if_pos hm]
  rw[decide_eq_false (show ¬ (40:Int) < (xW.length:Nat) by omega)]
  refine aJ ?_
  refine⟨_,rfl,p,rfl,⟨_,hp⟩,jv (sq:=fun H=>xS K H p) (xs:=xW) (fun i σ H2=>∃ a b:Option V,xN H H2/\σ=[some (.ref x),some (.int n),some (.ref p),a,b]/\∀ q ∈ ps.take i,fO n q=true)
   ⟨none,none,xN.refl H,rfl,fun q hq=>by simp at hq⟩ (fun i σ H2 _ xU=>by obtain⟨a,b,s2,_⟩:=xU;exact s2.seq hp) ?_ ?_⟩
  ·rintro i v q σ H2 hv ⟨a,b,s2,rfl,zy⟩ hq
   obtain⟨pr,zv,t,rfl,ht⟩:=yk.get hl hv
   have s3:xN H (upd H2 q (.tup [.int i, .ref t])):=s2.new hq
   refine⟨q,_,rfl,xV.of ac,rfl,_,_,rfl,_,_,rfl,rfl,?_⟩
   have Bo:xV K (upd H2 q (.tup [.int i, .ref t])) t [.int pr.1, .int pr.2]:=xV.of (s3 _ _ ht)
   refine⟨_,rfl,_,rfl,t,_,0,_,rfl,rfl,Bo,aj (j:=0) rfl,?_⟩
   refine⟨_,rfl,t,_,1,_,rfl,rfl,Bo,aj (j:=1) rfl,n,pr.1,pr.2,rfl,_,rfl,?_⟩
   cases ho:fO n (pr.1,pr.2) with
   | true =>
    refine aJ ⟨some (.int i),some (.ref t),s3,rfl,fun z hz=>?_⟩
    rw[take_succ,zv]at hz
    rcases mem_append.mp hz with hz | hz
    ·exact zy z hz
    ·have:z=pr:=by simpa using hz
     rw[this];exact ho
   | false =>
    refine aN (h3 i ?_)
    unfold eQ
    rw[decide_eq_true hn,if_neg (by decide),if_neg hm,nO zy zv ho]
  ·rintro σ H2 ⟨a,b,s2,rfl,zy⟩
   have C3:eQ n ps = .good:=by
    unfold eQ
    rw[decide_eq_true hn,if_neg (by decide),if_neg hm,jx (fun z hz=>zy z (by rw[Cg,take_length];exact hz))]
   have Cf:=s2 _ _ hx
   refine⟨_,rfl,_,rfl,x,c.land,dx,_,rfl,Cf,L.cl,L.np,by show 0 < 1000;decide,?_⟩
   generalize SR:upd H2 x (.ins c.land dx (aO "places" (.int n) []))=H3
   have o3:Off x H H3:=fun b o hb e=>by rw[← SR,ae hb];exact s2 _ _ e
   have x3:H3 x=some (.ins c.land dx [("places", .int n)]):=by rw[← SR,ac];rfl
   have l3:yk H3 xW ps:=o3.BN hx hl
   have p3:xS K H3 p xW:=o3.sq hx hp
   refine⟨_,rfl,p,rfl,⟨_,p3⟩,b8 xW.length (by rw[sizeLine_eq];omega) (fun i acc H4=>xN H3 H4/\acc.length=i/\yk H4 acc (ps.take i)) ⟨xN.refl _,rfl, .nil⟩ (fun i acc H4 h=>le_of_eq h.2.1) ?_ ?_⟩
   ·rintro i acc H4 hi ⟨s4,ha,hA⟩
    have q4:=s4.seq p3
    refine⟨⟨xW,xW[i],q4,by simp[hi]⟩,fun y H5 ⟨e5,hy⟩=>?_⟩
    subst e5
    have hy:=hy xW q4
    obtain⟨pr,zv,t,rfl,ht⟩:=yk.get l3 hy
    have Bo:xV K H5 t [.int pr.1, .int pr.2]:=xV.of (s4 _ _ ht)
    refine⟨_,rfl,t,_,0,_,rfl,rfl,Bo,aj (j:=0) rfl,?_⟩
    refine⟨_,rfl,t,_,1,_,rfl,rfl,Bo,aj (j:=1) rfl,by show 2 <= sizeLine;decide,fun r El=>?_⟩
    refine⟨s4.new El,by rw[length_append,ha];rfl,?_⟩
    rw[take_succ,zv]
    exact yk.snoc ⟨r,rfl,ac⟩ (yk.same (xN.new (xN.refl _) El) hA)
   ·rintro acc H4 ⟨s4,ha,hA⟩
    have q4:=s4.seq p3
    refine⟨⟨xW,q4,le_refl _⟩,fun D hD=>?_⟩
    have s5:xN H3 (upd H4 D (.lst acc)):=s4.new hD
    refine⟨D,acc,rfl, .inl ⟨xS.of ac,fun t ht=>?_⟩⟩
    have s6:xN H3 (upd (upd H4 D (.lst acc)) t (.tup acc)):=s5.new ht
    have x6:=s6 _ _ x3
    refine⟨_,rfl,x,c.land,dx,_,rfl,x6,L.cl,L.nl,by show 1 < 1000;decide,?_⟩
    have SS:t ≠ x:=fun z=>by rw[z,s5 _ _ x3]at ht;cases ht
    refine h4 C3 _ t acc (fun b o hb e=>?_) ⟨by rw[ac];rfl,by rw[ae SS,ac],?_⟩
    ·rw[ae hb];exact s6 _ _ (o3 b o hb e)
    ·have hA':yk H4 acc ps:=by rw[Cg,take_length]at hA;exact hA
     have x4:=s4 _ _ x3
     have hA6:yk (upd (upd H4 D (.lst acc)) t (.tup acc)) acc ps:=yk.same (xN.new (xN.new (xN.refl _) hD) ht) hA'
     exact Off.BN (x:=x) (fun b o hb e=>by rw[ae hb];exact e) x6 hA6
noncomputable def kU (sel:Int × Int->Int)(ps:List (Int × Int))(pl:Int)(m:Nat):List V:=((List.range m).filter fun k=>decide (sel (ps.getD k (0,0))=pl)).map fun k:Nat=>V.int k
noncomputable def tT (c:Cs)(sel:Int × Int->Int):Sp:=fun vs H Q _=>∃ (x dx t:Addr)(n:Int)(ye:List V)(ps:List (Int × Int))(pl:Int),vs=[.ref x, .int pl]/\eB H c x dx t n ye ps/\ps.length <= 1000 /\
 ∀ H' D,xN H H'->H' D=none->Q (.ref D) (upd H' D (.lst (kU sel ps pl ps.length)))
theorem lJ {sel:Int × Int->Int}{ps:List (Int × Int)}{pl:Int}{i:Nat}{pr:Int × Int}(h:ps[i]? = some pr):kU sel ps pl (i + 1)=if decide (sel pr=pl) then kU sel ps pl i ++ [V.int i] else kU sel ps pl i:=by
 have e:ps.getD i (0,0)=pr:=by rw[getD_eq_getElem?_getD,h];rfl
 unfold kU
 rw[range_succ,filter_append]
 by_cases hs:sel pr=pl
 ·rw[if_pos (decide_eq_true hs),List.filter_cons_of_pos (by rw[e];exact decide_eq_true hs)];simp
 ·rw[if_neg (by rw[decide_eq_false hs];decide),List.filter_cons_of_neg (by rw[e,decide_eq_false hs];decide)];simp
theorem oQ {sel:Int × Int->Int}{ps:List (Int × Int)}{pl:Int}{i:Nat}:(kU sel ps pl i).length <= i:=by
 unfold kU
 rw[length_map]
 have:=length_filter_le (fun k=>decide (sel (ps.getD k (0,0))=pl)) (List.range i)
 rwa [length_range]at this
theorem Ji:ar ["self", "place"] ["self", "place"] (al qU):=L2.yq
theorem Jj:yK ["self", "place"] (al qU) (iY qU) ["place"] [1]:=L2.zA
theorem we:ar ["self", "place"] ["self", "place"] (al lz):=L2.yq
theorem xz:yK ["self", "place"] (al lz) (iY lz) ["place"] [1]:=L2.zA
theorem oJ:(["lane", "pair", "place"]:List Str).Nodup:=by decide +kernel
theorem ed (a b:Int):decide (V.int a=V.int b)=decide (a=b):=by
 by_cases h:a=b
 ·rw[h];simp
 ·rw[decide_eq_false h,decide_eq_false fun z=>h (by injection z)]
theorem wN {c:Cs}{f:Addr}{fd:FuncData}(F:yn K "out_of" "Land.out_of" qU f fd)(T:fR mg)(L:m6 K c):xO P w K mg base aF 1 f fd ["self", "place"] (tT c Prod.fst):=by
 refine F.ok Ji (fun _ _ _ _ h=>?_) (fun _ _ _ s H _ Q E hr h=>?_)
 ·obtain⟨x,dx,t,n,ye,ps,pl,rfl,_⟩:=h
  rfl
 ·obtain⟨x,dx,t,n,ye,ps,pl,rfl,⟨hx,ht,hl⟩,hlen,q⟩:=h
  refine⟨_,ak (au (bv (own:=["lane", "pair"]) (capN:=["place"]) (cap:=[1]) Jj rfl (jc rfl T.enum (aa (am (pv 0) rfl) ad))
   (fun C s' H' fp=>⟨(show PG _ _ (sI K 2 _) from cX rfl (aQ (aq (i:=0) oJ rfl (Or.inl rfl)) (aQ (aq (i:=1) oJ rfl (Or.inl rfl)) ck))),
    cf (aw bG (ao (show j0 _ (gP K) from av) (pv 1) ai (fun _ _=>rfl)) (pv 2) (ay _)),pv 0⟩))),?_⟩
  have Cg:ye.length=ps.length:=Paired.length hl
  refine⟨_,rfl,x,c.land,dx,_,_,rfl,hx,L.cl,L.nl,rfl,t,rfl,⟨_,xV.of ht⟩,b8 ps.length (by rw[sizeLine_eq];omega) (fun i acc H4=>xN H H4/\acc=kU Prod.fst ps pl i) ⟨xN.refl _,rfl⟩ (fun i acc H4 h=>by rw[h.2];exact oQ) ?_ ?_⟩
  ·rintro i acc H4 hi ⟨s4,rfl⟩
   have q4:xV K H4 t ye:=xV.of (s4 _ _ ht)
   refine⟨⟨ye,ye[i]'(by omega),q4,by simp[Cg,hi]⟩,fun y H5 ⟨r,Be,ey,h5⟩=>?_⟩
   obtain⟨v,hv,rfl⟩:=h5 ye q4
   subst ey
   obtain⟨pr,zv,u,rfl,hu⟩:=yk.get hl hv
   have s5:xN H (upd H4 r (.tup [.int i, .ref u])):=s4.new Be
   refine⟨r,_,rfl,xV.of ac,rfl,_,_,rfl,_,_,rfl,rfl,?_⟩
   refine⟨_,rfl,u,_,0,_,rfl,rfl,xV.of (s5 _ _ hu),aj (j:=0) rfl,_,rfl,rfl,_,rfl,?_⟩
   rw[ed,lJ zv]
   cases hd:decide (pr.1=pl) with
   | true=>exact aN ⟨_,rfl,s5,by simp[hd]⟩
   | false=>exact aJ ⟨s5,by simp[hd]⟩
  ·rintro acc H4 ⟨s4,rfl⟩
   exact⟨⟨ye,xV.of (s4 _ _ ht),Cg⟩,fun D hD=>q H4 D s4 hD⟩
theorem uE {c:Cs}{f:Addr}{fd:FuncData}(F:yn K "into" "Land.into" lz f fd)(T:fR mg)(L:m6 K c):xO P w K mg base aF 1 f fd ["self", "place"] (tT c Prod.snd):=by
 refine F.ok we (fun _ _ _ _ h=>?_) (fun _ _ _ s H _ Q E hr h=>?_)
 ·obtain⟨x,dx,t,n,ye,ps,pl,rfl,_⟩:=h
  rfl
 ·obtain⟨x,dx,t,n,ye,ps,pl,rfl,⟨hx,ht,hl⟩,hlen,q⟩:=h
  refine⟨_,ak (au (bv (own:=["lane", "pair"]) (capN:=["place"]) (cap:=[1]) xz rfl (jc rfl T.enum (aa (am (pv 0) rfl) ad))
   (fun C s' H' fp=>⟨(show PG _ _ (sI K 2 _) from cX rfl (aQ (aq (i:=0) oJ rfl (Or.inl rfl)) (aQ (aq (i:=1) oJ rfl (Or.inl rfl)) ck))),
    cf (aw bG (ao (show j0 _ (gP K) from av) (pv 1) ai (fun _ _=>rfl)) (pv 2) (ay _)),pv 0⟩))),?_⟩
  have Cg:ye.length=ps.length:=Paired.length hl
  refine⟨_,rfl,x,c.land,dx,_,_,rfl,hx,L.cl,L.nl,rfl,t,rfl,⟨_,xV.of ht⟩,b8 ps.length (by rw[sizeLine_eq];omega) (fun i acc H4=>xN H H4/\acc=kU Prod.snd ps pl i) ⟨xN.refl _,rfl⟩ (fun i acc H4 h=>by rw[h.2];exact oQ) ?_ ?_⟩
  ·rintro i acc H4 hi ⟨s4,rfl⟩
   have q4:xV K H4 t ye:=xV.of (s4 _ _ ht)
   refine⟨⟨ye,ye[i]'(by omega),q4,by simp[Cg,hi]⟩,fun y H5 ⟨r,Be,ey,h5⟩=>?_⟩
   obtain⟨v,hv,rfl⟩:=h5 ye q4
   subst ey
   obtain⟨pr,zv,u,rfl,hu⟩:=yk.get hl hv
   have s5:xN H (upd H4 r (.tup [.int i, .ref u])):=s4.new Be
   refine⟨r,_,rfl,xV.of ac,rfl,_,_,rfl,_,_,rfl,rfl,?_⟩
   refine⟨_,rfl,u,_,1,_,rfl,rfl,xV.of (s5 _ _ hu),aj (j:=1) rfl,_,rfl,rfl,_,rfl,?_⟩
   rw[ed,lJ zv]
   cases hd:decide (pr.2=pl) with
   | true=>exact aN ⟨_,rfl,s5,by simp[hd]⟩
   | false=>exact aJ ⟨s5,by simp[hd]⟩
  ·rintro acc H4 ⟨s4,rfl⟩
   exact⟨⟨ye,xV.of (s4 _ _ ht),Cg⟩,fun D hD=>q H4 D s4 hD⟩
noncomputable def vA:Sp:=fun vs H Q _=>∃ m k:Nat,vs=[.int m, .int k]/\Q (.bl (m.testBit k)) H
noncomputable def Jk (m:Nat):List V:=(Yd.Dr m (Builtin.Int.intBits (m:Int))).map fun k:Nat=>V.int k
noncomputable def vy:Sp:=fun vs H Q _=>∃ m:Nat,vs=[.int m]/\m < 2 ^ 400/\∀ p,H p=none->Q (.ref p) (upd H p (.lst (Jk m)))
noncomputable def vv (K:Frag):Sp:=fun vs H Q _=>∃ (a:Addr)(ks:List Nat),vs=[.ref a]/\xS K H a (ks.map fun k:Nat=>V.int k)/\(∀ k ∈ ks,k <= 1000)/\Q (.int (Yd.yJ ks 0:Nat)) H
theorem Jl:ar ["some", "number"] ["some", "number"] (al uc):=L2.yq
theorem wY {f:Addr}{fd:FuncData}(F:yn K "has" "has" uc f fd):xO P w K mg base aF 1 f fd ["some", "number"] vA:=by
 refine F.ok Jl (fun _ _ _ _ h=>?_) (fun _ _ _ s H _ Q E hr h=>?_)
 ·obtain⟨m,k,rfl,_⟩:=h
  rfl
 ·obtain⟨m,k,rfl,q⟩:=h
  refine⟨_,ak (au (cr (bU vC (pv 1) ai (ay _)) (cG (bU bG (ax rE (ax r9 (pv 0) (pv 1)) ai) ai (ay _))))),?_⟩
  refine⟨_,rfl,_,_,rfl,rfl,_,rfl,?_⟩
  rw[decide_eq_true (show (0:Int) <= (k:Int) by omega)]
  refine aN ?_
  refine⟨_,rfl,_,rfl,_,_,rfl,rfl,(show (0:Int) <= (k:Int) by omega),_,_,rfl,rfl,rfl,?_⟩
  have e:decide (V.int (Builtin.bitAnd ((m:Int) / 2 ^ (k:Int).toNat) 1)=V.int 1)=m.testBit k:=by
   rw[toNat_natCast,← Yd.Bm m k]
   by_cases h:Builtin.bitAnd ((m:Int) / 2 ^ k) 1=1
   ·rw[h];simp
   ·rw[decide_eq_false h,decide_eq_false fun z=>h (by injection z)]
  rw[e]
  exact q
theorem rV {ks:List Nat}{i:Nat}{x:V}(h:(ks.map fun k:Nat=>V.int k)[i]? = some x):∃ k,ks[i]? = some k/\x=V.int k:=by
 rw[getElem?_map]at h
 cases e:ks[i]? with
 | none=>rw[e]at h;cases h
 | some k=>rw[e]at h;exact⟨k,rfl,(Option.some.inj h).symm⟩
theorem Bs:ar ["numbers", "some", "number"] ["numbers"] (al wk):=L2.yq
theorem wL {f:Addr}{fd:FuncData}(F:yn K "set_of" "set_of" wk f fd):xO P w K mg base aF 1 f fd ["numbers"] (vv K):=by
 refine F.ok Bs (fun _ _ _ _ h=>?_) (fun _ _ _ s H _ Q E hr h=>?_)
 ·obtain⟨a,ks,rfl,_⟩:=h
  rfl
 ·obtain⟨a,ks,rfl,hS,hk,q⟩:=h
  refine⟨_,af (aD (i:=1) Bs.nd rfl (Or.inl rfl) ai)
   (af (bB PassesOwn.never rfl (bA (pv 0)) (aq (i:=2) Bs.nd rfl (Or.inl rfl))
    (ak (aD (i:=1) Bs.nd rfl (Or.inl rfl) (ax Ij (pv 1) (ax wE ai (pv 2))))))
   (ak (au (pv 1)))),?_⟩
  refine⟨_,rfl,a,rfl,⟨_,hS⟩,gx (K:=K) (a:=a) (xs:=ks.map fun k:Nat=>V.int k) (fun i σ H2=>∃ v:Option V,H2=H/\σ=[some (.ref a),some (.int (Yd.yJ (ks.take i) 0:Nat)),v])
   ⟨none,rfl,rfl⟩ (fun i σ H2 _ xU=>by obtain⟨_,e,_⟩:=xU;rw[e];exact hS) ?_ ?_⟩
  ·rintro i x σ H2 hx ⟨v,rfl,rfl⟩
   obtain⟨k,ek,rfl⟩:=rV hx
   have Jm:=hk k (mem_of_getElem? ek)
   refine⟨_,rfl,_,rfl,_,_,rfl,rfl,⟨(show (0:Int) <= (k:Int) by omega),(show (k:Int) <= 1000000 by omega),(by decide)⟩,_,_,rfl,rfl,some (.int k),rfl,?_⟩
   have e:Builtin.bitOr ((Yd.yJ (ks.take i) 0:Nat):Int) (1 * 2 ^ (k:Int).toNat)=((Yd.yJ (ks.take (i + 1)) 0:Nat):Int):=by
    rw[take_succ,ek,toNat_natCast,Int.one_mul,show (2:Int) ^ k=((2 ^ k:Nat):Int) by rw[Int.natCast_pow];rfl,Yd.BF,Yd.Cv]
    rfl
   show [some (V.ref a),some (V.int _),some (V.int k)]=_
   rw[e]
  ·rintro σ H2 ⟨v,rfl,rfl⟩
   refine⟨_,rfl,?_⟩
   rw[length_map,take_length]
   exact q
theorem Jn:ar ["some"] ["some"] (al qW):=L2.yq
theorem Jo:(["number", "some"]:List Str).Nodup:=by decide +kernel
theorem Jp:yK ["some"] (al qW) (iY qW) ["some"] [0]:=L2.zA
theorem wR {f fh:Addr}{fd A0:FuncData}(F:yn K "members" "members" qW f fd)(T:fR mg)(mh:mg "has" = some (.ref fh))(Fh:yn K "has" "has" uc fh A0)(bh:Binds K A0 ["some", "number"] []):xO P w K mg base aF 2 f fd ["some"] vy:=by
 have G:xO P w K mg base aF 1 fh A0 ["some", "number"] vA:=wY Fh
 refine F.ok Jn (fun _ _ _ _ h=>?_) (fun _ _ _ s H _ Q E hr h=>?_)
 ·obtain⟨m,rfl,_⟩:=h
  rfl
 ·obtain⟨m,rfl,hm,q⟩:=h
  refine⟨_,ak (au (bv (own:=["number"]) (capN:=["some"]) (cap:=[0]) Jp rfl
   (aS rfl T.range (aa (wB PySem.F.plainAttrs_int PySem.F.slot_int_bit_length PySem.F.type_int_bit_length uL (pv 0)) ad))
   (fun C s' H' fp=>⟨aq (i:=0) Jo rfl (Or.inl rfl),cf (b9 (az G hr rfl mh Fh.kp bh .nil ap (aa (pv 1) (aa (pv 0) ad)))),pv 0⟩))),?_⟩
  have hb:Builtin.Int.intBits (m:Int) <= 400:=Yd.bits_le hm
  refine⟨_,rfl,rfl,_,rfl,rfl,(Builtin.Int.intBits (m:Int):Nat),rfl,by omega,by omega,?_⟩
  rw[toNat_natCast]
  refine lS (fun k=>m.testBit k) (fun k=>V.int k) (by rw[sizeLine_eq];omega) (fun i acc N hi h=>?_) q
  refine⟨_,rfl,_,rfl,m,i,by simp,_,rfl,?_⟩
  cases e:m.testBit i with
  | true =>
   rw[e]at h
   refine aN ⟨_,rfl,?_⟩
   simpa using h
  | false =>
   rw[e]at h
   exact aJ (by simpa using h)
noncomputable def iz (ks:List Nat):List Int:=ks.map fun k:Nat=>(k:Int)
theorem xp (ks:List Nat):(iz ks).map V.int=ks.map fun k:Nat=>V.int k:=by rw[iz,map_map];rfl
theorem zo {ks:List Nat}{k:Int}:k ∈ iz ks↔∃ n ∈ ks,(n:Int)=k:=mem_map
theorem vX {ks:List Nat}{b:Nat}(h:∀ k ∈ ks,k < b):Yd.yJ ks 0 < 2 ^ b:=by
 rw[← Yd.Dq h]
 exact Yd.Ap ks b
theorem p9 {ks:List Nat}{k:Nat}:(Yd.yJ ks 0).testBit k=decide ((k:Int) ∈ iz ks):=by
 rw[Yd.zf,Nat.zero_testBit,Bool.false_or]
 congr 1
 refine propext ⟨fun h=>zo.mpr ⟨k,h,rfl⟩,fun h=>?_⟩
 obtain⟨n,hn,e⟩:=zo.mp h
 have:n=k:=by omega
 rw[← this]
 exact hn
structure Rw where
 p:Int
 g:Int
 c:Option Nat
 s:List Nat
noncomputable def aK (r:Rw):fv:=[some r.p,some r.g,r.c.map fun k:Nat=>(k:Int)]
noncomputable def cx (sel:Int × Int->Int)(ps:List (Int × Int))(pl:Int):List Nat:=(List.range ps.length).filter fun k=>decide (sel (ps.getD k (0,0))=pl)
noncomputable def gA (n:Int)(ps:List (Int × Int))(r:Rw):Bool :=
 fO n (r.p,r.g) && ((match r.c with | none=>true | some k=>decide (k ∈ cx Prod.snd ps r.p)) && r.s.all fun k=>decide (k ∈ cx Prod.fst ps r.p))
noncomputable def lB (sel:Int × Int->Int)(ps:List (Int × Int))(pl:Int)(k:Nat):Bool:=decide (ps.length <= k) || !decide (sel (ps.getD k (0,0))=pl)
noncomputable def mq (n:Int)(ps:List (Int × Int))(ahead:List Rw)(r:Rw):Bool :=
 !fO n (r.p,r.g) || ((match r.c with | none=>false | some k=>lB Prod.snd ps r.p k) || ((r.s.any fun k=>lB Prod.fst ps r.p k) || ahead.any fun a=>decide (aK a=aK r)))
theorem oS {sel:Int × Int->Int}{ps:List (Int × Int)}{pl:Int}{k:Nat}:decide (k ∈ cx sel ps pl) = !lB sel ps pl k:=by
 unfold cx lB
 by_cases h1:ps.length <= k
 ·rw[decide_eq_true h1,decide_eq_false]
  ·rfl
  ·intro z
   have:=mem_range.mp (mem_filter.mp z).1
   omega
 ·rw[decide_eq_false h1]
  by_cases h2:sel (ps.getD k (0,0))=pl
  ·rw[decide_eq_true h2,decide_eq_true]
   ·rfl
   ·exact mem_filter.mpr ⟨mem_range.mpr (by omega),decide_eq_true h2⟩
  ·rw[decide_eq_false h2,decide_eq_false]
   ·rfl
   ·intro z
    exact h2 (of_decide_eq_true (mem_filter.mp z).2)
theorem vg {l:List Nat}{f:Nat->Bool}:(l.all fun k=>!f k) = !(l.any f):=by
 induction l with
 | nil=>rfl
 | cons a l ih=>rw[all_cons,any_cons,ih,Bool.not_or]
theorem gH (n:Int)(ps:List (Int × Int))(ahead:List Rw)(r:Rw):mq n ps ahead r=(!gA n ps r || ahead.any fun a=>decide (aK a=aK r)):=by
 unfold mq gA
 have e:(r.s.all fun k=>decide (k ∈ cx Prod.fst ps r.p)) = !(r.s.any fun k=>lB Prod.fst ps r.p k):=by
  rw[← vg]
  congr 1
  funext k
  exact oS
 rw[e]
 cases hc:r.c with
 | none =>
  dsimp only
  cases fO n (r.p,r.g)<;>cases (r.s.any fun k=>lB Prod.fst ps r.p k)<;>cases (ahead.any fun a=>decide (aK a=aK r))<;>rfl
 | some k =>
  dsimp only
  rw[oS]
  cases fO n (r.p,r.g)<;>cases (lB Prod.snd ps r.p k)<;>cases (r.s.any fun k=>lB Prod.fst ps r.p k)<;>cases (ahead.any fun a=>decide (aK a=aK r))<;>rfl
noncomputable def dj (n:Int)(ps:List (Int × Int))(rs:List Rw)(m:Nat):Option Nat:=(List.range m).find? fun k=>mq n ps (rs.take k) (rs.getD k ⟨0,0,none,[]⟩)
theorem fE {n:Int}{ps:List (Int × Int)}{rs:List Rw}:∀ {m:Nat},(∀ k,k < m->mq n ps (rs.take k) (rs.getD k ⟨0,0,none,[]⟩)=false)->dj n ps rs m=none:=by
 intro m h
 unfold dj
 rw[List.find?_eq_none]
 intro k hk
 rw[h k (mem_range.mp hk)]
 decide
theorem j7 {n:Int}{ps:List (Int × Int)}{rs:List Rw}{m i:Nat}(hi:i < m)(h:∀ k,k < i->mq n ps (rs.take k) (rs.getD k ⟨0,0,none,[]⟩)=false)(hb:mq n ps (rs.take i) (rs.getD i ⟨0,0,none,[]⟩)=true):dj n ps rs m=some i:=by
 unfold dj
 rw[List.find?_range_eq_some]
 refine⟨hb,mem_range.mpr hi,fun j hj=>?_⟩
 rw[h j hj]
 rfl
noncomputable def ci (rs:List Rw)(k:fv):Option Rw:=rs.reverse.find? fun r=>decide (aK r=k)
theorem n0 {rs:List Rw}{r:Rw}{k:fv}:ci (rs ++ [r]) k=if k=aK r then some r else ci rs k:=by
 unfold ci
 rw[List.reverse_append,List.reverse_singleton,List.singleton_append,find?_cons]
 by_cases h:aK r=k
 ·rw[decide_eq_true h,if_pos h.symm]
 ·rw[decide_eq_false h,if_neg (Ne.symm h)]
theorem kR {rs:List Rw}{k:fv}:(ci rs k).isSome=rs.any fun r=>decide (aK r=k):=by
 unfold ci
 rw[Bool.eq_iff_iff,List.find?_isSome,List.any_eq_true]
 exact⟨fun xU=>by obtain⟨x,hx,h⟩:=xU;exact⟨x,mem_reverse.mp hx,h⟩,fun xU=>by obtain⟨x,hx,h⟩:=xU;exact⟨x,mem_reverse.mpr hx,h⟩⟩
noncomputable def cV:Option Nat->V
 | none => .yd
 | some k => .int k
noncomputable def aL (ks:List Nat):List V:=ks.map fun k:Nat=>V.int k
theorem uK (ks:List Nat):aL ks=(iz ks).map V.int:=(xp ks).symm
noncomputable def GZ (H:Hp)(t l:Addr)(r:Rw):Prop:=H t=some (.tup [.int r.p, .int r.g,cV r.c, .ref l])/\H l=some (.lst (aL r.s))
noncomputable def F8 (H:Hp)(v:V)(r:Rw):Prop:=∃ t l,v = .ref t/\GZ H t l r
abbrev zO (H:Hp):List V->List Rw->Prop:=Paired (F8 H)
theorem GZ.same {H H':Hp}{t l:Addr}{r:Rw}(h:xN H H')(x:GZ H t l r):GZ H' t l r:=⟨h _ _ x.1,h _ _ x.2⟩
theorem F8.same {H H':Hp}{v:V}{r:Rw}(h:xN H H'):F8 H v r->F8 H' v r:=fun xU=>by obtain⟨t,l,e,x⟩:=xU;exact⟨t,l,e,x.same h⟩
theorem zO.imp {H H':Hp}(h:∀ v r,F8 H v r->F8 H' v r):∀ {vs:List V}{rs:List Rw},zO H vs rs->zO H' vs rs:=fun xU=>by
 induction xU with
 | nil=>exact .nil
 | cons x r ih=>exact .cons (h _ _ x) ih
theorem zO.same {H H':Hp}(h:xN H H'){vs:List V}{rs:List Rw}(x:zO H vs rs):zO H' vs rs:=zO.imp (fun _ _ z=>z.same h) x
theorem zO.get {H:Hp}:∀ {vs:List V}{rs:List Rw}{i:Nat}{v:V},zO H vs rs->vs[i]? = some v->∃ r,rs[i]? = some r/\F8 H v r
 | _,_,_,_, .nil,e=>by simp at e
 | _,_,0,_, .cons x _,e=>by simp at e;subst e;exact⟨_,rfl,x⟩
 | _,_,i + 1,v, .cons _ t,e=>by
  obtain⟨r,h1,h2⟩:=zO.get (i:=i) (v:=v) t (by simpa using e)
  exact⟨r,by simpa using h1,h2⟩
theorem oP (r:Rw):(aK r).map gY=[.int r.p, .int r.g,cV r.c]:=by
 cases r with
 | mk p g c s=>cases c<;>rfl
theorem n8 {sel:Int × Int->Int}{ps:List (Int × Int)}{pl:Int}:kU sel ps pl ps.length=(iz (cx sel ps pl)).map V.int:=by rw[xp];rfl
theorem kT {k:Nat}{l:List Nat}:decide ((k:Int) ∈ iz l)=decide (k ∈ l):=by
 congr 1
 refine propext ⟨fun h=>?_,fun h=>zo.mpr ⟨k,h,rfl⟩⟩
 obtain⟨n,hn,e⟩:=zo.mp h
 have:n=k:=by omega
 rw[← this]
 exact hn
theorem p5 (ks l:List Nat):((aL ks).filter fun _=>true).map (fun v=>match v with | .int i=>V.bl (decide (i ∈ iz l)) | _ => .yd)=(ks.map fun k=>decide (k ∈ l)).map V.bl:=by
 rw[List.filter_eq_self.mpr (fun _ _=>rfl)]
 unfold aL
 rw[map_map,map_map]
 refine map_congr_left fun k _=>?_
 show V.bl (decide ((k:Int) ∈ iz l))=V.bl (decide (k ∈ l))
 rw[kT]
theorem tm (ks:List Nat)(p:Nat->Bool):(ks.map p).all id=ks.all p:=by rw[all_map];rfl
noncomputable def vx (K:Frag):Sp:=fun vs H Q _=>∃ (i:Int)(p:Addr)(ns:List Int),vs=[.int i, .ref p]/\xS K H p (ns.map V.int)/\Q (.bl (decide (i ∈ ns))) H
noncomputable def qN (c:Cs):Sp:=fun vs H Q _=>∃ (x dx lt t l:Addr)(n:Int)(ye:List V)(ps:List (Int × Int))(r:Rw),vs=[.ref x, .ref t]/\eB H c x dx lt n ye ps/\GZ H t l r/\ps.length <= 1000/\r.s.length <= 1000/\∀ H',xN H H'->Q (.bl (gA n ps r)) H'
structure Jq (K:Frag)(c:Cs)(f3 f4:Addr)(d3 d4:FuncData):Prop where
 m3:bK K c.land "out_of" f3
 m4:bK K c.land "into" f4
 b3:Binds K d3 ["self", "place"] []
 b4:Binds K d4 ["self", "place"] []
abbrev NF:List Str:=["land", "row", "place", "came", "begin_here"]
noncomputable def tD (s:Stmt):Scope:=match s with
 | .Return (some (.Call _ [.ListComp _ _ sc _] _ _)) _=>sc
 | _=>zQ0
theorem Jr:ar ["value", "numbers"] ["value", "numbers"] (al wm):=L2.yq
theorem wO {f fh:Addr}{fd A0:FuncData}(F:yn K "is_one_of" "is_one_of" wm f fd)(T:fR mg)(mh:mg "is_whole" = some (.ref fh))(Fh:yn K "is_whole" "is_whole" fK fh A0)(bh:Binds K A0 ["value"] []) :
  xO P w K mg base aF 2 f fd ["value", "numbers"] (vx K):=by
 have G:xO P w K mg base aF 1 fh A0 ["value"] kx:=lA Fh T
 refine F.ok Jr (fun _ _ _ _ h=>?_) (fun _ _ _ s H _ Q E hr h=>?_)
 ·obtain⟨i,p,ns,rfl,_⟩:=h
  rfl
 ·obtain⟨i,p,ns,rfl,hS,q⟩:=h
  refine⟨_,ak (au (cr (az G hr rfl mh Fh.kp bh .nil ap (aa (pv 0) ad)) (cG (bU pJ (pv 0) (pv 1) (by with_unfolding_all rfl))))),?_⟩
  refine⟨_,rfl,i,rfl,true,rfl,aN ?_⟩
  refine⟨_,rfl,_,rfl,p,_,rfl, .inl hS,rfl,fq _,?_⟩
  show Q (V.bl (GV (V.int i) (ns.map V.int))) H
  rw[iH]
  exact q
theorem As:ar NF ["land", "row"] (al l5):=L2.yq
theorem x8:yK NF (al l5) (tD ((aG l5).getD 5 (.Pass ⟨0,0,0,0⟩))) ["begin_here"] [4]:=L2.zA
theorem xg:(["lane", "begin_here"]:List Str).Nodup:=by decide +kernel
theorem uH {c:Cs}{f ft fo f3 f4:Addr}{fd dt d1 d3 d4:FuncData}(F:yn K "row_fits" "row_fits" l5 f fd)(T:fR mg)(L:m6 K c)(M:Jq K c f3 f4 d3 d4)
  (mt:mg "are_two_places" = some (.ref ft)) (kt:keepIn K (.ref ft)=true) (bt:Binds K dt ["places", "one", "other"] []) (Gt:xO P w K mg base aF 3 ft dt ["places", "one", "other"] q5)
  (mo:mg "is_one_of" = some (.ref fo)) (ko:keepIn K (.ref fo)=true) (bo:Binds K d1 ["value", "numbers"] []) (Go:xO P w K mg base aF 2 fo d1 ["value", "numbers"] (vx K))
  (G3:xO P w K mg base aF 1 f3 d3 ["self", "place"] (tT c Prod.fst)) (G4:xO P w K mg base aF 1 f4 d4 ["self", "place"] (tT c Prod.snd)) :
  xO P w K mg base aF 4 f fd ["land", "row"] (qN c):=by
 refine F.ok As (fun _ _ _ _ h=>?_) (fun _ _ _ s H _ Q E hr h=>?_)
 ·obtain⟨x,dx,lt,t,l,n,ye,ps,r,rfl,_⟩:=h
  rfl
 ·obtain⟨x,dx,lt,t,l,n,ye,ps,r,rfl,hL,hR,hlen,hsl,q⟩:=h
  have yA:ya 1 _:=hr.mono (by decide)
  have zh:ya 2 _:=hr.mono (by decide)
  refine⟨_,af (aD (i:=2) As.nd rfl (Or.inl rfl) (ao av (pv 1) ai (fun _ _=>rfl)))
   (af (aD (i:=3) As.nd rfl (Or.inl rfl) (ao av (pv 1) ai (fun _ _=>rfl)))
   (af (aR (bM (b9 (az Gt hr rfl mt kt bt .nil ap (aa (am (pv 0) rfl) (aa (pv 2) (aa (ao av (pv 1) ai (fun _ _=>rfl)) ad)))))) (ak (au eK)) aE)
   (af (aR (PW.pt (rn (aw oF (pv 3) bH (ay _)) (oC (bM (b9 (az Go zh rfl mo ko bo .nil ap (aa (pv 3) (aa (aI (pv 0) L.cl M.m4 G4 yA M.b4 .nil ap (aa (pv 2) ad)) ad)))))))) (ak (au eK)) aE)
   (af (aD (i:=4) As.nd rfl (Or.inr rfl) (aI (pv 0) L.cl M.m3 G3 yA M.b3 .nil ap (aa (pv 2) ad)))
   (ak (au (aB (jw rfl) rfl T.all PyProof.Rows.boot_all (aa (bv (own:=["lane"]) (capN:=["begin_here"]) (cap:=[4]) x8 rfl (bA (ao av (pv 1) ai (fun _ _=>rfl)))
    (fun C s' H' fp=>⟨aq (i:=0) xg rfl (Or.inl rfl),bT,az Go zh rfl mo ko bo .nil ap (aa (pv 0) (aa (pv 1) ad))⟩)) ad)))))))),?_⟩
  obtain⟨hT,hl⟩:=hR
  have OQ:xV K H t [.int r.p, .int r.g,cV r.c, .ref l]:=xV.of hT
  refine⟨_,rfl,t,_,0,_,rfl,rfl,OQ,aj (j:=0) rfl,?_⟩
  refine⟨_,rfl,t,_,2,_,rfl,rfl,OQ,aj (j:=2) rfl,?_⟩
  refine⟨_,rfl,x,c.land,dx,_,_,rfl,hL.1,L.cl,L.np,rfl,_,rfl,_,rfl,t,_,1,_,rfl,rfl,OQ,aj (j:=1) rfl,n,r.p,r.g,rfl,_,rfl,?_⟩
  cases ho:fO n (r.p,r.g) with
  | false =>
   have e:gA n ps r=false:=by unfold gA;rw[ho];rfl
   refine aN ?_
   have:=q H (xN.refl H)
   rw[e]at this
   exact this
  | true =>
   refine aJ ?_
   cases hc:r.c with
   | none =>
    refine⟨_,rfl,rfl,_,rfl,aJ (aJ ?_)⟩
    have s1:=xN.refl H
    have e1:gA n ps r=r.s.all fun k=>decide (k ∈ cx Prod.fst ps r.p):=by unfold gA;rw[ho,hc];rfl
    refine⟨_,rfl,x,dx,_,rfl,s1 _ _ hL.1,rfl,_,rfl,x,dx,lt,n,ye,ps,r.p,rfl,⟨s1 _ _ hL.1,s1 _ _ hL.2.1,yk.same s1 hL.2.2⟩,hlen,fun H2 D2 s2 zF=>?_⟩
    have s3:=(s1.trans s2).new (o := .lst (kU Prod.fst ps r.p ps.length)) zF
    have g2:(upd H2 D2 (.lst (kU Prod.fst ps r.p ps.length))) D2=some (.lst (kU Prod.fst ps r.p ps.length)):=ac
    generalize upd H2 D2 (.lst (kU Prod.fst ps r.p ps.length))=H3 at s3 g2 ⊢
    refine⟨_,rfl,t,_,3,_,rfl,rfl,xV.of (s3 _ _ hT),aj (j:=3) rfl,l,rfl,⟨_,xS.of (s3 _ _ hl)⟩,?_⟩
    refine gE (xs:=aL r.s) (fun _=>true) (fun v=>match v with | .int i => .bl (decide (i ∈ iz (cx Prod.fst ps r.p))) | _ => .yd) (by rw[sizeLine_eq];simp only[aL,length_map];omega) (xS.of (s3 _ _ hl)) (fun y acc N hy h=>?_) (fun D hD=>?_)
    ·obtain⟨k',_,rfl⟩:=mem_map.mp hy
     exact⟨_,rfl,_,rfl,(k':Int),D2,iz (cx Prod.fst ps r.p),rfl,by rw[← n8];exact xS.of g2,by simpa using h⟩
    ·rw[p5]
     refine⟨D,r.s.map fun k=>decide (k ∈ cx Prod.fst ps r.p),rfl,xS.of ac,?_⟩
     have:=q _ (s3.new (o := .lst ((r.s.map fun k=>decide (k ∈ cx Prod.fst ps r.p)).map V.bl)) hD)
     rw[e1]at this
     rw[tm]
     exact this
   | some k =>
    refine⟨_,rfl,rfl,_,rfl,aN ?_⟩
    refine⟨_,rfl,_,rfl,x,dx,_,rfl,hL.1,rfl,_,rfl,x,dx,lt,n,ye,ps,r.p,rfl,hL,hlen,fun H' D s' hD=>?_⟩
    have s1:=s'.new (o := .lst (kU Prod.snd ps r.p ps.length)) hD
    refine⟨(k:Int),D,iz (cx Prod.snd ps r.p),rfl,by rw[← n8];exact xS.of ac,_,rfl,?_⟩
    rw[kT]
    cases hk:decide (k ∈ cx Prod.snd ps r.p) with
    | false =>
     refine aN ?_
     have e:gA n ps r=false:=by unfold gA;rw[ho,hc];dsimp only;rw[hk];rfl
     have:=q _ s1
     rw[e]at this
     exact this
    | true =>
     have e1:gA n ps r=r.s.all fun k=>decide (k ∈ cx Prod.fst ps r.p):=by unfold gA;rw[ho,hc];dsimp only;rw[hk];rfl
     refine aJ ?_
     refine⟨_,rfl,x,dx,_,rfl,s1 _ _ hL.1,rfl,_,rfl,x,dx,lt,n,ye,ps,r.p,rfl,⟨s1 _ _ hL.1,s1 _ _ hL.2.1,yk.same s1 hL.2.2⟩,hlen,fun H2 D2 s2 zF=>?_⟩
     have s3:=(s1.trans s2).new (o := .lst (kU Prod.fst ps r.p ps.length)) zF
     have g2:(upd H2 D2 (.lst (kU Prod.fst ps r.p ps.length))) D2=some (.lst (kU Prod.fst ps r.p ps.length)):=ac
     generalize upd H2 D2 (.lst (kU Prod.fst ps r.p ps.length))=H3 at s3 g2 ⊢
     refine⟨_,rfl,t,_,3,_,rfl,rfl,xV.of (s3 _ _ hT),aj (j:=3) rfl,l,rfl,⟨_,xS.of (s3 _ _ hl)⟩,?_⟩
     refine gE (xs:=aL r.s) (fun _=>true) (fun v=>match v with | .int i => .bl (decide (i ∈ iz (cx Prod.fst ps r.p))) | _ => .yd) (by rw[sizeLine_eq];simp only[aL,length_map];omega) (xS.of (s3 _ _ hl)) (fun y acc N hy h=>?_) (fun D hD=>?_)
     ·obtain⟨k',_,rfl⟩:=mem_map.mp hy
      exact⟨_,rfl,_,rfl,(k':Int),D2,iz (cx Prod.fst ps r.p),rfl,by rw[← n8];exact xS.of g2,by simpa using h⟩
     ·rw[p5]
      refine⟨D,r.s.map fun k=>decide (k ∈ cx Prod.fst ps r.p),rfl,xS.of ac,?_⟩
      have:=q _ (s3.new (o := .lst ((r.s.map fun k=>decide (k ∈ cx Prod.fst ps r.p)).map V.bl)) hD)
      rw[e1]at this
      rw[tm]
      exact this
structure Ts where
 tab:Addr
 told:Addr
noncomputable def vt (K:Frag):Sp:=fun vs H Q _=>∃ (x C dx:Addr)(lv:V),vs=[.ref x,lv]/\H x=some (.ins C dx [])/\Ao K C/\yb K C "land"/\Q .yd (upd H x (.ins C dx [("land",lv)]))
noncomputable def qO (r:Rw):V := .int (Yd.yJ r.s 0:Nat)
noncomputable def qA (P:Program)(w:World)(K:Frag)(c:Cs)(ts:Ts):Sp:=fun vs H Q E=>∃ (x dx lx yz lt p:Addr)(n:Int)(ye yi:List V)(ps:List (Int × Int))(rs:List Rw),
 vs=[.ref x, .ref lx, .ref p]/\H x=some (.ins ts.told dx [])/\eB H c lx yz lt n ye ps/\xS K H p yi/\zO H yi rs/\yi.length <= 100000/\ps.length <= 1000/\(∀ r ∈ rs,(∀ k ∈ r.s,k <= 1000)/\r.s.length <= 1000) /\
 (∀ i,dj n ps rs rs.length=some i->False) /\
 (dj n ps rs rs.length=none->∀ H' de xP,Off x H H'->H' x=some (.ins ts.told dx [("land", .ref lx),("entries", .ref de)])->y2 P w H' de xP->(∀ k,c6 xP k=(ci rs k).map qO)->Q .yd H')
noncomputable def og (P:Program)(w:World)(ts:Ts):Sp:=fun vs H Q _=>∃ (x dx de:Addr)(lv:V)(xP:List bO)(r:Rw)(m:Nat),vs=[.ref x, .int r.p, .int r.g,cV r.c]/\H x=some (.ins ts.told dx [("land",lv),("entries", .ref de)])/\y2 P w H de xP /\
 (c6 xP (aK r)).getD (.int 0) = .int m/\m < 2 ^ 400/\∀ H' D,xN H H'->H' D=none->Q (.ref D) (upd H' D (.lst (Jk m)))
structure OR (K:Frag)(mg:Str->Option Value)(ts:Ts)(f1:Addr)(d1:FuncData):Prop where
 ct:Ao K ts.tab
 nt:yb K ts.tab "land"
 cd:Ao K ts.told
 nd1:yb K ts.told "land"
 M5:yb K ts.told "entries"
 mt:mg "Table" = some (.ref ts.tab)
 cm:vN K ts.tab "__init__" f1
 bt:Binds K d1 ["self", "land"] []
abbrev NT:List Str:=["self", "land", "rows", "number", "row", "key"]
theorem Off.land {H H':Hp}{x C dx:Addr}(o:Off x H H')(hx:H x=some (.ins C dx [])){c:Cs}{lx yz lt:Addr}{n:Int}{ye:List V}{ps:List (Int × Int)}(h:eB H c lx yz lt n ye ps):eB H' c lx yz lt n ye ps :=
 ⟨o _ _ (aV h.1 hx (by intro z;cases z)) h.1,o _ _ (aV h.2.1 hx (by intro z;cases z)) h.2.1,o.BN hx h.2.2⟩
theorem Js:ar ["self", "land"] ["self", "land"] (al wj):=L2.yq
theorem wK {f:Addr}{fd:FuncData}(F:yn K "__init__" "Table.__init__" wj f fd):xO P w K mg base aF 1 f fd ["self", "land"] (vt K):=by
 refine F.ok Js (fun _ _ _ _ h=>?_) (fun _ _ _ s H _ Q E hr h=>?_)
 ·obtain⟨x,C,dx,lv,rfl,_⟩:=h
  rfl
 ·obtain⟨x,C,dx,lv,rfl,hx,hc,hn,q⟩:=h
  refine⟨_,ak (aZ (pv 0) (pv 1) rfl),?_⟩
  exact⟨_,rfl,_,rfl,x,C,dx,_,rfl,hx,hc,hn,by show 0 < 1000;decide,q⟩
theorem tZ:ar ["self", "place", "goal", "came"] ["self", "place", "goal", "came"] (al mR):=L2.yq
theorem rF {ts:Ts}{f fm f1:Addr}{fd dm d1:FuncData}(F:yn K "ways" "Told.ways" mR f fd)(B:OR K mg ts f1 d1)(mm:mg "members" = some (.ref fm))(km:keepIn K (.ref fm)=true)(bm:Binds K dm ["some"] [])
  (Gm:xO P w K mg base aF 2 fm dm ["some"] vy):xO P w K mg base aF 3 f fd ["self", "place", "goal", "came"] (og P w ts):=by
 refine F.ok tZ (fun _ _ _ _ h=>?_) (fun _ _ _ s H _ Q E hr h=>?_)
 ·obtain⟨x,dx,de,lv,xP,r,m,rfl,_⟩:=h
  rfl
 ·obtain⟨x,dx,de,lv,xP,r,m,rfl,hx,hd,hv,hm,q⟩:=h
  have hu:=vH hr
  refine⟨_,ak (au (az Gm hr rfl mm km bm .nil ap (aa (rq hu (am (pv 0) rfl) (aa (aW (aa (pv 1) (aa (pv 2) (aa (pv 3) ad)))) (aa ai ad))) ad))),?_⟩
  refine⟨_,rfl,x,ts.told,dx,_,_,rfl,hx,B.cd,B.M5,rfl,de,xP,rfl,hd,?_⟩
  refine⟨_,rfl,_,rfl,_,rfl,by show 3 <= sizeLine;decide,fun t ht=>?_⟩
  have s1:xN H (upd H t (.tup [.int r.p, .int r.g,cV r.c])):=(xN.refl H).new ht
  refine⟨_,_,c6 xP (aK r),rfl,⟨xP,aK r,t,hd.same s1,rfl,by rw[oP];exact ac,rfl⟩,?_⟩
  rw[hv]
  exact⟨m,rfl,hm,fun D hD=>q _ D s1 hD⟩
theorem Au:ar NT ["self", "land", "rows"] (al qQ):=L2.yq
theorem uy {c:Cs}{ts:Ts}{f ff fs f1:Addr}{fd df ds d1:FuncData}(F:yn K "__init__" "Told.__init__" qQ f fd)(T:fR mg)(B:OR K mg ts f1 d1)(G1:xO P w K mg base aF 1 f1 d1 ["self", "land"] (vt K))
  (mf:mg "row_fits" = some (.ref ff)) (kf:keepIn K (.ref ff)=true) (bf:Binds K df ["land", "row"] []) (Gf:xO P w K mg base aF 4 ff df ["land", "row"] (qN c))
  (ms:mg "set_of" = some (.ref fs)) (ks:keepIn K (.ref fs)=true) (bs:Binds K ds ["numbers"] []) (Gs:xO P w K mg base aF 1 fs ds ["numbers"] (vv K)) :
  xO P w K mg base aF 5 f fd ["self", "land", "rows"] (qA P w K c ts):=by
 refine F.ok Au (fun _ _ _ _ h=>?_) (fun _ _ _ s H _ Q E hr h=>?_)
 ·obtain⟨x,dx,lx,yz,lt,p,n,ye,yi,ps,rs,rfl,_⟩:=h
  rfl
 ·obtain⟨x,dx,lx,yz,lt,p,n,ye,yi,ps,rs,rfl,hx,hL,hp,hR,hlen,Cg,SU,hE,hQ⟩:=h
  have yA:ya 1 _:=hr.mono (by decide)
  have zh:ya 2 _:=hr.mono (by decide)
  have hu:=vH hr
  refine⟨_,af (aU (r6 (eY (v := .ref ts.tab) rfl B.mt rfl) B.cm G1 yA B.bt .nil ap (aa (pv 0) (aa (pv 1) ad))))
   (af (aZ (pv 0) (show PE _ _ (qv P w) from oE) rfl)
   (ak (bB PassesOwn.never rfl (l7 rfl T.enum (aa (pv 2) ad)) (cX rfl (aQ (aq (i:=3) Au.nd rfl (Or.inl rfl)) (aQ (aq (i:=4) Au.nd rfl (Or.inl rfl)) ck)))
    (af (aD (i:=5) Au.nd rfl (Or.inl rfl) (aW (aa (ao av (pv 4) ai (fun _ _=>rfl)) (aa (ao av (pv 4) ai (fun _ _=>rfl)) (aa (ao av (pv 4) ai (fun _ _=>rfl)) ad)))))
    (af (aR (PW.pt (fD (bM (b9 (az Gf hr rfl mf kf bf .nil ap (aa (pv 1) (aa (pv 4) ad))))) (dW (w8 (wC hu (pv 5) (am (pv 0) rfl))))))
     (ak b6) aE)
    (ak (dz hu (am (pv 0) rfl) (pv 5) (az Gs yA rfl ms ks bs .nil ap (aa (ao av (pv 4) ai (fun _ _=>rfl)) ad)) rfl))))))),?_⟩
  refine⟨rfl,_,rfl,_,rfl,x,ts.told,dx,_,rfl,hx,B.cd,B.nd1,?_⟩
  refine fun de M6=>⟨_,rfl,x,ts.told,dx,[("land", .ref lx)],rfl,by rw[ae (ag ac M6)];exact ac,B.cd,B.M5,by show 1 < 1000;decide,?_⟩
  have M7:x ≠ de:=ag ac M6
  have Jt:H de=none:=by rw[ae (Ne.symm M7)]at M6;exact M6
  generalize Fy:upd (upd (upd H x (.ins ts.told dx [("land", .ref lx)])) de (bF P w de [])) x (.ins ts.told dx (aO "entries" (.ref de) [("land", .ref lx)]))=H2
  have o2:Off x H H2:=fun b o hb e=>by rw[← Fy,ae hb,ae (ag e Jt),ae hb];exact e
  have x2:H2 x=some (.ins ts.told dx [("land", .ref lx),("entries", .ref de)]):=by rw[← Fy,ac];rfl
  have d2:y2 P w H2 de []:=⟨by rw[← Fy,ae (Ne.symm M7),ac],fun y hy=>by cases hy⟩
  have hrs:yi.length=rs.length:=Paired.length hR
  refine⟨_,rfl,p,rfl,⟨_,o2.sq hx hp⟩,jv (sq:=fun H=>xS K H p) (xs:=yi) (fun i σ H3=>∃ (a b k:Option V)(xP:List bO),Off x H H3/\H3 x=some (.ins ts.told dx [("land", .ref lx),("entries", .ref de)])/\y2 P w H3 de xP/\xP.length <= i /\
    (∀ k,c6 xP k=(ci (rs.take i) k).map qO)/\(∀ j,j < i->mq n ps (rs.take j) (rs.getD j ⟨0,0,none,[]⟩)=false)/\σ=[some (.ref x),some (.ref lx),some (.ref p),a,b,k])
   ⟨none,none,none,[],o2,x2,d2,le_refl _,fun k=>rfl,fun j hj=>absurd hj (not_lt_zero _),rfl⟩ (fun i σ H3 _ xU=>by obtain⟨_,_,_,_,o3,_⟩:=xU;exact o3.sq hx hp) ?_ ?_⟩
  ·rintro i v q σ H3 hv ⟨a,b,k,xP,o3,x3,d3,l3,v3,g3,rfl⟩ hq
   obtain⟨r,hri,t,l,rfl,hT⟩:=zO.get hR hv
   have hi:i < rs.length:=(gQ0 hri)
   have M8:rs.getD i ⟨0,0,none,[]⟩ = r:=by rw[getD_eq_getElem?_getD,hri];rfl
   have D3:GZ H3 t l r:=⟨o3 _ _ (aV hT.1 hx (by intro z;cases z)) hT.1,o3 _ _ (aV hT.2 hx (by intro z;cases z)) hT.2⟩
   have Bf:=o3.land hx hL
   have s4:xN H3 (upd H3 q (.tup [.int i, .ref t])):=(xN.refl H3).new hq
   refine⟨q,_,rfl,xV.of ac,rfl,_,_,rfl,_,_,rfl,rfl,?_⟩
   generalize upd H3 q (.tup [.int i, .ref t])=H4 at s4 ⊢
   have D4:xV K H4 t [.int r.p, .int r.g,cV r.c, .ref l]:=xV.of (s4 _ _ D3.1)
   refine⟨_,rfl,t,_,0,_,rfl,rfl,D4,aj (j:=0) rfl,_,rfl,t,_,1,_,rfl,rfl,D4,aj (j:=1) rfl,_,rfl,t,_,2,_,rfl,rfl,D4,aj (j:=2) rfl,by show 3 <= sizeLine;decide,fun kt hkt=>?_⟩
   have s5:xN H3 (upd H4 kt (.tup [.int r.p, .int r.g,cV r.c])):=s4.new hkt
   have k5:(upd H4 kt (.tup [.int r.p, .int r.g,cV r.c])) kt=some (.tup ((aK r).map gY)):=by rw[oP];exact ac
   generalize upd H4 kt (.tup [.int r.p, .int r.g,cV r.c])=H5 at s5 k5 ⊢
   refine⟨_,rfl,_,rfl,lx,yz,lt,t,l,n,ye,ps,r,rfl,⟨s5 _ _ Bf.1,s5 _ _ Bf.2.1,yk.same s5 Bf.2.2⟩,D3.same s5,Cg,(SU r (mem_of_getElem? hri)).2,fun H6 SV=>⟨_,rfl,?_⟩⟩
   have s6:=s5.trans SV
   have k6:=SV _ _ k5
   have x6:=s6 _ _ x3
   have d6:=d3.same s6
   have Em:mq n ps (rs.take i) r=true->False:=fun hb=>hE i (j7 hi g3 (by rw[M8];exact hb))
   cases hf:gA n ps r with
   | false =>
    exact aN (aN (Em (by rw[gH,hf];rfl)))
   | true =>
    refine aJ ⟨_,rfl,_,rfl,x,ts.told,dx,_,_,rfl,x6,B.cd,B.M5,rfl,de,_,rfl,⟨xP,aK r,kt,d6,rfl,k6,rfl⟩,_,rfl,?_⟩
    have eS:(c6 xP (aK r)).isSome=(rs.take i).any fun a=>decide (aK a=aK r):=by rw[v3,Option.isSome_map,kR]
    cases hS:(c6 xP (aK r)).isSome with
    | true =>
     exact aN (Em (by rw[gH,hf,← eS,hS];rfl))
    | false =>
     refine aJ ?_
     have Hl:=D3.same s6
     refine⟨_,rfl,t,_,3,_,rfl,rfl,xV.of Hl.1,aj (j:=3) rfl,l,r.s,rfl,xS.of Hl.2,(SU r (mem_of_getElem? hri)).1,?_⟩
     refine⟨_,rfl,x,ts.told,dx,_,_,rfl,x6,B.cd,B.M5,rfl,_,rfl,de,xP,aK r,kt,rfl,d6,rfl,k6,by rw[sizeLine_eq];omega,?_⟩
     have SW:x ≠ de:=M7
     refine⟨_,_,_,cF xP (aK r) kt (qO r),fun b' o hb e=>?_,?_,⟨ac,pE (F:=fun k a=>(upd H6 de (bF P w de (cF xP (aK r) kt (qO r)))) a=some (.tup (k.map gY))) (fun y hy=>?_) ?_⟩,?_,fun k'=>?_,fun j hj=>?_,rfl⟩
     ·rw[ae (ag e Jt)];exact s6 _ _ (o3 _ _ hb e)
     ·rw[ae M7];exact x6
     ·rw[ae (aV (d6.2 y hy) d6.1 (by intro z;cases z))];exact d6.2 y hy
     ·rw[ae (aV k6 d6.1 (by intro z;cases z))];exact k6
     ·exact le_trans io (Nat.succ_le_succ l3)
     ·rw[qm,take_succ,hri,Option.toList_some,n0,v3]
      by_cases hk:k' = aK r
      ·rw[if_pos hk,if_pos hk];rfl
      ·rw[if_neg hk,if_neg hk]
     ·rcases lt_or_ge j i with h | h
      ·exact g3 j h
      ·have:j=i:=by omega
       subst this
       rw[M8,gH,hf,← eS,hS];rfl
  ·rintro σ H3 ⟨a,b,k,xP,o3,x3,d3,l3,v3,g3,rfl⟩
   rw[hrs]at g3 v3
   rw[take_length]at v3
   exact hQ (fE g3) H3 de xP o3 x3 d3 v3
noncomputable def nV (ps:List Nat):List V:=ps.map fun q:Nat=>V.int (q:Int)
theorem c9 (ps:List Nat):(nV ps).length=ps.length:=by simp[nV]
theorem jj {ps:List Nat}{k q:Nat}(h:ps[k]? = some q):(nV ps)[k]? = some (V.int (q:Int)):=by simp[nV,h]
theorem kL (a b:List Nat):nV (a ++ b)=nV a ++ nV b:=by unfold nV;rw[map_append]
theorem xh {ps:List Nat}{v:V}(h:v ∈ nV ps):∃ q:Nat,q ∈ ps/\v = .int (q:Int):=by
 obtain⟨q,hq,e⟩:=mem_map.mp h
 exact⟨q,hq,e.symm⟩
noncomputable def mQ (c:Cs)(sel:Int × Int->Int):Sp:=fun vs H Q _=>∃ (x dx t:Addr)(n:Int)(ye:List V)(ps:List (Int × Int))(k:Nat)(pr:Int × Int),vs=[.ref x, .int k]/\eB H c x dx t n ye ps/\ps[k]? = some pr/\Q (.int (sel pr)) H
structure vm (K:Frag)(c:Cs)(f:Addr)(d:FuncData):Prop where
 m:bK K c.land "end_of" f
 b:Binds K d ["self", "lane"] []
theorem bP (a b:Int):decide (V.int a=V.int b)=decide (a=b):=by
 by_cases h:a=b
 ·rw[h];simp
 ·rw[decide_eq_false h,decide_eq_false fun z=>h (by injection z)]
theorem iF {n i:Nat}(h:i < n):uP n (i:Int)=some i:=by
 unfold uP
 rw[if_pos (by omega),if_pos (by omega),toNat_natCast]
noncomputable def mN (m:Nat):List Nat:=Yd.Dr m (Builtin.Int.intBits (m:Int))
theorem Ju:ar ["self", "lane"] ["self", "lane"] (al wu):=L2.yq
theorem wZ {c:Cs}{f:Addr}{fd:FuncData}(F:yn K "end_of" "Land.end_of" wu f fd)(L:m6 K c):xO P w K mg base aF 1 f fd ["self", "lane"] (mQ c Prod.snd):=by
 refine F.ok Ju (fun _ _ _ _ h=>?_) (fun _ _ _ s H _ Q E hr h=>?_)
 ·obtain⟨x,dx,t,n,ye,ps,k,pr,rfl,_⟩:=h
  rfl
 ·obtain⟨x,dx,t,n,ye,ps,k,pr,rfl,⟨hx,ht,hl⟩,hk,q⟩:=h
  refine⟨_,ak (au (ao av (ao av (am (pv 0) rfl) (pv 1) (fun _ _=>rfl)) ai (fun _ _=>rfl))),?_⟩
  obtain⟨v,hv,u,rfl,hu⟩:=yk.Bc hl hk
  refine⟨_,rfl,x,c.land,dx,_,_,rfl,hx,L.cl,L.nl,rfl,_,rfl,t,_,_,_,rfl,rfl,xV.of ht,aj hv,u,_,1,_,rfl,rfl,xV.of hu,aj (j:=1) rfl,q⟩
noncomputable def isI:V->Bool
 | .int _=>true
 | _=>false
noncomputable def jJ:V->Int->Int->Bool
 | .int i,a,b=>decide (a <= i/\i <= b)
 | _,_,_=>false
inductive qh:V->Prop
 | int (i:Int):qh (.int i)
 | bl (b:Bool):qh (.bl b)
 | yd:qh .yd
structure tH (K:Frag):Prop where
 ii:kitOne K (.type "int") (.type "int")=some true
 ib:kitOne K (.type "int") (.type "bool")=some false
 bi:kitOne K (.type "bool") (.type "int")=some true
 bb:kitOne K (.type "bool") (.type "bool")=some true
 ni:kitOne K (.type "NoneType") (.type "int")=some false
noncomputable def fT:Sp:=fun vs H Q _=>∃ v,vs=[v]/\qh v/\Q (.bl (isI v)) H
noncomputable def eV:Sp:=fun vs H Q _=>∃ (v:V)(a b:Int),vs=[v, .int a, .int b]/\qh v/\Q (.bl (jJ v a b)) H
noncomputable def mP (K:Frag):Sp:=fun vs H Q _=>∃ (a:Addr)(ns:List Int)(k:Nat),vs=[.ref a, .int k]/\xS K H a (ns.map V.int)/\∀ d,Q (.int d) H
noncomputable def oq:Sp:=fun vs H Q _=>∃ (c:Int)(k:Nat),vs=[.int c, .int k]/\k <= 1000000/\∀ d:Int,0 <= d->Q (.int d) H
theorem yk.imp {H H':Hp}(h:∀ v p,vk H v p->vk H' v p):∀ {vs:List V}{ps:List (Int × Int)},yk H vs ps->yk H' vs ps:=fun xU=>by
 induction xU with
 | nil=>exact .nil
 | cons z r ih=>exact .cons (h _ _ z) ih
noncomputable def hV:Option Int->V
 | none => .yd
 | some z => .int z
abbrev Fs:=List (Str × V)
noncomputable def iw (r b:Int)(h:V)(pa:Addr):Fs:=[("rights", .int r),("returning", .int b),("holder",h),("pieces", .ref pa)]
structure yj (H:Hp)(C x dx pa:Addr)(r b:Int)(h:Option Int)(xZ:List V)(qs:List (Int × Int)):Prop where
 ins:H x=some (.ins C dx (iw r b (hV h) pa))
 lst:H pa=some (.lst xZ)
 yR:yk H xZ qs
noncomputable def yT (x pa:Addr)(H H':Hp):Prop:=∀ a o,a ≠ x->a ≠ pa->H a=some o->H' a=some o
theorem yT.BN {C x dx pa:Addr}{fs:Fs}{xZ:List V}{H H':Hp}(h:yT x pa H H')(hx:H x=some (.ins C dx fs))(hp:H pa=some (.lst xZ)){vs:List V}{qs:List (Int × Int)}:yk H vs qs->yk H' vs qs :=
 yk.imp fun _ _ xU=>by obtain⟨t,e,q⟩:=xU;exact⟨t,e,h _ _ (aV q hx (by intro z;cases z)) (aV q hp (by intro z;cases z)) q⟩
theorem yj.same {H H':Hp}{C x dx pa:Addr}{r b:Int}{h:Option Int}{xZ:List V}{qs:List (Int × Int)}(L:yj H C x dx pa r b h xZ qs)(s:xN H H'):yj H' C x dx pa r b h xZ qs:=⟨s _ _ L.ins,s _ _ L.lst,yk.same s L.yR⟩
noncomputable def bX (r:Int)(h:Option Int)(l c:Int):Bool:=if r=0 then false else if c=0 then decide (h=none) else decide (h=some l)
theorem xt (h:Option Int):decide (hV h=V.yd)=decide (h=none):=by cases h<;>rfl
theorem xv (h:Option Int)(l:Int):decide (hV h=V.int l)=decide (h=some l):=by
 cases h with
 | none=>rfl
 | some z =>
  show decide (V.int z=V.int l)=_
  rw[bP]
  by_cases e:z=l
  ·rw[decide_eq_true e,decide_eq_true (by rw[e])]
  ·rw[decide_eq_false e,decide_eq_false fun q=>e (Option.some.inj q)]
theorem uQ (h:Option Int)(l:Int):vY (hV h) (.int l)=true:=by cases h<;>rfl
structure vM (K:Frag)(C:Addr):Prop where
 cl:Ao K C
 n1:yb K C "rights"
 n2:yb K C "returning"
 n3:yb K C "holder"
 n4:yb K C "pieces"
noncomputable def qI (C:Addr):Sp:=fun vs H Q _=>∃ (x dx:Addr)(room:Int),vs=[.ref x, .int room]/\H x=some (.ins C dx [])/\∀ (pa:Addr)(H':Hp),H pa=none->(∀ a o,a ≠ x->H a=some o->H' a=some o)->yj H' C x dx pa room 0 none [] []->Q .yd H'
noncomputable def ky (C:Addr):Sp:=fun vs H Q _=>∃ (x dx pa:Addr)(r b:Int)(h:Option Int)(l c:Int),vs=[.ref x, .int l, .int c]/\H x=some (.ins C dx (iw r b (hV h) pa))/\Q (.bl (bX r h l c)) H
noncomputable def vw (C:Addr):Sp:=fun vs H Q _=>∃ (x dx pa:Addr)(r b:Int)(h:Option Int)(xZ:List V)(qs:List (Int × Int))(l c:Int)(last:Bool),vs=[.ref x, .int l, .int c, .bl last]/\yj H C x dx pa r b h xZ qs/\xZ.length < 100000 /\
 (bX r h l c=false->False) /\
 (bX r h l c=true->∀ (t:Addr)(H':Hp),yT x pa H H'->yj H' C x dx pa (r - 1) b (if last then none else some l) (xZ ++ [.ref t]) (qs ++ [(l,c)])->Q .yd H')
noncomputable def nE:List V->V
 | [] => .yd
 | v :: _=>v
noncomputable def i8 (C:Addr):Sp:=fun vs H Q _=>∃ (x dx pa:Addr)(r b:Int)(h:Option Int)(xZ:List V)(qs:List (Int × Int)),vs=[.ref x]/\yj H C x dx pa r b h xZ qs/\Q (nE xZ) H
noncomputable def mI (C:Addr):Sp:=fun vs H Q _=>∃ (x dx pa:Addr)(r b:Int)(h:Option Int)(xZ:List V)(qs:List (Int × Int)),vs=[.ref x]/\yj H C x dx pa r b h xZ qs /\
 (xZ=[]->False) /\
 (∀ v rest,xZ=v :: rest->∀ H':Hp,yT x pa H H'->yj H' C x dx pa r (b + 1) h rest qs.tail->Q v H')
noncomputable def o0 (C:Addr):Sp:=fun vs H Q _=>∃ (x dx pa:Addr)(r b:Int)(h:Option Int)(xZ:List V)(qs:List (Int × Int)),vs=[.ref x]/\yj H C x dx pa r b h xZ qs /\
 (b=0->False) /\
 (b ≠ 0->∀ H':Hp,yT x pa H H'->yj H' C x dx pa (r + 1) (b - 1) h xZ qs->Q .yd H')
theorem OS (n:Nat):seqIndex? 0 (n + 1)=some 0:=by
 unfold seqIndex?
 simp
theorem jK {f:Addr}{fd:FuncData}(F:yn K "is_whole" "is_whole" fK f fd)(T:fR mg)(Z:tH K):xO P w K mg base aF 1 f fd ["value"] fT:=by
 refine F.ok oA (fun _ _ _ _ h=>?_) (fun _ _ _ s H _ Q E hr h=>?_)
 ·obtain⟨m,rfl,_⟩:=h
  rfl
 ·obtain⟨v,rfl,hv,q⟩:=h
  refine⟨_,ak (au (cr (aB dO rfl T.Ej PyProof.Rows.boot_isinstance (aa (pv 0) (aa (dB (v := .ty "int") rfl T.int PySem.Pv.boot_int rfl) ad)))
   (cG (kI (aB dO rfl T.Ej PyProof.Rows.boot_isinstance (aa (pv 0) (aa (dB (v := .ty "bool") rfl T.bool PySem.Pv.boot_bool rfl) ad))))))),?_⟩
  cases hv with
  | int i=>exact⟨_,rfl, .int i,_, "int",true,rfl, .int i,Z.ii,true,rfl,aN ⟨_,rfl, .int i,_, "bool",false,rfl, .int i,Z.ib,false,rfl,q⟩⟩
  | bl b=>exact⟨_,rfl, .bl b,_, "int",true,rfl, .bl b,Z.bi,true,rfl,aN ⟨_,rfl, .bl b,_, "bool",true,rfl, .bl b,Z.bb,true,rfl,q⟩⟩
  | yd=>exact⟨_,rfl, .yd,_, "int",false,rfl, .yd,Z.ni,false,rfl,aJ q⟩
theorem nk {f fh:Addr}{fd A0:FuncData}(F:yn K "is_within" "is_within" iC f fd)(T:fR mg)(Z:tH K)(mh:mg "is_whole" = some (.ref fh))(Fh:yn K "is_whole" "is_whole" fK fh A0)(bh:Binds K A0 ["value"] []) :
  xO P w K mg base aF 2 f fd ["value", "least", "most"] eV:=by
 have G:xO P w K mg base aF 1 fh A0 ["value"] fT:=jK Fh T Z
 refine F.ok lr (fun _ _ _ _ h=>?_) (fun _ _ _ s H _ Q E hr h=>?_)
 ·obtain⟨i,a,b,rfl,_⟩:=h
  rfl
 ·obtain⟨v,a,b,rfl,hv,q⟩:=h
  refine⟨_,ak (au (cr (az G hr rfl mh Fh.kp bh .nil ap (aa (pv 0) ad)) (cG (l8 oG oG (pv 1) (pv 0) (pv 2))))),?_⟩
  cases hv with
  | bl x=>exact⟨_,rfl,_,rfl, .bl x,false,rfl,aJ q⟩
  | yd=>exact⟨_,rfl,_,rfl, .yd,false,rfl,aJ q⟩
  | int i =>
   refine⟨_,rfl,_,rfl, .int i,true,rfl,aN ?_⟩
   refine⟨_,rfl,_,rfl,_,_,rfl,rfl,_,rfl,?_⟩
   have q:Q (V.bl (decide (a <= i/\i <= b))) H:=q
   by_cases h1:a <= i
   ·rw[decide_eq_true h1]
    refine aN ⟨_,rfl,_,_,rfl,rfl,?_⟩
    show Q (V.bl (decide (i <= b))) H
    by_cases h2:i <= b
    ·rw[decide_eq_true h2];rw[decide_eq_true ⟨h1,h2⟩]at q;exact q
    ·rw[decide_eq_false h2];rw[decide_eq_false fun z=>h2 z.2]at q;exact q
   ·rw[decide_eq_false h1]
    refine aJ ?_
    rw[decide_eq_false fun z=>h1 z.1]at q;exact q
theorem wf:ar ["_law_script", "_law_k"] ["_law_script", "_law_k"] (al rc):=L2.yq
theorem uI {f:Addr}{fd:FuncData}(F:yn K "_law_cell_at" "_law_cell_at" rc f fd)(T:fR mg):xO P w K mg base aF 1 f fd ["_law_script", "_law_k"] (mP K):=by
 refine F.ok wf (fun _ _ _ _ h=>?_) (fun _ _ _ s H _ Q E hr h=>?_)
 ·obtain⟨a,ns,k,rfl,_⟩:=h
  rfl
 ·obtain⟨a,ns,k,rfl,hS,q⟩:=h
  refine⟨_,af (aR (aw jI (pv 1) (aB aC rfl T.len PySem.boot_len (aa (pv 0) ad)) (ay _))
    (ak (au (ao aA (pv 0) (pv 1) (fun _ _=>rfl)))) aE) (ak (au ai)),?_⟩
  refine⟨_,rfl,_,rfl,a,_,rfl, .inl hS,_,_,rfl,rfl,_,rfl,?_⟩
  refine IE (fun h=>?_) fun _=>q _
  have h':(k:Int) < ((ns.map V.int).length:Nat):=of_decide_eq_true h
  rw[length_map]at h'
  have hk:k < ns.length:=by omega
  exact⟨_,rfl,_,rfl,a,_,k,V.int ns[k],rfl,rfl,hS,aj (by simp[hk]),q _⟩
theorem En:ar ["_law_cell", "_law_k", "_law_number"] ["_law_cell", "_law_k"] (al wn):=L2.yq
theorem wQ {f:Addr}{fd:FuncData}(F:yn K "_law_mixed" "_law_mixed" wn f fd):xO P w K mg base aF 1 f fd ["_law_cell", "_law_k"] oq:=by
 refine F.ok En (fun _ _ _ _ h=>?_) (fun _ _ _ s H _ Q E hr h=>?_)
 ·obtain⟨c,k,rfl,_⟩:=h
  rfl
 ·obtain⟨c,k,rfl,hk,q⟩:=h
  refine⟨_,af (aD (i:=2) En.nd rfl (Or.inl rfl) (ax bx (ax dE (ax bD (ax bD (ax bx (pv 0) ai) (ax dE ai (pv 1))) ai) ai) ai))
   (ak (au (ax bx (ax dE (pv 2) (ax bD (ax dY (pv 2) ai) ai)) ai))),?_⟩
  have pos:(0:Int) < 2147483647:=by decide
  refine⟨_,rfl,_,_,rfl,rfl,pos,_,rfl,_,_,rfl,rfl, .inl ⟨by decide,by decide⟩,_,_,rfl,rfl,_,_,rfl,rfl,_,_,rfl,rfl, .inr ⟨by decide,by decide⟩,_,_,rfl,rfl,pos,?_⟩
  dsimp only
  have h1:=emod_nonneg ((c % 2147483647 + 7919 * (k:Int) + 1) * 48271) (show (2147483647:Int) ≠ 0 by decide)
  have h2:=emod_lt_of_pos ((c % 2147483647 + 7919 * (k:Int) + 1) * 48271) pos
  generalize (c % 2147483647 + 7919 * (k:Int) + 1) * 48271 % 2147483647=m at h1 h2
  refine⟨_,rfl,_,rfl,_,_,rfl,rfl,⟨by decide,by decide⟩,_,_,rfl,rfl,_,_,rfl,rfl, .inl ⟨by omega,by omega⟩,_,_,rfl,rfl,pos,?_⟩
  exact q _ (emod_nonneg _ (by decide))
theorem Jv:ar ["self", "room"] ["self", "room"] (al wq):=L2.yq
theorem wV {C f:Addr}{fd:FuncData}(F:yn K "__init__" "Lane.__init__" wq f fd)(L:vM K C):xO P w K mg base aF 1 f fd ["self", "room"] (qI C):=by
 refine F.ok Jv (fun _ _ _ _ h=>?_) (fun _ _ _ s H _ Q E hr h=>?_)
 ·obtain⟨x,dx,room,rfl,_⟩:=h
  rfl
 ·obtain⟨x,dx,room,rfl,hx,q⟩:=h
  refine⟨_,af (aZ (pv 0) (pv 1) rfl) (af (aZ (pv 0) ai rfl) (af (aZ (pv 0) bH rfl) (ak (aZ (pv 0) (aP ad) rfl)))),?_⟩
  refine⟨_,rfl,_,rfl,x,C,dx,_,rfl,hx,L.cl,L.n1,by show 0 < 1000;decide,?_⟩
  refine⟨_,rfl,x,C,dx,_,rfl,ac,L.cl,L.n2,by show 1 < 1000;decide,?_⟩
  refine⟨_,rfl,x,C,dx,_,rfl,ac,L.cl,L.n3,by show 2 < 1000;decide,?_⟩
  refine⟨zero_le _,fun pa BO=>?_⟩
  have AK:x ≠ pa:=ag ac BO
  refine⟨_,rfl,x,C,dx,_,rfl,by rw[ae AK];exact ac,L.cl,L.n4,by show 3 < 1000;decide,?_⟩
  have D5:H pa=none:=by
   rw[ae (Ne.symm AK),ae (Ne.symm AK),ae (Ne.symm AK)]at BO
   exact BO
  refine q pa _ D5 (fun a o ha e=>?_) ⟨ac,by rw[ae (Ne.symm AK)];exact ac, .nil⟩
  have nap:a ≠ pa:=fun z=>by
   rw[z,D5]at e
   cases e
  rw[ae ha,ae nap,ae ha,ae ha,ae ha]
  exact e
theorem wd:ar ["self", "letter", "count"] ["self", "letter", "count"] (al qV):=L2.yq
theorem u9 {C f:Addr}{fd:FuncData}(F:yn K "open_to" "Lane.open_to" qV f fd)(L:vM K C):xO P w K mg base aF 1 f fd ["self", "letter", "count"] (ky C):=by
 refine F.ok wd (fun _ _ _ _ h=>?_) (fun _ _ _ s H _ Q E hr h=>?_)
 ·obtain⟨x,dx,pa,r,b,h,l,c,rfl,_⟩:=h
  rfl
 ·obtain⟨x,dx,pa,r,b,h,l,c,rfl,hx,q⟩:=h
  refine⟨_,af (aR (aw bG (am (pv 0) rfl) ai (ay _)) (ak (au eK)) aE)
   (af (aR (aw bG (pv 2) ai (ay _)) (ak (au (bU je (am (pv 0) rfl) bH (ay _)))) aE)
   (ak (au (bU bG (am (pv 0) rfl) (pv 1) (ay _))))),?_⟩
  refine⟨_,rfl,x,C,dx,_,_,rfl,hx,L.cl,L.n1,rfl,rfl,_,rfl,?_⟩
  rw[bP]
  unfold bX at q
  by_cases D6:r=0
  ·rw[decide_eq_true D6]
   rw[if_pos D6]at q
   exact aN q
  rw[decide_eq_false D6]
  rw[if_neg D6]at q
  refine aJ ⟨_,rfl,rfl,_,rfl,?_⟩
  rw[bP]
  by_cases Fu:c=0
  ·rw[decide_eq_true Fu]
   rw[if_pos Fu]at q
   refine aN ⟨_,rfl,x,C,dx,_,_,rfl,hx,L.cl,L.n3,rfl,rfl,?_⟩
   rw[xt]
   exact q
  ·rw[decide_eq_false Fu]
   rw[if_neg Fu]at q
   refine aJ ⟨_,rfl,x,C,dx,_,_,rfl,hx,L.cl,L.n3,rfl,_,rfl,uQ h l,?_⟩
   rw[xv]
   exact q
theorem Jw:ar ["self", "letter", "count", "last"] ["self", "letter", "count", "last"] (al wl):=L2.yq
theorem wM {C f fo:Addr}{fd Ad:FuncData}(F:yn K "put" "Lane.put" wl f fd)(L:vM K C)(mo:bK K C "open_to" fo)(bo:Binds K Ad ["self", "letter", "count"] [])(Go:xO P w K mg base aF 1 fo Ad ["self", "letter", "count"] (ky C)) :
  xO P w K mg base aF 2 f fd ["self", "letter", "count", "last"] (vw C):=by
 refine F.ok Jw (fun _ _ _ _ h=>?_) (fun _ _ _ s H _ Q E hr h=>?_)
 ·obtain⟨x,dx,pa,r,b,h,xZ,qs,l,c,last,rfl,_⟩:=h
  rfl
 ·obtain⟨x,dx,pa,r,b,h,xZ,qs,l,c,last,rfl,hL,hlen,h1,h2⟩:=h
  refine⟨_,af (aR (bM (b9 (aI (pv 0) L.cl mo Go hr bo .nil ap (aa (pv 1) (aa (pv 2) ad))))) (ak b6) aE)
   (af (dI (pv 0) ai oV)
   (af (aU (cp plainAttrs_list PySem.F.slot_list_append PySem.F.type_list_append b0 (am (pv 0) rfl) (aa (aW (aa (pv 1) (aa (pv 2) ad))) ad)))
   (ak (aZ (pv 0) (cY (b9 (pv 3)) bH (pv 1)) rfl)))),?_⟩
  refine⟨_,rfl,x,dx,_,rfl,hL.ins,rfl,_,rfl,_,rfl,x,dx,pa,r,b,h,l,c,rfl,hL.ins,_,rfl,?_⟩
  cases ho:bX r h l c with
  | false =>
   exact aN (h1 ho)
  | true =>
   refine aJ ?_
   refine⟨_,rfl,x,C,dx,_,_,rfl,hL.ins,L.cl,L.n1,rfl,_,_,rfl,rfl,dx,_,hL.ins,by show 4 < 1000;decide,?_⟩
   have AK:pa ≠ x:=aV hL.lst hL.ins (by intro z;cases z)
   have zi:(upd H x (.ins C dx (aO "rights" (.int (r - 1)) (iw r b (hV h) pa)))) x=some (.ins C dx (iw (r - 1) b (hV h) pa)):=ac
   have yo:(upd H x (.ins C dx (aO "rights" (.int (r - 1)) (iw r b (hV h) pa)))) pa=some (.lst xZ):=by rw[ae AK];exact hL.lst
   have o1:yT x pa H (upd H x (.ins C dx (aO "rights" (.int (r - 1)) (iw r b (hV h) pa)))):=fun a o ha _ e=>by rw[ae ha];exact e
   show _
   generalize upd H x (.ins C dx (aO "rights" (.int (r - 1)) (iw r b (hV h) pa)))=H1 at zi yo o1 ⊢
   refine⟨_,rfl,x,C,dx,_,_,rfl,zi,L.cl,L.n4,rfl, .inl ⟨rfl,_,xS.of yo⟩,_,rfl,_,rfl,by show 2 <= sizeLine;decide,fun t ht=>?_⟩
   have s2:=(xN.refl H1).new (o := .tup [.int l, .int c]) ht
   have gt:(upd H1 t (.tup [.int l, .int c])) t=some (.tup [.int l, .int c]):=ac
   generalize upd H1 t (.tup [.int l, .int c])=H2 at s2 gt ⊢
   refine⟨pa,xZ,_,rfl,rfl,s2 _ _ yo,by rw[sizeLine_eq];omega,?_⟩
   have M9:(upd H2 pa (.lst (xZ ++ [.ref t]))) x=some (.ins C dx (iw (r - 1) b (hV h) pa)):=by rw[ae (Ne.symm AK)];exact s2 _ _ zi
   have Hm:(upd H2 pa (.lst (xZ ++ [.ref t]))) pa=some (.lst (xZ ++ [.ref t])):=ac
   have o3:yT x pa H (upd H2 pa (.lst (xZ ++ [.ref t]))):=fun a o ha hb e=>by rw[ae hb];exact s2 _ _ (o1 a o ha hb e)
   have ntp:t ≠ pa:=aV gt (s2 _ _ yo) (by intro z;cases z)
   have Eo:(upd H2 pa (.lst (xZ ++ [.ref t]))) t=some (.tup [.int l, .int c]):=by rw[ae ntp];exact gt
   generalize upd H2 pa (.lst (xZ ++ [.ref t]))=H3 at M9 Hm o3 Eo ⊢
   have ntx:t ≠ x:=aV Eo M9 (by intro z;cases z)
   have fin:∀ h':Option Int,yj (upd H3 x (.ins C dx (aO "holder" (hV h') (iw (r - 1) b (hV h) pa)))) C x dx pa (r - 1) b h' (xZ ++ [.ref t]) (qs ++ [(l,c)]):=fun h' =>
    ⟨ac,by rw[ae AK];exact Hm,yk.snoc ⟨t,rfl,by rw[ae ntx];exact Eo⟩ (yT.BN (fun a o ha hb e=>by rw[ae ha];exact o3 a o ha hb e) hL.ins hL.lst hL.yR)⟩
   have off:∀ o',yT x pa H (upd H3 x o'):=fun o' a o ha hb e=>by rw[ae ha];exact o3 a o ha hb e
   refine⟨_,rfl,_,rfl,?_⟩
   cases last with
   | true=>exact aN ⟨_,rfl,x,C,dx,_,rfl,M9,L.cl,L.n3,by show 4 < 1000;decide,h2 ho t _ (off _) (fin none)⟩
   | false=>exact aJ ⟨_,rfl,_,rfl,x,C,dx,_,rfl,M9,L.cl,L.n3,by show 4 < 1000;decide,h2 ho t _ (off _) (fin (some l))⟩
theorem ua:ar ["self"] ["self"] (al mZ):=L2.yq
theorem rP {C f:Addr}{fd:FuncData}(F:yn K "front" "Lane.front" mZ f fd)(L:vM K C):xO P w K mg base aF 1 f fd ["self"] (i8 C):=by
 refine F.ok ua (fun _ _ _ _ h=>?_) (fun _ _ _ s H _ Q E hr h=>?_)
 ·obtain⟨x,dx,pa,r,b,h,xZ,qs,rfl,_⟩:=h
  rfl
 ·obtain⟨x,dx,pa,r,b,h,xZ,qs,rfl,hL,q⟩:=h
  refine⟨_,ak (au (cY (ja (am (pv 0) rfl) (fun _=>rfl)) (ao aA (am (pv 0) rfl) ai (fun _ _=>rfl)) bH)),?_⟩
  refine⟨_,rfl,x,C,dx,_,_,rfl,hL.ins,L.cl,L.n4,rfl,_, .inl ⟨_,xS.of hL.lst,rfl⟩,?_⟩
  cases xZ with
  | nil=>exact aJ q
  | cons v rest=>exact aN ⟨_,rfl,x,C,dx,_,_,rfl,hL.ins,L.cl,L.n4,rfl,pa,_,0,v,rfl,rfl,xS.of hL.lst,aj (j:=0) rfl,q⟩
theorem vZ:ar ["self"] ["self"] (al qR):=L2.yq
theorem u5 {C f:Addr}{fd:FuncData}(F:yn K "pull" "Lane.pull" qR f fd)(L:vM K C):xO P w K mg base aF 1 f fd ["self"] (mI C):=by
 refine F.ok vZ (fun _ _ _ _ h=>?_) (fun _ _ _ s H _ Q E hr h=>?_)
 ·obtain⟨x,dx,pa,r,b,h,xZ,qs,rfl,_⟩:=h
  rfl
 ·obtain⟨x,dx,pa,r,b,h,xZ,qs,rfl,hL,h1,h2⟩:=h
  refine⟨_,af (aR (bM (ja (am (pv 0) rfl) (fun _=>rfl))) (ak b6) aE)
   (af (dI (pv 0) ai kW)
   (ak (au (cp plainAttrs_list PySem.F.slot_list_pop PySem.F.type_list_pop rW (am (pv 0) rfl) (aa ai ad))))),?_⟩
  refine⟨_,rfl,x,C,dx,_,_,rfl,hL.ins,L.cl,L.n4,rfl,_, .inl ⟨_,xS.of hL.lst,rfl⟩,?_⟩
  have AK:pa ≠ x:=aV hL.lst hL.ins (by intro z;cases z)
  cases xZ with
  | nil =>
   exact aN (h1 rfl)
  | cons v rest =>
   refine aJ ?_
   refine⟨_,rfl,x,C,dx,_,_,rfl,hL.ins,L.cl,L.n2,rfl,_,_,rfl,rfl,dx,_,hL.ins,by show 4 < 1000;decide,?_⟩
   have zi:(upd H x (.ins C dx (aO "returning" (.int (b + 1)) (iw r b (hV h) pa)))) x=some (.ins C dx (iw r (b + 1) (hV h) pa)):=ac
   have yo:(upd H x (.ins C dx (aO "returning" (.int (b + 1)) (iw r b (hV h) pa)))) pa=some (.lst (v :: rest)):=by rw[ae AK];exact hL.lst
   have o1:yT x pa H (upd H x (.ins C dx (aO "returning" (.int (b + 1)) (iw r b (hV h) pa)))):=fun a o ha _ e=>by rw[ae ha];exact e
   show _
   generalize upd H x (.ins C dx (aO "returning" (.int (b + 1)) (iw r b (hV h) pa)))=H1 at zi yo o1 ⊢
   refine⟨_,rfl,x,C,dx,_,_,rfl,zi,L.cl,L.n4,rfl, .inl ⟨rfl,_,xS.of yo⟩,pa,v :: rest,0,0,v,rfl,rfl,yo,by decide,by decide,OS _,rfl,?_⟩
   have o2:yT x pa H (upd H1 pa (.lst rest)):=fun a o ha hb e=>by rw[ae hb];exact o1 a o ha hb e
   refine h2 v rest rfl _ o2 ⟨by rw[ae (Ne.symm AK)];exact zi,ac,?_⟩
   have z:=yT.BN o2 hL.ins hL.lst hL.yR
   cases z with
   | cons _ t=>exact t
theorem ub:ar ["self"] ["self"] (al nc):=L2.yq
theorem rS {C f:Addr}{fd:FuncData}(F:yn K "bring" "Lane.bring" nc f fd)(L:vM K C):xO P w K mg base aF 1 f fd ["self"] (o0 C):=by
 refine F.ok ub (fun _ _ _ _ h=>?_) (fun _ _ _ s H _ Q E hr h=>?_)
 ·obtain⟨x,dx,pa,r,b,h,xZ,qs,rfl,_⟩:=h
  rfl
 ·obtain⟨x,dx,pa,r,b,h,xZ,qs,rfl,hL,h1,h2⟩:=h
  refine⟨_,af (aR (aw bG (am (pv 0) rfl) ai (ay _)) (ak b6) aE)
   (af (dI (pv 0) ai oV) (ak (dI (pv 0) ai kW))),?_⟩
  refine⟨_,rfl,x,C,dx,_,_,rfl,hL.ins,L.cl,L.n2,rfl,rfl,_,rfl,?_⟩
  have AK:pa ≠ x:=aV hL.lst hL.ins (by intro z;cases z)
  rw[bP]
  by_cases MA:b=0
  ·rw[decide_eq_true MA]
   exact aN (h1 MA)
  ·rw[decide_eq_false MA]
   refine aJ ?_
   refine⟨_,rfl,x,C,dx,_,_,rfl,hL.ins,L.cl,L.n2,rfl,_,_,rfl,rfl,dx,_,hL.ins,by show 4 < 1000;decide,?_⟩
   have zi:(upd H x (.ins C dx (aO "returning" (.int (b - 1)) (iw r b (hV h) pa)))) x=some (.ins C dx (iw r (b - 1) (hV h) pa)):=ac
   have o1:yT x pa H (upd H x (.ins C dx (aO "returning" (.int (b - 1)) (iw r b (hV h) pa)))):=fun a o ha _ e=>by rw[ae ha];exact e
   have yo:(upd H x (.ins C dx (aO "returning" (.int (b - 1)) (iw r b (hV h) pa)))) pa=some (.lst xZ):=by rw[ae AK];exact hL.lst
   show _
   generalize upd H x (.ins C dx (aO "returning" (.int (b - 1)) (iw r b (hV h) pa)))=H1 at zi yo o1 ⊢
   refine⟨_,rfl,x,C,dx,_,_,rfl,zi,L.cl,L.n1,rfl,_,_,rfl,rfl,dx,_,zi,by show 4 < 1000;decide,?_⟩
   have o2:∀ o',yT x pa H (upd H1 x o'):=fun o' a o ha hb e=>by rw[ae ha];exact o1 a o ha hb e
   exact h2 MA _ (o2 _) ⟨ac,by rw[ae AK];exact yo,yT.BN (o2 _) hL.ins hL.lst hL.yR⟩
noncomputable def oH (m:Nat)(yi:List V):Bool:=decide (yi.length=m) && yi.all fun v=>jJ v 1 60
noncomputable def Sq (K:Frag)(H:Hp)(a:Addr)(xs:List V):Prop:=xS K H a xs∨xV K H a xs
noncomputable def oi (K:Frag)(c:Cs):Sp:=fun vs H Q _=>∃ (lx yz lt:Addr)(n:Int)(ye:List V)(ps:List (Int × Int))(rv:V),vs=[.ref lx,rv]/\eB H c lx yz lt n ye ps/\ps.length <= 1000 /\
 ((rv = .yd/\∀ t H',xN H H'->H' t=some (.tup (List.replicate ps.length (.int 1)))->Q (.ref t) H') ∨
  (∃ ra yi,rv = .ref ra/\Sq K H ra yi/\yi.length <= 1000/\(∀ v ∈ yi,qh v)/\(oH ps.length yi=false->False)/\(oH ps.length yi=true->∀ t H',xN H H'->xV K H' t yi->Q (.ref t) H')))
noncomputable def xr (s:Stmt):Scope:=match s with
 | .If _ (.Return (some (.Call _ [.ListComp _ _ sc _] _ _)) _ :: _) _ _=>sc
 | _=>zQ0
noncomputable def wD (s:Stmt):Scope:=match s with
 | .If (.BoolOp _ [_, .UnaryOp _ (.Call _ [.ListComp _ _ sc _] _ _) _] _) _ _ _=>sc
 | _=>zQ0
noncomputable def MB:V->Bool
 | .int i=>decide ((if i < 0 then -i else i) < 10 ^ (60:Int).toNat)
 | _=>false
noncomputable def qz:Sp:=fun vs H Q _=>∃ v,vs=[v]/\qh v/\Q (.bl (MB v)) H
theorem bz {K:Frag}{H H':Hp}{a:Addr}{xs:List V}(e:xN H H')(h:xV K H a xs):xV K H' a xs:=by
 rcases h with h | h
 ·refine .inl ?_
  rcases h with h | ⟨o,h⟩
  ·exact .inl (e _ _ h)
  ·exact .inr ⟨o,e _ _ h⟩
 ·exact .inr h
theorem Jx {X:Cx}{tg it:Expr}{a b:TI}(h1:PI X tg it a)(h2:PI X tg it b):PI X tg it (fun σ H R=>a σ H R∨b σ H R):=fun pins s σ H R I h=>h.elim (h1 pins s σ H R I) (h2 pins s σ H R I)
theorem lT {J:It}{xs:List V}{g:TG}{te:TE}{σ0:St}{H:Hp}{Q:VK}(f:V->V)(hn:xs.length < sizeLine)(Jy:∀ i,i < xs.length->J.go i H)(An:J.stop xs.length H)(hy:∀ i x H',J.CS i H x H'->H' = H/\xs[i]? = some x)
  (hs:∀ (x:V)(N:V->Hp->Prop),x ∈ xs->N (f x) H->g x σ0 H fun σ2 H2=>te σ2 H2 N)
  (hq:∀ D,H D=none->Q (.ref D) (upd H D (.lst (xs.map f)))):cQ J g j4 te σ0 Q H:=by
 refine b8 xs.length hn (fun i acc H'=>H' = H/\acc=(xs.take i).map f) ⟨rfl,rfl⟩ (fun i acc H' h=>by rw[h.2,length_map];exact length_take_le _ _) (fun i acc H' hi h=>?_) (fun acc H' h=>?_)
 ·obtain⟨rfl,rfl⟩:=h
  refine⟨Jy i hi,fun v H2 y=>?_⟩
  obtain⟨e,hx⟩:=hy i v H2 y
  subst e
  exact hs v (fun y H4=>H4=H2/\(xs.take i).map f ++ [y]=(xs.take (i + 1)).map f) (mem_of_getElem? hx) ⟨rfl,by rw[take_succ,hx,map_append];rfl⟩
 ·obtain⟨rfl,rfl⟩:=h
  rw[take_length]
  exact⟨An,hq⟩
theorem xy {K:Frag}{a:Addr}{xs:List V}{g:TG}{te:TE}{σ0:St}{H:Hp}{Q:VK}(f:V->V)(hn:xs.length < sizeLine)(ha:xS K H a xs)(hs:∀ (x:V) (N:V->Hp->Prop),x ∈ xs->N (f x) H->g x σ0 H fun σ2 H2=>te σ2 H2 N)
  (hq:∀ D,H D=none->Q (.ref D) (upd H D (.lst (xs.map f)))):cQ (tL K a) g j4 te σ0 Q H :=
 lT f hn (fun i hi=>⟨xs,xs[i],ha,by simp[hi]⟩) ⟨xs,ha,le_refl _⟩ (fun i x H' y=>⟨y.1,y.2 xs ha⟩) hs hq
theorem sW {K:Frag}{a:Addr}{xs:List V}{g:TG}{te:TE}{σ0:St}{H:Hp}{Q:VK}(f:V->V)(hn:xs.length < sizeLine)(ha:xV K H a xs)(hs:∀ (x:V) (N:V->Hp->Prop),x ∈ xs->N (f x) H->g x σ0 H fun σ2 H2=>te σ2 H2 N)
  (hq:∀ D,H D=none->Q (.ref D) (upd H D (.lst (xs.map f)))):cQ (HZ K a) g j4 te σ0 Q H :=
 lT f hn (fun i hi=>⟨xs,xs[i],ha,by simp[hi]⟩) ⟨xs,ha,le_refl _⟩ (fun i x H' y=>⟨y.1,y.2 xs ha⟩) hs hq
theorem OT:ar ["land", "rooms"] ["land", "rooms"] (al fL):=L2.yq
theorem OU:yK ["land", "rooms"] (al fL) (xr ((aG fL).getD 0 (.Pass ⟨0,0,0,0⟩))) [] []:=L2.zA
theorem OV:yK ["land", "rooms"] (al fL) (wD ((aG fL).getD 1 (.Pass ⟨0,0,0,0⟩))) [] []:=L2.zA
theorem OW:(["lane"]:List Str).Nodup:=by decide +kernel
theorem Jz:(["room"]:List Str).Nodup:=by decide +kernel
theorem rJ {c:Cs}{f fw:Addr}{fd dw:FuncData}{t1:Tok}(F:yn K "rooms_of" "rooms_of" fL f fd)(T:fR mg)(L:m6 K c)
  (mw:mg "is_within" = some (.ref fw)) (kw:keepIn K (.ref fw)=true) (bw:Binds K dw ["value", "least", "most"] []) (Gw:xO P w K mg base aF 2 fw dw ["value", "least", "most"] eV) (mp:mg "MOST_ROOM" = some (.int 60 t1)) :
  xO P w K mg base aF 3 f fd ["land", "rooms"] (oi K c):=by
 refine F.ok OT (fun _ _ _ _ h=>?_) (fun _ _ _ s H _ Q E hr h=>?_)
 ·obtain⟨lx,yz,lt,n,ye,ps,rv,rfl,_⟩:=h
  rfl
 ·obtain⟨lx,yz,lt,n,ye,ps,rv,rfl,hL,zm,hh⟩:=h
  refine⟨_,af (aR (aw je (pv 1) bH (ay _)) (ak (au (aY ce rfl T.tuple PySem.Pv.boot_tuple (aa (bv (own:=["lane"]) (capN:=[]) (cap:=[]) OU rfl (jb (am (pv 0) rfl))
     (fun C s' H' fp=>⟨aq (i:=0) OW rfl (Or.inl rfl),bT,ai⟩)) ad)))) aE)
   (af (aR (kE (PW.pt (fD (aw iq (aB aC rfl T.len PySem.boot_len (aa (pv 1) ad)) (aB aC rfl T.len PySem.boot_len (aa (am (pv 0) rfl) ad)) (ay _))
     (dW (bM (b9 (aB (jw rfl) rfl T.all PyProof.Rows.boot_all (aa (bv (own:=["room"]) (capN:=[]) (cap:=[]) OV rfl (Jx (bA (pv 1)) (jb (pv 1)))
      (fun C s' H' fp=>⟨aq (i:=0) Jz rfl (Or.inl rfl),bT,az Gw hr rfl mw kw bw .nil ap (aa (pv 0) (aa ai (aa (eY (v := .int 60) rfl mp ⟨_,rfl⟩) ad)))⟩)) ad))))))))
    (ak b6) aE)
   (ak (au (aY ce rfl T.tuple PySem.Pv.boot_tuple (aa (pv 1) ad))))),?_⟩
  have AA:ye.length=ps.length:=Paired.length hL.2.2
  refine⟨_,rfl,rfl,_,rfl,?_⟩
  rcases hh with ⟨rfl,q⟩ | ⟨ra,yi,rfl,hR,zj,J0,qE,q⟩
  ·refine aN ⟨_,rfl,lx,c.land,yz,_,_,rfl,hL.1,L.cl,L.nl,rfl,lt,rfl,⟨_,xV.of hL.2.1⟩,?_⟩
   refine sW (fun _ => .int 1) (by rw[sizeLine_eq];omega) (xV.of hL.2.1) (fun x N hx h=>h) (fun D hD=>?_)
   have s1:=(xN.refl H).new (o := .lst (ye.map fun _=>V.int 1)) hD
   refine⟨D,_,rfl, .inl ⟨xS.of ac,fun t ht=>q t _ (s1.new ht) ?_⟩⟩
   rw[ac,List.map_const',AA]
  ·refine aJ ?_
   have len1:∀ {H:Hp},Sq K H ra yi->(xS K H ra yi∨xV K H ra yi):=fun h=>h
   refine⟨fun b H'=>xN H H'/\b = !oH ps.length yi,?_,?_⟩
   ·refine⟨_,rfl,ra,yi,rfl,hR,_,rfl,lx,c.land,yz,_,_,rfl,hL.1,L.cl,L.nl,rfl,lt,_,rfl, .inr (xV.of hL.2.1),rfl,_,rfl,?_⟩
    rw[bP,AA]
    by_cases SX:yi.length=ps.length
    rotate_left
    ·rw[decide_eq_false (show ¬ ((yi.length:Nat):Int)=(ps.length:Nat) by omega)]
     refine aN ⟨xN.refl H,?_⟩
     unfold oH
     rw[decide_eq_false SX];rfl
    rw[decide_eq_true (show((yi.length:Nat):Int)=(ps.length:Nat) by omega)]
    have step:∀ (x:V)(N:V->Hp->Prop),x ∈ yi->N (.bl (jJ x 1 60)) H->qh x:=fun x _ hx _=>J0 x hx
    have fin:∀ D,H D=none->∃ (p:Addr)(bs:List Bool),[V.ref D]=[.ref p]/\xS K (upd H D (.lst (yi.map fun v=>V.bl (jJ v 1 60)))) p (bs.map V.bl)/\∃ cc,V.bl (bs.all id) = .bl cc/\(xN H (upd H D (.lst (yi.map fun v=>V.bl (jJ v 1 60))))/\(!cc) = !oH ps.length yi):=fun D hD=>by
     refine⟨D,yi.map fun v=>jJ v 1 60,rfl,xS.of (by rw[ac,map_map];rfl),_,rfl,(xN.refl H).new hD,?_⟩
     unfold oH
     rw[decide_eq_true SX,Bool.true_and,all_map];rfl
    refine aJ ?_
    rcases hR with hR | hR
    ·refine .inl ⟨_,rfl,ra,rfl,⟨_,hR⟩,?_⟩
     exact xy (fun v => .bl (jJ v 1 60)) (by rw[sizeLine_eq];omega) hR (fun x N hx h=>⟨_,rfl,x,1,60,rfl,J0 x hx,h⟩) fin
    ·refine .inr ⟨_,rfl,ra,rfl,⟨_,hR⟩,?_⟩
     exact sW (fun v => .bl (jJ v 1 60)) (by rw[sizeLine_eq];omega) hR (fun x N hx h=>⟨_,rfl,x,1,60,rfl,J0 x hx,h⟩) fin
   rintro b H' ⟨s',rfl⟩
   cases xY:oH ps.length yi with
   | false=>exact aN (qE xY)
   | true =>
    refine aJ ⟨_,rfl,ra,yi,rfl,?_⟩
    rcases hR with hR | hR
    ·exact .inl ⟨s'.seq hR,fun t ht=>q xY t _ (s'.new ht) (xV.of ac)⟩
    ·exact .inr ⟨bz s' hR,q xY ra _ s' (bz s' hR)⟩
theorem OX:ar ["word"] ["word"] (al qP):=L2.yq
theorem ux {f fh:Addr}{fd dh:FuncData}(F:yn K "is_word" "is_word" qP f fd)(T:fR mg)(mh:mg "is_whole" = some (.ref fh))(kh:keepIn K (.ref fh)=true)(bh:Binds K dh ["value"] [])(G:xO P w K mg base aF 1 fh dh ["value"] fT) :
  xO P w K mg base aF 2 f fd ["word"] qz:=by
 refine F.ok OX (fun _ _ _ _ h=>?_) (fun _ _ _ s H _ Q E hr h=>?_)
 ·obtain⟨v,rfl,_⟩:=h
  rfl
 ·obtain⟨v,rfl,hv,q⟩:=h
  refine⟨_,ak (au (cr (az G hr rfl mh kh bh .nil ap (aa (pv 0) ad)) (cG (bU jI (aB tf rfl T.abs PyProof.Rows.boot_abs (aa (pv 0) ad)) (ax wF ai ai) (ay _))))),?_⟩
  cases hv with
  | int i=>exact⟨_,rfl,_,rfl, .int i,true,rfl,aN ⟨_,rfl,i,rfl,_,_,rfl,rfl,⟨by decide,by decide,by decide⟩,_,_,rfl,rfl,q⟩⟩
  | bl b=>exact⟨_,rfl,_,rfl, .bl b,false,rfl,aJ q⟩
  | yd=>exact⟨_,rfl,_,rfl, .yd,false,rfl,aJ q⟩
abbrev Wf:=Nat->Nat->Option Nat->List Nat
abbrev TJ:=Hp->Addr->Nat->Wf->Prop
noncomputable def NL:HO->Prop
 | .lst _=>False
 | .ins _ _ []=>False
 | .DV _=>False
 | _=>True
noncomputable def yg (H H':Hp):Prop:=∀ b o,H b=some o->NL o->H' b=some o
theorem xN.xX {H H':Hp}(s:xN H H'):yg H H':=fun b o e _=>s b o e
theorem yg.trans {H H1 H2:Hp}(a:yg H H1)(b:yg H1 H2):yg H H2:=fun x o e n=>b x o (a x o e n) n
theorem yg.BN {H H':Hp}(k:yg H H'){vs:List V}{ps:List (Int × Int)}(h:yk H vs ps):yk H' vs ps:=yk.imp (fun _ _ ⟨t,e,q⟩=>⟨t,e,k _ _ q True.intro⟩) h
structure yC (c:Cs)(C:Addr)(J:TJ)(H:Hp)(x lx yz lt:Addr)(n:Nat)(ye:List V)(ps:List (Int × Int))(wy:Wf):Prop where
 j:J H x n wy
 i:∃ dx fs,H x=some (.ins C dx fs)/\fs.lookup ("land":Str)=some (.ref lx)/\fs.lookup ("ways":Str)=none
 l:eB H c lx yz lt (n:Int) ye ps
 MC:n <= 12
 yI:ps.length <= 40
 ok:∀ p g k,p < n->g < n->∀ z ∈ wy p g k,z < ps.length
structure Wy (K:Frag)(C fw:Addr)(dw:FuncData)(J:TJ):Prop where
 cl:Ao K C
 nl:yb K C "land"
 m:bK K C "ways" fw
 b:Binds K dw ["self", "place", "goal", "came"] []
 zc:∀ H H' x n wy,J H x n wy->yg H H'->J H' x n wy
theorem yC.keep {K:Frag}{c:Cs}{C fw:Addr}{dw:FuncData}{J:TJ}{H H':Hp}{x lx yz lt:Addr}{n:Nat}{ye:List V}{ps:List (Int × Int)}{wy:Wf}(W:Wy K C fw dw J)(h:yC c C J H x lx yz lt n ye ps wy)(k:yg H H'):yC c C J H' x lx yz lt n ye ps wy :=
 ⟨W.zc _ _ _ _ _ h.j k,let ⟨dx,fs,h1,h2⟩:=h.i; ⟨dx,fs,k _ _ h1 (by cases fs with | nil=>cases h2.1 | cons _ _=>exact True.intro),h2⟩,⟨k _ _ h.l.1 True.intro,k _ _ h.l.2.1 True.intro,k.BN h.l.2.2⟩,h.MC,h.yI,h.ok⟩
noncomputable def fU (J:TJ):Sp:=fun vs H Q _=>∃ (x:Addr)(n:Nat)(wy:Wf)(p g:Nat)(k:Option Nat),vs=[.ref x, .int p, .int g,cV k]/\J H x n wy/\p < n/\g < n/\∀ (D:Addr)(H':Hp),xN H H'->H D=none->H' D=some (.lst (nV (wy p g k)))->Q (.ref D) H'
structure yr where
 r:Int
 b:Int
 h:Option Int
 qs:List (Int × Int)
structure cu where
 start:Int
 goal:Int
 len:Int
 word:Int
 gone:Int
 way:List Nat
structure YS where
 rooms:List V
 lanes:List yr
 xM:List cu
 lies:List (List (Int × Int))
 done:List (List V)
structure Ys where
 xR:Addr
 yh:Addr
 xQ:Addr
 ex:List Addr
noncomputable def zP (H:Hp)(C:Addr)(ex:List Addr)(v:V)(s:yr):Prop:=∃ x dx pa xZ,v = .ref x/\yj H C x dx pa s.r s.b s.h xZ s.qs/\pa ∉ ex
noncomputable def nv (s:cu)(wa:Addr):Fs:=[("start", .int s.start),("goal", .int s.goal),("length", .int s.len),("word", .int s.word),("gone", .int s.gone),("way", .ref wa)]
noncomputable def Av (H:Hp)(C:Addr)(ex:List Addr)(v:V)(s:cu):Prop:=∃ x dx wa,v = .ref x/\H x=some (.ins C dx (nv s wa))/\H wa=some (.lst (nV s.way))/\wa ∉ ex
noncomputable def yX (H:Hp)(v:V)(qs:List (Int × Int)):Prop:=∃ t vs,v = .ref t/\H t=some (.tup vs)/\yk H vs qs
noncomputable def y8 (H:Hp)(v:V)(m:List V):Prop:=∃ t,v = .ref t/\H t=some (.tup m)
theorem Paired.mono {α β:Type}{R R':α->β->Prop}(h:∀ a b,R a b->R' a b):∀ {as:List α}{bs:List β},Paired R as bs->Paired R' as bs:=fun xU=>by
 induction xU with
 | nil=>exact .nil
 | cons x r ih=>exact .cons (h _ _ x) ih
theorem Paired.snoc {α β:Type}{R:α->β->Prop}{a:α}{b:β}(h:R a b):∀ {as:List α}{bs:List β},Paired R as bs->Paired R (as ++ [a]) (bs ++ [b]):=fun xU=>by
 induction xU with
 | nil=>exact .cons h .nil
 | cons x r ih=>exact .cons x ih
theorem Paired.at {α β:Type}{R:α->β->Prop}:∀ {as:List α}{bs:List β}{i:Nat}{a:α},Paired R as bs->as[i]? = some a->∃ b,bs[i]? = some b/\R a b:=by
 intro _ _ i _ xU
 induction xU generalizing i with
 | nil=>intro h;cases h
 | cons x r ih =>
  intro h
  cases i with
  | zero=>cases h;exact⟨_,rfl,x⟩
  | succ i=>exact ih (i:=i) h
theorem Paired.at2 {α β:Type}{R:α->β->Prop}:∀ {as:List α}{bs:List β}{i:Nat}{b:β},Paired R as bs->bs[i]? = some b->∃ a,as[i]? = some a/\R a b:=by
 intro _ _ i _ xU
 induction xU generalizing i with
 | nil=>intro h;cases h
 | cons x r ih =>
  intro h
  cases i with
  | zero=>cases h;exact⟨_,rfl,x⟩
  | succ i=>exact ih (i:=i) h
noncomputable def yc (ex:List Addr)(H H':Hp):Prop:=∀ b o,b ∉ ex->H b=some o->H' b=some o
theorem xN.yw {ex:List Addr}{H H':Hp}(s:xN H H'):yc ex H H':=fun b o _ e=>s b o e
theorem yc.trans {ex:List Addr}{H H1 H2:Hp}(a:yc ex H H1)(b:yc ex H1 H2):yc ex H H2:=fun x o n e=>b x o n (a x o n e)
theorem yk.yw {ex:List Addr}{H H':Hp}(hx:∀ b ∈ ex,∃ xs,H b=some (.lst xs))(o:yc ex H H'){vs:List V}{ps:List (Int × Int)}(h:yk H vs ps):yk H' vs ps :=
 yk.imp (fun _ _ xU=>by obtain⟨t,e,q⟩:=xU;exact⟨t,e,o _ _ (fun z=>by obtain⟨xs,hz⟩:=hx _ z;rw[q]at hz;cases hz) q⟩) h
theorem yc.Ep {ex:List Addr}{H H':Hp}(hx:∀ b ∈ ex,∃ o,H b=some o/\¬ NL o)(o:yc ex H H'):yg H H':=fun b u e n=>o b u (fun z=>by obtain⟨o',hz,hn⟩:=hx _ z;rw[e]at hz;cases hz;exact hn n) e
theorem yc.xX {ex:List Addr}{H H':Hp}(hx:∀ b ∈ ex,∃ xs,H b=some (.lst xs))(o:yc ex H H'):yg H H':=o.Ep fun b hb=>let ⟨xs,hz⟩:=hx b hb; ⟨_,hz,id⟩
theorem zP.yw {ex:List Addr}{H H':Hp}{C:Addr}{v:V}{s:yr}(hx:∀ b ∈ ex,∃ xs,H b=some (.lst xs))(o:yc ex H H')(h:zP H C ex v s):zP H' C ex v s:=by
 obtain⟨x,dx,pa,xZ,e,L,n⟩:=h
 have k:=o.xX hx
 exact⟨x,dx,pa,xZ,e,⟨k _ _ L.ins True.intro,o _ _ n L.lst,yk.yw hx o L.yR⟩,n⟩
theorem Av.yw {ex:List Addr}{H H':Hp}{C:Addr}{v:V}{s:cu}(hx:∀ b ∈ ex,∃ xs,H b=some (.lst xs))(o:yc ex H H')(h:Av H C ex v s):Av H' C ex v s:=by
 obtain⟨x,dx,wa,e,h1,h2,n⟩:=h
 exact⟨x,dx,wa,e,o.xX hx _ _ h1 True.intro,o _ _ n h2,n⟩
theorem yX.keep {H H':Hp}{v:V}{qs:List (Int × Int)}(k:yg H H')(h:yX H v qs):yX H' v qs:=by
 obtain⟨t,vs,e,h1,h2⟩:=h
 exact⟨t,vs,e,k _ _ h1 True.intro,k.BN h2⟩
theorem y8.keep {H H':Hp}{v:V}{m:List V}(k:yg H H')(h:y8 H v m):y8 H' v m:=by
 obtain⟨t,e,h1⟩:=h
 exact⟨t,e,k _ _ h1 True.intro⟩
noncomputable def MD (tb ro la le li dn:Addr):Fs:=[("table", .ref tb),("rooms", .ref ro),("lanes", .ref la),("letters", .ref le),("lies", .ref li),("done", .ref dn)]
structure yf (K:Frag)(ys:Ys)(H:Hp)(y dy tb ro la le li dn:Addr)(s:YS):Prop where
 ins:H y=some (.ins ys.xR dy (MD tb ro la le li dn))
 C4:xV K H ro s.rooms
 yD:∃ vs,H la=some (.lst vs)/\Paired (zP H ys.yh (la :: le :: li :: dn :: ys.ex)) vs s.lanes
 hle:∃ vs,H le=some (.lst vs)/\Paired (Av H ys.xQ (la :: le :: li :: dn :: ys.ex)) vs s.xM
 AB:∃ vs,H li=some (.lst vs)/\Paired (yX H) vs s.lies
 Ah:∃ vs,H dn=some (.lst vs)/\Paired (y8 H) vs s.done
 ne:[la,le,li,dn].Nodup
 hex:∀ b ∈ ys.ex,∃ xs,H b=some (.lst xs)
theorem yf.BP {K:Frag}{ys:Ys}{H:Hp}{y dy tb ro la le li dn:Addr}{s:YS}(h:yf K ys H y dy tb ro la le li dn s):∀ b ∈ [la,le,li,dn],∃ xs,H b=some (.lst xs):=by
 intro b hb
 obtain⟨v1,h1,_⟩:=h.yD
 obtain⟨v2,h2,_⟩:=h.hle
 obtain⟨v3,h3,_⟩:=h.AB
 obtain⟨v4,h4,_⟩:=h.Ah
 simp only[mem_cons,not_mem_nil,or_false]at hb
 rcases hb with rfl | rfl | rfl | rfl
 ·exact⟨_,h1⟩
 ·exact⟨_,h2⟩
 ·exact⟨_,h3⟩
 ·exact⟨_,h4⟩
theorem yf.Bt {K:Frag}{ys:Ys}{H:Hp}{y dy tb ro la le li dn:Addr}{s:YS}(h:yf K ys H y dy tb ro la le li dn s):∀ b ∈ la :: le :: li :: dn :: ys.ex,∃ xs,H b=some (.lst xs):=by
 intro b hb
 have e:la :: le :: li :: dn :: ys.ex=[la,le,li,dn] ++ ys.ex:=rfl
 rw[e]at hb
 rcases mem_append.mp hb with hb | hb
 ·exact h.BP b hb
 ·exact h.hex b hb
theorem yf.same {K:Frag}{ys:Ys}{H H':Hp}{y dy tb ro la le li dn:Addr}{s:YS}(h:yf K ys H y dy tb ro la le li dn s)(e:xN H H'):yf K ys H' y dy tb ro la le li dn s:=by
 have hx:=h.Bt
 obtain⟨v1,h1,p1⟩:=h.yD
 obtain⟨v2,h2,p2⟩:=h.hle
 obtain⟨v3,h3,p3⟩:=h.AB
 obtain⟨v4,h4,p4⟩:=h.Ah
 have o:yc (la :: le :: li :: dn :: ys.ex) H H':=xN.yw e
 exact⟨e _ _ h.ins,bz e h.C4,⟨v1,e _ _ h1,Paired.mono (fun _ _ z=>z.yw hx o) p1⟩,⟨v2,e _ _ h2,Paired.mono (fun _ _ z=>z.yw hx o) p2⟩,⟨v3,e _ _ h3,Paired.mono (fun _ _ z=>z.keep (xN.xX e)) p3⟩,⟨v4,e _ _ h4,Paired.mono (fun _ _ z=>z.keep (xN.xX e)) p4⟩,h.ne,fun b hb=>let ⟨xs,hz⟩:=h.hex b hb; ⟨xs,e _ _ hz⟩⟩
structure jz (K:Frag)(ys:Ys):Prop where
 cl:Ao K ys.xR
 n1:yb K ys.xR "table"
 n2:yb K ys.xR "rooms"
 n3:yb K ys.xR "lanes"
 n4:yb K ys.xR "letters"
 n5:yb K ys.xR "lies"
 n6:yb K ys.xR "done"
 ct:Ao K ys.xQ
 t1:yb K ys.xQ "start"
 t2:yb K ys.xQ "goal"
 t3:yb K ys.xQ "length"
 t4:yb K ys.xQ "word"
 t5:yb K ys.xQ "gone"
 t6:yb K ys.xQ "way"
 L:vM K ys.yh
noncomputable def qH (C:Addr):Sp:=fun vs H Q _=>∃ (x dx:Addr)(a b l u:Int),vs=[.ref x, .int a, .int b, .int l, .int u]/\H x=some (.ins C dx [])/\∀ (wa:Addr)(H':Hp),H wa=none->(∀ z o,z ≠ x->H z=some o->H' z=some o)->H' x=some (.ins C dx (nv ⟨a,b,l,u,0,[]⟩ wa))->H' wa=some (.lst (nV []))->Q .yd H'
theorem J4:ar ["self", "start", "goal", "length", "word"] ["self", "start", "goal", "length", "word"] (al qZ):=L2.yq
theorem wT {ys:Ys}{f:Addr}{fd:FuncData}(F:yn K "__init__" "Letter.__init__" qZ f fd)(Y:jz K ys):xO P w K mg base aF 1 f fd ["self", "start", "goal", "length", "word"] (qH ys.xQ):=by
 refine F.ok J4 (fun _ _ _ _ h=>?_) (fun _ _ _ s H _ Q E hr h=>?_)
 ·obtain⟨x,dx,a,b,l,u,rfl,_⟩:=h
  rfl
 ·obtain⟨x,dx,a,b,l,u,rfl,hx,q⟩:=h
  refine⟨_,af (aZ (pv 0) (pv 1) rfl) (af (aZ (pv 0) (pv 2) rfl) (af (aZ (pv 0) (pv 3) rfl) (af (aZ (pv 0) (pv 4) rfl) (af (aZ (pv 0) ai rfl) (ak (aZ (pv 0) (aP ad) rfl)))))),?_⟩
  refine⟨_,rfl,_,rfl,x,ys.xQ,dx,_,rfl,hx,Y.ct,Y.t1,by show 0 < 1000;decide,?_⟩
  refine⟨_,rfl,_,rfl,x,ys.xQ,dx,_,rfl,ac,Y.ct,Y.t2,by show 1 < 1000;decide,?_⟩
  refine⟨_,rfl,_,rfl,x,ys.xQ,dx,_,rfl,ac,Y.ct,Y.t3,by show 2 < 1000;decide,?_⟩
  refine⟨_,rfl,_,rfl,x,ys.xQ,dx,_,rfl,ac,Y.ct,Y.t4,by show 3 < 1000;decide,?_⟩
  refine⟨_,rfl,x,ys.xQ,dx,_,rfl,ac,Y.ct,Y.t5,by show 4 < 1000;decide,?_⟩
  refine⟨zero_le _,fun wa BQ=>?_⟩
  have D7:x ≠ wa:=ag ac BQ
  refine⟨_,rfl,x,ys.xQ,dx,_,rfl,by rw[ae D7];exact ac,Y.ct,Y.t6,by show 5 < 1000;decide,?_⟩
  have J5:H wa=none:=by
   rw[ae (Ne.symm D7),ae (Ne.symm D7),ae (Ne.symm D7),ae (Ne.symm D7),ae (Ne.symm D7)]at BQ
   exact BQ
  refine q wa _ J5 (fun z o nz e=>?_) ac (by rw[ae (Ne.symm D7)];exact ac)
  have nzw:z ≠ wa:=ag e J5
  rw[ae nz,ae nzw,ae nz,ae nz,ae nz,ae nz,ae nz]
  exact e
noncomputable def vI:V->Int
 | .int i=>i
 | _=>0
noncomputable def oN (v:V):yr:=⟨vI v,0,none,[]⟩
noncomputable def Y0 (rooms:List V)(n:Nat):YS:=⟨rooms,rooms.map oN,[],List.replicate n [],[]⟩
noncomputable def zw (H0 H:Hp)(C:Addr)(v:V)(s:yr):Prop:=∃ x dx pa,v = .ref x/\yj H C x dx pa s.r s.b s.h [] []/\s.qs=[]/\H0 x=none/\H0 pa=none
theorem zw.same {H0 H H':Hp}{C:Addr}{v:V}{s:yr}(h:zw H0 H C v s)(e:xN H H'):zw H0 H' C v s:=by
 obtain⟨x,dx,pa,h1,h2,h3⟩:=h
 exact⟨x,dx,pa,h1,h2.same e,h3⟩
noncomputable def yt (y:Addr)(ex:List Addr)(H:Hp)(C:Addr)(v:V)(s:yr):Prop:=∃ x dx pa,v = .ref x/\yj H C x dx pa s.r s.b s.h [] []/\s.qs=[]/\x ≠ y/\pa ≠ y/\pa ∉ ex
theorem zw.J6 {H0 H:Hp}{C y:Addr}{v:V}{s:yr}{u:HO}(h:zw H0 H C v s){ex:List Addr}(hy:H0 y=some u)(hx:∀ b ∈ ex,∃ o,H0 b=some o):yt y ex H C v s:=by
 obtain⟨x,dx,pa,h1,h2,h3,h4,h5⟩:=h
 exact⟨x,dx,pa,h1,h2,h3,(fun z=>by rw[z,hy]at h4;cases h4),(fun z=>by rw[z,hy]at h5;cases h5),fun z=>by obtain⟨o,ho⟩:=hx _ z;rw[h5]at ho;cases ho⟩
theorem yt.same {y:Addr}{ex:List Addr}{H H':Hp}{C:Addr}{v:V}{s:yr}(h:yt y ex H C v s)(e:xN H H'):yt y ex H' C v s:=by
 obtain⟨x,dx,pa,h1,h2,h3⟩:=h
 exact⟨x,dx,pa,h1,h2.same e,h3⟩
theorem yt.upd {y:Addr}{ex:List Addr}{H:Hp}{C:Addr}{v:V}{s:yr}{o:HO}(h:yt y ex H C v s):yt y ex (upd H y o) C v s:=by
 obtain⟨x,dx,pa,h1,h2,h3,h4,h5,h6⟩:=h
 exact⟨x,dx,pa,h1,⟨by rw[ae h4];exact h2.ins,by rw[ae h5];exact h2.lst, .nil⟩,h3,h4,h5,h6⟩
theorem yt.new {y a:Addr}{ex:List Addr}{H:Hp}{C:Addr}{v:V}{s:yr}{o:HO}(h:yt y ex H C v s)(ha:H a=none):yt y (a :: ex) (L2.upd H a o) C v s:=by
 obtain⟨x,dx,pa,h1,h2,h3,h4,h5,h6⟩:=h
 exact⟨x,dx,pa,h1,h2.same ((xN.refl H).new ha),h3,h4,h5,fun z=>(mem_cons.mp z).elim (fun z=>by rw[z]at h2;rw[h2.lst]at ha;cases ha) h6⟩
theorem yt.J7 {y:Addr}{ex GO:List Addr}{H:Hp}{C:Addr}{v:V}{s:yr}(h:yt y ex H C v s)(hs:∀ a ∈ GO,a ∈ ex):zP H C GO v s:=by
 obtain⟨x,dx,pa,h1,h2,h3,h4,h5,h6⟩:=h
 exact⟨x,dx,pa,[],h1,by rw[h3];exact h2,fun z=>h6 (hs _ z)⟩
theorem nK {K:Frag}{ro C:Addr}{yi:List V}{g:TG}{te:TE}{σ0:St}{H:Hp}{Q:VK}(hn:yi.length < sizeLine)(ha:xV K H ro yi)(hint:∀ v ∈ yi,∃ r,v = .int r)
  (hs:∀ (r:Int)(H1:Hp)(N:V->Hp->Prop),xN H H1->(∀ x dx pa H2,H1 x=none->H1 pa=none->xN H1 H2->yj H2 C x dx pa r 0 none [] []->N (.ref x) H2)->g (.int r) σ0 H1 fun σ2 H2=>te σ2 H2 N)
  (hq:∀ D vs H1,xN H H1->H1 D=none->Paired (zw H H1 C) vs (yi.map oN)->Q (.ref D) (upd H1 D (.lst vs))):cQ (HZ K ro) g j4 te σ0 Q H:=by
 refine b8 yi.length hn (fun i acc H'=>xN H H'/\Paired (zw H H' C) acc ((yi.take i).map oN)) ⟨xN.refl _, .nil⟩ (fun i acc H' h=>by have:=Paired.length h.2;rw[this,length_map];exact length_take_le _ _) (fun i acc H' hi h=>?_) (fun acc H' h=>?_)
 ·obtain⟨s,hL⟩:=h
  refine⟨⟨yi,yi[i],bz s ha,by simp[hi]⟩,fun v H2 y=>?_⟩
  obtain⟨e,y⟩:=y
  subst e
  have hv:=y _ (bz s ha)
  obtain⟨r,rfl⟩:=hint v (mem_of_getElem? hv)
  refine hs r H2 (fun y H4=>xN H H4/\Paired (zw H H4 C) (acc ++ [y]) ((yi.take (i + 1)).map oN)) s fun x dx pa H3 nx D8 s3 Bf=>⟨s.trans s3,?_⟩
  rw[take_succ,hv,Option.toList_some,map_append]
  exact Paired.snoc (b:=oN (.int r)) ⟨x,dx,pa,rfl,Bf,rfl,s.free nx,s.free D8⟩ (Paired.mono (fun _ _ z=>z.same s3) hL)
 ·obtain⟨s,hL⟩:=h
  rw[take_length]at hL
  exact⟨⟨yi,bz s ha,le_refl _⟩,fun D hD=>hq D acc H' s hD hL⟩
theorem qe {n:Nat}{g:TG}{te:TE}{σ0:St}{H:Hp}{Q:VK}(hn:n <= 1000)
  (hs:∀ (i:Nat)(H1:Hp)(N:V->Hp->Prop),xN H H1->(∀ t,H1 t=none->N (.ref t) (upd H1 t (.tup [])))->g (.int (0 + i)) σ0 H1 fun σ2 H2=>te σ2 H2 N)
  (hq:∀ D vs H1,xN H H1->H1 D=none->Paired (yX H1) vs (List.replicate n [])->Q (.ref D) (upd H1 D (.lst vs))):cQ (tK 0 n) g j4 te σ0 Q H:=by
 refine b8 n (by rw[sizeLine_eq];omega) (fun i acc H'=>xN H H'/\Paired (yX H') acc (List.replicate i [])) ⟨xN.refl _, .nil⟩ (fun i acc H' h=>by have:=Paired.length h.2;rw[this,length_replicate];exact le_refl _) (fun i acc H' hi h=>?_) (fun acc H' h=>?_)
 ·obtain⟨s,hL⟩:=h
  refine⟨hi,fun v H2 y=>?_⟩
  obtain⟨e1,e2⟩:=y
  subst e1 e2
  refine hs i H2 (fun y H4=>xN H H4/\Paired (yX H4) (acc ++ [y]) (List.replicate (i + 1) [])) s fun t ht=>⟨s.new ht,?_⟩
  rw[List.replicate_succ']
  exact Paired.snoc ⟨t,[],rfl,ac, .nil⟩ (Paired.mono (fun _ _ z=>z.keep (xN.xX ((xN.refl H2).new ht))) hL)
 ·obtain⟨s,hL⟩:=h
  exact⟨le_refl n,fun D hD=>hq D acc H' s hD hL⟩
theorem eU {K:Frag}{H:Hp}{a y C d:Addr}{fs:Fs}{o:HO}{xs:List V}(hy:H y=some (.ins C d fs))(h:xV K H a xs):xV K (upd H y o) a xs:=by
 rcases h with h | h
 ·refine .inl ?_
  rcases h with h | ⟨u,h⟩
  ·exact .inl (by rw[ae (aV h hy (by intro z;cases z))];exact h)
  ·exact .inr ⟨u,by rw[ae (aV h hy (by intro z;cases z))];exact h⟩
 ·exact .inr h
theorem tR {K:Frag}{H:Hp}{a y C d:Addr}{fs:Fs}{o:HO}{xs:List V}(hy:H y=some (.ins C d fs))(h:xS K H a xs):xS K (upd H y o) a xs:=by
 rcases h with h | h
 ·refine .inl ?_
  rcases h with h | ⟨u,h⟩
  ·exact .inl (by rw[ae (aV h hy (by intro z;cases z))];exact h)
  ·exact .inr ⟨u,by rw[ae (aV h hy (by intro z;cases z))];exact h⟩
 ·exact .inr h
noncomputable def jG (K:Frag)(c:Cs)(TC:Addr)(J:TJ)(ys:Ys):Sp:=fun vs H Q _=>∃ (y dy tb lx yz lt:Addr)(n:Nat)(ye:List V)(ps:List (Int × Int))(wy:Wf)(rv:V)(yi:List V),vs=[.ref y, .ref tb,rv]/\H y=some (.ins ys.xR dy [])/\yC c TC J H tb lx yz lt n ye ps wy/\(∀ b ∈ ys.ex,∃ xs,H b=some (.lst xs)) /\
 ((rv = .yd/\yi=List.replicate ps.length (.int 1))∨(∃ ra,rv = .ref ra/\Sq K H ra yi/\yi.length <= 1000/\(∀ v ∈ yi,qh v)/\(oH ps.length yi=false->False))) /\
 (oH ps.length yi=true->∀ (ro la le li dn:Addr)(H':Hp),yc [y] H H'->H la=none->H le=none->H li=none->H dn=none->yf K ys H' y dy tb ro la le li dn (Y0 yi n)->Q .yd H')
noncomputable def J8 (s:Stmt):Scope:=match s with
 | .Assign _ (.ListComp _ _ sc _) _=>sc
 | _=>zQ0
theorem iE {v:V}{a b:Int}(h:jJ v a b=true):∃ r,v = .int r:=by
 cases v<;>first | exact⟨_,rfl⟩ | cases h
theorem OY:ar ["self", "table", "rooms"] ["self", "table", "rooms"] (al gL):=L2.yq
theorem J9:yK ["self", "table", "rooms"] (al gL) (J8 ((aG gL).getD 2 (.Pass ⟨0,0,0,0⟩))) [] []:=L2.zA
theorem JA:yK ["self", "table", "rooms"] (al gL) (J8 ((aG gL).getD 4 (.Pass ⟨0,0,0,0⟩))) [] []:=L2.zA
theorem JB:(["place"]:List Str).Nodup:=by decide +kernel
theorem wI {c:Cs}{ys:Ys}{J:TJ}{TC f MF fr fl:Addr}{fd MG dr dl:FuncData}(F:BI K "__init__" "Yard.__init__" gL f fd)(T:fR mg)(L:m6 K c)(Y:jz K ys)(W:Wy K TC MF MG J)
  (mr:mg "rooms_of" = some (.ref fr)) (kr:keepIn K (.ref fr)=true) (br:Binds K dr ["land", "rooms"] []) (Gr:xO P w K mg base aF 3 fr dr ["land", "rooms"] (oi K c))
  (ml:mg "Lane" = some (.ref ys.yh)) (Ml:Mk K ys.yh fl) (bl:Binds K dl ["self", "room"] []) (Gl:xO P w K mg base aF 1 fl dl ["self", "room"] (qI ys.yh)) :
  xO P w K mg base aF 4 f fd ["self", "table", "rooms"] (jG K c TC J ys):=by
 refine F.ok OY (fun _ _ _ _ h=>?_) (fun _ _ _ s H _ Q E hr h=>?_)
 ·obtain⟨y,dy,tb,lx,yz,lt,n,ye,ps,wy,rv,yi,rfl,_⟩:=h
  rfl
 ·obtain⟨y,dy,tb,lx,yz,lt,n,ye,ps,wy,rv,yi,rfl,hy,hT,hex,hrv,q⟩:=h
  have Er:∀ b ∈ ys.ex,b ∉ [y]:=fun b hb z=>by obtain⟨xs,hz⟩:=hex b hb;rw[mem_singleton.mp z,hy]at hz;cases hz
  have zh:ya 2 _:=hr.mono (by decide)
  refine⟨_,af (aZ (pv 0) (pv 1) rfl)
   (af (aZ (pv 0) (kG (az Gr hr rfl mr kr br .nil ap (aa (am (pv 1) rfl) (aa (pv 2) ad)))) rfl)
   (af (aZ (pv 0) (bv (own:=["room"]) (capN:=[]) (cap:=[]) J9 rfl (jb (am (pv 0) rfl)) (fun C s' H' fp=>⟨aq (i:=0) Jz rfl (Or.inl rfl),bT,dA Ml Gl zh rfl ml bl .nil ap (aa (pv 0) ad)⟩)) rfl)
   (af (aZ (pv 0) (aP ad) rfl)
   (af (aZ (pv 0) (bv (own:=["place"]) (capN:=[]) (cap:=[]) JA rfl (aS rfl T.range (aa (am (am (pv 1) rfl) rfl) ad)) (fun C s' H' fp=>⟨aq (i:=0) JB rfl (Or.inl rfl),bT,aW ad⟩)) rfl)
   (ak (aZ (pv 0) (aP ad) rfl)))))),?_⟩
  have hm40:=hT.yI
  have OZ:=hT.MC
  obtain⟨C5,fst,Bu,yN,_⟩:=hT.i
  have kp:∀ {H':Hp},yc [y] H H'->yg H H':=fun o=>o.Ep fun b hb=>by rw[mem_singleton.mp hb];exact⟨_,hy,id⟩
  have SY:tb ≠ y:=aV Bu hy (fun z=>by injection z with _ _ z3;rw[z3]at yN;cases yN)
  refine⟨_,rfl,_,rfl,y,ys.xR,dy,_,rfl,hy,Y.cl,Y.n1,by show 0 < 1000;decide,?_⟩
  have o1:yc [y] H (upd H y (.ins ys.xR dy (aO "table" (.ref tb) []))):=fun b o nb e=>by rw[ae (fun z=>nb (by rw[z];exact mem_singleton.mpr rfl))];exact e
  have g1:(upd H y (.ins ys.xR dy (aO "table" (.ref tb) []))) y=some (.ins ys.xR dy [("table", .ref tb)]):=ac
  have Ta:∀ ra,Sq K H ra yi->Sq K (upd H y (.ins ys.xR dy (aO "table" (.ref tb) []))) ra yi:=fun ra h=>h.elim (fun h => .inl (tR hy h)) fun h => .inr (eU hy h)
  show _
  generalize upd H y (.ins ys.xR dy (aO "table" (.ref tb) []))=A1 at o1 g1 Ta ⊢
  have JC:=hT.keep W (kp o1)
  have Hn:∀ {Ha Hb:Hp}{o:HO},yc [y] Ha Hb->yc [y] Ha (upd Hb y o):=fun {Ha Hb o} h b u nb e=>by rw[ae (fun z=>nb (by rw[z];exact mem_singleton.mpr rfl))];exact h b u nb e
  refine⟨fun v A2=>∃ ro,v = .ref ro/\xN A1 A2/\xV K A2 ro yi/\oH ps.length yi=true,?_,?_⟩
  ·refine⟨_,rfl,tb,TC,C5,fst,_,rfl,o1 _ _ (fun z=>SY (mem_singleton.mp z)) Bu,W.cl,W.nl,yN,_,rfl,lx,yz,lt,(n:Int),ye,ps,rv,rfl,JC.l,by omega,?_⟩
   rcases hrv with ⟨rfl,rfl⟩ | ⟨ra,rfl,hR,zj,J0,qE⟩
   ·refine .inl ⟨rfl,fun t A2 s2 ht=>⟨t,rfl,s2,xV.of ht,?_⟩⟩
    unfold oH
    rw[length_replicate,decide_eq_true rfl,Bool.true_and,all_eq_true]
    intro v hv
    rw[eq_of_mem_replicate hv];rfl
   ·have Pa:Sq K A1 ra yi:=Ta ra hR
    exact .inr ⟨ra,yi,rfl,Pa,zj,J0,qE,fun xY t A2 s2 ht=>⟨t,rfl,s2,ht,xY⟩⟩
  rintro v A2 ⟨ro,rfl,s2,C4,xY⟩
  have zy:yi.length=ps.length/\∀ v ∈ yi,∃ r,v = .int r:=by
   unfold oH at xY
   rw[Bool.and_eq_true,decide_eq_true_eq,all_eq_true]at xY
   exact⟨xY.1,fun v hv=>iE (xY.2 v hv)⟩
  have o2:yc [y] H A2:=o1.trans (xN.yw s2)
  have g2:=s2 _ _ g1
  refine⟨_,rfl,y,ys.xR,dy,_,rfl,g2,Y.cl,Y.n2,by show 1 < 1000;decide,?_⟩
  have o3:=Hn (o := .ins ys.xR dy (aO "rooms" (.ref ro) [("table", .ref tb)])) o2
  have g3:(upd A2 y (.ins ys.xR dy (aO "rooms" (.ref ro) [("table", .ref tb)]))) y=some (.ins ys.xR dy [("table", .ref tb),("rooms", .ref ro)]):=ac
  have D9:xV K (upd A2 y (.ins ys.xR dy (aO "rooms" (.ref ro) [("table", .ref tb)]))) ro yi:=eU g2 C4
  show _
  generalize upd A2 y (.ins ys.xR dy (aO "rooms" (.ref ro) [("table", .ref tb)]))=A3 at o3 g3 D9 ⊢
  have Pb:∀ b ∈ ys.ex,∃ o,A3 b=some o:=fun b hb=>let ⟨xs,hz⟩:=hex b hb; ⟨_,o3 b _ (Er b hb) hz⟩
  refine⟨_,rfl,y,ys.xR,dy,_,_,rfl,g3,Y.cl,Y.n2,rfl,ro,rfl,⟨_,D9⟩,?_⟩
  refine nK (C:=ys.yh) (by rw[sizeLine_eq];omega) D9 zy.2 (fun r B N sB hN=>?_) (fun la xW A4 s4 yD CZ=>?_)
  ·refine⟨_,rfl,fun x dx nx JD Er=>⟨x,dx,r,rfl,ac,fun pa B2 BO off hL=>⟨rfl,?_⟩⟩⟩
   have AK:B pa=none:=by
    by_cases e1:pa=x
    ·rw[e1,ac]at BO;cases BO
    ·by_cases e2:pa=dx
     ·rw[e2,ae Er,ac]at BO;cases BO
     ·rw[ae e1,ae e2]at BO;exact BO
   refine hN x dx pa B2 nx AK (fun b o e=>off b o (ag e nx) ?_) hL
   rw[ae (ag e nx),ae (ag e JD)]
   exact e
  have o4:yc [y] H A4:=o3.trans (xN.yw s4)
  have g4:=s4 _ _ g3
  have Es:la ≠ y:=Ne.symm (ag g4 yD)
  have la0:H la=none:=by
   cases e:H la with
   | none=>rfl
   | some u=>rw[o4 _ _ (fun z=>Es (mem_singleton.mp z)) e]at yD;cases yD
  have Tb:Paired (yt y (la :: ys.ex) (upd A4 la (.lst xW)) ys.yh) xW (yi.map oN):=Paired.mono (fun _ _ z=>(z.J6 g3 Pb).new yD) CZ
  have o5:yc [y] H (upd A4 la (.lst xW)):=o4.trans (xN.yw ((xN.refl A4).new yD))
  have g5:(upd A4 la (.lst xW)) y=some (.ins ys.xR dy [("table", .ref tb),("rooms", .ref ro)]):=by rw[ae (Ne.symm Es)];exact g4
  have JE:(upd A4 la (.lst xW)) la=some (.lst xW):=ac
  have C6:xV K (upd A4 la (.lst xW)) ro yi:=bz ((xN.refl A4).new yD) (bz s4 D9)
  refine⟨_,rfl,y,ys.xR,dy,_,rfl,g5,Y.cl,Y.n3,by show 2 < 1000;decide,?_⟩
  generalize upd A4 la (.lst xW)=A5 at Tb o5 g5 JE C6 ⊢
  have Tc:Paired (yt y (la :: ys.ex) (upd A5 y (.ins ys.xR dy (aO "lanes" (.ref la) [("table", .ref tb),("rooms", .ref ro)]))) ys.yh) xW (yi.map oN):=Paired.mono (fun _ _ z=>z.upd) Tb
  have o6:=Hn (o := .ins ys.xR dy (aO "lanes" (.ref la) [("table", .ref tb),("rooms", .ref ro)])) o5
  have g6:(upd A5 y (.ins ys.xR dy (aO "lanes" (.ref la) [("table", .ref tb),("rooms", .ref ro)]))) y=some (.ins ys.xR dy [("table", .ref tb),("rooms", .ref ro),("lanes", .ref la)]):=ac
  have F9:(upd A5 y (.ins ys.xR dy (aO "lanes" (.ref la) [("table", .ref tb),("rooms", .ref ro)]))) la=some (.lst xW):=by rw[ae Es];exact JE
  have DA:=eU (o := .ins ys.xR dy (aO "lanes" (.ref la) [("table", .ref tb),("rooms", .ref ro)])) g5 C6
  generalize upd A5 y (.ins ys.xR dy (aO "lanes" (.ref la) [("table", .ref tb),("rooms", .ref ro)]))=A6 at Tc o6 g6 F9 DA ⊢
  refine⟨zero_le _,fun le hle=>?_⟩
  have FA:le ≠ y:=Ne.symm (ag g6 hle)
  have Et:la ≠ le:=ag F9 hle
  have le0:H le=none:=by
   cases e:H le with
   | none=>rfl
   | some u=>rw[o6 _ _ (fun z=>FA (mem_singleton.mp z)) e]at hle;cases hle
  have Td:Paired (yt y (le :: la :: ys.ex) (upd A6 le (.lst [])) ys.yh) xW (yi.map oN):=Paired.mono (fun _ _ z=>z.new hle) Tc
  have o7:yc [y] H (upd A6 le (.lst [])):=o6.trans (xN.yw ((xN.refl A6).new hle))
  have g7:(upd A6 le (.lst [])) y=some (.ins ys.xR dy [("table", .ref tb),("rooms", .ref ro),("lanes", .ref la)]):=by rw[ae (Ne.symm FA)];exact g6
  have JF:(upd A6 le (.lst [])) la=some (.lst xW):=by rw[ae Et];exact F9
  have JG:(upd A6 le (.lst [])) le=some (.lst []):=ac
  have JH:xV K (upd A6 le (.lst [])) ro yi:=bz ((xN.refl A6).new hle) DA
  refine⟨_,rfl,y,ys.xR,dy,_,rfl,g7,Y.cl,Y.n4,by show 3 < 1000;decide,?_⟩
  generalize upd A6 le (.lst [])=A7 at Td o7 g7 JF JG JH ⊢
  have Te:Paired (yt y (le :: la :: ys.ex) (upd A7 y (.ins ys.xR dy (aO "letters" (.ref le) [("table", .ref tb),("rooms", .ref ro),("lanes", .ref la)]))) ys.yh) xW (yi.map oN):=Paired.mono (fun _ _ z=>z.upd) Td
  have o8:=Hn (o := .ins ys.xR dy (aO "letters" (.ref le) [("table", .ref tb),("rooms", .ref ro),("lanes", .ref la)])) o7
  have g8:(upd A7 y (.ins ys.xR dy (aO "letters" (.ref le) [("table", .ref tb),("rooms", .ref ro),("lanes", .ref la)]))) y=some (.ins ys.xR dy [("table", .ref tb),("rooms", .ref ro),("lanes", .ref la),("letters", .ref le)]):=ac
  have FC:(upd A7 y (.ins ys.xR dy (aO "letters" (.ref le) [("table", .ref tb),("rooms", .ref ro),("lanes", .ref la)]))) la=some (.lst xW):=by rw[ae Es];exact JF
  have FD:(upd A7 y (.ins ys.xR dy (aO "letters" (.ref le) [("table", .ref tb),("rooms", .ref ro),("lanes", .ref la)]))) le=some (.lst []):=by rw[ae FA];exact JG
  have BR:=eU (o := .ins ys.xR dy (aO "letters" (.ref le) [("table", .ref tb),("rooms", .ref ro),("lanes", .ref la)])) g7 JH
  generalize upd A7 y (.ins ys.xR dy (aO "letters" (.ref le) [("table", .ref tb),("rooms", .ref ro),("lanes", .ref la)]))=A8 at Te o8 g8 FC FD BR ⊢
  have Pc:=hT.keep W (kp o8)
  refine⟨_,rfl,tb,TC,C5,fst,_,rfl,o8 _ _ (fun z=>SY (mem_singleton.mp z)) Bu,W.cl,W.nl,yN,lx,c.land,yz,_,_,rfl,Pc.l.1,L.cl,L.np,rfl,(n:Int),rfl,by omega,by omega,?_⟩
  rw[toNat_natCast]
  refine qe (by omega) (fun i B N sB hN=>⟨zero_le _,fun t ht=>hN t ht⟩) (fun li BS A9 s9 AB Pe=>?_)
  have g9:=s9 _ _ g8
  have o9:yc [y] H A9:=o8.trans (xN.yw s9)
  have JI:li ≠ y:=Ne.symm (ag g9 AB)
  have JJ:la ≠ li:=ag (s9 _ _ FC) AB
  have JK:le ≠ li:=ag (s9 _ _ FD) AB
  have li0:H li=none:=by
   cases e:H li with
   | none=>rfl
   | some u=>rw[o9 _ _ (fun z=>JI (mem_singleton.mp z)) e]at AB;cases AB
  have Bv:=(xN.refl A9).new (o := .lst BS) AB
  have JL:Paired (yt y (li :: le :: la :: ys.ex) (upd A9 li (.lst BS)) ys.yh) xW (yi.map oN):=Paired.mono (fun _ _ z=>(z.same s9).new AB) Te
  have Eu:Paired (yX (upd A9 li (.lst BS))) BS (List.replicate n []):=Paired.mono (fun _ _ z=>z.keep (xN.xX Bv)) Pe
  have Ew:(upd A9 li (.lst BS)) li=some (.lst BS):=ac
  have Tf:yc [y] H (upd A9 li (.lst BS)):=o9.trans (xN.yw Bv)
  have AD:=Bv _ _ g9
  have Ex:=Bv _ _ (s9 _ _ FC)
  have Ey:=Bv _ _ (s9 _ _ FD)
  have Ez:=bz Bv (bz s9 BR)
  refine⟨_,rfl,y,ys.xR,dy,_,rfl,AD,Y.cl,Y.n5,by show 4 < 1000;decide,?_⟩
  generalize upd A9 li (.lst BS)=FE at JL Eu Ew Tf AD Ex Ey Ez ⊢
  have JM:∀ {B:Hp}{o:HO}{C d:Addr}{fs:Fs}{v:V}{qs:List (Int × Int)},B y=some (.ins C d fs)->yX B v qs->yX (upd B y o) v qs:=fun {B o C d fs v qs} hB h=>by
   obtain⟨t,ws,e,h1,h2⟩:=h
   exact⟨t,ws,e,by rw[ae (aV h1 hB (by intro z;cases z))];exact h1,yk.imp (fun _ _ xU=>by obtain⟨t',e',q'⟩:=xU;exact⟨t',e',by rw[ae (aV q' hB (by intro z;cases z))];exact q'⟩) h2⟩
  have JN:Paired (yt y (li :: le :: la :: ys.ex) (upd FE y (.ins ys.xR dy (aO "lies" (.ref li) [("table", .ref tb),("rooms", .ref ro),("lanes", .ref la),("letters", .ref le)]))) ys.yh) xW (yi.map oN):=Paired.mono (fun _ _ z=>z.upd) JL
  have EA:Paired (yX (upd FE y (.ins ys.xR dy (aO "lies" (.ref li) [("table", .ref tb),("rooms", .ref ro),("lanes", .ref la),("letters", .ref le)])))) BS (List.replicate n []):=Paired.mono (fun _ _ z=>JM AD z) Eu
  have MH:=Hn (o := .ins ys.xR dy (aO "lies" (.ref li) [("table", .ref tb),("rooms", .ref ro),("lanes", .ref la),("letters", .ref le)])) Tf
  have Pf:(upd FE y (.ins ys.xR dy (aO "lies" (.ref li) [("table", .ref tb),("rooms", .ref ro),("lanes", .ref la),("letters", .ref le)]))) y=some (.ins ys.xR dy [("table", .ref tb),("rooms", .ref ro),("lanes", .ref la),("letters", .ref le),("lies", .ref li)]):=ac
  have C7:(upd FE y (.ins ys.xR dy (aO "lies" (.ref li) [("table", .ref tb),("rooms", .ref ro),("lanes", .ref la),("letters", .ref le)]))) la=some (.lst xW):=by rw[ae Es];exact Ex
  have C8:(upd FE y (.ins ys.xR dy (aO "lies" (.ref li) [("table", .ref tb),("rooms", .ref ro),("lanes", .ref la),("letters", .ref le)]))) le=some (.lst []):=by rw[ae FA];exact Ey
  have C9:(upd FE y (.ins ys.xR dy (aO "lies" (.ref li) [("table", .ref tb),("rooms", .ref ro),("lanes", .ref la),("letters", .ref le)]))) li=some (.lst BS):=by rw[ae JI];exact Ew
  have EB:=eU (o := .ins ys.xR dy (aO "lies" (.ref li) [("table", .ref tb),("rooms", .ref ro),("lanes", .ref la),("letters", .ref le)])) AD Ez
  generalize upd FE y (.ins ys.xR dy (aO "lies" (.ref li) [("table", .ref tb),("rooms", .ref ro),("lanes", .ref la),("letters", .ref le)]))=A11 at JN EA MH Pf C7 C8 C9 EB ⊢
  refine⟨zero_le _,fun dn Ah=>?_⟩
  have MI:dn ≠ y:=Ne.symm (ag Pf Ah)
  have JO:la ≠ dn:=ag C7 Ah
  have JP:le ≠ dn:=ag C8 Ah
  have JQ:li ≠ dn:=ag C9 Ah
  have dn0:H dn=none:=by
   cases e:H dn with
   | none=>rfl
   | some u=>rw[MH _ _ (fun z=>MI (mem_singleton.mp z)) e]at Ah;cases Ah
  have EC:=(xN.refl A11).new (o := .lst []) Ah
  have FF:=EC _ _ Pf
  refine⟨_,rfl,y,ys.xR,dy,_,rfl,FF,Y.cl,Y.n6,by show 5 < 1000;decide,?_⟩
  refine q xY ro la le li dn _ (Hn (MH.trans (xN.yw EC))) la0 le0 li0 dn0 ⟨ac,eU FF (bz EC EB),⟨xW,by rw[ae Es];exact EC _ _ C7,?_⟩,⟨[],by rw[ae FA];exact EC _ _ C8, .nil⟩,⟨BS,by rw[ae JI];exact EC _ _ C9,Paired.mono (fun _ _ z=>JM FF (z.keep (xN.xX EC))) EA⟩,⟨[],by rw[ae MI];exact ac, .nil⟩,?_,(fun b hb=>let ⟨xs,hz⟩:=hex b hb; ⟨xs,(Hn (MH.trans (xN.yw EC))) b _ (Er b hb) hz⟩)⟩
  ·refine Paired.mono (fun _ _ z=>((z.new Ah).upd).J7 fun a ha=>?_) JN
   simp only[mem_cons]at ha ⊢
   rcases ha with rfl | rfl | rfl | rfl | h
   ·exact .inr (.inr (.inr (.inl rfl)))
   ·exact .inr (.inr (.inl rfl))
   ·exact .inr (.inl rfl)
   ·exact .inl rfl
   ·exact .inr (.inr (.inr (.inr h)))
  ·simp only[nodup_cons,mem_cons,not_mem_nil,or_false,not_or,not_false_eq_true,and_true,nodup_nil]
   exact⟨⟨Et,JJ,JO⟩,⟨JK,JP⟩,JQ⟩
theorem yf.off {K:Frag}{ys:Ys}{H H':Hp}{y dy tb ro la le li dn:Addr}{s:YS}(h:yf K ys H y dy tb ro la le li dn s)(o:yc (la :: le :: li :: dn :: ys.ex) H H'):H' y=some (.ins ys.xR dy (MD tb ro la le li dn))/\xV K H' ro s.rooms/\(∀ vs ss,Paired (zP H ys.yh (la :: le :: li :: dn :: ys.ex)) vs ss->Paired (zP H' ys.yh (la :: le :: li :: dn :: ys.ex)) vs ss)/\(∀ vs ss,Paired (Av H ys.xQ (la :: le :: li :: dn :: ys.ex)) vs ss->Paired (Av H' ys.xQ (la :: le :: li :: dn :: ys.ex)) vs ss)/\(∀ vs ss,Paired (yX H) vs ss->Paired (yX H') vs ss)/\∀ vs ss,Paired (y8 H) vs ss->Paired (y8 H') vs ss:=by
 have hx:=h.Bt
 have k:=o.xX hx
 refine⟨k _ _ h.ins True.intro,?_,fun vs ss=>Paired.mono fun _ _ z=>z.yw hx o,fun vs ss=>Paired.mono fun _ _ z=>z.yw hx o,fun vs ss=>Paired.mono fun _ _ z=>z.keep k,fun vs ss=>Paired.mono fun _ _ z=>z.keep k⟩
 rcases h.C4 with r | r
 ·refine .inl ?_
  rcases r with r | ⟨u,r⟩
  ·exact .inl (k _ _ r True.intro)
  ·exact .inr ⟨u,k _ _ r True.intro⟩
 ·exact .inr r
theorem cE {ex:List Addr}{a:Addr}{H:Hp}{o:HO}(ha:a ∈ ex):yc ex H (upd H a o):=fun b u nb e=>by rw[ae (fun z=>nb (by rw[z];exact ha))];exact e
theorem oW {H:Hp}{x b:Addr}{zs:List V}(h:∃ xs,H b=some (.lst xs)):∃ xs,(upd H x (.lst zs)) b=some (.lst xs):=by
 by_cases e:b=x
 ·exact⟨zs,by rw[e,ac]⟩
 ·obtain⟨xs,hz⟩:=h
  exact⟨xs,by rw[ae e];exact hz⟩
theorem yf.JR {K:Frag}{ys:Ys}{H:Hp}{y dy tb ro la le li dn:Addr}{s:YS}(h:yf K ys H y dy tb ro la le li dn s){vs:List V}{v:V}{t:cu}(hv:H le=some (.lst vs))(hL:Av H ys.xQ (la :: le :: li :: dn :: ys.ex) v t):yf K ys (upd H le (.lst (vs ++ [v]))) y dy tb ro la le li dn { s with xM:=s.xM ++ [t] }:=by
 obtain⟨h1,h2,f1,f2,f3,f4⟩:=h.off (cE (a:=le) (o := .lst (vs ++ [v])) (by simp))
 obtain⟨v1,a1,p1⟩:=h.yD
 obtain⟨v2,a2,p2⟩:=h.hle
 obtain⟨v3,a3,p3⟩:=h.AB
 obtain⟨v4,a4,p4⟩:=h.Ah
 rw[hv]at a2
 cases a2
 have ne:=h.ne
 simp only[nodup_cons,mem_cons,not_mem_nil,or_false,not_or,not_false_eq_true,and_true,nodup_nil]at ne
 have JS:Paired (Av (upd H le (.lst (vs ++ [v]))) ys.xQ (la :: le :: li :: dn :: ys.ex)) [v] [t]:=f2 [v] [t] (.cons hL .nil)
 exact⟨h1,h2,⟨v1,by rw[ae ne.1.1];exact a1,f1 _ _ p1⟩,⟨vs ++ [v],ac,Paired.snoc (by cases JS with | cons z _=>exact z) (f2 _ _ p2)⟩,⟨v3,by rw[ae (Ne.symm ne.2.1.1)];exact a3,f3 _ _ p3⟩,⟨v4,by rw[ae (Ne.symm ne.2.1.2)];exact a4,f4 _ _ p4⟩,h.ne,fun b hb=>oW (h.hex b hb)⟩
theorem yf.ED {K:Frag}{ys:Ys}{H:Hp}{y dy tb ro la le li dn:Addr}{s:YS}(h:yf K ys H y dy tb ro la le li dn s){vs:List V}{v:V}{t:List V}(hv:H dn=some (.lst vs))(hL:y8 H v t):yf K ys (upd H dn (.lst (vs ++ [v]))) y dy tb ro la le li dn { s with done:=s.done ++ [t] }:=by
 obtain⟨h1,h2,f1,f2,f3,f4⟩:=h.off (cE (a:=dn) (o := .lst (vs ++ [v])) (by simp))
 obtain⟨v1,a1,p1⟩:=h.yD
 obtain⟨v2,a2,p2⟩:=h.hle
 obtain⟨v3,a3,p3⟩:=h.AB
 obtain⟨v4,a4,p4⟩:=h.Ah
 rw[hv]at a4
 cases a4
 have ne:=h.ne
 simp only[nodup_cons,mem_cons,not_mem_nil,or_false,not_or,not_false_eq_true,and_true,nodup_nil]at ne
 have JS:Paired (y8 (upd H dn (.lst (vs ++ [v])))) [v] [t]:=f4 [v] [t] (.cons hL .nil)
 exact⟨h1,h2,⟨v1,by rw[ae ne.1.2.2];exact a1,f1 _ _ p1⟩,⟨v2,by rw[ae ne.2.1.2];exact a2,f2 _ _ p2⟩,⟨v3,by rw[ae ne.2.2];exact a3,f3 _ _ p3⟩,⟨vs ++ [v],ac,Paired.snoc (by cases JS with | cons z _=>exact z) (f4 _ _ p4)⟩,h.ne,fun b hb=>oW (h.hex b hb)⟩
inductive Pd
 | place | length | word | way | full | good
noncomputable def kJ (n:Nat)(wy:Wf)(m:Nat)(sv gv lv wv:V):Pd :=
 if (jJ sv 0 ((n:Int) - 1) && jJ gv 0 ((n:Int) - 1))=false then .place else if jJ lv 1 60=false then .length else if MB wv=false then .word
 else if vI sv=vI gv∨wy (vI sv).toNat (vI gv).toNat none=[] then .way else if 60 <= m then .full else .good
noncomputable def ip (s:YS)(a b l u:Int):YS:={ s with xM:=s.xM ++ [⟨a,b,l,u,0,[]⟩],done:=s.done ++ [[.str "post", .int a, .int b, .int l, .int u]] }
noncomputable def mJ (K:Frag)(c:Cs)(TC:Addr)(J:TJ)(ys:Ys):Sp:=fun vs H Q _=>∃ (y dy tb ro la le li dn lx yz lt:Addr)(n:Nat)(ye:List V)(ps:List (Int × Int))(wy:Wf)(s:YS)(sv gv lv wv:V),vs=[.ref y,sv,gv,lv,wv]/\yf K ys H y dy tb ro la le li dn s/\yC c TC J H tb lx yz lt n ye ps wy/\qh sv/\qh gv/\qh lv/\qh wv/\s.xM.length <= 900/\s.done.length <= 10000 /\
 (kJ n wy s.xM.length sv gv lv wv = .place->False) /\
 (kJ n wy s.xM.length sv gv lv wv = .length->False) /\
 (kJ n wy s.xM.length sv gv lv wv = .word->False) /\
 (kJ n wy s.xM.length sv gv lv wv = .way->False) /\
 (kJ n wy s.xM.length sv gv lv wv = .full->False) /\
 (kJ n wy s.xM.length sv gv lv wv = .good->∀ H',yc [le,dn] H H'->yf K ys H' y dy tb ro la le li dn (ip s (vI sv) (vI gv) (vI lv) (vI wv))->Q (.int s.xM.length) H')
abbrev NPo:List Str:=["self", "start", "goal", "length", "word", "last_place"]
abbrev JT:List Str:=["self", "start", "goal", "length", "word"]
theorem JU:ar NPo JT (al fY):=L2.yq
theorem u6 {c:Cs}{ys:Ys}{J:TJ}{TC f MF fw Pg fl:Addr}{fd MG dw Tg dl:FuncData}{t1 t2:Tok}(F:BI K "post" "Yard.post" fY f fd)(T:fR mg)(L:m6 K c)(Y:jz K ys)(W:Wy K TC MF MG J)(FG:xO P w K mg base aF 3 MF MG ["self", "place", "goal", "came"] (fU J))
  (mw:mg "is_within" = some (.ref fw)) (kw:keepIn K (.ref fw)=true) (bw:Binds K dw ["value", "least", "most"] []) (Gw:xO P w K mg base aF 2 fw dw ["value", "least", "most"] eV)
  (mwo:mg "is_word" = some (.ref Pg)) (kwo:keepIn K (.ref Pg)=true) (bwo:Binds K Tg ["word"] []) (Ph:xO P w K mg base aF 2 Pg Tg ["word"] qz)
  (ml:mg "Letter" = some (.ref ys.xQ)) (Ml:Mk K ys.xQ fl) (bl:Binds K dl ["self", "start", "goal", "length", "word"] []) (Gl:xO P w K mg base aF 1 fl dl ["self", "start", "goal", "length", "word"] (qH ys.xQ))
  (mL:mg "MOST_LENGTH" = some (.int 60 t1)) (mM:mg "MOST_LETTERS" = some (.int 60 t2)) :
  xO P w K mg base aF 4 f fd JT (mJ K c TC J ys):=by
 refine F.ok JU (fun _ _ _ _ h=>?_) (fun _ _ _ s H _ Q E hr h=>?_)
 ·obtain⟨y,dy,tb,ro,la,le,li,dn,lx,yz,lt,n,ye,ps,wy,s,sv,gv,lv,wv,rfl,_⟩:=h
  rfl
 ·obtain⟨y,dy,tb,ro,la,le,li,dn,lx,yz,lt,n,ye,ps,wy,st,sv,gv,lv,wv,rfl,hY,hT,cs,cg,cl,cw,Pj,hd9,e1,e2,e3,e4,e5,q⟩:=h
  have zh:ya 2 _:=hr.mono (by decide)
  refine⟨_,af (aD (i:=5) JU.nd rfl (Or.inl rfl) (ax cI (am (am (am (pv 0) rfl) rfl) rfl) ai))
   (af (aR (PW.pt (fD (bM (b9 (az Gw zh rfl mw kw bw .nil ap (aa (pv 1) (aa ai (aa (pv 5) ad)))))) (dW (bM (b9 (az Gw zh rfl mw kw bw .nil ap (aa (pv 2) (aa ai (aa (pv 5) ad)))))))))
    (ak b6) aE)
   (af (aR (bM (b9 (az Gw zh rfl mw kw bw .nil ap (aa (pv 3) (aa ai (aa (eY (v := .int 60) rfl mL ⟨_,rfl⟩) ad))))))
    (ak b6) aE)
   (af (aR (bM (b9 (az Ph zh rfl mwo kwo bwo .nil ap (aa (pv 4) ad))))
    (ak b6) aE)
   (af (aR (kE (PW.pt (fD (aw bG (pv 1) (pv 2) (ay _)) (dW (bM (ja (aI (am (pv 0) rfl) W.cl W.m FG hr W.b .nil ap (aa (pv 1) (aa (pv 2) (aa bH ad)))) (fun _=>rfl)))))))
    (ak b6) aE)
   (af (aR (aw vC (aB aC rfl T.len PySem.boot_len (aa (am (pv 0) rfl) ad)) (eY (v := .int 60) rfl mM ⟨_,rfl⟩) (ay _))
    (ak b6) aE)
   (af (aU (cp plainAttrs_list PySem.F.slot_list_append PySem.F.type_list_append b0 (am (pv 0) rfl) (aa (dA Ml Gl zh rfl ml bl .nil ap (aa (pv 1) (aa (pv 2) (aa (pv 3) (aa (pv 4) ad))))) ad)))
   (af (aU (cp plainAttrs_list PySem.F.slot_list_append PySem.F.type_list_append b0 (am (pv 0) rfl) (aa (aW (aa c8 (aa (pv 1) (aa (pv 2) (aa (pv 3) (aa (pv 4) ad)))))) ad)))
   (ak (au (ax cI (aB aC rfl T.len PySem.boot_len (aa (am (pv 0) rfl) ad)) ai)))))))))),?_⟩
  obtain⟨C5,fst,Bu,yN,AL⟩:=hT.i
  unfold kJ at e1 e2 e3 e4 e5 q
  refine⟨_,rfl,y,ys.xR,dy,_,_,rfl,hY.ins,Y.cl,Y.n1,rfl,tb,TC,C5,fst,_,rfl,Bu,W.cl,W.nl,yN,lx,c.land,yz,_,_,rfl,hT.l.1,L.cl,L.np,rfl,_,_,rfl,rfl,?_⟩
  refine⟨_,rfl,_,rfl,sv,0,(n:Int) - 1,rfl,cs,_,rfl,?_⟩
  cases h1:jJ sv 0 ((n:Int) - 1) with
  | false =>
   exact aN (aN (e1 (by rw[h1,Bool.false_and,if_pos rfl])))
  | true =>
  refine aJ ⟨_,rfl,_,rfl,gv,0,(n:Int) - 1,rfl,cg,_,rfl,?_⟩
  cases h2:jJ gv 0 ((n:Int) - 1) with
  | false =>
   exact aN (e1 (by rw[h1,h2,Bool.and_false,if_pos rfl]))
  | true =>
  rw[h1,h2,Bool.true_and,if_neg (by decide)]at e2 e3 e4 e5 q
  refine aJ ⟨_,rfl,lv,1,60,rfl,cl,_,rfl,?_⟩
  cases h3:jJ lv 1 60 with
  | false =>
   exact aN (e2 (by rw[h3,if_pos rfl]))
  | true =>
  rw[h3,if_neg (by decide)]at e3 e4 e5 q
  refine aJ ⟨_,rfl,wv,rfl,cw,_,rfl,?_⟩
  cases h4:MB wv with
  | false =>
   exact aN (e3 (by rw[h4,if_pos rfl]))
  | true =>
  rw[h4,if_neg (by decide)]at e4 e5 q
  refine aJ ?_
  obtain⟨a,rfl⟩:=iE h1
  obtain⟨b,rfl⟩:=iE h2
  obtain⟨l,rfl⟩:=iE h3
  obtain⟨u,rfl⟩:∃ u,wv = .int u:=by
   cases wv<;>first | exact⟨_,rfl⟩ | cases h4
  have ha:0 <= a/\a <= (n:Int) - 1:=of_decide_eq_true h1
  have hb:0 <= b/\b <= (n:Int) - 1:=of_decide_eq_true h2
  obtain⟨a',rfl⟩:∃ a':Nat,a=(a':Int):=⟨a.toNat,by omega⟩
  obtain⟨b',rfl⟩:∃ b':Nat,b=(b':Int):=⟨b.toNat,by omega⟩
  have ev:∀ z:Int,vI (.int z)=z:=fun _=>rfl
  rw[ev,ev,toNat_natCast,toNat_natCast]at e4 e5 q
  refine⟨fun k H1=>xN H H1/\k=decide ((a':Int)=(b':Int)∨wy a' b' none=[]),?_,?_⟩
  ·refine⟨_,rfl,_,rfl,rfl,_,rfl,?_⟩
   rw[bP]
   by_cases JV:(a':Int)=(b':Int)
   ·rw[decide_eq_true JV]
    exact aN ⟨xN.refl H,by rw[decide_eq_true (Or.inl JV)]⟩
   ·rw[decide_eq_false JV]
    refine aJ ⟨_,rfl,y,ys.xR,dy,_,_,rfl,hY.ins,Y.cl,Y.n1,rfl,tb,C5,fst,rfl,Bu,AL,_,rfl,_,rfl,tb,n,wy,a',b',none,rfl,hT.j,by omega,by omega,fun D H1 s1 hD gD=>⟨_, .inl ⟨_,xS.of gD,rfl⟩,s1,?_⟩⟩
    cases hw:wy a' b' none with
    | nil=>rw[decide_eq_true (Or.inr rfl)];rfl
    | cons z zs=>rw[decide_eq_false (fun z=>z.elim JV fun z=>by cases z)];rfl
  rintro k H1 ⟨s1,rfl⟩
  have Aj:=hY.same s1
  by_cases DB:(a':Int)=(b':Int)∨wy a' b' none=[]
  ·rw[decide_eq_true DB]
   exact aN (e4 (by rw[if_pos DB]))
  rw[decide_eq_false DB]
  rw[if_neg DB]at e5 q
  refine aJ ?_
  obtain⟨BU,yY,pl⟩:=Aj.hle
  have AA:BU.length=st.xM.length:=Paired.length pl
  refine⟨_,rfl,y,ys.xR,dy,_,_,rfl,Aj.ins,Y.cl,Y.n4,rfl,le,_,rfl, .inl (xS.of yY),_,_,rfl,rfl,_,rfl,?_⟩
  by_cases EE:60 <= st.xM.length
  ·rw[decide_eq_true (show (60:Int) <= (BU.length:Nat) by omega)]
   exact aN (e5 (by rw[if_pos EE]))
  rw[decide_eq_false (show ¬ (60:Int) <= (BU.length:Nat) by omega)]
  rw[if_neg EE]at q
  refine aJ ?_
  refine⟨_,rfl,y,ys.xR,dy,_,_,rfl,Aj.ins,Y.cl,Y.n4,rfl, .inl ⟨rfl,_,xS.of yY⟩,_,rfl,_,rfl,_,rfl,_,rfl,fun xl zQ nx JD Er=>⟨xl,zQ,(a':Int),(b':Int),l,u,rfl,ac,fun wa H2 BQ off Cf MJ=>⟨rfl,?_⟩⟩⟩
  have FH:xN H1 H2:=fun z o ez=>off z o (ag ez nx) (by rw[ae (ag ez nx),ae (ag ez JD)];exact ez)
  have Pk:H1 wa=none:=by
   by_cases z1:wa=xl
   ·rw[z1,ac]at BQ;cases BQ
   ·by_cases z2:wa=zQ
    ·rw[z2,ae Er,ac]at BQ;cases BQ
    ·rw[ae z1,ae z2]at BQ;exact BQ
  have Bw:=Aj.same FH
  have JW:=FH _ _ yY
  have hlv:Av H2 ys.xQ (la :: le :: li :: dn :: ys.ex) (.ref xl) ⟨(a':Int),(b':Int),l,u,0,[]⟩:=⟨xl,zQ,wa,rfl,Cf,MJ,fun z=>by obtain⟨xs,hz⟩:=Aj.Bt wa z;rw[Pk]at hz;cases hz⟩
  refine⟨le,_,_,rfl,rfl,JW,by rw[sizeLine_eq];omega,?_⟩
  have zB:=Bw.JR JW hlv
  have o3:yc [le,dn] H (upd H2 le (.lst (BU ++ [.ref xl]))):=(xN.yw (s1.trans FH)).trans (cE (by simp))
  generalize upd H2 le (.lst (BU ++ [.ref xl]))=H3 at zB o3 ⊢
  obtain⟨yS,Ho,pd⟩:=zB.Ah
  have Dx:yS.length=st.done.length:=Paired.length pd
  refine⟨_,rfl,y,ys.xR,dy,_,_,rfl,zB.ins,Y.cl,Y.n6,rfl, .inl ⟨rfl,_,xS.of Ho⟩,_,rfl,_,rfl,_,rfl,_,rfl,by show 5 <= sizeLine;decide,fun t ht=>?_⟩
  have MK:=(xN.refl H3).new (o := .tup [.str "post", .int (a':Int), .int (b':Int), .int l, .int u]) ht
  have ML:(upd H3 t (.tup [.str "post", .int (a':Int), .int (b':Int), .int l, .int u])) t=some (.tup [.str "post", .int (a':Int), .int (b':Int), .int l, .int u]):=ac
  generalize upd H3 t (.tup [.str "post", .int (a':Int), .int (b':Int), .int l, .int u])=H4 at MK ML ⊢
  have Ci:=zB.same MK
  have JX:=MK _ _ Ho
  refine⟨dn,_,_,rfl,rfl,JX,by rw[sizeLine_eq];omega,?_⟩
  have FI:=Ci.ED JX ⟨t,rfl,ML⟩
  have o5:yc [le,dn] H (upd H4 dn (.lst (yS ++ [.ref t]))):=(o3.trans (xN.yw MK)).trans (cE (by simp))
  generalize upd H4 dn (.lst (yS ++ [.ref t]))=H5 at FI o5 ⊢
  obtain⟨Th,Pl,pl5⟩:=FI.hle
  have JY:Th.length=st.xM.length + 1:=by rw[Paired.length pl5,length_append];rfl
  refine⟨_,rfl,y,ys.xR,dy,_,_,rfl,FI.ins,Y.cl,Y.n4,rfl,le,_,rfl, .inl (xS.of Pl),_,_,rfl,rfl,?_⟩
  have er:((Th.length:Nat):Int) - 1=(st.xM.length:Int):=by omega
  dsimp only
  rw[er]
  exact q rfl H5 o5 FI
theorem jV {K:Frag}{a:Addr}{xs:List V}{g:TG}{te:TE}{σ0:St}{H:Hp}{Q:VK}(f:Nat->V)(hn:xs.length < sizeLine)(ha:xS K H a xs)
  (hs:∀ (i:Nat)(x:V)(N:V->Hp->Prop),xs[i]? = some x->N (f i) H->g x σ0 H fun σ2 H2=>te σ2 H2 N)
  (hq:∀ D,H D=none->Q (.ref D) (upd H D (.lst ((List.range xs.length).map f)))):cQ (tL K a) g j4 te σ0 Q H:=by
 refine b8 xs.length hn (fun i acc H'=>H' = H/\acc=(List.range i).map f) ⟨rfl,rfl⟩ (fun i acc H' h=>by rw[h.2,length_map,length_range];exact le_refl _) (fun i acc H' hi h=>?_) (fun acc H' h=>?_)
 ·obtain⟨rfl,rfl⟩:=h
  refine⟨⟨xs,xs[i],ha,by simp[hi]⟩,fun v H2 y=>?_⟩
  obtain⟨e,y⟩:=y
  subst e
  exact hs i v (fun y H4=>H4=H2/\(List.range i).map f ++ [y]=(List.range (i + 1)).map f) (y xs ha) ⟨rfl,by rw[range_succ,map_append];rfl⟩
 ·obtain⟨rfl,rfl⟩:=h
  exact⟨⟨xs,ha,le_refl _⟩,hq⟩
theorem iZ {α β:Type}(xs:List α)(d:α)(f:α->β):(List.range xs.length).map (fun i=>f (xs.getD i d))=xs.map f:=by
 refine List.ext_getElem (by simp) fun i h1 h2=>?_
 simp only[getElem_map,List.getElem_range]
 rw[getD_eq_getElem?_getD,getElem?_eq_getElem (by simpa using h2)];rfl
noncomputable def Pm (K:Frag):List V->Hp->VK->Prop:=fun xs H Q=>∃ (p:Addr)(ys:List V),xs=[.ref p]/\(xS K H p ys∨xV K H p ys)/\Q (.int (ys.length:Nat)) H
theorem nN {K:Frag}{T:Addr}{o:Obj}{n:Nat}{kV doc pm cdv ct:Value}{an:Option Addr}(ho:K.lookup T=some o)(hs:o.data = .seq #[Value.none] n) :
  Binds K (fnOf "__init__" "Yard.__init__" (bJ gL) (aG gL) (al gL) (.ref T) kV doc pm an cdv ct) ["self", "table", "rooms"] []:=fun s us CP hl=>by
 have hl:us.length=3:=by rw[append_nil]at hl;exact hl
 obtain⟨a,us0,rfl,Hq⟩:=L2.DU hl
 obtain⟨b,us1,rfl,AI⟩:=L2.DU Hq
 obtain⟨c,Dc,rfl,zI⟩:=L2.DU AI
 obtain rfl:=List.eq_nil_of_length_eq_zero zI
 exact BindsTo.of_defaults rfl (CP _ _ ho) hs rfl rfl
theorem mj {K:Frag}{T:Addr}{o:Obj}{n:Nat}{tk:Tok}{kV doc pm cdv ct:Value}{an:Option Addr}(ho:K.lookup T=some o)(hs:o.data = .seq #[Value.int 0 tk] n) :
  Binds K (fnOf "post" "Yard.post" (bJ fY) (aG fY) (al fY) (.ref T) kV doc pm an cdv ct) JT []:=fun s us CP hl=>by
 have hl:us.length=5:=by rw[append_nil]at hl;exact hl
 obtain⟨a,us0,rfl,Hq⟩:=L2.DU hl
 obtain⟨b,us1,rfl,AI⟩:=L2.DU Hq
 obtain⟨c,Dc,rfl,zI⟩:=L2.DU AI
 obtain⟨d,Ti,rfl,hl3⟩:=L2.DU zI
 obtain⟨e,us4,rfl,hl4⟩:=L2.DU hl3
 obtain rfl:=List.eq_nil_of_length_eq_zero hl4
 exact BindsTo.of_defaults rfl (CP _ _ ho) hs rfl rfl
noncomputable def v8 (C:Addr):Sp:=fun vs H Q _=>∃ (x dx pa:Addr)(r b:Int)(h:Option Int)(xZ:List V)(qs:List (Int × Int)),vs=[.ref x]/\yj H C x dx pa r b h xZ qs/\∀ (x' BD Cj:Addr)(H':Hp),xN H H'->H x' = none->H Cj = none->yj H' C x' BD Cj r b h xZ qs->Q (.ref x') H'
noncomputable def v5 (C:Addr):Sp:=fun vs H Q _=>∃ (x dx wa:Addr)(s:cu),vs=[.ref x]/\H x=some (.ins C dx (nv s wa))/\H wa=some (.lst (nV s.way))/\∀ (x' BD Bx:Addr)(H':Hp),xN H H'->H x' = none->H Bx = none->H' x' = some (.ins C BD (nv s Bx))->H' Bx = some (.lst (nV s.way))->Q (.ref x') H'
theorem EF:ar ["self", "other"] ["self"] (al wo):=L2.yq
theorem wU {C f fl:Addr}{fd dl:FuncData}(F:yn K "twin" "Lane.twin" wo f fd)(T:fR mg)(L:vM K C)(ml:mg "Lane" = some (.ref C))(Ml:Mk K C fl)(bl:Binds K dl ["self", "room"] [])(Gl:xO P w K mg base aF 1 fl dl ["self", "room"] (qI C)) :
  xO P w K mg base aF 3 f fd ["self"] (v8 C):=by
 refine F.ok EF (fun _ _ _ _ h=>?_) (fun _ _ _ s H _ Q E hr h=>?_)
 ·obtain⟨x,dx,pa,r,b,h,xZ,qs,rfl,_⟩:=h
  rfl
 ·obtain⟨x,dx,pa,r,b,h,xZ,qs,rfl,hL,q⟩:=h
  refine⟨_,af (aD (i:=1) EF.nd rfl (Or.inl rfl) (dA Ml Gl hr rfl ml bl .nil ap (aa (am (pv 0) rfl) ad)))
   (af (aZ (pv 1) (am (pv 0) rfl) rfl)
   (af (aZ (pv 1) (am (pv 0) rfl) rfl)
   (af (aZ (pv 1) (aY bW rfl T.list PySem.Pv.boot_list (aa (am (pv 0) rfl) ad)) rfl)
   (ak (au (pv 1)))))),?_⟩
  refine⟨_,rfl,x,C,dx,_,_,rfl,hL.ins,L.cl,L.n1,rfl,fun x' d' nx nd ne=>⟨x',d',r,rfl,ac,fun FJ H1 D5 off CY=>⟨rfl,?_⟩⟩⟩
  have s1:xN H H1:=fun z o ez=>off z o (ag ez nx) (by rw[ae (ag ez nx),ae (ag ez nd)];exact ez)
  have hi1:=CY.ins
  clear D5 off CY
  refine⟨_,rfl,x,C,dx,_,_,rfl,s1 _ _ hL.ins,L.cl,L.n2,rfl,_,rfl,x',C,d',_,rfl,hi1,L.cl,L.n2,by show 4 < 1000;decide,?_⟩
  have o2:∀ o',xN H (upd H1 x' o'):=fun o' z o ez=>by rw[ae (ag ez nx)];exact s1 _ _ ez
  refine⟨_,rfl,x,C,dx,_,_,rfl,o2 _ _ _ hL.ins,L.cl,L.n3,rfl,_,rfl,x',C,d',_,rfl,ac,L.cl,L.n3,by show 4 < 1000;decide,?_⟩
  have o3:∀ o' Tj,xN H (upd (upd H1 x' o') x' Tj):=fun o' Tj z o ez=>by rw[ae (ag ez nx)];exact o2 _ _ _ ez
  have s3:=o3 (.ins C d' (aO "returning" (.int b) (iw r 0 (hV none) FJ))) (.ins C d' (aO "holder" (hV h) (aO "returning" (.int b) (iw r 0 (hV none) FJ))))
  have FK:(upd (upd H1 x' (.ins C d' (aO "returning" (.int b) (iw r 0 (hV none) FJ)))) x' (.ins C d' (aO "holder" (hV h) (aO "returning" (.int b) (iw r 0 (hV none) FJ))))) x' = some (.ins C d' (iw r b (hV h) FJ)):=ac
  generalize upd (upd H1 x' (.ins C d' (aO "returning" (.int b) (iw r 0 (hV none) FJ)))) x' (.ins C d' (aO "holder" (hV h) (aO "returning" (.int b) (iw r 0 (hV none) FJ))))=H3 at s3 FK ⊢
  refine⟨_,rfl,x,C,dx,_,_,rfl,s3 _ _ hL.ins,L.cl,L.n4,rfl,pa,_,rfl, .inl (xS.of (s3 _ _ hL.lst)),fun Cj FL=>?_⟩
  have BO:H Cj = none:=by
   cases e:H Cj with
   | none=>rfl
   | some o=>rw[s3 _ _ e]at FL;cases FL
  have JZ:x' ≠ Cj:=ag FK FL
  refine⟨_,rfl,x',C,d',_,rfl,by rw[ae JZ];exact FK,L.cl,L.n4,by show 4 < 1000;decide,_,rfl,?_⟩
  have s4:∀ o',xN H (upd (upd H3 Cj (.lst xZ)) x' o'):=fun o' z o ez=>by rw[ae (ag ez nx),ae (ag ez BO)];exact s3 _ _ ez
  exact q x' d' Cj _ (s4 _) nx BO ⟨ac,by rw[ae (Ne.symm JZ)];exact ac,yk.same (s4 _) hL.yR⟩
theorem EG:ar ["self", "other"] ["self"] (al qY):=L2.yq
theorem wS {ys:Ys}{f fl:Addr}{fd dl:FuncData}(F:yn K "twin" "Letter.twin" qY f fd)(T:fR mg)(Y:jz K ys)(ml:mg "Letter" = some (.ref ys.xQ))(Ml:Mk K ys.xQ fl)(bl:Binds K dl ["self", "start", "goal", "length", "word"] [])(Gl:xO P w K mg base aF 1 fl dl ["self", "start", "goal", "length", "word"] (qH ys.xQ)) :
  xO P w K mg base aF 3 f fd ["self"] (v5 ys.xQ):=by
 refine F.ok EG (fun _ _ _ _ h=>?_) (fun _ _ _ s H _ Q E hr h=>?_)
 ·obtain⟨x,dx,wa,s,rfl,_⟩:=h
  rfl
 ·obtain⟨x,dx,wa,t,rfl,hx,hw,q⟩:=h
  refine⟨_,af (aD (i:=1) EG.nd rfl (Or.inl rfl) (dA Ml Gl hr rfl ml bl .nil ap (aa (am (pv 0) rfl) (aa (am (pv 0) rfl) (aa (am (pv 0) rfl) (aa (am (pv 0) rfl) ad))))))
   (af (aZ (pv 1) (am (pv 0) rfl) rfl)
   (af (aZ (pv 1) (aY bW rfl T.list PySem.Pv.boot_list (aa (am (pv 0) rfl) ad)) rfl)
   (ak (au (pv 1))))),?_⟩
  refine⟨_,rfl,x,ys.xQ,dx,_,_,rfl,hx,Y.ct,Y.t1,rfl,_,rfl,x,ys.xQ,dx,_,_,rfl,hx,Y.ct,Y.t2,rfl,_,rfl,x,ys.xQ,dx,_,_,rfl,hx,Y.ct,Y.t3,rfl,_,rfl,x,ys.xQ,dx,_,_,rfl,hx,Y.ct,Y.t4,rfl,fun x' d' nx nd ne=>⟨x',d',t.start,t.goal,t.len,t.word,rfl,ac,fun w0 H1 hw0 off zi Dd=>⟨rfl,?_⟩⟩⟩
  have s1:xN H H1:=fun z o ez=>off z o (ag ez nx) (by rw[ae (ag ez nx),ae (ag ez nd)];exact ez)
  clear hw0 off Dd
  refine⟨_,rfl,x,ys.xQ,dx,_,_,rfl,s1 _ _ hx,Y.ct,Y.t5,rfl,_,rfl,x',ys.xQ,d',_,rfl,zi,Y.ct,Y.t5,by show 6 < 1000;decide,?_⟩
  have s3:xN H (upd H1 x' (.ins ys.xQ d' (aO "gone" (.int t.gone) (nv ⟨t.start,t.goal,t.len,t.word,0,[]⟩ w0)))):=fun z o ez=>by rw[ae (ag ez nx)];exact s1 _ _ ez
  have FK:(upd H1 x' (.ins ys.xQ d' (aO "gone" (.int t.gone) (nv ⟨t.start,t.goal,t.len,t.word,0,[]⟩ w0)))) x' = some (.ins ys.xQ d' (nv ⟨t.start,t.goal,t.len,t.word,t.gone,[]⟩ w0)):=ac
  show _
  generalize upd H1 x' (.ins ys.xQ d' (aO "gone" (.int t.gone) (nv ⟨t.start,t.goal,t.len,t.word,0,[]⟩ w0)))=H3 at s3 FK ⊢
  refine⟨_,rfl,x,ys.xQ,dx,_,_,rfl,s3 _ _ hx,Y.ct,Y.t6,rfl,wa,_,rfl, .inl (xS.of (s3 _ _ hw)),fun Bx FN=>?_⟩
  have BQ:H Bx = none:=by
   cases e:H Bx with
   | none=>rfl
   | some o=>rw[s3 _ _ e]at FN;cases FN
  have JZ:x' ≠ Bx:=ag FK FN
  refine⟨_,rfl,x',ys.xQ,d',_,rfl,by rw[ae JZ];exact FK,Y.ct,Y.t6,by show 6 < 1000;decide,_,rfl,?_⟩
  have s4:∀ o',xN H (upd (upd H3 Bx (.lst (nV t.way))) x' o'):=fun o' z o ez=>by rw[ae (ag ez nx),ae (ag ez BQ)];exact s3 _ _ ez
  exact q x' d' Bx _ (s4 _) nx BQ ac (by rw[ae (Ne.symm JZ)];exact ac)
structure YA where
 y:Addr
 dy:Addr
 tb:Addr
 ro:Addr
 la:Addr
 le:Addr
 li:Addr
 dn:Addr
 lx:Addr
 yz:Addr
 lt:Addr
 n:Nat
 ye:List V
 ps:List (Int × Int)
 wy:Wf
abbrev yU (K:Frag)(ys:Ys)(H:Hp)(a:YA)(s:YS):Prop:=yf K ys H a.y a.dy a.tb a.ro a.la a.le a.li a.dn s
abbrev qk (c:Cs)(TC:Addr)(J:TJ)(H:Hp)(a:YA):Prop:=yC c TC J H a.tb a.lx a.yz a.lt a.n a.ye a.ps a.wy
abbrev YA.four (a:YA):List Addr:=[a.la,a.le,a.li,a.dn]
theorem Paired.set {α β:Type}{R:α->β->Prop}{v:α}{r:β}(h:R v r):∀ {vs:List α}{rs:List β}(i:Nat),Paired R vs rs->Paired R (vs.set i v) (rs.set i r)
 | _,_,_, .nil => .nil
 | _,_,0, .cons _ t => .cons h t
 | _,_,i + 1, .cons x t => .cons x (Paired.set h i t)
theorem yc.mono {ex GO:List Addr}{H H':Hp}(h:∀ b ∈ ex,b ∈ GO)(o:yc ex H H'):yc GO H H':=fun b u nb e=>o b u (fun z=>nb (h b z)) e
theorem jM {K:Frag}{ys:Ys}{H:Hp}{a:YA}{s:YS}(h:yU K ys H a s){p:Addr}(hp:H p=none):p ∉ a.la :: a.le :: a.li :: a.dn :: ys.ex:=fun z=>by obtain⟨xs,hz⟩:=yf.Bt h p z;rw[hp]at hz;cases hz
theorem kY {H H2:Hp}{x b:Addr}{zs:List V}(o:yc [x] H H2)(hx:H2 x=some (.lst zs))(h:∃ xs,H b=some (.lst xs)):∃ xs,H2 b=some (.lst xs):=by
 by_cases e:b=x
 ·exact⟨zs,by rw[e];exact hx⟩
 ·obtain⟨xs,hz⟩:=h
  exact⟨xs,o _ _ (by simpa using e) hz⟩
theorem yU.Aw {K:Frag}{ys:Ys}{H H2:Hp}{a:YA}{s:YS}(h:yU K ys H a s){vs:List V}(hv:H a.la=some (.lst vs))(o:yc [a.la] H H2){k:Nat}{x dx pa:Addr}(hl:H2 a.la=some (.lst (vs.set k (.ref x)))){ln:yr}{xZ:List V}
  (L:yj H2 ys.yh x dx pa ln.r ln.b ln.h xZ ln.qs) (np:H pa=none):yU K ys H2 a { s with lanes:=s.lanes.set k ln }:=by
 obtain⟨h1,h2,f1,f2,f3,f4⟩:=yf.off h (o.mono (by simp))
 obtain⟨v1,a1,p1⟩:=h.yD
 obtain⟨v2,a2,p2⟩:=h.hle
 obtain⟨v3,a3,p3⟩:=h.AB
 obtain⟨v4,a4,p4⟩:=h.Ah
 rw[hv]at a1
 cases a1
 have ne:=h.ne
 simp only[nodup_cons,mem_cons,not_mem_nil,or_false,not_or,not_false_eq_true,and_true,nodup_nil]at ne
 exact⟨h1,h2,⟨_,hl,Paired.set ⟨x,dx,pa,xZ,rfl,L,jM h np⟩ k (f1 _ _ p1)⟩,⟨v2,o _ _ (by simp;exact Ne.symm ne.1.1) a2,f2 _ _ p2⟩,⟨v3,o _ _ (by simp;exact Ne.symm ne.1.2.1) a3,f3 _ _ p3⟩,⟨v4,o _ _ (by simp;exact Ne.symm ne.1.2.2) a4,f4 _ _ p4⟩,h.ne,fun b hb=>kY o hl (h.hex b hb)⟩
theorem yU.CA {K:Frag}{ys:Ys}{H H2:Hp}{a:YA}{s:YS}(h:yU K ys H a s){vs:List V}(hv:H a.le=some (.lst vs))(o:yc [a.le] H H2){k:Nat}{x dx wa:Addr}(hl:H2 a.le=some (.lst (vs.set k (.ref x)))){t:cu}
  (hx:H2 x=some (.ins ys.xQ dx (nv t wa))) (hw:H2 wa=some (.lst (nV t.way))) (np:H wa=none):yU K ys H2 a { s with xM:=s.xM.set k t }:=by
 obtain⟨h1,h2,f1,f2,f3,f4⟩:=yf.off h (o.mono (by simp))
 obtain⟨v1,a1,p1⟩:=h.yD
 obtain⟨v2,a2,p2⟩:=h.hle
 obtain⟨v3,a3,p3⟩:=h.AB
 obtain⟨v4,a4,p4⟩:=h.Ah
 rw[hv]at a2
 cases a2
 have ne:=h.ne
 simp only[nodup_cons,mem_cons,not_mem_nil,or_false,not_or,not_false_eq_true,and_true,nodup_nil]at ne
 exact⟨h1,h2,⟨v1,o _ _ (by simp;exact ne.1.1) a1,f1 _ _ p1⟩,⟨_,hl,Paired.set ⟨x,dx,wa,rfl,hx,hw,jM h np⟩ k (f2 _ _ p2)⟩,⟨v3,o _ _ (by simp;exact Ne.symm ne.2.1.1) a3,f3 _ _ p3⟩,⟨v4,o _ _ (by simp;exact Ne.symm ne.2.1.2) a4,f4 _ _ p4⟩,h.ne,fun b hb=>kY o hl (h.hex b hb)⟩
theorem yU.FO {K:Frag}{ys:Ys}{H H2:Hp}{a:YA}{s:YS}(h:yU K ys H a s){vs:List V}(hv:H a.li=some (.lst vs))(o:yc [a.li] H H2){k:Nat}{v:V}(hl:H2 a.li=some (.lst (vs.set k v))){qs:List (Int × Int)}
  (L:yX H2 v qs):yU K ys H2 a { s with lies:=s.lies.set k qs }:=by
 obtain⟨h1,h2,f1,f2,f3,f4⟩:=yf.off h (o.mono (by simp))
 obtain⟨v1,a1,p1⟩:=h.yD
 obtain⟨v2,a2,p2⟩:=h.hle
 obtain⟨v3,a3,p3⟩:=h.AB
 obtain⟨v4,a4,p4⟩:=h.Ah
 rw[hv]at a3
 cases a3
 have ne:=h.ne
 simp only[nodup_cons,mem_cons,not_mem_nil,or_false,not_or,not_false_eq_true,and_true,nodup_nil]at ne
 exact⟨h1,h2,⟨v1,o _ _ (by simp;exact ne.1.2.1) a1,f1 _ _ p1⟩,⟨v2,o _ _ (by simp;exact ne.2.1.1) a2,f2 _ _ p2⟩,⟨_,hl,Paired.set L k (f3 _ _ p3)⟩,⟨v4,o _ _ (by simp;exact Ne.symm ne.2.2) a4,f4 _ _ p4⟩,h.ne,fun b hb=>kY o hl (h.hex b hb)⟩
noncomputable def qF (K:Frag)(ys:Ys):Sp:=fun vs H Q _=>∃ (a:YA)(s:YS)(k:Nat)(ln:yr)(xW:List V),vs=[.ref a.y, .int k]/\yU K ys H a s/\s.lanes[k]? = some ln/\H a.la=some (.lst xW) /\
 ∀ (x dx pa:Addr)(xZ:List V)(H':Hp),yc [a.la] H H'->H x=none->H pa=none->H' a.la=some (.lst (xW.set k (.ref x)))->yj H' ys.yh x dx pa ln.r ln.b ln.h xZ ln.qs->Q (.ref x) H'
noncomputable def qD (K:Frag)(ys:Ys):Sp:=fun vs H Q _=>∃ (a:YA)(s:YS)(k:Nat)(t:cu)(ye:List V),vs=[.ref a.y, .int k]/\yU K ys H a s/\s.xM[k]? = some t/\H a.le=some (.lst ye) /\
 ∀ (x dx wa:Addr)(H':Hp),yc [a.le] H H'->H x=none->H wa=none->H' a.le=some (.lst (ye.set k (.ref x)))->H' x=some (.ins ys.xQ dx (nv t wa))->H' wa=some (.lst (nV t.way))->Q (.ref x) H'
noncomputable def v9 (K:Frag)(ys:Ys):Sp:=fun vs H Q _=>∃ (a:YA)(s:YS)(v:V)(q:Int × Int)(p:Nat)(qs:List (Int × Int)),vs=[.ref a.y,v, .int p]/\yU K ys H a s/\vk H v q/\s.lies[p]? = some qs/\qs.length <= 100000 /\
 ∀ H',yc [a.li] H H'->yU K ys H' a { s with lies:=s.lies.set p (qs ++ [q]) }->Q .yd H'
noncomputable def ou (K:Frag)(ys:Ys):Sp:=fun vs H Q _=>∃ (a:YA)(s:YS)(p:Nat)(qs:List (Int × Int)),vs=[.ref a.y, .int p]/\yU K ys H a s/\s.lies[p]? = some qs /\
 ∀ (D:Addr)(xZ:List V)(H':Hp),xN H H'->H D=none->H' D=some (.lst xZ)->yk H' xZ qs->Q (.ref D) H'
theorem wc:ar ["self", "lane"] ["self", "lane"] (al qT):=L2.yq
theorem u8 {ys:Ys}{f ft:Addr}{fd dt:FuncData}(F:yn K "own_lane" "Yard.own_lane" qT f fd)(Y:jz K ys)(mt:bK K ys.yh "twin" ft)(bt:Binds K dt ["self"] [])(Gt:xO P w K mg base aF 3 ft dt ["self"] (v8 ys.yh)) :
  xO P w K mg base aF 4 f fd ["self", "lane"] (qF K ys):=by
 refine F.ok wc (fun _ _ _ _ h=>?_) (fun _ _ _ s H _ Q E hr h=>?_)
 ·obtain⟨a,s,k,ln,xW,rfl,_⟩:=h
  rfl
 ·obtain⟨a,st,k,ln,xW,rfl,hY,hk,yF,q⟩:=h
  refine⟨_,af (gW (bC (ao aA (am (pv 0) rfl) (pv 1) (fun _ _=>rfl)) Y.L.cl mt Gt hr bt .nil ap) (nj (am (pv 0) rfl) (pv 1) iU))
   (ak (au (ao aA (am (pv 0) rfl) (pv 1) (fun _ _=>rfl)))),?_⟩
  obtain⟨lvs',Ka,pl⟩:=hY.yD
  rw[yF]at Ka
  cases Ka
  obtain⟨v,hv,x,dx,pa,xZ,rfl,hL,_⟩:=Paired.at2 pl hk
  have BV:k < xW.length:=(gQ0 hv)
  refine⟨_,rfl,a.y,ys.xR,a.dy,_,_,rfl,hY.ins,Y.cl,Y.n3,rfl,_,rfl,a.la,xW,(k:Int),_,rfl,rfl,xS.of yF,aj hv,x,dx,_,rfl,hL.ins,rfl,?_⟩
  refine⟨x,dx,pa,ln.r,ln.b,ln.h,xZ,ln.qs,rfl,hL,fun x' BD Cj H1 s1 nx D8 CY=>?_⟩
  refine⟨_,rfl,a.y,ys.xR,a.dy,_,_,rfl,s1 _ _ hY.ins,Y.cl,Y.n3,rfl,_,rfl,a.la,xW,(k:Int),k,rfl,rfl,s1 _ _ yF,iF BV,?_⟩
  have o1:yc [a.la] H (upd H1 a.la (.lst (xW.set k (.ref x')))):=(xN.yw s1).trans (cE (by simp))
  have g1:(upd H1 a.la (.lst (xW.set k (.ref x')))) a.la=some (.lst (xW.set k (.ref x'))):=ac
  have zN:yj (upd H1 a.la (.lst (xW.set k (.ref x')))) ys.yh x' BD Cj ln.r ln.b ln.h xZ ln.qs:=by
   have n1:x' ≠ a.la:=aV CY.ins (s1 _ _ yF) (by intro z;cases z)
   have n2:Cj ≠ a.la:=fun z=>by rw[z,yF]at D8;cases D8
   exact⟨by rw[ae n1];exact CY.ins,by rw[ae n2];exact CY.lst,yk.yw (ex:=[a.la]) (fun b hb=>by simp at hb;subst hb;exact⟨_,s1 _ _ yF⟩) (cE (by simp)) CY.yR⟩
  generalize upd H1 a.la (.lst (xW.set k (.ref x')))=H2 at o1 g1 zN ⊢
  have Pn:H2 a.y=some (.ins ys.xR a.dy (MD a.tb a.ro a.la a.le a.li a.dn)):=o1 _ _ (by simp;exact aV hY.ins yF (by intro z;cases z)) hY.ins
  exact⟨_,rfl,a.y,ys.xR,a.dy,_,_,rfl,Pn,Y.cl,Y.n3,rfl,_,rfl,a.la,_,(k:Int), .ref x',rfl,rfl,xS.of g1,aj (by simp[BV]),q x' BD Cj xZ H2 o1 nx D8 g1 zN⟩
theorem wb:ar ["self", "number"] ["self", "number"] (al qS):=L2.yq
theorem u7 {ys:Ys}{f ft:Addr}{fd dt:FuncData}(F:yn K "own_letter" "Yard.own_letter" qS f fd)(Y:jz K ys)(mt:bK K ys.xQ "twin" ft)(bt:Binds K dt ["self"] [])(Gt:xO P w K mg base aF 3 ft dt ["self"] (v5 ys.xQ)) :
  xO P w K mg base aF 4 f fd ["self", "number"] (qD K ys):=by
 refine F.ok wb (fun _ _ _ _ h=>?_) (fun _ _ _ s H _ Q E hr h=>?_)
 ·obtain⟨a,s,k,ln,xW,rfl,_⟩:=h
  rfl
 ·obtain⟨a,st,k,t,ye,rfl,hY,hk,yY,q⟩:=h
  refine⟨_,af (gW (bC (ao aA (am (pv 0) rfl) (pv 1) (fun _ _=>rfl)) Y.ct mt Gt hr bt .nil ap) (nj (am (pv 0) rfl) (pv 1) iU))
   (ak (au (ao aA (am (pv 0) rfl) (pv 1) (fun _ _=>rfl)))),?_⟩
  obtain⟨BU,Kb,pl⟩:=hY.hle
  rw[yY]at Kb
  cases Kb
  obtain⟨v,hv,x,dx,wa,rfl,hx,hw,_⟩:=Paired.at2 pl hk
  have BV:k < ye.length:=(gQ0 hv)
  refine⟨_,rfl,a.y,ys.xR,a.dy,_,_,rfl,hY.ins,Y.cl,Y.n4,rfl,_,rfl,a.le,ye,(k:Int),_,rfl,rfl,xS.of yY,aj hv,x,dx,_,rfl,hx,rfl,?_⟩
  refine⟨x,dx,wa,t,rfl,hx,hw,fun x' BD Bx H1 s1 nx D8 zi Dd=>?_⟩
  refine⟨_,rfl,a.y,ys.xR,a.dy,_,_,rfl,s1 _ _ hY.ins,Y.cl,Y.n4,rfl,_,rfl,a.le,ye,(k:Int),k,rfl,rfl,s1 _ _ yY,iF BV,?_⟩
  have o1:yc [a.le] H (upd H1 a.le (.lst (ye.set k (.ref x')))):=(xN.yw s1).trans (cE (by simp))
  have g1:(upd H1 a.le (.lst (ye.set k (.ref x')))) a.le=some (.lst (ye.set k (.ref x'))):=ac
  have n1:x' ≠ a.le:=aV zi (s1 _ _ yY) (by intro z;cases z)
  have n2:Bx ≠ a.le:=fun z=>by rw[z,yY]at D8;cases D8
  have Cf:(upd H1 a.le (.lst (ye.set k (.ref x')))) x' = some (.ins ys.xQ BD (nv t Bx)):=by rw[ae n1];exact zi
  have MJ:(upd H1 a.le (.lst (ye.set k (.ref x')))) Bx = some (.lst (nV t.way)):=by rw[ae n2];exact Dd
  generalize upd H1 a.le (.lst (ye.set k (.ref x')))=H2 at o1 g1 Cf MJ ⊢
  have Pn:H2 a.y=some (.ins ys.xR a.dy (MD a.tb a.ro a.la a.le a.li a.dn)):=o1 _ _ (by simp;exact aV hY.ins yY (by intro z;cases z)) hY.ins
  exact⟨_,rfl,a.y,ys.xR,a.dy,_,_,rfl,Pn,Y.cl,Y.n4,rfl,_,rfl,a.le,_,(k:Int), .ref x',rfl,rfl,xS.of g1,aj (by simp[BV]),q x' BD Bx H2 o1 nx D8 g1 Cf MJ⟩
theorem Kc:ar ["self", "piece", "place"] ["self", "piece", "place"] (al wt):=L2.yq
theorem wW {ys:Ys}{f:Addr}{fd:FuncData}(F:yn K "lay" "Yard.lay" wt f fd)(Y:jz K ys):xO P w K mg base aF 1 f fd ["self", "piece", "place"] (v9 K ys):=by
 refine F.ok Kc (fun _ _ _ _ h=>?_) (fun _ _ _ s H _ Q E hr h=>?_)
 ·obtain⟨a,s,v,q,p,qs,rfl,_⟩:=h
  rfl
 ·obtain⟨a,st,v,qp,p,qs,rfl,hY,hv,hp,hlen,q⟩:=h
  refine⟨_,ak (gW (ax uv (ao aA (am (pv 0) rfl) (pv 2) (fun _ _=>rfl)) (aW (aa (pv 1) ad))) (nj (am (pv 0) rfl) (pv 2) iU)),?_⟩
  obtain⟨xW,BW,pl⟩:=hY.AB
  obtain⟨v0,MN,t0,CB,rfl,De,Kd⟩:=Paired.at2 pl hp
  have BV:p < xW.length:=(gQ0 MN)
  have Hq:CB.length=qs.length:=Paired.length Kd
  refine⟨_,rfl,a.y,ys.xR,a.dy,_,_,rfl,hY.ins,Y.cl,Y.n5,rfl,_,rfl,a.li,xW,(p:Int),_,rfl,rfl,xS.of BW,aj MN,_,rfl,by show 1 <= sizeLine;decide,fun t ht=>?_⟩
  have s1:=(xN.refl H).new (o := .tup [v]) ht
  have g1:(upd H t (.tup [v])) t=some (.tup [v]):=ac
  generalize upd H t (.tup [v])=H1 at s1 g1 ⊢
  have fin:∀ (z:Addr)(H2:Hp),xN H H2->yX H2 (.ref z) (qs ++ [qp])->Q .yd (upd H2 a.li (.lst (xW.set p (.ref z)))):=fun z H2 s2 hz=>by
   have o2:yc [a.li] H (upd H2 a.li (.lst (xW.set p (.ref z)))):=(xN.yw s2).trans (cE (by simp))
   refine q _ o2 (yU.FO hY BW o2 ac ?_)
   obtain⟨tz,vz,ez,Jg,M3⟩:=hz
   cases ez
   have nz:z ≠ a.li:=aV Jg (s2 _ _ BW) (by intro y;cases y)
   exact⟨z,vz,rfl,by rw[ae nz];exact Jg,yk.yw (ex:=[a.li]) (fun b hb=>by simp at hb;subst hb;exact⟨_,s2 _ _ BW⟩) (cE (by simp)) M3⟩
  refine⟨t0,t,CB,[v],rfl,rfl,xV.of (s1 _ _ De),xV.of g1,by simp,by rw[sizeLine_eq];simp;omega,fun e0=>?_,fun e0 p2 Po=>?_⟩
  ·subst e0
   cases Kd
   refine⟨_,rfl,a.y,ys.xR,a.dy,_,_,rfl,s1 _ _ hY.ins,Y.cl,Y.n5,rfl,_,rfl,a.li,xW,(p:Int),p,rfl,rfl,s1 _ _ BW,iF BV,?_⟩
   exact fin t H1 s1 ⟨t,[v],rfl,g1, .cons (let ⟨u,e,hu⟩:=hv; ⟨u,e,s1 _ _ hu⟩) .nil⟩
  ·have s2:=s1.new (o := .tup (CB ++ [v])) Po
   have g2:(upd H1 p2 (.tup (CB ++ [v]))) p2=some (.tup (CB ++ [v])):=ac
   generalize upd H1 p2 (.tup (CB ++ [v]))=H2 at s2 g2 ⊢
   refine⟨_,rfl,a.y,ys.xR,a.dy,_,_,rfl,s2 _ _ hY.ins,Y.cl,Y.n5,rfl,_,rfl,a.li,xW,(p:Int),p,rfl,rfl,s2 _ _ BW,iF BV,?_⟩
   exact fin p2 H2 s2 ⟨p2,_,rfl,g2,yk.snoc (let ⟨u,e,hu⟩:=hv; ⟨u,e,s2 _ _ hu⟩) (yk.same s2 Kd)⟩
theorem Ke:ar ["self", "place"] ["self", "place"] (al mW):=L2.yq
theorem rM {ys:Ys}{f:Addr}{fd:FuncData}(F:yn K "lying" "Yard.lying" mW f fd)(T:fR mg)(Y:jz K ys):xO P w K mg base aF 1 f fd ["self", "place"] (ou K ys):=by
 refine F.ok Ke (fun _ _ _ _ h=>?_) (fun _ _ _ s H _ Q E hr h=>?_)
 ·obtain⟨a,s,p,qs,rfl,_⟩:=h
  rfl
 ·obtain⟨a,st,p,qs,rfl,hY,hp,q⟩:=h
  refine⟨_,ak (au (aY bW rfl T.list PySem.Pv.boot_list (aa (ao aA (am (pv 0) rfl) (pv 1) (fun _ _=>rfl)) ad))),?_⟩
  obtain⟨xW,BW,pl⟩:=hY.AB
  obtain⟨v0,MN,t0,CB,rfl,De,Kd⟩:=Paired.at2 pl hp
  refine⟨_,rfl,a.y,ys.xR,a.dy,_,_,rfl,hY.ins,Y.cl,Y.n5,rfl,_,rfl,a.li,xW,(p:Int),_,rfl,rfl,xS.of BW,aj MN,t0,_,rfl, .inr (xV.of De),fun D hD=>?_⟩
  have s1:=(xN.refl H).new (o := .lst CB) hD
  exact q D CB _ s1 hD ac (yk.same s1 Kd)
noncomputable def eO (ln:yr)(m c len:Int):yr:={ ln with r:=ln.r - 1,h:=if decide (c=len - 1)=true then none else some m,qs:=ln.qs ++ [(m,c)] }
noncomputable def dF (s:YS)(m:Nat)(c:Int)(l:Nat)(t:cu)(ln:yr):YS:={ s with xM:=if c=0 then s.xM.set m { t with way:=t.way ++ [l] } else s.xM,lanes:=s.lanes.set l (eO ln m c t.len) }
noncomputable def kz (K:Frag)(ys:Ys):Sp:=fun vs H Q _=>∃ (a:YA)(s:YS)(v:V)(m:Nat)(c:Int)(l:Nat)(t:cu)(ln:yr),vs=[.ref a.y,v, .int l]/\yU K ys H a s/\vk H v ((m:Int),c)/\s.xM[m]? = some t/\s.lanes[l]? = some ln/\bX ln.r ln.h m c=true/\t.way.length <= 1000/\ln.qs.length < 100000 /\
 ∀ H',yc [a.la,a.le] H H'->yU K ys H' a (dF s m c l t ln)->Q .yd H'
noncomputable def lL (s:YS)(m:Nat)(t:cu):YS:={ s with xM:=s.xM.set m { t with gone:=t.gone + 1 } }
noncomputable def qM (K:Frag)(ys:Ys):Sp:=fun vs H Q _=>∃ (a:YA)(s:YS)(m l:Nat)(t:cu)(ln:yr),vs=[.ref a.y, .int m, .int l]/\yU K ys H a s/\s.xM[m]? = some t/\s.lanes[l]? = some ln/\bX ln.r ln.h m t.gone=true/\t.way.length <= 1000/\ln.qs.length < 100000 /\
 ∀ H',yc [a.la,a.le] H H'->yU K ys H' a (dF (lL s m t) m t.gone l { t with gone:=t.gone + 1 } ln)->Q .yd H'
structure Own (P:Program)(w:World)(K:Frag)(mg:Str->Option Value)(base:Heap)(ys:Ys)(fl ft fp:Addr)(dl dt dp:FuncData):Prop where
 ml:bK K ys.xR "own_lane" fl
 bl:Binds K dl ["self", "lane"] []
 Gl:xO P w K mg base aF 4 fl dl ["self", "lane"] (qF K ys)
 mt:bK K ys.xR "own_letter" ft
 bt:Binds K dt ["self", "number"] []
 Gt:xO P w K mg base aF 4 ft dt ["self", "number"] (qD K ys)
 mp:bK K ys.yh "put" fp
 bp:Binds K dp ["self", "letter", "count", "last"] []
 Gp:xO P w K mg base aF 2 fp dp ["self", "letter", "count", "last"] (vw ys.yh)
abbrev Tn:List Str:=["self", "piece", "lane", "last"]
abbrev NGi:List Str:=["self", "number", "lane", "letter"]
theorem Kf:ar Tn ["self", "piece", "lane"] (al na):=L2.yq
theorem rQ {ys:Ys}{f fl ft fp:Addr}{fd dl dt dp:FuncData}(F:yn K "enter" "Yard.enter" na f fd)(Y:jz K ys)(O:Own P w K mg base ys fl ft fp dl dt dp) :
  xO P w K mg base aF 5 f fd ["self", "piece", "lane"] (kz K ys):=by
 refine F.ok Kf (fun _ _ _ _ h=>?_) (fun _ _ _ s H _ Q E hr h=>?_)
 ·obtain⟨a,s,v,m,c,l,t,ln,rfl,_⟩:=h
  rfl
 ·obtain⟨a,st,v,m,c,l,t,ln,rfl,hY,⟨pt,rfl,Ak⟩,hm,hl,Fi,CU,Tp,q⟩:=h
  have zh:ya 2 _:=hr.mono (by decide)
  refine⟨_,af (eX (aR (aw bG (ao av (pv 1) ai (fun _ _=>rfl)) ai (ay _))
    (ak (aU (cp plainAttrs_list PySem.F.slot_list_append PySem.F.type_list_append b0 (am (aI (pv 0) Y.cl O.mt O.Gt hr O.bt .nil ap (aa (ao av (pv 1) ai (fun _ _=>rfl)) ad)) rfl) (aa (pv 2) ad)))) aE))
   (af (aD (i:=3) Kf.nd rfl (Or.inl rfl) (bU bG (ao av (pv 1) ai (fun _ _=>rfl)) (ax cI (am (ao aA (am (pv 0) rfl) (ao av (pv 1) ai (fun _ _=>rfl)) (fun _ _=>rfl)) rfl) ai) (ay _)))
   (ak (aU (aI (aI (pv 0) Y.cl O.ml O.Gl hr O.bl .nil ap (aa (pv 2) ad)) Y.L.cl O.mp O.Gp zh O.bp .nil ap (aa (ao av (pv 1) ai (fun _ _=>rfl)) (aa (ao av (pv 1) ai (fun _ _=>rfl)) (aa (pv 3) ad))))))),?_⟩
  refine⟨fun σ' H'=>σ' = start Tn [.ref a.y, .ref pt, .int l]/\yc [a.le] H H'/\∃ t1:cu,t1.len=t.len/\yU K ys H' a { st with xM:=if c=0 then st.xM.set m { t with way:=t.way ++ [l] } else st.xM }/\(if c=0 then st.xM.set m { t with way:=t.way ++ [l] } else st.xM)[m]? = some t1,?_,?_⟩
  ·refine⟨_,rfl,pt,_,1,_,rfl,rfl,xV.of Ak,aj (j:=1) rfl,rfl,_,rfl,?_⟩
   rw[bP]
   by_cases hc:c=0
   ·rw[decide_eq_true hc]
    obtain⟨ye,yY,pl⟩:=hY.hle
    refine aN ⟨_,rfl,a.y,a.dy,_,rfl,hY.ins,rfl,_,rfl,pt,_,0,_,rfl,rfl,xV.of Ak,aj (j:=0) rfl,a,st,m,t,ye,rfl,hY,hm,yY,fun x dx wa H1 o1 nx nw g1 zi Dd=>?_⟩
    refine⟨x,ys.xQ,dx,_,_,rfl,zi,Y.ct,Y.t6,rfl, .inl ⟨rfl,_,xS.of Dd⟩,_,rfl,wa,_,_,rfl,rfl,Dd,by rw[c9,sizeLine_eq];omega,?_⟩
    have nxw:x ≠ wa:=aV zi Dd (by intro z;cases z)
    have nlw:a.le ≠ wa:=ag yY nw
    have o2:yc [a.le] H (upd H1 wa (.lst (nV t.way ++ [.int l]))):=fun b o nb e=>by rw[ae (ag e nw)];exact o1 b o nb e
    have Bw:=yU.CA hY yY o2 (k:=m) (x:=x) (dx:=dx) (wa:=wa) (by rw[ae nlw];exact g1) (t:={ t with way:=t.way ++ [l] }) (by rw[ae nxw];exact zi) (by rw[ac,kL];rfl) nw
    have EH:m < st.xM.length:=(gQ0 hm)
    refine⟨rfl,o2,{ t with way:=t.way ++ [l] },rfl,?_,?_⟩
    ·rw[if_pos hc];exact Bw
    ·rw[if_pos hc];simp[EH]
   ·rw[decide_eq_false hc]
    refine aJ ⟨rfl,xN.yw (xN.refl H),t,rfl,?_,?_⟩
    ·rw[if_neg hc];exact hY
    ·rw[if_neg hc];exact hm
  ·rintro σ' H1 ⟨rfl,o1,t1,hlen,Aj,hm1⟩
   have DC:H1 pt=some (.tup [.int m, .int c]):=by
    obtain⟨ye,yY,_⟩:=hY.hle
    exact o1 _ _ (by simp;exact aV Ak yY (by intro z;cases z)) Ak
   obtain⟨Pp,Pq,Pr⟩:=Aj.hle
   obtain⟨v1,hv1,x1,dx1,wa1,rfl,zi,_⟩:=Paired.at2 Pr hm1
   refine⟨_,rfl,pt,_,1,_,rfl,rfl,xV.of DC,aj (j:=1) rfl,_,rfl,a.y,ys.xR,a.dy,_,_,rfl,Aj.ins,Y.cl,Y.n4,rfl,_,rfl,pt,_,0,_,rfl,rfl,xV.of DC,aj (j:=0) rfl,a.le,Pp,(m:Int),_,rfl,rfl,xS.of Pq,aj hv1,x1,ys.xQ,dx1,_,_,rfl,zi,Y.ct,Y.t3,rfl,_,_,rfl,rfl,rfl,?_⟩
   obtain⟨xW,yF,Ck⟩:=Aj.yD
   refine⟨_,rfl,a.y,a.dy,_,rfl,Aj.ins,rfl,_,rfl,a,_,l,ln,xW,rfl,Aj,hl,yF,fun x dx pa xZ H2 o2 nx np g2 zN=>?_⟩
   have CC:H2 pt=some (.tup [.int m, .int c]):=o2 _ _ (by simp;exact aV DC yF (by intro z;cases z)) DC
   have zm:xZ.length=ln.qs.length:=Paired.length zN.yR
   refine⟨x,dx,_,rfl,zN.ins,rfl,_,rfl,pt,_,0,_,rfl,rfl,xV.of CC,aj (j:=0) rfl,_,rfl,pt,_,1,_,rfl,rfl,xV.of CC,aj (j:=1) rfl,_,rfl,x,dx,pa,ln.r,ln.b,ln.h,xZ,ln.qs,(m:Int),c,decide (c=t.len - 1),?_,zN,by omega,(fun ho=>by rw[Fi]at ho;cases ho),fun _ t3 H3 o3 Bf=>?_⟩
   ·rw[bP,hlen];rfl
   have nxl:a.la ≠ x:=ag yF nx
   have npl:a.la ≠ pa:=ag yF np
   have o4:yc [a.la] H1 H3:=fun b o nb e=>o3 b o (ag e nx) (ag e np) (o2 b o nb e)
   have zB:=yU.Aw Aj yF o4 (k:=l) (x:=x) (dx:=dx) (pa:=pa) (o3 _ _ nxl npl g2) (ln:=eO ln m c t.len) Bf np
   exact q H3 ((o1.mono (by simp)).trans (o4.mono (by simp))) zB
theorem Kg:ar NGi ["self", "number", "lane"] (al rb):=L2.yq
theorem uG {ys:Ys}{f fl ft fp fe:Addr}{fd dl dt dp de:FuncData}(F:yn K "go_in" "Yard.go_in" rb f fd)(Y:jz K ys)(O:Own P w K mg base ys fl ft fp dl dt dp)(me:bK K ys.xR "enter" fe)(be:Binds K de ["self", "piece", "lane"] [])(Ge:xO P w K mg base aF 5 fe de ["self", "piece", "lane"] (kz K ys)) :
  xO P w K mg base aF 6 f fd ["self", "number", "lane"] (qM K ys):=by
 refine F.ok Kg (fun _ _ _ _ h=>?_) (fun _ _ _ s H _ Q E hr h=>?_)
 ·obtain⟨a,s,m,l,t,ln,rfl,_⟩:=h
  rfl
 ·obtain⟨a,st,m,l,t,ln,rfl,hY,hm,hl,Fi,CU,Tp,q⟩:=h
  have Be:ya 4 _:=hr.mono (by decide)
  refine⟨_,af (aD (i:=3) Kg.nd rfl (Or.inl rfl) (aI (pv 0) Y.cl O.mt O.Gt Be O.bt .nil ap (aa (pv 1) ad)))
   (af (dI (pv 3) ai kW)
   (ak (aU (aI (pv 0) Y.cl me Ge hr be .nil ap (aa (aW (aa (pv 1) (aa (ax cI (am (pv 3) rfl) ai) ad))) (aa (pv 2) ad)))))),?_⟩
  obtain⟨ye,yY,pl⟩:=hY.hle
  refine⟨_,rfl,a.y,a.dy,_,rfl,hY.ins,rfl,_,rfl,a,st,m,t,ye,rfl,hY,hm,yY,fun x dx wa H1 o1 nx nw g1 zi Dd=>?_⟩
  refine⟨_,rfl,x,ys.xQ,dx,_,_,rfl,zi,Y.ct,Y.t5,rfl,_,_,rfl,rfl,dx,_,zi,by show 6 < 1000;decide,?_⟩
  have nlx:a.le ≠ x:=ag yY nx
  have D7:wa ≠ x:=aV Dd zi (by intro z;cases z)
  have o2:yc [a.le] H (upd H1 x (.ins ys.xQ dx (aO "gone" (.int (t.gone + 1)) (nv t wa)))):=fun b o nb e=>by rw[ae (ag e nx)];exact o1 b o nb e
  have Cf:(upd H1 x (.ins ys.xQ dx (aO "gone" (.int (t.gone + 1)) (nv t wa)))) x=some (.ins ys.xQ dx (nv { t with gone:=t.gone + 1 } wa)):=ac
  have Bw:=yU.CA hY yY o2 (k:=m) (x:=x) (dx:=dx) (wa:=wa) (by rw[ae nlx];exact g1) (t:={ t with gone:=t.gone + 1 }) Cf (by rw[ae D7];exact Dd) nw
  show _
  generalize upd H1 x (.ins ys.xQ dx (aO "gone" (.int (t.gone + 1)) (nv t wa)))=H2 at o2 Cf Bw ⊢
  refine⟨_,rfl,a.y,a.dy,_,rfl,Bw.ins,rfl,_,rfl,_,rfl,x,ys.xQ,dx,_,_,rfl,Cf,Y.ct,Y.t5,rfl,_,_,rfl,rfl,by show 2 <= sizeLine;decide,fun pt Ak=>?_⟩
  have eg:t.gone + 1 - 1=t.gone:=by omega
  have s3:=(xN.refl H2).new (o := .tup [.int m, .int t.gone]) Ak
  have g3:(upd H2 pt (.tup [.int m, .int t.gone])) pt=some (.tup [.int m, .int t.gone]):=ac
  dsimp only
  rw[eg]
  generalize upd H2 pt (.tup [.int m, .int t.gone])=H3 at s3 g3 ⊢
  have EH:m < st.xM.length:=(gQ0 hm)
  refine⟨_,rfl,a,lL st m t,_,m,t.gone,l,{ t with gone:=t.gone + 1 },ln,rfl,yf.same Bw s3,⟨pt,rfl,g3⟩,by unfold lL;simp[EH],hl,Fi,CU,Tp,fun H' o' FP=>?_⟩
  exact q H' ((o2.mono (by simp)).trans ((xN.yw s3).trans o')) FP
theorem sT (us:List Nat)(i:Nat):ia (nV us) none (some (i:Int))=nV (us.take i):=by
 unfold ia
 have e0:HT.zZ (nV us).length 0 none=0:=rfl
 rw[e0,show HT.zZ (nV us).length (nV us).length (some (i:Int))=min i (nV us).length from HT.zC _ _ i,List.drop_zero,Nat.sub_zero]
 unfold nV
 rw[List.map_take,length_map]
 refine ext_getElem? fun j=>?_
 simp only[List.getElem?_take,getElem?_map]
 by_cases h1:j < i
 ·by_cases h2:j < us.length
  ·rw[if_pos (by omega),if_pos h1]
  ·rw[if_neg (by omega),if_pos h1,List.getElem?_eq_none (by omega)];rfl
 ·rw[if_neg (by omega),if_neg h1]
theorem uZ (us:List Nat)(i:Nat):ia (nV us) (some (i:Int)) (some ((i:Int) + 1))=nV ((us.drop i).take 1):=by
 unfold ia
 rw[show HT.zZ (nV us).length 0 (some (i:Int))=min i (nV us).length from HT.zC _ _ i,show((i:Int) + 1)=((i + 1:Nat):Int) by omega,show HT.zZ (nV us).length (nV us).length (some ((i + 1:Nat):Int))=min (i + 1) (nV us).length from HT.zC _ _ (i + 1),c9]
 by_cases h:i < us.length
 ·rw[min_eq_left (by omega),min_eq_left (by omega),show i + 1 - i=1 by omega]
  unfold nV
  rw[List.map_take,List.map_drop]
 ·rw[Nat.min_eq_right (by omega),Nat.min_eq_right (by omega),sub_self,take_zero,List.drop_eq_nil_of_le (by omega)];rfl
theorem jO (us:List Nat):nV us=(iz us).map V.int:=(xp us).symm
theorem sC (k:Nat):∀ us:List Nat,(iz us).idxOf (k:Int)=us.idxOf k
 | []=>rfl
 | u :: us=>by
  have ih:=sC k us
  unfold iz at ih ⊢
  rw[map_cons,List.idxOf_cons,List.idxOf_cons,ih]
  by_cases h:u=k
  ·subst h;simp
  ·have h':((u:Int) == (k:Int))=false:=by simp;omega
   have h2:(u == k)=false:=by simp;exact h
   rw[h',h2]
inductive Mv
 | y6 (k l:Nat) | on (k l:Nat) | AR (k:Nat) | back (k:Nat)
noncomputable def eE:Mv->List V
 | .y6 k l=>[.str "in", .int k, .int l]
 | .on k l=>[.str "on", .int k, .int l]
 | .AR k=>[.str "lie", .int k]
 | .back k=>[.str "back", .int k]
noncomputable def dD (s:YS)(l:Nat)(m c:Int):Bool:=match s.lanes[l]? with
 | some ln=>bX ln.r ln.h m c
 | none=>false
noncomputable def bI (s:YS)(k:Nat):Option (Int × Int):=match s.lanes[k]? with
 | some ln=>ln.qs.head?
 | none=>none
noncomputable def yZ (a:YA)(l g:Nat):List Nat:=if (a.ps.getD l (0,0)).2=(g:Int) then [] else a.wy (a.ps.getD l (0,0)).2.toNat g (some l)
noncomputable def cN (a:YA)(s:YS)(k:Nat):List Nat:=match bI s k with
 | none=>[]
 | some q=>match s.xM[q.1.toNat]? with
  | none=>[]
  | some t=>if q.2=0 then (yZ a k t.goal.toNat).filter fun l=>!decide (l ∈ t.way) else (t.way.drop (t.way.idxOf k + 1)).take 1
noncomputable def cM (a:YA)(t:cu):List Nat:=if t.gone=0 then a.wy t.start.toNat t.goal.toNat none else t.way.take 1
noncomputable def fA (a:YA)(s:YS)(k:Nat):List Mv:=match s.xM[k]? with
 | none=>[]
 | some t=>if t.gone=t.len then [] else ((cM a t).filter fun l=>dD s l k t.gone).map (Mv.y6 k)
noncomputable def gq (a:YA)(s:YS)(k:Nat):List Mv:=match bI s k with
 | none=>[]
 | some q=>((cN a s k).filter fun l=>dD s l q.1 q.2).map (Mv.on k)
noncomputable def dL (a:YA)(s:YS)(k:Nat):List Mv:=match bI s k with
 | none=>[]
 | some q=>match s.xM[q.1.toNat]? with
  | none=>[]
  | some t=>if t.goal=(a.ps.getD k (0,0)).2 then [.AR k] else []
noncomputable def cK (s:YS)(k:Nat):List Mv:=match s.lanes[k]? with
 | some ln=>if 0 < ln.b then [.back k] else []
 | none=>[]
structure vh (a:YA):Prop where
 ends:∀ (l:Nat)(pr:Int × Int),a.ps[l]? = some pr->∃ e:Nat,pr.2=(e:Int)/\e < a.n
 yI:∀ p g k,(a.wy p g k).length <= 400
structure Pt (a:YA)(s:YS):Prop where
 lanes:s.lanes.length=a.ps.length
 lies:s.lies.length=a.n
 lets:∀ (m:Nat)(t:cu),s.xM[m]? = some t->∃ x y:Nat,t.start=(x:Int)/\t.goal=(y:Int)/\x < a.n/\y < a.n
 yO:∀ (m:Nat)(t:cu),s.xM[m]? = some t->(∀ l ∈ t.way,l < a.ps.length)/\t.way.length <= 1000
 yR:∀ (k:Nat)(ln:yr),s.lanes[k]? = some ln->∀ q ∈ ln.qs,∃ (m:Nat)(t:cu),q.1=(m:Int)/\s.xM[m]? = some t/\k ∈ t.way
 yI:s.xM.length <= 60
structure Cm (K:Frag)(c:Cs)(TC:Addr)(J:TJ)(ys:Ys)(H:Hp)(a:YA)(s:YS):Prop where
 Y:yU K ys H a s
 T:qk c TC J H a
 O:vh a
 G:Pt a s
theorem Cm.same {K:Frag}{c:Cs}{TC fw:Addr}{dw:FuncData}{J:TJ}{ys:Ys}{H H':Hp}{a:YA}{s:YS}(W:Wy K TC fw dw J)(h:Cm K c TC J ys H a s)(e:xN H H'):Cm K c TC J ys H' a s:=⟨yf.same h.Y e,yC.keep W h.T (xN.xX e),h.O,h.G⟩
abbrev oj (K:Frag)(c:Cs)(TC:Addr)(J:TJ)(ys:Ys)(f:YA->YS->Nat->List Mv)(len:YS->Nat):Sp:=fun vs H Q _=>∃ (a:YA)(s:YS)(k:Nat),vs=[.ref a.y, .int k]/\Cm K c TC J ys H a s/\k < len s /\
 ∀ (D:Addr)(yl:List V)(H':Hp),xN H H'->H D=none->H' D=some (.lst yl)->Paired (y8 H') yl ((f a s k).map eE)->Q (.ref D) H'
noncomputable def mO (K:Frag)(c:Cs)(TC:Addr)(J:TJ)(ys:Ys):Sp:=oj K c TC J ys fA (fun s=>s.xM.length)
noncomputable def mK (K:Frag)(c:Cs)(TC:Addr)(J:TJ)(ys:Ys):Sp:=oj K c TC J ys gq (fun s=>s.lanes.length)
noncomputable def om (K:Frag)(c:Cs)(TC:Addr)(J:TJ)(ys:Ys):Sp:=oj K c TC J ys dL (fun s=>s.lanes.length)
noncomputable def iS (K:Frag)(c:Cs)(TC:Addr)(J:TJ)(ys:Ys):Sp:=oj K c TC J ys (fun _ s k=>cK s k) (fun s=>s.lanes.length)
noncomputable def iR (K:Frag)(c:Cs)(TC:Addr)(J:TJ)(ys:Ys):Sp:=fun vs H Q _=>∃ (a:YA)(s:YS)(k:Nat),vs=[.ref a.y, .int k]/\Cm K c TC J ys H a s/\k < s.lanes.length /\
 ∀ (D:Addr)(H':Hp),xN H H'->H D=none->H' D=some (.lst (nV (cN a s k)))->Q (.ref D) H'
noncomputable def qG (c:Cs)(C:Addr)(J:TJ):Sp:=fun vs H Q _=>∃ (a:YA)(l g:Nat),vs=[.ref a.tb, .int l, .int g]/\qk c C J H a/\vh a/\l < a.ps.length/\g < a.n /\
 ∀ (D:Addr)(H':Hp),xN H H'->H D=none->H' D=some (.lst (nV (yZ a l g)))->Q (.ref D) H'
theorem kZ {K:Frag}{p:Addr}{us:List Nat}{g:TG}{tt:TT}{te:TE}{σ0:St}{H:Hp}{Q:VK}(b:Nat->Bool)(f:Nat->Mv)(hn:us.length < sizeLine)(ha:H p=some (.lst (nV us)))
  (hs:∀ (u:Nat)(H1:Hp)(acc:List V)(N:List V->Hp->Prop),u ∈ us->xN H H1->(b u=true->∀ v H2,xN H1 H2->y8 H2 v (eE (f u))->N (acc ++ [v]) H2)->(b u=false->N acc H1) ->
   g (.int u) σ0 H1 fun σ2 H2=>tt σ2 H2 fun b H3=>if b=true then te σ2 H3 fun y H4=>N (acc ++ [y]) H4 else N acc H3)
  (hq:∀ D vs H1,xN H H1->H1 D=none->Paired (y8 H1) vs (((us.filter b).map f).map eE)->Q (.ref D) (upd H1 D (.lst vs))):cQ (tL K p) g tt te σ0 Q H:=by
 refine b8 us.length hn (fun i acc H'=>xN H H'/\Paired (y8 H') acc ((((us.take i).filter b).map f).map eE)) ⟨xN.refl _, .nil⟩ (fun i acc H' h=>by
   rw[Paired.length h.2,length_map,length_map]
   have h1:=length_filter_le b (us.take i)
   have h2:=length_take_le i us
   omega) (fun i acc H' hi h=>?_) (fun acc H' h=>?_)
 ·obtain⟨s,hL⟩:=h
  have hu:us[i]? = some us[i]:=getElem?_eq_getElem hi
  refine⟨⟨_,_,xS.of (s _ _ ha),jj hu⟩,fun v H2 y=>?_⟩
  obtain⟨rfl,y⟩:=y
  have hv:=y _ (xS.of (s _ _ ha))
  rw[jj hu]at hv
  cases hv
  refine hs us[i] H2 acc (fun yB H4=>xN H H4/\Paired (y8 H4) yB ((((us.take (i + 1)).filter b).map f).map eE)) (getElem_mem hi) s (fun hb v H3 s3 hv=>⟨s.trans s3,?_⟩) (fun hb=>⟨s,?_⟩)
  ·rw[take_succ,hu,filter_append]
   have e:(some us[i]).toList.filter b=[us[i]]:=by simp[hb]
   rw[e,map_append,map_append]
   exact Paired.snoc hv (Paired.mono (fun _ _ z=>z.keep (xN.xX s3)) hL)
  ·rw[take_succ,hu,filter_append]
   have e:(some us[i]).toList.filter b=[]:=by simp[hb]
   rw[e,append_nil]
   exact hL
 ·obtain⟨s,hL⟩:=h
  rw[take_length]at hL
  exact⟨⟨_,xS.of (s _ _ ha),by rw[c9];exact le_refl _⟩,fun D hD=>hq D acc H' s hD hL⟩
noncomputable def wz (s:Stmt):Scope:=match s with
 | .Return (some (.ListComp _ _ sc _)) _=>sc
 | _=>zQ0
noncomputable def xq (s:Stmt):Scope:=match s with
 | .If _ [s'] _ _=>wz s'
 | _=>zQ0
abbrev Tq:List Str:=["self", "number", "letter", "wanted"]
abbrev Tr:List Str:=["self", "lane", "piece", "letter", "behind"]
abbrev Tt:List Str:=["self", "lane", "piece", "wanted"]
theorem FQ:ar Tq ["self", "number"] (al lw):=L2.yq
theorem Pu:yK Tq (al lw) (wz ((aG lw).getD 3 (.Pass ⟨0,0,0,0⟩))) ["self", "number", "letter"] [0,1,2]:=L2.zA
theorem Pw:(["lane", "self", "number", "letter"]:List Str).Nodup:=by decide +kernel
theorem uB {c:Cs}{ys:Ys}{J:TJ}{TC f fw fo:Addr}{fd dw Ad:FuncData}(F:yn K "moves_in" "Yard.moves_in" lw f fd)(Y:jz K ys)(W:Wy K TC fw dw J)(FG:xO P w K mg base aF 3 fw dw ["self", "place", "goal", "came"] (fU J))
  (mo:bK K ys.yh "open_to" fo) (bo:Binds K Ad ["self", "letter", "count"] []) (Go:xO P w K mg base aF 1 fo Ad ["self", "letter", "count"] (ky ys.yh)) :
  xO P w K mg base aF 4 f fd ["self", "number"] (mO K c TC J ys):=by
 refine F.ok FQ (fun _ _ _ _ h=>?_) (fun _ _ _ s H _ Q E hr h=>?_)
 ·obtain⟨a,s,k,rfl,_⟩:=h
  rfl
 ·obtain⟨a,st,k,rfl,hI,hk,q⟩:=h
  have yA:ya 1 _:=hr.mono (by decide)
  refine⟨_,af (aD (i:=2) FQ.nd rfl (Or.inr rfl) (ao aA (am (pv 0) rfl) (pv 1) (fun _ _=>rfl)))
   (af (aR (aw bG (am (pv 2) rfl) (am (pv 2) rfl) (ay _)) (ak (au (aP ad))) aE)
   (af (aD (i:=3) FQ.nd rfl (Or.inl rfl) (kG (cY (aw bG (am (pv 2) rfl) ai (ay _)) (aI (am (pv 0) rfl) W.cl W.m FG hr W.b .nil ap (aa (am (pv 2) rfl) (aa (am (pv 2) rfl) (aa bH ad)))) (gm iA (am (pv 2) rfl) kF (gj ai)))))
   (ak (au (bv (own:=["lane"]) (capN:=["self", "number", "letter"]) (cap:=[0,1,2]) Pu rfl (bA (pv 3)) (fun C s' H' fp=>⟨aq (i:=0) Pw rfl (Or.inl rfl),cf (b9 (aI (ao (show j0 _ (kD K) from aA) (show PE _ _ (pA K (lj 1) "lanes") from am (pv 1) rfl) (pv 0) (fun _ _=>rfl)) Y.L.cl mo Go yA bo .nil ap (aa (pv 2) (aa (show PE _ _ (pA K (lj 3) "gone") from am (pv 3) rfl) ad)))),aW (aa c8 (aa (pv 2) (aa (pv 0) ad)))⟩)))))),?_⟩
  have hY:=hI.Y
  obtain⟨ye,yY,pl⟩:=hY.hle
  obtain⟨t,ht⟩:∃ t,st.xM[k]? = some t:=⟨_,getElem?_eq_getElem hk⟩
  obtain⟨v,hv,x,dx,wa,rfl,hx,hw,_⟩:=Paired.at2 pl ht
  obtain⟨x0,y0,e1,e2,MO,Hr⟩:=hI.G.lets k t ht
  obtain⟨CU,hw9⟩:=hI.G.yO k t ht
  unfold fA at q
  rw[ht]at q
  refine⟨_,rfl,a.y,ys.xR,a.dy,_,_,rfl,hY.ins,Y.cl,Y.n4,rfl,_,rfl,a.le,ye,(k:Int),_,rfl,rfl,xS.of yY,aj hv,?_⟩
  refine⟨_,rfl,x,ys.xQ,dx,_,_,rfl,hx,Y.ct,Y.t5,rfl,_,rfl,x,ys.xQ,dx,_,_,rfl,hx,Y.ct,Y.t3,rfl,rfl,_,rfl,?_⟩
  rw[bP]
  by_cases hg:t.gone=t.len
  ·rw[decide_eq_true hg]
   dsimp only at q
   rw[if_pos hg]at q
   exact aN ⟨zero_le _,fun D hD=>q D [] _ ((xN.refl H).new hD) hD ac .nil⟩
  rw[decide_eq_false hg]
  dsimp only at q
  rw[if_neg hg]at q
  refine aJ ⟨fun v H1=>∃ D,v = .ref D/\xN H H1/\H1 D=some (.lst (nV (cM a t))),?_,?_⟩
  ·refine⟨_,rfl,x,ys.xQ,dx,_,_,rfl,hx,Y.ct,Y.t5,rfl,rfl,_,rfl,?_⟩
   rw[bP]
   unfold cM
   by_cases h0:t.gone=0
   ·rw[decide_eq_true h0,if_pos h0]
    obtain⟨C5,fst,Bu,yN,AL⟩:=hI.T.i
    refine aN ⟨_,rfl,a.y,ys.xR,a.dy,_,_,rfl,hY.ins,Y.cl,Y.n1,rfl,a.tb,C5,fst,rfl,Bu,AL,_,rfl,x,ys.xQ,dx,_,_,rfl,hx,Y.ct,Y.t1,rfl,_,rfl,x,ys.xQ,dx,_,_,rfl,hx,Y.ct,Y.t2,rfl,?_⟩
    rw[e1,e2,toNat_natCast,toNat_natCast]
    exact⟨a.tb,a.n,a.wy,x0,y0,none,rfl,hI.T.j,MO,Hr,fun D H1 s1 hD gD=>⟨D,rfl,s1,gD⟩⟩
   ·rw[decide_eq_false h0,if_neg h0]
    refine aJ ⟨_,rfl,x,ys.xQ,dx,_,_,rfl,hx,Y.ct,Y.t6,rfl,_,rfl,wa,_,rfl,xS.of hw,fun D hD=>⟨D,rfl,(xN.refl H).new hD,?_⟩⟩
    rw[ac,show((1:Int))=((1:Nat):Int) from rfl,sT]
  rintro v H1 ⟨D,rfl,s1,gD⟩
  have AS:=hI.same W s1
  have Aj:=AS.Y
  have zi:=s1 _ _ hx
  obtain⟨xW,yF,Ck⟩:=Aj.yD
  have Tu:(cM a t).length <= 1000:=by
   unfold cM
   by_cases h0:t.gone=0
   ·rw[if_pos h0];exact le_trans (hI.O.yI _ _ _) (by decide)
   ·rw[if_neg h0];rw[length_take];omega
  have Dy:∀ u ∈ cM a t,u < a.ps.length:=fun u hu=>by
   unfold cM at hu
   by_cases h0:t.gone=0
   ·rw[if_pos h0,e1,e2,toNat_natCast,toNat_natCast]at hu;exact hI.T.ok _ _ _ MO Hr u hu
   ·rw[if_neg h0]at hu;exact CU u (mem_of_mem_take hu)
  refine⟨_,rfl,D,rfl,⟨_,xS.of gD⟩,?_⟩
  refine kZ (fun l=>dD st l k t.gone) (Mv.y6 k) (by rw[sizeLine_eq];omega) gD (fun u H2 acc N hu s2 DD MP=>?_) (fun D2 AM H2 s2 zF hp=>?_)
  ·have AN:=AS.same W s2
   obtain⟨FR,FU,FV⟩:=AN.Y.yD
   have FW:u < st.lanes.length:=by rw[hI.G.lanes];exact Dy u hu
   obtain⟨ln,y3⟩:∃ ln,st.lanes[u]? = some ln:=⟨_,getElem?_eq_getElem FW⟩
   obtain⟨vl,By,xl,zQ,EJ,FX,rfl,hL,_⟩:=Paired.at2 FV y3
   refine⟨_,rfl,a.y,ys.xR,a.dy,_,_,rfl,AN.Y.ins,Y.cl,Y.n3,rfl,_,rfl,a.la,FR,(u:Int),_,rfl,rfl,xS.of FU,aj By,xl,zQ,_,rfl,hL.ins,rfl,_,rfl,_,rfl,x,ys.xQ,dx,_,_,rfl,s2 _ _ zi,Y.ct,Y.t5,rfl,xl,zQ,EJ,ln.r,ln.b,ln.h,(k:Int),t.gone,rfl,hL.ins,_,rfl,?_⟩
   have eo:dD st u k t.gone=bX ln.r ln.h k t.gone:=by unfold dD;rw[y3]
   cases ho:bX ln.r ln.h k t.gone with
   | false=>exact aJ (MP (by rw[eo,ho]))
   | true=>exact aN ⟨_,rfl,_,rfl,by show 3 <= sizeLine;decide,fun z hz=>DD (by rw[eo,ho]) _ _ ((xN.refl H2).new hz) ⟨z,rfl,ac⟩⟩
  ·exact q D2 AM _ ((s1.trans s2).new zF) (s1.free (s2.free zF)) ac (Paired.mono (fun _ _ z=>z.keep (xN.xX ((xN.refl H2).new zF))) hp)
theorem ju {H:Hp}{xZ:List V}{qs:List (Int × Int)}(h:yk H xZ qs):(qs.head? = none/\nE xZ = .yd)∨∃ q pt,qs.head? = some q/\nE xZ = .ref pt/\H pt=some (.tup [.int q.1, .int q.2]):=by
 cases h with
 | nil=>exact .inl ⟨rfl,rfl⟩
 | cons x r=>obtain⟨t,rfl,ht⟩:=x;exact .inr ⟨_,t,rfl,rfl,ht⟩
theorem Kh:ar ["table", "lane", "goal", "end"] ["table", "lane", "goal"] (al OO):=L2.yq
theorem wP {c:Cs}{J:TJ}{C f fw fe:Addr}{fd dw de:FuncData}(F:yn K "onward" "onward" OO f fd)(L:m6 K c)(W:Wy K C fw dw J)(Gw:xO P w K mg base aF 3 fw dw ["self", "place", "goal", "came"] (fU J))
  (M:vm K c fe de) (Ge:xO P w K mg base aF 1 fe de ["self", "lane"] (mQ c Prod.snd)):xO P w K mg base aF 4 f fd ["table", "lane", "goal"] (qG c C J):=by
 refine F.ok Kh (fun _ _ _ _ h=>?_) (fun _ _ _ s H _ Q E hr h=>?_)
 ·obtain⟨a,l,g,rfl,_⟩:=h
  rfl
 ·obtain⟨a,l,g,rfl,hT,hO,hl,hg,q⟩:=h
  have yA:ya 1 _:=hr.mono (by decide)
  refine⟨_,af (aD (i:=3) Kh.nd rfl (Or.inl rfl) (aI (am (pv 0) rfl) L.cl M.m Ge yA M.b .nil ap (aa (pv 1) ad)))
   (ak (au (cY (aw bG (pv 3) (pv 2) (ay _)) (aP ad) (aI (pv 0) W.cl W.m Gw hr W.b .nil ap (aa (pv 3) (aa (pv 2) (aa (pv 1) ad))))))),?_⟩
  obtain⟨dx,fs,hx,hf,hw'⟩:=hT.i
  have he:=getElem?_eq_getElem hl
  have EK:a.ps.getD l (0,0)=a.ps[l]:=by rw[getD_eq_getElem?_getD,he];rfl
  unfold yZ at q
  rw[EK]at q
  obtain⟨e,ee,FY⟩:=hO.ends l _ he
  refine⟨_,rfl,a.tb,C,dx,fs,_,rfl,hx,W.cl,W.nl,hf,a.lx,a.yz,_,rfl,hT.l.1,rfl,_,rfl,a.lx,a.yz,a.lt,(a.n:Int),a.ye,a.ps,l,_,rfl,hT.l,he,?_⟩
  rw[ee]at q ⊢
  rw[toNat_natCast]at q
  refine⟨_,rfl,_,rfl,rfl,_,rfl,?_⟩
  rw[bP]
  by_cases h1:(e:Int)=(g:Int)
  ·rw[decide_eq_true h1]
   rw[if_pos h1]at q
   exact aN ⟨zero_le _,fun D hD=>q D _ ((xN.refl H).new hD) hD ac⟩
  ·rw[decide_eq_false h1]
   rw[if_neg h1]at q
   exact aJ ⟨_,rfl,a.tb,dx,fs,rfl,hx,hw',_,rfl,_,rfl,_,rfl,a.tb,a.n,a.wy,e,g,some l,rfl,hT.j,FY,hg,fun D H' s' hD gD=>q D _ s' hD gD⟩
theorem DE:ar Tr ["self", "lane"] (al fW):=L2.yq
theorem Px:yK Tr (al fW) (xq ((aG fW).getD 3 (.Pass ⟨0,0,0,0⟩))) ["letter"] [3]:=L2.zA
theorem Py:(["way", "letter"]:List Str).Nodup:=by decide +kernel
theorem pN {c:Cs}{ys:Ys}{J:TJ}{TC f fw ff fo:Addr}{fd dw df Ad:FuncData}(F:yn K "wanted" "Yard.wanted" fW f fd)(Y:jz K ys)(W:Wy K TC fw dw J)
  (mf:bK K ys.yh "front" ff) (bf:Binds K df ["self"] []) (Gf:xO P w K mg base aF 1 ff df ["self"] (i8 ys.yh))
  (mo:mg "onward" = some (.ref fo)) (ko:keepIn K (.ref fo)=true) (bo:Binds K Ad ["table", "lane", "goal"] []) (Go:xO P w K mg base aF 4 fo Ad ["table", "lane", "goal"] (qG c TC J)) :
  xO P w K mg base aF 5 f fd ["self", "lane"] (iR K c TC J ys):=by
 refine F.ok DE (fun _ _ _ _ h=>?_) (fun _ _ _ s H _ Q E hr h=>?_)
 ·obtain⟨a,s,k,rfl,_⟩:=h
  rfl
 ·obtain⟨a,st,k,rfl,hI,hk,q⟩:=h
  have yA:ya 1 _:=hr.mono (by decide)
  refine⟨_,af (aD (i:=2) DE.nd rfl (Or.inl rfl) (bC (ao aA (am (pv 0) rfl) (pv 1) (fun _ _=>rfl)) Y.L.cl mf Gf yA bf .nil ap))
   (af (aR (aw je (pv 2) bH (ay _)) (ak (au (aP ad))) aE)
   (af (aD (i:=3) DE.nd rfl (Or.inr rfl) (ao aA (am (pv 0) rfl) (ao av (pv 2) ai (fun _ _=>rfl)) (fun _ _=>rfl)))
   (af (aR (aw bG (ao av (pv 2) ai (fun _ _=>rfl)) ai (ay _))
    (ak (au (bv (own:=["way"]) (capN:=["letter"]) (cap:=[3]) Px rfl (bA (az Go hr rfl mo ko bo .nil ap (aa (am (pv 0) rfl) (aa (pv 1) (aa (am (pv 3) rfl) ad))))) (fun C s' H' fp=>⟨aq (i:=0) Py rfl (Or.inl rfl),cf (aw (show dH _ (compareOp .NotIn) (Mr K true) from gn) (pv 0) (show PE _ _ (pA K (lj 1) "way") from am (pv 1) rfl) (by with_unfolding_all rfl)),pv 0⟩)))) aE)
   (af (aD (i:=4) DE.nd rfl (Or.inl rfl) (ax bD (cp plainAttrs_list PySem.F.slot_list_index PySem.F.type_list_index pQ (am (pv 3) rfl) (aa (pv 1) ad)) ai))
   (ak (au (gm iA (am (pv 3) rfl) (gj (pv 4)) (gj (ax bD (pv 4) ai))))))))),?_⟩
  have hY:=hI.Y
  obtain⟨xW,yF,Ck⟩:=hY.yD
  obtain⟨ln,y3⟩:∃ ln,st.lanes[k]? = some ln:=⟨_,getElem?_eq_getElem hk⟩
  obtain⟨vl,By,xl,zQ,EJ,FX,rfl,hL,_⟩:=Paired.at2 Ck y3
  refine⟨_,rfl,a.y,ys.xR,a.dy,_,_,rfl,hY.ins,Y.cl,Y.n3,rfl,_,rfl,a.la,xW,(k:Int),_,rfl,rfl,xS.of yF,aj By,xl,zQ,_,rfl,hL.ins,rfl,xl,zQ,EJ,ln.r,ln.b,ln.h,FX,ln.qs,rfl,hL,?_⟩
  unfold cN bI at q
  rw[y3]at q
  dsimp only at q
  rcases ju hL.yR with ⟨hf,ef⟩ | ⟨pq,pt,hf,ef,Ak⟩
  ·rw[hf]at q
   rw[ef]
   exact⟨_,rfl,rfl,_,rfl,aN ⟨zero_le _,fun D hD=>q D _ ((xN.refl H).new hD) hD ac⟩⟩
  rw[hf]at q
  rw[ef]
  have hqm:pq ∈ ln.qs:=mem_of_head? hf
  obtain⟨m,t,em,hm,FZ⟩:=hI.G.yR k ln y3 pq hqm
  obtain⟨x0,y0,e1,e2,MO,Hr⟩:=hI.G.lets m t hm
  obtain⟨CU,hw9⟩:=hI.G.yO m t hm
  rw[em]at Ak
  dsimp only at q
  rw[em,toNat_natCast,hm]at q
  dsimp only at q
  refine⟨_,rfl,rfl,_,rfl,aJ ?_⟩
  obtain⟨ye,yY,pl⟩:=hY.hle
  obtain⟨v,hv,x,dx,wa,rfl,hx,hw,_⟩:=Paired.at2 pl hm
  refine⟨_,rfl,a.y,ys.xR,a.dy,_,_,rfl,hY.ins,Y.cl,Y.n4,rfl,_,rfl,pt,_,0,_,rfl,rfl,xV.of Ak,aj (j:=0) rfl,a.le,ye,(m:Int),_,rfl,rfl,xS.of yY,aj hv,?_⟩
  refine⟨_,rfl,pt,_,1,_,rfl,rfl,xV.of Ak,aj (j:=1) rfl,rfl,_,rfl,?_⟩
  rw[bP]
  by_cases h0:pq.2=0
  ·rw[decide_eq_true h0]
   rw[if_pos h0,e2,toNat_natCast]at q
   refine aN ⟨_,rfl,a.y,ys.xR,a.dy,_,_,rfl,hY.ins,Y.cl,Y.n1,rfl,_,rfl,_,rfl,x,ys.xQ,dx,_,_,rfl,hx,Y.ct,Y.t2,rfl,?_⟩
   rw[e2]
   refine⟨a,k,y0,rfl,hI.T,hI.O,by rw[← hI.G.lanes];exact hk,Hr,fun D H1 s1 hD gD=>⟨D,rfl,⟨_,xS.of gD⟩,?_⟩⟩
   have Eb:(yZ a k y0).length <= 400:=by
    unfold yZ
    by_cases z:(a.ps.getD k (0,0)).2=(y0:Int)
    ·rw[if_pos z];exact zero_le _
    ·rw[if_neg z];exact hI.O.yI _ _ _
   refine gE (fun v=>match v with | .int i=>!decide (i ∈ iz t.way) | _=>false) (fun v=>v) (by rw[c9,sizeLine_eq];omega) (xS.of gD) (fun y acc N hy h=>?_) (fun D2 zF=>?_)
   ·obtain⟨u,hu,rfl⟩:=xh hy
    refine⟨_,rfl,_,rfl,x,ys.xQ,dx,_,_,rfl,s1 _ _ hx,Y.ct,Y.t6,rfl,wa,_,rfl, .inl (xS.of (s1 _ _ hw)),rfl,by rw[jO];exact fq _,_,rfl,?_⟩
    rw[jO,iH]
    have h:N (if (!decide ((u:Int) ∈ iz t.way))=true then acc ++ [V.int u] else acc) H1:=h
    cases hb:decide ((u:Int) ∈ iz t.way) with
    | true =>
     rw[hb]at h
     exact aJ h
    | false =>
     rw[hb]at h
     exact aN ⟨_,rfl,h⟩
   ·have e:((nV (yZ a k y0)).filter (fun v=>match v with | .int i=>!decide (i ∈ iz t.way) | _=>false)).map (fun v=>v)=nV ((yZ a k y0).filter fun l=>!decide (l ∈ t.way)):=by
     rw[List.map_id']
     unfold nV
     rw[List.filter_map]
     congr 1
     refine List.filter_congr fun u _=>?_
     show(!decide ((u:Int) ∈ iz t.way))=_
     rw[kT]
    rw[e]
    exact q D2 _ (s1.new zF) (s1.free zF) ac
  ·rw[decide_eq_false h0]
   rw[if_neg h0]at q
   refine aJ ⟨_,rfl,x,ys.xQ,dx,_,_,rfl,hx,Y.ct,Y.t6,rfl, .inl ⟨rfl,_,xS.of hw⟩,_,rfl,wa,iz t.way,(k:Int),rfl,rfl,by rw[← jO];exact hw,zo.mpr ⟨k,FZ,rfl⟩,by unfold iz;rw[length_map];omega,_,_,rfl,rfl,?_⟩
   rw[sC]
   refine⟨_,rfl,x,ys.xQ,dx,_,_,rfl,hx,Y.ct,Y.t6,rfl,_,rfl,_,rfl,_,rfl,_,_,rfl,rfl,_,rfl,wa,_,rfl,xS.of hw,fun D hD=>?_⟩
   have e:ia (nV t.way) (some (((t.way.idxOf k:Nat):Int) + 1)) (some (((t.way.idxOf k:Nat):Int) + 1 + 1))=nV ((t.way.drop (t.way.idxOf k + 1)).take 1):=by
    have:=uZ t.way (t.way.idxOf k + 1)
    rw[← this]
    rfl
   dsimp only
   rw[e]
   exact q D _ ((xN.refl H).new hD) hD ac
theorem Gh:ar Tt ["self", "lane"] (al lu):=L2.yq
theorem Pz:yK Tt (al lu) (wz ((aG lu).getD 2 (.Pass ⟨0,0,0,0⟩))) ["self", "lane", "piece"] [0,1,2]:=L2.zA
theorem P0:(["other", "self", "lane", "piece"]:List Str).Nodup:=by decide +kernel
theorem uA {c:Cs}{ys:Ys}{J:TJ}{TC f fw ff fa fo:Addr}{fd dw df da Ad:FuncData}(F:yn K "moves_on" "Yard.moves_on" lu f fd)(Y:jz K ys)(W:Wy K TC fw dw J)
  (mf:bK K ys.yh "front" ff) (bf:Binds K df ["self"] []) (Gf:xO P w K mg base aF 1 ff df ["self"] (i8 ys.yh))
  (ma:bK K ys.xR "wanted" fa) (ba:Binds K da ["self", "lane"] []) (Ga:xO P w K mg base aF 5 fa da ["self", "lane"] (iR K c TC J ys))
  (mo:bK K ys.yh "open_to" fo) (bo:Binds K Ad ["self", "letter", "count"] []) (Go:xO P w K mg base aF 1 fo Ad ["self", "letter", "count"] (ky ys.yh)) :
  xO P w K mg base aF 6 f fd ["self", "lane"] (mK K c TC J ys):=by
 refine F.ok Gh (fun _ _ _ _ h=>?_) (fun _ _ _ s H _ Q E hr h=>?_)
 ·obtain⟨a,s,k,rfl,_⟩:=h
  rfl
 ·obtain⟨a,st,k,rfl,hI,hk,q⟩:=h
  have yA:ya 1 _:=hr.mono (by decide)
  refine⟨_,af (aD (i:=2) Gh.nd rfl (Or.inr rfl) (bC (ao aA (am (pv 0) rfl) (pv 1) (fun _ _=>rfl)) Y.L.cl mf Gf yA bf .nil ap))
   (af (aD (i:=3) Gh.nd rfl (Or.inl rfl) (aI (pv 0) Y.cl ma Ga hr ba .nil ap (aa (pv 1) ad)))
   (ak (au (bv (own:=["other"]) (capN:=["self", "lane", "piece"]) (cap:=[0,1,2]) Pz rfl (bA (pv 3)) (fun C s' H' fp=>⟨aq (i:=0) P0 rfl (Or.inl rfl),cf (b9 (aI (ao (show j0 _ (kD K) from aA) (show PE _ _ (pA K (lj 1) "lanes") from am (pv 1) rfl) (pv 0) (fun _ _=>rfl)) Y.L.cl mo Go yA bo .nil ap (aa (ao (show j0 _ (gP K) from av) (pv 3) ai (fun _ _=>rfl)) (aa (ao (show j0 _ (gP K) from av) (pv 3) ai (fun _ _=>rfl)) ad)))),aW (aa c8 (aa (pv 2) (aa (pv 0) ad)))⟩))))),?_⟩
  have hY:=hI.Y
  obtain⟨xW,yF,Ck⟩:=hY.yD
  obtain⟨ln,y3⟩:∃ ln,st.lanes[k]? = some ln:=⟨_,getElem?_eq_getElem hk⟩
  obtain⟨vl,By,xl,zQ,EJ,FX,rfl,hL,_⟩:=Paired.at2 Ck y3
  refine⟨_,rfl,a.y,ys.xR,a.dy,_,_,rfl,hY.ins,Y.cl,Y.n3,rfl,_,rfl,a.la,xW,(k:Int),_,rfl,rfl,xS.of yF,aj By,xl,zQ,_,rfl,hL.ins,rfl,xl,zQ,EJ,ln.r,ln.b,ln.h,FX,ln.qs,rfl,hL,?_⟩
  refine⟨_,rfl,a.y,a.dy,_,rfl,hY.ins,rfl,_,rfl,a,st,k,rfl,hI,hk,fun D H1 s1 hD gD=>?_⟩
  refine⟨_,rfl,D,rfl,⟨_,xS.of gD⟩,?_⟩
  have AS:=hI.same W s1
  have eF:bI st k=ln.qs.head?:=by unfold bI;rw[y3]
  have Dy:∀ u ∈ cN a st k,u < a.ps.length:=fun u hu=>by
   unfold cN at hu
   rw[eF]at hu
   cases hq:ln.qs.head? with
   | none=>rw[hq]at hu;cases hu
   | some pq =>
    rw[hq]at hu
    obtain⟨m,t,em,hm,FZ⟩:=hI.G.yR k ln y3 pq (mem_of_head? hq)
    obtain⟨x0,y0,e1,e2,MO,Hr⟩:=hI.G.lets m t hm
    dsimp only at hu
    rw[em,toNat_natCast,hm]at hu
    dsimp only at hu
    by_cases h0:pq.2=0
    ·rw[if_pos h0,e2,toNat_natCast]at hu
     have hu:=(mem_filter.mp hu).1
     unfold yZ at hu
     by_cases z:(a.ps.getD k (0,0)).2=(y0:Int)
     ·rw[if_pos z]at hu;cases hu
     ·rw[if_neg z]at hu
      have Hs:k < a.ps.length:=by rw[← hI.G.lanes];exact hk
      obtain⟨e,ee,FY⟩:=hI.O.ends k _ (getElem?_eq_getElem Hs)
      have EK:a.ps.getD k (0,0)=a.ps[k]:=by rw[getD_eq_getElem?_getD,getElem?_eq_getElem Hs];rfl
      rw[EK,ee,toNat_natCast]at hu
      exact hI.T.ok _ _ _ FY Hr u hu
    ·rw[if_neg h0]at hu
     exact(hI.G.yO m t hm).1 u (List.mem_of_mem_drop (mem_of_mem_take hu))
  have CU:(cN a st k).length <= 1000:=by
   unfold cN
   cases bI st k with
   | none=>exact zero_le _
   | some pq =>
    dsimp only
    cases st.xM[pq.1.toNat]? with
    | none=>exact zero_le _
    | some t =>
     dsimp only
     by_cases h0:pq.2=0
     ·rw[if_pos h0]
      refine le_trans (length_filter_le _ _) ?_
      unfold yZ
      by_cases z:(a.ps.getD k (0,0)).2=((t.goal.toNat:Nat):Int)
      ·rw[if_pos z];exact zero_le _
      ·rw[if_neg z];exact le_trans (hI.O.yI _ _ _) (by decide)
     ·rw[if_neg h0,length_take];omega
  unfold gq at q
  rw[eF]at q
  rcases ju hL.yR with ⟨hf,ef⟩ | ⟨pq,pt,hf,ef,Ak⟩
  ·have e0:cN a st k=[]:=by unfold cN;rw[eF,hf]
   rw[hf]at q
   rw[e0]at gD
   refine kZ (fun l=>false) (Mv.on k) (by rw[sizeLine_eq];decide) gD (fun u H2 acc N hu s2 DD MP=>by cases hu) (fun D2 AM H2 s2 zF hp=>?_)
   exact q D2 AM _ ((s1.trans s2).new zF) (s1.free (s2.free zF)) ac (Paired.mono (fun _ _ z=>z.keep (xN.xX ((xN.refl H2).new zF))) hp)
  rw[hf]at q
  dsimp only at q
  rw[ef]
  refine kZ (fun l=>dD st l pq.1 pq.2) (Mv.on k) (by rw[sizeLine_eq];omega) gD (fun u H2 acc N hu s2 DD MP=>?_) (fun D2 AM H2 s2 zF hp=>?_)
  ·have AN:=AS.same W s2
   obtain⟨FR,FU,FV⟩:=AN.Y.yD
   have FW:u < st.lanes.length:=by rw[hI.G.lanes];exact Dy u hu
   obtain⟨yV,CD⟩:∃ ln,st.lanes[u]? = some ln:=⟨_,getElem?_eq_getElem FW⟩
   obtain⟨vu,hvu,xu,Tv,pau,pvu,rfl,Tw,_⟩:=Paired.at2 FV CD
   have CC:=s2 _ _ (s1 _ _ Ak)
   refine⟨_,rfl,a.y,ys.xR,a.dy,_,_,rfl,AN.Y.ins,Y.cl,Y.n3,rfl,_,rfl,a.la,FR,(u:Int),_,rfl,rfl,xS.of FU,aj hvu,xu,Tv,_,rfl,Tw.ins,rfl,_,rfl,pt,_,0,_,rfl,rfl,xV.of CC,aj (j:=0) rfl,_,rfl,pt,_,1,_,rfl,rfl,xV.of CC,aj (j:=1) rfl,xu,Tv,pau,yV.r,yV.b,yV.h,pq.1,pq.2,rfl,Tw.ins,_,rfl,?_⟩
   have eo:dD st u pq.1 pq.2=bX yV.r yV.h pq.1 pq.2:=by unfold dD;rw[CD]
   cases ho:bX yV.r yV.h pq.1 pq.2 with
   | false=>exact aJ (MP (by rw[eo,ho]))
   | true=>exact aN ⟨_,rfl,_,rfl,by show 3 <= sizeLine;decide,fun z hz=>DD (by rw[eo,ho]) _ _ ((xN.refl H2).new hz) ⟨z,rfl,ac⟩⟩
  ·exact q D2 AM _ ((s1.trans s2).new zF) (s1.free (s2.free zF)) ac (Paired.mono (fun _ _ z=>z.keep (xN.xX ((xN.refl H2).new zF))) hp)
theorem Ki:ar ["self", "lane", "piece"] ["self", "lane"] (al mU):=L2.yq
theorem rK {c:Cs}{ys:Ys}{J:TJ}{TC f fw ff fe:Addr}{fd dw df de:FuncData}(F:yn K "moves_lie" "Yard.moves_lie" mU f fd)(Y:jz K ys)(L:m6 K c)(W:Wy K TC fw dw J)
  (mf:bK K ys.yh "front" ff) (bf:Binds K df ["self"] []) (Gf:xO P w K mg base aF 1 ff df ["self"] (i8 ys.yh)) (M:vm K c fe de) (Ge:xO P w K mg base aF 1 fe de ["self", "lane"] (mQ c Prod.snd)) :
  xO P w K mg base aF 2 f fd ["self", "lane"] (om K c TC J ys):=by
 refine F.ok Ki (fun _ _ _ _ h=>?_) (fun _ _ _ s H _ Q E hr h=>?_)
 ·obtain⟨a,s,k,rfl,_⟩:=h
  rfl
 ·obtain⟨a,st,k,rfl,hI,hk,q⟩:=h
  refine⟨_,af (aD (i:=2) Ki.nd rfl (Or.inl rfl) (bC (ao aA (am (pv 0) rfl) (pv 1) (fun _ _=>rfl)) Y.L.cl mf Gf hr bf .nil ap))
   (af (aR (PW.pt (fD (aw je (pv 2) bH (ay _)) (dW (aw iq (am (ao aA (am (pv 0) rfl) (ao av (pv 2) ai (fun _ _=>rfl)) (fun _ _=>rfl)) rfl) (aI (am (am (pv 0) rfl) rfl) L.cl M.m Ge hr M.b .nil ap (aa (pv 1) ad)) (ay _))))) (ak (au (aP ad))) aE)
   (ak (au (aP (aa (aW (aa c8 (aa (pv 1) ad))) ad))))),?_⟩
  have hY:=hI.Y
  obtain⟨xW,yF,Ck⟩:=hY.yD
  obtain⟨ln,y3⟩:∃ ln,st.lanes[k]? = some ln:=⟨_,getElem?_eq_getElem hk⟩
  obtain⟨vl,By,xl,zQ,EJ,FX,rfl,hL,_⟩:=Paired.at2 Ck y3
  refine⟨_,rfl,a.y,ys.xR,a.dy,_,_,rfl,hY.ins,Y.cl,Y.n3,rfl,_,rfl,a.la,xW,(k:Int),_,rfl,rfl,xS.of yF,aj By,xl,zQ,_,rfl,hL.ins,rfl,xl,zQ,EJ,ln.r,ln.b,ln.h,FX,ln.qs,rfl,hL,?_⟩
  have eF:bI st k=ln.qs.head?:=by unfold bI;rw[y3]
  unfold dL at q
  rw[eF]at q
  rcases ju hL.yR with ⟨hf,ef⟩ | ⟨pq,pt,hf,ef,Ak⟩
  ·rw[hf]at q
   rw[ef]
   exact⟨_,rfl,rfl,_,rfl,aN (aN ⟨zero_le _,fun D hD=>q D [] _ ((xN.refl H).new hD) hD ac .nil⟩)⟩
  rw[hf]at q
  rw[ef]
  obtain⟨m,t,em,hm,FZ⟩:=hI.G.yR k ln y3 pq (mem_of_head? hf)
  rw[em]at Ak
  dsimp only at q
  rw[em,toNat_natCast,hm]at q
  dsimp only at q
  obtain⟨ye,yY,pl⟩:=hY.hle
  obtain⟨v,hv,x,dx,wa,rfl,hx,hw,_⟩:=Paired.at2 pl hm
  obtain⟨C5,fst,Bu,yN,AL⟩:=hI.T.i
  have Hs:k < a.ps.length:=by rw[← hI.G.lanes];exact hk
  have he:=getElem?_eq_getElem Hs
  have EK:a.ps.getD k (0,0)=a.ps[k]:=by rw[getD_eq_getElem?_getD,he];rfl
  rw[EK]at q
  refine⟨_,rfl,rfl,_,rfl,aJ ⟨_,rfl,a.y,ys.xR,a.dy,_,_,rfl,hY.ins,Y.cl,Y.n4,rfl,_,rfl,pt,_,0,_,rfl,rfl,xV.of Ak,aj (j:=0) rfl,a.le,ye,(m:Int),_,rfl,rfl,xS.of yY,aj hv,x,ys.xQ,dx,_,_,rfl,hx,Y.ct,Y.t2,rfl,_,rfl,a.y,ys.xR,a.dy,_,_,rfl,hY.ins,Y.cl,Y.n1,rfl,a.tb,TC,C5,fst,_,rfl,Bu,W.cl,W.nl,yN,a.lx,a.yz,_,rfl,hI.T.l.1,rfl,_,rfl,a.lx,a.yz,a.lt,(a.n:Int),a.ye,a.ps,k,_,rfl,hI.T.l,he,rfl,_,rfl,?_⟩⟩
  rw[bP]
  by_cases hg:t.goal=a.ps[k].2
  ·rw[decide_eq_true hg]
   rw[if_pos hg]at q
   refine aJ ⟨_,rfl,by show 2 <= sizeLine;decide,fun z hz=>⟨by show 1 <= sizeLine;decide,fun D hD=>?_⟩⟩
   have s2:=(xN.refl H).new (o := .tup [.str "lie", .int k]) hz
   have gz:(upd H z (.tup [.str "lie", .int k])) z=some (.tup [.str "lie", .int k]):=ac
   exact q D [.ref z] _ (s2.new hD) (s2.free hD) ac (.cons ⟨z,rfl,by rw[ae (ag gz hD)];exact gz⟩ .nil)
  ·rw[decide_eq_false hg]
   rw[if_neg hg]at q
   exact aN ⟨zero_le _,fun D hD=>q D [] _ ((xN.refl H).new hD) hD ac .nil⟩
theorem P1:ar ["self", "lane"] ["self", "lane"] (al k9):=L2.yq
theorem pP {c:Cs}{ys:Ys}{J:TJ}{TC f:Addr}{fd:FuncData}(F:yn K "moves_back" "Yard.moves_back" k9 f fd)(Y:jz K ys):xO P w K mg base aF 1 f fd ["self", "lane"] (iS K c TC J ys):=by
 refine F.ok P1 (fun _ _ _ _ h=>?_) (fun _ _ _ s H _ Q E hr h=>?_)
 ·obtain⟨a,s,k,rfl,_⟩:=h
  rfl
 ·obtain⟨a,st,k,rfl,hI,hk,q⟩:=h
  refine⟨_,ak (au (cY (aw rB (am (ao aA (am (pv 0) rfl) (pv 1) (fun _ _=>rfl)) rfl) ai (ay _)) (aP (aa (aW (aa c8 (aa (pv 1) ad))) ad)) (aP ad))),?_⟩
  have hY:=hI.Y
  obtain⟨xW,yF,Ck⟩:=hY.yD
  obtain⟨ln,y3⟩:∃ ln,st.lanes[k]? = some ln:=⟨_,getElem?_eq_getElem hk⟩
  obtain⟨vl,By,xl,zQ,EJ,FX,rfl,hL,_⟩:=Paired.at2 Ck y3
  unfold cK at q
  dsimp only at q
  rw[y3]at q
  dsimp only at q
  refine⟨_,rfl,a.y,ys.xR,a.dy,_,_,rfl,hY.ins,Y.cl,Y.n3,rfl,_,rfl,a.la,xW,(k:Int),_,rfl,rfl,xS.of yF,aj By,xl,ys.yh,zQ,_,_,rfl,hL.ins,Y.L.cl,Y.L.n2,rfl,_,_,rfl,rfl,_,rfl,?_⟩
  by_cases hb:0 < ln.b
  ·rw[decide_eq_true hb]
   rw[if_pos hb]at q
   refine aN ⟨_,rfl,by show 2 <= sizeLine;decide,fun z hz=>⟨by show 1 <= sizeLine;decide,fun D hD=>?_⟩⟩
   have s2:=(xN.refl H).new (o := .tup [.str "back", .int k]) hz
   have gz:(upd H z (.tup [.str "back", .int k])) z=some (.tup [.str "back", .int k]):=ac
   exact q D [.ref z] _ (s2.new hD) (s2.free hD) ac (.cons ⟨z,rfl,by rw[ae (ag gz hD)];exact gz⟩ .nil)
  ·rw[decide_eq_false hb]
   rw[if_neg hb]at q
   exact aJ ⟨zero_le _,fun D hD=>q D [] _ ((xN.refl H).new hD) hD ac .nil⟩
theorem eN {H:Hp}{F:Addr}{xs:List V}{o:HO}(h:H F=some (.lst xs)):yg H (upd H F o):=fun b u e n=>by
 have nb:b ≠ F:=fun z=>by rw[z,h]at e;cases e;exact n
 rw[ae nb];exact e
theorem cT {α:Type}(f:Nat->List α)(i:Nat):(List.range (i + 1)).flatMap f=(List.range i).flatMap f ++ f i:=by
 rw[range_succ,List.flatMap_append];simp
theorem bj {α:Type}{f:Nat->List α}(h:∀ i,(f i).length <= 1000):∀ i,((List.range i).flatMap f).length <= 1000 * i
 | 0=>by simp
 | i + 1=>by rw[cT,length_append];have:=bj h i;have:=h i;omega
theorem dM {a:YA}{s:YS}(O:vh a)(G:Pt a s)(k:Nat):(fA a s k).length <= 1000:=by
 unfold fA
 cases ht:s.xM[k]? with
 | none=>exact zero_le _
 | some t =>
  dsimp only
  by_cases hg:t.gone=t.len
  ·rw[if_pos hg];exact zero_le _
  rw[if_neg hg,length_map]
  refine le_trans (length_filter_le _ _) ?_
  unfold cM
  by_cases h0:t.gone=0
  ·rw[if_pos h0];exact le_trans (O.yI _ _ _) (by decide)
  ·rw[if_neg h0,length_take];omega
theorem dJ {a:YA}{s:YS}(O:vh a)(k:Nat):(gq a s k).length <= 1000:=by
 unfold gq
 cases hq:bI s k with
 | none=>exact zero_le _
 | some pq =>
  dsimp only
  rw[length_map]
  refine le_trans (length_filter_le _ _) ?_
  unfold cN
  rw[hq]
  dsimp only
  cases s.xM[pq.1.toNat]? with
  | none=>exact zero_le _
  | some t =>
   dsimp only
   by_cases h0:pq.2=0
   ·rw[if_pos h0]
    refine le_trans (length_filter_le _ _) ?_
    unfold yZ
    by_cases z:(a.ps.getD k (0,0)).2=((t.goal.toNat:Nat):Int)
    ·rw[if_pos z];exact zero_le _
    ·rw[if_neg z];exact le_trans (O.yI _ _ _) (by decide)
   ·rw[if_neg h0,length_take];omega
theorem cS (a:YA)(s:YS)(k:Nat):(dL a s k).length <= 1000:=by
 unfold dL
 cases bI s k with
 | none=>exact zero_le _
 | some pq =>
  dsimp only
  cases s.xM[pq.1.toNat]? with
  | none=>exact zero_le _
  | some t =>
   dsimp only
   by_cases h0:t.goal=(a.ps.getD k (0,0)).2
   ·rw[if_pos h0];show 1 <= 1000;decide
   ·rw[if_neg h0];exact zero_le _
theorem jl (s:YS)(k:Nat):(cK s k).length <= 1000:=by
 unfold cK
 cases s.lanes[k]? with
 | none=>exact zero_le _
 | some ln =>
  dsimp only
  by_cases h0:0 < ln.b
  ·rw[if_pos h0];show 1 <= 1000;decide
  ·rw[if_neg h0];exact zero_le _
noncomputable def cC (a:YA)(s:YS):List Mv:=(List.range s.xM.length).flatMap (fA a s) ++ (List.range s.lanes.length).flatMap (gq a s) ++ (List.range s.lanes.length).flatMap (dL a s) ++ (List.range s.lanes.length).flatMap (cK s)
noncomputable def i7 (K:Frag)(c:Cs)(TC:Addr)(J:TJ)(ys:Ys):Sp:=fun vs H Q _=>∃ (a:YA)(s:YS),vs=[.ref a.y]/\Cm K c TC J ys H a s /\
 ∀ (D:Addr)(yl:List V)(H':Hp),xN H H'->H D=none->H' D=some (.lst yl)->Paired (y8 H') yl ((cC a s).map eE)->Q (.ref D) H'
theorem Paired.app {α β:Type}{R:α->β->Prop}{cs:List α}{ds:List β}(h:Paired R cs ds):∀ {as:List α}{bs:List β},Paired R as bs->Paired R (as ++ cs) (bs ++ ds):=fun xU=>by
 induction xU with
 | nil=>exact h
 | cons x r ih=>exact .cons x ih
theorem gp {H H2 H3:Hp}{F:Addr}{vs yl:List V}{xs ys:List Mv}(nF:H F=none)(s2:xN H H2)(g2:H2 F=some (.lst vs))(p2:Paired (y8 H2) vs (xs.map eE))(s3:xN H2 H3)(p3:Paired (y8 H3) yl (ys.map eE)) :
  xN H (upd H3 F (.lst (vs ++ yl)))/\(upd H3 F (.lst (vs ++ yl))) F=some (.lst (vs ++ yl))/\Paired (y8 (upd H3 F (.lst (vs ++ yl)))) (vs ++ yl) ((xs ++ ys).map eE):=by
 refine⟨fun b o e=>by rw[ae (ag e nF)];exact s3 _ _ (s2 _ _ e),ac,?_⟩
 have kk:yg H3 (upd H3 F (.lst (vs ++ yl))):=eN (s3 _ _ g2)
 rw[map_append]
 have q2:=Paired.mono (fun _ _ z=>z.keep (yg.trans (xN.xX s3) kk)) p2
 have q3:=Paired.mono (fun _ _ z=>z.keep kk) p3
 exact Paired.app q3 q2
abbrev NMs:List Str:=["self", "found", "number", "lane"]
theorem BX:ar NMs ["self"] (al mV):=L2.yq
structure P2 (P:Program)(w:World)(K:Frag)(mg:Str->Option Value)(base:Heap)(c:Cs)(TC:Addr)(J:TJ)(ys:Ys)(fi fo fl fb:Addr)(di Ad dl db:FuncData):Prop where
 mi:bK K ys.xR "moves_in" fi
 bi:Binds K di ["self", "number"] []
 Gi:xO P w K mg base aF 4 fi di ["self", "number"] (mO K c TC J ys)
 mo:bK K ys.xR "moves_on" fo
 bo:Binds K Ad ["self", "lane"] []
 Go:xO P w K mg base aF 6 fo Ad ["self", "lane"] (mK K c TC J ys)
 ml:bK K ys.xR "moves_lie" fl
 bl:Binds K dl ["self", "lane"] []
 Gl:xO P w K mg base aF 2 fl dl ["self", "lane"] (om K c TC J ys)
 mb:bK K ys.xR "moves_back" fb
 bb:Binds K db ["self", "lane"] []
 Gb:xO P w K mg base aF 1 fb db ["self", "lane"] (iS K c TC J ys)
theorem rL {c:Cs}{ys:Ys}{J:TJ}{TC f fw fi fo fl fb:Addr}{fd dw di Ad dl db:FuncData}(F:yn K "moves" "Yard.moves" mV f fd)(T:fR mg)(Y:jz K ys)(W:Wy K TC fw dw J)(M:P2 P w K mg base c TC J ys fi fo fl fb di Ad dl db) :
  xO P w K mg base aF 7 f fd ["self"] (i7 K c TC J ys):=by
 refine F.ok BX (fun _ _ _ _ h=>?_) (fun _ _ _ s H _ Q E hr h=>?_)
 ·obtain⟨a,s,rfl,_⟩:=h
  rfl
 ·obtain⟨a,st,rfl,hI,q⟩:=h
  have yA:ya 1 _:=hr.mono (by decide)
  have zh:ya 2 _:=hr.mono (by decide)
  have Be:ya 4 _:=hr.mono (by decide)
  refine⟨_,af (aD (i:=1) BX.nd rfl (Or.inl rfl) (aP ad))
   (af (bB PassesOwn.never rfl (aS rfl T.range (aa (aB aC rfl T.len PySem.boot_len (aa (am (pv 0) rfl) ad)) ad)) (aq (i:=2) BX.nd rfl (Or.inl rfl)) (ak (aU (cp plainAttrs_list slot_list_extend type_list_extend dN (pv 1) (aa (aI (pv 0) Y.cl M.mi M.Gi Be M.bi .nil ap (aa (pv 2) ad)) ad)))))
   (af (bB PassesOwn.never rfl (aS rfl T.range (aa (aB aC rfl T.len PySem.boot_len (aa (am (pv 0) rfl) ad)) ad)) (aq (i:=3) BX.nd rfl (Or.inl rfl)) (ak (aU (cp plainAttrs_list slot_list_extend type_list_extend dN (pv 1) (aa (aI (pv 0) Y.cl M.mo M.Go hr M.bo .nil ap (aa (pv 3) ad)) ad)))))
   (af (bB PassesOwn.never rfl (aS rfl T.range (aa (aB aC rfl T.len PySem.boot_len (aa (am (pv 0) rfl) ad)) ad)) (aq (i:=3) BX.nd rfl (Or.inl rfl)) (ak (aU (cp plainAttrs_list slot_list_extend type_list_extend dN (pv 1) (aa (aI (pv 0) Y.cl M.ml M.Gl zh M.bl .nil ap (aa (pv 3) ad)) ad)))))
   (af (bB PassesOwn.never rfl (aS rfl T.range (aa (aB aC rfl T.len PySem.boot_len (aa (am (pv 0) rfl) ad)) ad)) (aq (i:=3) BX.nd rfl (Or.inl rfl)) (ak (aU (cp plainAttrs_list slot_list_extend type_list_extend dN (pv 1) (aa (aI (pv 0) Y.cl M.mb M.Gb yA M.bb .nil ap (aa (pv 3) ad)) ad)))))
   (ak (au (pv 1))))))),?_⟩
  have BY:=hI.G.yI
  have DF:st.lanes.length <= 40:=by rw[hI.G.lanes];exact hI.T.yI
  refine⟨zero_le _,fun Fd Ht=>?_⟩
  have s0:=(xN.refl H).new (o := .lst []) Ht
  have g0:(upd H Fd (.lst [])) Fd=some (.lst []):=ac
  show bE 1 (V.ref Fd) _ _ _
  generalize upd H Fd (.lst [])=H0 at s0 g0 ⊢
  have P4:∃ vs,xN H H0/\H0 Fd=some (.lst vs)/\Paired (y8 H0) vs (([]:List Mv).map eE):=⟨[],s0,g0, .nil⟩
  obtain⟨CB,Tx,g0',p0'⟩:=P4
  have Tz:=(hI.same W Tx).Y
  obtain⟨T1,gl0,pl0⟩:=Tz.hle
  have P5:T1.length=st.xM.length:=Paired.length pl0
  refine⟨_,rfl,a.y,ys.xR,a.dy,_,_,rfl,Tz.ins,Y.cl,Y.n4,rfl,a.le,_,rfl, .inl (xS.of gl0),((T1.length:Nat):Int),rfl,by omega,by omega,?_⟩
  rw[toNat_natCast,P5]
  refine b5 (n:=st.xM.length) (fun i σ H2=>∃ a2 a3:Option V,(∃ vs,xN H H2/\H2 Fd=some (.lst vs)/\Paired (y8 H2) vs (((List.range i).flatMap (fA a st)).map eE))/\σ=[some (.ref a.y),some (.ref Fd),a2,a3]) ?_ ?_ ?_
  ·exact⟨_,_,⟨CB,Tx,g0',by simpa using p0'⟩,rfl⟩
  ·rintro i σ H2 hi ⟨a2,a3,⟨vs,s2,g2,p2⟩,rfl⟩
   rw[zero_add]
   have AN:=hI.same W s2
   refine⟨_,rfl, .inl ⟨rfl,_,xS.of g2⟩,_,rfl,a.y,a.dy,_,rfl,AN.Y.ins,rfl,_,rfl,a,st,i,rfl,AN,hi,fun D yl H3 s3 hD gD hp=>?_⟩
   have l1:vs.length <= 1000000:=by
    rw[Paired.length p2,length_map]
    have h0:=bj (dM hI.O hI.G) st.xM.length
    have h1:=bj (dJ (s:=st) hI.O) st.lanes.length
    have h2:=bj (cS a st) st.lanes.length
    have hh:=bj (dM hI.O hI.G) i
    try simp only[length_append]
    omega
   have l2:yl.length <= 1000:=by rw[Paired.length hp,length_map];exact(dM hI.O hI.G) i
   obtain⟨q1,q2,q3⟩:=gp Ht s2 g2 p2 s3 hp
   refine⟨Fd,D,vs,yl,rfl,rfl,s3 _ _ g2,gD,by rw[sizeLine_eq];omega,?_⟩
   refine⟨_,_,⟨vs ++ yl,q1,q2,?_⟩,rfl⟩
   rw[cT]
   exact q3
  rintro σ0 H1 ⟨a20,a30,inv1,rfl⟩
  obtain⟨vs1,T2,Kj,p1'⟩:=inv1
  have Aj:=(hI.same W T2).Y
  obtain⟨T3,gl1,Pr⟩:=Aj.yD
  have P6:T3.length=st.lanes.length:=Paired.length Pr
  refine⟨_,rfl,a.y,ys.xR,a.dy,_,_,rfl,Aj.ins,Y.cl,Y.n3,rfl,a.la,_,rfl, .inl (xS.of gl1),((T3.length:Nat):Int),rfl,by omega,by omega,?_⟩
  rw[toNat_natCast,P6]
  refine b5 (n:=st.lanes.length) (fun i σ H2=>∃ a2 a3:Option V,(∃ vs,xN H H2/\H2 Fd=some (.lst vs)/\Paired (y8 H2) vs ((((List.range st.xM.length).flatMap (fA a st)) ++ (List.range i).flatMap (gq a st)).map eE))/\σ=[some (.ref a.y),some (.ref Fd),a2,a3]) ?_ ?_ ?_
  ·exact⟨_,_,⟨vs1,T2,Kj,by simpa using p1'⟩,rfl⟩
  ·rintro i σ H2 hi ⟨a2,a3,⟨vs,s2,g2,p2⟩,rfl⟩
   rw[zero_add]
   have AN:=hI.same W s2
   refine⟨_,rfl, .inl ⟨rfl,_,xS.of g2⟩,_,rfl,a.y,a.dy,_,rfl,AN.Y.ins,rfl,_,rfl,a,st,i,rfl,AN,hi,fun D yl H3 s3 hD gD hp=>?_⟩
   have l1:vs.length <= 1000000:=by
    rw[Paired.length p2,length_map]
    have h0:=bj (dM hI.O hI.G) st.xM.length
    have h1:=bj (dJ (s:=st) hI.O) st.lanes.length
    have h2:=bj (cS a st) st.lanes.length
    have hh:=bj (dJ (s:=st) hI.O) i
    try simp only[length_append]
    omega
   have l2:yl.length <= 1000:=by rw[Paired.length hp,length_map];exact(dJ (s:=st) hI.O) i
   obtain⟨q1,q2,q3⟩:=gp Ht s2 g2 p2 s3 hp
   refine⟨Fd,D,vs,yl,rfl,rfl,s3 _ _ g2,gD,by rw[sizeLine_eq];omega,?_⟩
   refine⟨_,_,⟨vs ++ yl,q1,q2,?_⟩,rfl⟩
   rw[cT]
   rw[← append_assoc];exact q3
  rintro σ1 H2 ⟨a21,a31,inv2,rfl⟩
  obtain⟨AM,T4,g2',p2'⟩:=inv2
  have Bw:=(hI.same W T4).Y
  obtain⟨T5,gl2,pl2⟩:=Bw.yD
  have Kk:T5.length=st.lanes.length:=Paired.length pl2
  refine⟨_,rfl,a.y,ys.xR,a.dy,_,_,rfl,Bw.ins,Y.cl,Y.n3,rfl,a.la,_,rfl, .inl (xS.of gl2),((T5.length:Nat):Int),rfl,by omega,by omega,?_⟩
  rw[toNat_natCast,Kk]
  refine b5 (n:=st.lanes.length) (fun i σ H2=>∃ a2 a3:Option V,(∃ vs,xN H H2/\H2 Fd=some (.lst vs)/\Paired (y8 H2) vs ((((List.range st.xM.length).flatMap (fA a st) ++ (List.range st.lanes.length).flatMap (gq a st)) ++ (List.range i).flatMap (dL a st)).map eE))/\σ=[some (.ref a.y),some (.ref Fd),a2,a3]) ?_ ?_ ?_
  ·exact⟨_,_,⟨AM,T4,g2',by simpa using p2'⟩,rfl⟩
  ·rintro i σ H2 hi ⟨a2,a3,⟨vs,s2,g2,p2⟩,rfl⟩
   rw[zero_add]
   have AN:=hI.same W s2
   refine⟨_,rfl, .inl ⟨rfl,_,xS.of g2⟩,_,rfl,a.y,a.dy,_,rfl,AN.Y.ins,rfl,_,rfl,a,st,i,rfl,AN,hi,fun D yl H3 s3 hD gD hp=>?_⟩
   have l1:vs.length <= 1000000:=by
    rw[Paired.length p2,length_map]
    have h0:=bj (dM hI.O hI.G) st.xM.length
    have h1:=bj (dJ (s:=st) hI.O) st.lanes.length
    have h2:=bj (cS a st) st.lanes.length
    have hh:=bj (cS a st) i
    try simp only[length_append]
    omega
   have l2:yl.length <= 1000:=by rw[Paired.length hp,length_map];exact(cS a st) i
   obtain⟨q1,q2,q3⟩:=gp Ht s2 g2 p2 s3 hp
   refine⟨Fd,D,vs,yl,rfl,rfl,s3 _ _ g2,gD,by rw[sizeLine_eq];omega,?_⟩
   refine⟨_,_,⟨vs ++ yl,q1,q2,?_⟩,rfl⟩
   rw[cT]
   rw[← append_assoc];exact q3
  rintro σ2 H3 ⟨a22,a32,P7,rfl⟩
  obtain⟨vs3,T6,Kl,p3'⟩:=P7
  have zB:=(hI.same W T6).Y
  obtain⟨T7,MQ,pl3⟩:=zB.yD
  have P8:T7.length=st.lanes.length:=Paired.length pl3
  refine⟨_,rfl,a.y,ys.xR,a.dy,_,_,rfl,zB.ins,Y.cl,Y.n3,rfl,a.la,_,rfl, .inl (xS.of MQ),((T7.length:Nat):Int),rfl,by omega,by omega,?_⟩
  rw[toNat_natCast,P8]
  refine b5 (n:=st.lanes.length) (fun i σ H2=>∃ a2 a3:Option V,(∃ vs,xN H H2/\H2 Fd=some (.lst vs)/\Paired (y8 H2) vs ((((List.range st.xM.length).flatMap (fA a st) ++ (List.range st.lanes.length).flatMap (gq a st) ++ (List.range st.lanes.length).flatMap (dL a st)) ++ (List.range i).flatMap (cK st)).map eE))/\σ=[some (.ref a.y),some (.ref Fd),a2,a3]) ?_ ?_ ?_
  ·exact⟨_,_,⟨vs3,T6,Kl,by simpa using p3'⟩,rfl⟩
  ·rintro i σ H2 hi ⟨a2,a3,⟨vs,s2,g2,p2⟩,rfl⟩
   rw[zero_add]
   have AN:=hI.same W s2
   refine⟨_,rfl, .inl ⟨rfl,_,xS.of g2⟩,_,rfl,a.y,a.dy,_,rfl,AN.Y.ins,rfl,_,rfl,a,st,i,rfl,AN,hi,fun D yl H3 s3 hD gD hp=>?_⟩
   have l1:vs.length <= 1000000:=by
    rw[Paired.length p2,length_map]
    have h0:=bj (dM hI.O hI.G) st.xM.length
    have h1:=bj (dJ (s:=st) hI.O) st.lanes.length
    have h2:=bj (cS a st) st.lanes.length
    have hh:=bj (jl st) i
    try simp only[length_append]
    omega
   have l2:yl.length <= 1000:=by rw[Paired.length hp,length_map];exact(jl st) i
   obtain⟨q1,q2,q3⟩:=gp Ht s2 g2 p2 s3 hp
   refine⟨Fd,D,vs,yl,rfl,rfl,s3 _ _ g2,gD,by rw[sizeLine_eq];omega,?_⟩
   refine⟨_,_,⟨vs ++ yl,q1,q2,?_⟩,rfl⟩
   rw[cT]
   rw[← append_assoc];exact q3
  rintro σ3 H4 ⟨a23,a33,P9,rfl⟩
  obtain⟨vs,s2,g2,p2⟩:=P9
  exact⟨_,rfl,q Fd vs _ s2 Ht g2 p2⟩
structure xI (K:Frag):Prop where
 ss:kitOne K (.type "str") (.type "str")=some true
 ns:kitOne K (.type "int") (.type "str")=some false
 tt:kitOne K (.type "tuple") (.type "tuple")=some true
theorem iy {a b:Str}(h:a ≠ b):decide (V.str a=V.str b)=false:=decide_eq_false fun z=>h (by injection z)
theorem iV (a:Str):decide (V.str a=V.str a)=true:=decide_eq_true rfl
noncomputable def qK:Sp:=fun vs H Q _=>∃ (p:Addr)(xs:List V),vs=[.ref p]/\H p=some (.tup xs)/\xs.length <= 100/\(∀ x ∈ xs,(∃ t,x = .str t)∨∃ i,x = .int i)/\∀ H',xN H H'->Q (.bl true) H'
noncomputable def vf (s:Stmt):Scope:=match s with
 | .Return (some (.BoolOp _ [_, .Call _ [.ListComp _ _ sc _] _ _] _)) _=>sc
 | _=>zQ0
theorem lD (m:Mv):(eE m).length <= 100/\∀ x ∈ eE m,(∃ t,x=V.str t)∨∃ i,x=V.int i:=by
 cases m<;>refine⟨by simp[eE],fun x hx=>?_⟩<;>simp only[eE,mem_cons,not_mem_nil,or_false]at hx
 ·rcases hx with rfl | rfl | rfl
  ·exact .inl ⟨_,rfl⟩
  ·exact .inr ⟨_,rfl⟩
  ·exact .inr ⟨_,rfl⟩
 ·rcases hx with rfl | rfl | rfl
  ·exact .inl ⟨_,rfl⟩
  ·exact .inr ⟨_,rfl⟩
  ·exact .inr ⟨_,rfl⟩
 ·rcases hx with rfl | rfl
  ·exact .inl ⟨_,rfl⟩
  ·exact .inr ⟨_,rfl⟩
 ·rcases hx with rfl | rfl
  ·exact .inl ⟨_,rfl⟩
  ·exact .inr ⟨_,rfl⟩
noncomputable def oO (a:YA)(s:YS):Mv->List Mv
 | .y6 k _=>fA a s k
 | .on k _=>gq a s k
 | .AR k=>dL a s k
 | .back k=>cK s k
noncomputable def vG (s:YS):Mv->Prop
 | .y6 k _=>k < s.xM.length
 | .on k _=>k < s.lanes.length
 | .AR k=>k < s.lanes.length
 | .back k=>k < s.lanes.length
noncomputable def qJ (K:Frag)(c:Cs)(TC:Addr)(J:TJ)(ys:Ys):Sp:=fun vs H Q _=>∃ (a:YA)(s:YS)(p:Addr)(m:Mv),vs=[.ref a.y, .ref p]/\Cm K c TC J ys H a s/\H p=some (.tup (eE m))/\vG s m /\
 ∀ (D:Addr)(yl:List V)(H':Hp),xN H H'->H D=none->H' D=some (.lst yl)->Paired (y8 H') yl ((oO a s m).map eE)->Q (.ref D) H'
theorem PB:ar ["move"] ["move"] (al ly):=L2.yq
theorem PD:yK ["move"] (al ly) (vf ((aG ly).getD 0 (.Pass ⟨0,0,0,0⟩))) [] []:=L2.zA
theorem PF:(["thing"]:List Str).Nodup:=by decide +kernel
theorem uD {f fh:Addr}{fd dh:FuncData}(F:yn K "is_move" "is_move" ly f fd)(T:fR mg)(Z:xI K)(mh:mg "is_whole" = some (.ref fh))(kh:keepIn K (.ref fh)=true)(bh:Binds K dh ["value"] [])(G:xO P w K mg base aF 1 fh dh ["value"] fT) :
  xO P w K mg base aF 2 f fd ["move"] qK:=by
 refine F.ok PB (fun _ _ _ _ h=>?_) (fun _ _ _ s H _ Q E hr h=>?_)
 ·obtain⟨p,xs,rfl,_⟩:=h
  rfl
 ·obtain⟨p,xs,rfl,hp,hl,hx,q⟩:=h
  refine⟨_,ak (au (cr (aB dO rfl T.Ej PyProof.Rows.boot_isinstance (aa (pv 0) (aa (dB (v := .ty "tuple") rfl T.tuple PySem.Pv.boot_tuple rfl) ad)))
   (cG (aB (jw rfl) rfl T.all PyProof.Rows.boot_all (aa (bv (own:=["thing"]) (capN:=[]) (cap:=[]) PD rfl (jb (pv 0)) (fun C s' H' fp=>⟨aq (i:=0) PF rfl (Or.inl rfl),bT,
    HU (aB (show cR _ (.builtin "isinstance") (IS K) from dO) rfl T.Ej PyProof.Rows.boot_isinstance (aa (pv 0) (aa (dB (v := .ty "str") rfl T.str PySem.Pv.boot_str rfl) ad))) (cG (az G hr rfl mh kh bh .nil ap (aa (pv 0) ad)))⟩)) ad))))),?_⟩
  refine⟨_,rfl, .ref p,_, "tuple",true,rfl, .tup hp,Z.tt,true,rfl,aN ⟨_,rfl,p,rfl,⟨_,xV.of hp⟩,?_⟩⟩
  refine b8 xs.length (by rw[sizeLine_eq];omega) (fun i acc H'=>H' = H/\acc=(List.replicate i true).map V.bl) ⟨rfl,rfl⟩ (fun i acc H' h=>by rw[h.2];simp) (fun i acc H' hi h=>?_) (fun acc H' h=>?_)
  ·obtain⟨rfl,rfl⟩:=h
   refine⟨⟨xs,xs[i],xV.of hp,getElem?_eq_getElem hi⟩,fun v H2 y=>?_⟩
   obtain⟨rfl,y⟩:=y
   have hv:=y xs (xV.of hp)
   have e:(List.replicate i true).map V.bl ++ [V.bl true]=(List.replicate (i + 1) true).map V.bl:=by rw[List.replicate_succ',map_append];rfl
   rcases hx v (mem_of_getElem? hv) with ⟨t,rfl⟩ | ⟨z,rfl⟩
   ·exact⟨_,rfl, .str t,_, "str",true,rfl, .str t,Z.ss,true,rfl,aN ⟨rfl,e⟩⟩
   ·exact⟨_,rfl, .int z,_, "str",false,rfl, .int z,Z.ns,false,rfl,aJ ⟨_,rfl, .int z,rfl, .int z,rfl,e⟩⟩
  ·obtain⟨rfl,rfl⟩:=h
   refine⟨⟨xs,xV.of hp,le_refl _⟩,fun D hD=>⟨D,List.replicate xs.length true,rfl,xS.of ac,?_⟩⟩
   have e:(List.replicate xs.length true).all id=true:=by rw[all_eq_true];intro b hb;rw[eq_of_mem_replicate hb];rfl
   rw[e]
   exact q _ ((xN.refl H').new hD)
theorem PH:ar ["self", "move"] ["self", "move"] (al qX):=L2.yq
theorem uC {c:Cs}{ys:Ys}{J:TJ}{TC f fw fi fo fl fb fm fn:Addr}{fd dw di Ad dl db dm dn:FuncData}(F:yn K "moves_like" "Yard.moves_like" qX f fd)(T:fR mg)(Y:jz K ys)(W:Wy K TC fw dw J)(M:P2 P w K mg base c TC J ys fi fo fl fb di Ad dl db)
  (mm:mg "is_move" = some (.ref fm)) (km:keepIn K (.ref fm)=true) (bm:Binds K dm ["move"] []) (Gm:xO P w K mg base aF 2 fm dm ["move"] qK)
  (mn:mg "is_within" = some (.ref fn)) (kn:keepIn K (.ref fn)=true) (bn:Binds K dn ["value", "least", "most"] []) (Gn:xO P w K mg base aF 2 fn dn ["value", "least", "most"] eV) :
  xO P w K mg base aF 7 f fd ["self", "move"] (qJ K c TC J ys):=by
 refine F.ok PH (fun _ _ _ _ h=>?_) (fun _ _ _ s H _ Q E hr h=>?_)
 ·obtain⟨a,s,p,m,rfl,_⟩:=h
  rfl
 ·obtain⟨a,st,p,m,rfl,hI,hp,xY,q⟩:=h
  have yA:ya 1 _:=hr.mono (by decide)
  have zh:ya 2 _:=hr.mono (by decide)
  have Be:ya 4 _:=hr.mono (by decide)
  refine⟨_,af (aR (kE (PW.pt (fD (bM (b9 (az Gm zh rfl mm km bm .nil ap (aa (pv 1) ad)))) (dW (aw jI (aB aC rfl T.len PySem.boot_len (aa (pv 1) ad)) ai (ay _)))))) (ak (au (aP ad))) aE)
   (af (aR (aw bG (ao av (pv 1) ai (fun _ _=>rfl)) c8 (ay _))
    (ak (au (cY (b9 (az Gn zh rfl mn kn bn .nil ap (aa (ao av (pv 1) ai (fun _ _=>rfl)) (aa ai (aa (ax cI (aB aC rfl T.len PySem.boot_len (aa (am (pv 0) rfl) ad)) ai) ad)))))
     (aI (pv 0) Y.cl M.mi M.Gi Be M.bi .nil ap (aa (ao av (pv 1) ai (fun _ _=>rfl)) ad)) (aP ad)))) aE)
   (af (aR (bM (b9 (az Gn zh rfl mn kn bn .nil ap (aa (ao av (pv 1) ai (fun _ _=>rfl)) (aa ai (aa (ax cI (aB aC rfl T.len PySem.boot_len (aa (am (pv 0) rfl) ad)) ai) ad)))))) (ak (au (aP ad))) aE)
   (af (aR (aw bG (ao av (pv 1) ai (fun _ _=>rfl)) c8 (ay _)) (ak (au (aI (pv 0) Y.cl M.mo M.Go hr M.bo .nil ap (aa (ao av (pv 1) ai (fun _ _=>rfl)) ad)))) aE)
   (af (aR (aw bG (ao av (pv 1) ai (fun _ _=>rfl)) c8 (ay _)) (ak (au (aI (pv 0) Y.cl M.ml M.Gl zh M.bl .nil ap (aa (ao av (pv 1) ai (fun _ _=>rfl)) ad)))) aE)
   (ak (au (cY (aw bG (ao av (pv 1) ai (fun _ _=>rfl)) c8 (ay _)) (aI (pv 0) Y.cl M.mb M.Gb yA M.bb .nil ap (aa (ao av (pv 1) ai (fun _ _=>rfl)) ad)) (aP ad)))))))),?_⟩
  refine⟨fun b H1=>b=false/\xN H H1,?_,?_⟩
  ·refine⟨_,rfl,p,eE m,rfl,hp,(lD m).1,(lD m).2,fun H1 s1=>⟨_,rfl,aJ ?_⟩⟩
   refine⟨_,rfl,p,_,rfl, .inr (xV.of (s1 _ _ hp)),_,_,rfl,rfl,_,rfl,?_,s1⟩
   cases m<;>rfl
  rintro b H1 ⟨rfl,s1⟩
  refine aJ ?_
  have AS:=hI.same W s1
  have yo:=s1 _ _ hp
  have q1:∀ (D:Addr)(yl:List V)(H':Hp),xN H1 H'->H1 D=none->H' D=some (.lst yl)->Paired (y8 H') yl ((oO a st m).map eE)->Q (.ref D) H':=fun D yl H' s' hD g' Bn=>q D yl H' (s1.trans s') (s1.free hD) g' Bn
  have hY:=AS.Y
  obtain⟨ye,yY,ple⟩:=hY.hle
  have hle:ye.length=st.xM.length:=Paired.length ple
  obtain⟨xW,yF,Ck⟩:=hY.yD
  have yD:xW.length=st.lanes.length:=Paired.length Ck
  clear s1 q hp hI
  have inl:∀ k:Nat,k < st.lanes.length->jJ (.int k) 0 (((xW.length:Nat):Int) - 1)=true:=fun k hk=>decide_eq_true (by omega)
  cases m with
  | y6 k l =>
   have yo:H1 p=some (.tup [.str "in", .int k, .int l]):=yo
   have xY:k < st.xM.length:=xY
   refine⟨_,rfl,p,_,0,_,rfl,rfl,xV.of yo,aj (j:=0) rfl,rfl,_,rfl,?_⟩
   rw[iV]
   refine aN ⟨_,rfl,p,_,1,_,rfl,rfl,xV.of yo,aj (j:=1) rfl,_,rfl,a.y,ys.xR,a.dy,_,_,rfl,hY.ins,Y.cl,Y.n4,rfl,a.le,_,rfl, .inl (xS.of yY),_,_,rfl,rfl, .int k,0,((ye.length:Nat):Int) - 1,rfl, .int _,_,rfl,?_⟩
   rw[show jJ (.int k) 0 (((ye.length:Nat):Int) - 1)=true from decide_eq_true (by omega)]
   exact aN ⟨_,rfl,a.y,a.dy,_,rfl,hY.ins,rfl,_,rfl,p,_,1,_,rfl,rfl,xV.of yo,aj (j:=1) rfl,a,st,k,rfl,AS,xY,fun D yl H' s' hD g' Bn=>q1 D yl H' s' hD g' Bn⟩
  | on k l =>
   have yo:H1 p=some (.tup [.str "on", .int k, .int l]):=yo
   have xY:k < st.lanes.length:=xY
   refine⟨_,rfl,p,_,0,_,rfl,rfl,xV.of yo,aj (j:=0) rfl,rfl,_,rfl,?_⟩
   rw[iy (by decide +kernel)]
   refine aJ ⟨_,rfl,p,_,1,_,rfl,rfl,xV.of yo,aj (j:=1) rfl,_,rfl,a.y,ys.xR,a.dy,_,_,rfl,hY.ins,Y.cl,Y.n3,rfl,a.la,_,rfl, .inl (xS.of yF),_,_,rfl,rfl, .int k,0,((xW.length:Nat):Int) - 1,rfl, .int _,_,rfl,?_⟩
   rw[inl k xY]
   refine aJ ⟨_,rfl,p,_,0,_,rfl,rfl,xV.of yo,aj (j:=0) rfl,rfl,_,rfl,?_⟩
   rw[iV]
   exact aN ⟨_,rfl,a.y,a.dy,_,rfl,hY.ins,rfl,_,rfl,p,_,1,_,rfl,rfl,xV.of yo,aj (j:=1) rfl,a,st,k,rfl,AS,xY,fun D yl H' s' hD g' Bn=>q1 D yl H' s' hD g' Bn⟩
  | AR k =>
   have yo:H1 p=some (.tup [.str "lie", .int k]):=yo
   have xY:k < st.lanes.length:=xY
   refine⟨_,rfl,p,_,0,_,rfl,rfl,xV.of yo,aj (j:=0) rfl,rfl,_,rfl,?_⟩
   rw[iy (by decide +kernel)]
   refine aJ ⟨_,rfl,p,_,1,_,rfl,rfl,xV.of yo,aj (j:=1) rfl,_,rfl,a.y,ys.xR,a.dy,_,_,rfl,hY.ins,Y.cl,Y.n3,rfl,a.la,_,rfl, .inl (xS.of yF),_,_,rfl,rfl, .int k,0,((xW.length:Nat):Int) - 1,rfl, .int _,_,rfl,?_⟩
   rw[inl k xY]
   refine aJ ⟨_,rfl,p,_,0,_,rfl,rfl,xV.of yo,aj (j:=0) rfl,rfl,_,rfl,?_⟩
   rw[iy (by decide +kernel)]
   refine aJ ⟨_,rfl,p,_,0,_,rfl,rfl,xV.of yo,aj (j:=0) rfl,rfl,_,rfl,?_⟩
   rw[iV]
   exact aN ⟨_,rfl,a.y,a.dy,_,rfl,hY.ins,rfl,_,rfl,p,_,1,_,rfl,rfl,xV.of yo,aj (j:=1) rfl,a,st,k,rfl,AS,xY,fun D yl H' s' hD g' Bn=>q1 D yl H' s' hD g' Bn⟩
  | back k =>
   have yo:H1 p=some (.tup [.str "back", .int k]):=yo
   have xY:k < st.lanes.length:=xY
   refine⟨_,rfl,p,_,0,_,rfl,rfl,xV.of yo,aj (j:=0) rfl,rfl,_,rfl,?_⟩
   rw[iy (by decide +kernel)]
   refine aJ ⟨_,rfl,p,_,1,_,rfl,rfl,xV.of yo,aj (j:=1) rfl,_,rfl,a.y,ys.xR,a.dy,_,_,rfl,hY.ins,Y.cl,Y.n3,rfl,a.la,_,rfl, .inl (xS.of yF),_,_,rfl,rfl, .int k,0,((xW.length:Nat):Int) - 1,rfl, .int _,_,rfl,?_⟩
   rw[inl k xY]
   refine aJ ⟨_,rfl,p,_,0,_,rfl,rfl,xV.of yo,aj (j:=0) rfl,rfl,_,rfl,?_⟩
   rw[iy (by decide +kernel)]
   refine aJ ⟨_,rfl,p,_,0,_,rfl,rfl,xV.of yo,aj (j:=0) rfl,rfl,_,rfl,?_⟩
   rw[iy (by decide +kernel)]
   refine aJ ⟨_,rfl,p,_,0,_,rfl,rfl,xV.of yo,aj (j:=0) rfl,rfl,_,rfl,?_⟩
   rw[iV]
   exact aN ⟨_,rfl,a.y,a.dy,_,rfl,hY.ins,rfl,_,rfl,p,_,1,_,rfl,rfl,xV.of yo,aj (j:=1) rfl,a,st,k,rfl,AS,xY,fun D yl H' s' hD g' Bn=>q1 D yl H' s' hD g' Bn⟩
noncomputable def c5 (ln:yr):yr:={ ln with b:=ln.b + 1,qs:=ln.qs.tail }
noncomputable def vE (ln:yr):yr:={ ln with r:=ln.r + 1,b:=ln.b - 1 }
inductive Bz (a:YA)(s:YS):Mv->YS->Prop
 | y6 {k l:Nat} {t:cu} {ln:yr} (ht:s.xM[k]? = some t) (hg:t.gone ≠ t.len) (hl:l ∈ cM a t) (y3:s.lanes[l]? = some ln) (ho:bX ln.r ln.h k t.gone=true) :
  Bz a s (.y6 k l) (dF (lL s k t) k t.gone l { t with gone:=t.gone + 1 } ln)
 | on {k l m:Nat} {c:Int} {lk ln:yr} {t:cu} (hk:s.lanes[k]? = some lk) (hq:lk.qs.head? = some ((m:Int),c)) (ht:s.xM[m]? = some t) (hl:l ∈ cN a s k) (y3:(s.lanes.set k (c5 lk))[l]? = some ln) (ho:bX ln.r ln.h m c=true) :
  Bz a s (.on k l) (dF { s with lanes:=s.lanes.set k (c5 lk) } m c l t ln)
 | AR {k m e:Nat} {c:Int} {lk:yr} {t:cu} {qs:List (Int × Int)} (hk:s.lanes[k]? = some lk) (hq:lk.qs.head? = some ((m:Int),c)) (ht:s.xM[m]? = some t) (hg:t.goal=(e:Int)) (he:(a.ps.getD k (0,0)).2=(e:Int)) (AU:s.lies[e]? = some qs) :
  Bz a s (.AR k) { s with lanes:=s.lanes.set k (c5 lk),lies:=s.lies.set e (qs ++ [((m:Int),c)]) }
 | back {k:Nat} {lk:yr} (hk:s.lanes[k]? = some lk) (hb:0 < lk.b):Bz a s (.back k) { s with lanes:=s.lanes.set k (vE lk) }
theorem Bz.done {a:YA}{s s':YS}{m:Mv}(h:Bz a s m s'):s'.done=s.done:=by
 cases h<;>rfl
structure T8 (s:YS):Prop where
 q:∀ (k:Nat)(ln:yr),s.lanes[k]? = some ln->ln.qs.length <= 10000
 l:∀ (p:Nat)(qs:List (Int × Int)),s.lies[p]? = some qs->qs.length <= 10000
 d:s.done.length <= 100000
theorem jd {s:YS}{l:Nat}{m c:Int}(h:dD s l m c=true):∃ ln,s.lanes[l]? = some ln/\bX ln.r ln.h m c=true:=by
 unfold dD at h
 cases hl:s.lanes[l]? with
 | none=>rw[hl]at h;cases h
 | some ln=>rw[hl]at h;exact⟨ln,rfl,h⟩
theorem so {a:YA}{s:YS}{k:Nat}{m:Mv}(h:m ∈ fA a s k):∃ l t ln,m = .y6 k l/\s.xM[k]? = some t/\t.gone ≠ t.len/\l ∈ cM a t/\s.lanes[l]? = some ln/\bX ln.r ln.h k t.gone=true:=by
 unfold fA at h
 cases ht:s.xM[k]? with
 | none=>rw[ht]at h;cases h
 | some t =>
  rw[ht]at h
  dsimp only at h
  by_cases hg:t.gone=t.len
  ·rw[if_pos hg]at h;cases h
  rw[if_neg hg]at h
  obtain⟨l,hl,rfl⟩:=mem_map.mp h
  obtain⟨h1,h2⟩:=mem_filter.mp hl
  obtain⟨ln,h3,h4⟩:=jd h2
  exact⟨l,t,ln,rfl,rfl,hg,h1,h3,h4⟩
theorem rZ {a:YA}{s:YS}{k:Nat}{m:Mv}(h:m ∈ gq a s k):∃ l q lk ln,m = .on k l/\s.lanes[k]? = some lk/\lk.qs.head? = some q/\l ∈ cN a s k/\s.lanes[l]? = some ln/\bX ln.r ln.h q.1 q.2=true:=by
 unfold gq at h
 cases hq:bI s k with
 | none=>rw[hq]at h;cases h
 | some q =>
  rw[hq]at h
  dsimp only at h
  obtain⟨l,hl,rfl⟩:=mem_map.mp h
  obtain⟨h1,h2⟩:=mem_filter.mp hl
  obtain⟨ln,h3,h4⟩:=jd h2
  unfold bI at hq
  cases hk:s.lanes[k]? with
  | none=>rw[hk]at hq;cases hq
  | some lk=>rw[hk]at hq;exact⟨l,q,lk,ln,rfl,rfl,hq,h1,h3,h4⟩
theorem oM {a:YA}{s:YS}{k:Nat}{m:Mv}(h:m ∈ dL a s k):∃ q lk t,m = .AR k/\s.lanes[k]? = some lk/\lk.qs.head? = some q/\s.xM[q.1.toNat]? = some t/\t.goal=(a.ps.getD k (0,0)).2:=by
 unfold dL at h
 cases hq:bI s k with
 | none=>rw[hq]at h;cases h
 | some q =>
  rw[hq]at h
  dsimp only at h
  cases ht:s.xM[q.1.toNat]? with
  | none=>rw[ht]at h;cases h
  | some t =>
   rw[ht]at h
   dsimp only at h
   by_cases hg:t.goal=(a.ps.getD k (0,0)).2
   ·rw[if_pos hg]at h
    have hm:m = .AR k:=by simpa using h
    unfold bI at hq
    cases hk:s.lanes[k]? with
    | none=>rw[hk]at hq;cases hq
    | some lk=>rw[hk]at hq;exact⟨q,lk,t,hm,rfl,hq,ht,hg⟩
   ·rw[if_neg hg]at h;cases h
theorem lF {s:YS}{k:Nat}{m:Mv}(h:m ∈ cK s k):∃ lk,m = .back k/\s.lanes[k]? = some lk/\0 < lk.b:=by
 unfold cK at h
 cases hk:s.lanes[k]? with
 | none=>rw[hk]at h;cases h
 | some lk =>
  rw[hk]at h
  dsimp only at h
  by_cases hb:0 < lk.b
  ·rw[if_pos hb]at h;exact⟨lk,by simpa using h,rfl,hb⟩
  ·rw[if_neg hb]at h;cases h
theorem pR {a:YA}{s:YS}{m:Mv}(h:m ∈ cC a s):vG s m/\m ∈ oO a s m:=by
 unfold cC at h
 rw[mem_append,mem_append,mem_append]at h
 rcases h with ((h | h) | h) | h
 ·obtain⟨k,hk,h⟩:=mem_flatMap.mp h
  obtain⟨l,t,ln,rfl,_⟩:=so h
  exact⟨mem_range.mp hk,h⟩
 ·obtain⟨k,hk,h⟩:=mem_flatMap.mp h
  obtain⟨l,q,lk,ln,rfl,_⟩:=rZ h
  exact⟨mem_range.mp hk,h⟩
 ·obtain⟨k,hk,h⟩:=mem_flatMap.mp h
  obtain⟨q,lk,t,rfl,_⟩:=oM h
  exact⟨mem_range.mp hk,h⟩
 ·obtain⟨k,hk,h⟩:=mem_flatMap.mp h
  obtain⟨lk,rfl,_⟩:=lF h
  exact⟨mem_range.mp hk,h⟩
noncomputable def oK:Mv->PyData
 | .y6 k l => .tuple [.str "in", .int k, .int l]
 | .on k l => .tuple [.str "on", .int k, .int l]
 | .AR k => .tuple [.str "lie", .int k]
 | .back k => .tuple [.str "back", .int k]
theorem iB {x:Str}(h:PyData.strOk x=true):zE (.str x) 0:=⟨by simp[PyData.canLay0,h],by simp[PyData.depth]⟩
theorem fJ (m:Mv):zE (oK m) 1:=by
 cases m<;>refine eW (m:=0) fun y hy=>?_<;>simp only[mem_cons,not_mem_nil,or_false]at hy
 ·rcases hy with rfl | rfl | rfl
  ·exact iB (by decide +kernel)
  ·exact dq _
  ·exact dq _
 ·rcases hy with rfl | rfl | rfl
  ·exact iB (by decide +kernel)
  ·exact dq _
  ·exact dq _
 ·rcases hy with rfl | rfl
  ·exact iB (by decide +kernel)
  ·exact dq _
 ·rcases hy with rfl | rfl
  ·exact iB (by decide +kernel)
  ·exact dq _
theorem nI {K:Frag}{H:Hp}{p:Addr}(m:Mv)(h:H p=some (.tup (eE m))):j9 K H (.ref p) (oK m):=by
 cases m<;>refine .tup (xV.of h) ?_
 ·exact .cons (.str _) (.cons (.int _) (.cons (.int _) .nil))
 ·exact .cons (.str _) (.cons (.int _) (.cons (.int _) .nil))
 ·exact .cons (.str _) (.cons (.int _) .nil)
 ·exact .cons (.str _) (.cons (.int _) .nil)
theorem fu {K:Frag}{H:Hp}:∀ {vs:List V}{ms:List Mv},Paired (y8 H) vs (ms.map eE)->j2 K H vs (ms.map oK)
 | [],[],_ => .nil
 | _ :: _,m :: ms, .cons ⟨t,e,h⟩ r=>by subst e;exact .cons (nI m h) (fu r)
 | [],_ :: _,h=>by cases h
 | _ :: _,[],h=>by cases h
theorem tj {m:Mv}{ms:List Mv}(h:m ∈ ms):((ms.map oK).any fun y=>PyData.eqv y (oK m))=true:=by
 rw[List.any_eq_true]
 exact⟨oK m,mem_map.mpr ⟨m,h,rfl⟩,SeqAt.eqv_refl _ (fJ m).1⟩
noncomputable def vW (K:Frag)(c:Cs)(TC:Addr)(J:TJ)(ys:Ys):Sp:=fun vs H Q _=>∃ (a:YA)(s:YS)(p:Addr)(m:Mv),vs=[.ref a.y, .ref p]/\Cm K c TC J ys H a s/\H p=some (.tup (eE m))/\m ∈ cC a s/\T8 s /\
 ∀ (H':Hp)(s':YS),Bz a s m s'->yc a.four H H'->yU K ys H' a { s' with done:=s.done ++ [eE m] }->Q .yd H'
structure T9 (P:Program)(w:World)(K:Frag)(mg:Str->Option Value)(base:Heap)(c:Cs)(TC:Addr)(J:TJ)(ys:Ys)(fk fg fe fp fb fy:Addr)(dk dg de dp db dy:FuncData):Prop where
 mk':bK K ys.xR "moves_like" fk
 bk:Binds K dk ["self", "move"] []
 Gk:xO P w K mg base aF 7 fk dk ["self", "move"] (qJ K c TC J ys)
 Km:bK K ys.xR "go_in" fg
 bg:Binds K dg ["self", "number", "lane"] []
 Gg:xO P w K mg base aF 6 fg dg ["self", "number", "lane"] (qM K ys)
 me:bK K ys.xR "enter" fe
 be:Binds K de ["self", "piece", "lane"] []
 Ge:xO P w K mg base aF 5 fe de ["self", "piece", "lane"] (kz K ys)
 mp:bK K ys.yh "pull" fp
 bp:Binds K dp ["self"] []
 Gp:xO P w K mg base aF 1 fp dp ["self"] (mI ys.yh)
 mb:bK K ys.yh "bring" fb
 bb:Binds K db ["self"] []
 Gb:xO P w K mg base aF 1 fb db ["self"] (o0 ys.yh)
 my:bK K ys.xR "lay" fy
 by':Binds K dy ["self", "piece", "place"] []
 Gy:xO P w K mg base aF 1 fy dy ["self", "piece", "place"] (v9 K ys)
theorem PJ:ar ["self", "move"] ["self", "move"] (al OP):=L2.yq
theorem Kn {c:Cs}{ys:Ys}{J:TJ}{TC f fw fl ft fpu fk fg fe fp fb fy TB:Addr}{fd dw dl dt dpu dk dg de dp db dy den:FuncData}(F:yn K "do" "Yard.do" OP f fd)(Y:jz K ys)(L:m6 K c)(W:Wy K TC fw dw J)(O:Own P w K mg base ys fl ft fpu dl dt dpu)
  (D:T9 P w K mg base c TC J ys fk fg fe fp fb fy dk dg de dp db dy) (Me:vm K c TB den) (Gen:xO P w K mg base aF 1 TB den ["self", "lane"] (mQ c Prod.snd)) :
  xO P w K mg base aF 8 f fd ["self", "move"] (vW K c TC J ys):=by
 refine F.ok PJ (fun _ _ _ _ h=>?_) (fun _ _ _ s H _ Q E hr h=>?_)
 ·obtain⟨a,s,p,m,rfl,_⟩:=h
  rfl
 ·obtain⟨a,st,p,m,rfl,hI,hp,hm,hS,q⟩:=h
  have hu:=hr.units
  have yA:ya 1 _:=hr.mono (by decide)
  have Be:ya 4 _:=hr.mono (by decide)
  have Ko:ya 5 _:=hr.mono (by decide)
  have Kp:ya 6 _:=hr.mono (by decide)
  refine⟨_,af (aR (aw (jH hu) (pv 1) (aI (pv 0) Y.cl D.mk' D.Gk hr D.bk .nil ap (aa (pv 1) ad)) (by with_unfolding_all rfl)) (ak b6) aE)
   (af (eX (aR (aw bG (ao av (pv 1) ai (fun _ _=>rfl)) c8 (ay _))
    (ak (aU (aI (pv 0) Y.cl D.Km D.Gg Kp D.bg .nil ap (aa (ao av (pv 1) ai (fun _ _=>rfl)) (aa (ao av (pv 1) ai (fun _ _=>rfl)) ad)))))
    (ak (aR (aw bG (ao av (pv 1) ai (fun _ _=>rfl)) c8 (ay _))
     (ak (aU (aI (pv 0) Y.cl D.me D.Ge Ko D.be .nil ap (aa (bC (aI (pv 0) Y.cl O.ml O.Gl Be O.bl .nil ap (aa (ao av (pv 1) ai (fun _ _=>rfl)) ad)) Y.L.cl D.mp D.Gp yA D.bp .nil ap) (aa (ao av (pv 1) ai (fun _ _=>rfl)) ad)))))
     (ak (aR (aw bG (ao av (pv 1) ai (fun _ _=>rfl)) c8 (ay _))
      (ak (aU (aI (pv 0) Y.cl D.my D.Gy yA D.by' .nil ap (aa (bC (aI (pv 0) Y.cl O.ml O.Gl Be O.bl .nil ap (aa (ao av (pv 1) ai (fun _ _=>rfl)) ad)) Y.L.cl D.mp D.Gp yA D.bp .nil ap) (aa (aI (am (am (pv 0) rfl) rfl) L.cl Me.m Gen yA Me.b .nil ap (aa (ao av (pv 1) ai (fun _ _=>rfl)) ad)) ad)))))
      (ak (aU (bC (aI (pv 0) Y.cl O.ml O.Gl Be O.bl .nil ap (aa (ao av (pv 1) ai (fun _ _=>rfl)) ad)) Y.L.cl D.mb D.Gb yA D.bb .nil ap)))))))))
   (ak (aU (cp plainAttrs_list PySem.F.slot_list_append PySem.F.type_list_append b0 (am (pv 0) rfl) (aa (pv 1) ad))))),?_⟩
  obtain⟨xY,Kq⟩:=pR hm
  refine⟨_,rfl,_,rfl,a.y,a.dy,_,rfl,hI.Y.ins,rfl,_,rfl,a,st,p,m,rfl,hI,hp,xY,fun Dl yl H1 s1 TF gDl zv=>?_⟩
  refine⟨Dl,yl,oK m,(oO a st m).map oK,rfl,nI m (s1 _ _ hp),xS.of gDl,fu zv,(fJ m).le (by decide),fun z hz=>by obtain⟨m',_,rfl⟩:=mem_map.mp hz;exact(fJ m').le (by decide),_,rfl,?_⟩
  rw[tj Kq]
  refine aJ ?_
  have AS:=hI.same W s1
  have yo:=s1 _ _ hp
  have hY:=AS.Y
  refine⟨fun σ' H'=>σ' = start ["self", "move"] [.ref a.y, .ref p]/\∃ s',Bz a st m s'/\yc a.four H1 H'/\yU K ys H' a s',?_,?_⟩
  ·
   have CF:∀ (k:Nat)(lk:yr)(pq:Int × Int),st.lanes[k]? = some lk->lk.qs.head? = some pq->∀ (xW:List V),H1 a.la=some (.lst xW)->∀ (x dx pa:Addr)(xZ:List V)(H2:Hp),yc [a.la] H1 H2->H1 x=none->H1 pa=none->H2 a.la=some (.lst (xW.set k (.ref x)))->yj H2 ys.yh x dx pa lk.r lk.b lk.h xZ lk.qs ->
     ∀ (Q':VK)(E':XK),(∀ (v:V)(H3:Hp),vk H3 v pq->yc [a.la] H1 H3->yU K ys H3 a { st with lanes:=st.lanes.set k (c5 lk) }->Q' v H3)->mI ys.yh [.ref x] H2 Q' E':=by
    intro k lk pq hk hq xW yF x dx pa xZ H2 o2 nx np g2 zN Q' E' hQ
    refine⟨x,dx,pa,lk.r,lk.b,lk.h,xZ,lk.qs,rfl,zN,fun e0=>?_,fun v rest ev H3 o3 Bf=>?_⟩
    ·exfalso
     have hl:=Paired.length zN.yR
     rw[e0]at hl
     cases AU:lk.qs with
     | nil=>rw[AU]at hq;cases hq
     | cons _ _=>rw[AU]at hl;cases hl
    ·have o4:yc [a.la] H1 H3:=fun b o nb e=>o3 b o (ag e nx) (ag e np) (o2 b o nb e)
     refine hQ v H3 ?_ o4 (yU.Aw hY yF o4 (k:=k) (x:=x) (dx:=dx) (pa:=pa) (o3 _ _ (ag yF nx) (ag yF np) g2) (ln:=c5 lk) Bf np)
     have hz:=yT.BN o3 zN.ins zN.lst zN.yR
     rw[ev]at hz
     cases AU:lk.qs with
     | nil=>rw[AU]at hq;cases hq
     | cons q0 r0 =>
      rw[AU]at hq hz
      cases hq
      cases hz with
      | cons z _=>exact z
   obtain⟨xW,yF,Ck⟩:=hY.yD
   have p3:∀ {H3:Hp}{ex:List Addr}{xs:List V},H1 p=some (.tup xs)->yc ex H1 H3->(∀ b ∈ ex,b ∈ a.four)->H3 p=some (.tup xs):=fun h o he=>o _ _ (fun z=>by obtain⟨xs,hz⟩:=hY.BP _ (he _ z);rw[h]at hz;cases hz) h
   cases m with
   | y6 k l =>
    have yo:H1 p=some (.tup [.str "in", .int k, .int l]):=yo
    obtain⟨l',t,ln,e0,ht,hg,hl,y3,ho⟩:=so (show Mv.y6 k l ∈ fA a st k from Kq)
    cases e0
    refine⟨_,rfl,p,_,0,_,rfl,rfl,xV.of yo,aj (j:=0) rfl,rfl,_,rfl,?_⟩
    rw[iV]
    refine aN ⟨_,rfl,a.y,a.dy,_,rfl,hY.ins,rfl,_,rfl,p,_,1,_,rfl,rfl,xV.of yo,aj (j:=1) rfl,_,rfl,p,_,2,_,rfl,rfl,xV.of yo,aj (j:=2) rfl,a,st,k,l,t,ln,rfl,hY,ht,y3,ho,(hI.G.yO k t ht).2,lt_of_le_of_lt (hS.q l ln y3) (by decide),fun H' o' FP=>⟨rfl,_,Bz.y6 ht hg hl y3 ho,o'.mono (by simp),FP⟩⟩
   | on k l =>
    have yo:H1 p=some (.tup [.str "on", .int k, .int l]):=yo
    obtain⟨l',pq,lk,ln,e0,hk,hq,hl,y3,ho⟩:=rZ (show Mv.on k l ∈ gq a st k from Kq)
    cases e0
    obtain⟨m,t,em,ht,FZ⟩:=hI.G.yR k lk hk pq (mem_of_head? hq)
    obtain⟨m0,cq⟩:=pq
    have em:m0=(m:Int):=em
    subst em
    refine⟨_,rfl,p,_,0,_,rfl,rfl,xV.of yo,aj (j:=0) rfl,rfl,_,rfl,?_⟩
    rw[iy (by decide +kernel)]
    refine aJ ⟨_,rfl,p,_,0,_,rfl,rfl,xV.of yo,aj (j:=0) rfl,rfl,_,rfl,?_⟩
    rw[iV]
    refine aN ⟨_,rfl,a.y,a.dy,_,rfl,hY.ins,rfl,_,rfl,a.y,a.dy,_,rfl,hY.ins,rfl,_,rfl,p,_,1,_,rfl,rfl,xV.of yo,aj (j:=1) rfl,a,st,k,lk,xW,rfl,hY,hk,yF,fun x dx pa xZ H2 o2 nx np g2 zN=>⟨x,dx,_,rfl,zN.ins,rfl,CF k lk _ hk hq xW yF x dx pa xZ H2 o2 nx np g2 zN _ (fun _ _ _=>False) fun v H3 hv o3 zB=>?_⟩⟩
    have Hm:=p3 yo o3 (by simp)
    have BV:k < st.lanes.length:=(gQ0 hk)
    obtain⟨ln2,Kr,er,eh,eq⟩:∃ ln2,(st.lanes.set k (c5 lk))[l]? = some ln2/\ln2.r=ln.r/\ln2.h=ln.h/\ln2.qs.length <= 10000:=by
     by_cases Ks:k=l
     ·subst Ks
      rw[hk]at y3
      cases y3
      refine⟨c5 lk,by simp[BV],rfl,rfl,?_⟩
      have:=hS.q k lk hk
      show lk.qs.tail.length <= 10000
      rw[List.length_tail];omega
     ·exact⟨ln,by rw[getElem?_set_ne Ks];exact y3,rfl,rfl,hS.q l ln y3⟩
    have zq:bX ln2.r ln2.h m cq=true:=by rw[er,eh];exact ho
    refine⟨_,rfl,p,_,2,_,rfl,rfl,xV.of Hm,aj (j:=2) rfl,a,{ st with lanes:=st.lanes.set k (c5 lk) },v,m,cq,l,t,ln2,rfl,zB,hv,ht,Kr,zq,(hI.G.yO m t ht).2,lt_of_le_of_lt eq (by decide),fun H' o' FP=>⟨rfl,_,Bz.on hk hq ht hl Kr zq,(o3.mono (by simp)).trans (o'.mono (by simp)),FP⟩⟩
   | AR k =>
    have yo:H1 p=some (.tup [.str "lie", .int k]):=yo
    obtain⟨pq,lk,t0,e0,hk,hq,De,hg⟩:=oM (show Mv.AR k ∈ dL a st k from Kq)
    obtain⟨m,t,em,ht,FZ⟩:=hI.G.yR k lk hk pq (mem_of_head? hq)
    obtain⟨m0,cq⟩:=pq
    have em:m0=(m:Int):=em
    subst em
    have De:st.xM[m]? = some t0:=by rw[← De];rfl
    rw[ht]at De
    cases De
    have BV:k < st.lanes.length:=(gQ0 hk)
    have Hs:k < a.ps.length:=by rw[← hI.G.lanes];exact BV
    have he:=getElem?_eq_getElem Hs
    have EK:a.ps.getD k (0,0)=a.ps[k]:=by rw[getD_eq_getElem?_getD,he];rfl
    obtain⟨e,ee,FY⟩:=hI.O.ends k _ he
    rw[EK,ee]at hg
    have hel:e < st.lies.length:=by rw[hI.G.lies];exact FY
    have AU:=getElem?_eq_getElem hel
    refine⟨_,rfl,p,_,0,_,rfl,rfl,xV.of yo,aj (j:=0) rfl,rfl,_,rfl,?_⟩
    rw[iy (by decide +kernel)]
    refine aJ ⟨_,rfl,p,_,0,_,rfl,rfl,xV.of yo,aj (j:=0) rfl,rfl,_,rfl,?_⟩
    rw[iy (by decide +kernel)]
    refine aJ ⟨_,rfl,p,_,0,_,rfl,rfl,xV.of yo,aj (j:=0) rfl,rfl,_,rfl,?_⟩
    rw[iV]
    refine aN ⟨_,rfl,a.y,a.dy,_,rfl,hY.ins,rfl,_,rfl,a.y,a.dy,_,rfl,hY.ins,rfl,_,rfl,p,_,1,_,rfl,rfl,xV.of yo,aj (j:=1) rfl,a,st,k,lk,xW,rfl,hY,hk,yF,fun x dx pa xZ H2 o2 nx np g2 zN=>⟨x,dx,_,rfl,zN.ins,rfl,CF k lk _ hk hq xW yF x dx pa xZ H2 o2 nx np g2 zN _ (fun _ _ _=>False) fun v H3 hv o3 zB=>?_⟩⟩
    have Hm:=p3 yo o3 (by simp)
    have D3:qk c TC J H3 a:=yC.keep W AS.T (yc.xX (fun b hb=>by simp at hb;subst hb;exact⟨_,yF⟩) o3)
    obtain⟨C5,fst,Bu,yN,AL⟩:=D3.i
    refine⟨_,rfl,a.y,ys.xR,a.dy,_,_,rfl,zB.ins,Y.cl,Y.n1,rfl,a.tb,TC,C5,fst,_,rfl,Bu,W.cl,W.nl,yN,a.lx,a.yz,_,rfl,D3.l.1,rfl,_,rfl,p,_,1,_,rfl,rfl,xV.of Hm,aj (j:=1) rfl,a.lx,a.yz,a.lt,(a.n:Int),a.ye,a.ps,k,_,rfl,D3.l,he,?_⟩
    rw[ee]
    exact⟨a,{ st with lanes:=st.lanes.set k (c5 lk) },v,((m:Int),cq),e,_,rfl,zB,hv,AU,le_trans (hS.l e _ AU) (by decide),fun H' o' FP=>⟨rfl,_,Bz.AR hk hq ht hg (by rw[EK,ee]) AU,(o3.mono (by simp)).trans (o'.mono (by simp)),FP⟩⟩
   | back k =>
    have yo:H1 p=some (.tup [.str "back", .int k]):=yo
    obtain⟨lk,e0,hk,hb⟩:=lF (show Mv.back k ∈ cK st k from Kq)
    refine⟨_,rfl,p,_,0,_,rfl,rfl,xV.of yo,aj (j:=0) rfl,rfl,_,rfl,?_⟩
    rw[iy (by decide +kernel)]
    refine aJ ⟨_,rfl,p,_,0,_,rfl,rfl,xV.of yo,aj (j:=0) rfl,rfl,_,rfl,?_⟩
    rw[iy (by decide +kernel)]
    refine aJ ⟨_,rfl,p,_,0,_,rfl,rfl,xV.of yo,aj (j:=0) rfl,rfl,_,rfl,?_⟩
    rw[iy (by decide +kernel)]
    refine aJ ⟨_,rfl,a.y,a.dy,_,rfl,hY.ins,rfl,_,rfl,p,_,1,_,rfl,rfl,xV.of yo,aj (j:=1) rfl,a,st,k,lk,xW,rfl,hY,hk,yF,fun x dx pa xZ H2 o2 nx np g2 zN=>⟨x,dx,_,rfl,zN.ins,rfl,x,dx,pa,lk.r,lk.b,lk.h,xZ,lk.qs,rfl,zN,(fun e0=>by rw[e0]at hb;exact absurd hb (by decide)),fun _ H3 o3 Bf=>?_⟩⟩
    have o4:yc [a.la] H1 H3:=fun b o nb e=>o3 b o (ag e nx) (ag e np) (o2 b o nb e)
    exact⟨rfl,_,Bz.back hk hb,o4.mono (by simp),yU.Aw hY yF o4 (k:=k) (x:=x) (dx:=dx) (pa:=pa) (o3 _ _ (ag yF nx) (ag yF np) g2) (ln:=vE lk) Bf np⟩
  ·rintro σ' H2 ⟨rfl,s',hs,o2,Bw⟩
   obtain⟨yS,Ho,pd⟩:=Bw.Ah
   have Dx:yS.length=st.done.length:=by rw[Paired.length pd,hs.done]
   have Po:H2 p=some (.tup (eE m)):=o2 _ _ (fun z=>by obtain⟨xs,hz⟩:=hY.BP _ z;rw[yo]at hz;cases hz) yo
   have hd:=hS.d
   refine⟨_,rfl,a.y,ys.xR,a.dy,_,_,rfl,Bw.ins,Y.cl,Y.n6,rfl, .inl ⟨rfl,_,xS.of Ho⟩,_,rfl,a.dn,_,_,rfl,rfl,Ho,by rw[sizeLine_eq];omega,?_⟩
   have zB:=Bw.ED Ho ⟨p,rfl,Po⟩
   rw[hs.done]at zB
   exact q _ s' hs ((xN.yw s1).trans (o2.trans (cE (by simp)))) zB
theorem fj {α:Type}{L:List α}{k j:Nat}{y z:α}(h:(L.set k y)[j]? = some z):(j=k/\z=y)∨(j ≠ k/\L[j]? = some z):=by
 by_cases e:k=j
 ·subst e
  rw[List.getElem?_set_self']at h
  cases hk:L[k]? with
  | none=>rw[hk]at h;cases h
  | some x=>rw[hk]at h;cases h;exact .inl ⟨rfl,rfl⟩
 ·rw[getElem?_set_ne e]at h
  exact .inr ⟨Ne.symm e,h⟩
theorem fV {α:Type}{L:List α}{k:Nat}{x y:α}(h:L[k]? = some x):(L.set k y)[k]? = some y:=by
 have:=(gQ0 h)
 simp[this]
theorem eH {α:Type}(f:α->Nat):∀ {L:List α}{k:Nat}{x y:α},L[k]? = some x->((L.set k y).map f).sum + f x=(L.map f).sum + f y
 | [],_,_,_,h=>by cases h
 | z :: L,0,x,y,h=>by cases h;simp only[List.set_cons_zero,map_cons,sum_cons];omega
 | z :: L,k + 1,x,y,h=>by
  have:=eH f (L:=L) (k:=k) (x:=x) (y:=y) h
  simp only[List.set_cons_succ,map_cons,sum_cons];omega
theorem iO {α:Type}(f:α->Int):∀ {L:List α}{k:Nat}{x y:α},L[k]? = some x->((L.set k y).map f).sum + f x=(L.map f).sum + f y
 | [],_,_,_,h=>by cases h
 | z :: L,0,x,y,h=>by cases h;simp only[List.set_cons_zero,map_cons,sum_cons];omega
 | z :: L,k + 1,x,y,h=>by
  have:=iO f (L:=L) (k:=k) (x:=x) (y:=y) h
  simp only[List.set_cons_succ,map_cons,sum_cons];omega
noncomputable def lO (a:YA)(l:Nat):Int:=(a.ps.getD l (0,0)).2
noncomputable def j5 (s:YS):Nat:=(s.lanes.map fun ln=>ln.qs.length).sum
noncomputable def iP (s:YS):Nat:=(s.lies.map fun qs=>qs.length).sum
noncomputable def fI (s:YS):Int:=(s.xM.map fun t=>t.gone).sum
structure MR (a:YA)(s:YS)(m:Nat)(c:Int):Prop where
 lanes:s.lanes.length=a.ps.length
 lies:s.lies.length=a.n
 yI:s.xM.length <= 60
 CG:a.ps.length <= 40
 lets:∀ (m:Nat)(t:cu),s.xM[m]? = some t->∃ x y:Nat,t.start=(x:Int)/\t.goal=(y:Int)/\x < a.n/\y < a.n
 yO:∀ (m:Nat)(t:cu),s.xM[m]? = some t->(∀ l ∈ t.way,l < a.ps.length)/\t.way.Nodup
 yR:∀ (k:Nat)(ln:yr),s.lanes[k]? = some ln->∀ q ∈ ln.qs,∃ (m:Nat)(t:cu),q.1=(m:Int)/\s.xM[m]? = some t/\k ∈ t.way
 zR:∀ (m:Nat)(t:cu),s.xM[m]? = some t->0 <= t.gone/\t.gone <= t.len/\t.len <= 60
 yP:∀ (m':Nat)(t:cu),s.xM[m']? = some t->t.gone=0->t.way=[]/\m' ≠ m
 last:∀ (m:Nat)(t:cu),s.xM[m]? = some t->∀ (i l:Nat),t.way[i]? = some l->lO a l=t.goal->i + 1=t.way.length
 head:∀ (m':Nat)(t:cu),s.xM[m']? = some t->∀ (l:Nat)(ln:yr),t.way.getLast? = some l->s.lanes[l]? = some ln->(m' = m/\c=0)∨((m':Int),(0:Int)) ∈ ln.qs∨lO a l=t.goal
 first:∀ (k:Nat)(ln:yr),s.lanes[k]? = some ln->∀ (i j:Nat)(z:Int)(q:Int × Int),ln.qs[i]? = some (z,0)->j < i->ln.qs[j]? = some q->q.1 ≠ z
 Cn:∀ (k:Nat)(ln:yr),s.lanes[k]? = some ln->∀ (m':Nat)(t:cu),((m':Int),(0:Int)) ∈ ln.qs->s.xM[m']? = some t->t.way.getLast? = some k
 gone:c=0->∀ (k:Nat)(ln:yr),s.lanes[k]? = some ln->((m:Int),(0:Int)) ∉ ln.qs
 sum:(j5 s:Int) + (iP s:Int) + 1=fI s
structure zp (a:YA)(s:YS):Prop where
 lanes:s.lanes.length=a.ps.length
 lies:s.lies.length=a.n
 yI:s.xM.length <= 60
 CG:a.ps.length <= 40
 lets:∀ (m:Nat)(t:cu),s.xM[m]? = some t->∃ x y:Nat,t.start=(x:Int)/\t.goal=(y:Int)/\x < a.n/\y < a.n
 yO:∀ (m:Nat)(t:cu),s.xM[m]? = some t->(∀ l ∈ t.way,l < a.ps.length)/\t.way.Nodup
 yR:∀ (k:Nat)(ln:yr),s.lanes[k]? = some ln->∀ q ∈ ln.qs,∃ (m:Nat)(t:cu),q.1=(m:Int)/\s.xM[m]? = some t/\k ∈ t.way
 zR:∀ (m:Nat)(t:cu),s.xM[m]? = some t->0 <= t.gone/\t.gone <= t.len/\t.len <= 60
 yP:∀ (m':Nat)(t:cu),s.xM[m']? = some t->t.gone=0->t.way=[]
 last:∀ (m:Nat)(t:cu),s.xM[m]? = some t->∀ (i l:Nat),t.way[i]? = some l->lO a l=t.goal->i + 1=t.way.length
 head:∀ (m':Nat)(t:cu),s.xM[m']? = some t->∀ (l:Nat)(ln:yr),t.way.getLast? = some l->s.lanes[l]? = some ln->((m':Int),(0:Int)) ∈ ln.qs∨lO a l=t.goal
 first:∀ (k:Nat)(ln:yr),s.lanes[k]? = some ln->∀ (i j:Nat)(z:Int)(q:Int × Int),ln.qs[i]? = some (z,0)->j < i->ln.qs[j]? = some q->q.1 ≠ z
 Cn:∀ (k:Nat)(ln:yr),s.lanes[k]? = some ln->∀ (m':Nat)(t:cu),((m':Int),(0:Int)) ∈ ln.qs->s.xM[m']? = some t->t.way.getLast? = some k
 sum:(j5 s:Int) + (iP s:Int)=fI s
theorem gZ:∀ (n:Nat)(l:List Nat),l.Nodup->(∀ x ∈ l,x < n)->l.length <= n
 | 0,l,_,h=>by
  cases l with
  | nil=>exact le_refl _
  | cons x _=>exact absurd (h x mem_cons_self) (by omega)
 | n + 1,l,hn,h=>by
  have h1:=gZ n (l.filter fun x=>decide (x ≠ n)) (hn.filter _) fun x hx=>by
   obtain⟨a,b⟩:=mem_filter.mp hx
   have:=h x a
   have:=of_decide_eq_true b
   omega
  have h2:l.length <= (l.filter fun x=>decide (x ≠ n)).length + 1:=by
   clear h1 h
   induction l with
   | nil=>exact zero_le _
   | cons x l ih =>
    rw[nodup_cons]at hn
    by_cases e:x=n
    ·subst e
     have:(l.filter fun y=>decide (y ≠ x))=l:=List.filter_eq_self.mpr fun y hy=>decide_eq_true fun z=>hn.1 (z ▸ hy)
     rw[List.filter_cons_of_neg (by simp),this]
     exact le_refl _
    ·rw[List.filter_cons_of_pos (by simpa using e)]
     have:=ih hn.2
     simp only[length_cons]
     omega
  omega
theorem zp.ok {a:YA}{s:YS}(h:zp a s):Pt a s:=⟨h.lanes,h.lies,h.lets,fun m t ht=>⟨(h.yO m t ht).1,by have:=gZ _ _ (h.yO m t ht).2 (h.yO m t ht).1;have:=h.CG;omega⟩,h.yR,h.yI⟩
theorem rY {α:Type}{x:α}{l:List α}(h:x ∈ l.tail):x ∈ l:=List.mem_of_mem_tail h
theorem sF {α:Type}{l:List α}{x:α}(h:l.head? = some x):l[0]? = some x:=by cases l with
 | nil=>cases h
 | cons y r=>exact h
theorem kO {α:Type}{l:List α}{x:α}(h:x ∈ l):∃ i:Nat,l[i]? = some x:=by
 obtain⟨i,hi,e⟩:=getElem_of_mem h
 exact⟨i,by rw[getElem?_eq_getElem hi,e]⟩
theorem lh {α:Type}(l:List α)(i:Nat):l.tail[i]? = l[i + 1]?:=by cases l with
 | nil=>simp
 | cons y r=>rfl
theorem lE {a:YA}{s:YS}{k m:Nat}{c:Int}{lk:yr}(J:zp a s)(hk:s.lanes[k]? = some lk)(hq:lk.qs.head? = some ((m:Int),c)):MR a { s with lanes:=s.lanes.set k (c5 lk) } m c:=by
 have h0:=sF hq
 have y6:∀ (j:Nat)(yV:yr),(s.lanes.set k (c5 lk))[j]? = some yV->∃ ln,s.lanes[j]? = some ln/\(∀ q ∈ yV.qs,q ∈ ln.qs)/\∃ d,(∀ i,yV.qs[i]? = ln.qs[i + d]?)/\(yV.qs=ln.qs∨(j=k/\ln=lk/\yV.qs=lk.qs.tail)):=fun j yV h=>by
  rcases fj h with ⟨rfl,rfl⟩ | ⟨ne,h⟩
  ·exact⟨lk,hk,fun q hq=>rY hq,1,fun i=>lh _ i, .inr ⟨rfl,rfl,rfl⟩⟩
  ·exact⟨yV,h,fun q hq=>hq,0,fun i=>rfl, .inl rfl⟩
 have keep:∀ (j:Nat)(ln:yr),s.lanes[j]? = some ln->∃ yV,(s.lanes.set k (c5 lk))[j]? = some yV/\∀ q ∈ ln.qs,q=((m:Int),c)∨q ∈ yV.qs:=fun j ln h=>by
  by_cases e:j=k
  ·subst e
   rw[hk]at h
   cases h
   refine⟨c5 lk,fV hk,fun q BE=>?_⟩
   show _∨q ∈ lk.qs.tail
   cases hl:lk.qs with
   | nil=>rw[hl]at hq;cases hq
   | cons z r =>
    rw[hl]at hq BE
    cases hq
    exact(mem_cons.mp BE).imp id id
  ·exact⟨ln,by rw[getElem?_set_ne (Ne.symm e)];exact h,fun q hq => .inr hq⟩
 refine⟨by rw[← J.lanes];simp,J.lies,J.yI,J.CG,J.lets,J.yO,?_,J.zR,?_,J.last,?_,?_,?_,?_,?_⟩
 ·intro j yV h q BE
  obtain⟨ln,hj,h1,_⟩:=y6 j yV h
  exact J.yR j ln hj q (h1 q BE)
 ·intro m' t ht hg
  refine⟨J.yP m' t ht hg,fun e=>?_⟩
  subst e
  obtain⟨m2,t2,e2,CH,Hu⟩:=J.yR k lk hk _ (mem_of_head? hq)
  have:m' = m2:=by have:(m':Int)=(m2:Int):=e2;omega
  subst this
  rw[ht]at CH
  cases CH
  rw[J.yP m' t ht hg]at Hu
  cases Hu
 ·intro m' t ht l yV hl CD
  obtain⟨ln,hj,h1,_⟩:=y6 l yV CD
  rcases J.head m' t ht l ln hl hj with h | h
  ·obtain⟨ln2,h2,h3⟩:=keep l ln hj
   have h2:{ s with lanes:=s.lanes.set k (c5 lk) }.lanes[l]? = some ln2:=h2
   rw[CD]at h2
   cases h2
   rcases h3 _ h with e | h
   ·injection e with e1 e2
    exact .inl ⟨by omega,e2.symm⟩
   ·exact .inr (.inl h)
  ·exact .inr (.inr h)
 ·intro j yV h i i' z q hi yu BE
  obtain⟨ln,hj,_,d,h2,_⟩:=y6 j yV h
  rw[h2]at hi BE
  exact J.first j ln hj (i + d) (i' + d) z q hi (by omega) BE
 ·intro j yV h m' t Bq ht
  obtain⟨ln,hj,h1,_⟩:=y6 j yV h
  exact J.Cn j ln hj m' t (h1 _ Bq) ht
 ·intro e0 j yV h Bq
  subst e0
  obtain⟨ln,hj,h1,d,h2,h3⟩:=y6 j yV h
  obtain⟨m2,t2,e2,CH,_⟩:=J.yR k lk hk _ (mem_of_head? hq)
  have:m=m2:=by have:(m:Int)=(m2:Int):=e2;omega
  subst this
  have b1:=J.Cn k lk hk m t2 (mem_of_head? hq) CH
  have b2:=J.Cn j ln hj m t2 (h1 _ Bq) CH
  rw[b1]at b2
  have b2:=Option.some.inj b2
  subst b2
  rcases fj h with ⟨_,rfl⟩ | ⟨ne,_⟩
  ·obtain⟨i,hi⟩:=kO Bq
   have hi:lk.qs.tail[i]? = some ((m:Int),0):=hi
   rw[lh]at hi
   exact J.first k lk hk (i + 1) 0 _ _ hi (by omega) h0 rfl
  ·exact ne rfl
 ·have:=eH (fun ln:yr=>ln.qs.length) (y:=c5 lk) hk
  have hl:(c5 lk).qs.length + 1=lk.qs.length:=by
   show lk.qs.tail.length + 1=_
   cases hl:lk.qs with
   | nil=>rw[hl]at hq;cases hq
   | cons _ _=>rfl
  have h1:=J.sum
  unfold j5 at h1 ⊢
  show((((s.lanes.set k (c5 lk)).map fun ln=>ln.qs.length).sum:Nat):Int) + (iP s:Int) + 1=fI s
  omega
theorem rX {a:YA}{s:YS}{k:Nat}{t:cu}(J:zp a s)(ht:s.xM[k]? = some t)(hg:t.gone ≠ t.len):MR a (lL s k t) k t.gone:=by
 have g0:=J.zR k t ht
 have lk:∀ (m:Nat)(t':cu),(s.xM.set k { t with gone:=t.gone + 1 })[m]? = some t'->∃ t0,s.xM[m]? = some t0/\t'.start=t0.start/\t'.goal=t0.goal/\t'.way=t0.way/\t'.len=t0.len/\((m=k/\t'.gone=t.gone + 1)∨(m ≠ k/\t'.gone=t0.gone)):=fun m t' h=>by
  rcases fj h with ⟨rfl,rfl⟩ | ⟨ne,h⟩
  ·exact⟨t,ht,rfl,rfl,rfl,rfl, .inl ⟨rfl,rfl⟩⟩
  ·exact⟨t',h,rfl,rfl,rfl,rfl, .inr ⟨ne,rfl⟩⟩
 refine⟨J.lanes,J.lies,by show(s.xM.set _ _).length <= 60;rw[length_set];exact J.yI,J.CG,?_,?_,?_,?_,?_,?_,?_,J.first,?_,?_,?_⟩
 ·intro m t' h
  obtain⟨t0,h0,e1,e2,_⟩:=lk m t' h
  rw[e1,e2];exact J.lets m t0 h0
 ·intro m t' h
  obtain⟨t0,h0,e1,e2,e3,_⟩:=lk m t' h
  rw[e3];exact J.yO m t0 h0
 ·intro j ln h q hq
  obtain⟨m,t0,e,h0,hj⟩:=J.yR j ln h q hq
  by_cases em:m=k
  ·subst em
   rw[ht]at h0
   cases h0
   exact⟨m,_,e,fV ht,hj⟩
  ·exact⟨m,t0,e,by show(s.xM.set _ _)[m]? = _;rw[getElem?_set_ne (Ne.symm em)];exact h0,hj⟩
 ·intro m t' h
  obtain⟨t0,h0,e1,e2,e3,e4,e5⟩:=lk m t' h
  have:=J.zR m t0 h0
  rcases e5 with ⟨rfl,e5⟩ | ⟨_,e5⟩
  ·rw[ht]at h0
   cases h0
   rw[e4,e5];omega
  ·rw[e4,e5];exact this
 ·intro m t' h hz
  obtain⟨t0,h0,e1,e2,e3,e4,e5⟩:=lk m t' h
  rcases e5 with ⟨rfl,e5⟩ | ⟨ne,e5⟩
  ·omega
  ·rw[e3];exact⟨J.yP m t0 h0 (by omega),ne⟩
 ·intro m t' h i l hi hl
  obtain⟨t0,h0,e1,e2,e3,e4,e5⟩:=lk m t' h
  rw[e3]at hi ⊢
  rw[e2]at hl
  exact J.last m t0 h0 i l hi hl
 ·intro m t' h l ln hl y3
  obtain⟨t0,h0,e1,e2,e3,e4,e5⟩:=lk m t' h
  rw[e3]at hl
  rw[e2]
  exact .inr (J.head m t0 h0 l ln hl y3)
 ·intro j ln h m t' hm h'
  obtain⟨t0,h0,e1,e2,e3,e4,e5⟩:=lk m t' h'
  rw[e3]
  exact J.Cn j ln h m t0 hm h0
 ·intro e0 j ln h hm
  obtain⟨m,t0,e,h0,hj⟩:=J.yR j ln h _ hm
  have:k=m:=by have:(k:Int)=(m:Int):=e;omega
  subst this
  rw[ht]at h0
  cases h0
  rw[J.yP k t ht e0]at hj
  cases hj
 ·have:=iO (fun t:cu=>t.gone) (y:={ t with gone:=t.gone + 1 }) ht
  have h1:=J.sum
  unfold fI at h1 ⊢
  show (j5 s:Int) + (iP s:Int) + 1=((s.xM.set k { t with gone:=t.gone + 1 }).map fun t=>t.gone).sum
  have:({ t with gone:=t.gone + 1 }:cu).gone=t.gone + 1:=rfl
  omega
theorem sA {l:List Nat}{x:Nat}(h:l.getLast? = some x):l[l.length - 1]? = some x:=by rw[← h,List.getLast?_eq_getElem?]
theorem jP {a:YA}{s:YS}{m l:Nat}{c:Int}{t:cu}{ln:yr}(M:MR a s m c)(ht:s.xM[m]? = some t)(y3:s.lanes[l]? = some ln)(h0:c=0->l ∉ t.way/\∀ x ∈ t.way,lO a x ≠ t.goal)(h1:c ≠ 0->l ∈ t.way):zp a (dF s m c l t ln):=by
 have AA:l < a.ps.length:=by rw[← M.lanes];exact(gQ0 y3)
 have lk:∀ (m':Nat)(t':cu),(dF s m c l t ln).xM[m']? = some t'->∃ t0,s.xM[m']? = some t0/\t'.start=t0.start/\t'.goal=t0.goal/\t'.len=t0.len/\t'.gone=t0.gone/\((c=0/\m' = m/\t0=t/\t'.way=t.way ++ [l])∨(¬ (c=0/\m' = m)/\t'.way=t0.way)):=fun m' t' h=>by
  have h:(if c=0 then s.xM.set m { t with way:=t.way ++ [l] } else s.xM)[m']? = some t':=h
  by_cases hc:c=0
  ·rw[if_pos hc]at h
   rcases fj h with ⟨rfl,rfl⟩ | ⟨ne,h⟩
   ·exact⟨t,ht,rfl,rfl,rfl,rfl, .inl ⟨hc,rfl,rfl,rfl⟩⟩
   ·exact⟨t',h,rfl,rfl,rfl,rfl, .inr ⟨fun z=>ne z.2,rfl⟩⟩
  ·rw[if_neg hc]at h
   exact⟨t',h,rfl,rfl,rfl,rfl, .inr ⟨fun z=>hc z.1,rfl⟩⟩
 have TH:∀ (m':Nat)(t0:cu),s.xM[m']? = some t0->∃ t',(dF s m c l t ln).xM[m']? = some t'/\(∀ x ∈ t0.way,x ∈ t'.way)/\(m' = m->l ∈ t'.way):=fun m' t0 h=>by
  by_cases hc:c=0
  ·by_cases e:m' = m
   ·subst e
    rw[ht]at h
    cases h
    refine⟨{ t with way:=t.way ++ [l] },by show(if c=0 then s.xM.set m' { t with way:=t.way ++ [l] } else s.xM)[m']? = _;rw[if_pos hc];exact fV ht,fun x hx=>mem_append_left _ hx,fun _=>by show l ∈ t.way ++ [l];simp⟩
   ·exact⟨t0,by show(if c=0 then s.xM.set m { t with way:=t.way ++ [l] } else s.xM)[m']? = _;rw[if_pos hc,getElem?_set_ne (Ne.symm e)];exact h,fun x hx=>hx,fun z=>absurd z e⟩
  ·refine⟨t0,by show(if c=0 then s.xM.set m { t with way:=t.way ++ [l] } else s.xM)[m']? = _;rw[if_neg hc];exact h,fun x hx=>hx,fun z=>?_⟩
   subst z
   rw[ht]at h
   cases h
   exact h1 hc
 have yV:∀ (j:Nat)(l':yr),(dF s m c l t ln).lanes[j]? = some l'->(j=l/\l'.qs=ln.qs ++ [((m:Int),c)])∨(j ≠ l/\s.lanes[j]? = some l'):=fun j l' h=>by
  rcases fj h with ⟨rfl,rfl⟩ | ⟨ne,h⟩
  ·exact .inl ⟨rfl,rfl⟩
  ·exact .inr ⟨ne,h⟩
 have old:∀ (j:Nat)(l':yr),(dF s m c l t ln).lanes[j]? = some l'->∀ q ∈ l'.qs,(j=l/\q=((m:Int),c))∨∃ l0,s.lanes[j]? = some l0/\q ∈ l0.qs:=fun j l' h q hq=>by
  rcases yV j l' h with ⟨rfl,e⟩ | ⟨ne,h⟩
  ·rw[e,mem_append]at hq
   rcases hq with hq | hq
   ·exact .inr ⟨ln,y3,hq⟩
   ·exact .inl ⟨rfl,by simpa using hq⟩
  ·exact .inr ⟨l',h,hq⟩
 refine⟨by rw[← M.lanes];show(s.lanes.set _ _).length=_;simp,M.lies,?_,M.CG,?_,?_,?_,?_,?_,?_,?_,?_,?_,?_⟩
 ·show(if c=0 then s.xM.set m { t with way:=t.way ++ [l] } else s.xM).length <= 60
  by_cases hc:c=0
  ·rw[if_pos hc,length_set];exact M.yI
  ·rw[if_neg hc];exact M.yI
 ·intro m' t' h
  obtain⟨t0,h2,e1,e2,_⟩:=lk m' t' h
  rw[e1,e2];exact M.lets m' t0 h2
 ·intro m' t' h
  obtain⟨t0,h2,_,_,_,_,e⟩:=lk m' t' h
  obtain⟨w1,w2⟩:=M.yO m' t0 h2
  rcases e with ⟨hc,rfl,rfl,e⟩ | ⟨_,e⟩
  ·rw[e]
   refine⟨fun x hx=>?_,?_⟩
   ·rcases mem_append.mp hx with hx | hx
    ·exact w1 x hx
    ·rw[mem_singleton.mp hx];exact AA
   ·rw[List.nodup_append]
    exact⟨w2,by simp,fun x hx y hy=>by rw[mem_singleton.mp hy];exact fun z=>(h0 hc).1 (z ▸ hx)⟩
  ·rw[e];exact⟨w1,w2⟩
 ·intro j l' h q hq
  rcases old j l' h q hq with ⟨rfl,rfl⟩ | ⟨l0,h2,hq⟩
  ·obtain⟨t',h3,_,h4⟩:=TH m t ht
   exact⟨m,t',rfl,h3,h4 rfl⟩
  ·obtain⟨m',t0,e,h3,hj⟩:=M.yR j l0 h2 q hq
   obtain⟨t',h4,h5,_⟩:=TH m' t0 h3
   exact⟨m',t',e,h4,h5 j hj⟩
 ·intro m' t' h
  obtain⟨t0,h2,_,_,e3,e4,_⟩:=lk m' t' h
  rw[e3,e4];exact M.zR m' t0 h2
 ·intro m' t' h hz
  obtain⟨t0,h2,_,_,_,e4,e⟩:=lk m' t' h
  rw[e4]at hz
  obtain⟨w1,w2⟩:=M.yP m' t0 h2 hz
  rcases e with ⟨hc,rfl,_⟩ | ⟨_,e⟩
  ·exact absurd rfl w2
  ·rw[e];exact w1
 ·intro m' t' h i x hi hx
  obtain⟨t0,h2,_,e2,_,_,e⟩:=lk m' t' h
  rw[e2]at hx
  rcases e with ⟨hc,rfl,rfl,e⟩ | ⟨_,e⟩
  ·rw[e]at hi ⊢
   by_cases yu:i < t0.way.length
   ·rw[getElem?_append_left yu]at hi
    exact absurd hx ((h0 hc).2 x (mem_of_getElem? hi))
   ·have:=(gQ0 hi)
    rw[length_append,length_singleton]at this ⊢
    omega
  ·rw[e]at hi ⊢
   exact M.last m' t0 h2 i x hi hx
 ·intro m' t' h x l' hx BH
  obtain⟨t0,h2,_,e2,_,_,e⟩:=lk m' t' h
  rcases e with ⟨hc,rfl,rfl,e⟩ | ⟨ne,e⟩
  ·rw[e]at hx
   have hx:l=x:=by simpa using hx
   subst hx
   rcases yV l l' BH with ⟨_,e'⟩ | ⟨ne,_⟩
   ·left
    rw[e',hc];simp
   ·exact absurd rfl ne
  ·rw[e]at hx
   rcases yV x l' BH with ⟨rfl,e'⟩ | ⟨ne',h'⟩
   ·rcases M.head m' t0 h2 x ln hx y3 with z | z | z
    ·exact absurd ⟨z.2,z.1⟩ ne
    ·exact .inl (by rw[e'];exact mem_append_left _ z)
    ·rw[e2];exact .inr z
   ·rcases M.head m' t0 h2 x l' hx h' with z | z | z
    ·exact absurd ⟨z.2,z.1⟩ ne
    ·exact .inl z
    ·rw[e2];exact .inr z
 ·intro j l' h i i' z q hi yu hq
  rcases yV j l' h with ⟨rfl,e⟩ | ⟨_,h'⟩
  ·rw[e]at hi hq
   by_cases zI:i < ln.qs.length
   ·rw[getElem?_append_left zI]at hi
    rw[getElem?_append_left (by omega)]at hq
    exact M.first j ln y3 i i' z q hi yu hq
   ·have h3:=(gQ0 hi)
    rw[length_append,length_singleton]at h3
    have ei:i=ln.qs.length:=by omega
    subst ei
    rw[getElem?_concat_length]at hi
    have hi:=Option.some.inj hi
    injection hi with e1 e2
    subst e1
    rw[getElem?_append_left yu]at hq
    intro ez
    obtain⟨m',t0,e3,h4,h5⟩:=M.yR j ln y3 q (mem_of_getElem? hq)
    have em0:(m':Int)=(m:Int):=by rw[← e3];exact ez
    have:m=m':=by omega
    subst this
    rw[ht]at h4
    cases h4
    exact(h0 e2).1 h5
  ·exact M.first j l' h' i i' z q hi yu hq
 ·intro j l' h m' t' hm h'
  obtain⟨t0,h2,_,_,_,_,e⟩:=lk m' t' h'
  rcases old j l' h _ hm with ⟨rfl,e'⟩ | ⟨l0,h3,hm⟩
  ·injection e' with e1 e2
   have em:m' = m:=by omega
   subst em
   rcases e with ⟨_,_,_,e⟩ | ⟨ne,_⟩
   ·rw[e];simp
   ·exact absurd ⟨e2.symm,rfl⟩ ne
  ·rcases e with ⟨hc,rfl,rfl,e⟩ | ⟨ne,e⟩
   ·exact absurd hm (M.gone hc j l0 h3)
   ·rw[e];exact M.Cn j l0 h3 m' t0 hm h2
 ·have q1:=eH (fun ln:yr=>ln.qs.length) (y:=eO ln m c t.len) y3
  have q2:(eO ln m c t.len).qs.length=ln.qs.length + 1:=by show(ln.qs ++ [_]).length=_;simp
  have q3:fI (dF s m c l t ln)=fI s:=by
   unfold fI
   show((if c=0 then s.xM.set m { t with way:=t.way ++ [l] } else s.xM).map fun t=>t.gone).sum=_
   by_cases hc:c=0
   ·rw[if_pos hc]
    have:=iO (fun t:cu=>t.gone) (y:={ t with way:=t.way ++ [l] }) ht
    have e:({ t with way:=t.way ++ [l] }:cu).gone=t.gone:=rfl
    omega
   ·rw[if_neg hc]
  have h2:=M.sum
  rw[q3]
  unfold j5 at h2 ⊢
  show((((s.lanes.set l (eO ln m c t.len)).map fun ln=>ln.qs.length).sum:Nat):Int) + (iP s:Int)=fI s
  omega
theorem uM {a:YA}{s:YS}{m e:Nat}{c:Int}{t:cu}{qs:List (Int × Int)}(M:MR a s m c)(ht:s.xM[m]? = some t)(AU:s.lies[e]? = some qs)(h0:c=0->∀ x,t.way.getLast? = some x->lO a x=t.goal):zp a { s with lies:=s.lies.set e (qs ++ [((m:Int),c)]) }:=by
 refine⟨M.lanes,by show(s.lies.set _ _).length=_;rw[length_set];exact M.lies,M.yI,M.CG,M.lets,M.yO,M.yR,M.zR,fun m' t' h z=>(M.yP m' t' h z).1,M.last,?_,M.first,M.Cn,?_⟩
 ·intro m' t' h x l' hx BH
  rcases M.head m' t' h x l' hx BH with ⟨rfl,hc⟩ | z | z
  ·have h:s.xM[m']? = some t':=h
   rw[ht]at h
   cases h
   exact .inr (h0 hc x hx)
  ·exact .inl z
  ·exact .inr z
 ·have:=eH (fun qs:List (Int × Int)=>qs.length) (y:=qs ++ [((m:Int),c)]) AU
  have h2:=M.sum
  unfold iP at h2 ⊢
  show (j5 s:Int) + ((((s.lies.set e (qs ++ [((m:Int),c)])).map fun qs=>qs.length).sum:Nat):Int)=fI s
  rw[length_append,length_singleton]at this
  omega
theorem zp.back {a:YA}{s:YS}{k:Nat}{lk Kt:yr}(J:zp a s)(hk:s.lanes[k]? = some lk)(e:Kt.qs=lk.qs):zp a { s with lanes:=s.lanes.set k Kt }:=by
 have y6:∀ (j:Nat)(l':yr),(s.lanes.set k Kt)[j]? = some l'->∃ l0,s.lanes[j]? = some l0/\l'.qs=l0.qs:=fun j l' h=>by
  rcases fj h with ⟨rfl,rfl⟩ | ⟨_,h⟩
  ·exact⟨lk,hk,e⟩
  ·exact⟨l',h,rfl⟩
 refine⟨by rw[← J.lanes];simp,J.lies,J.yI,J.CG,J.lets,J.yO,?_,J.zR,J.yP,J.last,?_,?_,?_,?_⟩
 ·intro j l' h q hq
  obtain⟨l0,h0,e0⟩:=y6 j l' h
  rw[e0]at hq
  exact J.yR j l0 h0 q hq
 ·intro m t ht x l' hx BH
  obtain⟨l0,h0,e0⟩:=y6 x l' BH
  rw[e0]
  exact J.head m t ht x l0 hx h0
 ·intro j l' h
  obtain⟨l0,h0,e0⟩:=y6 j l' h
  rw[e0]
  exact J.first j l0 h0
 ·intro j l' h
  obtain⟨l0,h0,e0⟩:=y6 j l' h
  rw[e0]
  exact J.Cn j l0 h0
 ·have:=eH (fun ln:yr=>ln.qs.length) (y:=Kt) hk
  have h1:=J.sum
  have e':=congrArg List.length e
  unfold j5 at h1 ⊢
  show((((s.lanes.set k Kt).map fun ln=>ln.qs.length).sum:Nat):Int) + (iP s:Int)=fI s
  omega
theorem zp.step {a:YA}{s s':YS}{m:Mv}(J:zp a s)(h:Bz a s m s'):zp a s':=by
 cases h with
 | @y6 k l t ln ht hg hl y3 ho =>
  have M:=rX J ht hg
  refine jP (t:={ t with gone:=t.gone + 1 }) M (fV ht) y3 (fun hc=>?_) (fun hc=>?_)
  ·have hw:=J.yP k t ht hc
   show l ∉ t.way/\∀ x ∈ t.way,lO a x ≠ t.goal
   rw[hw]
   exact⟨by simp,by simp⟩
  ·unfold cM at hl
   rw[if_neg hc]at hl
   exact mem_of_mem_take hl
 | @on k l m c lk ln t hk hq ht hl y3 ho =>
  have M:=lE J hk hq
  have hw:cN a s k=if c=0 then (yZ a k t.goal.toNat).filter (fun l=>!decide (l ∈ t.way)) else (t.way.drop (t.way.idxOf k + 1)).take 1:=by
   unfold cN bI
   rw[hk]
   dsimp only
   rw[hq]
   dsimp only
   rw[toNat_natCast,ht]
  rw[hw]at hl
  refine jP M ht y3 (fun hc=>?_) (fun hc=>?_)
  ·rw[if_pos hc]at hl
   obtain⟨h1,h2⟩:=mem_filter.mp hl
   refine⟨by simpa using h2,fun x hx ex=>?_⟩
   subst hc
   obtain⟨i,hi⟩:=kO hx
   have h3:=J.last m t ht i x hi ex
   have h4:=J.Cn k lk hk m t (mem_of_head? hq) ht
   have h5:=sA h4
   rw[show t.way.length - 1=i by omega,hi]at h5
   have h5:=Option.some.inj h5
   subst h5
   unfold yZ at h1
   obtain⟨x0,y0,e1,e2,_,_⟩:=J.lets m t ht
   rw[if_pos (by show lO a x=_;rw[ex,e2,toNat_natCast])]at h1
   cases h1
  ·rw[if_neg hc]at hl
   exact List.mem_of_mem_drop (mem_of_mem_take hl)
 | @AR k m e c lk t qs hk hq ht hg he AU =>
  have M:=lE J hk hq
  have:=uM (s:={ s with lanes:=s.lanes.set k (c5 lk) }) M ht AU (fun hc x hx=>?_)
  ·exact this
  ·subst hc
   have h4:=J.Cn k lk hk m t (mem_of_head? hq) ht
   rw[h4]at hx
   have hx:=Option.some.inj hx
   subst hx
   show(a.ps.getD k (0,0)).2=t.goal
   rw[he,hg]
 | @back k lk hk hb=>exact J.back hk rfl
noncomputable def qx (s:YS):Int:=(s.xM.map fun t=>t.len).sum
theorem nZ {α:Type}(f g:α->Int):∀ {L:List α},(∀ (m:Nat)(t:α),L[m]? = some t->f t <= g t)->(L.map f).sum <= (L.map g).sum
 | [],_=>by simp
 | x :: L,h=>by
  have h1:=h 0 x rfl
  have h2:=nZ f g (L:=L) fun m t ht=>h (m + 1) t ht
  simp only[map_cons,sum_cons];omega
theorem jE {α:Type}(g:α->Int):∀ {L:List α},(∀ (m:Nat)(t:α),L[m]? = some t->g t <= 60)->(L.map g).sum <= 60 * L.length
 | [],_=>by simp
 | x :: L,h=>by
  have h1:=h 0 x rfl
  have h2:=jE g (L:=L) fun m t ht=>h (m + 1) t ht
  simp only[map_cons,sum_cons,length_cons];omega
theorem zp.Ku {a:YA}{s:YS}(J:zp a s):(iP s:Int) <= qx s/\(j5 s:Int) + (iP s:Int) <= 3600:=by
 have h1:=nZ (fun t:cu=>t.gone) (fun t=>t.len) (L:=s.xM) fun m t ht=>(J.zR m t ht).2.1
 have h2:=J.sum
 have h3:=jE (fun t:cu=>t.len) (L:=s.xM) fun m t ht=>(J.zR m t ht).2.2
 have h4:=J.yI
 unfold fI at h2
 unfold qx
 omega
theorem jm {α:Type}(f:α->Nat):∀ {L:List α}{k:Nat}{x:α},L[k]? = some x->f x <= (L.map f).sum
 | [],_,_,h=>by cases h
 | z :: L,0,x,h=>by cases h;simp only[map_cons,sum_cons];omega
 | z :: L,k + 1,x,h=>by
  have:=jm f (L:=L) (k:=k) (x:=x) h
  simp only[map_cons,sum_cons];omega
theorem zp.sml {a:YA}{s:YS}(J:zp a s)(hd:s.done.length <= 100000):T8 s:=by
 have h:=J.Ku.2
 refine⟨fun k ln hk=>?_,fun p qs hp=>?_,hd⟩
 ·have:=jm (fun ln:yr=>ln.qs.length) hk
  unfold j5 at h
  omega
 ·have:=jm (fun qs:List (Int × Int)=>qs.length) hp
  unfold iP at h
  omega
abbrev yx (ys:Ys)(ex:List Addr):Ys:={ ys with ex:=ex }
noncomputable def ScV (x:V):Prop:=(∃ i,x = .int i)∨∃ t,x = .str t/\PyData.strOk t=true
structure PK (a:YA)(s:YS):Prop where
 lanes:s.lanes.length=a.ps.length
 lies:s.lies.length=a.n
 q0:∀ (k:Nat)(ln:yr),s.lanes[k]? = some ln->ln.qs=[]
 l0:∀ (p:Nat)(qs:List (Int × Int)),s.lies[p]? = some qs->qs=[]
 lets:∀ (m:Nat)(t:cu),s.xM[m]? = some t->t.gone=0/\t.way=[]/\0 <= t.len/\t.len <= 60/\∃ x y:Nat,t.start=(x:Int)/\t.goal=(y:Int)/\x < a.n/\y < a.n
 done:∀ d ∈ s.done,∀ x ∈ d,ScV x
theorem vV {α:Type}(f:α->Nat):∀ {L:List α},(∀ (k:Nat)(x:α),L[k]? = some x->f x=0)->(L.map f).sum=0
 | [],_=>rfl
 | x :: L,h=>by
  have h1:=h 0 x rfl
  have h2:=vV f (L:=L) fun k y hy=>h (k + 1) y hy
  simp only[map_cons,sum_cons];omega
theorem vq {α:Type}(f:α->Int):∀ {L:List α},(∀ (k:Nat)(x:α),L[k]? = some x->f x=0)->(L.map f).sum=0
 | [],_=>rfl
 | x :: L,h=>by
  have h1:=h 0 x rfl
  have h2:=vq f (L:=L) fun k y hy=>h (k + 1) y hy
  simp only[map_cons,sum_cons];omega
theorem PK.jnv {a:YA}{s:YS}(h:PK a s)(yI:s.xM.length <= 60)(CG:a.ps.length <= 40):zp a s:=by
 refine⟨h.lanes,h.lies,yI,CG,fun m t ht=>(h.lets m t ht).2.2.2.2,fun m t ht=>?_,fun k ln hk q hq=>?_,fun m t ht=>?_,fun m t ht _=>(h.lets m t ht).2.1,fun m t ht i l hi=>?_,fun m t ht l ln hl=>?_,fun k ln hk i j z q hi=>?_,fun k ln hk m t hm=>?_,?_⟩
 ·rw[(h.lets m t ht).2.1];exact⟨(fun l hl=>by cases hl),nodup_nil⟩
 ·rw[h.q0 k ln hk]at hq;cases hq
 ·obtain⟨h1,h2,h3,h4,_⟩:=h.lets m t ht
  rw[h1];exact⟨by omega,h3,h4⟩
 ·rw[(h.lets m t ht).2.1]at hi;cases hi
 ·rw[(h.lets m t ht).2.1]at hl;cases hl
 ·rw[h.q0 k ln hk]at hi;cases hi
 ·rw[h.q0 k ln hk]at hm;cases hm
 ·have h1:j5 s=0:=vV _ fun k ln hk=>by rw[h.q0 k ln hk];rfl
  have h2:iP s=0:=vV _ fun p qs hp=>by rw[h.l0 p qs hp];rfl
  have h3:fI s=0:=vq _ fun m t ht=>(h.lets m t ht).1
  rw[h1,h2,h3];rfl
theorem pH {n a b:Nat}{wy:Wf}{m:Nat}{l u:Int}(ha:a < n)(hb:b < n)(hl:1 <= l/\l <= 60)(hu:MB (.int u)=true)(JV:a ≠ b)(hw:wy a b none ≠ [])(hm:m < 60):kJ n wy m (.int a) (.int b) (.int l) (.int u) = .good:=by
 unfold kJ
 rw[show jJ (.int (a:Int)) 0 ((n:Int) - 1)=true from decide_eq_true (by omega),show jJ (.int (b:Int)) 0 ((n:Int) - 1)=true from decide_eq_true (by omega),show jJ (.int l) 1 60=true from decide_eq_true hl,hu,if_neg (by decide),if_neg (by decide),if_neg (by decide)]
 rw[if_neg (by
  rintro (h | h)
  ·have h:(a:Int)=(b:Int):=h
   omega
  ·have h:wy ((a:Int)).toNat ((b:Int)).toNat none=[]:=h
   rw[toNat_natCast,toNat_natCast]at h
   exact hw h),if_neg (by omega)]
theorem zp.done {a:YA}{s:YS}(J:zp a s)(d:List (List V)):zp a { s with done:=d }:=⟨J.lanes,J.lies,J.yI,J.CG,J.lets,J.yO,J.yR,J.zR,J.yP,J.last,J.head,J.first,J.Cn,J.sum⟩
theorem PL {a:YA}{yi:List V}(h:yi.length=a.ps.length):PK a (Y0 yi a.n):=by
 refine⟨by show(yi.map oN).length=_;rw[length_map];exact h,by show(List.replicate a.n []).length=_;rw[length_replicate],fun k ln hk=>?_,fun p qs hp=>?_,fun m t ht=>?_,fun d hd=>?_⟩
 ·have hk:(yi.map oN)[k]? = some ln:=hk
  rw[getElem?_map]at hk
  cases hr:yi[k]? with
  | none=>rw[hr]at hk;cases hk
  | some v=>rw[hr]at hk;cases hk;rfl
 ·have hp:(List.replicate a.n ([]:List (Int × Int)))[p]? = some qs:=hp
  exact eq_of_mem_replicate (mem_of_getElem? hp)
 ·have ht:([]:List cu)[m]? = some t:=ht
  cases ht
 ·have hd:d ∈ ([]:List (List V)):=hd
  cases hd
noncomputable def r8 (p:Int × Int):PyData := .tuple [.int p.1, .int p.2]
theorem sR {K:Frag}{H:Hp}:∀ {vs:List V}{ps:List (Int × Int)},yk H vs ps->j2 K H vs (ps.map r8):=fun xU=>by
 induction xU with
 | nil=>exact .nil
 | cons zz r ih=>obtain⟨t,e,h⟩:=zz;exact .cons (by subst e;exact .tup (xV.of h) (.cons (.int _) (.cons (.int _) .nil))) ih
theorem pB (ps:List (Int × Int)):zE (.list (ps.map r8)) 64:=(eI (m:=1) fun z hz=>by
 obtain⟨p,_,rfl⟩:=mem_map.mp hz
 exact eW (m:=0) fun y hy=>by
  simp only[mem_cons,not_mem_nil,or_false]at hy
  rcases hy with rfl | rfl<;>exact dq _).le (by decide)
theorem tU (ms:List Mv):zE (.list (ms.map oK)) 64:=(eI (m:=1) fun z hz=>by
 obtain⟨m,_,rfl⟩:=mem_map.mp hz
 exact fJ m).le (by decide)
theorem B0:zE (.list []) 64:=(eI (m:=0) fun z hz=>by cases hz).le (by decide)
theorem oZ {α:Type}(f:α->PyData)(l:List α):PyData.eqv (.list (l.map f)) (.list [])=l.isEmpty:=by
 cases l<;>simp[PyData.eqv,PyData.eqvAll]
theorem eqN {K:Frag}{x y:V}{H:Hp}{Q:VK}{α:Type}{f:α->PyData}{l:List α}(h1:j9 K H x (.list (l.map f)))(h2:j9 K H y (.list []))(s:zE (.list (l.map f)) 64)(q:Q (.bl l.isEmpty) H):IL K x y H Q :=
 ⟨_,_,h1,h2,s.shaped (le_refl _),B0.shaped (le_refl _),by rw[oZ];exact q⟩
theorem neN {K:Frag}{x y:V}{H:Hp}{Q:VK}{α:Type}{f:α->PyData}{l:List α}(h1:j9 K H x (.list (l.map f)))(h2:j9 K H y (.list []))(s:zE (.list (l.map f)) 64)(q:Q (.bl (!l.isEmpty)) H):uj K x y H Q :=
 ⟨_,_,h1,h2,s.shaped (le_refl _),B0.shaped (le_refl _),by rw[oZ];exact q⟩
theorem zp.post {a:YA}{s:YS}(J:zp a s){x y:Nat}{l u:Int}(hx:x < a.n)(hy:y < a.n)(hl:0 <= l/\l <= 60)(hf:s.xM.length < 60):zp a (ip s x y l u):=by
 have el:∀ (m:Nat)(t:cu),(ip s x y l u).xM[m]? = some t->s.xM[m]? = some t∨(m=s.xM.length/\t = ⟨x,y,l,u,0,[]⟩):=fun m t ht=>by
  have ht:(s.xM ++ [(⟨(x:Int),(y:Int),l,u,0,[]⟩:cu)])[m]? = some t:=ht
  by_cases hm:m < s.xM.length
  ·rw[getElem?_append_left hm]at ht;exact .inl ht
  ·have h3:=(gQ0 ht)
   rw[length_append,length_singleton]at h3
   have em:m=s.xM.length:=by omega
   subst em
   rw[getElem?_concat_length]at ht
   cases ht
   exact .inr ⟨rfl,rfl⟩
 have eo:∀ (m:Nat)(t:cu),s.xM[m]? = some t->(ip s x y l u).xM[m]? = some t:=fun m t ht=>by
  show(s.xM ++ [(⟨(x:Int),(y:Int),l,u,0,[]⟩:cu)])[m]? = some t
  rw[getElem?_append_left (gQ0 ht)];exact ht
 refine⟨J.lanes,J.lies,?_,J.CG,fun m t ht=>?_,fun m t ht=>?_,fun k ln hk q hq=>?_,fun m t ht=>?_,fun m t ht hg=>?_,fun m t ht i l' hi he=>?_,fun m t ht l' ln BH y3=>?_,J.first,fun k ln hk m t hm ht=>?_,?_⟩
 ·show(s.xM ++ [_]).length <= 60
  rw[length_append,length_singleton];omega
 ·rcases el m t ht with h | ⟨_,rfl⟩
  ·exact J.lets m t h
  ·exact⟨x,y,rfl,rfl,hx,hy⟩
 ·rcases el m t ht with h | ⟨_,rfl⟩
  ·exact J.yO m t h
  ·exact⟨(fun l hl=>by cases hl),nodup_nil⟩
 ·obtain⟨m,t,e,ht,FZ⟩:=J.yR k ln hk q hq
  exact⟨m,t,e,eo m t ht,FZ⟩
 ·rcases el m t ht with h | ⟨_,rfl⟩
  ·exact J.zR m t h
  ·exact⟨Int.le_refl _,hl.1,hl.2⟩
 ·rcases el m t ht with h | ⟨_,rfl⟩
  ·exact J.yP m t h hg
  ·rfl
 ·rcases el m t ht with h | ⟨_,rfl⟩
  ·exact J.last m t h i l' hi he
  ·cases hi
 ·rcases el m t ht with h | ⟨_,rfl⟩
  ·exact J.head m t h l' ln BH y3
  ·cases BH
 ·obtain⟨m2,t2,e2,CH,_⟩:=J.yR k ln hk _ hm
  have e2:(m:Int)=(m2:Int):=e2
  have e2:m=m2:=by omega
  subst e2
  rcases el m t ht with h | ⟨e,_⟩
  ·exact J.Cn k ln hk m t hm h
  ·rw[e]at CH
   rw[List.getElem?_eq_none (le_refl _)]at CH
   cases CH
 ·have h:=J.sum
  have e:fI (ip s x y l u)=fI s:=by
   show((s.xM ++ [(⟨(x:Int),(y:Int),l,u,0,[]⟩:cu)]).map _).sum=_
   rw[map_append,List.sum_append]
   simp[fI]
  rw[e];exact h
theorem xb {m:Nat}{rs:List Int}(zj:rs.length=m)(Kv:∀ r ∈ rs,1 <= r/\r <= 60):oH m (rs.map V.int)=true:=by
 unfold oH
 rw[length_map,zj,decide_eq_true rfl,Bool.true_and,all_eq_true]
 intro v hv
 obtain⟨r,El,rfl⟩:=mem_map.mp hv
 exact decide_eq_true (Kv r El)
noncomputable def YdP (K:Frag)(c:Cs)(TC:Addr)(J:TJ)(ys:Ys)(ex:List Addr)(H:Hp)(tb:Addr)(ps:List (Int × Int))(n:Nat)(wy:Wf)(rs:List Int):VK:=fun v H'=>∃ a:YA,v = .ref a.y/\a.tb=tb/\a.ps=ps/\a.n=n/\a.wy=wy/\xN H H'/\(∀ z ∈ a.four,H z=none)/\Cm K c TC J (yx ys ex) H' a (Y0 (rs.map V.int) n)/\zp a (Y0 (rs.map V.int) n)
theorem nX {P:Program}{w:World}{K:Frag}{c:Cs}{TC fw:Addr}{dw:FuncData}{J:TJ}{ys:Ys}{ex:List Addr}{H:Hp}{tb lx yz lt ra:Addr}{n:Nat}{ye:List V}{ps:List (Int × Int)}{wy:Wf}{rs:List Int}{E:XK}(W:Wy K TC fw dw J)
  (hT:yC c TC J H tb lx yz lt n ye ps wy) (Aa:∀ p g k,(wy p g k).length <= 400) (xY:∀ p ∈ ps,fO n p=true) (hR:xS K H ra (rs.map V.int)) (zj:rs.length=ps.length) (Kv:∀ r ∈ rs,1 <= r/\r <= 60) (hp:ps.length <= 40) (hex:∀ b ∈ ex,∃ xs,H b=some (.lst xs)) :
  ∀ y dy,H y=none->H dy=none->dy ≠ y->jG K c TC J (yx ys ex) [.ref y, .ref tb, .ref ra] (upd (upd H dy (.own y)) y (.ins ys.xR dy [])) (fun v H2=>v = .yd/\YdP K c TC J ys ex H tb ps n wy rs (.ref y) H2) E:=by
 intro y dy ny Kw Kx
 have s4:xN H (upd (upd H dy (.own y)) y (.ins ys.xR dy [])):=xN.new (xN.new (xN.refl H) Kw) (by rw[ae (Ne.symm Kx)];exact ny)
 have PM:=xb zj Kv
 refine⟨y,dy,tb,lx,yz,lt,n,ye,ps,wy,_,rs.map V.int,rfl,ac,hT.keep W (xN.xX s4),(fun b hb=>let ⟨xs,hz⟩:=hex b hb; ⟨xs,s4 _ _ hz⟩), .inr ⟨ra,rfl, .inl (s4.seq hR),by rw[length_map];omega,(fun v hv=>by obtain⟨r,_,rfl⟩:=mem_map.mp hv;exact .int r),fun h=>by rw[PM]at h;cases h⟩,fun _ ro la le li dn H5 o5 Es FA JI MI hY=>⟨rfl,?_⟩⟩
 have s5:xN H H5:=fun b o e=>o5 b o (fun z=>by rw[mem_singleton.mp z,ny]at e;cases e) (s4 _ _ e)
 have hO:vh ⟨y,dy,tb,ro,la,le,li,dn,lx,yz,lt,n,ye,ps,wy⟩:=by
  refine⟨fun l pr hl=>?_,Aa⟩
  have zS:=xY pr (mem_of_getElem? hl)
  unfold fO at zS
  simp only[Bool.and_eq_true,decide_eq_true_eq,Bool.not_eq_true',decide_eq_false_iff_not]at zS
  exact⟨pr.2.toNat,by omega,by show pr.2.toNat < n;omega⟩
 have hJ:zp ⟨y,dy,tb,ro,la,le,li,dn,lx,yz,lt,n,ye,ps,wy⟩ (Y0 (rs.map V.int) n):=(PL (a:=⟨y,dy,tb,ro,la,le,li,dn,lx,yz,lt,n,ye,ps,wy⟩) (by rw[length_map];exact zj)).jnv (zero_le _) (by show ps.length <= 40;omega)
 refine⟨⟨y,dy,tb,ro,la,le,li,dn,lx,yz,lt,n,ye,ps,wy⟩,rfl,rfl,rfl,rfl,rfl,s5,fun z hz=>?_,⟨hY,hT.keep W (xN.xX s5),hO,hJ.ok⟩,hJ⟩
 have hz:z ∈ [la,le,li,dn]:=hz
 simp only[mem_cons,not_mem_nil,or_false]at hz
 rcases hz with rfl | rfl | rfl | rfl
 ·exact s4.free Es
 ·exact s4.free FA
 ·exact s4.free JI
 ·exact s4.free MI
theorem sV {α:Type}{R:Hp->V->α->Prop}{g:TG}{te:TE}{σ0:St}{H:Hp}{Q:VK}(mono:∀ {H H':Hp},xN H H'->∀ v a,R H v a->R H' v a)(as:List α)(hn:as.length < sizeLine)
  (hs:∀ (i:Nat)(a:α)(H1:Hp)(N:V->Hp->Prop),as[i]? = some a->xN H H1->(∀ v H2,xN H1 H2->R H2 v a->N v H2)->g (.int i) σ0 H1 fun σ2 H2=>te σ2 H2 N)
  (hq:∀ D vs H1,xN H H1->H1 D=none->Paired (R H1) vs as->Q (.ref D) (upd H1 D (.lst vs))):cQ (tK 0 as.length) g j4 te σ0 Q H:=by
 refine b8 as.length hn (fun i acc H'=>xN H H'/\Paired (R H') acc (as.take i)) ⟨xN.refl _, .nil⟩ (fun i acc H' h=>by rw[Paired.length h.2];exact length_take_le _ _) (fun i acc H' hi h=>?_) (fun acc H' h=>?_)
 ·obtain⟨s,hL⟩:=h
  refine⟨hi,fun v H2 y=>?_⟩
  obtain⟨rfl,rfl⟩:=y
  rw[zero_add]
  refine hs i as[i] H2 (fun y H4=>xN H H4/\Paired (R H4) (acc ++ [y]) (as.take (i + 1))) (getElem?_eq_getElem hi) s fun v H3 s3 hv=>⟨s.trans s3,?_⟩
  rw[take_succ,getElem?_eq_getElem hi]
  exact Paired.snoc hv (Paired.mono (mono s3) hL)
 ·obtain⟨s,hL⟩:=h
  rw[take_length]at hL
  exact⟨le_refl _,fun D hD=>hq D acc H' s hD hL⟩
noncomputable def uX (s:YS):Bool:=decide ((s.xM.map (·.len)).sum=(s.lies.map fun q=>(q.length:Int)).sum)
noncomputable def PN (s:Stmt):Scope:=match s with
 | .Return (some (.Compare (.Call _ [.ListComp _ _ sc _] _ _) _ _ _)) _=>sc
 | _=>zQ0
noncomputable def PQ (s:Stmt):Scope:=match s with
 | .Return (some (.Compare _ _ [.Call _ [.ListComp _ _ sc _] _ _] _)) _=>sc
 | _=>zQ0
noncomputable def i9 (K:Frag)(ys:Ys):Sp:=fun vs H Q _=>∃ (y dy tb ro la le li dn:Addr)(s:YS),vs=[.ref y]/\yf K ys H y dy tb ro la le li dn s/\s.xM.length <= 900/\s.lies.length <= 900/\∀ H',xN H H'->Q (.bl (uX s)) H'
theorem PR:ar ["self"] ["self"] (al fM):=L2.yq
theorem PU:yK ["self"] (al fM) (PN ((aG fM).getD 0 (.Pass ⟨0,0,0,0⟩))) [] []:=L2.zA
theorem PV:yK ["self"] (al fM) (PQ ((aG fM).getD 0 (.Pass ⟨0,0,0,0⟩))) [] []:=L2.zA
theorem PX:(["letter"]:List Str).Nodup:=by decide +kernel
theorem PY:(["pieces"]:List Str).Nodup:=by decide +kernel
theorem rR {ys:Ys}{f:Addr}{fd:FuncData}(F:yn K "ended" "Yard.ended" fM f fd)(T:fR mg)(Y:jz K ys):xO P w K mg base aF 1 f fd ["self"] (i9 K ys):=by
 refine F.ok PR (fun _ _ _ _ h=>?_) (fun _ _ _ s H _ Q E hr h=>?_)
 ·obtain⟨y,dy,tb,ro,la,le,li,dn,st,rfl,_⟩:=h
  rfl
 ·obtain⟨y,dy,tb,ro,la,le,li,dn,st,rfl,hY,h9,h92,q⟩:=h
  refine⟨_,ak (au (bU bG (aB (lW rfl) rfl T.sum PyProof.Rows.boot_sum (aa (bv (own:=["letter"]) (capN:=[]) (cap:=[]) PU rfl (bA (am (pv 0) rfl)) (fun C s' H' fp=>⟨aq (i:=0) PX rfl (Or.inl rfl),bT,(show PE _ _ (pA K (lj 0) "length") from am (pv 0) rfl)⟩)) ad))
   (aB (lW rfl) rfl T.sum PyProof.Rows.boot_sum (aa (bv (own:=["pieces"]) (capN:=[]) (cap:=[]) PV rfl (bA (am (pv 0) rfl)) (fun C s' H' fp=>⟨aq (i:=0) PY rfl (Or.inl rfl),bT,aB (show cR _ (.builtin "len") (Pm K) from aC) rfl T.len PySem.boot_len (aa (pv 0) ad)⟩)) ad)) (ay _))),?_⟩
  obtain⟨ye,yY,pl⟩:=hY.hle
  have AA:=Paired.length pl
  refine⟨_,rfl,y,ys.xR,dy,_,_,rfl,hY.ins,Y.cl,Y.n4,rfl,le,rfl,⟨_,xS.of yY⟩,?_⟩
  refine jV (fun i => .int (st.xM.getD i ⟨0,0,0,0,0,[]⟩).len) (by rw[sizeLine_eq];omega) (xS.of yY) (fun i x N hx h=>?_) (fun D hD=>?_)
  ·obtain⟨lt,yu,x',dx,wa,rfl,Ce,_⟩:=Paired.at pl hx
   rw[getD_eq_getElem?_getD,yu]at h
   exact⟨_,rfl,x',ys.xQ,dx,_,_,rfl,Ce,Y.ct,Y.t3,rfl,h⟩
  have e1:(List.range ye.length).map (fun i=>V.int (st.xM.getD i ⟨0,0,0,0,0,[]⟩).len)=(st.xM.map (·.len)).map V.int:=by
   rw[AA,map_map]
   exact iZ st.xM _ fun s=>V.int s.len
  rw[e1]
  have s1:=(xN.refl H).new (o := .lst ((st.xM.map (·.len)).map V.int)) hD
  have gD:(upd H D (.lst ((st.xM.map (·.len)).map V.int))) D=some (.lst ((st.xM.map (·.len)).map V.int)):=ac
  generalize upd H D (.lst ((st.xM.map (·.len)).map V.int))=H1 at s1 gD ⊢
  refine⟨D,_,rfl,xS.of gD,?_⟩
  have Aj:=hY.same s1
  obtain⟨BS,BW,ph⟩:=Aj.AB
  have hhl:=Paired.length ph
  refine⟨_,rfl,y,ys.xR,dy,_,_,rfl,Aj.ins,Y.cl,Y.n5,rfl,li,rfl,⟨_,xS.of BW⟩,?_⟩
  refine jV (fun i => .int ((st.lies.getD i []).length:Nat)) (by rw[sizeLine_eq];omega) (xS.of BW) (fun i x N hx h=>?_) (fun D2 zF=>?_)
  ·obtain⟨qs,AU,t,vs,rfl,ht,hL⟩:=Paired.at ph hx
   rw[getD_eq_getElem?_getD,AU]at h
   have By:vs.length=qs.length:=Paired.length hL
   refine⟨_,rfl,t,vs,rfl, .inr (xV.of ht),?_⟩
   rw[By]
   exact h
  have e2:(List.range BS.length).map (fun i=>V.int ((st.lies.getD i []).length:Nat))=(st.lies.map fun q=>(q.length:Int)).map V.int:=by
   rw[hhl,map_map]
   exact iZ st.lies _ fun q=>V.int (q.length:Nat)
  rw[e2]
  refine⟨D2,_,rfl,xS.of ac,rfl,?_⟩
  rw[bP]
  exact q _ (s1.new zF)
noncomputable def sY:Option Nat->Nat
 | none=>0
 | some k=>k + 1
noncomputable def jA (rs:List Rw)(k:fv):Nat:=match ci rs k with
 | some r=>Yd.yJ r.s 0
 | none=>0
theorem gw {rs:List Rw}{k:fv}{r:Rw}(h:ci rs k=some r):r ∈ rs:=mem_reverse.mp (mem_of_find?_eq_some h)
noncomputable def m7 (rs:List Rw):Wf:=fun p g k=>mN (jA rs (aK ⟨(p:Int),(g:Int),k,[]⟩))
noncomputable def yp (P:Program)(w:World)(ts:Ts):TJ:=fun H x n wy=>∃ (dx de:Addr)(lv:V)(xP:List bO)(rs:List Rw),H x=some (.ins ts.told dx [("land",lv),("entries", .ref de)])/\y2 P w H de xP/\(∀ k,c6 xP k=(ci rs k).map qO)/\(∀ r ∈ rs,∀ k ∈ r.s,k < 40)/\wy=m7 rs
theorem yp.keep {P:Program}{w:World}{ts:Ts}{H H':Hp}{x:Addr}{n:Nat}{wy:Wf}(h:yp P w ts H x n wy)(k:yg H H'):yp P w ts H' x n wy:=by
 obtain⟨dx,de,lv,xP,rs,h1,⟨h2,h3⟩,h4⟩:=h
 exact⟨dx,de,lv,xP,rs,k _ _ h1 True.intro,⟨k _ _ h2 True.intro,fun y hy=>k _ _ (h3 y hy) True.intro⟩,h4⟩
theorem xi {ks:List Nat}{z:Nat}(h:z ∈ mN (Yd.yJ ks 0)):z ∈ ks:=by
 have:=(mem_filter.mp h).2
 have h2:(Yd.yJ ks 0).testBit z=true:=this
 rw[p9,decide_eq_true_eq]at h2
 obtain⟨n,hn,e⟩:=zo.mp h2
 have:n=z:=by omega
 exact this ▸ hn
theorem lG (m:Nat):(mN m).Nodup:=nodup_range.filter _
theorem ql {rs:List Rw}{n:Nat}(h:∀ r ∈ rs,∀ k ∈ r.s,k < n)(p g:Nat)(k:Option Nat):(∀ z ∈ m7 rs p g k,z < n)/\(m7 rs p g k).length <= n:=by
 have h1:∀ z ∈ m7 rs p g k,z < n:=fun z hz=>by
  unfold m7 jA at hz
  cases hl:ci rs (aK ⟨(p:Int),(g:Int),k,[]⟩) with
  | none=>rw[hl]at hz;exact absurd hz (by show z ∉ mN 0;intro h;cases h)
  | some r=>rw[hl]at hz;exact h r (gw hl) z (xi hz)
 exact⟨h1,gZ n _ (lG _) h1⟩
theorem mH {ts:Ts}{f:Addr}{fd:FuncData}(G:xO P w K mg base aF 3 f fd ["self", "place", "goal", "came"] (og P w ts)):xO P w K mg base aF 3 f fd ["self", "place", "goal", "came"] (fU (yp P w ts)) :=
 G.imp fun vs H Q E xU=>by
 obtain⟨x,n,wy,p,g,k,e,⟨dx,de,lv,xP,rs,h1,h2,h3,h4,h5⟩,hp,hg,q⟩:=xU
 exact⟨x,dx,de,lv,xP,⟨(p:Int),(g:Int),k,[]⟩,jA rs (aK ⟨(p:Int),(g:Int),k,[]⟩),e,h1,h2,by
  rw[h3]
  unfold jA
  cases ci rs (aK ⟨(p:Int),(g:Int),k,[]⟩)<;>rfl,by
  unfold jA
  cases hl:ci rs (aK ⟨(p:Int),(g:Int),k,[]⟩) with
  | none=>exact Nat.two_pow_pos _
  | some r=>exact lt_of_lt_of_le (vX (h4 r (gw hl))) (pow_le_pow_right (by decide) (by decide)),fun H' D s' hD=>q D _ (s'.new hD) (s'.free hD) (by rw[ac,h5];rfl)⟩
theorem pw {sel:Int × Int->Int}{ps:List (Int × Int)}{pl:Int}{g:TG}{tt:TT}{te:TE}{σ0:St}{H:Hp}{Q:VK}(hn:ps.length < sizeLine)
  (hs:∀ (i:Nat)(acc:List V)(N:List V->Hp->Prop)(pr:Int × Int),ps[i]? = some pr->N (if decide (sel pr=pl)=true then acc ++ [V.int i] else acc) H->g (.int i) σ0 H fun σ2 H2=>tt σ2 H2 fun b H3=>if b=true then te σ2 H3 fun y H4=>N (acc ++ [y]) H4 else N acc H3)
  (hq:∀ D,H D=none->Q (.ref D) (upd H D (.lst (aL (cx sel ps pl))))):cQ (tK 0 ps.length) g tt te σ0 Q H:=by
 refine lS (lo:=0) (fun k=>decide (sel (ps.getD k (0,0))=pl)) (fun k=>V.int k) hn (fun i acc N hi h=>?_) hq
 obtain⟨pr,zv⟩:∃ pr,ps[i]? = some pr:=⟨ps[i],getElem?_eq_getElem hi⟩
 have eg:ps.getD i (0,0)=pr:=by rw[getD_eq_getElem?_getD,zv];rfl
 rw[zero_add]
 rw[eg]at h
 exact hs i acc N pr zv h
theorem jN (us:List Nat)(k:Nat):aL us ++ [V.int (k:Int)]=aL (us ++ [k]):=by unfold aL;rw[map_append];rfl
theorem PZ (m k:Nat):decide (V.int (Builtin.bitAnd ((m:Int) / 2 ^ (k:Int).toNat) 1)=V.int 1)=m.testBit k:=by
 rw[ed,toNat_natCast,← Yd.Bm m k]
theorem ie {K:Frag}{a:Addr}{xs:List Nat}{g:TG}{tt:TT}{te:TE}{σ0:St}{H:Hp}{Q:VK}(q:Nat->Bool)(hn:xs.length < sizeLine)(ha:xS K H a (aL xs))
  (hs:∀ (k:Nat)(acc:List V)(N:List V->Hp->Prop),k ∈ xs->N (if q k then acc ++ [V.int (k:Int)] else acc) H->g (.int (k:Int)) σ0 H fun σ2 H2=>tt σ2 H2 fun b H3=>if b=true then te σ2 H3 fun y H4=>N (acc ++ [y]) H4 else N acc H3)
  (hq:∀ D,H D=none->Q (.ref D) (upd H D (.lst (aL (xs.filter q))))):cQ (tL K a) g tt te σ0 Q H:=by
 refine gE (xs:=aL xs) (fun v=>match v with | .int k=>q k.toNat | _=>false) (fun v=>v) (by unfold aL;rw[length_map];exact hn) ha (fun x acc N hx h=>?_) fun D hD=>?_
 ·obtain⟨k,hk,rfl⟩:=mem_map.mp hx
  exact hs k acc N hk h
 ·have e:((aL xs).filter (fun v=>match v with | .int k=>q k.toNat | _=>false)).map (fun v=>v)=aL (xs.filter q):=by
   unfold aL
   rw[List.map_id'',List.filter_map]
   ·congr 1
   ·intro _;rfl
  rw[e]
  exact hq D hD
theorem sO {n:Nat}{ps:List (Int × Int)}(h1:1 <= n)(h2:n <= 12)(h3:ps.length <= 40)(h:∀ p ∈ ps,fO n p=true):eQ n ps = .good:=by
 unfold eQ
 rw[decide_eq_true (show (1:Int) <= (n:Int)/\(n:Int) <= 12 by omega),if_neg (by decide),if_neg (by omega),jx h]
noncomputable def mz (s:Stmt):Scope:=match s with
 | .Assign _ (.ListComp _ _ sc _) _=>sc
 | _=>zQ0
noncomputable def cZ (b:List Stmt)(i:Nat):Stmt:=b.getD i (.Pass ⟨0,0,0,0⟩)
noncomputable def fQ (s:Stmt):List Stmt:=match s with
 | .For _ _ b _ _=>b
 | _=>[]
theorem jy {H H2:Hp}{D t1:Addr}{xW:List V}{ps:List (Int × Int)}{x y:Int}(hD:H D=none)(s2:xN H H2)(gD:H2 D=some (.lst xW))(hLv:yk H2 xW ps)(h1:H2 t1=none) :
  (upd H2 t1 (.tup [.int x, .int y])) D=some (.lst xW)/\xN H (upd (upd H2 t1 (.tup [.int x, .int y])) D (.lst (xW ++ [.ref t1])))/\yk (upd (upd H2 t1 (.tup [.int x, .int y])) D (.lst (xW ++ [.ref t1]))) (xW ++ [.ref t1]) (ps ++ [(x,y)]):=by
 have u1:=(xN.refl H2).new (o := .tup [.int x, .int y]) h1
 have v1:(upd H2 t1 (.tup [.int x, .int y])) t1=some (.tup [.int x, .int y]):=ac
 generalize upd H2 t1 (.tup [.int x, .int y])=H3 at u1 v1 ⊢
 have MT:=u1 _ _ gD
 have kk:yg H3 (upd H3 D (.lst (xW ++ [.ref t1]))):=eN MT
 exact⟨MT,fun b o e=>by rw[ae (ag e hD)];exact u1 _ _ (s2 _ _ e),yk.snoc (p:=(x,y)) ⟨t1,rfl,kk _ _ v1 True.intro⟩ (kk.BN (yk.same u1 hLv))⟩
theorem rT {n x y:Int}(h1:0 <= x)(h2:x < n)(h3:0 <= y)(h4:y < n)(h5:x ≠ y):fO n (x,y)=true:=by
 unfold fO
 simp only[Bool.and_eq_true,decide_eq_true_eq,Bool.not_eq_true',decide_eq_false_iff_not]
 exact⟨⟨by omega,by omega⟩,⟨by omega,by omega⟩,h5⟩
theorem ue {n x o:Int}(h1:0 <= x)(h2:x < n)(h3:0 <= o)(h4:o < n - 1):0 <= (x + 1 + o) % n/\(x + 1 + o) % n < n/\x ≠ (x + 1 + o) % n:=by
 have Ax:0 < n:=by omega
 refine⟨emod_nonneg _ (by omega),emod_lt_of_pos _ Ax,fun z=>?_⟩
 rcases Int.lt_or_le (x + 1 + o) n with h | h
 ·rw[Int.emod_eq_of_lt (by omega) h]at z;omega
 ·rw[show x + 1 + o=(x + 1 + o - n) + n by omega,add_emod_right,Int.emod_eq_of_lt (by omega) (by omega)]at z;omega
theorem sU (us:List Nat){i:Nat}(h:i <= us.length):ia (nV us) (some (i:Int)) none=nV (us.drop i):=by
 unfold ia
 rw[HT.zC,HT.Cr,c9,min_eq_left h,take_of_length_le (by rw[length_drop,c9];exact le_refl _)]
 unfold nV
 rw[List.map_drop]
noncomputable def pI (q:Nat × Nat):Int × Int:=((q.1:Int),(q.2:Int))
end K68
namespace L2
open PySem PySem.Spec PyProof.Rows
section
variable {X:Cx}{a:Expr}{ta:TE}{pos:Pos}
noncomputable def Ky (K:Frag)(ta:TE):TE:=fun σ H Q=>ta σ H fun x H1=>∃ k,xC K x H1 k/\Q (.bl (!k)) H1
theorem ur (ha:PE X a ta):PE X (.UnaryOp .Not a pos) (Ky X.K ta):=by
 intro pins s σ H Q I h
 refine UnaryOp_ (bq (ha pins s σ H _ I h) fun v s1 xU=>?_)
 obtain⟨x,H1,I1,r1,q1⟩:=xU
 obtain⟨k,t,q1⟩:=q1
 refine not_of (bq (qu pins s1 σ H1 x v (fun b H2=>b=k/\H2=H1) I1 r1 ⟨k,t,rfl,rfl⟩) fun b s2 xU=>?_)
 obtain⟨H2,I2,e1,e2⟩:=xU
 subst e1 e2
 exact⟨.bl (!b),H2,I2,rfl,q1⟩
end
end L2
namespace K68
open PySem L2
variable {P:Program}{w:World}{K:Frag}{mg:Str->Option Value}{base:Heap}
noncomputable def kj (a:YA)(s:YS):Bool:=(cC a s).isEmpty && !uX s
noncomputable def oh (K:Frag)(c:Cs)(TC:Addr)(J:TJ)(ys:Ys):Sp:=fun vs H Q _=>∃ (a:YA)(s:YS),vs=[.ref a.y]/\Cm K c TC J ys H a s/\∀ H',xN H H'->Q (.bl (kj a s)) H'
theorem Kz:ar ["yard"] ["yard"] (al mS):=L2.yq
theorem rG {c:Cs}{ys:Ys}{J:TJ}{TC f fw fm fe:Addr}{fd dw dm de:FuncData}(F:yn K "still" "still" mS f fd)(Y:jz K ys)(W:Wy K TC fw dw J)
  (mm:bK K ys.xR "moves" fm) (bm:Binds K dm ["self"] []) (Gm:xO P w K mg base aF 7 fm dm ["self"] (i7 K c TC J ys)) (me:bK K ys.xR "ended" fe) (be:Binds K de ["self"] []) (Ge:xO P w K mg base aF 1 fe de ["self"] (i9 K ys)) :
  xO P w K mg base aF 8 f fd ["yard"] (oh K c TC J ys):=by
 refine F.ok Kz (fun _ _ _ _ h=>?_) (fun _ _ _ s H _ Q E hr h=>?_)
 ·obtain⟨a,s,rfl,_⟩:=h
  rfl
 ·obtain⟨a,st,rfl,hI,q⟩:=h
  have yA:ya 1 _:=hr.mono (by decide)
  refine⟨_,ak (au (cr (ur (bC (pv 0) Y.cl mm Gm hr bm .nil ap)) (cG (kI (bC (pv 0) Y.cl me Ge yA be .nil ap))))),?_⟩
  have Aa:=hI.G.yI
  have EL:=hI.G.lies
  have hn:=hI.T.MC
  refine⟨_,rfl,a.y,a.dy,_,rfl,hI.Y.ins,rfl,a,st,rfl,hI,fun D yl H1 s1 hD gD hp=>⟨_, .inl ⟨_,xS.of gD,rfl⟩,_,rfl,?_⟩⟩
  have hl:yl.isEmpty=(cC a st).isEmpty:=by
   have:=Paired.length hp
   rw[length_map]at this
   cases yl<;>cases h:cC a st<;>first | rfl | (rw[h]at this;cases this)
  unfold kj at q
  rw[hl]
  cases hb:(cC a st).isEmpty with
  | false =>
   rw[hb]at q
   exact aJ (q H1 s1)
  | true =>
   rw[hb]at q
   have AS:=hI.same W s1
   exact aN ⟨_,rfl,a.y,a.dy,_,rfl,AS.Y.ins,rfl,a.y,a.dy,a.tb,a.ro,a.la,a.le,a.li,a.dn,st,rfl,AS.Y,by omega,by omega,fun H2 s2=>⟨_,rfl,q H2 (s1.trans s2)⟩⟩
noncomputable def cj (rm:List Nat)(l:Nat):Nat:=rm.getD l 0
noncomputable def aH (rg:List (Nat × Nat))(k:Nat):Nat × Nat:=rg.getD k (0,0)
noncomputable def uO (rg:List (Nat × Nat))(l:Nat):Option Nat:=rg.findIdx? fun p=>p.1 == l
noncomputable def su (rm:List Nat)(l k c:Nat):yr:=⟨(cj rm l:Int) - c,0,if c=0∨c=cj rm l then none else some (k:Int),(List.range c).map fun i:Nat=>((k:Int),(i:Int))⟩
noncomputable def m5 (rg:List (Nat × Nat))(rm:List Nat)(f:Nat->Nat)(l:Nat):yr:=match uO rg l with
 | none=>⟨cj rm l,0,none,[]⟩
 | some k=>su rm l k (f k)
noncomputable def gr (a:YA)(rg:List (Nat × Nat))(rm:List Nat)(k c:Nat):cu:=⟨(a.ps.getD (aH rg k).1 (0,0)).1,((aH rg k).2:Int),(cj rm (aH rg k).1:Int),0,(c:Int),if c=0 then [] else [(aH rg k).1]⟩
noncomputable def cO (a:YA)(rg:List (Nat × Nat))(rm:List Nat)(m:Nat)(f:Nat->Nat)(d:List (List V)):YS :=
 ⟨rm.map fun r:Nat=>V.int (r:Int),(List.range a.ps.length).map (m5 rg rm f),(List.range m).map fun k=>gr a rg rm k (f k),List.replicate a.n [],d⟩
structure Rg (a:YA)(rg:List (Nat × Nat))(rm:List Nat):Prop where
 nd:(rg.map (·.1)).Nodup
 ln:∀ k,k < rg.length->(aH rg k).1 < a.ps.length
 Qa:rm.length=a.ps.length
 pos:∀ l,l < a.ps.length->1 <= cj rm l/\cj rm l <= 60
 go:∀ k,k < rg.length->(aH rg k).1 ∈ a.wy (a.ps.getD (aH rg k).1 (0,0)).1.toNat (aH rg k).2 none
 on:∀ k,k < rg.length->yZ a (aH rg k).1 (aH rg k).2=[(aH rg ((k + 1) % rg.length)).1]
theorem dv {rg:List (Nat × Nat)}{k:Nat}(h:k < rg.length):rg[k]? = some (aH rg k):=by
 unfold aH
 rw[getD_eq_getElem?_getD,getElem?_eq_getElem h]
 rfl
theorem ww {rg:List (Nat × Nat)}(nd:(rg.map (·.1)).Nodup){j k:Nat}(hj:j < rg.length)(hk:k < rg.length)(e:(aH rg j).1=(aH rg k).1):j=k:=by
 have h1:(rg.map (·.1))[j]? = some (aH rg j).1:=by rw[getElem?_map,dv hj];rfl
 have h2:(rg.map (·.1))[k]? = some (aH rg k).1:=by rw[getElem?_map,dv hk];rfl
 rw[← e,← h1]at h2
 exact((List.getElem?_inj (by rw[length_map];exact hj) nd).mp h2.symm)
theorem kS {rg:List (Nat × Nat)}(nd:(rg.map (·.1)).Nodup){k:Nat}(hk:k < rg.length):uO rg (aH rg k).1=some k:=by
 unfold uO
 cases h:rg.findIdx? fun p=>p.1 == (aH rg k).1 with
 | none =>
  have:=List.findIdx?_eq_none_iff.mp h _ (mem_of_getElem? (dv hk))
  simp at this
 | some j =>
  obtain⟨hj,h1,_⟩:=List.findIdx?_eq_some_iff_getElem.mp h
  have h1:(rg[j].1 == (aH rg k).1)=true:=h1
  have e:rg[j]=aH rg j:=by
   have:=dv hj
   rw[getElem?_eq_getElem hj]at this
   exact Option.some.inj this
  rw[e]at h1
  rw[ww nd hj hk (by simpa using h1)]
theorem lI {rg:List (Nat × Nat)}{l k:Nat}(h:uO rg l=some k):k < rg.length/\(aH rg k).1=l:=by
 obtain⟨hk,h1,_⟩:=List.findIdx?_eq_some_iff_getElem.mp h
 have e:rg[k]=aH rg k:=by
  have:=dv hk
  rw[getElem?_eq_getElem hk]at this
  exact Option.some.inj this
 rw[e]at h1
 exact⟨hk,by simpa using h1⟩
theorem bS {α:Type}(g:Nat->α){n k:Nat}(h:k < n):((List.range n).map g)[k]? = some (g k):=by
 rw[getElem?_map,List.getElem?_range h];rfl
theorem kC {α:Type}{g g':Nat->α}{n k:Nat}(h:∀ j,j < n->j ≠ k->g j=g' j):((List.range n).map g).set k (g' k)=(List.range n).map g':=by
 refine ext_getElem? fun j=>?_
 by_cases hj:j < n
 ·rw[bS g' hj]
  by_cases e:k=j
  ·subst e
   exact fV (bS g hj)
  ·rw[getElem?_set_ne e,bS g hj,h j hj (Ne.symm e)]
 ·rw[List.getElem?_eq_none (by rw[length_set,length_map,length_range];omega),List.getElem?_eq_none (by rw[length_map,length_range];omega)]
noncomputable def lg (f:Nat->Nat)(k:Nat):Nat->Nat:=fun j=>if j=k then f k + 1 else f j
theorem uh {a:YA}{rg:List (Nat × Nat)}{rm:List Nat}(R:Rg a rg rm){f:Nat->Nat}{d:List (List V)}{k:Nat}(hk:k < rg.length)(hf:f k < cj rm (aH rg k).1) :
  Mv.y6 k (aH rg k).1 ∈ cC a (cO a rg rm rg.length f d):=by
 have ht:(cO a rg rm rg.length f d).xM[k]? = some (gr a rg rm k (f k)):=bS _ hk
 have hl:(cO a rg rm rg.length f d).lanes[(aH rg k).1]? = some (su rm (aH rg k).1 k (f k)):=by
  have:=bS (m5 rg rm f) (R.ln k hk)
  unfold m5 at this
  rw[kS R.nd hk]at this
  exact this
 refine mem_append_left _ (mem_append_left _ (mem_append_left _ (mem_flatMap.mpr ⟨k,mem_range.mpr (by show k < ((List.range rg.length).map _).length;rw[length_map,length_range];exact hk),?_⟩)))
 unfold fA
 rw[ht]
 show Mv.y6 k (aH rg k).1 ∈ if (f k:Int)=(cj rm (aH rg k).1:Int) then [] else _
 rw[if_neg (by omega)]
 refine mem_map.mpr ⟨_,mem_filter.mpr ⟨?_,?_⟩,rfl⟩
 ·unfold cM
  show(aH rg k).1 ∈ if (f k:Int)=0 then _ else List.take 1 (if f k=0 then [] else [(aH rg k).1])
  by_cases h0:f k=0
  ·rw[if_pos (by omega)]
   have:=R.go k hk
   show(aH rg k).1 ∈ a.wy (a.ps.getD (aH rg k).1 (0,0)).1.toNat ((aH rg k).2:Int).toNat none
   rw[toNat_natCast];exact this
  ·rw[if_neg (by omega),if_neg h0];exact mem_cons_self
 ·show dD _ _ _ _=true
  unfold dD
  rw[hl]
  show bX ((cj rm (aH rg k).1:Int) - (f k:Int)) (if f k=0∨f k=cj rm (aH rg k).1 then none else some (k:Int)) k (f k:Int)=true
  unfold bX
  rw[if_neg (by omega)]
  by_cases h0:f k=0
  ·rw[if_pos (by omega),if_pos (.inl h0)];rfl
  ·rw[if_neg (by omega),if_neg (by omega)];exact decide_eq_true rfl
theorem uf {a:YA}{rg:List (Nat × Nat)}{rm:List Nat}(R:Rg a rg rm){f:Nat->Nat}{d:List (List V)}{k:Nat}(hk:k < rg.length)(hf:f k < cj rm (aH rg k).1){s':YS}
  (h:Bz a (cO a rg rm rg.length f d) (.y6 k (aH rg k).1) s'):s' = cO a rg rm rg.length (lg f k) d:=by
 have De:(cO a rg rm rg.length f d).xM[k]? = some (gr a rg rm k (f k)):=bS _ hk
 have Hq:(cO a rg rm rg.length f d).lanes[(aH rg k).1]? = some (su rm (aH rg k).1 k (f k)):=by
  have:=bS (m5 rg rm f) (R.ln k hk)
  unfold m5 at this
  rw[kS R.nd hk]at this
  exact this
 cases h with
 | y6 ht hg hl y3 ho =>
  rw[De]at ht
  rw[Hq]at y3
  cases ht
  cases y3
  have e1:((cO a rg rm rg.length f d).lanes.set (aH rg k).1 (eO (su rm (aH rg k).1 k (f k)) k (f k:Int) (cj rm (aH rg k).1:Int)))=(cO a rg rm rg.length (lg f k) d).lanes:=by
   have e:eO (su rm (aH rg k).1 k (f k)) k (f k:Int) (cj rm (aH rg k).1:Int)=m5 rg rm (lg f k) (aH rg k).1:=by
    unfold m5
    rw[kS R.nd hk]
    show _=su rm (aH rg k).1 k (lg f k k)
    have e0:lg f k k=f k + 1:=if_pos rfl
    rw[e0]
    unfold eO su
    have h1:((cj rm (aH rg k).1:Int) - (f k:Int)) - 1=(cj rm (aH rg k).1:Int) - ((f k + 1:Nat):Int):=by omega
    have h2:((List.range (f k)).map fun i:Nat=>((k:Int),(i:Int))) ++ [((k:Int),(f k:Int))]=(List.range (f k + 1)).map fun i:Nat=>((k:Int),(i:Int)):=by
     rw[range_succ,map_append];rfl
    have h3:(if decide ((f k:Int)=(cj rm (aH rg k).1:Int) - 1)=true then none else some (k:Int))=if f k + 1=0∨f k + 1=cj rm (aH rg k).1 then none else some (k:Int):=by
     by_cases hh:f k + 1=cj rm (aH rg k).1
     ·rw[if_pos (decide_eq_true (by omega)),if_pos (.inr hh)]
     ·rw[if_neg (by rw[decide_eq_true_eq];omega),if_neg (by omega)]
    dsimp only
    rw[h1,h2,h3]
   rw[e]
   refine kC fun j hj Ac=>?_
   unfold m5
   cases Hu:uO rg j with
   | none=>rfl
   | some k2 =>
    have:=lI Hu
    have Qb:k2 ≠ k:=fun z=>Ac (by rw[← this.2,z])
    show su rm j k2 (f k2)=su rm j k2 (lg f k k2)
    unfold lg
    rw[if_neg Qb]
  have e2:(if (f k:Int)=0 then ((cO a rg rm rg.length f d).xM.set k { gr a rg rm k (f k) with gone:=(f k:Int) + 1 }).set k { gr a rg rm k (f k) with gone:=(f k:Int) + 1,way:=(gr a rg rm k (f k)).way ++ [(aH rg k).1] } else (cO a rg rm rg.length f d).xM.set k { gr a rg rm k (f k) with gone:=(f k:Int) + 1 })=(cO a rg rm rg.length (lg f k) d).xM:=by
   have e0:lg f k k=f k + 1:=if_pos rfl
   have K0:∀ j,j < rg.length->j ≠ k->gr a rg rm j (f j)=gr a rg rm j (lg f k j):=fun j _ Ac=>by unfold lg;rw[if_neg Ac]
   have hc:((f k:Int) + 1)=((f k + 1:Nat):Int):=by omega
   by_cases h0:f k=0
   ·rw[if_pos (by omega),List.set_set]
    have e:({ gr a rg rm k (f k) with gone:=(f k:Int) + 1,way:=(gr a rg rm k (f k)).way ++ [(aH rg k).1] }:cu)=gr a rg rm k (lg f k k):=by
     rw[e0]
     unfold gr
     dsimp only
     rw[if_pos h0,if_neg (by omega),hc]
     rfl
    rw[e]
    exact kC (g':=fun j=>gr a rg rm j (lg f k j)) K0
   ·rw[if_neg (by omega)]
    have e:({ gr a rg rm k (f k) with gone:=(f k:Int) + 1 }:cu)=gr a rg rm k (lg f k k):=by
     rw[e0]
     unfold gr
     dsimp only
     rw[if_neg h0,if_neg (by omega),hc]
    rw[e]
    exact kC (g':=fun j=>gr a rg rm j (lg f k j)) K0
  show YS.mk _ _ _ _ _=YS.mk _ _ _ _ _
  have Fw:=e1
  have Fx:=e2
  unfold cO at Fw Fx ⊢
  exact congr (congr (congr (congr (congrArg YS.mk rfl) Fw) Fx) rfl) rfl
theorem wx {a:YA}{rg:List (Nat × Nat)}{rm:List Nat}(R:Rg a rg rm){f:Nat->Nat}{d:List (List V)}(hf:∀ k,k < rg.length->f k=cj rm (aH rg k).1):cC a (cO a rg rm rg.length f d)=[]:=by
 have y3:∀ l,l < a.ps.length->(cO a rg rm rg.length f d).lanes[l]? = some (m5 rg rm f l):=fun l hl=>bS _ hl
 have TK:∀ l,l < a.ps.length->(uO rg l=none/\bI (cO a rg rm rg.length f d) l=none)∨∃ k,k < rg.length/\(aH rg k).1=l/\bI (cO a rg rm rg.length f d) l=some ((k:Int),0):=fun l hl=>by
  unfold bI
  rw[y3 l hl]
  unfold m5
  cases hk:uO rg l with
  | none=>exact .inl ⟨rfl,rfl⟩
  | some k =>
   obtain⟨h1,h2⟩:=lI hk
   refine .inr ⟨k,h1,h2,?_⟩
   have:=(R.pos l hl).1
   have e:f k=cj rm l:=by rw[hf k h1,h2]
   show((List.range (f k)).map fun i:Nat=>((k:Int),(i:Int))).head? = _
   obtain⟨c,hc⟩:∃ c,f k=c + 1:=⟨f k - 1,by omega⟩
   rw[hc,List.range_succ_eq_map]
   rfl
 have Fi:∀ k,k < rg.length->∀ m c:Int,dD (cO a rg rm rg.length f d) (aH rg k).1 m c=false:=fun k hk m c=>by
  unfold dD
  rw[y3 _ (R.ln k hk)]
  unfold m5
  rw[kS R.nd hk]
  show bX ((cj rm (aH rg k).1:Int) - (f k:Int)) _ m c=false
  unfold bX
  rw[if_pos (by rw[hf k hk];omega)]
 have Cg:(cO a rg rm rg.length f d).lanes.length=a.ps.length:=by show((List.range _).map _).length=_;rw[length_map,length_range]
 have BY:∀ k,k < rg.length->(cO a rg rm rg.length f d).xM[k]? = some (gr a rg rm k (f k)):=fun k hk=>bS _ hk
 unfold cC
 rw[Cg]
 have h1:(List.range (cO a rg rm rg.length f d).xM.length).flatMap (fA a (cO a rg rm rg.length f d))=[]:=by
  rw[flatMap_eq_nil_iff]
  intro k hk
  have hk:k < rg.length:=by
   have:=mem_range.mp hk
   have e:(cO a rg rm rg.length f d).xM.length=rg.length:=by show((List.range _).map _).length=_;rw[length_map,length_range]
   omega
  unfold fA
  rw[BY k hk]
  show(if (f k:Int)=(cj rm (aH rg k).1:Int) then [] else _)=[]
  rw[if_pos (by rw[hf k hk])]
 have h2:(List.range a.ps.length).flatMap (gq a (cO a rg rm rg.length f d))=[]:=by
  rw[flatMap_eq_nil_iff]
  intro l hl
  have hl:=mem_range.mp hl
  unfold gq
  rcases TK l hl with ⟨_,e⟩ | ⟨k,hk,e1,e⟩
  ·rw[e]
  ·rw[e]
   show(((cN a _ l).filter _).map _)=[]
   rw[List.map_eq_nil_iff,List.filter_eq_nil_iff]
   intro z hz
   unfold cN at hz
   rw[e]at hz
   have hz:z ∈ (match (cO a rg rm rg.length f d).xM[((k:Int)).toNat]? with
    | none=>[]
    | some t=>if (0:Int)=0 then (yZ a l t.goal.toNat).filter fun l=>!decide (l ∈ t.way) else (t.way.drop (t.way.idxOf l + 1)).take 1):=hz
   rw[toNat_natCast,BY k hk]at hz
   have hz:z ∈ (yZ a l ((aH rg k).2:Int).toNat).filter fun x=>!decide (x ∈ (gr a rg rm k (f k)).way):=hz
   have hz:=(mem_filter.mp hz).1
   rw[toNat_natCast,← e1,R.on k hk]at hz
   rw[mem_singleton.mp hz,Fi _ (mod_lt _ (by omega))]
   decide
 have h3:(List.range a.ps.length).flatMap (dL a (cO a rg rm rg.length f d))=[]:=by
  rw[flatMap_eq_nil_iff]
  intro l hl
  have hl:=mem_range.mp hl
  unfold dL
  rcases TK l hl with ⟨_,e⟩ | ⟨k,hk,e1,e⟩
  ·rw[e]
  ·rw[e]
   show(match (cO a rg rm rg.length f d).xM[((k:Int)).toNat]? with
    | none=>[]
    | some t=>if t.goal=(a.ps.getD l (0,0)).2 then [Mv.AR l] else [])=[]
   rw[toNat_natCast,BY k hk]
   show(if ((aH rg k).2:Int)=(a.ps.getD l (0,0)).2 then [Mv.AR l] else [])=[]
   rw[if_neg]
   intro z
   have:=R.on k hk
   unfold yZ at this
   rw[e1,if_pos z.symm]at this
   cases this
 have h4:(List.range a.ps.length).flatMap (cK (cO a rg rm rg.length f d))=[]:=by
  rw[flatMap_eq_nil_iff]
  intro l hl
  unfold cK
  rw[y3 l (mem_range.mp hl)]
  have:(m5 rg rm f l).b=0:=by unfold m5;cases uO rg l<;>rfl
  show(if 0 < (m5 rg rm f l).b then _ else _)=_
  rw[this]
  rfl
 rw[h1,h2,h3,h4]
 rfl
theorem ug {a:YA}{rg:List (Nat × Nat)}{rm:List Nat}(R:Rg a rg rm)(f:Nat->Nat)(d:List (List V))(h0:0 < rg.length):uX (cO a rg rm rg.length f d)=false:=by
 unfold uX
 refine decide_eq_false fun z=>?_
 have h1:(((cO a rg rm rg.length f d).lies.map fun q=>(q.length:Int))).sum=0:=by
  show((List.replicate a.n []).map _).sum=0
  rw[List.map_replicate]
  have:∀ n:Nat,(List.replicate n (((([]:List (Int × Int))).length:Nat):Int)).sum=0:=fun n=>by
   induction n with
   | zero=>rfl
   | succ n ih=>rw[List.replicate_succ,sum_cons,ih];rfl
  exact this a.n
 rw[h1]at z
 have h2:∀ m,m <= rg.length->(m:Int) <= ((List.range m).map fun k=>(gr a rg rm k (f k)).len).sum:=fun m=>by
  induction m with
  | zero=>intro _;exact Int.le_refl _
  | succ m ih =>
   intro hm
   rw[range_succ,map_append,List.sum_append]
   have h3:=ih (by omega)
   have h4:=(R.pos _ (R.ln m (by omega))).1
   have h5:([m].map fun k=>(gr a rg rm k (f k)).len).sum=(cj rm (aH rg m).1:Int):=by
    show(cj rm (aH rg m).1:Int) + 0=_
    omega
   rw[h5]
   omega
 have h3:=h2 rg.length (le_refl _)
 have z:(((List.range rg.length).map fun k=>gr a rg rm k (f k)).map (·.len)).sum=0:=z
 rw[map_map]at z
 have z:((List.range rg.length).map fun k=>(gr a rg rm k (f k)).len).sum=0:=z
 omega
noncomputable def bN (rg:List (Nat × Nat))(rm:List Nat)(m:Nat):List Mv:=(List.range m).flatMap fun k=>List.replicate (cj rm (aH rg k).1) (.y6 k (aH rg k).1)
noncomputable def isK (k:Nat):Mv->Bool
 | .y6 j _=>j == k
 | _=>false
noncomputable def cy (ms:List Mv)(k:Nat):Nat:=ms.countP (isK k)
theorem hW (rg:List (Nat × Nat))(rm:List Nat)(m:Nat):bN rg rm (m + 1)=bN rg rm m ++ List.replicate (cj rm (aH rg m).1) (.y6 m (aH rg m).1):=cT _ m
theorem py (c j l k:Nat):cy (List.replicate c (.y6 j l)) k=if j=k then c else 0:=by
 unfold cy
 rw[List.countP_replicate]
 show(if (j == k)=true then c else 0)=_
 by_cases e:j=k
 ·rw[if_pos e,if_pos (by rw[beq_iff_eq];exact e)]
 ·rw[if_neg e,if_neg (by rw[beq_iff_eq];exact e)]
theorem lb (rg:List (Nat × Nat))(rm:List Nat):∀ m k,cy (bN rg rm m) k=if k < m then cj rm (aH rg k).1 else 0
 | 0,k=>by rw[if_neg (not_lt_zero _)];rfl
 | m + 1,k=>by
  rw[hW]
  have:cy (bN rg rm m ++ List.replicate (cj rm (aH rg m).1) (.y6 m (aH rg m).1)) k=cy (bN rg rm m) k + cy (List.replicate (cj rm (aH rg m).1) (.y6 m (aH rg m).1)) k:=List.countP_append
  rw[this,lb rg rm m k,py]
  by_cases h1:k < m
  ·rw[if_pos h1,if_neg (by omega),if_pos (by omega)];rfl
  ·by_cases h2:m=k
   ·rw[if_neg h1,if_pos h2,if_pos (by omega),h2,Nat.zero_add]
   ·rw[if_neg h1,if_neg h2,if_neg (by omega)]
theorem sm {rg:List (Nat × Nat)}{rm:List Nat}{m:Nat}{v:Mv}(h:v ∈ bN rg rm m):∃ k,k < m/\v = .y6 k (aH rg k).1:=by
 obtain⟨k,hk,h⟩:=mem_flatMap.mp h
 exact⟨k,mem_range.mp hk,(List.mem_replicate.mp h).2⟩
theorem sX {rg:List (Nat × Nat)}{rm:List Nat}{m t:Nat}{v:Mv}(h:(bN rg rm m)[t]? = some v):∃ k,k < m/\v = .y6 k (aH rg k).1/\cy ((bN rg rm m).take t) k < cj rm (aH rg k).1/\cy ((bN rg rm m).take (t + 1))=lg (cy ((bN rg rm m).take t)) k:=by
 obtain⟨k,hk,rfl⟩:=sm (mem_of_getElem? h)
 have hs:∀ j,cy ((bN rg rm m).take (t + 1)) j=cy ((bN rg rm m).take t) j + if k=j then 1 else 0:=fun j=>by
  rw[take_succ,h]
  have:cy ((bN rg rm m).take t ++ [Mv.y6 k (aH rg k).1]) j=cy ((bN rg rm m).take t) j + cy (List.replicate 1 (Mv.y6 k (aH rg k).1)) j:=List.countP_append
  rw[py]at this
  exact this
 refine⟨k,hk,rfl,?_,funext fun j=>?_⟩
 ·have h1:=hs k
  rw[if_pos rfl]at h1
  have h2:cy ((bN rg rm m).take (t + 1)) k <= cy (bN rg rm m) k:=(List.take_sublist _ _).countP_le
  rw[lb,if_pos hk]at h2
  omega
 ·rw[hs j]
  unfold lg
  by_cases e:j=k
  ·rw[if_pos e,if_pos e.symm,e]
  ·rw[if_neg e,if_neg (Ne.symm e)];rfl
theorem jk {rg:List (Nat × Nat)}{rm:List Nat}:∀ {m:Nat},(∀ k,k < m->cj rm (aH rg k).1 <= 60)->(bN rg rm m).length <= 60 * m
 | 0,_=>le_refl _
 | m + 1,h=>by
  rw[hW,length_append,length_replicate]
  have:=jk (m:=m) fun k hk=>h k (by omega)
  have:=h m (by omega)
  omega
end K68
namespace L2
open PySem PySem.Spec PyProof.Rows
theorem sJ {K:Frag}{a b:Addr}{xs ys:List V}{g:TG}{tb:TS}{D:j1}{σ:St}{H:Hp}(hxy:ys.length=xs.length)(Pv:Nat->St->Hp->Prop)(h0:Pv 0 σ H)(hl:∀ i σ H,i <= xs.length->Pv i σ H->H a=some (.tup xs)/\xS K H b ys)
  (hs:∀ i x y p σ H,xs[i]? = some x->ys[i]? = some y->Pv i σ H->H p=none->g (.ref p) σ (upd H p (.tup [x,y])) fun σ2 H2=>tb { D with nx:=Pv (i + 1),ct:=Pv (i + 1),bk:=D.nx } σ2 H2) (hd:∀ σ H,Pv xs.length σ H->D.nx σ H) :
  ∃ W:Nat->Nat->St->Hp->Prop,(∃ m,W 0 m σ H)/\∀ i m σ H,W i m σ H ->
   ((tI K a b).stop i H/\D.nx σ H)∨((tI K a b).go i H/\∃ N:St->Hp->Prop,(∀ σ' H',N σ' H'->∃ m',m' < m/\W (i + 1) m' σ' H')/\∀ x H',(tI K a b).CS i H x H'->g x σ H' fun σ2 H2=>tb { D with nx:=N,ct:=N,bk:=D.nx } σ2 H2):=by
 refine⟨fun i m σ H=>m=xs.length - i/\i <= xs.length/\Pv i σ H,⟨xs.length,by simp,zero_le _,h0⟩,?_⟩
 rintro i m σ H ⟨rfl,hi,p⟩
 obtain⟨q1,q2⟩:=hl i σ H hi p
 by_cases yu:i < xs.length
 ·have DG:i < ys.length:=by omega
  refine .inr ⟨⟨xs,ys,xs[i],ys[i],q1,q2,by simp[yu],by simp[DG]⟩,Pv (i + 1),fun σ' H' p'=>⟨xs.length - (i + 1),by omega,rfl,yu,p'⟩,fun x H' y=>?_⟩
  obtain⟨t,ht,rfl,y⟩:=y
  obtain⟨x,y',ex,ey,rfl⟩:=y _ _ q1 q2
  exact hs i x y' t σ _ ex ey p ht
 ·have e:i=xs.length:=by omega
  subst e
  exact .inl ⟨⟨xs,ys,q1,q2, .inl (List.getElem?_eq_none (le_refl _))⟩,hd σ H p⟩
end L2
namespace K68
open PySem L2
variable {P:Program}{w:World}{K:Frag}{mg:Str->Option Value}{base:Heap}
structure xF (K:Frag)(c:Cs)(f:Addr)(d:FuncData):Prop where
 m:bK K c.land "start_of" f
 b:Binds K d ["self", "lane"] []
noncomputable def bu (a:YA)(l:Nat):Nat:=(a.ps.getD l (0,0)).1.toNat
noncomputable def vD (a:YA)(rg:List (Nat × Nat))(k:Nat):Bool:=decide ((aH rg k).1 ∈ a.wy (bu a (aH rg k).1) (aH rg k).2 none) && decide (yZ a (aH rg k).1 (aH rg k).2=[(aH rg ((k + 1) % rg.length)).1])
noncomputable def i5 (a:YA)(rg:List (Nat × Nat)):Bool:=(List.range rg.length).all (vD a rg)
structure Hv (H:Hp)(a:YA)(ra:Addr)(xZ:List V)(rg:List (Nat × Nat)):Prop where
 t:H ra=some (.tup xZ)
 l:yk H xZ (rg.map pI)
 yI:rg.length <= 40
 ok:∀ k,k < rg.length->(aH rg k).1 < a.ps.length/\(aH rg k).2 < a.n
theorem Hv.get {H:Hp}{a:YA}{ra:Addr}{xZ:List V}{rg:List (Nat × Nat)}(h:Hv H a ra xZ rg){k:Nat}{v:V}(hk:xZ[k]? = some v):k < rg.length/\∃ u,v = .ref u/\H u=some (.tup [.int (aH rg k).1, .int (aH rg k).2]):=by
 have hl:xZ.length=rg.length:=by rw[Paired.length h.l,length_map]
 have Jm:k < rg.length:=by have:=(gQ0 hk);omega
 obtain⟨v',hv,u,rfl,gu⟩:=yk.Bc h.l (p:=pI (aH rg k)) (by rw[getElem?_map,dv Jm];rfl)
 rw[hk]at hv
 cases hv
 exact⟨Jm,u,rfl,gu⟩
noncomputable def Qc (a:YA):Prop:=∀ (l:Nat)(pr:Int × Int),a.ps[l]? = some pr->∃ e:Nat,pr.1=(e:Int)/\e < a.n
theorem ku {a:YA}(h:Qc a){l:Nat}(hl:l < a.ps.length):∃ pr,a.ps[l]? = some pr/\pr.1=(bu a l:Int)/\bu a l < a.n:=by
 have e:=getElem?_eq_getElem hl
 obtain⟨x,hx,hxn⟩:=h l _ e
 refine⟨_,e,?_⟩
 unfold bu
 rw[getD_eq_getElem?_getD,e]
 show _=(((a.ps[l]).1.toNat:Nat):Int)/\(a.ps[l]).1.toNat < _
 rw[hx,toNat_natCast]
 exact⟨rfl,hxn⟩
noncomputable def vB (c:Cs)(TC:Addr)(J:TJ):Sp:=fun vs H Q _=>∃ (a:YA)(ra:Addr)(xZ:List V)(rg:List (Nat × Nat)),vs=[.ref a.tb, .ref ra]/\qk c TC J H a/\vh a/\Qc a/\Hv H a ra xZ rg/\1 <= rg.length/\∀ H',xN H H'->Q (.bl (i5 a rg)) H'
abbrev TL:List Str:=["table", "ring", "lanes", "following", "pair", "after", "start"]
theorem uU {rg:List (Nat × Nat)}{i:Nat}(hi:i < rg.length):((rg.map (·.1)).drop 1 ++ (rg.map (·.1)).take 1)[i]? = some (aH rg ((i + 1) % rg.length)).1:=by
 have hm:∀ k,k < rg.length->(rg.map (·.1))[k]? = some (aH rg k).1:=fun k hk=>by rw[getElem?_map,dv hk];rfl
 have hl:((rg.map (·.1)).drop 1).length=rg.length - 1:=by rw[length_drop,length_map]
 by_cases h:i + 1 < rg.length
 ·rw[getElem?_append_left (by omega),List.getElem?_drop,mod_eq_of_lt h,Nat.add_comm 1 i]
  exact hm _ h
 ·have e:i + 1=rg.length:=by omega
  rw[getElem?_append_right (by omega),hl,e,mod_self,show i - (rg.length - 1)=0 by omega,List.getElem?_take_of_lt (by omega)]
  exact hm 0 (by omega)
theorem qb {K:Frag}{a:Addr}{xs:List V}{g:TG}{te:TE}{σ0:St}{H:Hp}{Q:VK}(f:Nat->V)(hn:xs.length < sizeLine)(ha:xV K H a xs)
  (hs:∀ (i:Nat)(x:V)(N:V->Hp->Prop),xs[i]? = some x->N (f i) H->g x σ0 H fun σ2 H2=>te σ2 H2 N)
  (hq:∀ D,H D=none->Q (.ref D) (upd H D (.lst ((List.range xs.length).map f)))):cQ (HZ K a) g j4 te σ0 Q H:=by
 refine b8 xs.length hn (fun i acc H'=>H' = H/\acc=(List.range i).map f) ⟨rfl,rfl⟩ (fun i acc H' h=>by rw[h.2,length_map,length_range];exact le_refl _) (fun i acc H' hi h=>?_) (fun acc H' h=>?_)
 ·obtain⟨rfl,rfl⟩:=h
  refine⟨⟨xs,xs[i],ha,by simp[hi]⟩,fun v H2 y=>?_⟩
  obtain⟨e,y⟩:=y
  subst e
  exact hs i v (fun y H4=>H4=H2/\(List.range i).map f ++ [y]=(List.range (i + 1)).map f) (y xs ha) ⟨rfl,by rw[range_succ,map_append];rfl⟩
 ·obtain⟨rfl,rfl⟩:=h
  exact⟨⟨xs,ha,le_refl _⟩,hq⟩
theorem K1:ar ["self", "lane"] ["self", "lane"] (al mT):=L2.yq
theorem rH {c:Cs}{f:Addr}{fd:FuncData}(F:yn K "start_of" "Land.start_of" mT f fd)(L:m6 K c):xO P w K mg base aF 1 f fd ["self", "lane"] (mQ c Prod.fst):=by
 refine F.ok K1 (fun _ _ _ _ h=>?_) (fun _ _ _ s H _ Q E hr h=>?_)
 ·obtain⟨x,dx,t,n,ye,ps,k,pr,rfl,_⟩:=h
  rfl
 ·obtain⟨x,dx,t,n,ye,ps,k,pr,rfl,⟨hx,ht,hl⟩,hk,q⟩:=h
  refine⟨_,ak (au (ao av (ao av (am (pv 0) rfl) (pv 1) (fun _ _=>rfl)) ai (fun _ _=>rfl))),?_⟩
  obtain⟨v,hv,u,rfl,hu⟩:=yk.Bc hl hk
  refine⟨_,rfl,x,c.land,dx,_,_,rfl,hx,L.cl,L.nl,rfl,_,rfl,t,_,_,_,rfl,rfl,xV.of ht,aj hv,u,_,0,_,rfl,rfl,xV.of hu,aj (j:=0) rfl,q⟩
theorem BZ:ar TL ["table", "ring"] (al rf):=L2.yq
theorem Qd:yK TL (al rf) (mz ((aG rf).getD 0 (.Pass ⟨0,0,0,0⟩))) [] []:=L2.zA
theorem K2:(["lane", "goal"]:List Str).Nodup:=by decide +kernel
theorem xa {c:Cs}{J:TJ}{TC f fw fs fo:Addr}{fd dw ds Ad:FuncData}(F:yn K "can_stand" "can_stand" rf f fd)(T:fR mg)(L:m6 K c)(W:Wy K TC fw dw J)(Gw:xO P w K mg base aF 3 fw dw ["self", "place", "goal", "came"] (fU J))
  (M:xF K c fs ds) (Gs:xO P w K mg base aF 1 fs ds ["self", "lane"] (mQ c Prod.fst)) (mo:mg "onward" = some (.ref fo)) (ko:keepIn K (.ref fo)=true) (bo:Binds K Ad ["table", "lane", "goal"] []) (Go:xO P w K mg base aF 4 fo Ad ["table", "lane", "goal"] (qG c TC J)) :
  xO P w K mg base aF 5 f fd ["table", "ring"] (vB c TC J):=by
 refine F.ok BZ (fun _ _ _ _ h=>?_) (fun _ _ _ s H _ Q E hr h=>?_)
 ·obtain⟨a,ra,xZ,rg,rfl,_⟩:=h
  rfl
 ·obtain⟨a,ra,xZ,rg,rfl,hT,hO,hS,hR,D6,q⟩:=h
  have hu:=hr.units
  have yA:ya 1 _:=hr.mono (by decide)
  have hr3:ya 3 _:=hr.mono (by decide)
  refine⟨_,af (c7 (i:=2) (own:=["lane", "goal"]) (capN:=[]) (cap:=[]) Qd rfl BZ.nd rfl rfl (jb (pv 1))
    (fun C s' H' fp=>⟨(show PG _ _ (sI K 2 _) from cX rfl (aQ (aq (i:=0) K2 rfl (Or.inl rfl)) (aQ (aq (i:=1) K2 rfl (Or.inl rfl)) ck))),bT,pv 0⟩))
   (af (aD (i:=3) BZ.nd rfl (Or.inl rfl) (ax jf (gm iA (pv 2) (gj ai) kF) (gm iA (pv 2) kF (gj ai))))
   (af (bB PassesOwn.never rfl (uq rfl T.zip (aa (pv 1) (aa (pv 3) ad))) (cX rfl (aQ (aq (i:=4) BZ.nd rfl (Or.inl rfl)) (aQ (aq (i:=5) BZ.nd rfl (Or.inl rfl)) ck)))
    (af (aD (i:=6) BZ.nd rfl (Or.inl rfl) (aI (am (pv 0) rfl) L.cl M.m Gs yA M.b .nil ap (aa (ao av (pv 4) ai (fun _ _=>rfl)) ad)))
    (ak (aR (PW.pt (fD (aw (show dH _ (compareOp .NotIn) (Mr K true) from gn) (ao av (pv 4) ai (fun _ _=>rfl)) (aI (pv 0) W.cl W.m Gw hr3 W.b .nil ap (aa (pv 6) (aa (ao av (pv 4) ai (fun _ _=>rfl)) (aa bH ad)))) (by with_unfolding_all rfl))
      (dW (aw (rA hu) (az Go hr rfl mo ko bo .nil ap (aa (pv 0) (aa (ao av (pv 4) ai (fun _ _=>rfl)) (aa (ao av (pv 4) ai (fun _ _=>rfl)) ad)))) (aP (aa (pv 5) ad)) (ay _)))))
     (ak (au eK)) aE))))
   (ak (au eK)))),?_⟩
  have zm:xZ.length=rg.length:=by rw[Paired.length hR.l,length_map]
  have Aa:=hR.yI
  refine⟨_,rfl,ra,rfl,⟨_,xV.of hR.t⟩,?_⟩
  refine qb (K:=K) (a:=ra) (xs:=xZ) (fun i=>V.int ((aH rg i).1:Int)) (by rw[sizeLine_eq];omega) (xV.of hR.t) (fun i x N hx h=>?_) (fun D hD=>?_)
  ·obtain⟨_,u,rfl,gu⟩:=hR.get hx
   exact⟨u,_,rfl,xV.of gu,rfl,_,_,rfl,_,_,rfl,rfl,_,rfl,h⟩
  have eL:((List.range xZ.length).map fun i=>V.int ((aH rg i).1:Int))=nV (rg.map (·.1)):=by
   rw[zm]
   refine ext_getElem? fun j=>?_
   by_cases hj:j < rg.length
   ·rw[bS _ hj]
    exact(jj (by rw[getElem?_map,dv hj];rfl)).symm
   ·rw[List.getElem?_eq_none (by rw[length_map,length_range];omega),List.getElem?_eq_none (by rw[c9,length_map];omega)]
  rw[eL]
  have s2:=(xN.refl H).new (o := .lst (nV (rg.map (·.1)))) hD
  have g2:(upd H D (.lst (nV (rg.map (·.1))))) D=some (.lst (nV (rg.map (·.1)))):=ac
  show bE 2 (V.ref D) _ (upd H D (.lst (nV (rg.map (·.1))))) _
  generalize upd H D (.lst (nV (rg.map (·.1))))=H2 at s2 g2 ⊢
  have EH:(rg.map (·.1)).length=rg.length:=length_map ..
  refine⟨_,rfl,1,rfl,D,_,rfl,xS.of g2,fun c1 TM=>?_⟩
  rw[show ia (nV (rg.map (·.1))) (some 1) none=nV ((rg.map (·.1)).drop 1) from sU _ (i:=1) (by omega)]
  have s3:=s2.new (o := .lst (nV ((rg.map (·.1)).drop 1))) TM
  have g3:(upd H2 c1 (.lst (nV ((rg.map (·.1)).drop 1)))) D=some (.lst (nV (rg.map (·.1)))):=by rw[ae (ag g2 TM)];exact g2
  have Kl:(upd H2 c1 (.lst (nV ((rg.map (·.1)).drop 1)))) c1=some (.lst (nV ((rg.map (·.1)).drop 1))):=ac
  generalize upd H2 c1 (.lst (nV ((rg.map (·.1)).drop 1)))=H3 at s3 g3 Kl ⊢
  refine⟨_,rfl,1,rfl,D,_,rfl,xS.of g3,fun c2 Ag=>?_⟩
  rw[show ia (nV (rg.map (·.1))) none (some 1)=nV ((rg.map (·.1)).take 1) from sT _ 1]
  have s4:=s3.new (o := .lst (nV ((rg.map (·.1)).take 1))) Ag
  have TN:(upd H3 c2 (.lst (nV ((rg.map (·.1)).take 1)))) c1=some (.lst (nV ((rg.map (·.1)).drop 1))):=by rw[ae (ag Kl Ag)];exact Kl
  have TQ:(upd H3 c2 (.lst (nV ((rg.map (·.1)).take 1)))) c2=some (.lst (nV ((rg.map (·.1)).take 1))):=ac
  generalize upd H3 c2 (.lst (nV ((rg.map (·.1)).take 1)))=H4 at s4 TN TQ ⊢
  refine⟨c1,c2,_,_,rfl,rfl,TN,TQ,by rw[c9,c9,length_drop,length_take,sizeLine_eq];omega,fun Fo hFo=>?_⟩
  rw[← kL]
  have s5:=s4.new (o := .lst (nV ((rg.map (·.1)).drop 1 ++ (rg.map (·.1)).take 1))) hFo
  have g5:(upd H4 Fo (.lst (nV ((rg.map (·.1)).drop 1 ++ (rg.map (·.1)).take 1)))) Fo=some (.lst (nV ((rg.map (·.1)).drop 1 ++ (rg.map (·.1)).take 1))):=ac
  show bE 3 (V.ref Fo) _ (upd H4 Fo (.lst (nV ((rg.map (·.1)).drop 1 ++ (rg.map (·.1)).take 1)))) _
  generalize upd H4 Fo (.lst (nV ((rg.map (·.1)).drop 1 ++ (rg.map (·.1)).take 1)))=H5 at s5 g5 ⊢
  have Tu:(nV ((rg.map (·.1)).drop 1 ++ (rg.map (·.1)).take 1)).length=xZ.length:=by rw[c9,length_append,length_drop,length_take,EH,zm];omega
  refine⟨_,rfl,_,rfl,ra,Fo,rfl,⟨_,s5 _ _ hR.t⟩,⟨_,xS.of g5⟩,?_⟩
  refine sJ Tu (fun i σ H6=>∃ a4 a5 a6:Option V,xN H H6/\H6 Fo=some (.lst (nV ((rg.map (·.1)).drop 1 ++ (rg.map (·.1)).take 1)))/\(∀ k,k < i->vD a rg k=true)/\σ=[some (.ref a.tb),some (.ref ra),some (.ref D),some (.ref Fo),a4,a5,a6])
   ⟨none,none,none,s5,g5,(fun k hk=>absurd hk (not_lt_zero _)),rfl⟩ (fun i σ H6 _ xU=>by obtain⟨_,_,_,s6,g6,_⟩:=xU;exact⟨s6 _ _ hR.t,xS.of g6⟩) ?_ ?_
  rotate_left
  ·rintro σ H6 ⟨a4,a5,a6,s6,_,zy,rfl⟩
   have e:i5 a rg=true:=all_eq_true.mpr fun k hk=>zy k (by rw[zm];exact mem_range.mp hk)
   rw[e]at q
   exact q H6 s6
  rintro i x y pt σ H6 hx hy ⟨a4,a5,a6,s6,g6,zy,rfl⟩ Ak
  obtain⟨hi,u,rfl,gu⟩:=hR.get hx
  obtain⟨yD,MU⟩:=hR.ok i hi
  have Ja:=jj (uU hi)
  rw[hy]at Ja
  cases Ja
  have s7:=s6.new (o := .tup [.ref u, .int ((aH rg ((i + 1) % rg.length)).1:Int)]) Ak
  have g7:(upd H6 pt (.tup [.ref u, .int ((aH rg ((i + 1) % rg.length)).1:Int)])) pt=some (.tup [.ref u, .int ((aH rg ((i + 1) % rg.length)).1:Int)]):=ac
  have TU:(upd H6 pt (.tup [.ref u, .int ((aH rg ((i + 1) % rg.length)).1:Int)])) Fo=some (.lst (nV ((rg.map (·.1)).drop 1 ++ (rg.map (·.1)).take 1))):=by rw[ae (ag g6 Ak)];exact g6
  generalize upd H6 pt (.tup [.ref u, .int ((aH rg ((i + 1) % rg.length)).1:Int)])=H7 at s7 g7 TU ⊢
  refine⟨pt,_,rfl,xV.of g7,rfl,_,_,rfl,_,_,rfl,rfl,?_⟩
  have MV:=yC.keep W hT (xN.xX s7)
  obtain⟨dx,BA,TV,hf7,hw7⟩:=MV.i
  obtain⟨pr,zv,An,MW⟩:=ku hS yD
  refine⟨_,rfl,a.tb,TC,dx,BA,_,rfl,TV,W.cl,W.nl,hf7,a.lx,a.yz,_,rfl,MV.l.1,rfl,_,rfl,u,_,0,_,rfl,rfl,xV.of (s7 _ _ gu),aj (j:=0) rfl,a.lx,a.yz,a.lt,(a.n:Int),a.ye,a.ps,(aH rg i).1,pr,rfl,MV.l,zv,?_⟩
  rw[An]
  refine⟨_,rfl,u,_,0,_,rfl,rfl,xV.of (s7 _ _ gu),aj (j:=0) rfl,_,rfl,a.tb,dx,BA,rfl,TV,hw7,_,rfl,_,rfl,u,_,1,_,rfl,rfl,xV.of (s7 _ _ gu),aj (j:=1) rfl,a.tb,a.n,a.wy,bu a (aH rg i).1,(aH rg i).2,none,rfl,MV.j,MW,MU,fun Dw H8 s8 hDw gDw=>?_⟩
  have EM:=s7.trans s8
  refine⟨Dw,_,rfl, .inl (xS.of gDw),rfl,by rw[jO];exact fq _,_,rfl,?_⟩
  rw[jO (a.wy (bu a (aH rg i).1) (aH rg i).2 none),iH]
  show if (!decide (((aH rg i).1:Int) ∈ iz (a.wy (bu a (aH rg i).1) (aH rg i).2 none)))=true then _ else _
  rw[kT]
  have bad:vD a rg i=false->i5 a rg=false:=fun h=>by
   unfold i5
   rw[List.all_eq_false]
   exact⟨i,mem_range.mpr hi,by rw[h];decide⟩
  cases hb:decide ((aH rg i).1 ∈ a.wy (bu a (aH rg i).1) (aH rg i).2 none) with
  | false =>
   rw[bad (by unfold vD;rw[hb];rfl)]at q
   exact aN (q H8 EM)
  | true =>
   have Pc:=yC.keep W hT (xN.xX EM)
   refine aJ ⟨_,rfl,_,rfl,u,_,0,_,rfl,rfl,xV.of (EM _ _ gu),aj (j:=0) rfl,_,rfl,u,_,1,_,rfl,rfl,xV.of (EM _ _ gu),aj (j:=1) rfl,a,(aH rg i).1,(aH rg i).2,rfl,Pc,hO,yD,MU,fun D2 H9 s9 zF K3=>?_⟩
   refine⟨_,rfl,by show 1 <= sizeLine;decide,fun e1 Gj=>?_⟩
   have Aq:=s9.new (o := .lst [.int ((aH rg ((i + 1) % rg.length)).1:Int)]) Gj
   have AD:(upd H9 e1 (.lst [.int ((aH rg ((i + 1) % rg.length)).1:Int)])) e1=some (.lst ([(((aH rg ((i + 1) % rg.length)).1:Nat):Int)].map V.int)):=ac
   have K4:(upd H9 e1 (.lst [.int ((aH rg ((i + 1) % rg.length)).1:Int)])) D2=some (.lst (nV (yZ a (aH rg i).1 (aH rg i).2))):=by rw[ae (ag K3 Gj)];exact K3
   generalize upd H9 e1 (.lst [.int ((aH rg ((i + 1) % rg.length)).1:Int)])=zJ at Aq AD K4 ⊢
   refine⟨D2,e1,iz (yZ a (aH rg i).1 (aH rg i).2),_,rfl,rfl,xS.of (by rw[K4,jO]),xS.of AD,_,rfl,?_⟩
   have eqv:decide (iz (yZ a (aH rg i).1 (aH rg i).2)=[(((aH rg ((i + 1) % rg.length)).1:Nat):Int)])=decide (yZ a (aH rg i).1 (aH rg i).2=[(aH rg ((i + 1) % rg.length)).1]):=by
    rw[decide_eq_decide]
    constructor
    ·intro z
     have z:(yZ a (aH rg i).1 (aH rg i).2).map (fun k:Nat=>(k:Int))=[(aH rg ((i + 1) % rg.length)).1].map (fun k:Nat=>(k:Int)):=z
     exact List.map_inj_right (fun x y e=>by omega) |>.mp z
    ·intro z;rw[z];rfl
   have K5:=EM.trans Aq
   rw[eqv]
   cases TX:decide (yZ a (aH rg i).1 (aH rg i).2=[(aH rg ((i + 1) % rg.length)).1]) with
   | false =>
    rw[bad (by unfold vD;rw[hb,TX];rfl)]at q
    exact aN (q zJ K5)
   | true =>
    refine aJ ⟨_,_,_,K5,Aq _ _ (s8 _ _ TU),(fun k hk=>?_),rfl⟩
    by_cases e:k=i
    ·rw[e];unfold vD;rw[hb,TX];rfl
    ·exact zy k (by omega)
theorem nW {K:Frag}{c:Cs}{TC:Addr}{J:TJ}{ys:Ys}{vs:List V}{H:Hp}{Q Q':VK}{E:XK}(h:jG K c TC J ys vs H Q E)(k:∀ v H',Q v H'->Q' v H'):jG K c TC J ys vs H Q' E:=by
 obtain⟨y,dy,tb,lx,yz,lt,n,ye,ps,wy,rv,yi,e1,e2,e3,e4,e5,e6⟩:=h
 exact⟨y,dy,tb,lx,yz,lt,n,ye,ps,wy,rv,yi,e1,e2,e3,e4,e5,fun h ro la le li dn H' a1 a2 a3 a4 a5 a6=>k _ _ (e6 h ro la le li dn H' a1 a2 a3 a4 a5 a6)⟩
theorem fS {K:Frag}{H H':Hp}{a:Addr}{xs:List V}(k:yg H H')(h:xV K H a xs):xV K H' a xs:=by
 rcases h with (e | ⟨o,e⟩) | e
 ·exact .inl (.inl (k _ _ e True.intro))
 ·exact .inl (.inr ⟨o,k _ _ e True.intro⟩)
 ·exact .inr e
theorem K6 {H H2:Hp}{F t:Addr}{vs m:List V}{xs:List (List V)}(nF:H F=none)(s2:xN H H2)(g2:H2 F=some (.lst vs))(p2:Paired (y8 H2) vs xs)(ht:H2 t=some (.tup m)) :
  xN H (upd H2 F (.lst (vs ++ [.ref t])))/\yg H2 (upd H2 F (.lst (vs ++ [.ref t])))/\Paired (y8 (upd H2 F (.lst (vs ++ [.ref t])))) (vs ++ [.ref t]) (xs ++ [m]):=by
 have kk:yg H2 (upd H2 F (.lst (vs ++ [.ref t]))):=eN g2
 exact⟨fun b o e=>by rw[ae (ag e nF)];exact s2 _ _ e,kk,Paired.snoc ⟨t,rfl,kk _ _ ht True.intro⟩ (Paired.mono (fun _ _ z=>z.keep kk) p2)⟩
noncomputable def lH (a:YA)(rg:List (Nat × Nat))(rm:List Nat)(k:Nat):List V:=[.int (bu a (aH rg k).1), .int (aH rg k).2, .int (cj rm (aH rg k).1), .int 0]
noncomputable def cP (a:YA)(rg:List (Nat × Nat))(rm:List Nat)(m:Nat):List (List V):=(List.range m).map (lH a rg rm)
noncomputable def gM (rm:List Nat):List V:=rm.map fun r:Nat=>V.int (r:Int)
structure Hw (a:YA)(rm:List Nat):Prop where
 len:rm.length=a.ps.length
 pos:∀ l,l < a.ps.length->1 <= cj rm l/\cj rm l <= 60
theorem ng {rm:List Nat}{l:Nat}(h:l < rm.length):(gM rm)[l]? = some (V.int (cj rm l)):=by
 unfold gM cj
 rw[getElem?_map,getElem?_eq_getElem h,getD_eq_getElem?_getD,getElem?_eq_getElem h]
 rfl
theorem l6 (rm:List Nat):gM rm=(rm.map fun r:Nat=>(r:Int)).map V.int:=by unfold gM;rw[map_map];rfl
theorem Hw.iz {a:YA}{rm:List Nat}(h:Hw a rm):(rm.map fun r:Nat=>(r:Int)).length=a.ps.length/\∀ r ∈ rm.map fun r:Nat=>(r:Int),1 <= r/\r <= 60:=by
 refine⟨by rw[length_map];exact h.len,fun r hr=>?_⟩
 obtain⟨x,hx,rfl⟩:=mem_map.mp hr
 obtain⟨i,hi⟩:=kO hx
 have hl:i < rm.length:=(gQ0 hi)
 have:=h.pos i (by rw[← h.len];exact hl)
 unfold cj at this
 rw[getD_eq_getElem?_getD,hi]at this
 have this:1 <= x/\x <= 60:=this
 omega
noncomputable def qB (c:Cs)(TC:Addr)(J:TJ):Sp:=fun vs H Q _=>∃ (a:YA)(ra rr:Addr)(xZ:List V)(rg:List (Nat × Nat))(rm:List Nat),vs=[.ref a.tb, .ref rr, .ref ra]/\qk c TC J H a/\vh a/\(∀ p ∈ a.ps,fO a.n p=true)/\Hv H a ra xZ rg/\1 <= rg.length/\H rr=some (.lst (gM rm))/\Hw a rm /\
 (i5 a rg=false->∀ H',xN H H'->Q .yd H') /\
 (i5 a rg=true->∀ (t LL MM:Addr)(xW yl:List V)(H':Hp),xN H H'->H t=none->H LL=none->H MM=none->H' t=some (.tup [.ref LL, .ref MM])->H' LL=some (.lst xW)->Paired (y8 H') xW (cP a rg rm rg.length)->H' MM=some (.lst yl)->Paired (y8 H') yl ((bN rg rm rg.length).map eE)->Q (.ref t) H')
theorem kq {a:YA}(xY:∀ p ∈ a.ps,fO a.n p=true):Qc a:=fun l pr h=>by
 have zS:=xY pr (mem_of_getElem? h)
 unfold fO at zS
 simp only[Bool.and_eq_true,decide_eq_true_eq,Bool.not_eq_true',decide_eq_false_iff_not]at zS
 exact⟨pr.1.toNat,by omega,by omega⟩
abbrev TY:List Str:=["table", "rooms", "ring", "by_lane", "letters", "moves", "number", "pair", "lane"]
noncomputable def Qe (s:Stmt):Scope:=match s with
 | .Expr (.Call _ [.ListComp _ _ sc _] _ _) _=>sc
 | _=>zQ0
theorem Bg:ar TY ["table", "rooms", "ring"] (al ls):=L2.yq
theorem Qf:yK TY (al ls) (Qe (cZ (fQ (cZ (aG ls) 4)) 2)) ["number", "lane"] [6,8]:=L2.zA
theorem Qg:(["piece", "number", "lane"]:List Str).Nodup:=by decide +kernel
theorem uz {c:Cs}{ys:Ys}{J:TJ}{TC f fw fc fs fy:Addr}{fd dw dc ds dy:FuncData}(F:yn K "stand_of" "stand_of" ls f fd)(T:fR mg)(L:m6 K c)(Y:jz K ys)(W:Wy K TC fw dw J)
  (mc:mg "can_stand" = some (.ref fc)) (kc:keepIn K (.ref fc)=true) (bc:Binds K dc ["table", "ring"] []) (Gc:xO P w K mg base aF 5 fc dc ["table", "ring"] (vB c TC J))
  (M:xF K c fs ds) (Gs:xO P w K mg base aF 1 fs ds ["self", "lane"] (mQ c Prod.fst)) (my:mg "Yard" = some (.ref ys.xR)) (My:Mk K ys.xR fy) (Hx:Binds K dy ["self", "table", "rooms"] []) (Gy:xO P w K mg base aF 4 fy dy ["self", "table", "rooms"] (jG K c TC J (yx ys []))) :
  xO P w K mg base aF 6 f fd ["table", "rooms", "ring"] (qB c TC J):=by
 refine F.ok Bg (fun _ _ _ _ h=>?_) (fun _ _ _ s H _ Q E hr h=>?_)
 ·obtain⟨a,ra,rr,xZ,rg,rm,rfl,_⟩:=h
  rfl
 ·obtain⟨a,ra,rr,xZ,rg,rm,rfl,hT,hO,xY,hR,D6,Qh,hM,q0,q1⟩:=h
  have yA:ya 1 _:=hr.mono (by decide)
  refine⟨_,af (aR (bM (b9 (az Gc hr rfl mc kc bc .nil ap (aa (pv 0) (aa (pv 2) ad))))) (ak (au bH)) aE)
   (af (aD (i:=3) Bg.nd rfl (Or.inl rfl) (am (dA My Gy hr rfl my Hx .nil ap (aa (pv 0) (aa (pv 1) ad))) rfl))
   (af (aD (i:=4) Bg.nd rfl (Or.inl rfl) (aP ad))
   (af (aD (i:=5) Bg.nd rfl (Or.inl rfl) (aP ad))
   (af (bB PassesOwn.never rfl (jc rfl T.enum (aa (pv 2) ad)) (cX rfl (aQ (aq (i:=6) Bg.nd rfl (Or.inr rfl)) (aQ (aq (i:=7) Bg.nd rfl (Or.inl rfl)) ck)))
    (af (aD (i:=8) Bg.nd rfl (Or.inr rfl) (ao av (pv 7) ai (fun _ _=>rfl)))
    (af (aU (cp plainAttrs_list PySem.F.slot_list_append PySem.F.type_list_append b0 (pv 4) (aa (aW (aa (aI (am (pv 0) rfl) L.cl M.m Gs yA M.b .nil ap (aa (pv 8) ad)) (aa (ao av (pv 7) ai (fun _ _=>rfl)) (aa (ao av (pv 3) (pv 8) (fun _ _=>rfl)) (aa ai ad))))) ad)))
    (ak (aU (cp plainAttrs_list slot_list_extend type_list_extend dN (pv 5) (aa (bv (own:=["piece"]) (capN:=["number", "lane"]) (cap:=[6,8]) Qf rfl (aS rfl T.range (aa (ao av (pv 3) (pv 8) (fun _ _=>rfl)) ad))
     (fun C s' H' fp=>⟨aq (i:=0) Qg rfl (Or.inl rfl),bT,aW (aa c8 (aa (pv 1) (aa (pv 2) ad)))⟩)) ad)))))))
   (ak (au (aW (aa (pv 4) (aa (pv 5) ad))))))))),?_⟩
  have zm:xZ.length=rg.length:=by rw[Paired.length hR.l,length_map]
  have Aa:=hR.yI
  refine⟨_,rfl,_,rfl,a,ra,xZ,rg,rfl,hT,hO,kq xY,hR,D6,fun H1 s1=>⟨_,rfl,?_⟩⟩
  cases hb:i5 a rg with
  | false=>exact aN (q0 hb H1 s1)
  | true =>
  refine aJ ?_
  have q1:=q1 hb
  have JC:=yC.keep W hT (xN.xX s1)
  refine⟨_,rfl,_,rfl,fun y dy ny Kw Kx=>nW (nX (P:=P) (w:=w) (ys:=ys) (ex:=[]) W JC hO.yI xY (xS.of (by rw[s1 _ _ Qh,l6])) hM.iz.1 hM.iz.2 hT.yI (fun z hz=>by cases hz) y dy ny Kw Kx) fun v H2 h=>⟨h.1,?_⟩⟩
  obtain⟨_,b,eb,_,_,_,_,s2,_,hI,_⟩:=h
  injection eb with eb
  subst eb
  have C4:xV K H2 b.ro (gM rm):=by rw[l6];exact hI.Y.C4
  have Gq:=hI.Y.ins
  generalize b.ro=ro at C4 Gq
  refine⟨b.y,ys.xR,b.dy,_,_,rfl,Gq,Y.cl,Y.n2,rfl,?_⟩
  have Gu:=s1.trans s2
  clear hI Gq
  refine⟨zero_le _,fun LL Qi=>?_⟩
  have u3:=Gu.new (o := .lst []) Qi
  have MX:H LL=none:=Gu.free Qi
  have v3:=(xN.refl H2).new (o := .lst []) Qi
  have EN:(upd H2 LL (.lst [])) LL=some (.lst []):=ac
  show bE 4 (V.ref LL) _ (upd H2 LL (.lst [])) _
  generalize upd H2 LL (.lst [])=H3 at u3 v3 EN ⊢
  refine⟨zero_le _,fun MM K7=>?_⟩
  have u4:=u3.new (o := .lst []) K7
  have K8:H MM=none:=u3.free K7
  have v4:=v3.new (o := .lst []) K7
  have MY:(upd H3 MM (.lst [])) LL=some (.lst []):=by rw[ae (ag EN K7)];exact EN
  have Gv:(upd H3 MM (.lst [])) MM=some (.lst []):=ac
  have TZ:LL ≠ MM:=ag EN K7
  show bE 5 (V.ref MM) _ (upd H3 MM (.lst [])) _
  generalize upd H3 MM (.lst [])=H4 at u4 v4 MY Gv ⊢
  have Qj:xV K H4 ro (gM rm):=fS (xN.xX v4) C4
  refine⟨_,rfl,ra,rfl,⟨_,xV.of (u4 _ _ hR.t)⟩,?_⟩
  refine jv (sq:=fun H=>xV K H ra) (xs:=xZ) (fun i σ H5=>∃ (a6 a7 a8:Option V)(xW yl:List V),xN H H5/\xV K H5 ro (gM rm)/\H5 LL=some (.lst xW)/\Paired (y8 H5) xW (cP a rg rm i)/\H5 MM=some (.lst yl)/\Paired (y8 H5) yl ((bN rg rm i).map eE)/\σ=[some (.ref a.tb),some (.ref rr),some (.ref ra),some (.ref ro),some (.ref LL),some (.ref MM),a6,a7,a8])
   ⟨none,none,none,[],[],u4,Qj,MY, .nil,Gv, .nil,rfl⟩ (fun i σ H5 _ xU=>by obtain⟨_,_,_,_,_,s5,_⟩:=xU;exact xV.of (s5 _ _ hR.t)) ?_ ?_
  rotate_left
  ·rintro σ H5 ⟨a6,a7,a8,xW,yl,s5,_,KA,KC,Qk,KD,rfl⟩
   rw[zm]at KC KD
   refine⟨_,rfl,_,rfl,by show 2 <= sizeLine;decide,fun t ht=>?_⟩
   have v6:=(xN.refl H5).new (o := .tup [.ref LL, .ref MM]) ht
   exact q1 t LL MM xW yl _ (s5.trans v6) (s5.free ht) MX K8 ac (v6 _ _ KA) (Paired.mono (fun _ _ z=>z.keep (xN.xX v6)) KC) (v6 _ _ Qk) (Paired.mono (fun _ _ z=>z.keep (xN.xX v6)) KD)
  rintro i x pt σ H5 hx ⟨a6,a7,a8,xW,yl,s5,C6,KA,KC,Qk,KD,rfl⟩ Ak
  obtain⟨hi,u,rfl,gu⟩:=hR.get hx
  obtain⟨yD,MU⟩:=hR.ok i hi
  have v6:=(xN.refl H5).new (o := .tup [.int (i:Int), .ref u]) Ak
  have g6:(upd H5 pt (.tup [.int (i:Int), .ref u])) pt=some (.tup [.int (i:Int), .ref u]):=ac
  generalize upd H5 pt (.tup [.int (i:Int), .ref u])=H6 at v6 g6 ⊢
  refine⟨pt,_,rfl,xV.of g6,rfl,_,_,rfl,_,_,rfl,rfl,?_⟩
  have s6:=s5.trans v6
  have Hl:=yC.keep W hT (xN.xX s6)
  obtain⟨dx,BA,SW,hf6,hw6⟩:=Hl.i
  obtain⟨pr,zv,An,MW⟩:=ku (kq xY) yD
  have Ua:=s6 _ _ gu
  have DA:=fS (xN.xX v6) C6
  have zj:(aH rg i).1 < rm.length:=by rw[hM.len];exact yD
  have AI:xW.length=i:=by rw[Paired.length KC];unfold cP;rw[length_map,length_range]
  refine⟨_,rfl,u,_,0,_,rfl,rfl,xV.of Ua,aj (j:=0) rfl,?_⟩
  refine⟨_,rfl, .inl ⟨rfl,_,xS.of (v6 _ _ KA)⟩,_,rfl,a.tb,TC,dx,BA,_,rfl,SW,W.cl,W.nl,hf6,a.lx,a.yz,_,rfl,Hl.l.1,rfl,_,rfl,a.lx,a.yz,a.lt,(a.n:Int),a.ye,a.ps,(aH rg i).1,pr,rfl,Hl.l,zv,_,rfl,u,_,1,_,rfl,rfl,xV.of Ua,aj (j:=1) rfl,_,rfl,_,rfl,ro,_,((aH rg i).1:Int),_,rfl,rfl,DA,aj (ng zj),by show 4 <= sizeLine;decide,fun t ht=>?_⟩
  rw[An]
  have v7:=v6.new (o := .tup [V.int (bu a (aH rg i).1),V.int (aH rg i).2,V.int (cj rm (aH rg i).1),V.int 0]) ht
  have g7:(upd H6 t (.tup [V.int (bu a (aH rg i).1),V.int (aH rg i).2,V.int (cj rm (aH rg i).1),V.int 0])) t=some (.tup (lH a rg rm i)):=ac
  generalize upd H6 t (.tup [V.int (bu a (aH rg i).1),V.int (aH rg i).2,V.int (cj rm (aH rg i).1),V.int 0])=H7 at v7 g7 ⊢
  have s7:=s5.trans v7
  obtain⟨k1,k2,k3⟩:=K6 (m:=lH a rg rm i) MX s7 (v7 _ _ KA) (Paired.mono (fun _ _ z=>z.keep (xN.xX v7)) KC) g7
  refine⟨LL,xW,_,rfl,rfl,v7 _ _ KA,by rw[sizeLine_eq];omega,?_⟩
  have DH:(upd H7 LL (.lst (xW ++ [.ref t]))) MM=some (.lst yl):=by rw[ae (Ne.symm TZ)];exact v7 _ _ Qk
  have Ub:(upd H7 LL (.lst (xW ++ [.ref t]))) LL=some (.lst (xW ++ [.ref t])):=ac
  have Uc:Paired (y8 (upd H7 LL (.lst (xW ++ [.ref t])))) yl ((bN rg rm i).map eE):=Paired.mono (fun _ _ z=>z.keep (yg.trans (xN.xX v7) k2)) KD
  have BR:xV K (upd H7 LL (.lst (xW ++ [.ref t]))) ro (gM rm):=fS (yg.trans (xN.xX v7) k2) C6
  generalize upd H7 LL (.lst (xW ++ [.ref t]))=H8 at k1 k3 DH Ub Uc BR ⊢
  have eL:cP a rg rm i ++ [lH a rg rm i]=cP a rg rm (i + 1):=by unfold cP;rw[range_succ,map_append];rfl
  rw[eL]at k3
  have hrp:=hM.pos _ yD
  refine⟨_,rfl, .inl ⟨rfl,_,xS.of DH⟩,_,rfl,_,rfl,ro,_,((aH rg i).1:Int),_,rfl,rfl,BR,aj (ng zj),(cj rm (aH rg i).1:Int),rfl,by omega,by omega,?_⟩
  rw[toNat_natCast]
  have el:((List.replicate (cj rm (aH rg i).1) (Mv.y6 i (aH rg i).1)).map eE).length=cj rm (aH rg i).1:=by rw[length_map,length_replicate]
  refine el ▸ sV (R:=y8) (fun s _ _ h=>h.keep (xN.xX s)) ((List.replicate (cj rm (aH rg i).1) (Mv.y6 i (aH rg i).1)).map eE) (by rw[el,sizeLine_eq];omega) (fun j m H9 N hj s9 hN=>?_) (fun D2 AM H9 s9 zF hp=>?_)
  ·have hm:m=eE (.y6 i (aH rg i).1):=by
    obtain⟨z,hz,rfl⟩:=mem_map.mp (mem_of_getElem? hj)
    rw[(List.mem_replicate.mp hz).2]
   refine⟨_,rfl,_,rfl,by show 3 <= sizeLine;decide,fun t2 CH=>hN _ _ ((xN.refl H9).new CH) ⟨t2,rfl,?_⟩⟩
   rw[hm]
   exact ac
  ·have v10:=s9.new (o := .lst AM) zF
   have AD:(upd H9 D2 (.lst AM)) D2=some (.lst AM):=ac
   have Ud:=Paired.mono (fun _ _ z=>z.keep (xN.xX ((xN.refl H9).new (o := .lst AM) zF))) hp
   generalize upd H9 D2 (.lst AM)=zJ at v10 AD Ud ⊢
   have EH:yl.length <= 60 * 40:=by
    rw[Paired.length KD,length_map]
    have:=jk (rg:=rg) (rm:=rm) (m:=i) fun k hk=>(hM.pos _ (hR.ok k (by omega)).1).2
    omega
   have By:AM.length <= 60:=by rw[Paired.length hp,el];exact hrp.2
   obtain⟨z1,z2,z3⟩:=gp K8 k1 DH Uc v10 Ud
   refine⟨MM,D2,yl,AM,rfl,rfl,v10 _ _ DH,AD,by rw[sizeLine_eq];omega,?_⟩
   have kk:yg zJ (upd zJ MM (.lst (yl ++ AM))):=eN (v10 _ _ DH)
   refine⟨_,_,_,xW ++ [.ref t],yl ++ AM,z1,fS (yg.trans (xN.xX v10) kk) BR,by rw[ae TZ];exact v10 _ _ Ub,Paired.mono (fun _ _ z=>z.keep (yg.trans (xN.xX v10) kk)) k3,z2,?_,rfl⟩
   rw[hW]
   exact z3
end K68
namespace L2
open PySem PySem.Spec PyProof.Rows
theorem wG {X:Cx}:dH X (compareOp .Is) (fun x y H Q=>∃ b c,x = .bl b/\y = .bl c/\Q (.bl (b == c)) H):=by
 intro pins s σ H x y v u Q I rx ry h
 obtain⟨b,c,rfl,rfl,q⟩:=h
 cases rx
 cases ry
 refine wpAny_is_plain rfl ⟨.bl (b == c),H,I,?_,q⟩
 show Value.bool _=Value.bool _
 cases b<;>cases c<;>rfl
end L2
namespace K68
open PySem L2
variable {P:Program}{w:World}{K:Frag}{mg:Str->Option Value}{base:Heap}
theorem Rg.cast {a b:YA}{rg:List (Nat × Nat)}{rm:List Nat}(h:Rg a rg rm)(e2:b.ps=a.ps)(e4:b.wy=a.wy):Rg b rg rm:=by
 refine⟨h.nd,fun k hk=>by rw[e2];exact h.ln k hk,by rw[e2];exact h.Qa,fun l hl=>h.pos l (by rw[← e2];exact hl),fun k hk=>by rw[e2,e4];exact h.go k hk,fun k hk=>?_⟩
 have:=h.on k hk
 unfold yZ at this ⊢
 rw[e2,e4]
 exact this
theorem qy {b:YA}{rg:List (Nat × Nat)}{rm:List Nat}(hl:rm.length=b.ps.length):Y0 ((rm.map fun r:Nat=>(r:Int)).map V.int) b.n=cO b rg rm 0 (fun _=>0) []:=by
 unfold Y0 cO
 have e1:(rm.map fun r:Nat=>(r:Int)).map V.int=rm.map fun r:Nat=>V.int (r:Int):=by rw[map_map];rfl
 rw[e1]
 have e2:(rm.map fun r:Nat=>V.int (r:Int)).map oN=(List.range b.ps.length).map (m5 rg rm fun _=>0):=by
  refine ext_getElem? fun j=>?_
  by_cases hj:j < rm.length
  ·rw[bS _ (by omega),map_map,getElem?_map,getElem?_eq_getElem hj]
   show some (yr.mk ((rm[j]:Nat):Int) 0 none [])=_
   have e:rm[j]=cj rm j:=by unfold cj;rw[getD_eq_getElem?_getD,getElem?_eq_getElem hj];rfl
   rw[e]
   unfold m5
   cases uO rg j with
   | none=>rfl
   | some k =>
    show _=some (su rm j k 0)
    unfold su
    rw[if_pos (.inl rfl)]
    show _=some (yr.mk ((cj rm j:Int) - ((0:Nat):Int)) 0 none [])
    rw[show (cj rm j:Int) - ((0:Nat):Int)=(cj rm j:Int) by omega]
  ·rw[List.getElem?_eq_none (by rw[length_map,length_map];omega),List.getElem?_eq_none (by rw[length_map,length_range];omega)]
 rw[e2]
 rfl
theorem tQ {b:YA}{rg:List (Nat × Nat)}{rm:List Nat}{i:Nat}{d:List (List V)}{x:Nat}(hx:(b.ps.getD (aH rg i).1 (0,0)).1=(x:Int)) :
  ip (cO b rg rm i (fun _=>0) d) x ((aH rg i).2:Int) (cj rm (aH rg i).1:Int) 0=cO b rg rm (i + 1) (fun _=>0) (d ++ [[.str "post", .int x, .int (aH rg i).2, .int (cj rm (aH rg i).1), .int 0]]):=by
 unfold ip cO
 dsimp only
 have e:((List.range i).map fun k=>gr b rg rm k 0) ++ [⟨(x:Int),((aH rg i).2:Int),(cj rm (aH rg i).1:Int),0,0,[]⟩]=(List.range (i + 1)).map fun k=>gr b rg rm k 0:=by
  rw[range_succ,map_append]
  have:gr b rg rm i 0 = ⟨(x:Int),((aH rg i).2:Int),(cj rm (aH rg i).1:Int),0,0,[]⟩:=by unfold gr;rw[hx];rfl
  show _=_ ++ [gr b rg rm i 0]
  rw[this]
 rw[e]
noncomputable def lm (c:Cs)(TC:Addr)(J:TJ):Sp:=fun vs H Q _=>∃ (a:YA)(rr LL MM:Addr)(xW yl:List V)(rg:List (Nat × Nat))(rm:List Nat),vs=[.ref a.tb, .ref rr, .ref LL, .ref MM]/\qk c TC J H a/\vh a/\(∀ p ∈ a.ps,fO a.n p=true)/\Rg a rg rm/\1 <= rg.length/\rg.length <= 40/\(∀ k,k < rg.length->(aH rg k).2 < a.n/\bu a (aH rg k).1 ≠ (aH rg k).2)/\H rr=some (.lst (gM rm))/\H LL=some (.lst xW)/\Paired (y8 H) xW (cP a rg rm rg.length)/\H MM=some (.lst yl)/\Paired (y8 H) yl ((bN rg rm rg.length).map eE)/\∀ H',Q (.bl true) H'
abbrev MZ:List Str:=["_law_table", "_law_rooms", "_law_letters", "_law_moves"]
abbrev Ue:List Str:=["_law_table", "_law_rooms", "_law_letters", "_law_moves", "_law_yard", "_law_k", "_law_start", "_law_goal", "_law_length", "_law_word", "_law_move", "_law_lying"]
theorem Ay:ar Ue MZ (al fX):=L2.yq
theorem Ql:yK Ue (al fX) (mz (cZ (aG fX) 3)) ["_law_yard"] [4]:=L2.zA
theorem Qm:(["_law_place", "_law_yard"]:List Str).Nodup:=by decide +kernel
theorem pO {c:Cs}{ys:Ys}{J:TJ}{TC f fw fy fp fm Ug fg fe fs:Addr}{fd dw dy dp dm dd dg de ds:FuncData}(F:yn K "_law_stands" "_law_stands" fX f fd)(T:fR mg)(L:m6 K c)(Y:jz K (yx ys []))(W:Wy K TC fw dw J)
  (my:mg "Yard" = some (.ref ys.xR)) (My:Mk K ys.xR fy) (Hx:Binds K dy ["self", "table", "rooms"] []) (Gy:xO P w K mg base aF 4 fy dy ["self", "table", "rooms"] (jG K c TC J (yx ys [])))
  (mp:bK K ys.xR "post" fp) (bp:Binds K dp JT []) (Gp:xO P w K mg base aF 4 fp dp JT (mJ K c TC J (yx ys [])))
  (mm:bK K ys.xR "moves" fm) (bm:Binds K dm ["self"] []) (Gm:xO P w K mg base aF 7 fm dm ["self"] (i7 K c TC J (yx ys [])))
  (md:bK K ys.xR "do" Ug) (bd:Binds K dd ["self", "move"] []) (Gd:xO P w K mg base aF 8 Ug dd ["self", "move"] (vW K c TC J (yx ys [])))
  (Km:bK K ys.xR "lying" fg) (bg:Binds K dg ["self", "place"] []) (Gg:xO P w K mg base aF 1 fg dg ["self", "place"] (ou K (yx ys [])))
  (me:bK K ys.xR "ended" fe) (be:Binds K de ["self"] []) (Ge:xO P w K mg base aF 1 fe de ["self"] (i9 K (yx ys [])))
  (ms:mg "still" = some (.ref fs)) (ks:keepIn K (.ref fs)=true) (bs:Binds K ds ["yard"] []) (Gs:xO P w K mg base aF 8 fs ds ["yard"] (oh K c TC J (yx ys []))) :
  xO P w K mg base aF 9 f fd MZ (lm c TC J):=by
 refine F.ok Ay (fun _ _ _ _ h=>?_) (fun _ _ _ s H _ Q E hr h=>?_)
 ·obtain⟨a,rr,LL,MM,xW,yl,rg,rm,rfl,_⟩:=h
  rfl
 ·obtain⟨a,rr,LL,MM,xW,yl,rg,rm,rfl,hT,hO,xY,hR,D6,Aa,Jy,Qh,Hy,Hz,KG,KH,q⟩:=h
  have hu:=hr.units
  have yA:ya 1 _:=hr.mono (by decide)
  have Be:ya 4 _:=hr.mono (by decide)
  have Ko:ya 5 _:=hr.mono (by decide)
  have Uh:ya 7 _:=hr.mono (by decide)
  refine⟨_,af (aD (i:=4) Ay.nd rfl (Or.inr rfl) (dA My Gy Ko rfl my Hx .nil ap (aa (pv 0) (aa (aY bW rfl T.list PySem.Pv.boot_list (aa (pv 1) ad)) ad))))
   (af (bB PassesOwn.never rfl (aS rfl T.range (aa (aB aC rfl T.len PySem.boot_len (aa (pv 2) ad)) ad)) (aq (i:=5) Ay.nd rfl (Or.inl rfl))
    (af (gW (ao aA (pv 2) (pv 5) (fun _ _=>rfl)) (cX rfl (aQ (aq (i:=6) Ay.nd rfl (Or.inl rfl)) (aQ (aq (i:=7) Ay.nd rfl (Or.inl rfl)) (aQ (aq (i:=8) Ay.nd rfl (Or.inl rfl)) (aQ (aq (i:=9) Ay.nd rfl (Or.inl rfl)) ck))))))
    (ak (aR (aw iq (aI (pv 4) Y.cl mp Gp Be bp .nil ap (aa (pv 6) (aa (pv 7) (aa (pv 8) (aa (pv 9) ad))))) (pv 5) (ay _)) (ak (au eK)) aE))))
   (af (bB PassesOwn.never rfl (bA (pv 3)) (aq (i:=10) Ay.nd rfl (Or.inl rfl))
    (af (aR (aw (jH hu) (pv 10) (bC (pv 4) Y.cl mm Gm Uh bm .nil ap) (by with_unfolding_all rfl)) (ak (au eK)) aE)
    (ak (aU (aI (pv 4) Y.cl md Gd hr bd .nil ap (aa (pv 10) ad))))))
   (af (c7 (i:=11) (own:=["_law_place"]) (capN:=["_law_yard"]) (cap:=[4]) Ql rfl Ay.nd rfl rfl (aS rfl T.range (aa (am (am (pv 0) rfl) rfl) ad))
    (fun C s' H' fp=>⟨aq (i:=0) Qm rfl (Or.inl rfl),cf (aw (show dH _ (compareOp .NotEq) (uj K) from kK hu) (aI (pv 1) Y.cl Km Gg yA bg .nil ap (aa (pv 0) ad)) (aP ad) (ay _)),pv 0⟩))
   (ak (au (cr (bU (rD hu) (bC (pv 4) Y.cl mm Gm Uh bm .nil ap) (aP ad) (ay _)) (cr (kI (bC (pv 4) Y.cl me Ge yA be .nil ap)) (cr (bU wG (az Gs hr rfl ms ks bs .nil ap (aa (pv 4) ad)) eK (ay _)) (cG (bU (rC hu) (pv 11) (aP ad) (ay _))))))))))),?_⟩
  have AA:xW.length=rg.length:=by rw[Paired.length Hz];unfold cP;rw[length_map,length_range]
  have OZ:=hT.MC
  have Ui:Hw a rm:=⟨hR.Qa,hR.pos⟩
  refine⟨_,rfl,_,rfl,rr,_,rfl, .inl (xS.of Qh),fun R2 hR2=>?_⟩
  have u1:=(xN.refl H).new (o := .lst (gM rm)) hR2
  have g1:(upd H R2 (.lst (gM rm))) R2=some (.lst (gM rm)):=ac
  generalize upd H R2 (.lst (gM rm))=H1 at u1 g1 ⊢
  have JC:=yC.keep W hT (xN.xX u1)
  refine fun y dy ny Kw Kx=>nW (nX (P:=P) (w:=w) (ys:=ys) (ex:=[]) W JC hO.yI xY (xS.of (by rw[g1,l6])) Ui.iz.1 Ui.iz.2 hT.yI (fun z hz=>by cases hz) y dy ny Kw Kx) fun v H2 h=>⟨h.1,?_⟩
  obtain⟨_,b,eb,e1,e2,e3,e4,s2,fr,hI,hJ⟩:=h
  injection eb with eb
  subst eb
  have Gx:Rg b rg rm:=hR.cast e2 e4
  have Az:xN H H2:=u1.trans s2
  have Uj:∀ {z:Addr}{o:HO},H z=some o->z ∉ b.four:=fun {z o} hz hm=>by rw[u1.free (fr z hm)]at hz;cases hz
  have MX:=Uj Hy
  have K8:=Uj KG
  have FY:b.n=a.n:=e3
  rw[← FY,qy (rg:=rg) Gx.Qa]at hI hJ
  refine⟨_,rfl,LL,_,rfl, .inl (xS.of (Az _ _ Hy)),(xW.length:Int),rfl,by omega,by omega,?_⟩
  rw[toNat_natCast]
  have in4:∀ z:Addr,z ∉ b.four->z ∉ [b.le,b.dn]:=fun z hz h=>hz (by simp only[mem_cons,not_mem_nil,or_false]at h ⊢;rcases h with h | h<;>simp[h])
  refine b5 (n:=xW.length) (fun i σ H3=>∃ (a5 a6 a7 a8 a9:Option V)(d:List (List V)),yg H2 H3/\H3 LL=some (.lst xW)/\H3 MM=some (.lst yl)/\yU K (yx ys []) H3 b (cO b rg rm i (fun _=>0) d)/\zp b (cO b rg rm i (fun _=>0) d)/\d.length <= i/\σ=[some (.ref a.tb),some (.ref rr),some (.ref LL),some (.ref MM),some (.ref b.y),a5,a6,a7,a8,a9,none,none])
   ⟨none,none,none,none,none,[],xN.xX (xN.refl H2),Az _ _ Hy,Az _ _ KG,hI.Y,hJ,le_refl _,rfl⟩ ?_ ?_
  ·rintro i σ H3 hi ⟨a5,a6,a7,a8,a9,d,k3,EN,Na,zB,Nb,Uk,rfl⟩
   rw[zero_add]
   have KI:i < rg.length:=by omega
   have hv:=getElem?_eq_getElem hi
   have hmi:(cP a rg rm rg.length)[i]? = some (lH a rg rm i):=bS _ KI
   obtain⟨m',Bq,t,Qn,ht⟩:=Paired.at Hz hv
   rw[hmi]at Bq
   cases Bq
   rw[Qn]at hv
   have Qo:H3 t=some (.tup (lH a rg rm i)):=k3 _ _ (Az _ _ ht) True.intro
   have yD:=hR.ln i KI
   obtain⟨hg,hsg⟩:=Jy i KI
   obtain⟨pr,zv,An,MW⟩:=ku (kq xY) yD
   have D3:qk c TC J H3 b:=yC.keep W hI.T k3
   refine⟨_,rfl,_,rfl,LL,xW,(i:Int),_,rfl,rfl,xS.of EN,aj hv,t,_,rfl,xV.of Qo,rfl,_,_,rfl,_,_,rfl,_,_,rfl,_,_,rfl,rfl,?_⟩
   have BY:(cO b rg rm i (fun _=>0) d).xM.length=i:=by show((List.range i).map _).length=i;rw[length_map,length_range]
   have hp:=Gx.pos _ (Gx.ln i KI)
   have gd:=pH (n:=b.n) (wy:=b.wy) (m:=(cO b rg rm i (fun _=>0) d).xM.length) (a:=bu a (aH rg i).1) (b:=(aH rg i).2) (l:=(cj rm (aH rg i).1:Int)) (u:=0) (by omega) (by omega) ⟨by omega,by omega⟩ (by decide +kernel) hsg (by rw[e4];exact List.ne_nil_of_mem (hR.go i KI)) (by omega)
   refine⟨_,rfl,b.y,b.dy,_,rfl,zB.ins,rfl,_,rfl,_,rfl,_,rfl,_,rfl,b.y,b.dy,b.tb,b.ro,b.la,b.le,b.li,b.dn,b.lx,b.yz,b.lt,b.n,b.ye,b.ps,b.wy,cO b rg rm i (fun _=>0) d, .int (bu a (aH rg i).1), .int (aH rg i).2, .int (cj rm (aH rg i).1), .int 0,rfl,zB,D3, .int _, .int _, .int _, .int _,by omega,by show d.length <= _;omega,(fun h=>by rw[gd]at h;cases h),(fun h=>by rw[gd]at h;cases h),(fun h=>by rw[gd]at h;cases h),(fun h=>by rw[gd]at h;cases h),(fun h=>by rw[gd]at h;cases h),fun _ H4 o4 Ci=>⟨_,rfl,rfl,_,rfl,?_⟩⟩
   rw[BY,ed,decide_eq_true rfl]
   have Qp:∀ z ∈ [b.le,b.dn],∃ xs,H3 z=some (.lst xs):=fun z hz=>by
    simp only[mem_cons,not_mem_nil,or_false]at hz
    rcases hz with rfl | rfl
    ·exact zB.BP _ (by simp)
    ·exact zB.BP _ (by simp)
   have hx:(b.ps.getD (aH rg i).1 (0,0)).1=(bu a (aH rg i).1:Int):=by rw[e2,getD_eq_getElem?_getD,zv];exact An
   have Ci:yU K (yx ys []) H4 b (ip (cO b rg rm i (fun _=>0) d) (bu a (aH rg i).1) ((aH rg i).2:Int) (cj rm (aH rg i).1:Int) 0):=Ci
   have DI:=Nb.post (x:=bu a (aH rg i).1) (y:=(aH rg i).2) (l:=(cj rm (aH rg i).1:Int)) (u:=0) (by omega) (by omega) ⟨by omega,by omega⟩ (by omega)
   rw[tQ hx]at Ci DI
   exact aJ ⟨_,_,_,_,_,_,yg.trans k3 (yc.xX Qp o4),o4 _ _ (in4 _ MX) EN,o4 _ _ (in4 _ K8) Na,Ci,DI,by rw[length_append,length_singleton];omega,rfl⟩
  rintro σ H3 ⟨a5,a6,a7,a8,a9,d,k3,EN,Na,zB,Nb,Uk,rfl⟩
  rw[AA]at zB Nb Uk
  refine⟨_,rfl,MM,rfl,⟨_,xS.of Na⟩,?_⟩
  have EH:yl.length=(bN rg rm rg.length).length:=by rw[Paired.length KH,length_map]
  have hmle:=jk (rg:=rg) (rm:=rm) (m:=rg.length) fun k hk=>(hR.pos _ (hR.ln k hk)).2
  refine gx (K:=K) (a:=MM) (xs:=yl) (fun t σ H4=>∃ (za:Option V)(d:List (List V)),yg H3 H4/\H4 MM=some (.lst yl)/\yU K (yx ys []) H4 b (cO b rg rm rg.length (cy ((bN rg rm rg.length).take t)) d)/\zp b (cO b rg rm rg.length (cy ((bN rg rm rg.length).take t)) d)/\d.length <= 40 + t/\σ=[some (.ref a.tb),some (.ref rr),some (.ref LL),some (.ref MM),some (.ref b.y),a5,a6,a7,a8,a9,za,none])
   ⟨none,d,xN.xX (xN.refl H3),Na,zB,Nb,by omega,rfl⟩ (fun t σ H4 _ xU=>by obtain⟨_,_,_,g,_⟩:=xU;exact xS.of g) ?_ ?_
  ·rintro t v σ H4 hv ⟨za,d4,k4,Gv,Ci,DI,hd4,rfl⟩
   have ht:t < (bN rg rm rg.length).length:=by have:=(gQ0 hv);omega
   obtain⟨k,hk,KJ,Ul,Qq⟩:=sX (getElem?_eq_getElem ht)
   obtain⟨m',Bq,tv,rfl,Qn⟩:=Paired.at KH hv
   rw[getElem?_map,getElem?_eq_getElem ht,KJ]at Bq
   cases Bq
   have KL:H4 tv=some (.tup (eE (.y6 k (aH rg k).1))):=k4 _ _ (k3 _ _ (Az _ _ Qn) True.intro) True.intro
   have D4:qk c TC J H4 b:=yC.keep W hI.T (yg.trans k3 k4)
   have KN:Cm K c TC J (yx ys []) H4 b (cO b rg rm rg.length (cy ((bN rg rm rg.length).take t)) d4):=⟨Ci,D4,hI.O,DI.ok⟩
   have Dy:=uh Gx (f:=cy ((bN rg rm rg.length).take t)) (d:=d4) hk Ul
   refine⟨_,rfl,_,rfl,b.y,b.dy,_,rfl,Ci.ins,rfl,b,_,rfl,KN,fun Dm Qr H5 s5 hDm Nc hp5=>?_⟩
   refine⟨Dm,Qr,oK (.y6 k (aH rg k).1),(cC b (cO b rg rm rg.length (cy ((bN rg rm rg.length).take t)) d4)).map oK,rfl,nI _ (s5 _ _ KL),xS.of Nc,fu hp5,(fJ _).le (by decide),fun z hz=>by obtain⟨m',_,rfl⟩:=mem_map.mp hz;exact(fJ m').le (by decide),_,rfl,?_⟩
   rw[tj Dy]
   refine aJ ?_
   have Qs:=KN.same W s5
   refine⟨_,rfl,b.y,b.dy,_,rfl,Qs.Y.ins,rfl,_,rfl,b,_,tv, .y6 k (aH rg k).1,rfl,Qs,s5 _ _ KL,Dy,DI.sml (by show d4.length <= _;omega),fun H6 s' An o6 Um=>?_⟩
   have es:=uf Gx hk Ul An
   have Uo:=(DI.step An).done (d4 ++ [eE (.y6 k (aH rg k).1)])
   rw[es,← Qq]at Um Uo
   refine⟨_,d4 ++ [eE (.y6 k (aH rg k).1)],yg.trans k4 (yg.trans (xN.xX s5) (yc.xX (fun z hz=>Qs.Y.BP z hz) o6)),o6 _ _ K8 (s5 _ _ Gv),Um,Uo,by rw[length_append,length_singleton];omega,rfl⟩
  rintro σ H4 ⟨za,d4,k4,Gv,Ci,DI,hd4,rfl⟩
  rw[EH,take_length]at Ci DI
  have hcf:∀ k,k < rg.length->cy (bN rg rm rg.length) k=cj rm (aH rg k).1:=fun k hk=>by rw[lb,if_pos hk]
  have AJ:=wx Gx (d:=d4) hcf
  have EO:=ug Gx (cy (bN rg rm rg.length)) d4 D6
  have D4:qk c TC J H4 b:=yC.keep W hI.T (yg.trans k3 k4)
  have KN:Cm K c TC J (yx ys []) H4 b (cO b rg rm rg.length (cy (bN rg rm rg.length)) d4):=⟨Ci,D4,hI.O,DI.ok⟩
  have EL:∀ j,j < b.n->(cO b rg rm rg.length (cy (bN rg rm rg.length)) d4).lies[j]? = some []:=fun j hj=>by
   show(List.replicate b.n [])[j]? = _
   rw[List.getElem?_replicate,if_pos hj]
  have Kk:(cO b rg rm rg.length (cy (bN rg rm rg.length)) d4).xM.length=rg.length:=by show((List.range _).map _).length=_;rw[length_map,length_range]
  have hle2:(cO b rg rm rg.length (cy (bN rg rm rg.length)) d4).lies.length=b.n:=by show(List.replicate b.n _).length=_;rw[length_replicate]
  generalize cO b rg rm rg.length (cy (bN rg rm rg.length)) d4=s9 at *
  obtain⟨dx,BA,Up,hf4,_⟩:=D4.i
  rw[e1]at Up
  refine⟨_,rfl,a.tb,TC,dx,BA,_,rfl,Up,W.cl,W.nl,hf4,b.lx,c.land,b.yz,_,_,rfl,D4.l.1,L.cl,L.np,rfl,(b.n:Int),rfl,by omega,by omega,?_⟩
  rw[toNat_natCast]
  refine b8 b.n (by rw[sizeLine_eq];omega) (fun j acc H'=>xN H4 H'/\acc=[]) ⟨xN.refl _,rfl⟩ (fun j acc H' h=>by rw[h.2];exact zero_le _) (fun j acc H' hj h=>?_) (fun acc H' h=>?_)
  ·obtain⟨s5,rfl⟩:=h
   refine⟨hj,fun v H5 y=>?_⟩
   obtain⟨rfl,rfl⟩:=y
   rw[zero_add]
   have FI:=yf.same KN.Y s5
   refine⟨_,rfl,b.y,b.dy,_,rfl,FI.ins,rfl,_,rfl,b,s9,j,[],rfl,FI,EL j hj,fun D xZ H6 s6 hD gD hp=>⟨zero_le _,fun e0 Df=>?_⟩⟩
   have s7:=s6.new (o := .lst []) Df
   have g7:(upd H6 e0 (.lst [])) e0=some (.lst []):=ac
   have Uq:(upd H6 e0 (.lst [])) D=some (.lst xZ):=by rw[ae (ag gD Df)];exact gD
   have Nd:=yk.same ((xN.refl H6).new (o := .lst []) Df) hp
   generalize upd H6 e0 (.lst [])=H7 at s7 g7 Uq Nd ⊢
   exact neN (f:=r8) (l:=[]) (.lst (xS.of Uq) (sR Nd)) (.lst (xS.of g7) .nil) (pB _) ⟨_,rfl,aJ ⟨s5.trans s7,rfl⟩⟩
  obtain⟨s5,rfl⟩:=h
  refine⟨le_refl _,fun Dl TF=>?_⟩
  have s6:=s5.new (o := .lst []) TF
  have g6:(upd H' Dl (.lst [])) Dl=some (.lst []):=ac
  show bE 11 (V.ref Dl) _ (upd H' Dl (.lst [])) _
  generalize upd H' Dl (.lst [])=H6 at s6 g6 ⊢
  have Qt:=KN.same W s6
  refine⟨_,rfl,b.y,b.dy,_,rfl,Qt.Y.ins,rfl,b,s9,rfl,Qt,fun Dm mv7 H7 s7 hDm Nc Nd=>⟨zero_le _,fun e0 Df=>?_⟩⟩
  have s8:=s7.new (o := .lst []) Df
  have g8:(upd H7 e0 (.lst [])) e0=some (.lst []):=ac
  have Ur:(upd H7 e0 (.lst [])) Dm=some (.lst mv7):=by rw[ae (ag Nc Df)];exact Nc
  have Us:=Paired.mono (fun _ _ z=>y8.keep (xN.xX ((xN.refl H7).new (o := .lst []) Df)) z) Nd
  generalize upd H7 e0 (.lst [])=H8 at s8 g8 Ur Us ⊢
  refine eqN (f:=oK) (l:=cC b s9) (.lst (xS.of Ur) (fu Us)) (.lst (xS.of g8) .nil) (tU _) ⟨_,rfl,?_⟩
  rw[AJ]
  have Qu:=Qt.same W s8
  refine aN ⟨_,rfl,b.y,b.dy,_,rfl,Qu.Y.ins,rfl,b.y,b.dy,b.tb,b.ro,b.la,b.le,b.li,b.dn,s9,rfl,Qu.Y,by omega,by omega,fun H9 Qv=>⟨_,rfl,_,rfl,?_⟩⟩
  rw[EO]
  have hI9:=Qu.same W Qv
  refine aN ⟨_,rfl,b,s9,rfl,hI9,fun zJ Aq=>⟨_,_,rfl,rfl,_,rfl,?_⟩⟩
  have est:kj b s9=true:=by unfold kj;rw[AJ,EO];rfl
  rw[est]
  refine aN ⟨_,rfl,zero_le _,fun Fw Gj=>?_⟩
  have AD:(upd zJ Fw (.lst [])) Dl=some (.lst []):=by rw[ae (ag (Aq _ _ (Qv _ _ (s8 _ _ g6))) Gj)];exact Aq _ _ (Qv _ _ (s8 _ _ g6))
  exact⟨Dl,Fw,[],[],rfl,rfl,xS.of AD,xS.of ac,q _⟩
structure B1 (n:Nat)(ps:List (Int × Int))(ri:List Nat):Prop where
 ok:∀ p ∈ ps,fO n p=true
 at':∀ k l:Nat,ri[k]? = some l->ps[l]? = some ((k:Int),(((k + 1) % n:Nat):Int))
theorem B1.yh {n:Nat}{ps:List (Int × Int)}{ri:List Nat}(h:B1 n ps ri){p:Int × Int}(hp:fO n p=true):B1 n (ps ++ [p]) ri:=by
 refine⟨fun q hq=>?_,fun k l hl=>?_⟩
 ·rcases mem_append.mp hq with hq | hq
  ·exact h.ok q hq
  ·rw[mem_singleton.mp hq];exact hp
 ·have:=h.at' k l hl
  rw[getElem?_append_left (gQ0 this)]
  exact this
theorem B1.ring {n:Nat}{ps:List (Int × Int)}{ri:List Nat}(h:B1 n ps ri)(hk:fO n ((ri.length:Int),(((ri.length + 1) % n:Nat):Int))=true):B1 n (ps ++ [((ri.length:Int),(((ri.length + 1) % n:Nat):Int))]) (ri ++ [ps.length]):=by
 have h2:=h.yh hk
 refine⟨h2.ok,fun k l hl=>?_⟩
 by_cases e:k < ri.length
 ·rw[getElem?_append_left e]at hl
  exact h2.at' k l hl
 ·have Hu:k=ri.length:=by
   have:=(gQ0 hl)
   rw[length_append,length_singleton]at this
   omega
  subst Hu
  rw[getElem?_append_right (le_refl _),sub_self]at hl
  have hl:some ps.length=some l:=hl
  cases hl
  rw[getElem?_append_right (le_refl _),sub_self]
  rfl
noncomputable def oy (K:Frag):Sp:=fun vs H Q _=>∃ (sc:Addr)(ns:List Int)(n:Nat),vs=[.ref sc, .int n]/\xS K H sc (ns.map V.int)/\3 <= n/\n <= 6 /\
 ∀ (t D R:Addr)(xW:List V)(ps:List (Int × Int))(ri:List Nat)(H':Hp),xN H H'->H t=none->H D=none->H R=none->H' t=some (.tup [.ref D, .ref R])->H' D=some (.lst xW)->yk H' xW ps->H' R=some (.lst (nV ri))->B1 n ps ri->ps.length <= 2 * n->ri.length=n->Q (.ref t) H'
abbrev NLn:List Str:=["_law_script", "_law_places", "_law_lanes_here", "_law_ring", "_law_k", "_law_j", "_law_draw"]
structure LI (H H2:Hp)(D R:Addr)(n m k:Nat):Prop where
 s:xN H H2
 ex:∃ xW ps ri,H2 D=some (.lst xW)/\yk H2 xW ps/\H2 R=some (.lst (nV ri))/\B1 n ps ri/\ps.length <= m/\ri.length=k
structure Qw (n:Nat)(gs:List Nat):Prop where
 len:gs.length=n
 lt:∀ k g,gs[k]? = some g->g < n/\g ≠ k/\g ≠ (k + 1) % n/\(3 < n->g ≠ (k + n - 1) % n)
noncomputable def oz:Sp:=fun vs H Q _=>∃ (v:V)(n:Nat)(c:Int),vs=[v, .int n, .int c]/\3 <= n/\n <= 6/\∀ (D:Addr)(gs:List Nat)(H':Hp),xN H H'->H D=none->H' D=some (.lst (nV gs))->Qw n gs->Q (.ref D) H'
abbrev NGl:List Str:=["_law_ring", "_law_places", "_law_cell", "_law_goals_here", "_law_k"]
theorem uS {n k o:Nat}(h3:3 <= n)(h6:n <= 6)(hk:k < n)(ho:o < 1∨o < n - 3):(k + 2 + o) % n < n/\(k + 2 + o) % n ≠ k/\(k + 2 + o) % n ≠ (k + 1) % n/\(3 < n->(k + 2 + o) % n ≠ (k + n - 1) % n):=by
 refine⟨mod_lt _ (by omega),?_⟩
 have hn:n=3∨n=4∨n=5∨n=6:=by omega
 rcases hn with rfl | rfl | rfl | rfl<;>omega
theorem Ca:ar NLn ["_law_script", "_law_places"] (al mX):=L2.yq
theorem rN {f fm fc:Addr}{fd dm dc:FuncData}(F:yn K "_law_lanes" "_law_lanes" mX f fd)(T:fR mg)(mm:mg "_law_mixed" = some (.ref fm))(km:keepIn K (.ref fm)=true)(bm:Binds K dm ["_law_cell", "_law_k"] [])(Gm:xO P w K mg base aF 1 fm dm ["_law_cell", "_law_k"] oq)
  (mc:mg "_law_cell_at" = some (.ref fc)) (kc:keepIn K (.ref fc)=true) (bc:Binds K dc ["_law_script", "_law_k"] []) (Gc:xO P w K mg base aF 1 fc dc ["_law_script", "_law_k"] (mP K)) :
  xO P w K mg base aF 2 f fd ["_law_script", "_law_places"] (oy K):=by
 refine F.ok Ca (fun _ _ _ _ h=>?_) (fun _ _ _ s H _ Q E hr h=>?_)
 ·obtain⟨sc,ns,n,rfl,_⟩:=h
  rfl
 ·obtain⟨sc,ns,n,rfl,hS,ER,CI,q⟩:=h
  refine⟨_,af (aD (i:=2) Ca.nd rfl (Or.inl rfl) (aP ad))
   (af (aD (i:=3) Ca.nd rfl (Or.inl rfl) (aP ad))
   (af (bB PassesOwn.never rfl (aS rfl T.range (aa (pv 1) ad)) (aq (i:=4) Ca.nd rfl (Or.inl rfl))
    (af (bB PassesOwn.never rfl (aS rfl T.range (aa (ax bx (az Gm hr rfl mm km bm .nil ap (aa (az Gc hr rfl mc kc bc .nil ap (aa (pv 0) (aa ai ad))) (aa (pv 4) ad))) ai) ad)) (aq (i:=5) Ca.nd rfl (Or.inl rfl))
     (af (aD (i:=6) Ca.nd rfl (Or.inl rfl) (az Gm hr rfl mm km bm .nil ap (aa (az Gc hr rfl mc kc bc .nil ap (aa (pv 0) (aa ai ad))) (aa (ax bD ai (pv 4)) ad))))
     (ak (aU (cp plainAttrs_list PySem.F.slot_list_append PySem.F.type_list_append b0 (pv 2) (aa (aW (aa (ax bx (pv 6) (pv 1)) (aa (ax bx (ax bD (ax bD (ax bx (pv 6) (pv 1)) ai) (ax bx (ax dY (pv 6) ai) (ax cI (pv 1) ai))) (pv 1)) ad))) ad))))))
    (af (aU (cp plainAttrs_list PySem.F.slot_list_append PySem.F.type_list_append b0 (pv 3) (aa (aB aC rfl T.len PySem.boot_len (aa (pv 2) ad)) ad)))
    (ak (aU (cp plainAttrs_list PySem.F.slot_list_append PySem.F.type_list_append b0 (pv 2) (aa (aW (aa (pv 4) (aa (ax bx (ax bD (pv 4) ai) (pv 1)) ad))) ad)))))))
   (ak (au (aW (aa (pv 2) (aa (pv 3) ad))))))),?_⟩
  have two:(2:Nat) <= sizeLine:=by decide
  have Ax:(0:Int) < (n:Int):=by omega
  have Ut:(0:Int) < (n:Int) - 1:=by omega
  refine⟨zero_le _,fun D hD=>?_⟩
  have u1:=(xN.refl H).new (o := .lst []) hD
  have Nf:(upd H D (.lst [])) D=some (.lst []):=ac
  show bE 2 (V.ref D) _ (upd H D (.lst [])) _
  generalize upd H D (.lst [])=H1 at u1 Nf ⊢
  refine⟨zero_le _,fun R hR=>?_⟩
  have u2:=u1.new (o := .lst []) hR
  have Uu:(upd H1 R (.lst [])) R=some (.lst []):=ac
  have K3:(upd H1 R (.lst [])) D=some (.lst []):=by rw[ae (ag Nf hR)];exact Nf
  have Qx:D ≠ R:=ag Nf hR
  have nR:H R=none:=u1.free hR
  show bE 3 (V.ref R) _ (upd H1 R (.lst [])) _
  generalize upd H1 R (.lst [])=H2 at u2 Uu K3 ⊢
  refine⟨_,rfl,(n:Int),rfl,by omega,by omega,?_⟩
  rw[toNat_natCast]
  refine b5 (n:=n) (fun k σ H3=>∃ a4 a5 a6:Option V,LI H H3 D R n (2 * k) k/\σ=[some (.ref sc),some (.int n),some (.ref D),some (.ref R),a4,a5,a6])
   ⟨none,none,none,⟨u2,[],[],[],K3, .nil,Uu,⟨(fun p hp=>by cases hp),(fun k l h=>by cases h)⟩,le_refl _,rfl⟩,rfl⟩ ?_ ?_
  rotate_left
  ·rintro σ H3 ⟨a4,a5,a6,⟨s3,xW,ps,ri,MT,Bf,ES,ET,zm,zj⟩,rfl⟩
   refine⟨_,rfl,_,rfl,two,fun t ht=>?_⟩
   have v:=(xN.refl H3).new (o := .tup [.ref D, .ref R]) ht
   exact q t D R xW ps ri _ (s3.trans v) (s3.free ht) hD nR ac (v _ _ MT) (yk.same v Bf) (v _ _ ES) ET zm zj
  rintro k σ H3 hk ⟨a4,a5,a6,I3,rfl⟩
  rw[zero_add]
  refine⟨_,rfl,sc,ns,1,rfl,I3.s.seq hS,fun d1=>⟨_,rfl,d1,k,rfl,by omega,fun d2 hd2=>⟨_,_,rfl,rfl,(by show (0:Int) < 2;decide),?_⟩⟩⟩
  obtain⟨m,hm,hm2⟩:∃ m:Nat,d2 % 2=(m:Int)/\m <= 1:=⟨(d2 % 2).toNat,by omega,by omega⟩
  refine⟨(m:Int),by rw[← hm],by omega,by omega,?_⟩
  rw[toNat_natCast]
  refine b5 (n:=m) (fun j σ H4=>∃ a5 a6:Option V,LI H H4 D R n (2 * k + j) k/\σ=[some (.ref sc),some (.int n),some (.ref D),some (.ref R),some (.int (k:Int)),a5,a6])
   ⟨_,_,I3,rfl⟩ ?_ ?_
  ·rintro j σ H4 hj ⟨a5,a6,⟨s4,xW,ps,ri,KO,EU,Co,ET,zm,zj⟩,rfl⟩
   have AA:xW.length=ps.length:=Paired.length EU
   refine⟨_,rfl,sc,ns,1,rfl,s4.seq hS,fun d3=>⟨_,rfl,_,_,rfl,rfl,d3,20 + k,rfl,by omega,fun d hd=>?_⟩⟩
   refine⟨_,rfl, .inl ⟨rfl,_,xS.of KO⟩,_,rfl,_,rfl,_,_,rfl,rfl,Ax,_,rfl,_,rfl,_,_,rfl,rfl,Ax,_,_,rfl,rfl,_,rfl,_,_,rfl,rfl,⟨by decide,by decide⟩,_,rfl,_,_,rfl,rfl,_,_,rfl,rfl,Ut,_,_,rfl,rfl,_,rfl,_,_,rfl,rfl,Ax,two,fun t1 h1=>?_⟩
   have r:=ue (emod_nonneg d (show (n:Int) ≠ 0 by omega)) (emod_lt_of_pos d Ax) (emod_nonneg (d / 16) (show (n:Int) - 1 ≠ 0 by omega)) (emod_lt_of_pos (d / 16) Ut)
   obtain⟨e1,e2,e3⟩:=jy (x:=d % (n:Int)) (y:=(d % (n:Int) + 1 + d / 16 % ((n:Int) - 1)) % (n:Int)) hD s4 KO EU h1
   refine⟨D,xW,_,rfl,rfl,e1,by rw[sizeLine_eq];omega,_,_,⟨e2,_,_,ri,ac,e3,?_,ET.yh (rT (emod_nonneg d (by omega)) (emod_lt_of_pos d Ax) r.1 r.2.1 r.2.2),by rw[length_append,length_singleton];omega,zj⟩,rfl⟩
   rw[ae (Ne.symm Qx),ae (ag Co h1)]
   exact Co
  rintro σ H4 ⟨a5,a6,⟨s4,xW,ps,ri,KO,EU,Co,ET,zm,zj⟩,rfl⟩
  have AA:xW.length=ps.length:=Paired.length EU
  refine⟨_,rfl, .inl ⟨rfl,_,xS.of Co⟩,_,rfl,D,_,rfl, .inl (xS.of KO),R,nV ri,_,rfl,rfl,Co,by rw[c9,sizeLine_eq];omega,?_⟩
  have k5:yg H4 (upd H4 R (.lst (nV ri ++ [V.int ((xW.length:Nat):Int)]))):=eN Co
  have s5:xN H (upd H4 R (.lst (nV ri ++ [V.int ((xW.length:Nat):Int)]))):=fun b o e=>by rw[ae (ag e nR)];exact s4 _ _ e
  have Qy:(upd H4 R (.lst (nV ri ++ [V.int ((xW.length:Nat):Int)]))) R=some (.lst (nV (ri ++ [ps.length]))):=by rw[ac,kL,AA];rfl
  have Qz:(upd H4 R (.lst (nV ri ++ [V.int ((xW.length:Nat):Int)]))) D=some (.lst xW):=by rw[ae Qx];exact KO
  have Uv:=k5.BN EU
  generalize upd H4 R (.lst (nV ri ++ [V.int ((xW.length:Nat):Int)]))=H5 at s5 Qy Qz Uv ⊢
  refine⟨_,rfl, .inl ⟨rfl,_,xS.of Qz⟩,_,rfl,_,rfl,_,_,rfl,rfl,_,rfl,_,_,rfl,rfl,Ax,two,fun t1 h1=>?_⟩
  obtain⟨e1,e2,e3⟩:=jy (x:=(k:Int)) (y:=((k:Int) + 1) % (n:Int)) hD s5 Qz Uv h1
  have ek:((k:Int) + 1) % (n:Int)=(((k + 1) % n:Nat):Int):=by rw[natCast_emod];rfl
  have Ac:(k + 1) % n ≠ k:=by
   by_cases e:k + 1=n
   ·rw[e,mod_self];omega
   ·rw[mod_eq_of_lt (by omega)];omega
  have Ng:=mod_lt (k + 1) (show 0 < n by omega)
  have xY:fO n ((ri.length:Int),(((ri.length + 1) % n:Nat):Int))=true:=by
   rw[zj]
   exact rT (by omega) (by omega) (by omega) (by omega) (by omega)
  have hn:=ET.ring xY
  rw[zj,← ek]at hn
  refine⟨D,xW,_,rfl,rfl,e1,by rw[sizeLine_eq];omega,_,_,_,⟨e2,_,_,ri ++ [ps.length],ac,e3,?_,hn,by rw[length_append,length_singleton];omega,by rw[length_append,length_singleton];omega⟩,rfl⟩
  rw[ae (Ne.symm Qx),ae (ag Qy h1)]
  exact Qy
theorem Gz:ar NGl ["_law_ring", "_law_places", "_law_cell"] (al mY):=L2.yq
theorem rO {f fm:Addr}{fd dm:FuncData}(F:yn K "_law_goals" "_law_goals" mY f fd)(T:fR mg)(mm:mg "_law_mixed" = some (.ref fm))(km:keepIn K (.ref fm)=true)(bm:Binds K dm ["_law_cell", "_law_k"] [])(Gm:xO P w K mg base aF 1 fm dm ["_law_cell", "_law_k"] oq) :
  xO P w K mg base aF 2 f fd ["_law_ring", "_law_places", "_law_cell"] oz:=by
 refine F.ok Gz (fun _ _ _ _ h=>?_) (fun _ _ _ s H _ Q E hr h=>?_)
 ·obtain⟨v,n,c,rfl,_⟩:=h
  rfl
 ·obtain⟨v,n,c,rfl,ER,CI,q⟩:=h
  refine⟨_,af (aD (i:=3) Gz.nd rfl (Or.inl rfl) (aP ad))
   (af (bB PassesOwn.never rfl (aS rfl T.range (aa (pv 1) ad)) (aq (i:=4) Gz.nd rfl (Or.inl rfl))
    (ak (aU (cp plainAttrs_list PySem.F.slot_list_append PySem.F.type_list_append b0 (pv 3) (aa (ax bx (ax bD (ax bD (pv 4) ai) (ax bx (az Gm hr rfl mm km bm .nil ap (aa (pv 2) (aa (pv 4) ad))) (aB (qf rfl) rfl T.max PyProof.Rows.boot_max (aa ai (aa (ax cI (pv 1) ai) ad))))) (pv 1)) ad)))))
   (ak (au (pv 3)))),?_⟩
  have Ax:(0:Int) < (n:Int):=by omega
  refine⟨zero_le _,fun D hD=>?_⟩
  have u1:=(xN.refl H).new (o := .lst []) hD
  refine⟨_,rfl,(n:Int),rfl,by omega,by omega,?_⟩
  rw[toNat_natCast]
  refine b5 (n:=n) (fun k σ H3=>∃ (a4:Option V)(gs:List Nat),xN H H3/\H3 D=some (.lst (nV gs))/\gs.length=k/\(∀ k g,gs[k]? = some g->g < n/\g ≠ k/\g ≠ (k + 1) % n/\(3 < n->g ≠ (k + n - 1) % n))/\σ=[some v,some (.int n),some (.int c),some (.ref D),a4])
   ⟨none,[],u1,ac,rfl,(fun k g h=>by cases h),rfl⟩ ?_ ?_
  rotate_left
  ·rintro σ H3 ⟨a4,gs,s3,g3,hl,hg,rfl⟩
   exact⟨_,rfl,q D gs H3 s3 hD g3 ⟨hl,hg⟩⟩
  rintro k σ H3 hk ⟨a4,gs,s3,g3,hl,hg,rfl⟩
  rw[zero_add]
  obtain⟨L,hL,CY⟩:∃ L:Nat,(if ((n:Int) - 3) > 1 then ((n:Int) - 3) else 1)=(L:Int)/\(L=1∨L=n - 3)/\0 < L:=by
   by_cases h:((n:Int) - 3) > 1
   ·exact⟨n - 3,by rw[if_pos h];omega, .inr rfl,by omega⟩
   ·exact⟨1,if_neg h, .inl rfl,by omega⟩
  refine⟨_,rfl, .inl ⟨rfl,_,xS.of g3⟩,_,rfl,_,_,rfl,rfl,_,rfl,_,rfl,c,k,rfl,by omega,fun d hd=>⟨_,rfl,_,_,rfl,rfl,_,_,rfl,?_⟩⟩
  rw[hL]
  refine⟨_,_,rfl,rfl,by show (0:Int) < (L:Int);omega,_,_,rfl,rfl,_,rfl,_,_,rfl,rfl,Ax,D,nV gs,_,rfl,rfl,g3,by rw[c9,sizeLine_eq];omega,?_⟩
  obtain⟨o,ho,Sw⟩:∃ o:Nat,d % (L:Int)=(o:Int)/\o < L:=by
   have h1:=emod_nonneg d (show (L:Int) ≠ 0 by omega)
   have h2:=emod_lt_of_pos d (show (0:Int) < (L:Int) by omega)
   exact⟨(d % (L:Int)).toNat,by omega,by omega⟩
  have eg:((k:Int) + 2 + d % (L:Int)) % (n:Int)=(((k + 2 + o) % n:Nat):Int):=by rw[ho,natCast_emod];rfl
  have Jy:=uS (o:=o) ER CI hk (by omega)
  refine⟨_,gs ++ [(k + 2 + o) % n],(fun b u e=>by rw[ae (ag e hD)];exact s3 _ _ e),?_,by rw[length_append,length_singleton];omega,fun j g hj=>?_,rfl⟩
  ·rw[ac,kL]
   exact congrArg (fun z=>some (HO.lst (nV gs ++ [V.int z]))) eg
  ·by_cases e:j < gs.length
   ·rw[getElem?_append_left e]at hj
    exact hg j g hj
   ·have hj2:j=k:=by
     have:=(gQ0 hj)
     rw[length_append,length_singleton]at this
     omega
    subst hj2
    rw[getElem?_append_right (by omega),hl,sub_self]at hj
    have hj:some ((j + 2 + o) % n)=some g:=hj
    cases hj
    exact Jy
theorem n9 {sel:Int × Int->Int}{ps:List (Int × Int)}{pl:Int}{k:Nat}(h:k ∈ cx sel ps pl):k < ps.length:=mem_range.mp (mem_filter.mp h).1
theorem oT (sel:Int × Int->Int)(ps:List (Int × Int))(pl:Int):(cx sel ps pl).length <= ps.length:=by
 have:=length_filter_le (fun k=>decide (sel (ps.getD k (0,0))=pl)) (List.range ps.length)
 rw[length_range]at this
 exact this
noncomputable def ix (ps:List (Int × Int))(p:Nat):List (Option Nat):=none :: (cx Prod.snd ps p).map some
abbrev dP:=Int × Int × Option Nat
noncomputable def aX (r:Rw):dP:=(r.p,r.g,r.c)
noncomputable def bV (k:dP):fv:=[some k.1,some k.2.1,k.2.2.map fun z:Nat=>(z:Int)]
theorem jh (r:Rw):bV (aX r)=aK r:=rfl
theorem l9 {k l:dP}(h:bV k=bV l):k=l:=by
 obtain⟨a,b,c⟩:=k
 obtain⟨a',b',c'⟩:=l
 simp only[bV,List.cons.injEq,Option.some.injEq,and_true]at h
 obtain⟨rfl,rfl,h⟩:=h
 congr 2
 cases c<;>cases c'<;>simp_all<;>omega
theorem jp {a r:Rw}(h:aK a=aK r):aX a=aX r:=l9 h
structure tG (n:Nat)(ps:List (Int × Int))(r:Rw):Prop where
 pg:∃ p g:Nat,r.p=(p:Int)/\r.g=(g:Int)/\p < n/\g < n/\g ≠ p/\r.c ∈ ix ps p
 s:∀ k ∈ r.s,k ∈ cx Prod.fst ps r.p
 yI:r.s.length <= 40
theorem rj {n:Nat}{ps:List (Int × Int)}{rs:List Rw}(hg:∀ r ∈ rs,tG n ps r)(nd:(rs.map aX).Nodup):dj n ps rs rs.length=none:=by
 refine fE fun k hk=>?_
 have hr:rs[k]? = some rs[k]:=getElem?_eq_getElem hk
 have M8:rs.getD k ⟨0,0,none,[]⟩ = rs[k]:=by rw[getD_eq_getElem?_getD,hr];rfl
 rw[M8,gH]
 have hm:rs[k] ∈ rs:=getElem_mem hk
 have G:=hg _ hm
 obtain⟨p,g,e1,e2,hp,hg',Cb,e3⟩:=G.pg
 have Dz:gA n ps rs[k]=true:=by
  unfold gA
  have ho:fO n (rs[k].p,rs[k].g)=true:=by
   unfold fO
   simp only[Bool.and_eq_true,decide_eq_true_eq,Bool.not_eq_true',decide_eq_false_iff_not]
   rw[e1,e2]
   refine⟨⟨by omega,by omega⟩,⟨by omega,by omega⟩,by omega⟩
  rw[ho,Bool.true_and]
  have hs:(rs[k].s.all fun z=>decide (z ∈ cx Prod.fst ps rs[k].p))=true:=by
   rw[all_eq_true]
   exact fun z hz=>decide_eq_true (G.s z hz)
  rw[hs,Bool.and_true]
  cases hc:rs[k].c with
  | none=>rfl
  | some z =>
   rw[hc]at e3
   rcases mem_cons.mp e3 with e | e
   ·cases e
   ·obtain⟨z',hz,e⟩:=mem_map.mp e
    cases e
    show decide (z ∈ cx Prod.snd ps rs[k].p)=true
    rw[e1]
    exact decide_eq_true hz
 rw[Dz]
 have Q0:((rs.take k).any fun a=>decide (aK a=aK rs[k]))=false:=by
  rw[List.any_eq_false]
  intro a ha hd
  have e:=jp (of_decide_eq_true hd)
  obtain⟨j,hj,ea⟩:=mem_take_iff_getElem.mp ha
  have hj':j < k:=by omega
  have:=List.pairwise_iff_getElem.mp nd j k (by rw[length_map];omega) (by rw[length_map];exact hk) hj'
  rw[getElem_map,getElem_map,ea]at this
  exact this e
 rw[Q0];rfl
noncomputable def ij (m:Nat):List (Option Nat):=none :: (List.range m).map some
theorem xB (m:Nat):[V.yd] ++ ((List.range m).map fun k:Nat=>V.int (k:Int))=(ij m).map cV:=by
 unfold ij
 rw[map_cons,map_map]
 rfl
theorem tE {m j:Nat}{v:V}(h:((ij m).map cV)[j]? = some v):∃ c,v=cV c/\sY c=j/\∀ k,c=some k->k < m:=by
 rw[getElem?_map]at h
 cases j with
 | zero=>exact⟨none,(Option.some.inj h).symm,rfl,fun k e=>by cases e⟩
 | succ j =>
  unfold ij at h
  rw[List.getElem?_cons_succ,getElem?_map]at h
  by_cases hj:j < m
  ·rw[List.getElem?_range hj]at h
   exact⟨some j,(Option.some.inj h).symm,rfl,fun k e=>by cases e;exact hj⟩
  ·rw[List.getElem?_eq_none (by rw[length_range];omega)]at h
   cases h
noncomputable def Ae (i j t:Nat)(c:Option Nat)(xs:List Nat)(r:Rw):Prop:=r.g < (i:Int)∨(r.g=(i:Int)/\(sY r.c < j∨(r.c=c/\∃ p ∈ xs.take t,r.p=(p:Int))))
theorem Ae.new {i j t p:Nat}{c:Option Nat}{xs:List Nat}{rs:List Rw}(h:∀ r ∈ rs,Ae i j t c xs r)(hj:sY c=j)(hp:xs[t]? = some p)(nd:xs.Nodup){us:List Nat}:aX ⟨(p:Int),(i:Int),c,us⟩ ∉ rs.map aX:=by
 intro hm
 obtain⟨r,hr,e⟩:=mem_map.mp hm
 have e1:r.p=(p:Int):=congrArg (fun z=>z.1) e
 have e2:r.g=(i:Int):=congrArg (fun z=>z.2.1) e
 have e3:r.c=c:=congrArg (fun z=>z.2.2) e
 rcases h r hr with h | ⟨_,h | ⟨_,p',Bn,e4⟩⟩
 ·omega
 ·rw[e3]at h;omega
 ·have:p' = p:=by omega
  subst this
  obtain⟨k,hk,ek⟩:=mem_take_iff_getElem.mp Bn
  obtain⟨ht,et⟩:=List.getElem?_eq_some_iff.mp hp
  have:=List.pairwise_iff_getElem.mp nd k t (by omega) ht (by omega)
  exact this (ek.trans et.symm)
theorem Ae.next {i j t:Nat}{c:Option Nat}{xs:List Nat}{r:Rw}(h:Ae i j t c xs r):Ae i j (t + 1) c xs r:=by
 rcases h with h | ⟨e,h | ⟨e2,p,hp,e3⟩⟩
 ·exact .inl h
 ·exact .inr ⟨e, .inl h⟩
 ·exact .inr ⟨e, .inr ⟨e2,p,by rw[take_succ];exact mem_append_left _ hp,e3⟩⟩
theorem Ae.at {i j t p:Nat}{c:Option Nat}{xs:List Nat}(hp:xs[t]? = some p){us:List Nat}:Ae i j (t + 1) c xs ⟨(p:Int),(i:Int),c,us⟩ :=
 .inr ⟨rfl, .inr ⟨rfl,p,by rw[take_succ,hp];exact mem_append_right _ mem_cons_self,rfl⟩⟩
theorem Ae.end {i j t:Nat}{c:Option Nat}{xs:List Nat}{r:Rw}(h:Ae i j t c xs r)(hj:sY c=j)(c':Option Nat)(G0:List Nat):Ae i (j + 1) 0 c' G0 r:=by
 rcases h with h | ⟨e,h | ⟨e2,p,hp,e3⟩⟩
 ·exact .inl h
 ·exact .inr ⟨e, .inl (by omega)⟩
 ·exact .inr ⟨e, .inl (by rw[e2];omega)⟩
theorem Ae.zero {i j:Nat}{c:Option Nat}{xs:List Nat}{r:Rw}(h:Ae i j 0 c xs r)(c':Option Nat)(G0:List Nat):Ae i j 0 c' G0 r:=by
 rcases h with h | ⟨e,h | ⟨e2,p,hp,e3⟩⟩
 ·exact .inl h
 ·exact .inr ⟨e, .inl h⟩
 ·rw[take_zero]at hp;cases hp
theorem Ae.up {i j:Nat}{c:Option Nat}{xs:List Nat}{r:Rw}(h:Ae i j 0 c xs r)(c':Option Nat)(G0:List Nat):Ae (i + 1) 0 0 c' G0 r:=by
 rcases h with h | ⟨e,_⟩
 ·exact .inl (by omega)
 ·exact .inl (by omega)
noncomputable def AllK (n:Nat)(ps:List (Int × Int))(rs:List Rw):Prop:=∀ (p g:Nat)(c:Option Nat),p < n->g < n->p ≠ g->c ∈ ix ps p->((p:Int),(g:Int),c) ∈ rs.map aX
theorem nn {α β:Type}{f:α->β}:∀ {xs:List α},(xs.map f).Nodup->∀ {a b:α},a ∈ xs->b ∈ xs->f a=f b->a=b
 | x :: xs,nd,a,b,ha,hb,e=>by
  rw[map_cons,nodup_cons]at nd
  rcases mem_cons.mp ha with ha | ha<;>rcases mem_cons.mp hb with hb | hb
  ·rw[ha,hb]
  ·exact absurd (mem_map.mpr ⟨b,hb,by rw[← e,ha]⟩) nd.1
  ·exact absurd (mem_map.mpr ⟨a,ha,by rw[e,hb]⟩) nd.1
  ·exact nn nd.2 ha hb e
theorem uN {rs:List Rw}{r:Rw}(nd:(rs.map aX).Nodup)(hr:r ∈ rs):ci rs (aK r)=some r:=by
 cases e:ci rs (aK r) with
 | none =>
  unfold ci at e
  rw[List.find?_eq_none]at e
  exact absurd (decide_eq_true rfl) (e r (mem_reverse.mpr hr))
 | some r' =>
  have h1:=gw e
  have h2:aK r' = aK r:=by
   unfold ci at e
   have e3:=List.find?_some e
   exact of_decide_eq_true e3
  rw[nn nd h1 hr (jp h2)]
theorem xo (r:Rw):(aK r).map gY=[.int r.p, .int r.g,cV r.c]:=by
 unfold aK
 cases r.c<;>rfl
noncomputable def dQ (H:Hp)(x:bO)(r:Rw):Prop:=x.1=aK r/\H x.2.1=some (.tup ((aK r).map gY))/\∃ U,x.2.2 = .ref U/\H U=some (.lst (aL r.s))
theorem jS {H H':Hp}(s:xN H H'){xP:List bO}{rs:List Rw}(h:Paired (dQ H) xP rs):Paired (dQ H') xP rs:=by
 induction h with
 | nil=>exact .nil
 | cons h1 _ ih=>obtain⟨a,b,U,c,d⟩:=h1;exact .cons ⟨a,s _ _ b,U,c,s _ _ d⟩ ih
theorem pb {P:Program}{w:World}{H:Hp}{D:Addr}{kv kv':List bO}(hd:H D=some (bF P w D kv)){xP:List bO}{rs:List Rw}(h:Paired (dQ H) xP rs):Paired (dQ (upd H D (bF P w D kv'))) xP rs:=by
 induction h with
 | nil=>exact .nil
 | cons h1 _ ih =>
  obtain⟨a,b,U,c,d⟩:=h1
  exact .cons ⟨a,by rw[ae (aV b hd (by intro z;cases z))];exact b,U,c,by rw[ae (aV d hd (by intro z;cases z))];exact d⟩ ih
theorem pZ {H:Hp}{xP:List bO}{rs:List Rw}{x:bO}{r:Rw}(h:Paired (dQ H) xP rs)(hx:dQ H x r):Paired (dQ H) (xP ++ [x]) (rs ++ [r]):=by
 induction h with
 | nil=>exact .cons hx .nil
 | cons h1 _ ih=>exact .cons h1 ih
theorem lN {P:Program}{w:World}{H:Hp}{D:Addr}{xP:List bO}{rs:List Rw}(hd:H D=some (bF P w D xP))(h:Paired (dQ H) xP rs):y2 P w H D xP:=by
 refine⟨hd,?_⟩
 clear hd
 induction h with
 | nil=>intro x hx;cases hx
 | cons h1 _ ih =>
  intro x hx
  rcases mem_cons.mp hx with e | hx
  ·rw[e,h1.1];exact h1.2.1
  ·exact ih x hx
theorem sN {H:Hp}{xP:List bO}{rs:List Rw}{r:Rw}(h:Paired (dQ H) xP rs)(hn:aX r ∉ rs.map aX):c6 xP (aK r)=none:=by
 induction h with
 | nil=>rfl
 | @cons x r' _ _ h1 _ ih =>
  rw[map_cons,mem_cons]at hn
  rw[bL,h1.1,if_neg (fun e=>hn (.inl (jp e).symm))]
  exact ih fun z=>hn (.inr z)
theorem nH {H:Hp}{xP:List bO}{rs:List Rw}(h:Paired (dQ H) xP rs)(nd:(rs.map aX).Nodup){r:Rw}(hr:r ∈ rs):∃ U,c6 xP (aK r)=some (.ref U)/\H U=some (.lst (aL r.s)):=by
 induction h with
 | nil=>cases hr
 | @cons x r' _ _ h1 _ ih =>
  rw[map_cons,nodup_cons]at nd
  obtain⟨a,b,U,c,d⟩:=h1
  rw[bL]
  rcases mem_cons.mp hr with e | hr
  ·rw[e,if_pos a]
   exact⟨U,by rw[c],d⟩
  ·rw[if_neg (fun e=>nd.1 (mem_map.mpr ⟨r,hr,(jp (a.symm.trans e)).symm⟩))]
   exact ih nd.2 hr
structure Af (P:Program)(w:World)(H0 H:Hp)(D:Addr)(xP:List bO)(rs:List Rw)(n:Nat)(ps:List (Int × Int)):Prop where
 s:xN H0 H
 nD:H0 D=none
 d:H D=some (bF P w D xP)
 r:Paired (dQ H) xP rs
 g:∀ r ∈ rs,tG n ps r
 nd:(rs.map aX).Nodup
theorem Af.same {P:Program}{w:World}{H0 H H':Hp}{D:Addr}{xP:List bO}{rs:List Rw}{n:Nat}{ps:List (Int × Int)}(h:Af P w H0 H D xP rs n ps)(s:xN H H'):Af P w H0 H' D xP rs n ps:=⟨h.s.trans s,h.nD,s _ _ h.d,jS s h.r,h.g,h.nd⟩
theorem Af.add {P:Program}{w:World}{H0 H:Hp}{D tt U:Addr}{xP:List bO}{rs:List Rw}{n:Nat}{ps:List (Int × Int)}(h:Af P w H0 H D xP rs n ps){r:Rw}
  (gt:H tt=some (.tup ((aK r).map gY))) (gU:H U=some (.lst (aL r.s))) (hr:tG n ps r) (hn:aX r ∉ rs.map aX):Af P w H0 (upd H D (bF P w D (cF xP (aK r) tt (.ref U)))) D (cF xP (aK r) tt (.ref U)) (rs ++ [r]) n ps where
 s:=fun b o e=>by rw[ae (ag e h.nD)];exact h.s _ _ e
 nD:=h.nD
 d:=ac
 r:=by
  have e:cF xP (aK r) tt (.ref U)=xP ++ [(aK r,tt, .ref U)]:=by
   unfold cF
   rw[sN h.r hn,if_neg (by decide)]
  rw[e]
  exact pb h.d (pZ h.r ⟨rfl,gt,U,rfl,gU⟩)
 g:=fun r' El=>by
  rcases mem_append.mp El with z | z
  ·exact h.g _ z
  ·rw[mem_singleton.mp z];exact hr
 nd:=by
  rw[map_append]
  refine List.nodup_append.mpr ⟨h.nd,nodup_cons.mpr ⟨not_mem_nil,nodup_nil⟩,fun a ha b hb e=>?_⟩
  rw[map_cons,map_nil]at hb
  rw[mem_singleton.mp hb]at e
  rw[e]at ha
  exact hn ha
noncomputable def Bh (n:Nat)(ps:List (Int × Int))(i j t:Nat)(cc:Option Nat)(xs:List Nat)(rs:List Rw):Prop:=∀ (p g:Nat)(c:Option Nat),p < n->p ≠ g->c ∈ ix ps p->(g < i∨(g=i/\(sY c < j∨(c=cc/\p ∈ xs.take t))))->((p:Int),(g:Int),c) ∈ rs.map aX
theorem va {a b:Option Nat}(h:sY a=sY b):a=b:=by
 cases a<;>cases b<;>simp only[sY]at h
 ·rfl
 ·omega
 ·omega
 ·rw[show (_:Nat)=_ from Nat.succ.inj h]
theorem sZ {ps:List (Int × Int)}{p:Nat}{c:Option Nat}(h:c ∈ ix ps p):sY c < ps.length + 1:=by
 rcases mem_cons.mp h with e | e
 ·rw[e];show 0 < _;omega
 ·obtain⟨k,hk,rfl⟩:=mem_map.mp e
  have:=n9 hk
  show k + 1 < _
  omega
theorem Bh.zero {n i j:Nat}{ps:List (Int × Int)}{rs:List Rw}{c:Option Nat}{xs:List Nat}(h:Bh n ps i j 0 c xs rs)(c':Option Nat)(G0:List Nat):Bh n ps i j 0 c' G0 rs:=fun p g c2 hp Cb hc hw=>h p g c2 hp Cb hc (by
 rcases hw with hw | ⟨e,hw | ⟨_,hw⟩⟩
 ·exact .inl hw
 ·exact .inr ⟨e, .inl hw⟩
 ·rw[take_zero]at hw;cases hw)
theorem Bh.next {n i j t p0:Nat}{ps:List (Int × Int)}{rs Q2:List Rw}{cc:Option Nat}{xs:List Nat}(h:Bh n ps i j t cc xs rs)(KP:xs[t]? = some p0)(Cy:∀ k ∈ rs.map aX,k ∈ Q2.map aX)(G5:p0 ≠ i->((p0:Int),(i:Int),cc) ∈ Q2.map aX):Bh n ps i j (t + 1) cc xs Q2:=fun p g c hp Cb hc hw=>by
 rcases hw with hw | ⟨e,hw | ⟨e2,hw⟩⟩
 ·exact Cy _ (h p g c hp Cb hc (.inl hw))
 ·exact Cy _ (h p g c hp Cb hc (.inr ⟨e, .inl hw⟩))
 ·rw[take_succ,KP]at hw
  rcases mem_append.mp hw with hw | hw
  ·exact Cy _ (h p g c hp Cb hc (.inr ⟨e, .inr ⟨e2,hw⟩⟩))
  ·have:p=p0:=by simpa using hw
   subst this
   subst e e2
   exact G5 Cb
theorem Bh.end {n i j t:Nat}{ps:List (Int × Int)}{rs:List Rw}{cc:Option Nat}{xs:List Nat}(h:Bh n ps i j t cc xs rs)(ht:xs.length <= t)(hj:sY cc=j)(hxs:∀ p,p < n->cc ∈ ix ps p->p ∈ xs):Bh n ps i (j + 1) 0 none [] rs:=fun p g c hp Cb hc hw=>h p g c hp Cb hc (by
 rcases hw with hw | ⟨e,hw | ⟨_,hw⟩⟩
 ·exact .inl hw
 ·rcases lt_or_ge (sY c) j with h1 | h1
  ·exact .inr ⟨e, .inl h1⟩
  ·have:c=cc:=va (by omega)
   subst this
   exact .inr ⟨e, .inr ⟨rfl,by rw[take_of_length_le ht];exact hxs p hp hc⟩⟩
 ·rw[take_zero]at hw;cases hw)
theorem Bh.up {n i:Nat}{ps:List (Int × Int)}{rs:List Rw}(h:Bh n ps i (ps.length + 1) 0 none [] rs):Bh n ps (i + 1) 0 0 none [] rs:=fun p g c hp Cb hc hw=>h p g c hp Cb hc (by
 rcases hw with hw | ⟨e,hw | ⟨_,hw⟩⟩
 ·rcases lt_or_ge g i with h1 | h1
  ·exact .inl h1
  ·exact .inr ⟨by omega, .inl (sZ hc)⟩
 ·omega
 ·rw[take_zero]at hw;cases hw)
structure AO (P:Program)(w:World)(H:Hp)(D:Addr)(xP:List bO)(rs:List Rw)(n:Nat)(ps:List (Int × Int)):Prop where
 d:H D=some (bF P w D xP)
 r:Paired (dQ H) xP rs
 g:∀ r ∈ rs,tG n ps r
 nd:(rs.map aX).Nodup
 all:AllK n ps rs
 yI:rs.length <= 108
theorem AO.same {P:Program}{w:World}{H H':Hp}{D:Addr}{xP:List bO}{rs:List Rw}{n:Nat}{ps:List (Int × Int)}(h:AO P w H D xP rs n ps)(s:xN H H'):AO P w H' D xP rs n ps:=⟨s _ _ h.d,jS s h.r,h.g,h.nd,h.all,h.yI⟩
noncomputable def bY (k:dP)(us:List Nat)(r:Rw):Rw:=if aX r=k then { r with s:=us } else r
theorem lq (k:dP)(us:List Nat)(r:Rw):aX (bY k us r)=aX r:=by
 unfold bY
 split<;>rfl
theorem gK (k:dP)(us:List Nat)(rs:List Rw):(rs.map (bY k us)).map aX=rs.map aX:=by
 rw[map_map]
 exact map_congr_left fun r _=>lq k us r
theorem sM {H:Hp}{U:Addr}{us:List Nat}{k:dP}(gU:H U=some (.lst (aL us))){xP:List bO}{rs:List Rw}(h:Paired (dQ H) xP rs):Paired (dQ H) (xP.map (i3 (bV k) (.ref U))) (rs.map (bY k us)):=by
 induction h with
 | nil=>exact .nil
 | @cons x r _ _ h1 _ ih =>
  refine .cons ?_ ih
  obtain⟨a,b,U',c,d⟩:=h1
  unfold i3 bY
  by_cases e:aX r=k
  ·rw[if_pos (by rw[a];exact congrArg bV e),if_pos e]
   exact⟨a,b,U,rfl,gU⟩
  ·rw[if_neg (fun z=>e (l9 (a.symm.trans z))),if_neg e]
   exact⟨a,b,U',c,d⟩
theorem pF (k:fv)(v:V)(xP:List bO):(xP.map (i3 k v)).map (fun x=>V.ref x.2.1)=xP.map (fun x=>V.ref x.2.1):=by
 rw[map_map]
 refine map_congr_left fun x _=>?_
 show V.ref (i3 k v x).2.1=_
 unfold i3
 split<;>rfl
theorem AO.put {P:Program}{w:World}{H:Hp}{D U tt:Addr}{xP:List bO}{rs:List Rw}{n:Nat}{ps:List (Int × Int)}(h:AO P w H D xP rs n ps){r:Rw}{us:List Nat}(hr:r ∈ rs)(gU:H U=some (.lst (aL us)))(hs:∀ z ∈ us,z ∈ cx Prod.fst ps r.p)(hl:us.length <= 40) :
  ∃ CJ,cF xP (aK r) tt (.ref U)=CJ/\AO P w (upd H D (bF P w D CJ)) D CJ (rs.map (bY (aX r) us)) n ps/\CJ.map (fun x=>V.ref x.2.1)=xP.map (fun x=>V.ref x.2.1):=by
 obtain⟨U0,hv,_⟩:=nH h.r h.nd hr
 refine⟨xP.map (i3 (aK r) (.ref U)),by unfold cF;rw[hv];rfl,⟨ac,pb h.d (sM (k:=aX r) gU h.r),fun r' El=>?_,by rw[gK];exact h.nd,fun p g c a b c' d=>by rw[gK];exact h.all p g c a b c' d,by rw[length_map];exact h.yI⟩,pF _ _ _⟩
 obtain⟨r0,h0,rfl⟩:=mem_map.mp El
 have G:=h.g r0 h0
 unfold bY
 by_cases e:aX r0=aX r
 ·rw[if_pos e]
  have e1:r0.p=r.p:=congrArg (fun y=>y.1) e
  exact⟨G.pg,fun z hz=>by show z ∈ cx Prod.fst ps r0.p;rw[e1];exact hs z hz,hl⟩
 ·rw[if_neg e];exact G
theorem iD {rs:List Rw}{k:dP}(h:k ∈ rs.map aX):∃ r ∈ rs,aX r=k:=by
 obtain⟨r,hr,e⟩:=mem_map.mp h
 exact⟨r,hr,e⟩
theorem xN.BJ {H H2:Hp}{a:Addr}{o:Obj}{u:HO}(ha:H a=some u)(s:xN (upd H a (.yW o u)) H2):xN H (upd H2 a u):=fun b x e=>by
 by_cases hb:b=a
 ·subst hb
  rw[ac,← e,ha]
 ·rw[ae hb]
  exact s _ _ (by rw[ae hb];exact e)
theorem vL {H:Hp}{kv:List bO}{rs:List Rw}(h:Paired (dQ H) kv rs):∀ {k:Nat}{x:bO},kv[k]? = some x->∃ r,rs[k]? = some r/\dQ H x r:=by
 induction h with
 | nil=>intro k x hx;cases hx
 | cons h1 _ ih =>
  intro k x hx
  cases k with
  | zero=>cases hx;exact⟨_,rfl,h1⟩
  | succ k=>exact ih hx
theorem qc {P:Program}{w:World}{a:Addr}{o:Obj}{xP:List bO}{rs:List Rw}{g:TG}{te:TE}{σ0:St}{H:Hp}{Q:VK}(hn:xP.length < sizeLine)(ha:H a=some (.yW o (bF P w a xP)))(hE:Paired (dQ H) xP rs)
  (hs:∀ (x:bO)(r:Rw)(U:Addr)(H1:Hp)(N:V->Hp->Prop),r ∈ rs->xN H H1->H1 x.2.1=some (.tup [.int r.p, .int r.g,cV r.c])->(∀ t U,H1 t=none->H1 U=some (.lst (aL r.s))->N (.ref t) (upd H1 t (.tup [.int r.p, .int r.g,cV r.c, .ref U])))->g (.ref x.2.1) σ0 H1 fun σ2 H2=>te σ2 H2 N)
  (hq:∀ D vs H1,xN H H1->H1 D=none->zO H1 vs rs->Q (.ref D) (upd H1 D (.lst vs))):cQ (OM P w a o xP) g j4 te σ0 Q H:=by
 have hl:xP.length=rs.length:=Paired.length hE
 refine b8 xP.length hn (fun i acc H'=>xN H H'/\zO H' acc (rs.take i)) ⟨xN.refl _, .nil⟩ (fun i acc H' h=>by have:=Paired.length h.2;rw[this];exact length_take_le _ _) (fun i acc H' hi h=>?_) (fun acc H' h=>?_)
 ·obtain⟨s,hL⟩:=h
  refine⟨⟨s _ _ ha,hi⟩,fun v H2 y=>?_⟩
  obtain⟨e,x,hx,rfl⟩:=y
  subst e
  obtain⟨r,hr,e1,e2,U,e3,e4⟩:=vL hE hx
  have Mm:rs.take (i + 1)=rs.take i ++ [r]:=by rw[take_succ,hr];rfl
  refine hs x r U H2 (fun y H4=>xN H H4/\zO H4 (acc ++ [y]) (rs.take (i + 1))) (mem_of_getElem? hr) s (by rw[s _ _ e2,xo]) fun t U' ht Q3=>⟨s.new ht,?_⟩
  rw[Mm]
  have s2:=(xN.refl H2).new (o := .tup [.int r.p, .int r.g,cV r.c, .ref U']) ht
  have JS:=zO.same s2 hL
  have:∀ {vs:List V}{qs:List Rw},zO (upd H2 t (.tup [.int r.p, .int r.g,cV r.c, .ref U'])) vs qs->zO (upd H2 t (.tup [.int r.p, .int r.g,cV r.c, .ref U'])) (vs ++ [.ref t]) (qs ++ [r]):=by
   intro vs qs h
   induction h with
   | nil=>exact .cons ⟨t,U',rfl,ac,s2 _ _ Q3⟩ .nil
   | cons h1 _ ih=>exact .cons h1 ih
  exact this JS
 ·obtain⟨s,hL⟩:=h
  rw[hl,take_length]at hL
  exact⟨⟨s _ _ ha,rfl⟩,fun D hD=>hq D acc H' s hD hL⟩
noncomputable def eC (rs:List Rw)(k:dP):List Nat:=match rs.find? fun r=>decide (aX r=k) with
 | some r=>r.s
 | none=>[]
theorem KQ {α β:Type} [DecidableEq β] {f:α->β} {y:β} {l:List α} {x:α} (h:l.find? (fun r=>decide (f r=y))=some x):f x=y:=by
 have:=List.find?_some h
 exact of_decide_eq_true this
theorem oB {rs:List Rw}(nd:(rs.map aX).Nodup){r:Rw}(hr:r ∈ rs):eC rs (aX r)=r.s:=by
 unfold eC
 cases h:rs.find? fun r'=>decide (aX r' = aX r) with
 | none =>
  have:=List.find?_eq_none.mp h r hr
  exact absurd (decide_eq_true rfl) this
 | some r' =>
  rw[nn nd (mem_of_find?_eq_some h) hr (KQ h)]
theorem lM (k k':dP)(us:List Nat)(rs:List Rw):(rs.map (bY k us)).find? (fun r=>decide (aX r=k'))=(rs.find? fun r=>decide (aX r=k')).map (bY k us):=by
 rw[List.find?_map]
 congr 1
 refine congrArg (fun f=>List.find? f rs) (funext fun r=>?_)
 show decide (aX (bY k us r)=k')=_
 rw[lq]
theorem fZ {rs:List Rw}{k:dP}(h:k ∈ rs.map aX)(us:List Nat):eC (rs.map (bY k us)) k=us:=by
 unfold eC
 rw[lM]
 cases e:rs.find? fun r=>decide (aX r=k) with
 | none =>
  obtain⟨r,hr,ek⟩:=iD h
  exact absurd (decide_eq_true ek) (List.find?_eq_none.mp e r hr)
 | some r =>
  show(bY k us r).s=us
  unfold bY
  rw[if_pos (KQ e)]
theorem dU {rs:List Rw}{k k':dP}(h:k ≠ k')(us:List Nat):eC (rs.map (bY k us)) k' = eC rs k':=by
 unfold eC
 rw[lM]
 cases e:rs.find? fun r=>decide (aX r=k') with
 | none=>rfl
 | some r =>
  have ek:aX r=k':=KQ e
  show(bY k us r).s=r.s
  unfold bY
  rw[if_neg (by rw[ek];exact Ne.symm h)]
noncomputable def kN (p g:Nat)(c:Option Nat):dP:=((p:Int),(g:Int),c)
theorem kd {rs:List Rw}(nd:(rs.map aX).Nodup){p g:Nat}{c:Option Nat}{z:Nat}:z ∈ m7 rs p g c↔z ∈ eC rs (kN p g c):=by
 unfold m7 jA
 by_cases h:kN p g c ∈ rs.map aX
 ·obtain⟨r,hr,ek⟩:=iD h
  have e:aK ⟨(p:Int),(g:Int),c,[]⟩ = aK r:=by rw[← jh,← jh,ek];rfl
  rw[e,uN nd hr,← ek,oB nd hr]
  unfold mN
  rw[Yd.Cw (Yd.Ds _),Yd.zf,Nat.zero_testBit,Bool.false_or,decide_eq_true_eq]
 ·have e1:ci rs (aK ⟨(p:Int),(g:Int),c,[]⟩)=none:=by
   cases e:ci rs (aK ⟨(p:Int),(g:Int),c,[]⟩) with
   | none=>rfl
   | some r =>
    refine absurd (mem_map.mpr ⟨r,gw e,?_⟩) h
    unfold ci at e
    exact jp (KQ e)
  have e2:eC rs (kN p g c)=[]:=by
   unfold eC
   cases e:rs.find? fun r=>decide (aX r=kN p g c) with
   | none=>rfl
   | some r=>exact absurd (mem_map.mpr ⟨r,mem_of_find?_eq_some e,KQ e⟩) h
  rw[e1,e2]
  constructor
  ·intro hz;exact absurd hz (by show z ∉ mN 0;intro h;cases h)
  ·intro hz;cases hz
theorem wH {l:List Nat}{z:Nat}(nd:l.Nodup)(h:∀ x,x ∈ l↔x=z):l=[z]:=by
 cases l with
 | nil=>exact absurd ((h z).mpr rfl) not_mem_nil
 | cons a l =>
  have ha:=(h a).mp mem_cons_self
  subst ha
  cases l with
  | nil=>rfl
  | cons b l =>
   have hb:=(h b).mp (mem_cons_of_mem _ mem_cons_self)
   subst hb
   exact absurd mem_cons_self (nodup_cons.mp nd).1
theorem p6 (rs:List Rw)(p g:Nat)(c:Option Nat):(m7 rs p g c).Nodup:=lG _
theorem tM {rs:List Rw}(nd:(rs.map aX).Nodup){p g:Nat}{c:Option Nat}{z:Nat}(h:eC rs (kN p g c)=[z]):m7 rs p g c=[z]:=wH (p6 rs p g c) fun x=>by rw[kd nd,h,mem_singleton]
theorem e9 {P:Program}{w:World}{H:Hp}{D:Addr}{xP:List bO}{rs:List Rw}{n:Nat}{ps:List (Int × Int)}(h:AO P w H D xP rs n ps){k:dP}(hk:k ∈ rs.map aX):∃ U,c6 xP (bV k)=some (.ref U)/\H U=some (.lst (aL (eC rs k)))/\∀ z ∈ eC rs k,z ∈ cx Prod.fst ps k.1:=by
 obtain⟨r,hr,ek⟩:=iD hk
 obtain⟨U,h1,h2⟩:=nH h.r h.nd hr
 rw[← ek,oB h.nd hr]
 exact⟨U,h1,h2,(h.g r hr).s⟩
theorem kA {rs:List Rw}{b:Nat}(h:∀ r ∈ rs,r.s.length <= b)(k:dP):(eC rs k).length <= b:=by
 unfold eC
 cases e:rs.find? fun r=>decide (aX r=k) with
 | none=>exact zero_le _
 | some r=>exact h r (mem_of_find?_eq_some e)
theorem tY {k:dP}{us:List Nat}{rs:List Rw}{b:Nat}(h:∀ r ∈ rs,r.s.length <= b)(hu:us.length <= b):∀ r ∈ rs.map (bY k us),r.s.length <= b:=fun r hr=>by
 obtain⟨r0,h0,rfl⟩:=mem_map.mp hr
 unfold bY
 split
 ·exact hu
 ·exact h r0 h0
structure EI (P:Program)(w:World)(H H2:Hp)(D:Addr)(xP:List bO)(rs:List Rw)(n:Nat)(ps:List (Int × Int))(b:Nat):Prop where
 s:xN H H2
 e:AO P w H2 D xP rs n ps
 len:∀ r ∈ rs,r.s.length <= b
theorem EI.same {P:Program}{w:World}{H H2 H3:Hp}{D:Addr}{xP:List bO}{rs:List Rw}{n b:Nat}{ps:List (Int × Int)}(h:EI P w H H2 D xP rs n ps b)(s:xN H2 H3):EI P w H H3 D xP rs n ps b:=⟨h.s.trans s,h.e.same s,h.len⟩
theorem EI.up {P:Program}{w:World}{H H2:Hp}{D:Addr}{xP:List bO}{rs:List Rw}{n b b':Nat}{ps:List (Int × Int)}(h:EI P w H H2 D xP rs n ps b)(hb:b <= b'):EI P w H H2 D xP rs n ps b':=⟨h.s,h.e,fun r hr=>le_trans (h.len r hr) hb⟩
theorem EI.put {P:Program}{w:World}{H H2:Hp}{D U tt:Addr}{xP:List bO}{rs:List Rw}{n b:Nat}{ps:List (Int × Int)}(h:EI P w H H2 D xP rs n ps b)(nD:H D=none)(hb:b <= 40){k:dP}{us:List Nat}(hk:k ∈ rs.map aX)(gU:H2 U=some (.lst (aL us)))(hs:∀ z ∈ us,z ∈ cx Prod.fst ps k.1)(hl:us.length <= b) :
  EI P w H (upd H2 D (bF P w D (cF xP (bV k) tt (.ref U)))) D (cF xP (bV k) tt (.ref U)) (rs.map (bY k us)) n ps b:=by
 obtain⟨r,hr,ek⟩:=iD hk
 have e1:r.p=k.1:=congrArg (fun y=>y.1) ek
 obtain⟨CJ,e,hE,_⟩:=h.e.put (tt:=tt) hr gU (by rw[e1];exact hs) (le_trans hl hb)
 rw[← jh,ek]at e
 rw[ek]at hE
 rw[e]
 exact⟨fun c o z=>by rw[ae (ag z nD)];exact h.s _ _ z,hE,tY h.len hl⟩
theorem EI.DJ {P:Program}{w:World}{H H2:Hp}{D:Addr}{xP:List bO}{rs:List Rw}{n b:Nat}{ps:List (Int × Int)}(h:EI P w H H2 D xP rs n ps b):y2 P w H2 D xP/\vn P w H2 D xP/\xP.length + 1 < sizeLine:=by
 have Q4:=lN h.e.d h.e.r
 have h1:xP.length=rs.length:=Paired.length h.e.r
 have h2:=h.e.yI
 exact⟨Q4,⟨.inl Q4.1,Q4.2⟩,by rw[sizeLine_eq];omega⟩
noncomputable def gN (l:List Nat)(k:Nat):Nat:=l.getD k 0
theorem eu {l:List Nat}{k:Nat}(h:k < l.length):l[k]? = some (gN l k):=by
 unfold gN
 rw[getD_eq_getElem?_getD,getElem?_eq_getElem h];rfl
theorem e7 {l:List Nat}{k:Nat}(h:k < l.length):(nV l)[k]? = some (V.int (gN l k)):=jj (eu h)
noncomputable def k1 (gs:List Nat)(k:Nat):dP:=kN k (gN gs k) none
noncomputable def k2 (n:Nat)(ri gs:List Nat)(k:Nat):dP:=kN ((k + 1) % n) (gN gs k) (some (gN ri k))
noncomputable def ld (n:Nat)(ri gs:List Nat)(rs:List Rw)(m:Nat):Prop:=∀ k,k < m->gN ri k ∈ eC rs (k1 gs k)/\eC rs (k2 n ri gs k)=[gN ri ((k + 1) % n)]
noncomputable def KR (n:Nat)(ri gs:List Nat)(rs:List Rw):Prop:=∃ k,k < n/\(gN ri k ∉ eC rs (k1 gs k)∨∃ y ∈ eC rs (k2 n ri gs k),y ≠ gN ri ((k + 1) % n))
theorem eP {p g p' g':Nat}{c c':Option Nat}(h:kN p g c=kN p' g' c'):p=p'/\g=g'/\c=c':=by
 unfold kN at h
 injection h with h1 h2
 injection h2 with h2 h3
 exact⟨by omega,by omega,h3⟩
theorem nh {n:Nat}{ps:List (Int × Int)}{ri:List Nat}(h:B1 n ps ri){j k:Nat}(hj:j < ri.length)(hk:k < ri.length)(e:gN ri j=gN ri k):j=k:=by
 have h1:=h.at' j _ (eu hj)
 have h2:=h.at' k _ (eu hk)
 rw[e,h2]at h1
 injection h1 with h1
 injection h1 with h1 _
 omega
theorem fN {n:Nat}{ps:List (Int × Int)}{ri:List Nat}(h:B1 n ps ri){k:Nat}(hk:k < ri.length):gN ri k ∈ cx Prod.fst ps (k:Int)/\some (gN ri k) ∈ ix ps ((k + 1) % n):=by
 have h1:=h.at' k _ (eu hk)
 have hl:=(gQ0 h1)
 have e:ps.getD (gN ri k) (0,0)=((k:Int),(((k + 1) % n:Nat):Int)):=by rw[getD_eq_getElem?_getD,h1];rfl
 refine⟨mem_filter.mpr ⟨mem_range.mpr hl,decide_eq_true ?_⟩,mem_cons_of_mem _ (mem_map.mpr ⟨_,mem_filter.mpr ⟨mem_range.mpr hl,decide_eq_true ?_⟩,rfl⟩)⟩
 ·rw[e]
 ·rw[e]
theorem pY {n:Nat}{ps:List (Int × Int)}{ri gs:List Nat}{rs:List Rw}{k:Nat}(h:B1 n ps ri)(zj:ri.length=n)(hk:k < n)(G:ld n ri gs rs k)(m1:k1 gs k ∈ rs.map aX)(m2:k2 n ri gs k ∈ rs.map aX) :
  ld n ri gs ((rs.map (bY (k1 gs k) (eC rs (k1 gs k) ++ [gN ri k]))).map (bY (k2 n ri gs k) [gN ri ((k + 1) % n)])) (k + 1):=fun j hj=>by
 have Uw:k2 n ri gs k ≠ k1 gs j:=fun e=>by have:=(eP e).2.2;cases this
 by_cases e:j=k
 ·subst e
  refine⟨?_,fZ (by rw[gK];exact m2) _⟩
  rw[dU Uw,fZ m1]
  exact mem_append_right _ mem_cons_self
 ·obtain⟨g1,g2⟩:=G j (by omega)
  refine⟨?_,?_⟩
  ·rw[dU Uw,dU (show k1 gs k ≠ k1 gs j from fun z=>e (eP z).1.symm)]
   exact g1
  ·have n2:k2 n ri gs k ≠ k2 n ri gs j:=fun z=>by
    have:=(eP z).2.2
    injection this with this
    exact e (nh h (by omega) (by omega) this).symm
   rw[dU n2,dU (show k1 gs k ≠ k2 n ri gs j from fun z=>by have:=(eP z).2.2;cases this)]
   exact g2
theorem vc {n:Nat}{ri gs:List Nat}{rs:List Rw}{k p2:Nat}{us Dc Ti:List Nat}{c3:Nat}(hk:k < n)(m1:k1 gs k ∈ rs.map aX)(hp:p2 ≠ k)(hu:gN ri k ∉ us) :
  KR n ri gs (((rs.map (bY (k1 gs k) us)).map (bY (kN p2 (gN gs k) none) Dc)).map (bY (kN k (gN gs k) (some c3)) Ti)):=by
 refine⟨k,hk, .inl ?_⟩
 rw[dU (show kN k (gN gs k) (some c3) ≠ k1 gs k from fun z=>by have:=(eP z).2.2;cases this),dU (show kN p2 (gN gs k) none ≠ k1 gs k from fun z=>hp (eP z).1),fZ m1]
 exact hu
theorem vb {n:Nat}{ri gs:List Nat}{rs:List Rw}{k:Nat}{us:List Nat}{y:Nat}(hk:k < n)(m2:k2 n ri gs k ∈ rs.map aX)(hy:y ∈ us)(hn:y ≠ gN ri ((k + 1) % n)):KR n ri gs (rs.map (bY (k2 n ri gs k) us)) :=
 ⟨k,hk, .inr ⟨y,by rw[fZ m2];exact hy,hn⟩⟩
theorem sG {n:Nat}{ps:List (Int × Int)}{ri gs:List Nat}{rs:List Rw}{k:Nat}(h:B1 n ps ri)(zj:ri.length=n)(hk:k < n)(G:ld n ri gs rs n)(m2:k2 n ri gs k ∈ rs.map aX):ld n ri gs (rs.map (bY (k2 n ri gs k) [gN ri ((k + 1) % n)])) n:=fun j hj=>by
 obtain⟨g1,g2⟩:=G j hj
 refine⟨by rw[dU (show k2 n ri gs k ≠ k1 gs j from fun z=>by have:=(eP z).2.2;cases this)];exact g1,?_⟩
 by_cases e:j=k
 ·subst e
  exact fZ m2 _
 ·rw[dU (show k2 n ri gs k ≠ k2 n ri gs j from fun z=>by
   have:=(eP z).2.2
   injection this with this
   exact e (nh h (by omega) (by omega) this).symm)]
  exact g2
noncomputable def qC (K:Frag):Sp:=fun vs H Q _=>∃ (l R G:Addr)(xW:List V)(ps:List (Int × Int))(ri gs:List Nat)(n od:Nat)(c:Int),vs=[.ref l, .ref R, .ref G, .int c, .int od]/\H l=some (.lst xW)/\yk H xW ps/\B1 n ps ri/\ps.length <= 12/\3 <= n/\n <= 6/\H R=some (.lst (nV ri))/\ri.length=n/\H G=some (.lst (nV gs))/\Qw n gs/\od <= 2 * n/\(od < 2 * n->3 < n) /\
 ∀ (t Rl:Addr)(yi:List V)(rs:List Rw)(Al:Nat)(H':Hp),xN H H'->H' t=some (.tup [.ref Rl, .int Al])->H' Rl=some (.lst yi)->zO H' yi rs->(∀ r ∈ rs,tG n ps r)->(rs.map aX).Nodup->rs.length <= 108->Al <= 2 * n->(Al = 2 * n->ld n ri gs rs n)->(Al < 2 * n->KR n ri gs rs)->Q (.ref t) H'
abbrev Nh:List Str:=["_law_lanes_here", "_law_ring", "_law_goals_here", "_law_cell", "_law_odd"]
abbrev xH:List Str:=["_law_lanes_here", "_law_ring", "_law_goals_here", "_law_cell", "_law_odd", "_law_places", "_law_entries", "_law_goal", "_law_came", "_law_some", "_law_place", "_law_draw", "_law_out", "_law_k", "_law_first", "_law_ahead", "_law_more"]
noncomputable def KS (s:Stmt):List Stmt:=match s with
 | .If _ b _ _=>b
 | _=>[]
noncomputable def Ux (s:Stmt):List Stmt:=match s with
 | .If _ _ b _=>b
 | _=>[]
noncomputable def KU (s:Stmt):Scope:=match s with
 | .Return (some (.Tuple (.ListComp _ _ sc _ :: _) _ _)) _=>sc
 | _=>zQ0
theorem yL:ar xH Nh (al cW):=L2.yq
theorem KW:yK xH (al cW) (mz (cZ (KS (cZ (fQ (cZ (fQ (cZ (fQ (cZ (aG cW) 2)) 0)) 2)) 1)) 0)) ["_law_lanes_here", "_law_place"] [0,10]:=L2.zA
theorem KY:yK xH (al cW) (mz (cZ (KS (cZ (fQ (cZ (fQ (cZ (fQ (cZ (aG cW) 2)) 0)) 2)) 1)) 1)) ["_law_draw"] [11]:=L2.zA
theorem KZ:yK xH (al cW) (mz (cZ (KS (cZ (aG cW) 4)) 1)) ["_law_ring", "_law_odd"] [1,4]:=L2.zA
theorem La:yK xH (al cW) (mz (cZ (KS (cZ (Ux (cZ (aG cW) 4)) 0)) 1)) ["_law_lanes_here", "_law_place"] [0,10]:=L2.zA
theorem Lb:yK xH (al cW) (mz (cZ (KS (cZ (Ux (cZ (aG cW) 4)) 0)) 2)) ["_law_ring", "_law_place"] [1,10]:=L2.zA
theorem Lc:yK xH (al cW) (KU (cZ (aG cW) 5)) ["_law_entries"] [6]:=L2.zA
theorem Ld:(["_law_lane", "_law_lanes_here", "_law_place"]:List Str).Nodup:=by decide +kernel
theorem Q5:(["_law_lane", "_law_draw"]:List Str).Nodup:=by decide +kernel
theorem Q6:(["_law_lane", "_law_ring", "_law_odd"]:List Str).Nodup:=by decide +kernel
theorem Q7:(["_law_lane", "_law_ring", "_law_place"]:List Str).Nodup:=by decide +kernel
theorem Q8:(["_law_key", "_law_entries"]:List Str).Nodup:=by decide +kernel
theorem u0 {f fm:Addr}{fd dm:FuncData}(F:yn K "_law_rows" "_law_rows" cW f fd)(T:fR mg)(mm:mg "_law_mixed" = some (.ref fm))(km:keepIn K (.ref fm)=true)(bm:Binds K dm ["_law_cell", "_law_k"] [])(Gm:xO P w K mg base aF 1 fm dm ["_law_cell", "_law_k"] oq) :
  xO P w K mg base aF 2 f fd Nh (qC K):=by
 refine F.ok yL (fun _ _ _ _ h=>?_) (fun _ _ _ s H _ Q E hr h=>?_)
 ·obtain⟨l,R,G,xW,ps,ri,gs,n,od,c,rfl,_⟩:=h
  rfl
 ·obtain⟨l,R,G,xW,ps,ri,gs,n,od,c,rfl,gl,CZ,B3,zm,ER,CI,gR,zj,gG,hG,Le,G6,q⟩:=h
  have hu:=hr.units
  have BM:=lt_of_le_of_lt (Nat.add_le_add_left (show 1 <= 64 by decide) _) hr.units
  refine⟨_,(af (aD (i:=5) yL.nd rfl (Or.inl rfl) (aB aC rfl T.len PySem.boot_len (aa (pv 1) ad)))
    (af (aD (i:=6) yL.nd rfl (Or.inr rfl) (show PE _ _ (qv P w) from oE))
    (af (bB PassesOwn.never rfl (aS rfl T.range (aa (pv 5) ad)) (aq (i:=7) yL.nd rfl (Or.inl rfl))
    (ak (bB PassesOwn.never rfl (bA (ax jf (aP (aa bH ad)) (aY (fG rfl) rfl T.list PySem.Pv.boot_list (aa (aY lX rfl T.range PyProof.Rows.boot_range (aa (aB aC rfl T.len PySem.boot_len (aa (pv 0) ad)) ad)) ad)))) (aq (i:=8) yL.nd rfl (Or.inl rfl))
    (af (aD (i:=9) yL.nd rfl (Or.inl rfl) (aY (fG rfl) rfl T.list PySem.Pv.boot_list (aa (aY lX rfl T.range PyProof.Rows.boot_range (aa (pv 5) ad)) ad)))
    (af (eX (aR (aw oF (pv 8) bH (ay _)) (ak (aD (i:=9) yL.nd rfl (Or.inl rfl) (aP (aa (ao av (ao aA (pv 0) (pv 8) (fun _ _=>rfl)) ai (fun _ _=>rfl)) ad)))) aE))
    (ak (bB PassesOwn.never rfl (bA (pv 9)) (aq (i:=10) yL.nd rfl (Or.inr rfl))
    (af (aD (i:=11) yL.nd rfl (Or.inr rfl) (ax dY (az Gm hr rfl mm km bm .nil ap (aa (pv 3) (aa (ax bD (ax bD (ax dE ai (pv 7)) (ax dE ai (pv 10))) (aB qg rfl T.len PySem.boot_len (aa (pv 6) ad))) ad))) ai))
    (ak (aR (aw iq (pv 10) (pv 7) (ay _))
     (af (c7 (i:=12) (own:=["_law_lane"]) (capN:=["_law_lanes_here", "_law_place"]) (cap:=[0,10]) KW rfl yL.nd rfl rfl (aS rfl T.range (aa (aB aC rfl T.len PySem.boot_len (aa (pv 0) ad)) ad))
     (fun C s' H' fp=>⟨aq (i:=0) Ld rfl (Or.inl rfl),cf (aw bG (ao (show j0 _ (gP K) from av) (ao (show j0 _ (kD K) from aA) (pv 1) (pv 0) (fun _ _=>rfl)) ai (fun _ _=>rfl)) (pv 2) (ay _)),pv 0⟩))
    (ak (show PS _ _ (il P w _ _ _) from dz BM (pv 6) (aW (aa (pv 10) (aa (pv 7) (aa (pv 8) ad)))) (bv (own:=["_law_lane"]) (capN:=["_law_draw"]) (cap:=[11]) KY rfl (bA (pv 12))
     (fun C s' H' fp=>⟨aq (i:=0) Q5 rfl (Or.inl rfl),cf (aw bG (ax rE (ax r9 (pv 1) (pv 0)) ai) ai (ay _)),pv 0⟩)) rfl))) aE))))))))))
    (af (eX (bB PassesOwn.never rfl (aS rfl T.range (aa (pv 5) ad)) (aq (i:=13) yL.nd rfl (Or.inl rfl))
    (af (aD (i:=14) yL.nd rfl (Or.inl rfl) (aW (aa (pv 13) (aa (ao aA (pv 2) (pv 13) (fun _ _=>rfl)) (aa bH ad)))))
    (af (show PS _ _ (il P w _ _ _) from dz BM (pv 6) (pv 14) (ax jf (show PE _ _ (qw P w _ _) from kH BM (pv 6) (pv 14) (fun _ _=>rfl)) (aP (aa (ao aA (pv 1) (pv 13) (fun _ _=>rfl)) ad))) rfl)
    (ak (show PS _ _ (il P w _ _ _) from dz BM (pv 6) (aW (aa (ax bx (ax bD (pv 13) ai) (pv 5)) (aa (ao aA (pv 2) (pv 13) (fun _ _=>rfl)) (aa (ao aA (pv 1) (pv 13) (fun _ _=>rfl)) ad)))) (aP (aa (ao aA (pv 1) (ax bx (ax bD (pv 13) ai) (pv 5)) (fun _ _=>rfl)) ad)) rfl))))))
    (af (eX (aR (aw jI (pv 4) (pv 5) (ay _))
   (af (aD (i:=14) yL.nd rfl (Or.inl rfl) (aW (aa (pv 4) (aa (ao aA (pv 2) (pv 4) (fun _ _=>rfl)) (aa bH ad)))))
    (af (show PS _ _ (il P w _ _ _) from dz BM (pv 6) (pv 14) (bv (own:=["_law_lane"]) (capN:=["_law_ring", "_law_odd"]) (cap:=[1,4]) KZ rfl (bA (show PE _ _ (qw P w _ _) from kH BM (pv 6) (pv 14) (fun _ _=>rfl)))
     (fun C s' H' fp=>⟨aq (i:=0) Q6 rfl (Or.inl rfl),cf (aw iq (pv 0) (ao (show j0 _ (kD K) from aA) (pv 1) (pv 2) (fun _ _=>rfl)) (ay _)),pv 0⟩)) rfl)
    (af (aD (i:=15) yL.nd rfl (Or.inl rfl) (ax bx (ax cI (pv 4) ai) (pv 5)))
    (af (show PS _ _ (il P w _ _ _) from dz BM (pv 6) (aW (aa (pv 15) (aa (ao aA (pv 2) (pv 4) (fun _ _=>rfl)) (aa bH ad)))) (ax jf (show PE _ _ (qw P w _ _) from kH BM (pv 6) (aW (aa (pv 15) (aa (ao aA (pv 2) (pv 4) (fun _ _=>rfl)) (aa bH ad)))) (fun _ _=>rfl)) (aP (aa (ao aA (pv 1) (pv 15) (fun _ _=>rfl)) ad))) rfl)
    (ak (show PS _ _ (il P w _ _ _) from dz BM (pv 6) (aW (aa (pv 4) (aa (ao aA (pv 2) (pv 4) (fun _ _=>rfl)) (aa (ao aA (pv 1) (pv 15) (fun _ _=>rfl)) ad)))) (aP (aa (ao aA (pv 1) (pv 4) (fun _ _=>rfl)) ad)) rfl))))))
   (ak (aR (aw jI (pv 4) (ax dE ai (pv 5)) (ay _))
   (af (aD (i:=10) yL.nd rfl (Or.inr rfl) (ax bx (ax bD (pv 4) ai) (pv 5)))
    (af (c7 (i:=12) (own:=["_law_lane"]) (capN:=["_law_lanes_here", "_law_place"]) (cap:=[0,10]) La rfl yL.nd rfl rfl (aS rfl T.range (aa (aB aC rfl T.len PySem.boot_len (aa (pv 0) ad)) ad))
     (fun C s' H' fp=>⟨aq (i:=0) Ld rfl (Or.inl rfl),cf (aw bG (ao (show j0 _ (gP K) from av) (ao (show j0 _ (kD K) from aA) (pv 1) (pv 0) (fun _ _=>rfl)) ai (fun _ _=>rfl)) (pv 2) (ay _)),pv 0⟩))
    (af (c7 (i:=16) (own:=["_law_lane"]) (capN:=["_law_ring", "_law_place"]) (cap:=[1,10]) Lb rfl yL.nd rfl rfl (bA (pv 12))
     (fun C s' H' fp=>⟨aq (i:=0) Q7 rfl (Or.inl rfl),cf (aw iq (pv 0) (ao (show j0 _ (kD K) from aA) (pv 1) (pv 2) (fun _ _=>rfl)) (ay _)),pv 0⟩))
    (af (show PS _ _ (il P w _ _ _) from dz BM (pv 6) (aW (aa (pv 10) (aa (ao aA (pv 2) (ax cI (pv 4) (pv 5)) (fun _ _=>rfl)) (aa (ao aA (pv 1) (ax cI (pv 4) (pv 5)) (fun _ _=>rfl)) ad)))) (ax jf (aP (aa (ao aA (pv 1) (pv 10) (fun _ _=>rfl)) ad)) (pv 16)) rfl)
    (ak (aR (aw (rC hu) (pv 16) (aP ad) (ay _)) (ak (aD (i:=4) yL.nd rfl (Or.inr rfl) (ax dE ai (pv 5)))) aE)))))) aE))))
    (ak (uo (au (aW (aa (bv (own:=["_law_key"]) (capN:=["_law_entries"]) (cap:=[6]) Lc rfl (show PI _ _ _ (sD P w (lj 6)) from rp (pv 6))
     (fun C s' H' fp=>⟨aq (i:=0) Q8 rfl (Or.inl rfl),bT,aW (aa (ao (show j0 _ (gP K) from av) (pv 0) ai (fun _ _=>rfl)) (aa (ao (show j0 _ (gP K) from av) (pv 0) ai (fun _ _=>rfl)) (aa (ao (show j0 _ (gP K) from av) (pv 0) ai (fun _ _=>rfl)) (aa (show PE _ _ (qw P w _ _) from kH BM (pv 1) (pv 0) (fun _ _=>rfl)) ad))))⟩)) (aa (pv 4) ad))))))))))),?_⟩
  have AA:xW.length=ps.length:=Paired.length CZ
  have xY:=B3.ok
  have hgl:=hG.len
  refine⟨_,rfl,R,_,rfl, .inl (xS.of gR),?_⟩
  rw[c9,zj]
  refine fun D hD=>?_
  have s0:=(xN.refl H).new (o:=bF P w D []) hD
  have g0:(upd H D (bF P w D [])) D=some (bF P w D []):=ac
  generalize upd H D (bF P w D [])=H0 at s0 g0 ⊢
  have I0:Af P w H H0 D [] [] n ps:=⟨s0,hD,g0, .nil,(fun r hr=>by cases hr),nodup_nil⟩
  refine⟨_,rfl,(n:Int),rfl,by omega,by omega,?_⟩
  rw[toNat_natCast]
  refine b5 (n:=n) (fun i σ H2=>∃ (a7 a8 a9 za zT zU:Option V)(xP:List bO)(rs:List Rw),Af P w H H2 D xP rs n ps/\(∀ r ∈ rs,r.s.length <= 12)/\(∀ r ∈ rs,Ae i 0 0 none [] r)/\Bh n ps i 0 0 none [] rs/\rs.length <= i * (n + ps.length)/\σ=[some (.ref l),some (.ref R),some (.ref G),some (.int c),some (.int od),some (.int n),some (.ref D),a7,a8,a9,za,zT,zU,none,none,none,none])
   ⟨none,none,none,none,none,none,[],[],I0,(fun r hr=>by cases hr),(fun r hr=>by cases hr),(fun p g c' _ _ _ hw=>?_),zero_le _,rfl⟩ ?_ ?_
  ·rcases hw with hw | ⟨_,hw | ⟨_,hw⟩⟩
   ·omega
   ·omega
   ·cases hw
  ·rintro i σ H2 hi ⟨a7,a8,a9,za,zT,zU,xP,rs,I2,B4,hb,B5,G7,rfl⟩
   rw[zero_add]
   refine⟨by show 1 <= sizeLine;decide,fun o1 ho1=>?_⟩
   have t1:=(xN.refl H2).new (o := .lst [.yd]) ho1
   have g1:(upd H2 o1 (.lst [.yd])) o1=some (.lst [.yd]):=ac
   generalize upd H2 o1 (.lst [.yd])=H3 at t1 g1 ⊢
   refine⟨_,rfl,l,_,rfl, .inl (xS.of (t1 _ _ (I2.s _ _ gl))),_,rfl,fun o2 zq=>?_⟩
   rw[AA]
   have t2:=t1.new (o:=i6 o2 (ps.length:Int)) zq
   have g2:(upd H3 o2 (i6 o2 (ps.length:Int))) o2=some (i6 o2 (ps.length:Int)):=ac
   have Kj:(upd H3 o2 (i6 o2 (ps.length:Int))) o1=some (.lst [.yd]):=by rw[ae (ag g1 zq)];exact g1
   generalize upd H3 o2 (i6 o2 (ps.length:Int))=H4 at t2 g2 Kj ⊢
   refine⟨o2,ps.length,rfl,g2,by omega,fun o3 Uy=>?_⟩
   have t3:=t2.new (o := .lst ((List.range ps.length).map fun k:Nat=>V.int (k:Int))) Uy
   have g3:(upd H4 o3 (.lst ((List.range ps.length).map fun k:Nat=>V.int (k:Int)))) o3=some (.lst ((List.range ps.length).map fun k:Nat=>V.int (k:Int))):=ac
   have Lf:(upd H4 o3 (.lst ((List.range ps.length).map fun k:Nat=>V.int (k:Int)))) o1=some (.lst [.yd]):=by rw[ae (ag Kj Uy)];exact Kj
   generalize upd H4 o3 (.lst ((List.range ps.length).map fun k:Nat=>V.int (k:Int)))=H5 at t3 g3 Lf ⊢
   refine⟨o1,o3,_,_,rfl,rfl,Lf,g3,by rw[length_map,length_range,sizeLine_eq];simp only[length_singleton];omega,fun C hC=>?_⟩
   rw[xB]
   have t4:=t3.new (o := .lst ((ij ps.length).map cV)) hC
   have gC:(upd H5 C (.lst ((ij ps.length).map cV))) C=some (.lst ((ij ps.length).map cV)):=ac
   have nC:C ≠ D:=Ne.symm (ag (t3 _ _ I2.d) hC)
   generalize upd H5 C (.lst ((ij ps.length).map cV))=H6 at t4 gC ⊢
   refine⟨C,rfl,⟨_,xS.of gC⟩,?_⟩
   have Uz:((ij ps.length).map cV).length=ps.length + 1:=by unfold ij;rw[length_map,length_cons,length_map,length_range]
   refine gx (K:=K) (a:=C) (xs:=(ij ps.length).map cV) (fun j σ H7=>∃ (a8 a9 za zT zU:Option V)(xP:List bO)(rs:List Rw),Af P w H H7 D xP rs n ps/\H7 C=some (.lst ((ij ps.length).map cV))/\(∀ r ∈ rs,r.s.length <= 12)/\(∀ r ∈ rs,Ae i j 0 none [] r)/\Bh n ps i j 0 none [] rs/\rs.length <= i * (n + ps.length) + (if j=0 then 0 else n + j - 1)/\σ=[some (.ref l),some (.ref R),some (.ref G),some (.int c),some (.int od),some (.int n),some (.ref D),some (.int (i:Int)),a8,a9,za,zT,zU,none,none,none,none])
    ⟨_,_,_,_,_,xP,rs,I2.same t4,gC,B4,hb,B5,by rw[if_pos rfl];omega,rfl⟩ (fun j σ H7 _ xU=>by obtain⟨_,_,_,_,_,_,_,_,g,_⟩:=xU;exact xS.of g) ?_ ?_
   rotate_left
   ·rintro σ H7 ⟨a8,a9,za,zT,zU,xP,rs,I7,_,CK,Ni,B6,Nj,rfl⟩
    rw[Uz]at Ni Nj B6
    refine⟨_,_,_,_,_,_,xP,rs,I7,CK,(fun r hr=>(Ni r hr).up none []),B6.up,?_,rfl⟩
    rw[if_neg (by omega)]at Nj
    rw[Nat.add_mul,Nat.one_mul]
    omega
   rintro j v σ H7 hv ⟨a8,a9,za,zT,zU,xP,rs,I7,gC7,CK,Ni,B6,Nj,rfl⟩
   have hj:j < ps.length + 1:=by rw[← Uz];exact(gQ0 hv)
   obtain⟨cc,rfl,CL,LZ⟩:=tE hv
   refine⟨_,rfl,_,rfl,fun o5 ho5=>?_⟩
   have t5:=(xN.refl H7).new (o:=i6 o5 (n:Int)) ho5
   have g5:(upd H7 o5 (i6 o5 (n:Int))) o5=some (i6 o5 (n:Int)):=ac
   generalize upd H7 o5 (i6 o5 (n:Int))=H8 at t5 g5 ⊢
   refine⟨o5,n,rfl,g5,by omega,fun o6 U1=>?_⟩
   have t6:=t5.new (o := .lst ((List.range n).map fun k:Nat=>V.int (k:Int))) U1
   have g6:(upd H8 o6 (.lst ((List.range n).map fun k:Nat=>V.int (k:Int)))) o6=some (.lst (aL (List.range n))):=ac
   have n6:o6 ≠ D:=Ne.symm (ag (t5 _ _ I7.d) U1)
   generalize upd H8 o6 (.lst ((List.range n).map fun k:Nat=>V.int (k:Int)))=H9 at t6 g6 ⊢
   refine⟨fun σ Ha=>∃ (So:Addr)(xs:List Nat),xN H7 Ha/\Ha So=some (.lst (aL xs))/\So ≠ D/\(if j=0 then 0 else n + j - 1) + xs.length <= n + j/\xs.length <= 6/\xs.Nodup/\(∀ p ∈ xs,p < n/\cc ∈ ix ps p)/\(∀ p,p < n->cc ∈ ix ps p->p ∈ xs)/\σ=[some (.ref l),some (.ref R),some (.ref G),some (.int c),some (.int od),some (.int n),some (.ref D),some (.int (i:Int)),some (cV cc),some (.ref So),za,zT,zU,none,none,none,none],?_,?_⟩
   ·refine⟨_,rfl,rfl,_,rfl,?_⟩
    cases cc with
    | none =>
     have U4:j=0:=CL.symm
     exact aJ ⟨o6,List.range n,t6,g6,n6,by rw[if_pos U4,length_range];omega,by rw[length_range];exact CI,nodup_range,(fun p hp=>⟨mem_range.mp hp,mem_cons_self⟩),(fun p hp _=>mem_range.mpr hp),rfl⟩
    | some k =>
     have hk:=LZ k rfl
     have U4:j=k + 1:=CL.symm
     obtain⟨v,GS,u,rfl,gu⟩:=yk.Bc CZ (getElem?_eq_getElem hk)
     have s9:=I7.s.trans t6
     refine aN ⟨_,rfl,_,rfl,l,xW,(k:Int),_,rfl,rfl,xS.of (s9 _ _ gl),aj GS,u,_,1,_,rfl,rfl,xV.of (s9 _ _ gu),aj (j:=1) rfl,by show 1 <= sizeLine;decide,fun So U5=>?_⟩
     have zS:=xY _ (getElem_mem hk)
     unfold fO at zS
     simp only[Bool.and_eq_true,decide_eq_true_eq,Bool.not_eq_true',decide_eq_false_iff_not]at zS
     obtain⟨p0,KP⟩:∃ p0:Nat,(ps[k]).2=(p0:Int):=⟨(ps[k]).2.toNat,by omega⟩
     have U6:ps.getD k (0,0)=ps[k]:=by rw[getD_eq_getElem?_getD,getElem?_eq_getElem hk];rfl
     refine⟨So,[p0],t6.new U5,by rw[ac,KP];rfl,Ne.symm (ag (t6 _ _ I7.d) U5),by rw[if_neg (by omega)];simp only[length_singleton];omega,by show 1 <= 6;decide,nodup_cons.mpr ⟨not_mem_nil,nodup_nil⟩,(fun p hp=>?_),(fun p hp Q9=>?_),rfl⟩
     ·rw[mem_singleton.mp hp]
      refine⟨by omega,mem_cons_of_mem _ (mem_map.mpr ⟨k,mem_filter.mpr ⟨mem_range.mpr hk,decide_eq_true ?_⟩,rfl⟩)⟩
      rw[U6]
      exact KP
     ·rcases mem_cons.mp Q9 with e | e
      ·cases e
      ·obtain⟨k',Jm,e⟩:=mem_map.mp e
       cases e
       have h2:=of_decide_eq_true (mem_filter.mp Jm).2
       have h2:(ps.getD k (0,0)).2=(p:Int):=h2
       rw[U6,KP]at h2
       exact mem_singleton.mpr (by omega)
   rintro σ Ha ⟨So,xs,tS,gS,nS,hxc,hxl,Nk,hxp,Lg,rfl⟩
   have gCa:=tS _ _ gC7
   refine⟨_,rfl,So,rfl,⟨_,xS.of gS⟩,?_⟩
   generalize Qq:(if j=0 then 0 else n + j - 1)=cn at hxc Nj
   have hxl':(aL xs).length=xs.length:=by unfold aL;rw[length_map]
   refine gx (K:=K) (a:=So) (xs:=aL xs) (fun t σ Hb=>∃ (za zT zU:Option V)(xP:List bO)(rs:List Rw),Af P w H Hb D xP rs n ps/\Hb C=some (.lst ((ij ps.length).map cV))/\Hb So=some (.lst (aL xs))/\(∀ r ∈ rs,r.s.length <= 12)/\(∀ r ∈ rs,Ae i j t cc xs r)/\Bh n ps i j t cc xs rs/\rs.length <= i * (n + ps.length) + cn + t/\σ=[some (.ref l),some (.ref R),some (.ref G),some (.int c),some (.int od),some (.int n),some (.ref D),some (.int (i:Int)),some (cV cc),some (.ref So),za,zT,zU,none,none,none,none])
    ⟨_,_,_,xP,rs,I7.same tS,gCa,gS,CK,(fun r hr=>(Ni r hr).zero cc xs),B6.zero cc xs,by omega,rfl⟩ (fun t σ Hb _ xU=>by obtain⟨_,_,_,_,_,_,_,g,_⟩:=xU;exact xS.of g) ?_ ?_
   rotate_left
   ·rintro σ Hb ⟨za,zT,zU,xP,rs,Ib,Nl,QA,B7,Ft,B8,hlb,rfl⟩
    exact⟨_,_,_,_,_,xP,rs,Ib,Nl,B7,(fun r hr=>(Ft r hr).end CL none []),B8.end (by omega) CL Lg,by rw[if_neg (by omega)];omega,rfl⟩
   rintro t v σ Hb HA ⟨za,zT,zU,xP,rs,Ib,Nl,QA,B7,Ft,B8,hlb,rfl⟩
   obtain⟨p,hp,rfl⟩:∃ p:Nat,xs[t]? = some p/\v=V.int (p:Int):=by
    unfold aL at HA
    rw[getElem?_map]at HA
    cases hx:xs[t]? with
    | none=>rw[hx]at HA;cases HA
    | some p=>rw[hx]at HA;exact⟨p,rfl,(Option.some.inj HA).symm⟩
   have SS:t < xs.length:=(gQ0 hp)
   obtain⟨Nm,Q9⟩:=hxp p (mem_of_getElem? hp)
   have Kv:xP.length=rs.length:=Paired.length Ib.r
   have hrb:rs.length <= 5 * 18 + 6 + 12 + 6:=by
    have h1:i * (n + ps.length) <= 5 * 18:=Nat.mul_le_mul (by omega) (by omega)
    have h2:cn <= 6 + 12:=by rw[← Qq];split<;>omega
    omega
   refine⟨_,rfl,_,rfl,_,_,rfl,rfl, .inl ⟨by decide,by decide⟩,_,rfl,_,_,rfl,rfl, .inl ⟨by decide,by decide⟩,_,_,rfl,rfl,_,rfl,D,xP,rfl,Ib.d,_,_,rfl,rfl,c,61 * i + 7 * p + xP.length,by rw[Int.natCast_add,Int.natCast_add,natCast_mul,natCast_mul];rfl,by omega,fun d hd=>⟨_,_,rfl,rfl,⟨by decide,by decide⟩,?_⟩⟩
   obtain⟨m,hm⟩:∃ m:Nat,d / 8=(m:Int):=⟨(d / 8).toNat,by omega⟩
   show bE 11 (V.int (d / 8)) _ _ _
   rw[hm]
   refine⟨_,rfl,_,rfl,rfl,_,rfl,?_⟩
   rw[ed]
   by_cases U8:(p:Int)=(i:Int)
   ·rw[decide_eq_true U8]
    exact aJ ⟨_,_,_,xP,rs,Ib,Nl,QA,B7,(fun r hr=>(Ft r hr).next),B8.next hp (fun _ h=>h) (fun h=>absurd (by omega) h),by omega,rfl⟩
   rw[decide_eq_false U8]
   have QB:p ≠ i:=by omega
   have UA:=Ib.s _ _ gl
   have hLb:=yk.same Ib.s CZ
   refine aN ⟨_,rfl,l,_,rfl, .inl (xS.of UA),(xW.length:Int),rfl,by omega,by omega,?_⟩
   rw[toNat_natCast,AA]
   refine pw (sel:=Prod.fst) (ps:=ps) (pl:=(p:Int)) (by rw[sizeLine_eq];omega) (fun z acc N pr zv h=>?_) (fun Ou QC=>?_)
   ·obtain⟨v,hv,u,rfl,gu⟩:=yk.Bc hLb zv
    refine⟨_,rfl,_,rfl,l,xW,_,_,rfl,rfl,xS.of UA,aj hv,u,_,0,_,rfl,rfl,xV.of gu,aj (j:=0) rfl,_,rfl,rfl,_,rfl,?_⟩
    rw[ed]
    cases hb:decide (pr.1=(p:Int)) with
    | true =>
     have Ab:decide (Prod.fst pr=(p:Int))=true:=hb
     rw[Ab]at h
     exact aN ⟨_,rfl,h⟩
    | false =>
     have Ab:decide (Prod.fst pr=(p:Int))=false:=hb
     rw[Ab]at h
     exact aJ h
   have hil:=oT Prod.fst ps (p:Int)
   have s4:=(xN.refl Hb).new (o := .lst (aL (cx Prod.fst ps (p:Int)))) QC
   have gO:(upd Hb Ou (.lst (aL (cx Prod.fst ps (p:Int))))) Ou=some (.lst (aL (cx Prod.fst ps (p:Int)))):=ac
   show bE 12 (V.ref Ou) _ (upd Hb Ou (.lst (aL (cx Prod.fst ps (p:Int))))) _
   generalize upd Hb Ou (.lst (aL (cx Prod.fst ps (p:Int))))=Hc at s4 gO ⊢
   have Ic:=Ib.same s4
   refine⟨_,rfl,Ou,rfl,⟨_,xS.of gO⟩,?_⟩
   refine ie (fun k=>m.testBit k) (by rw[sizeLine_eq];omega) (xS.of gO) (fun k acc N hk h=>?_) (fun U hU=>?_)
   ·refine⟨_,rfl,_,rfl,_,_,rfl,rfl,by omega,_,_,rfl,rfl,rfl,_,rfl,?_⟩
    rw[PZ]
    cases hb:m.testBit k with
    | true=>rw[hb]at h;exact aN ⟨_,rfl,h⟩
    | false=>rw[hb]at h;exact aJ h
   have s5:=s4.new (o := .lst (aL ((cx Prod.fst ps (p:Int)).filter fun k=>m.testBit k))) hU
   have gU:(upd Hc U (.lst (aL ((cx Prod.fst ps (p:Int)).filter fun k=>m.testBit k)))) U=some (.lst (aL ((cx Prod.fst ps (p:Int)).filter fun k=>m.testBit k))):=ac
   have FW:((cx Prod.fst ps (p:Int)).filter fun k=>m.testBit k).length <= 12:=le_trans (length_filter_le _ _) (by omega)
   have UB:∀ z ∈ (cx Prod.fst ps (p:Int)).filter fun k=>m.testBit k,z ∈ cx Prod.fst ps (p:Int):=fun z hz=>(mem_filter.mp hz).1
   generalize (cx Prod.fst ps (p:Int)).filter (fun k=>m.testBit k)=us at s5 gU FW UB ⊢
   generalize upd Hc U (.lst (aL us))=Hd at s5 gU ⊢
   have Id:=Ib.same s5
   refine⟨_,rfl,_,rfl,_,rfl,_,rfl,by show 3 <= sizeLine;decide,fun tt Bo=>?_⟩
   have s6:=s5.new (o := .tup [.int (p:Int), .int (i:Int),cV cc]) Bo
   have gT:(upd Hd tt (.tup [.int (p:Int), .int (i:Int),cV cc])) tt=some (.tup [.int (p:Int), .int (i:Int),cV cc]):=ac
   have UC:(upd Hd tt (.tup [.int (p:Int), .int (i:Int),cV cc])) U=some (.lst (aL us)):=by rw[ae (ag gU Bo)];exact gU
   generalize upd Hd tt (.tup [.int (p:Int), .int (i:Int),cV cc])=He at s6 gT UC ⊢
   have QD:=Ib.same s6
   have ek:(aK ⟨(p:Int),(i:Int),cc,us⟩).map gY=[.int (p:Int), .int (i:Int),cV cc]:=xo _
   refine⟨D,xP,aK ⟨(p:Int),(i:Int),cc,us⟩,tt,rfl,lN QD.d QD.r,rfl,by rw[ek];exact gT,by rw[sizeLine_eq];omega,?_⟩
   have G5:=Ae.new (us:=us) Ft CL hp Nk
   have Ie:=QD.add (r:=⟨(p:Int),(i:Int),cc,us⟩) (by rw[ek];exact gT) UC ⟨⟨p,i,rfl,rfl,Nm,hi,Ne.symm QB,Q9⟩,UB,le_trans FW (by decide)⟩ G5
   refine⟨_,_,_,_,_,Ie,?_,?_,(fun r hr=>?_),(fun r hr=>?_),B8.next hp (fun k hk=>?_) (fun _=>?_),by rw[length_append];show rs.length + 1 <= _;omega,rfl⟩
   ·rw[ae nC];exact s6 _ _ Nl
   ·rw[ae nS];exact s6 _ _ QA
   ·rcases mem_append.mp hr with z | z
    ·exact B7 r z
    ·rw[mem_singleton.mp z];exact FW
   ·rcases mem_append.mp hr with z | z
    ·exact(Ft r z).next
    ·rw[mem_singleton.mp z];exact Ae.at hp
   ·rw[map_append];exact mem_append_left _ hk
   ·rw[map_append];exact mem_append_right _ mem_cons_self
  rintro σ H2 ⟨a7,a8,a9,za,zT,zU,xP,rs,I2,B4,_,B5,G7,rfl⟩
  have E2:EI P w H H2 D xP rs n ps 12:=⟨I2.s,⟨I2.d,I2.r,I2.g,I2.nd,(fun p g c' hp hg Cb hc=>B5 p g c' hp Cb hc (.inl hg)),le_trans G7 (le_trans (Nat.mul_le_mul CI (Nat.add_le_add CI zm)) (by decide))⟩,B4⟩
  clear I2 B4 B5 G7
  have Ax:(0:Int) < (n:Int):=by omega
  have gk:∀ {k:Nat},k < n->gN gs k < n/\gN gs k ≠ k/\gN gs k ≠ (k + 1) % n/\(3 < n->gN gs k ≠ (k + n - 1) % n):=fun {k} hk=>hG.lt k _ (eu (by omega))
  have m1:∀ {k:Nat}{rs:List Rw},k < n->AllK n ps rs->k1 gs k ∈ rs.map aX:=fun {k rs} hk ha=>ha k (gN gs k) none hk (gk hk).1 (Ne.symm (gk hk).2.1) mem_cons_self
  have m2:∀ {k:Nat}{rs:List Rw},k < n->AllK n ps rs->k2 n ri gs k ∈ rs.map aX:=fun {k rs} hk ha=>ha ((k + 1) % n) (gN gs k) (some (gN ri k)) (mod_lt _ (by omega)) (gk hk).1 (Ne.symm (gk hk).2.2.1) (fN B3 (by omega)).2
  have ek:∀ k:Nat,((k:Int) + 1) % (n:Int)=(((k + 1) % n:Nat):Int):=fun k=>by rw[natCast_emod];rfl
  have KJ:∀ k:Nat,(k + 1) % n < n:=fun k=>mod_lt _ (by omega)
  refine⟨fun σ H3=>∃ (a7 a8 a9 za zT zU Cc DK:Option V)(xP:List bO)(rs:List Rw),EI P w H H3 D xP rs n ps 18/\ld n ri gs rs n/\σ=[some (.ref l),some (.ref R),some (.ref G),some (.int c),some (.int od),some (.int n),some (.ref D),a7,a8,a9,za,zT,zU,Cc,DK,none,none],?_,?_⟩
  ·refine⟨_,rfl,(n:Int),rfl,by omega,by omega,?_⟩
   rw[toNat_natCast]
   refine b5 (n:=n) (fun k σ H3=>∃ (a7 a8 a9 za zT zU Cc DK:Option V)(xP:List bO)(rs:List Rw),EI P w H H3 D xP rs n ps (12 + k)/\ld n ri gs rs k/\σ=[some (.ref l),some (.ref R),some (.ref G),some (.int c),some (.int od),some (.int n),some (.ref D),a7,a8,a9,za,zT,zU,Cc,DK,none,none])
    ⟨_,_,_,_,_,_,none,none,xP,rs,E2,(fun k hk=>absurd hk (not_lt_zero _)),rfl⟩ ?_ ?_
   rotate_left
   ·rintro σ H3 ⟨a7,a8,a9,za,zT,zU,Cc,DK,xP,rs,E3,G3,rfl⟩
    exact⟨_,_,_,_,_,_,_,_,xP,rs,E3.up (by omega),G3,rfl⟩
   rintro k σ H3 hk ⟨a7,a8,a9,za,zT,zU,Cc,DK,xP,rs,E3,G3,rfl⟩
   rw[zero_add]
   have Nn:=E3.s _ _ gG
   have ES:=E3.s _ _ gR
   refine⟨_,rfl,_,rfl,_,rfl,G,nV gs,(k:Int),_,rfl,rfl,xS.of Nn,aj (e7 (by omega)),by show 3 <= sizeLine;decide,fun tt Bo=>?_⟩
   have s4:=(xN.refl H3).new (o := .tup [.int (k:Int), .int (gN gs k:Int), .yd]) Bo
   have g4:(upd H3 tt (.tup [.int (k:Int), .int (gN gs k:Int), .yd])) tt=some (.tup ((bV (k1 gs k)).map gY)):=ac
   show bE 14 (V.ref tt) _ (upd H3 tt (.tup [.int (k:Int), .int (gN gs k:Int), .yd])) _
   generalize upd H3 tt (.tup [.int (k:Int), .int (gN gs k:Int), .yd])=H4 at s4 g4 ⊢
   have E4:=E3.same s4
   obtain⟨d1,d2,d3⟩:=E4.DJ
   obtain⟨U,hU,gU,QE⟩:=e9 E4.e (m1 hk E4.e.all)
   have UD:=kA E4.len (k1 gs k)
   refine⟨_,rfl,_,rfl,D,xP,bV (k1 gs k),tt,_,rfl,d2,rfl,g4,hU,_,rfl,_,rfl,R,nV ri,(k:Int),_,rfl,rfl,xS.of (s4 _ _ ES),aj (e7 (by omega)),by show 1 <= sizeLine;decide,fun e2 CW=>?_⟩
   have s5:=s4.new (o := .lst [V.int (gN ri k:Int)]) CW
   have g5:(upd H4 e2 (.lst [V.int (gN ri k:Int)])) e2=some (.lst [V.int (gN ri k:Int)]):=ac
   have UE:(upd H4 e2 (.lst [V.int (gN ri k:Int)])) U=some (.lst (aL (eC rs (k1 gs k)))):=by rw[ae (ag gU CW)];exact gU
   have G8:(upd H4 e2 (.lst [V.int (gN ri k:Int)])) tt=some (.tup ((bV (k1 gs k)).map gY)):=by rw[ae (ag g4 CW)];exact g4
   generalize upd H4 e2 (.lst [V.int (gN ri k:Int)])=H5 at s5 g5 UE G8 ⊢
   refine⟨U,e2,_,_,rfl,rfl,UE,g5,by unfold aL;rw[length_map,sizeLine_eq];simp only[length_singleton];omega,fun U2 Lh=>?_⟩
   rw[jN]
   have s6:=s5.new (o := .lst (aL (eC rs (k1 gs k) ++ [gN ri k]))) Lh
   have g6:(upd H5 U2 (.lst (aL (eC rs (k1 gs k) ++ [gN ri k])))) U2=some (.lst (aL (eC rs (k1 gs k) ++ [gN ri k]))):=ac
   have UG:(upd H5 U2 (.lst (aL (eC rs (k1 gs k) ++ [gN ri k])))) tt=some (.tup ((bV (k1 gs k)).map gY)):=by rw[ae (ag G8 Lh)];exact G8
   generalize upd H5 U2 (.lst (aL (eC rs (k1 gs k) ++ [gN ri k])))=H6 at s6 g6 UG ⊢
   have E6:=E3.same s6
   obtain⟨d61,_,d63⟩:=E6.DJ
   have E7:=(E6.up (show 12 + k <= 12 + (k + 1) by omega)).put (tt:=tt) hD (by omega) (m1 hk E6.e.all) g6 (fun z hz=>by
    rcases mem_append.mp hz with hz | hz
    ·exact QE z hz
    ·rw[mem_singleton.mp hz];exact(fN B3 (by omega)).1) (by rw[length_append,length_singleton];omega)
   refine⟨_,rfl,_,rfl,D,xP,bV (k1 gs k),tt,rfl,d61,rfl,UG,by omega,?_⟩
   generalize cF xP (bV (k1 gs k)) tt (.ref U2)=Li at E7 ⊢
   generalize upd H6 D (bF P w D Li)=H7 at E7 ⊢
   have gR7:=E7.s _ _ gR
   refine⟨_,rfl,_,rfl,_,_,rfl,rfl,_,rfl,_,_,rfl,rfl,Ax,R,nV ri,(((k + 1) % n:Nat):Int),_,rfl,congrArg V.int (ek k),xS.of gR7,aj (e7 (by rw[zj];exact KJ k)),by show 1 <= sizeLine;decide,fun U3 hU3=>?_⟩
   have s8:=(xN.refl H7).new (o := .lst [V.int (gN ri ((k + 1) % n):Int)]) hU3
   have g8:(upd H7 U3 (.lst [V.int (gN ri ((k + 1) % n):Int)])) U3=some (.lst (aL [gN ri ((k + 1) % n)])):=ac
   generalize upd H7 U3 (.lst [V.int (gN ri ((k + 1) % n):Int)])=H8 at s8 g8 ⊢
   have E8:=E7.same s8
   refine⟨_,rfl,_,rfl,_,_,rfl,rfl,_,rfl,_,_,rfl,rfl,Ax,_,rfl,_,rfl,G,nV gs,(k:Int),_,rfl,rfl,xS.of (E8.s _ _ gG),aj (e7 (by omega)),_,rfl,_,rfl,R,nV ri,(k:Int),_,rfl,rfl,xS.of (E8.s _ _ gR),aj (e7 (by omega)),by show 3 <= sizeLine;decide,fun t3 Qo=>?_⟩
   dsimp only
   rw[ek k]
   have s9:=(xN.refl H8).new (o := .tup [.int (((k + 1) % n:Nat):Int), .int (gN gs k:Int), .int (gN ri k:Int)]) Qo
   have g9:(upd H8 t3 (.tup [.int (((k + 1) % n:Nat):Int), .int (gN gs k:Int), .int (gN ri k:Int)])) t3=some (.tup ((bV (k2 n ri gs k)).map gY)):=ac
   have UH:=s9 _ _ g8
   generalize upd H8 t3 (.tup [.int (((k + 1) % n:Nat):Int), .int (gN gs k:Int), .int (gN ri k:Int)])=H9 at s9 g9 UH ⊢
   have E9:=E8.same s9
   obtain⟨d91,_,d93⟩:=E9.DJ
   have G9:=E9.put (tt:=t3) hD (by omega) (m2 hk E9.e.all) UH (fun z hz=>by
    rw[mem_singleton.mp hz]
    exact(fN B3 (by rw[zj];exact KJ k)).1) (by rw[length_singleton];omega)
   refine⟨D,Li,bV (k2 n ri gs k),t3,rfl,d91,rfl,g9,by omega,?_⟩
   exact⟨_,_,_,_,_,_,_,_,_,_,G9,pY B3 zj hk G3 (m1 hk E3.e.all) (m2 hk E3.e.all),rfl⟩
  clear E2
  rintro σ H3 ⟨a7,a8,a9,za,zT,zU,Cc,DK,xP,rs,E3,G3,rfl⟩
  have Nn:=E3.s _ _ gG
  have ES:=E3.s _ _ gR
  refine⟨fun σ H4=>∃ (a7 a8 a9 za zT zU Cc DK UI UJ:Option V)(Al:Nat)(xP:List bO)(rs:List Rw),EI P w H H4 D xP rs n ps 20/\Al <= 2 * n/\(Al = 2 * n->ld n ri gs rs n)/\(Al < 2 * n->KR n ri gs rs)/\σ=[some (.ref l),some (.ref R),some (.ref G),some (.int c),some (.int Al),some (.int n),some (.ref D),a7,a8,a9,za,zT,zU,Cc,DK,UI,UJ],?_,?_⟩
  ·refine⟨_,rfl,_,rfl,_,_,rfl,rfl,_,rfl,?_⟩
   by_cases yu:(od:Int) < (n:Int)
   ·rw[decide_eq_true yu]
    have ho:od < n:=by omega
    have hn4:=G6 (by omega)
    obtain⟨ah,Lj⟩:∃ ah:Nat,ah=(od + n - 1) % n:=⟨_,rfl⟩
    have QF:ah < n:=by rw[Lj];exact mod_lt _ (by omega)
    have eah:((od:Int) - 1) % (n:Int)=(ah:Int):=by
     rw[Lj,natCast_emod,show((od + n - 1:Nat):Int)=((od:Int) - 1) + (n:Int) by omega,add_emod_right]
    have DL:(ah + 1) % n=od:=by
     by_cases h0:od=0
     ·rw[Lj,h0,show 0 + n - 1=n - 1 by omega,mod_eq_of_lt (show n - 1 < n by omega),show n - 1 + 1=n by omega,mod_self]
     ·rw[Lj,show od + n - 1=(od - 1) + n by omega,Nat.add_mod_right,mod_eq_of_lt (show od - 1 < n by omega),show od - 1 + 1=od by omega,mod_eq_of_lt ho]
    have Lk:ah ≠ od:=fun z=>by
     rw[z]at DL
     by_cases e:od + 1=n
     ·rw[e,mod_self]at DL;omega
     ·rw[mod_eq_of_lt (by omega)]at DL;omega
    have QG:ah ≠ gN gs od:=fun z=>(gk ho).2.2.2 hn4 (by rw[← z,Lj])
    refine aN ⟨_,rfl,_,rfl,_,rfl,G,nV gs,(od:Int),_,rfl,rfl,xS.of Nn,aj (e7 (by omega)),by show 3 <= sizeLine;decide,fun tt Bo=>?_⟩
    have s4:=(xN.refl H3).new (o := .tup [.int (od:Int), .int (gN gs od:Int), .yd]) Bo
    have g4:(upd H3 tt (.tup [.int (od:Int), .int (gN gs od:Int), .yd])) tt=some (.tup ((bV (k1 gs od)).map gY)):=ac
    show bE 14 (V.ref tt) _ (upd H3 tt (.tup [.int (od:Int), .int (gN gs od:Int), .yd])) _
    generalize upd H3 tt (.tup [.int (od:Int), .int (gN gs od:Int), .yd])=H4 at s4 g4 ⊢
    have E4:=E3.same s4
    obtain⟨d1,d2,d3⟩:=E4.DJ
    obtain⟨U,hU,gU,QE⟩:=e9 E4.e (m1 ho E4.e.all)
    have UD:=kA E4.len (k1 gs od)
    have Co:=s4 _ _ ES
    refine⟨_,rfl,_,rfl,D,xP,bV (k1 gs od),tt,_,rfl,d2,rfl,g4,hU,U,rfl,⟨_,xS.of gU⟩,?_⟩
    refine ie (fun z=>!decide (z=gN ri od)) (by rw[sizeLine_eq];omega) (xS.of gU) (fun z acc N hz h=>?_) (fun U2 Lh=>?_)
    ·refine⟨_,rfl,_,rfl,_,rfl,R,nV ri,(od:Int),_,rfl,rfl,xS.of Co,aj (e7 (by omega)),rfl,_,rfl,?_⟩
     rw[ed]
     by_cases e:z=gN ri od
     ·rw[decide_eq_true (show (z:Int)=(gN ri od:Int) by omega)]
      rw[decide_eq_true e]at h
      exact aJ h
     ·rw[decide_eq_false (show ¬ (z:Int)=(gN ri od:Int) by omega)]
      rw[decide_eq_false e]at h
      exact aN ⟨_,rfl,h⟩
    have s5:=s4.new (o := .lst (aL ((eC rs (k1 gs od)).filter fun z=>!decide (z=gN ri od)))) Lh
    have g5:(upd H4 U2 (.lst (aL ((eC rs (k1 gs od)).filter fun z=>!decide (z=gN ri od))))) U2=some (.lst (aL ((eC rs (k1 gs od)).filter fun z=>!decide (z=gN ri od)))):=ac
    have HB:gN ri od ∉ (eC rs (k1 gs od)).filter fun z=>!decide (z=gN ri od):=fun z=>by have:=(mem_filter.mp z).2;rw[decide_eq_true rfl]at this;cases this
    have UK:∀ z ∈ (eC rs (k1 gs od)).filter fun z=>!decide (z=gN ri od),z ∈ cx Prod.fst ps (k1 gs od).1:=fun z hz=>QE z (mem_filter.mp hz).1
    have JY:((eC rs (k1 gs od)).filter fun z=>!decide (z=gN ri od)).length <= 18:=le_trans (length_filter_le _ _) UD
    have G8:(upd H4 U2 (.lst (aL ((eC rs (k1 gs od)).filter fun z=>!decide (z=gN ri od))))) tt=some (.tup ((bV (k1 gs od)).map gY)):=by rw[ae (ag g4 Lh)];exact g4
    generalize (eC rs (k1 gs od)).filter (fun z=>!decide (z=gN ri od))=us at s5 g5 HB UK JY G8 ⊢
    generalize upd H4 U2 (.lst (aL us))=H5 at s5 g5 G8 ⊢
    have E5:=E3.same s5
    obtain⟨UL,_,d53⟩:=E5.DJ
    have E6:=E5.put (tt:=tt) hD (by omega) (m1 ho E5.e.all) g5 UK JY
    refine⟨_,rfl,_,rfl,D,xP,bV (k1 gs od),tt,rfl,UL,rfl,G8,by omega,?_⟩
    generalize cF xP (bV (k1 gs od)) tt (.ref U2)=DN at E6 ⊢
    generalize upd H5 D (bF P w D DN)=H6 at E6 ⊢
    refine⟨_,rfl,_,_,rfl,rfl,_,rfl,_,_,rfl,rfl,Ax,?_⟩
    show bE 15 (V.int (((od:Int) - 1) % (n:Int))) _ _ _
    rw[eah]
    have mA:kN ah (gN gs od) none ∈ (rs.map (bY (k1 gs od) us)).map aX:=E6.e.all ah (gN gs od) none QF (gk ho).1 QG mem_cons_self
    refine⟨_,rfl,_,rfl,_,rfl,_,rfl,G,nV gs,(od:Int),_,rfl,rfl,xS.of (E6.s _ _ gG),aj (e7 (by omega)),by show 3 <= sizeLine;decide,fun t7 ht7=>?_⟩
    have s7:=(xN.refl H6).new (o := .tup [.int (ah:Int), .int (gN gs od:Int), .yd]) ht7
    have g7:(upd H6 t7 (.tup [.int (ah:Int), .int (gN gs od:Int), .yd])) t7=some (.tup ((bV (kN ah (gN gs od) none)).map gY)):=ac
    generalize upd H6 t7 (.tup [.int (ah:Int), .int (gN gs od:Int), .yd])=H7 at s7 g7 ⊢
    have E7:=E6.same s7
    obtain⟨_,d72,_⟩:=E7.DJ
    obtain⟨U7,Np,UM,QH⟩:=e9 E7.e mA
    have hlU7:=kA E7.len (kN ah (gN gs od) none)
    refine⟨D,DN,bV (kN ah (gN gs od) none),t7,_,rfl,d72,rfl,g7,Np,_,rfl,_,rfl,R,nV ri,(ah:Int),_,rfl,rfl,xS.of (E7.s _ _ gR),aj (e7 (by omega)),by show 1 <= sizeLine;decide,fun e8 UN=>?_⟩
    have s8:=s7.new (o := .lst [V.int (gN ri ah:Int)]) UN
    have g8:(upd H7 e8 (.lst [V.int (gN ri ah:Int)])) e8=some (.lst [V.int (gN ri ah:Int)]):=ac
    have UO:(upd H7 e8 (.lst [V.int (gN ri ah:Int)])) U7=some (.lst (aL (eC (rs.map (bY (k1 gs od) us)) (kN ah (gN gs od) none)))):=by rw[ae (ag UM UN)];exact UM
    generalize upd H7 e8 (.lst [V.int (gN ri ah:Int)])=H8 at s8 g8 UO ⊢
    refine⟨U7,e8,_,_,rfl,rfl,UO,g8,by unfold aL;rw[length_map,sizeLine_eq];simp only[length_singleton];omega,fun U9 hU9=>?_⟩
    rw[jN]
    have UP:∀ z ∈ eC (rs.map (bY (k1 gs od) us)) (kN ah (gN gs od) none) ++ [gN ri ah],z ∈ cx Prod.fst ps (kN ah (gN gs od) none).1:=fun z hz=>by
     rcases mem_append.mp hz with hz | hz
     ·exact QH z hz
     ·rw[mem_singleton.mp hz];exact(fN B3 (by omega)).1
    have Pj:(eC (rs.map (bY (k1 gs od) us)) (kN ah (gN gs od) none) ++ [gN ri ah]).length <= 20:=by rw[length_append,length_singleton];omega
    generalize eC (rs.map (bY (k1 gs od) us)) (kN ah (gN gs od) none) ++ [gN ri ah]=Dc at UP Pj ⊢
    have s9:=s8.new (o := .lst (aL Dc)) hU9
    have g9:(upd H8 U9 (.lst (aL Dc))) U9=some (.lst (aL Dc)):=ac
    generalize upd H8 U9 (.lst (aL Dc))=H9 at s9 g9 ⊢
    have E9:=E6.same s9
    refine⟨_,rfl,_,rfl,_,rfl,_,rfl,G,nV gs,(od:Int),_,rfl,rfl,xS.of (E9.s _ _ gG),aj (e7 (by omega)),by show 3 <= sizeLine;decide,fun Bv Ll=>?_⟩
    have Aq:=s9.new (o := .tup [.int (ah:Int), .int (gN gs od:Int), .yd]) Ll
    have AD:(upd H9 Bv (.tup [.int (ah:Int), .int (gN gs od:Int), .yd])) Bv=some (.tup ((bV (kN ah (gN gs od) none)).map gY)):=ac
    have Lm:(upd H9 Bv (.tup [.int (ah:Int), .int (gN gs od:Int), .yd])) U9=some (.lst (aL Dc)):=by rw[ae (ag g9 Ll)];exact g9
    generalize upd H9 Bv (.tup [.int (ah:Int), .int (gN gs od:Int), .yd])=zJ at Aq AD Lm ⊢
    have G9:=E6.same Aq
    obtain⟨QI,_,d103⟩:=G9.DJ
    have HC:=(G9.up (show 18 <= 20 by decide)).put (tt:=Bv) hD (by decide) mA Lm UP Pj
    refine⟨D,DN,bV (kN ah (gN gs od) none),Bv,rfl,QI,rfl,AD,by omega,?_⟩
    generalize cF DN (bV (kN ah (gN gs od) none)) Bv (.ref U9)=EV at HC ⊢
    generalize upd zJ D (bF P w D EV)=DO at HC ⊢
    have mB:kN od (gN gs od) (some (gN ri ah)) ∈ ((rs.map (bY (k1 gs od) us)).map (bY (kN ah (gN gs od) none) Dc)).map aX:=HC.e.all od (gN gs od) (some (gN ri ah)) ho (gk ho).1 (Ne.symm (gk ho).2.1) (by rw[← DL];exact(fN B3 (by omega)).2)
    refine⟨_,rfl,_,rfl,R,nV ri,(od:Int),_,rfl,rfl,xS.of (HC.s _ _ gR),aj (e7 (by omega)),by show 1 <= sizeLine;decide,fun Nq QJ=>?_⟩
    have FH:=(xN.refl DO).new (o := .lst [V.int (gN ri od:Int)]) QJ
    have FF:(upd DO Nq (.lst [V.int (gN ri od:Int)])) Nq=some (.lst (aL [gN ri od])):=ac
    generalize upd DO Nq (.lst [V.int (gN ri od:Int)])=EW at FH FF ⊢
    have UQ:=HC.same FH
    refine⟨_,rfl,_,rfl,_,rfl,_,rfl,G,nV gs,(od:Int),_,rfl,rfl,xS.of (UQ.s _ _ gG),aj (e7 (by omega)),_,rfl,_,rfl,R,nV ri,(ah:Int),_,rfl,rfl,xS.of (UQ.s _ _ gR),aj (e7 (by omega)),by show 3 <= sizeLine;decide,fun HD Ln=>?_⟩
    have UR:=FH.new (o := .tup [.int (od:Int), .int (gN gs od:Int), .int (gN ri ah:Int)]) Ln
    have US:(upd EW HD (.tup [.int (od:Int), .int (gN gs od:Int), .int (gN ri ah:Int)])) HD=some (.tup ((bV (kN od (gN gs od) (some (gN ri ah)))).map gY)):=ac
    have EX:(upd EW HD (.tup [.int (od:Int), .int (gN gs od:Int), .int (gN ri ah:Int)])) Nq=some (.lst (aL [gN ri od])):=by rw[ae (ag FF Ln)];exact FF
    generalize upd EW HD (.tup [.int (od:Int), .int (gN gs od:Int), .int (gN ri ah:Int)])=Lo at UR US EX ⊢
    have UT:=HC.same UR
    obtain⟨QK,_,d133⟩:=UT.DJ
    have E14:=UT.put (tt:=HD) hD (by decide) mB EX (fun z hz=>by rw[mem_singleton.mp hz];exact(fN B3 (by omega)).1) (by rw[length_singleton];decide)
    refine⟨D,EV,bV (kN od (gN gs od) (some (gN ri ah))),HD,rfl,QK,rfl,US,by omega,?_⟩
    exact⟨_,_,_,_,_,_,_,_,_,_,od,_,_,E14,Le,(fun z=>by omega),(fun _=>vc ho (m1 ho E3.e.all) Lk HB),rfl⟩
   rw[decide_eq_false yu]
   refine aJ ⟨_,rfl,_,rfl,_,_,rfl,rfl, .inl ⟨by decide,by decide⟩,_,_,rfl,rfl,_,rfl,?_⟩
   by_cases DG:(od:Int) < 2 * (n:Int)
   ·rw[decide_eq_true DG]
    obtain⟨k,hk⟩:∃ k:Nat,od=n + k:=⟨od - n,by omega⟩
    have Ng:k < n:=by omega
    have epl:((od:Int) + 1) % (n:Int)=(((k + 1) % n:Nat):Int):=by
     rw[hk,show((n + k:Nat):Int) + 1=((k:Int) + 1) + (n:Int) by omega,add_emod_right]
     exact ek k
    have Lp:(od:Int) - (n:Int)=(k:Int):=by omega
    refine aN ⟨_,rfl,_,_,rfl,rfl,_,rfl,_,_,rfl,rfl,Ax,?_⟩
    show bE 10 (V.int (((od:Int) + 1) % (n:Int))) _ _ _
    rw[epl]
    generalize Nr:(k + 1) % n=pp at *
    have hppn:pp < n:=by rw[← Nr];exact KJ k
    have MQ:=E3.s _ _ gl
    have Bf:=yk.same E3.s CZ
    refine⟨_,rfl,l,_,rfl, .inl (xS.of MQ),(xW.length:Int),rfl,by omega,by omega,?_⟩
    rw[toNat_natCast,AA]
    refine pw (sel:=Prod.fst) (ps:=ps) (pl:=(pp:Int)) (by rw[sizeLine_eq];omega) (fun z acc N pr zv h=>?_) (fun Ou QC=>?_)
    ·obtain⟨v,hv,u,rfl,gu⟩:=yk.Bc Bf zv
     refine⟨_,rfl,_,rfl,l,xW,_,_,rfl,rfl,xS.of MQ,aj hv,u,_,0,_,rfl,rfl,xV.of gu,aj (j:=0) rfl,_,rfl,rfl,_,rfl,?_⟩
     rw[ed]
     cases hb:decide (pr.1=(pp:Int)) with
     | true =>
      have Ab:decide (Prod.fst pr=(pp:Int))=true:=hb
      rw[Ab]at h
      exact aN ⟨_,rfl,h⟩
     | false =>
      have Ab:decide (Prod.fst pr=(pp:Int))=false:=hb
      rw[Ab]at h
      exact aJ h
    have hil:=oT Prod.fst ps (pp:Int)
    have s4:=(xN.refl H3).new (o := .lst (aL (cx Prod.fst ps (pp:Int)))) QC
    have gO:(upd H3 Ou (.lst (aL (cx Prod.fst ps (pp:Int))))) Ou=some (.lst (aL (cx Prod.fst ps (pp:Int)))):=ac
    show bE 12 (V.ref Ou) _ (upd H3 Ou (.lst (aL (cx Prod.fst ps (pp:Int))))) _
    generalize upd H3 Ou (.lst (aL (cx Prod.fst ps (pp:Int))))=H4 at s4 gO ⊢
    have Co:=s4 _ _ ES
    refine⟨_,rfl,Ou,rfl,⟨_,xS.of gO⟩,?_⟩
    refine ie (fun z=>!decide (z=gN ri pp)) (by rw[sizeLine_eq];omega) (xS.of gO) (fun z acc N hz h=>?_) (fun Mo hMo=>?_)
    ·refine⟨_,rfl,_,rfl,_,rfl,R,nV ri,(pp:Int),_,rfl,rfl,xS.of Co,aj (e7 (by omega)),rfl,_,rfl,?_⟩
     rw[ed]
     by_cases e:z=gN ri pp
     ·rw[decide_eq_true (show (z:Int)=(gN ri pp:Int) by omega)]
      rw[decide_eq_true e]at h
      exact aJ h
     ·rw[decide_eq_false (show ¬ (z:Int)=(gN ri pp:Int) by omega)]
      rw[decide_eq_false e]at h
      exact aN ⟨_,rfl,h⟩
    have s5:=s4.new (o := .lst (aL ((cx Prod.fst ps (pp:Int)).filter fun z=>!decide (z=gN ri pp)))) hMo
    have g5:(upd H4 Mo (.lst (aL ((cx Prod.fst ps (pp:Int)).filter fun z=>!decide (z=gN ri pp))))) Mo=some (.lst (aL ((cx Prod.fst ps (pp:Int)).filter fun z=>!decide (z=gN ri pp)))):=ac
    have HB:∀ z ∈ (cx Prod.fst ps (pp:Int)).filter fun z=>!decide (z=gN ri pp),z ∈ cx Prod.fst ps (pp:Int)/\z ≠ gN ri pp:=fun z hz=>by
     obtain⟨h1,h2⟩:=mem_filter.mp hz
     exact⟨h1,fun e=>by rw[decide_eq_true e]at h2;cases h2⟩
    have JY:((cx Prod.fst ps (pp:Int)).filter fun z=>!decide (z=gN ri pp)).length <= 12:=le_trans (length_filter_le _ _) (by omega)
    show bE 16 (V.ref Mo) _ (upd H4 Mo (.lst (aL ((cx Prod.fst ps (pp:Int)).filter fun z=>!decide (z=gN ri pp))))) _
    generalize (cx Prod.fst ps (pp:Int)).filter (fun z=>!decide (z=gN ri pp))=mo at s5 g5 HB JY ⊢
    generalize upd H4 Mo (.lst (aL mo))=H5 at s5 g5 ⊢
    have hmo:(aL mo).length=mo.length:=by unfold aL;rw[length_map]
    refine⟨_,rfl,_,rfl,R,nV ri,(pp:Int),_,rfl,rfl,xS.of (s5 _ _ ES),aj (e7 (by omega)),by show 1 <= sizeLine;decide,fun e6 UU=>?_⟩
    have s6:=s5.new (o := .lst [V.int (gN ri pp:Int)]) UU
    have g6:(upd H5 e6 (.lst [V.int (gN ri pp:Int)])) e6=some (.lst [V.int (gN ri pp:Int)]):=ac
    have Nt:(upd H5 e6 (.lst [V.int (gN ri pp:Int)])) Mo=some (.lst (aL mo)):=by rw[ae (ag g5 UU)];exact g5
    generalize upd H5 e6 (.lst [V.int (gN ri pp:Int)])=H6 at s6 g6 Nt ⊢
    refine⟨_,rfl,e6,Mo,_,_,rfl,rfl,g6,Nt,by rw[hmo,sizeLine_eq];simp only[length_singleton];omega,fun U7 Np=>?_⟩
    have s7:=s6.new (o := .lst ([V.int (gN ri pp:Int)] ++ aL mo)) Np
    have g7:(upd H6 U7 (.lst ([V.int (gN ri pp:Int)] ++ aL mo))) U7=some (.lst (aL (gN ri pp :: mo))):=ac
    have QL:(upd H6 U7 (.lst ([V.int (gN ri pp:Int)] ++ aL mo))) Mo=some (.lst (aL mo)):=by rw[ae (ag Nt Np)];exact Nt
    generalize upd H6 U7 (.lst ([V.int (gN ri pp:Int)] ++ aL mo))=H7 at s7 g7 QL ⊢
    have E7:=E3.same s7
    refine⟨_,rfl,_,rfl,_,rfl,_,rfl,_,rfl,_,_,rfl,rfl,G,nV gs,(k:Int),_,rfl,congrArg V.int Lp,xS.of (E7.s _ _ gG),aj (e7 (by omega)),_,rfl,_,rfl,_,rfl,_,_,rfl,rfl,R,nV ri,(k:Int),_,rfl,congrArg V.int Lp,xS.of (E7.s _ _ gR),aj (e7 (by omega)),by show 3 <= sizeLine;decide,fun t8 QM=>?_⟩
    have ekk:(bV (k2 n ri gs k)).map gY=[.int (pp:Int), .int (gN gs k:Int), .int (gN ri k:Int)]:=by rw[← Nr];rfl
    have s8:=s7.new (o := .tup [.int (pp:Int), .int (gN gs k:Int), .int (gN ri k:Int)]) QM
    have g8:(upd H7 t8 (.tup [.int (pp:Int), .int (gN gs k:Int), .int (gN ri k:Int)])) t8=some (.tup ((bV (k2 n ri gs k)).map gY)):=by rw[ekk];exact ac
    have UW:(upd H7 t8 (.tup [.int (pp:Int), .int (gN gs k:Int), .int (gN ri k:Int)])) U7=some (.lst (aL (gN ri pp :: mo))):=by rw[ae (ag g7 QM)];exact g7
    have DH:(upd H7 t8 (.tup [.int (pp:Int), .int (gN gs k:Int), .int (gN ri k:Int)])) Mo=some (.lst (aL mo)):=by rw[ae (ag QL QM)];exact QL
    generalize upd H7 t8 (.tup [.int (pp:Int), .int (gN gs k:Int), .int (gN ri k:Int)])=H8 at s8 g8 UW DH ⊢
    have E8:=E3.same s8
    obtain⟨d81,_,d83⟩:=E8.DJ
    have QN:=m2 Ng E3.e.all
    have ekp:(k2 n ri gs k).1=(pp:Int):=by rw[← Nr];rfl
    have E9:=(E8.up (show 18 <= 20 by decide)).put (tt:=t8) hD (by decide) QN UW (fun z hz=>by
     rw[ekp]
     rcases mem_cons.mp hz with hz | hz
     ·rw[hz];exact(fN B3 (by omega)).1
     ·exact(HB z hz).1) (by rw[length_cons];omega)
    refine⟨D,xP,bV (k2 n ri gs k),t8,rfl,d81,rfl,g8,by omega,?_⟩
    have nMD:Mo ≠ D:=aV DH E8.e.d (by intro z;cases z)
    have Nu:(upd H8 D (bF P w D (cF xP (bV (k2 n ri gs k)) t8 (.ref U7)))) Mo=some (.lst (aL mo)):=by rw[ae nMD];exact DH
    generalize cF xP (bV (k2 n ri gs k)) t8 (.ref U7)=GA at E9 Nu ⊢
    generalize upd H8 D (bF P w D GA)=H9 at E9 Nu ⊢
    refine⟨_,rfl,zero_le _,fun e0 Df=>?_⟩
    have Aq:=(xN.refl H9).new (o := .lst []) Df
    have AD:(upd H9 e0 (.lst [])) e0=some (.lst (([]:List Int).map V.int)):=ac
    have Lq:(upd H9 e0 (.lst [])) Mo=some (.lst (aL mo)):=by rw[ae (ag Nu Df)];exact Nu
    generalize upd H9 e0 (.lst [])=zJ at Aq AD Lq ⊢
    have G9:=E9.same Aq
    refine⟨Mo,e0,iz mo,[],rfl,rfl,xS.of (by rw[Lq,uK]),xS.of AD,_,rfl,?_⟩
    have Nm:gN ri pp=gN ri ((k + 1) % n):=by rw[Nr]
    cases mo with
    | nil =>
     refine aN ⟨_,rfl,_,_,rfl,rfl, .inl ⟨by decide,by decide⟩,?_⟩
     refine⟨_,_,_,_,_,_,_,_,_,_,2 * n,GA,_,G9,le_refl _,(fun _=>?_),(fun z=>by omega),rfl⟩
     rw[Nm]
     exact sG B3 zj Ng G3 QN
    | cons y mo =>
     exact aJ ⟨_,_,_,_,_,_,_,_,_,_,od,GA,_,G9,Le,(fun z=>by omega),(fun _=>vb Ng QN (y:=y) (mem_cons_of_mem _ mem_cons_self) (by rw[← Nm];exact(HB y mem_cons_self).2)),rfl⟩
   ·rw[decide_eq_false DG]
    exact aJ ⟨_,_,_,_,_,_,_,_,_,_,od,xP,rs,E3.up (by decide),Le,(fun _=>G3),(fun z=>by omega),rfl⟩
  clear E3 G3 Nn ES
  rintro σ H4 ⟨a7,a8,a9,za,zT,zU,Cc,DK,UI,UJ,Al,xP,rs,E4,Cq,hG4,hB4,rfl⟩
  have BV:xP.length=rs.length:=Paired.length E4.e.r
  have Aa:=E4.e.yI
  refine⟨_,rfl,D,xP,rfl,E4.e.d,fun o=>?_⟩
  have nf:∀ o' u',H D ≠ some (.yW o' u'):=fun o' u' z=>by rw[hD]at z;cases z
  have gF:(upd H4 D (.yW o (bF P w D xP))) D=some (.yW o (bF P w D xP)):=ac
  have tw:∀ {H3:Hp},xN (upd H4 D (.yW o (bF P w D xP))) H3->xN H4 (upd H3 D (bF P w D xP)):=fun {H3} s3=>xN.BJ E4.e.d s3
  have DP:Paired (dQ (upd H4 D (.yW o (bF P w D xP)))) xP rs:=by
   have:∀ {kv:List bO}{rs:List Rw},Paired (dQ H4) kv rs->Paired (dQ (upd H4 D (.yW o (bF P w D xP)))) kv rs:=by
    intro kv rs h
    induction h with
    | nil=>exact .nil
    | cons h1 _ ih =>
     obtain⟨a,b,U,c,d⟩:=h1
     exact .cons ⟨a,by rw[ae (aV b E4.e.d (by intro z;cases z))];exact b,U,c,by rw[ae (aV d E4.e.d (by intro z;cases z))];exact d⟩ ih
   exact this E4.e.r
  generalize upd H4 D (.yW o (bF P w D xP))=HF at gF tw DP ⊢
  refine qc (rs:=rs) (by rw[sizeLine_eq];omega) gF DP (fun x r U H9 N HE s9 gk hN=>?_) (fun Rl yi H9 s9 ET Nv=>?_)
  ·obtain⟨U',hU',Q3⟩:=nH DP E4.e.nd HE
   have Lr:vn P w H9 D xP:=by
    refine⟨.inr ⟨o,s9 _ _ gF⟩,fun y hy=>?_⟩
    obtain⟨j,hj,ej⟩:=getElem_of_mem hy
    obtain⟨r',_,a,b,_⟩:=vL DP (getElem?_eq_getElem hj)
    rw[ej]at a b
    rw[a];exact s9 _ _ b
   refine⟨_,rfl,x.2.1,_,0,_,rfl,rfl,xV.of gk,aj (j:=0) rfl,_,rfl,x.2.1,_,1,_,rfl,rfl,xV.of gk,aj (j:=1) rfl,_,rfl,x.2.1,_,2,_,rfl,rfl,xV.of gk,aj (j:=2) rfl,_,rfl,_,rfl,D,xP,aK r,x.2.1,_,rfl,Lr,rfl,by rw[xo];exact gk,hU',by show 4 <= sizeLine;decide,fun t ht=>hN t U' ht (s9 _ _ Q3)⟩
  have Aq:=s9.new (o := .lst yi) ET
  have Nw:(upd H9 Rl (.lst yi)) Rl=some (.lst yi):=ac
  have EY:=zO.same ((xN.refl H9).new (o := .lst yi) ET) Nv
  generalize upd H9 Rl (.lst yi)=zJ at Aq Nw EY ⊢
  refine⟨_,rfl,by show 2 <= sizeLine;decide,fun t ht=>?_⟩
  have QO:=Aq.new (o := .tup [.ref Rl, .int Al]) ht
  have gt:(upd zJ t (.tup [.ref Rl, .int Al])) t=some (.tup [.ref Rl, .int Al]):=ac
  have v11:=(xN.refl zJ).new (o := .tup [.ref Rl, .int Al]) ht
  have CM:=v11 _ _ Nw
  have EZ:=zO.same v11 EY
  generalize upd zJ t (.tup [.ref Rl, .int Al])=DO at QO gt CM EZ ⊢
  have CN:=QO _ _ gF
  refine⟨D,o,bF P w D xP,CN,nf,?_⟩
  refine q t Rl yi rs Al _ (E4.s.trans (tw QO)) (by rw[ae (aV gt CN (by intro z;cases z))];exact gt) (by rw[ae (aV CM CN (by intro z;cases z))];exact CM) ?_ E4.e.g E4.e.nd Aa Cq hG4 hB4
  refine zO.imp (fun v r h=>?_) EZ
  obtain⟨t',l',e,h1,h2⟩:=h
  exact⟨t',l',e,by rw[ae (aV h1 CN (by intro z;cases z))];exact h1,by rw[ae (aV h2 CN (by intro z;cases z))];exact h2⟩
noncomputable def cv (ri gs:List Nat)(n tu:Nat):List (Nat × Nat):=(List.range n).map fun k=>(gN ri ((tu + k) % n),gN gs ((tu + k) % n))
theorem iX (ri gs:List Nat)(n tu:Nat):(cv ri gs n tu).length=n:=by unfold cv;rw[length_map,length_range]
theorem du {ri gs:List Nat}{n tu k:Nat}(hk:k < n):aH (cv ri gs n tu) k=(gN ri ((tu + k) % n),gN gs ((tu + k) % n)):=by
 unfold aH cv
 rw[getD_eq_getElem?_getD,bS _ hk]
 rfl
theorem jD {n tu k:Nat}(h3:3 <= n)(h6:n <= 6):(tu + (k + 1) % n) % n=((tu + k) % n + 1) % n:=by
 have hn:n=3∨n=4∨n=5∨n=6:=by omega
 rcases hn with rfl | rfl | rfl | rfl<;>omega
theorem qr {n tu i j:Nat}(h3:3 <= n)(h6:n <= 6)(hi:i < n)(hj:j < n)(h:(tu + i) % n=(tu + j) % n):i=j:=by
 have hn:n=3∨n=4∨n=5∨n=6:=by omega
 rcases hn with rfl | rfl | rfl | rfl<;>omega
theorem tN {n tu k:Nat}(h3:3 <= n)(h6:n <= 6)(ht:tu < n)(hk:k < n):∃ j,j < n/\(tu + j) % n=k:=by
 refine⟨(k + n - tu) % n,mod_lt _ (by omega),?_⟩
 have hn:n=3∨n=4∨n=5∨n=6:=by omega
 rcases hn with rfl | rfl | rfl | rfl<;>omega
structure Bi (a:YA)(n:Nat)(ps:List (Int × Int))(rs:List Rw)(ri gs:List Nat):Prop where
 en:a.n=n
 HG:a.ps=ps
 QP:a.wy=m7 rs
 nd:(rs.map aX).Nodup
 rl:B1 n ps ri
 len:ri.length=n
 gl:Qw n gs
 n3:3 <= n
 n6:n <= 6
theorem Bi.yh {a:YA}{n:Nat}{ps:List (Int × Int)}{rs:List Rw}{ri gs:List Nat}(h:Bi a n ps rs ri gs){p:Nat}(hp:p < n):gN ri p < a.ps.length/\a.ps.getD (gN ri p) (0,0)=((p:Int),(((p + 1) % n:Nat):Int))/\bu a (gN ri p)=p:=by
 have h1:=h.rl.at' p _ (eu (by rw[h.len];exact hp))
 have e:a.ps.getD (gN ri p) (0,0)=((p:Int),(((p + 1) % n:Nat):Int)):=by rw[h.HG,getD_eq_getElem?_getD,h1];rfl
 refine⟨by rw[h.HG];exact(gQ0 h1),e,?_⟩
 unfold bu
 rw[e]
 exact toNat_natCast p
theorem Bi.yZ {a:YA}{n:Nat}{ps:List (Int × Int)}{rs:List Rw}{ri gs:List Nat}(h:Bi a n ps rs ri gs){p:Nat}(hp:p < n):K68.yZ a (gN ri p) (gN gs p)=m7 rs ((p + 1) % n) (gN gs p) (some (gN ri p)):=by
 have hg:=h.gl.lt p _ (eu (by rw[h.gl.len];exact hp))
 unfold K68.yZ
 rw[(h.yh hp).2.1,if_neg (by show ¬ (((p + 1) % n:Nat):Int)=_;omega),h.QP]
 show m7 rs ((((p + 1) % n:Nat):Int)).toNat _ _=_
 rw[toNat_natCast]
theorem uR {a:YA}{n tu:Nat}{ps:List (Int × Int)}{rs:List Rw}{ri gs:List Nat}{rm:List Nat}(h:Bi a n ps rs ri gs)(G:ld n ri gs rs n)(hM:Hw a rm):Rg a (cv ri gs n tu) rm:=by
 have hl:=iX ri gs n tu
 have h3:=h.n3
 have B9:∀ k,(tu + k) % n < n:=fun k=>mod_lt _ (by omega)
 refine⟨?_,fun k hk=>?_,hM.len,hM.pos,fun k hk=>?_,fun k hk=>?_⟩
 ·have e:(cv ri gs n tu).map (·.1)=(List.range n).map fun k=>gN ri ((tu + k) % n):=by unfold cv;rw[map_map];rfl
  rw[e]
  refine List.pairwise_map.mpr (List.Pairwise.imp_of_mem (fun {i j} hi hj Ac z=>?_) nodup_range)
  exact Ac (qr h3 h.n6 (mem_range.mp hi) (mem_range.mp hj) (nh h.rl (by rw[h.len];exact B9 i) (by rw[h.len];exact B9 j) z))
 ·rw[hl]at hk
  rw[du hk]
  exact(h.yh (B9 k)).1
 ·rw[hl]at hk
  rw[du hk]
  show gN ri ((tu + k) % n) ∈ a.wy (bu a (gN ri ((tu + k) % n))) (gN gs ((tu + k) % n)) none
  rw[(h.yh (B9 k)).2.2,h.QP,kd h.nd]
  exact(G _ (B9 k)).1
 ·rw[hl]at hk
  rw[hl,du hk,du (mod_lt _ (by omega)),jD h3 h.n6]
  show K68.yZ a (gN ri ((tu + k) % n)) (gN gs ((tu + k) % n))=[gN ri (((tu + k) % n + 1) % n)]
  rw[h.yZ (B9 k)]
  exact tM h.nd (G _ (B9 k)).2
theorem Rg.can {a:YA}{rg:List (Nat × Nat)}{rm:List Nat}(h:Rg a rg rm):i5 a rg=true:=all_eq_true.mpr fun k hk=>by
 have hk:=mem_range.mp hk
 unfold vD
 rw[decide_eq_true (show(aH rg k).1 ∈ a.wy (bu a (aH rg k).1) (aH rg k).2 none from h.go k hk),decide_eq_true (h.on k hk)]
 rfl
theorem vd {a:YA}{n tu:Nat}{ps:List (Int × Int)}{rs:List Rw}{ri gs:List Nat}(h:Bi a n ps rs ri gs)(ht:tu < n)(B:KR n ri gs rs):i5 a (cv ri gs n tu)=false:=by
 obtain⟨p,hp,hb⟩:=B
 have h3:=h.n3
 obtain⟨j,hj,ej⟩:=tN h3 h.n6 ht hp
 have hl:=iX ri gs n tu
 unfold i5
 rw[List.all_eq_false]
 refine⟨j,mem_range.mpr (by rw[hl];exact hj),fun z=>?_⟩
 unfold vD at z
 rw[hl,du hj,du (mod_lt _ (by omega)),jD h3 h.n6,ej,Bool.and_eq_true,decide_eq_true_eq,decide_eq_true_eq]at z
 obtain⟨z1,z2⟩:=z
 rcases hb with hb | ⟨y,hy,Ac⟩
 ·refine hb ?_
  have z1:gN ri p ∈ a.wy (bu a (gN ri p)) (gN gs p) none:=z1
  rw[(h.yh hp).2.2,h.QP,kd h.nd]at z1
  exact z1
 ·have z2:K68.yZ a (gN ri p) (gN gs p)=[gN ri ((p + 1) % n)]:=z2
  rw[h.yZ hp]at z2
  have:y ∈ m7 rs ((p + 1) % n) (gN gs p) (some (gN ri p)):=(kd h.nd).mpr hy
  rw[z2]at this
  exact Ac (mem_singleton.mp this)
noncomputable def sw (a:YA)(rg:List (Nat × Nat))(rm:List Nat)(k:Nat):PyData := .tuple [.int (bu a (aH rg k).1), .int (aH rg k).2, .int (cj rm (aH rg k).1), .int 0]
theorem eR {K:Frag}{H:Hp}{a:YA}{rg:List (Nat × Nat)}{rm:List Nat}:∀ {vs:List V}{ks:List Nat},Paired (y8 H) vs (ks.map (lH a rg rm))->j2 K H vs (ks.map (sw a rg rm))
 | _,[], .nil => .nil
 | _,_ :: _, .cons ⟨_,e,g⟩ r=>by
  subst e
  exact .cons (.tup (xV.of g) (.cons (.int _) (.cons (.int _) (.cons (.int _) (.cons (.int _) .nil))))) (eR r)
theorem tW (a:YA)(rg:List (Nat × Nat))(rm:List Nat)(k:Nat):zE (sw a rg rm k) 1:=by
 refine eW (m:=0) fun z hz=>?_
 simp only[mem_cons,not_mem_nil,or_false]at hz
 rcases hz with rfl | rfl | rfl | rfl<;>exact dq _
theorem lp (a:YA)(rg:List (Nat × Nat))(rm:List Nat)(ks:List Nat):zE (.list (ks.map (sw a rg rm))) 2:=eI (m:=1) fun z hz=>by
 obtain⟨k,_,rfl⟩:=mem_map.mp hz
 exact tW a rg rm k
theorem tV (ms:List Mv):zE (.list (ms.map oK)) 2:=eI (m:=1) fun z hz=>by
 obtain⟨k,_,rfl⟩:=mem_map.mp hz
 exact fJ k
noncomputable def ow (K:Frag):Sp:=fun vs H Q _=>∃ (a:Addr)(ns:List Int),vs=[.ref a]/\xS K H a (ns.map V.int)/\ns.length <= 63/\∀ H',Q (.bl true) H'
abbrev UX:List Str:=["_law_script", "_law_places", "_law_lanes_here", "_law_ring", "_law_goals_here", "_law_odd", "_law_rows_here", "_law_table", "_law_rooms", "_law_k", "_law_cell", "_law_turn", "_law_pairs", "_law_at", "_law_handed", "_law_found", "_law_due"]
structure Fns (P:Program)(w:World)(K:Frag)(mg:Str->Option Value)(base:Heap)(c:Cs)(ts:Ts)(fc fl fg fr fi ft fs fst:Addr)(dc dl dg dr di dt ds dst:FuncData):Prop where
 mc:mg "_law_cell_at" = some (.ref fc)
 kc:keepIn K (.ref fc)=true
 bc:Binds K dc ["_law_script", "_law_k"] []
 Gc:xO P w K mg base aF 1 fc dc ["_law_script", "_law_k"] (mP K)
 ml:mg "_law_lanes" = some (.ref fl)
 kl:keepIn K (.ref fl)=true
 bl:Binds K dl ["_law_script", "_law_places"] []
 Gl:xO P w K mg base aF 2 fl dl ["_law_script", "_law_places"] (oy K)
 Km:mg "_law_goals" = some (.ref fg)
 kg:keepIn K (.ref fg)=true
 bg:Binds K dg ["_law_ring", "_law_places", "_law_cell"] []
 Gg:xO P w K mg base aF 2 fg dg ["_law_ring", "_law_places", "_law_cell"] oz
 mr:mg "_law_rows" = some (.ref fr)
 kr:keepIn K (.ref fr)=true
 br:Binds K dr Nh []
 Gr:xO P w K mg base aF 2 fr dr Nh (qC K)
 mi:mg "Land" = some (.ref c.land)
 Mi:Mk K c.land fi
 bi:Binds K di ["self", "places", "lanes"] []
 Gi:xO P w K mg base aF 4 fi di ["self", "places", "lanes"] (qL K c)
 mt:mg "Told" = some (.ref ts.told)
 Mt:Mk K ts.told ft
 bt:Binds K dt ["self", "land", "rows"] []
 Gt:xO P w K mg base aF 5 ft dt ["self", "land", "rows"] (qA P w K c ts)
 ms:mg "stand_of" = some (.ref fs)
 ks:keepIn K (.ref fs)=true
 bs:Binds K ds ["table", "rooms", "ring"] []
 Gs:xO P w K mg base aF 6 fs ds ["table", "rooms", "ring"] (qB c ts.told (yp P w ts))
 mst:mg "_law_stands" = some (.ref fst)
 kst:keepIn K (.ref fst)=true
 bst:Binds K dst MZ []
 Gst:xO P w K mg base aF 9 fst dst MZ (lm c ts.told (yp P w ts))
theorem Ls (d:Int):∃ (j:Nat)(q:Int),d % 3=(j:Int)/\([V.int 3,V.int 3,V.int 60]:List V)[j]? = some (V.int q)/\0 < q/\q <= 60:=by
 have h:d % 3=0∨d % 3=1∨d % 3=2:=by omega
 rcases h with h | h | h
 ·exact⟨0,3,h,rfl,by decide,by decide⟩
 ·exact⟨1,3,h,rfl,by decide,by decide⟩
 ·exact⟨2,60,h,rfl,by decide,by decide⟩
theorem yE:ar UX ["_law_script"] (al iW):=L2.yq
theorem QQ:yK UX (al iW) (mz (cZ (aG iW) 17)) ["_law_lanes_here", "_law_rooms"] [2,8]:=L2.zA
theorem Lu:(["_law_lane", "_law_goal", "_law_lanes_here", "_law_rooms"]:List Str).Nodup:=by decide +kernel
theorem wX {c:Cs}{ts:Ts}{f fw fc fl fg fr fi ft fs fst:Addr}{fd dw dc dl dg dr di dt ds dst:FuncData}(F:yn K "law" "law" iW f fd)(T:fR mg)(Z:xI K)(ZL:kitOne K (.type "list") (.type "list")=some true)(W:Wy K ts.told fw dw (yp P w ts))
  (D:Fns P w K mg base c ts fc fl fg fr fi ft fs fst dc dl dg dr di dt ds dst):xO P w K mg base aF 10 f fd ["_law_script"] (ow K):=by
 refine F.ok yE (fun _ _ _ _ h=>?_) (fun _ _ _ s H _ Q E hr h=>?_)
 ·obtain⟨a,ns,rfl,_⟩:=h
  rfl
 ·obtain⟨sc,ns,rfl,hS,hlen,q⟩:=h
  have hu:=hr.units
  have yA:ya 1 _:=hr.mono (by decide)
  have zh:ya 2 _:=hr.mono (by decide)
  have Ko:ya 5 _:=hr.mono (by decide)
  have Kp:ya 6 _:=hr.mono (by decide)
  refine⟨_,(af (aD (i:=1) yE.nd rfl (Or.inl rfl) (ax bD ai (ax bx (az D.Gc yA rfl D.mc D.kc D.bc .nil ap (aa (pv 0) (aa ai ad))) ai)))
    (af (gW (az D.Gl zh rfl D.ml D.kl D.bl .nil ap (aa (pv 0) (aa (pv 1) ad))) (cX rfl (aQ (aq (i:=2) yE.nd rfl (Or.inr rfl)) (aQ (aq (i:=3) yE.nd rfl (Or.inl rfl)) ck))))
    (af (aD (i:=4) yE.nd rfl (Or.inl rfl) (az D.Gg zh rfl D.Km D.kg D.bg .nil ap (aa (pv 3) (aa (pv 1) (aa (az D.Gc yA rfl D.mc D.kc D.bc .nil ap (aa (pv 0) (aa ai ad))) ad)))))
    (af (aD (i:=5) yE.nd rfl (Or.inl rfl) (ax dE ai (pv 1)))
    (af (eX (aR (PW.pt (rn (aw bG (ax bx (ax dY (az D.Gc yA rfl D.mc D.kc D.bc .nil ap (aa (pv 0) (aa ai ad))) ai) ai) ai (ay _)) (oC (aw rB (pv 1) ai (ay _))))) (ak (aD (i:=5) yE.nd rfl (Or.inl rfl) (ax bx (ax dY (az D.Gc yA rfl D.mc D.kc D.bc .nil ap (aa (pv 0) (aa ai ad))) ai) (ax dE ai (pv 1))))) aE))
    (af (gW (az D.Gr zh rfl D.mr D.kr D.br .nil ap (aa (pv 2) (aa (pv 3) (aa (pv 4) (aa (az D.Gc yA rfl D.mc D.kc D.bc .nil ap (aa (pv 0) (aa ai ad))) (aa (pv 5) ad)))))) (cX rfl (aQ (aq (i:=6) yE.nd rfl (Or.inl rfl)) (aQ (aq (i:=5) yE.nd rfl (Or.inl rfl)) ck))))
    (af (aD (i:=7) yE.nd rfl (Or.inl rfl) (dA D.Mt D.Gt Kp rfl D.mt D.bt .nil ap (aa (dA D.Mi D.Gi Ko rfl D.mi D.bi .nil ap (aa (pv 1) (aa (aY bW rfl T.list PySem.Pv.boot_list (aa (pv 2) ad)) ad))) (aa (pv 6) ad))))
    (af (aD (i:=8) yE.nd rfl (Or.inr rfl) (aP ad))
    (af (bB PassesOwn.never rfl (aS rfl T.range (aa (aB aC rfl T.len PySem.boot_len (aa (pv 2) ad)) ad)) (aq (i:=9) yE.nd rfl (Or.inl rfl))
    (af (aD (i:=10) yE.nd rfl (Or.inl rfl) (az D.Gc yA rfl D.mc D.kc D.bc .nil ap (aa (pv 0) (aa (ax bD ai (pv 9)) ad))))
    (ak (aU (cp plainAttrs_list PySem.F.slot_list_append PySem.F.type_list_append b0 (pv 8) (aa (ax bD ai (ax bx (pv 10) (ao aA (aP (aa ai (aa ai (aa ai ad)))) (ax bx (ax dY (pv 10) ai) ai) (fun _ _=>rfl)))) ad))))))
    (af (aD (i:=11) yE.nd rfl (Or.inl rfl) (ax bx (ax dY (az D.Gc yA rfl D.mc D.kc D.bc .nil ap (aa (pv 0) (aa ai ad))) ai) (pv 1)))
    (af (aD (i:=12) yE.nd rfl (Or.inl rfl) (aP ad))
    (af (bB PassesOwn.never rfl (aS rfl T.range (aa (pv 1) ad)) (aq (i:=9) yE.nd rfl (Or.inl rfl))
    (af (aD (i:=13) yE.nd rfl (Or.inl rfl) (ax bx (ax bD (pv 11) (pv 9)) (pv 1)))
    (ak (aU (cp plainAttrs_list PySem.F.slot_list_append PySem.F.type_list_append b0 (pv 12) (aa (aW (aa (ao aA (pv 3) (pv 13) (fun _ _=>rfl)) (aa (ao aA (pv 4) (pv 13) (fun _ _=>rfl)) ad))) ad))))))
    (af (aD (i:=14) yE.nd rfl (Or.inl rfl) (aP (aa (aY bW rfl T.list PySem.Pv.boot_list (aa (pv 8) ad)) (aa (aY ce rfl T.tuple PySem.Pv.boot_tuple (aa (pv 12) ad)) ad))))
    (af (aD (i:=15) yE.nd rfl (Or.inl rfl) (kG (az D.Gs Kp rfl D.ms D.ks D.bs .nil ap (aa (pv 7) (aa (ao aA (pv 14) ai (fun _ _=>rfl)) (aa (ao aA (pv 14) ai (fun _ _=>rfl)) ad))))))
    (af (aR (aw (rA hu) (ao aA (pv 14) ai (fun _ _=>rfl)) (pv 8) (ay _)) (ak (au eK)) aE)
    (af (aR (aw jI (pv 5) (ax dE ai (pv 1)) (ay _)) (ak (au (bU je (pv 15) bH (ay _)))) aE)
    (af (aR (PW.pt (fD (bM (b9 (aB dO rfl T.Ej PyProof.Rows.boot_isinstance (aa (pv 15) (aa (dB (v := .ty "tuple") rfl T.tuple PySem.Pv.boot_tuple rfl) ad))))) (fD (aw iq (aB aC rfl T.len PySem.boot_len (aa (pv 15) ad)) ai (ay _)) (dW (aw (kK hu) (az D.Gs Kp rfl D.ms D.ks D.bs .nil ap (aa (pv 7) (aa (pv 8) (aa (aY ce rfl T.tuple PySem.Pv.boot_tuple (aa (pv 12) ad)) ad)))) (pv 15) (ay _)))))) (ak (au eK)) aE)
    (af (c7 (i:=16) (own:=["_law_lane", "_law_goal"]) (capN:=["_law_lanes_here", "_law_rooms"]) (cap:=[2,8]) QQ rfl yE.nd rfl rfl (bA (pv 12))
     (fun C s' H' fp=>⟨(show PG _ _ (sI K 2 _) from cX rfl (aQ (aq (i:=0) Lu rfl (Or.inl rfl)) (aQ (aq (i:=1) Lu rfl (Or.inl rfl)) ck))),bT,aW (aa (ao (show j0 _ (gP K) from av) (ao (show j0 _ (kD K) from aA) (pv 2) (pv 0) (fun _ _=>rfl)) ai (fun _ _=>rfl)) (aa (pv 1) (aa (ao (show j0 _ (kD K) from aA) (pv 3) (pv 0) (fun _ _=>rfl)) (aa ai ad))))⟩))
    (af (aR (PW.pt (fD (aw (kK hu) (ao av (pv 15) ai (fun _ _=>rfl)) (pv 16) (ay _)) (dW (bM (b9 (aB dO rfl T.Ej PyProof.Rows.boot_isinstance (aa (ao av (pv 15) ai (fun _ _=>rfl)) (aa (dB (v := .ty "list") rfl T.list PySem.Pv.boot_list rfl) ad)))))))) (ak (au eK)) aE)
    (ak (au (az D.Gst hr rfl D.mst D.kst D.bst .nil ap (aa (pv 7) (aa (pv 8) (aa (ao av (pv 15) ai (fun _ _=>rfl)) (aa (ao av (pv 15) ai (fun _ _=>rfl)) ad)))))))))))))))))))))))))),?_⟩
  refine⟨_,rfl,sc,ns,0,rfl,hS,fun d0=>⟨_,_,rfl,rfl,(by show (0:Int) < 4;decide),_,_,rfl,rfl,?_⟩⟩
  obtain⟨n,hn,ER,CI⟩:∃ n:Nat,(3:Int) + d0 % 4=(n:Int)/\3 <= n/\n <= 6:=⟨(3 + d0 % 4).toNat,by omega,by omega,by omega⟩
  show bE 1 (V.int ((3:Int) + d0 % 4)) _ _ _
  rw[hn]
  have Ax:(0:Int) < (n:Int):=by omega
  refine⟨_,rfl,_,rfl,sc,ns,n,rfl,hS,ER,CI,fun t l R xW ps ri H1 s1 _ _ _ gt gl CZ gR B3 zm zj=>?_⟩
  refine⟨t,_,rfl,xV.of gt,rfl,_,_,rfl,_,_,rfl,rfl,?_⟩
  have xY:=B3.ok
  have AA:xW.length=ps.length:=Paired.length CZ
  refine⟨_,rfl,_,rfl,_,rfl,sc,ns,2,rfl,s1.seq hS,fun d1=>⟨_,n,d1,rfl,ER,CI,fun G gs H2 s2 hGn gG hG=>?_⟩⟩
  have Gu:=s1.trans s2
  refine⟨_,rfl,_,_,rfl,rfl, .inl ⟨by decide,by decide⟩,?_⟩
  refine⟨fun σ H3=>∃ od:Nat,H3=H2/\od <= 2 * n/\(od < 2 * n->3 < n)/\σ=[some (.ref sc),some (.int n),some (.ref l),some (.ref R),some (.ref G),some (.int od),none,none,none,none,none,none,none,none,none,none,none],?_,?_⟩
  ·have dflt:∃ od:Nat,H2=H2/\od <= 2 * n/\(od < 2 * n->3 < n)/\([some (.ref sc),some (.int n),some (.ref l),some (.ref R),some (.ref G),some (.int (2 * (n:Int))),none,none,none,none,none,none,none,none,none,none,none]:St)=[some (.ref sc),some (.int n),some (.ref l),some (.ref R),some (.ref G),some (.int od),none,none,none,none,none,none,none,none,none,none,none] :=
    ⟨2 * n,rfl,le_refl _,(fun z=>by omega),by rw[natCast_mul];rfl⟩
   refine⟨_,rfl,sc,ns,0,rfl,Gu.seq hS,fun d2=>⟨_,_,rfl,rfl,⟨by decide,by decide⟩,_,_,rfl,rfl,(by show (0:Int) < 4;decide),rfl,_,rfl,?_⟩⟩
   refine IE (fun _=>?_) fun _=>aJ dflt
   refine⟨_,rfl,_,_,rfl,rfl,_,rfl,?_⟩
   by_cases h3:(n:Int) > 3
   ·rw[decide_eq_true h3]
    have hp:(0:Int) < 2 * (n:Int):=by omega
    refine aN ⟨_,rfl,sc,ns,0,rfl,Gu.seq hS,fun d3=>⟨_,_,rfl,rfl,⟨by decide,by decide⟩,_,rfl,_,_,rfl,rfl, .inl ⟨by decide,by decide⟩,_,_,rfl,rfl,hp,?_⟩⟩
    obtain⟨od,ho,zq⟩:∃ od:Nat,d3 / 16 % (2 * (n:Int))=(od:Int)/\od < 2 * n:=by
     have h1:=emod_nonneg (d3 / 16) (show 2 * (n:Int) ≠ 0 by omega)
     have h2:=emod_lt_of_pos (d3 / 16) hp
     exact⟨(d3 / 16 % (2 * (n:Int))).toNat,by omega,by omega⟩
    refine⟨od,rfl,by omega,(fun _=>by omega),?_⟩
    dsimp only
    rw[ho]
    rfl
   ·rw[decide_eq_false h3]
    exact aJ dflt
  rintro σ H3 ⟨od,rfl,Le,G6,rfl⟩
  refine⟨_,rfl,_,rfl,_,rfl,_,rfl,sc,ns,3,rfl,Gu.seq hS,fun d4=>⟨_,rfl,l,R,G,xW,ps,ri,gs,n,od,d4,rfl,s2 _ _ gl,yk.same s2 CZ,B3,by omega,ER,CI,s2 _ _ gR,zj,gG,hG,Le,G6,fun t2 Rl yi rs Al H4 s4 gt2 Nw Nv Nx Nk Aa hod' C3 GB=>?_⟩⟩
  refine⟨t2,_,rfl,xV.of gt2,rfl,_,_,rfl,_,_,rfl,rfl,?_⟩
  have s04:=Gu.trans s4
  have UY:=s4 _ _ (s2 _ _ gl)
  have Co:=s4 _ _ (s2 _ _ gR)
  have gG4:=s4 _ _ gG
  have EU:=yk.same (s2.trans s4) CZ
  have Kv:yi.length=rs.length:=Paired.length Nv
  refine⟨_,rfl,_,rfl,l,_,rfl, .inl (xS.of UY),fun l2 zI=>?_⟩
  have s5:=(xN.refl H4).new (o := .lst xW) zI
  have UZ:(upd H4 l2 (.lst xW)) l2=some (.lst xW):=ac
  generalize upd H4 l2 (.lst xW)=H5 at s5 UZ ⊢
  refine fun xl zQ nx JD Er=>?_
  have s6:xN H5 (upd (upd H5 zQ (.own xl)) xl (.ins c.land zQ [])):=xN.new (xN.new (xN.refl H5) JD) (by rw[ae (Ne.symm Er)];exact nx)
  have gd:=sO (ps:=ps) (n:=n) (by omega) (by omega) (by omega) xY
  refine⟨xl,zQ,(n:Int),l2,xW,ps,rfl,ac,xS.of (s6 _ _ UZ),yk.same (s5.trans s6) EU,by omega,(fun h=>by rw[gd]at h;cases h),(fun k h=>by rw[gd]at h;cases h),(fun k h=>by rw[gd]at h;cases h),fun _ H6 lt ye off hL=>⟨rfl,?_⟩⟩
  have QR:xN H4 H6:=fun b o e=>off b o (ag (s5 _ _ e) nx) (s6 _ _ (s5 _ _ e))
  refine⟨_,rfl,fun tb Lv nt ndt net=>?_⟩
  have s7:xN H6 (upd (upd H6 Lv (.own tb)) tb (.ins ts.told Lv [])):=xN.new (xN.new (xN.refl H6) ndt) (by rw[ae (Ne.symm net)];exact nt)
  have Dz:=rj Nx Nk
  refine⟨tb,Lv,xl,zQ,lt,Rl,(n:Int),ye,yi,ps,rs,rfl,ac,⟨s7 _ _ hL.1,s7 _ _ hL.2.1,yk.same s7 hL.2.2⟩,xS.of (s7 _ _ (QR _ _ Nw)),zO.same (QR.trans s7) Nv,by omega,by omega,(fun r hr=>⟨fun k hk=>by have:=n9 ((Nx r hr).s k hk);omega,by have:=(Nx r hr).yI;omega⟩),(fun i hi=>by rw[Dz]at hi;cases hi),fun _ H8 de xP QS QT Va Vb=>⟨rfl,?_⟩⟩
  have Ny:xN H6 H8:=fun b o e=>QS b o (ag e nt) (s7 _ _ e)
  have Lw:=QR.trans Ny
  have EM:=s04.trans Lw
  have DF:∀ r ∈ rs,∀ k ∈ r.s,k < ps.length:=fun r hr k hk=>n9 ((Nx r hr).s k hk)
  obtain⟨a,ha⟩:∃ a:YA,a = ⟨0,0,tb,0,0,0,0,0,xl,zQ,lt,n,ye,ps,m7 rs⟩:=⟨_,rfl⟩
  have hO:vh a:=by
   rw[ha]
   refine⟨fun l pr hl=>?_,fun p g k=>by have:=(ql DF p g k).2;show(m7 rs p g k).length <= 400;omega⟩
   have zS:=xY pr (mem_of_getElem? hl)
   unfold fO at zS
   simp only[Bool.and_eq_true,decide_eq_true_eq,Bool.not_eq_true',decide_eq_false_iff_not]at zS
   exact⟨pr.2.toNat,by omega,by show pr.2.toNat < n;omega⟩
  have hT:qk c ts.told (yp P w ts) H8 a:=by
   rw[ha]
   exact⟨⟨Lv,de,_,xP,rs,QT,Va,Vb,(fun r hr k hk=>by have:=DF r hr k hk;omega),rfl⟩,⟨Lv,_,QT,rfl,rfl⟩,⟨Ny _ _ hL.1,Ny _ _ hL.2.1,yk.same Ny hL.2.2⟩,by show n <= 12;omega,by show ps.length <= 40;omega,fun p g k _ _ z hz=>(ql DF p g k).1 z hz⟩
  have hB:Bi a n ps rs ri gs:=⟨by rw[ha],by rw[ha],by rw[ha],Nk,B3,zj,hG,ER,CI⟩
  have Bu:a.tb=tb:=by rw[ha]
  have DQ:∀ p ∈ a.ps,fO a.n p=true:=by rw[hB.HG,hB.en];exact xY
  rw[← Bu]
  clear ha QT Va Vb hL
  have Vc:=Lw _ _ UY
  have gR8:=Lw _ _ Co
  have gG8:=Lw _ _ gG4
  have hL8:=yk.same Lw EU
  refine⟨zero_le _,fun ro C4=>?_⟩
  have s9:=(xN.refl H8).new (o := .lst []) C4
  have g9:(upd H8 ro (.lst [])) ro=some (.lst []):=ac
  show bE 8 (V.ref ro) _ (upd H8 ro (.lst [])) _
  generalize upd H8 ro (.lst [])=H9 at s9 g9 ⊢
  refine⟨_,rfl,l,_,rfl, .inl (xS.of (s9 _ _ Vc)),(xW.length:Int),rfl,by omega,by omega,?_⟩
  rw[toNat_natCast,AA]
  refine b5 (n:=ps.length) (fun i σ H2=>∃ (a9 za:Option V)(rm:List Nat),xN H8 H2/\H2 ro=some (.lst (gM rm))/\rm.length=i/\(∀ r ∈ rm,1 <= r/\r <= 60)/\σ=[some (.ref sc),some (.int n),some (.ref l),some (.ref R),some (.ref G),some (.int Al),some (.ref Rl),some (.ref a.tb),some (.ref ro),a9,za,none,none,none,none,none,none])
   ⟨none,none,[],s9,g9,rfl,(fun r hr=>by cases hr),rfl⟩ ?_ ?_
  ·rintro i σ Ha hi ⟨a9,za,rm,sa,ga,HE,GC,rfl⟩
   rw[zero_add]
   refine⟨_,rfl,_,rfl,_,_,rfl,rfl,sc,ns,4 + i,rfl,(EM.trans sa).seq hS,fun d5=>?_⟩
   obtain⟨j,qd,hj,hjq,Vd,hq6⟩:=Ls (d5 / 60)
   refine⟨_,rfl, .inl ⟨rfl,_,xS.of ga⟩,_,rfl,by show 3 <= sizeLine;decide,fun e1 Gj=>?_⟩
   have sb:=(xN.refl Ha).new (o := .lst [.int 3, .int 3, .int 60]) Gj
   have gb:(upd Ha e1 (.lst [.int 3, .int 3, .int 60])) e1=some (.lst [.int 3, .int 3, .int 60]):=ac
   have Ve:(upd Ha e1 (.lst [.int 3, .int 3, .int 60])) ro=some (.lst (gM rm)):=by rw[ae (ag ga Gj)];exact ga
   generalize upd Ha e1 (.lst [.int 3, .int 3, .int 60])=Hb at sb gb Ve ⊢
   refine⟨_,rfl,_,_,rfl,rfl,⟨by decide,by decide⟩,_,_,rfl,rfl,(by show (0:Int) < 3;decide),e1,_,(j:Int),_,rfl,congrArg V.int hj,xS.of gb,aj hjq,_,_,rfl,rfl,Vd,_,_,rfl,rfl,ro,gM rm,_,rfl,rfl,Ve,by unfold gM;rw[length_map,sizeLine_eq];omega,?_⟩
   have z1:=emod_nonneg d5 (show qd ≠ 0 by omega)
   have z2:=emod_lt_of_pos d5 Vd
   obtain⟨r,hr,yA,zh⟩:∃ r:Nat,(1:Int) + d5 % qd=(r:Int)/\1 <= r/\r <= 60:=⟨(1 + d5 % qd).toNat,by omega,by omega,by omega⟩
   refine⟨_,_,rm ++ [r],(fun b o e=>by rw[ae (ag e C4)];exact sb _ _ (sa _ _ e)),?_,by rw[length_append,HE];rfl,fun x hx=>?_,rfl⟩
   ·rw[ac]
    show some (HO.lst (gM rm ++ [V.int ((1:Int) + d5 % qd)]))=_
    rw[hr]
    unfold gM
    rw[map_append]
    rfl
   ·rcases mem_append.mp hx with hx | hx
    ·exact GC x hx
    ·rw[mem_singleton.mp hx];exact⟨yA,zh⟩
  rintro σ Ha ⟨a9,za,rm,sa,ga,HE,GC,rfl⟩
  have hM:Hw a rm:=⟨by rw[hB.HG];exact HE,fun l hl=>by
   rw[hB.HG,← HE]at hl
   have e:cj rm l=rm[l]:=by unfold cj;rw[getD_eq_getElem?_getD,getElem?_eq_getElem hl];rfl
   rw[e];exact GC _ (getElem_mem hl)⟩
  refine⟨_,rfl,sc,ns,2,rfl,(EM.trans sa).seq hS,fun d6=>⟨_,_,rfl,rfl,⟨by decide,by decide⟩,_,rfl,_,_,rfl,rfl,Ax,?_⟩⟩
  obtain⟨tu,htu,htn⟩:∃ tu:Nat,d6 / 7 % (n:Int)=(tu:Int)/\tu < n:=by
   have h1:=emod_nonneg (d6 / 7) (show (n:Int) ≠ 0 by omega)
   have h2:=emod_lt_of_pos (d6 / 7) Ax
   exact⟨(d6 / 7 % (n:Int)).toNat,by omega,by omega⟩
  show bE 11 (V.int (d6 / 7 % (n:Int))) _ _ _
  rw[htu]
  refine⟨zero_le _,fun pr zv=>?_⟩
  have sb:=(xN.refl Ha).new (o := .lst []) zv
  have gb:(upd Ha pr (.lst [])) pr=some (.lst []):=ac
  show bE 12 (V.ref pr) _ (upd Ha pr (.lst [])) _
  generalize upd Ha pr (.lst [])=Hb at sb gb ⊢
  refine⟨_,rfl,(n:Int),rfl,by omega,by omega,?_⟩
  rw[toNat_natCast]
  refine b5 (n:=n) (fun i σ H2=>∃ (a9 Cc:Option V)(xZ:List V),xN Ha H2/\H2 pr=some (.lst xZ)/\yk H2 xZ (((List.range i).map fun k=>(gN ri ((tu + k) % n),gN gs ((tu + k) % n))).map pI)/\σ=[some (.ref sc),some (.int n),some (.ref l),some (.ref R),some (.ref G),some (.int Al),some (.ref Rl),some (.ref a.tb),some (.ref ro),a9,za,some (.int tu),some (.ref pr),Cc,none,none,none])
   ⟨_,none,[],sb,gb, .nil,rfl⟩ ?_ ?_
  ·rintro i σ Hc hi ⟨a9,Cc,xZ,Lx,gc,DR,rfl⟩
   rw[zero_add]
   have eat:((tu:Int) + (i:Int)) % (n:Int)=(((tu + i) % n:Nat):Int):=by rw[natCast_emod];rfl
   have B9:(tu + i) % n < n:=mod_lt _ (by omega)
   have QU:xZ.length=i:=by rw[Paired.length DR,length_map,length_map,length_range]
   have Nz:=sa.trans Lx
   refine⟨_,rfl,_,rfl,_,_,rfl,rfl,_,rfl,_,_,rfl,rfl,Ax,?_⟩
   show bE 13 (V.int (((tu:Int) + (i:Int)) % (n:Int))) _ _ _
   rw[eat]
   refine⟨_,rfl, .inl ⟨rfl,_,xS.of gc⟩,_,rfl,_,rfl,R,nV ri,_,_,rfl,rfl,xS.of (Nz _ _ gR8),aj (e7 (by omega)),_,rfl,_,rfl,G,nV gs,_,_,rfl,rfl,xS.of (Nz _ _ gG8),aj (e7 (by rw[hG.len];exact B9)),by show 2 <= sizeLine;decide,fun t1 h1=>?_⟩
   obtain⟨e1,e2,e3⟩:=jy (x:=(gN ri ((tu + i) % n):Int)) (y:=(gN gs ((tu + i) % n):Int)) zv Lx gc DR h1
   refine⟨pr,xZ,_,rfl,rfl,e1,by rw[sizeLine_eq];omega,_,_,_,e2,ac,?_,rfl⟩
   rw[range_succ,map_append,map_append]
   exact e3
  rintro σ Hc ⟨a9',Cc,xZ,Lx,gc,DR,rfl⟩
  have DR:yk Hc xZ ((cv ri gs n tu).map pI):=DR
  have AQ:=iX ri gs n tu
  have B9:∀ k,(tu + k) % n < n:=fun k=>mod_lt _ (by omega)
  have QU:xZ.length=n:=by rw[Paired.length DR,length_map,AQ]
  have CO:∀ k,k < (cv ri gs n tu).length->(aH (cv ri gs n tu) k).1 < a.ps.length/\(aH (cv ri gs n tu) k).2 < a.n:=fun k hk=>by
   rw[AQ]at hk
   rw[du hk]
   exact⟨(hB.yh (B9 k)).1,by rw[hB.en];exact(hG.lt _ _ (eu (by rw[hG.len];exact B9 k))).1⟩
  have Vf:=Lx _ _ ga
  have Nz:=sa.trans Lx
  refine⟨_,rfl,ro,_,rfl, .inl (xS.of Vf),fun R1 Pa=>?_⟩
  have sd:=(xN.refl Hc).new (o := .lst (gM rm)) Pa
  have QV:(upd Hc R1 (.lst (gM rm))) R1=some (.lst (gM rm)):=ac
  generalize upd Hc R1 (.lst (gM rm))=Hd at sd QV ⊢
  refine⟨_,rfl,pr,_,rfl, .inl ⟨xS.of (sd _ _ gc),fun tp Vg=>?_⟩⟩
  have se:=sd.new (o := .tup xZ) Vg
  have ge:(upd Hd tp (.tup xZ)) tp=some (.tup xZ):=ac
  have QW:(upd Hd tp (.tup xZ)) R1=some (.lst (gM rm)):=by rw[ae (ag QV Vg)];exact QV
  generalize upd Hd tp (.tup xZ)=He at se ge QW ⊢
  refine⟨by show 2 <= sizeLine;decide,fun hd QX=>?_⟩
  have sf:=se.new (o := .lst [.ref R1, .ref tp]) QX
  have gf:(upd He hd (.lst [.ref R1, .ref tp])) hd=some (.lst [.ref R1, .ref tp]):=ac
  have QY:(upd He hd (.lst [.ref R1, .ref tp])) tp=some (.tup xZ):=by rw[ae (ag ge QX)];exact ge
  have QZ:(upd He hd (.lst [.ref R1, .ref tp])) R1=some (.lst (gM rm)):=by rw[ae (ag QW QX)];exact QW
  show bE 14 (V.ref hd) _ (upd He hd (.lst [.ref R1, .ref tp])) _
  generalize upd He hd (.lst [.ref R1, .ref tp])=Hf at sf gf QY QZ ⊢
  have Vh:=Nz.trans sf
  have hTf:qk c ts.told (yp P w ts) Hf a:=yC.keep W hT (xN.xX Vh)
  have hRf:Hv Hf a tp xZ (cv ri gs n tu):=⟨QY,yk.same sf DR,by omega,CO⟩
  refine⟨fun v Hg=>xN Hf Hg/\((i5 a (cv ri gs n tu)=false/\v = .yd)∨(i5 a (cv ri gs n tu)=true/\∃ (t LL MM:Addr)(lv mv:List V),v = .ref t/\Hg t=some (.tup [.ref LL, .ref MM])/\Hg LL=some (.lst lv)/\Paired (y8 Hg) lv (cP a (cv ri gs n tu) rm n)/\Hg MM=some (.lst mv)/\Paired (y8 Hg) mv ((bN (cv ri gs n tu) rm n).map eE))),?_,?_⟩
  ·refine⟨_,rfl,_,rfl,hd,_,0,_,rfl,rfl,xS.of gf,aj (j:=0) rfl,_,rfl,hd,_,1,_,rfl,rfl,xS.of gf,aj (j:=1) rfl,a,tp,R1,xZ,cv ri gs n tu,rm,rfl,hTf,hO,DQ,hRf,by omega,QZ,hM,(fun hb Hg sg=>⟨sg, .inl ⟨hb,rfl⟩⟩),(fun hb t LL MM lv mv Hg sg _ _ _ g1 g2 p2 g3 p3=>⟨sg, .inr ⟨hb,t,LL,MM,lv,mv,rfl,g1,g2,by rw[AQ]at p2;exact p2,g3,by rw[AQ]at p3;exact p3⟩⟩)⟩
  rintro v Hg ⟨sg,hv⟩
  have Vi:=Vh.trans sg
  have DS:=sg _ _ (sf _ _ Vf)
  refine⟨_,rfl,hd,_,0,_,rfl,rfl,xS.of (sg _ _ gf),aj (j:=0) rfl,_,rfl,R1,ro,rm.map (fun r:Nat=>(r:Int)),rm.map (fun r:Nat=>(r:Int)),rfl,rfl,xS.of (by rw[sg _ _ QZ,l6]),xS.of (by rw[DS,l6]),_,rfl,?_⟩
  rw[decide_eq_true rfl]
  refine aJ ⟨_,rfl,_,rfl,_,_,rfl,rfl, .inl ⟨by decide,by decide⟩,_,_,rfl,rfl,_,rfl,?_⟩
  by_cases yu:(Al:Int) < 2 * (n:Int)
  ·rw[decide_eq_true yu]
   have GB:=GB (by omega)
   rcases hv with ⟨_,rfl⟩ | ⟨hc,_⟩
   ·exact aN ⟨_,rfl,rfl,q _⟩
   ·rw[vd hB htn GB]at hc;cases hc
  rw[decide_eq_false yu]
  have Ly:=uR (tu:=tu) hB (C3 (by omega)) hM
  have Lz:=Ly.can
  rcases hv with ⟨hc,_⟩ | ⟨_,t3,LL,MM,lv,mv,rfl,Eo,Hy,Hz,KG,KH⟩
  ·rw[Lz]at hc;cases hc
  refine aJ ⟨_,rfl, .ref t3,_, "tuple",true,rfl, .tup Eo,Z.tt,_,rfl,aJ ⟨_,rfl,t3,_,rfl, .inr (xV.of Eo),rfl,_,rfl,aJ ?_⟩⟩
  have hlvl:lv.length=n:=by rw[Paired.length Hz];unfold cP;rw[length_map,length_range]
  refine⟨_,rfl,_,rfl,_,rfl,pr,_,rfl, .inl ⟨xS.of (sg _ _ (sf _ _ gc)),fun tq htq=>?_⟩⟩
  have sh:=(xN.refl Hg).new (o := .tup xZ) htq
  have gh:(upd Hg tq (.tup xZ)) tq=some (.tup xZ):=ac
  generalize upd Hg tq (.tup xZ)=Hh at sh gh ⊢
  have Vj:=Vi.trans sh
  have hTh:qk c ts.told (yp P w ts) Hh a:=yC.keep W hT (xN.xX Vj)
  have Vk:=sf.trans (sg.trans sh)
  refine⟨a,tq,ro,xZ,cv ri gs n tu,rm,rfl,hTh,hO,DQ,⟨gh,yk.same Vk DR,by omega,CO⟩,by omega,sh _ _ DS,hM,(fun hb=>by rw[Lz]at hb;cases hb),(fun _ t4 L4 M4 lv4 mv4 Hi si _ _ _ ML MY Vl Gv Vm=>⟨_,rfl,?_⟩)⟩
  rw[AQ]at Vl Vm
  have HH:=sh.trans si
  have pLi:=Paired.mono (fun _ _ z=>y8.keep (xN.xX HH) z) Hz
  have pMi:=Paired.mono (fun _ _ z=>y8.keep (xN.xX HH) z) KH
  refine SH (d := .tuple [.list ((List.range n).map (sw a (cv ri gs n tu) rm)), .list ((bN (cv ri gs n tu) rm n).map oK)]) (.tup (xV.of ML) (.cons (.lst (xS.of MY) (eR Vl)) (.cons (.lst (xS.of Gv) (fu Vm)) .nil))) (.tup (xV.of (HH _ _ Eo)) (.cons (.lst (xS.of (HH _ _ Hy)) (eR pLi)) (.cons (.lst (xS.of (HH _ _ KG)) (fu pMi)) .nil))) ?_ ⟨_,rfl,aJ ?_⟩
  ·refine(eW (m:=2) fun z hz=>?_).le (by decide)
   simp only[mem_cons,not_mem_nil,or_false]at hz
   rcases hz with rfl | rfl
   ·exact lp _ _ _ _
   ·exact tV _
  have Vn:=Vj.trans si
  have BW:=Vn _ _ Vc
  have Pe:=yk.same Vn hL8
  have Ra:=si _ _ (sh _ _ DS)
  have N0:=Vk.trans si
  refine⟨_,rfl,pr,rfl,⟨_,xS.of (N0 _ _ gc)⟩,?_⟩
  refine b8 n (by rw[sizeLine_eq];omega) (fun i acc H'=>xN Hi H'/\Paired (y8 H') acc (cP a (cv ri gs n tu) rm i)) ⟨xN.refl _, .nil⟩ (fun i acc H' h=>by rw[Paired.length h.2];unfold cP;rw[length_map,length_range];exact le_refl _) (fun i acc H' hi h=>?_) (fun acc H' h=>?_)
  ·obtain⟨sj,pj⟩:=h
   have Vo:=sj _ _ (N0 _ _ gc)
   have hi2:i < xZ.length:=by omega
   refine⟨⟨_,_,xS.of Vo,getElem?_eq_getElem hi2⟩,fun v Hj y=>?_⟩
   obtain⟨rfl,y⟩:=y
   have hv:=y _ (xS.of Vo)
   obtain⟨_,u,rfl,gu⟩:=(show Hv Hj a tp xZ (cv ri gs n tu) from ⟨sj _ _ (si _ _ (sh _ _ (sg _ _ QY))),yk.same (N0.trans sj) DR,by omega,CO⟩).get hv
   obtain⟨yD,MU⟩:=CO i (by omega)
   obtain⟨pl,L0,An,MW⟩:=ku (kq DQ) yD
   rw[hB.HG]at L0
   obtain⟨vl,By,ul,rfl,gul⟩:=yk.Bc (yk.same sj Pe) L0
   refine⟨u,_,rfl,xV.of gu,rfl,_,_,rfl,_,_,rfl,rfl,_,rfl,_,rfl,l,xW,_,_,rfl,rfl,xS.of (sj _ _ BW),aj By,ul,_,0,_,rfl,rfl,xV.of gul,aj (j:=0) rfl,_,rfl,_,rfl,_,rfl,ro,gM rm,_,_,rfl,rfl,xS.of (sj _ _ Ra),aj (ng (by rw[hM.len];exact yD)),by show 4 <= sizeLine;decide,fun t9 Vp=>?_⟩
   rw[An]
   refine⟨sj.new Vp,?_⟩
   have e:cP a (cv ri gs n tu) rm (i + 1)=cP a (cv ri gs n tu) rm i ++ [lH a (cv ri gs n tu) rm i]:=by unfold cP;rw[range_succ,map_append];rfl
   rw[e]
   exact Paired.snoc ⟨t9,rfl,ac⟩ (Paired.mono (fun _ _ z=>y8.keep (xN.xX ((xN.refl Hj).new Vp)) z) pj)
  obtain⟨sj,pj⟩:=h
  refine⟨⟨_,xS.of (sj _ _ (N0 _ _ gc)),by omega⟩,fun Du Vq=>?_⟩
  have sk:=sj.new (o := .lst acc) Vq
  have gk:(upd H' Du (.lst acc)) Du=some (.lst acc):=ac
  have pk:=Paired.mono (fun _ _ z=>y8.keep (xN.xX ((xN.refl H').new (o := .lst acc) Vq)) z) pj
  show bE 16 (V.ref Du) _ (upd H' Du (.lst acc)) _
  generalize upd H' Du (.lst acc)=Hk at sk gk pk ⊢
  have GD:=HH.trans sk
  have DT:=GD _ _ Eo
  have L1:=GD _ _ Hy
  have L3:=GD _ _ KG
  have Vr:=Paired.mono (fun _ _ z=>y8.keep (xN.xX GD) z) Hz
  have pMk:=Paired.mono (fun _ _ z=>y8.keep (xN.xX GD) z) KH
  refine⟨_,rfl,t3,_,0,_,rfl,rfl,xV.of DT,aj (j:=0) rfl,_,rfl,SH (d := .list ((List.range n).map (sw a (cv ri gs n tu) rm))) (.lst (xS.of L1) (eR Vr)) (.lst (xS.of gk) (eR pk)) ((lp _ _ _ _).le (by decide)) ⟨_,rfl,aJ ?_⟩⟩
  refine⟨_,rfl,t3,_,1,_,rfl,rfl,xV.of DT,aj (j:=1) rfl, .ref MM,_, "list",true,rfl, .lst L3,ZL,_,rfl,aJ ?_⟩
  have s8k:=Vi.trans GD
  refine⟨_,rfl,_,rfl,_,rfl,t3,_,0,_,rfl,rfl,xV.of DT,aj (j:=0) rfl,_,rfl,t3,_,1,_,rfl,rfl,xV.of DT,aj (j:=1) rfl,a,ro,LL,MM,lv,mv,cv ri gs n tu,rm,rfl,yC.keep W hT (xN.xX s8k),hO,DQ,Ly,by omega,by omega,(fun k hk=>⟨(CO k hk).2,?_⟩),GD _ _ DS,L1,by rw[AQ];exact Vr,L3,by rw[AQ];exact pMk,q⟩
  rw[AQ]at hk
  rw[du hk]
  show bu a (gN ri ((tu + k) % n)) ≠ gN gs ((tu + k) % n)
  rw[(hB.yh (B9 k)).2.2]
  exact Ne.symm (hG.lt _ _ (eu (by rw[hG.len];exact B9 k))).2.1
theorem len_of1 {α:Type}{P:List α->Prop}(h:∀ a0,P [a0]):∀ us:List α,us.length=1->P us
 | [a0],_=>h a0
theorem len_of2 {α:Type}{P:List α->Prop}(h:∀ a0 a1,P [a0,a1]):∀ us:List α,us.length=2->P us
 | [a0,a1],_=>h a0 a1
theorem len_of3 {α:Type}{P:List α->Prop}(h:∀ a0 a1 a2,P [a0,a1,a2]):∀ us:List α,us.length=3->P us
 | [a0,a1,a2],_=>h a0 a1 a2
theorem len_of4 {α:Type}{P:List α->Prop}(h:∀ a0 a1 a2 a3,P [a0,a1,a2,a3]):∀ us:List α,us.length=4->P us
 | [a0,a1,a2,a3],_=>h a0 a1 a2 a3
theorem len_of5 {α:Type}{P:List α->Prop}(h:∀ a0 a1 a2 a3 a4,P [a0,a1,a2,a3,a4]):∀ us:List α,us.length=5->P us
 | [a0,a1,a2,a3,a4],_=>h a0 a1 a2 a3 a4
structure FT (K:Frag)(mg:Str->Option Value)(n:Str)(st:Stmt)(ps:List Str)(f:Addr)(fd:FuncData):Prop where
 F:yn K n n st f fd
 m:mg n=some (.ref f)
 k:keepIn K (.ref f)=true
 b:Binds K fd ps []
structure FM (K:Frag)(C:Addr)(n q:Str)(st:Stmt)(ps:List Str)(f:Addr)(fd:FuncData):Prop where
 F:yn K n q st f fd
 m:bK K C n f
 b:Binds K fd ps []
section
variable {K:Frag}{mg:Str->Option Value}{C f:Addr}{n q:Str}{st:Stmt}{ps:List Str}{h:Heap}{oc:Value}{od an:Option Addr}{Bl:Array (Option Value)}{kV doc pm cdv ct:Value}
theorem mkT (X:K.In h)(G:h.Ns mainGlobals mg)(hb:∀ (kV doc pm:Value) (an:Option Addr) (cdv ct:Value) (us:List Value),us.length=ps.length->bindArgs (fnOf n n (bJ st) (aG st) (al st) .none kV doc pm an cdv ct) ⟨us,[]⟩ = pure (ps.zip us))
  (a:nsIn K mainGlobals n=some (some (.ref f))) (l:K.lookup f=some ⟨oc,od, .func (fnOf n n (bJ st) (aG st) (al st) .none kV doc pm an cdv ct),Bl⟩) (c:codeIn K cdv n=true) (k:keepIn K (.ref f)=true):∃ fd,FT K mg n st ps f fd :=
 ⟨_,jt l c k,mg_of X G a,k,(jt l c k).binds hb⟩
theorem mkM (hb:∀ (kV doc pm:Value) (an:Option Addr) (cdv ct:Value) (us:List Value),us.length=ps.length->bindArgs (fnOf n q (bJ st) (aG st) (al st) .none kV doc pm an cdv ct) ⟨us,[]⟩ = pure (ps.zip us))
  (a:findIn K (.ref C) n=some (some (.ref f))) (l:K.lookup f=some ⟨oc,od, .func (fnOf n q (bJ st) (aG st) (al st) .none kV doc pm an cdv ct),Bl⟩) (c:codeIn K cdv q=true) (k:keepIn K (.ref f)=true) (i:isFn K (.ref f)=true):∃ fd,FM K C n q st ps f fd :=
 ⟨_,jt l c k,⟨a,i,k⟩,(jt l c k).binds hb⟩
end
section
variable {l:PySem.W.OpenLaw}{w:World}{K:Frag}{h:Heap}{mg:Str->Option Value}{fa cL cB cD cA cH cJ f1 f2 f3 f4 f5 f6 f7 f8 f9 Vs Mw Vt Vu Vv Vw Vx Vy Vz V0 V1 V2 Rb Rc Rf Rh V3 V4 N1 Ri Rj Rk V5 Rm V6 Rn Ro V7 Rp V8 GF HI V9 Rq Rr Rt Ru VA Rv VB Rx Ry Rz R0 R3 VC VD:Addr}{t1 t2 t3 t4 t5:Tok}
theorem all_mk (X:K.In h)(G:h.Ns mainGlobals mg)(hfa:mg "law" = some (.ref fa))
  {R4 L5 R5 L6 R6 L7:Option Addr} {R7 R8 R9:Array (Option Value)} {RA L8 L9 LA GG LB RB LC LD LF GH LG RC LH LJ LK GI LM:Value}
  {LN LO:Addr} {RD RE:Value} {RF RG:Option Addr} {RH RI:Nat} {RJ:Tok}  {RK RL:Array (Option Value)}
  (gcL:nsIn K mainGlobals "Land" = some (some (.ref cL)))
  (gcB:nsIn K mainGlobals "Table" = some (some (.ref cB)))
  (gcD:nsIn K mainGlobals "Told" = some (some (.ref cD)))
  (gcA:nsIn K mainGlobals "Lane" = some (some (.ref cA)))
  (gcH:nsIn K mainGlobals "Letter" = some (some (.ref cH)))
  (gcJ:nsIn K mainGlobals "Yard" = some (some (.ref cJ)))
  (h1:∃ d,FT K mg "has" uc ["some", "number"] f1 d)
  (h2:∃ d,FT K mg "members" qW ["some"] f2 d)
  (h3:∃ d,FT K mg "set_of" wk ["numbers"] f3 d)
  (h4:∃ d,FT K mg "is_whole" fK ["value"] f4 d)
  (h5:∃ d,FT K mg "is_within" iC ["value", "least", "most"] f5 d)
  (h6:∃ d,FT K mg "is_one_of" wm ["value", "numbers"] f6 d)
  (h7:∃ d,FT K mg "are_two_places" wg ["places", "one", "other"] f7 d)
  (h8:∃ d,FT K mg "row_fits" l5 ["land", "row"] f8 d)
  (h9:∃ d,FT K mg "onward" OO ["table", "lane", "goal"] f9 d)
  (h10:∃ d,FT K mg "rooms_of" fL ["land", "rooms"] Vs d)
  (h11:∃ d,FT K mg "is_word" qP ["word"] Mw d)
  (h12:∃ d,FT K mg "is_move" ly ["move"] Vt d)
  (h13:∃ d,FT K mg "still" mS ["yard"] Vu d)
  (h14:∃ d,FT K mg "can_stand" rf ["table", "ring"] Vv d)
  (h15:∃ d,FT K mg "stand_of" ls ["table", "rooms", "ring"] Vw d)
  (h16:∃ d,FT K mg "_law_cell_at" rc ["_law_script", "_law_k"] Vx d)
  (h17:∃ d,FT K mg "_law_mixed" wn ["_law_cell", "_law_k"] Vy d)
  (h18:∃ d,FT K mg "_law_lanes" mX ["_law_script", "_law_places"] Vz d)
  (h19:∃ d,FT K mg "_law_goals" mY ["_law_ring", "_law_places", "_law_cell"] V0 d)
  (h20:∃ d,FT K mg "_law_rows" cW ["_law_lanes_here", "_law_ring", "_law_goals_here", "_law_cell", "_law_odd"] V1 d)
  (h21:∃ d,FT K mg "_law_stands" fX ["_law_table", "_law_rooms", "_law_letters", "_law_moves"] V2 d)
  (a22:nsIn K mainGlobals "law" = some (some (.ref Rb)))
  (l22:K.lookup Rb=some ⟨RA,R4, .func (fnOf "law" "law" (bJ iW) (aG iW) (al iW) .none L8 L9 LA L5 GG LB),R7⟩)
  (c22:codeIn K GG "law" = true)
  (k22:keepIn K (.ref Rb)=true)
  (h23:∃ d,FM K cL "__init__" "Land.__init__" l4 ["self", "places", "lanes"] Rc d)
  (h24:∃ d,FM K cL "start_of" "Land.start_of" mT ["self", "lane"] Rf d)
  (h25:∃ d,FM K cL "end_of" "Land.end_of" wu ["self", "lane"] Rh d)
  (h26:∃ d,FM K cL "out_of" "Land.out_of" qU ["self", "place"] V3 d)
  (h27:∃ d,FM K cL "into" "Land.into" lz ["self", "place"] V4 d)
  (h28:∃ d,FM K cB "__init__" "Table.__init__" wj ["self", "land"] N1 d)
  (h29:∃ d,FM K cD "__init__" "Told.__init__" qQ ["self", "land", "rows"] Ri d)
  (h30:∃ d,FM K cD "ways" "Told.ways" mR ["self", "place", "goal", "came"] Rj d)
  (h31:∃ d,FM K cA "__init__" "Lane.__init__" wq ["self", "room"] Rk d)
  (h32:∃ d,FM K cA "open_to" "Lane.open_to" qV ["self", "letter", "count"] V5 d)
  (h33:∃ d,FM K cA "put" "Lane.put" wl ["self", "letter", "count", "last"] Rm d)
  (h34:∃ d,FM K cA "front" "Lane.front" mZ ["self"] V6 d)
  (h35:∃ d,FM K cA "pull" "Lane.pull" qR ["self"] Rn d)
  (h36:∃ d,FM K cA "bring" "Lane.bring" nc ["self"] Ro d)
  (h37:∃ d,FM K cA "twin" "Lane.twin" wo ["self"] V7 d)
  (h38:∃ d,FM K cH "__init__" "Letter.__init__" qZ ["self", "start", "goal", "length", "word"] Rp d)
  (h39:∃ d,FM K cH "twin" "Letter.twin" qY ["self"] V8 d)
  (a40:findIn K (.ref cJ) "__init__" = some (some (.ref GF)))
  (l40:K.lookup GF=some ⟨RB,R5, .func (fnOf "__init__" "Yard.__init__" (bJ gL) (aG gL) (al gL) (.ref LN) LC LD LF L6 GH LG),R8⟩)
  (d40:K.lookup LN=some ⟨RD,RF, .seq #[Value.none] RH,RK⟩)
  (c40:codeIn K GH "Yard.__init__" = true)
  (k40:keepIn K (.ref GF)=true)
  (i40:isFn K (.ref GF)=true)
  (a41:findIn K (.ref cJ) "post" = some (some (.ref HI)))
  (l41:K.lookup HI=some ⟨RC,R6, .func (fnOf "post" "Yard.post" (bJ fY) (aG fY) (al fY) (.ref LO) LH LJ LK L7 GI LM),R9⟩)
  (d41:K.lookup LO=some ⟨RE,RG, .seq #[Value.int 0 RJ] RI,RL⟩)
  (c41:codeIn K GI "Yard.post" = true)
  (k41:keepIn K (.ref HI)=true)
  (i41:isFn K (.ref HI)=true)
  (h42:∃ d,FM K cJ "moves" "Yard.moves" mV ["self"] V9 d)
  (h43:∃ d,FM K cJ "moves_in" "Yard.moves_in" lw ["self", "number"] Rq d)
  (h44:∃ d,FM K cJ "moves_on" "Yard.moves_on" lu ["self", "lane"] Rr d)
  (h45:∃ d,FM K cJ "moves_lie" "Yard.moves_lie" mU ["self", "lane"] Rt d)
  (h46:∃ d,FM K cJ "moves_back" "Yard.moves_back" k9 ["self", "lane"] Ru d)
  (h47:∃ d,FM K cJ "wanted" "Yard.wanted" fW ["self", "lane"] VA d)
  (h48:∃ d,FM K cJ "moves_like" "Yard.moves_like" qX ["self", "move"] Rv d)
  (h49:∃ d,FM K cJ "do" "Yard.do" OP ["self", "move"] VB d)
  (h50:∃ d,FM K cJ "go_in" "Yard.go_in" rb ["self", "number", "lane"] Rx d)
  (h51:∃ d,FM K cJ "enter" "Yard.enter" na ["self", "piece", "lane"] Ry d)
  (h52:∃ d,FM K cJ "lay" "Yard.lay" wt ["self", "piece", "place"] Rz d)
  (h53:∃ d,FM K cJ "own_lane" "Yard.own_lane" qT ["self", "lane"] R0 d)
  (h54:∃ d,FM K cJ "own_letter" "Yard.own_letter" qS ["self", "number"] R3 d)
  (h55:∃ d,FM K cJ "ended" "Yard.ended" fM ["self"] VC d)
  (h56:∃ d,FM K cJ "lying" "Yard.lying" mW ["self", "place"] VD d)
  (mp:nsIn K mainGlobals "MOST_PLACES" = some (some (.int 12 t1)))
  (ml:nsIn K mainGlobals "MOST_LANES" = some (some (.int 40 t2)))
  (mr:nsIn K mainGlobals "MOST_ROOM" = some (some (.int 60 t3)))
  (mh:nsIn K mainGlobals "MOST_LENGTH" = some (some (.int 60 t4)))
  (mk:nsIn K mainGlobals "MOST_LETTERS" = some (some (.int 60 t5)))
  (p1cL:plainGet K cL Str.empty=true)
  (p2cL:hasDictIn K cL=true)
  (p3cL:plainOver K cL=true)
  (p4cL:findIn K (.ref cL) "__setattr__" = some (some (.builtin "object.__setattr__")))
  (p5cL:makesIn K cL=true)
  (p6cL:keepIn K (.ref cL)=true)
  (ncLplaces:findIn K (.ref cL) "places" = some none)
  (ncLlanes:findIn K (.ref cL) "lanes" = some none)
  (p1cB:plainGet K cB Str.empty=true)
  (p2cB:hasDictIn K cB=true)
  (p3cB:plainOver K cB=true)
  (p4cB:findIn K (.ref cB) "__setattr__" = some (some (.builtin "object.__setattr__")))
  (p5cB:makesIn K cB=true)
  (p6cB:keepIn K (.ref cB)=true)
  (ncBland:findIn K (.ref cB) "land" = some none)
  (p1cD:plainGet K cD Str.empty=true)
  (p2cD:hasDictIn K cD=true)
  (p3cD:plainOver K cD=true)
  (p4cD:findIn K (.ref cD) "__setattr__" = some (some (.builtin "object.__setattr__")))
  (p5cD:makesIn K cD=true)
  (p6cD:keepIn K (.ref cD)=true)
  (ncDland:findIn K (.ref cD) "land" = some none)
  (ncDentries:findIn K (.ref cD) "entries" = some none)
  (p1cA:plainGet K cA Str.empty=true)
  (p2cA:hasDictIn K cA=true)
  (p3cA:plainOver K cA=true)
  (p4cA:findIn K (.ref cA) "__setattr__" = some (some (.builtin "object.__setattr__")))
  (p5cA:makesIn K cA=true)
  (p6cA:keepIn K (.ref cA)=true)
  (ncArights:findIn K (.ref cA) "rights" = some none)
  (ncAreturning:findIn K (.ref cA) "returning" = some none)
  (ncAholder:findIn K (.ref cA) "holder" = some none)
  (ncApieces:findIn K (.ref cA) "pieces" = some none)
  (p1cH:plainGet K cH Str.empty=true)
  (p2cH:hasDictIn K cH=true)
  (p3cH:plainOver K cH=true)
  (p4cH:findIn K (.ref cH) "__setattr__" = some (some (.builtin "object.__setattr__")))
  (p5cH:makesIn K cH=true)
  (p6cH:keepIn K (.ref cH)=true)
  (ncHstart:findIn K (.ref cH) "start" = some none)
  (ncHgoal:findIn K (.ref cH) "goal" = some none)
  (ncHlength:findIn K (.ref cH) "length" = some none)
  (ncHword:findIn K (.ref cH) "word" = some none)
  (ncHgone:findIn K (.ref cH) "gone" = some none)
  (ncHway:findIn K (.ref cH) "way" = some none)
  (p1cJ:plainGet K cJ Str.empty=true)
  (p2cJ:hasDictIn K cJ=true)
  (p3cJ:plainOver K cJ=true)
  (p4cJ:findIn K (.ref cJ) "__setattr__" = some (some (.builtin "object.__setattr__")))
  (p5cJ:makesIn K cJ=true)
  (p6cJ:keepIn K (.ref cJ)=true)
  (ncJtable:findIn K (.ref cJ) "table" = some none)
  (ncJrooms:findIn K (.ref cJ) "rooms" = some none)
  (ncJlanes:findIn K (.ref cJ) "lanes" = some none)
  (ncJletters:findIn K (.ref cJ) "letters" = some none)
  (ncJlies:findIn K (.ref cJ) "lies" = some none)
  (ncJdone:findIn K (.ref cJ) "done" = some none)
  (w1cB:PySem.W.readsIn K cB (.type "type")=true)
  (w2cB:PySem.W.findCls K (.ref cB) (.type "type") "__init__" = some (.val (.ref N1)))
  (w3cB:PySem.W.specialIn K (.ref cB) "__getattribute__" = some (some (.builtin "type.__getattribute__")))
  (kk1:kitOne K (.type "int") (.type "int")=some true)
  (kk2:kitOne K (.type "int") (.type "bool")=some false)
  (kk3:kitOne K (.type "bool") (.type "int")=some true)
  (kk4:kitOne K (.type "bool") (.type "bool")=some true)
  (kk5:kitOne K (.type "NoneType") (.type "int")=some false)
  (kk6:kitOne K (.type "str") (.type "str")=some true)
  (kk7:kitOne K (.type "int") (.type "str")=some false)
  (kk8:kitOne K (.type "tuple") (.type "tuple")=some true)
  (kk9:kitOne K (.type "list") (.type "list")=some true)
  (z0:nsIn K mainGlobals "isinstance" = some none)
  (z1:nsIn K mainGlobals "int" = some none)
  (z2:nsIn K mainGlobals "bool" = some none)
  (z3:nsIn K mainGlobals "len" = some none)
  (z4:nsIn K mainGlobals "enumerate" = some none)
  (z5:nsIn K mainGlobals "tuple" = some none)
  (z6:nsIn K mainGlobals "range" = some none)
  (z7:nsIn K mainGlobals "list" = some none)
  (z8:nsIn K mainGlobals "all" = some none)
  (z9:nsIn K mainGlobals "sum" = some none)
  (z10:nsIn K mainGlobals "abs" = some none)
  (z11:nsIn K mainGlobals "str" = some none)
  (z12:nsIn K mainGlobals "max" = some none)
  (z13:nsIn K mainGlobals "zip" = some none)
  : ∃ fd:FuncData,(∀ (s:Shared)(v:Value),BindsTo s fd ⟨[v],[]⟩ [("_law_script",v)])/\∀ base:Heap,K.In base->base.Ns mainGlobals mg->xO l.prog w K mg base aF 10 fa fd ["_law_script"] (ow K):=by
 have e:=hfa.symm.trans (mg_of X G a22)
 cases e
 have T:fR mg:=⟨mg_none_of X G z0,mg_none_of X G z1,mg_none_of X G z2,mg_none_of X G z3,mg_none_of X G z4,mg_none_of X G z5,mg_none_of X G z6,mg_none_of X G z7,mg_none_of X G z8,mg_none_of X G z9,mg_none_of X G z10,mg_none_of X G z11,mg_none_of X G z12,mg_none_of X G z13⟩
 obtain⟨d1,H1⟩:=h1
 obtain⟨d2,H2⟩:=h2
 obtain⟨d3,H3⟩:=h3
 obtain⟨d4,H4⟩:=h4
 obtain⟨d5,H5⟩:=h5
 obtain⟨d6,H6⟩:=h6
 obtain⟨d7,H7⟩:=h7
 obtain⟨d8,H8⟩:=h8
 obtain⟨d9,H9⟩:=h9
 obtain⟨d10,zJ⟩:=h10
 obtain⟨d11,DO⟩:=h11
 obtain⟨d12,EW⟩:=h12
 obtain⟨d13,Lo⟩:=h13
 obtain⟨d14,N2⟩:=h14
 obtain⟨d15,N3⟩:=h15
 obtain⟨d16,GJ⟩:=h16
 obtain⟨d17,Dg⟩:=h17
 obtain⟨d18,N4⟩:=h18
 obtain⟨d19,N5⟩:=h19
 obtain⟨d20,N6⟩:=h20
 obtain⟨d21,N7⟩:=h21
 obtain⟨d23,N8⟩:=h23
 obtain⟨d24,RM⟩:=h24
 obtain⟨d25,RN⟩:=h25
 obtain⟨d26,RO⟩:=h26
 obtain⟨d27,RP⟩:=h27
 obtain⟨d28,RQ⟩:=h28
 obtain⟨d29,N9⟩:=h29
 obtain⟨d30,RS⟩:=h30
 obtain⟨d31,LP⟩:=h31
 obtain⟨d32,GK⟩:=h32
 obtain⟨d33,RT⟩:=h33
 obtain⟨d34,GL⟩:=h34
 obtain⟨d35,RU⟩:=h35
 obtain⟨d36,RV⟩:=h36
 obtain⟨d37,RW⟩:=h37
 obtain⟨d38,LQ⟩:=h38
 obtain⟨d39,RX⟩:=h39
 obtain⟨d42,LR⟩:=h42
 obtain⟨d43,RY⟩:=h43
 obtain⟨d44,RZ⟩:=h44
 obtain⟨d45,Sa⟩:=h45
 obtain⟨d46,Sb⟩:=h46
 obtain⟨d47,Sd⟩:=h47
 obtain⟨d48,Se⟩:=h48
 obtain⟨d49,Sf⟩:=h49
 obtain⟨d50,Sg⟩:=h50
 obtain⟨UL,LS⟩:=h51
 obtain⟨d52,Sh⟩:=h52
 obtain⟨d53,Si⟩:=h53
 obtain⟨d54,Sj⟩:=h54
 obtain⟨d55,LU⟩:=h55
 obtain⟨d56,Sk⟩:=h56
 have F22:=jt (st:=iW) l22 c22 k22
 have F40:BI K "__init__" "Yard.__init__" gL GF _:=⟨⟨_,_,_,_,_,_,_,_,_,_,rfl,l40,c40⟩,k40⟩
 have F41:BI K "post" "Yard.post" fY HI _:=⟨⟨_,_,_,_,_,_,_,_,_,_,rfl,l41,c41⟩,k41⟩
 have L:m6 K ⟨cL⟩:=⟨⟨p1cL,p2cL,p3cL,p4cL⟩,ncLplaces,ncLlanes⟩
 have Z:tH K:=⟨kk1,kk2,kk3,kk4,kk5⟩
 have ZS:xI K:=⟨kk6,kk7,kk8⟩
 have B:OR K mg ⟨cB,cD⟩ N1 _:=⟨⟨p1cB,p2cB,p3cB,p4cB⟩,ncBland,⟨p1cD,p2cD,p3cD,p4cD⟩,ncDland,ncDentries,(mg_of X G gcB),⟨w1cB,w2cB,w3cB,RQ.m.kp⟩,RQ.b⟩
 have M:Jq K ⟨cL⟩ V3 V4 _ _:=⟨RO.m,RP.m,RO.b,RP.b⟩
 have ME:vm K ⟨cL⟩ Rh _:=⟨RN.m,RN.b⟩
 have Y:jz K ⟨cJ,cA,cH,[]⟩:=⟨⟨p1cJ,p2cJ,p3cJ,p4cJ⟩,ncJtable,ncJrooms,ncJlanes,ncJletters,ncJlies,ncJdone,⟨p1cH,p2cH,p3cH,p4cH⟩,ncHstart,ncHgoal,ncHlength,ncHword,ncHgone,ncHway,⟨⟨p1cA,p2cA,p3cA,p4cA⟩,ncArights,ncAreturning,ncAholder,ncApieces⟩⟩
 have Hx:=nN (kV:=LC) (doc:=LD) (pm:=LF) (cdv:=GH) (ct:=LG) (an:=L6) d40 rfl
 have bp0:=mj (kV:=LH) (doc:=LJ) (pm:=LK) (cdv:=GI) (ct:=LM) (an:=L7) d41 rfl
 have Mi:Mk K cL Rc:=⟨p5cL,N8.m.at_,N8.m.fn,p6cL⟩
 have Mt:Mk K cD Ri:=⟨p5cD,N9.m.at_,N9.m.fn,p6cD⟩
 have My:Mk K cJ GF:=⟨p5cJ,a40,i40,p6cJ⟩
 have Ma:Mk K cA Rk:=⟨p5cA,LP.m.at_,LP.m.fn,p6cA⟩
 have Mh:Mk K cH Rp:=⟨p5cH,LQ.m.at_,LQ.m.fn,p6cH⟩
 refine⟨fnOf "law" "law" (bJ iW) (aG iW) (al iW) .none L8 L9 LA L5 GG LB,fun s v => .of_eq rfl,fun base _ _=>?_⟩
 have Wn:Wy K cD Rj _ (yp l.prog w ⟨cB,cD⟩):=⟨⟨p1cD,p2cD,p3cD,p4cD⟩,ncDland,RS.m,RS.b,fun H H' x n wy h k=>yp.keep (n:=n) (wy:=wy) h k⟩
 have Gm:xO l.prog w K mg base aF 2 f2 _ _ _:=wR H2.F T H1.m H1.F H1.b
 have Gb:xO l.prog w K mg base aF 3 Rj _ _ _:=mH (rF (ts:=⟨cB,cD⟩) RS.F B H2.m H2.k H2.b Gm)
 have Gw:xO l.prog w K mg base aF 2 f5 _ _ _:=pM H5.F T H4.m H4.F H4.b
 have Sl:xO l.prog w K mg base aF 2 f5 _ _ _:=nk H5.F T Z H4.m H4.F H4.b
 have GW:xO l.prog w K mg base aF 1 f4 _ _ _:=jK H4.F T Z
 have G2:xO l.prog w K mg base aF 3 f7 _ _ _:=wJ H7.F H5.m H5.k H5.b Gw
 have Gi:xO l.prog w K mg base aF 4 Rc _ _ _:=uF N8.F T L H5.m H5.k H5.b Gw H7.m H7.k H7.b G2 (mg_of X G mp) (mg_of X G ml)
 have Go:xO l.prog w K mg base aF 2 f6 _ _ _:=wO H6.F T H4.m H4.F H4.b
 have Gf:xO l.prog w K mg base aF 4 f8 _ _ _:=uH H8.F T L M H7.m H7.k H7.b G2 H6.m H6.k H6.b Go (wN RO.F T L) (uE RP.F T L)
 have G1:xO l.prog w K mg base aF 1 N1 _ _ _:=wK RQ.F
 have Gse:xO l.prog w K mg base aF 1 f3 _ _ _:=wL H3.F
 have Gt:xO l.prog w K mg base aF 5 Ri _ _ _:=uy N9.F T B G1 H8.m H8.k H8.b Gf H3.m H3.k H3.b Gse
 have Ge:xO l.prog w K mg base aF 1 Rh _ _ _:=wZ RN.F L
 have Gro:xO l.prog w K mg base aF 3 Vs _ _ _:=rJ zJ.F T L H5.m H5.k H5.b Sl (mg_of X G mr)
 have Ph:xO l.prog w K mg base aF 2 Mw _ _ _:=ux DO.F T H4.m H4.k H4.b GW
 have VE:xO l.prog w K mg base aF 1 Rk _ _ _:=wV LP.F Y.L
 have Sm:xO l.prog w K mg base aF 1 V5 _ _ _:=u9 GK.F Y.L
 have Sn:xO l.prog w K mg base aF 1 V6 _ _ _:=rP GL.F Y.L
 have Gpu:xO l.prog w K mg base aF 2 Rm _ _ _:=wM RT.F Y.L GK.m GK.b Sm
 have Gpl:xO l.prog w K mg base aF 1 Rn _ _ _:=u5 RU.F Y.L
 have Gbr:xO l.prog w K mg base aF 1 Ro _ _ _:=rS RV.F Y.L
 have Gtw:xO l.prog w K mg base aF 3 V7 _ _ _:=wU RW.F T Y.L (mg_of X G gcA) Ma LP.b VE
 have VF:xO l.prog w K mg base aF 1 Rp _ _ _:=wT LQ.F Y
 have Gtx:xO l.prog w K mg base aF 3 V8 _ _ _:=wS RX.F T Y (mg_of X G gcH) Mh LQ.b VF
 have Gy:xO l.prog w K mg base aF 4 GF _ _ _:=wI F40 T L Y Wn zJ.m zJ.k zJ.b Gro (mg_of X G gcA) Ma LP.b VE
 have Gp:xO l.prog w K mg base aF 4 HI _ _ (mJ K ⟨cL⟩ cD (yp l.prog w ⟨cB,cD⟩) ⟨cJ,cA,cH,[]⟩):=u6 F41 T L Y Wn Gb H5.m H5.k H5.b Sl DO.m DO.k DO.b Ph (mg_of X G gcH) Mh LQ.b VF (mg_of X G mh) (mg_of X G mk)
 have Gol:xO l.prog w K mg base aF 4 R0 _ _ _:=u8 Si.F Y RW.m RW.b Gtw
 have Got:xO l.prog w K mg base aF 4 R3 _ _ _:=u7 Sj.F Y RX.m RX.b Gtx
 have O:Own l.prog w K mg base ⟨cJ,cA,cH,[]⟩ R0 R3 Rm _ _ _:=⟨Si.m,Si.b,Gol,Sj.m,Sj.b,Got,RT.m,RT.b,Gpu⟩
 have Gly:xO l.prog w K mg base aF 1 Rz _ _ _:=wW Sh.F Y
 have Glg:xO l.prog w K mg base aF 1 VD _ _ _:=rM Sk.F T Y
 have Gen:xO l.prog w K mg base aF 5 Ry _ _ _:=rQ LS.F Y O
 have Ggi:xO l.prog w K mg base aF 6 Rx _ _ _:=uG Sg.F Y O LS.m LS.b Gen
 have VG:xO l.prog w K mg base aF 4 f9 _ _ _:=wP H9.F L Wn Gb ME Ge
 have Gmi:xO l.prog w K mg base aF 4 Rq _ _ (mO K ⟨cL⟩ cD (yp l.prog w ⟨cB,cD⟩) ⟨cJ,cA,cH,[]⟩):=uB RY.F Y Wn Gb GK.m GK.b Sm
 have Gwa:xO l.prog w K mg base aF 5 VA _ _ (iR K ⟨cL⟩ cD (yp l.prog w ⟨cB,cD⟩) ⟨cJ,cA,cH,[]⟩):=pN Sd.F Y Wn GL.m GL.b Sn H9.m H9.k H9.b VG
 have Gmo:xO l.prog w K mg base aF 6 Rr _ _ (mK K ⟨cL⟩ cD (yp l.prog w ⟨cB,cD⟩) ⟨cJ,cA,cH,[]⟩):=uA RZ.F Y Wn GL.m GL.b Sn Sd.m Sd.b Gwa GK.m GK.b Sm
 have Gml:xO l.prog w K mg base aF 2 Rt _ _ _:=rK Sa.F Y L Wn GL.m GL.b Sn ME Ge
 have Gmb:xO l.prog w K mg base aF 1 Ru _ _ (iS K ⟨cL⟩ cD (yp l.prog w ⟨cB,cD⟩) ⟨cJ,cA,cH,[]⟩):=pP Sb.F Y
 have MM:P2 l.prog w K mg base ⟨cL⟩ cD (yp l.prog w ⟨cB,cD⟩) ⟨cJ,cA,cH,[]⟩ Rq Rr Rt Ru _ _ _ _:=⟨RY.m,RY.b,Gmi,RZ.m,RZ.b,Gmo,Sa.m,Sa.b,Gml,Sb.m,Sb.b,Gmb⟩
 have VH:xO l.prog w K mg base aF 7 V9 _ _ (i7 K ⟨cL⟩ cD (yp l.prog w ⟨cB,cD⟩) ⟨cJ,cA,cH,[]⟩):=rL LR.F T Y Wn MM
 have Gim:xO l.prog w K mg base aF 2 Vt _ _ _:=uD EW.F T ZS H4.m H4.k H4.b GW
 have Glk:xO l.prog w K mg base aF 7 Rv _ _ _:=uC Se.F T Y Wn MM EW.m EW.k EW.b Gim H5.m H5.k H5.b Sl
 have DM:T9 l.prog w K mg base ⟨cL⟩ cD (yp l.prog w ⟨cB,cD⟩) ⟨cJ,cA,cH,[]⟩ Rv Rx Ry Rn Ro Rz _ _ _ _ _ _:=⟨Se.m,Se.b,Glk,Sg.m,Sg.b,Ggi,LS.m,LS.b,Gen,RU.m,RU.b,Gpl,RV.m,RV.b,Gbr,Sh.m,Sh.b,Gly⟩
 have Gdo:xO l.prog w K mg base aF 8 VB _ _ (vW K ⟨cL⟩ cD (yp l.prog w ⟨cB,cD⟩) ⟨cJ,cA,cH,[]⟩):=Kn Sf.F Y L Wn O DM ME Ge
 have VI:xO l.prog w K mg base aF 1 VC _ _ (i9 K ⟨cJ,cA,cH,[]⟩):=rR LU.F T Y
 have Gc:xO l.prog w K mg base aF 1 Vx _ _ _:=uI GJ.F T
 have Sr:xO l.prog w K mg base aF 1 Vy _ _ _:=wQ Dg.F
 have MS:xF K ⟨cL⟩ Rf _:=⟨RM.m,RM.b⟩
 have VJ:xO l.prog w K mg base aF 1 Rf _ _ _:=rH RM.F L
 have Gsl:xO l.prog w K mg base aF 8 Vu _ _ _:=rG Lo.F Y Wn LR.m LR.b VH LU.m LU.b VI
 have Gcs:xO l.prog w K mg base aF 5 Vv _ _ _:=xa N2.F T L Wn Gb MS VJ H9.m H9.k H9.b VG
 have Gso:xO l.prog w K mg base aF 6 Vw _ _ _:=uz (ys:=⟨cJ,cA,cH,[]⟩) N3.F T L Y Wn N2.m N2.k N2.b Gcs MS VJ (mg_of X G gcJ) My Hx Gy
 have Gln:xO l.prog w K mg base aF 2 Vz _ _ _:=rN N4.F T Dg.m Dg.k Dg.b Sr GJ.m GJ.k GJ.b Gc
 have Ggl:xO l.prog w K mg base aF 2 V0 _ _ _:=rO N5.F T Dg.m Dg.k Dg.b Sr
 have Grw:xO l.prog w K mg base aF 2 V1 _ _ _:=u0 N6.F T Dg.m Dg.k Dg.b Sr
 have Gsn:xO l.prog w K mg base aF 9 V2 _ _ _:=pO (ys:=⟨cJ,cA,cH,[]⟩) N7.F T L Y Wn (mg_of X G gcJ) My Hx Gy ⟨a41,i41,k41⟩ bp0 Gp LR.m LR.b VH Sf.m Sf.b Gdo Sk.m Sk.b Glg LU.m LU.b VI Lo.m Lo.k Lo.b Gsl
 exact wX (c:=⟨cL⟩) (ts:=⟨cB,cD⟩) F22 T ZS kk9 Wn ⟨GJ.m,GJ.k,GJ.b,Gc,N4.m,N4.k,N4.b,Gln,N5.m,N5.k,N5.b,Ggl,N6.m,N6.k,N6.b,Grw,(mg_of X G gcL),Mi,N8.b,Gi,(mg_of X G gcD),Mt,N9.b,Gt,N3.m,N3.k,N3.b,Gso,N7.m,N7.k,N7.b,Gsn⟩
end
theorem walk {l:PySem.W.OpenLaw}{q:Program}{loose:List Str}{XP:(Str->Option Value)->Heap->Prop}{YP:World->Heap->Prop}{d:DefRec}{K:Params->Frag}(hn:l.most=some 63)(IC:d.params.defaults=[])
  (hY:∀ (w:World)(h:Heap),YP w h->(K w.params).In h)
  (F:∀ (w:World)(mg:Str->Option Value)(fa:Addr)(h:Heap),(K w.params).In h->h.Ns mainGlobals mg->mg d.name=some (.ref fa) ->
   ∃ fd:FuncData,(∀ (s:Shared)(u:Value),BindsTo s fd ⟨[u],[]⟩ [("_law_script",u)])/\∀ base:Heap,(K w.params).In base->base.Ns mainGlobals mg->xO l.prog w (K w.params) mg base aF 10 fa fd ["_law_script"] (ow (K w.params))) :
  PySem.W.WalkO q loose XP YP l.row.toRowW d [] (fun f vs=>PySem.call f vs) :=
 L2.Dp (n:=63) (k:=10) (x := "_law_script") (CX:=fun _=>aF) (sp:=fun w=>ow (K w.params)) hn (by decide) IC ⟨rfl,by decide,by decide⟩ hY F (fun _ _ a ns hl _ hS=>⟨a,ns,rfl,hS,hl,fun _=>rfl⟩) fun _ _ _ _ _ z=>z
end K68
structure PySem.W.Fast:Prop where
 (tw14816346379189317746 tw4408577567583319525 tw2416677964252554993 tw13207191819812734845 tw13143856715489477740 tw13532607033308654745 tw3207582387275989053 tw6472231925291103448 tw3300635782430219891 tw1190826422963422930 tw8313177561640962449 tw5118840550160034637 tw878047052205144297 tw8158444695289345318 tw8872454903277415161 tw16776757690999857933 tw9534582264007440197 tw10131802132556386806 tw15188014914274708919 tw18093084151703815695 tw17414065412039439609 tw2226963338840488725 tw3280018056097676050 tw3632591478871239303 tw6040198160557115592 tw542998379991036994 tw7943642951196149326 tw13744178239985809214 tw6975124976999098402 tw8251820697656785155 tw11064937153554519487 tw18361100963606268378 tw2704495398418197901 tw4946544613807236416 tw4955412643774247696 tw13251082008075792408 tw6652080300450266804 tw16169588305316877032 tw6271086735878810954 tw15691242881694115880 tw14104770209914111888 tw2876302557055032980 tw6571732495227255820 tw4873260146594125858 tw6460666075409721679 tw945923208101567172 tw13015702308954073207 tw2405705372759310490 tw7131781253809652838 tw6599560043570830846 tw3924141272152470239 tw11536835087923944931 tw3666908392041399606 tw13845491533395596075 tw6803103271278186366 tw11147535006792939910 tw3057896809391775094 tw16815012806518663190 tw262445177556741340 tw16348196745795594263 tw9382588122862564689 tw9303651318431725222 tw13238546447843227694 tw16515898580506859635 tw7293689786859300569 tw4264146694391166186 tw4857545321093389206 tw2242390070432181216 tw9987417680532244022 tw9567840743058868909 tw4734149953296064907 tw13949055307915529275 tw11494700735661022818 tw10461704856804625054 tw10147170107079759922 tw9588610433021551137 tw5570368814077205608 tw12416306173996863788 tw4468314799407669537 tw13962608425418355643 tw3805927297925989211 tw15895842280648792612 tw13117736015157311704 tw775897657483500690 tw1851587226024634431 tw5476606338244783591 tw17462006173696391432 tw5990826588547736976 tw18029649600374344185 tw10416368693272098032 tw15842596892879282609 tw9664129553597075058 tw11502072800381673104 tw12089070869707332924 tw2165511392563711746 tw13180344944669573953 tw13880984914461799655 tw3040539924043572710 tw823655927382036532 tw1400895728390449998 tw4861522306636614036 tw13757211996115746405 tw3900671763591026135 tw15626563325392795537 tw10353866518995409949 tw9634512573282162119 tw16015871110688843222 tw2289046560399725824 tw7660421074004620165 tw15305200659758352390 tw5341252052497847055 tw15094542895196810806 tw5701010306185004251 tw3963192287630277143 tw99427307325493190 tw18262302920606702581 tw11658275629718462889 tw3040609596125595548 tw15237829745729232365 tw9421879644026942286 tw6488511392066517329 tw8999369583629917965 tw9751012498317755041 tw17087602009793690234 tw14797564104985234443 tw8209416460490578984 tw11708910700939259774 tw2783147954870077844 tw10136646436832046831 tw219967237496373341 tw16550650710607844208 tw17977527052620770013 tw7439055384850782647 tw17214419824187482895 tw11658753387606252136 tw10093179657512191457 tw3494176317215528985 tw5155594396350444912 tw909513099317994223 tw2857440170030900581 tw4296866066775128419 tw1335612166879325901 tw3603016065831945152 tw13642089423571950007 tw11624246592176395808 tw9298819424432268617 tw5134597702931098600 tw3296213274127039142 tw12220842194947170152 tw17946592784963971677 tw14371713417245001815 tw3687506578039383406 tw16572326098792066238 tw3976158858137709233 tw16286694667650725496 tw5780049400107759521 tw162097493564958802 tw1447308525377865144 tw12413087835852667920 tw824104168522170793 tw5880754396437727521 tw11622140053278413568 tw11467091043053445318 tw15805707325962047513 tw9427001778144687332 tw14218172832780618571 tw980998388694695924 tw5933868025192107511 tw4624916593386896126 tw13039944974523318706 tw12165865211515098670 tw9977386633808237405 tw7199099825506510344 tw13576936548260139172 tw9068946362467094498 tw8979504845168631331 tw5666109317965887089 tw4699629853206234927 tw1738529837388947958 tw9031120112638488479 tw7337435063177020084 tw9145708453876186980 tw2866741095022286988 tw4616981972987285222 tw6723425975745036028 tw16347354398674516476 tw8440758865559831230 tw2427180775165327677 tw16443658435278100808 tw4178094731481667851 tw11161413427495326148 tw11270943950270932834 tw5921991033642137295 tw17125712179150680822 tw896892403434179005 tw6894629112503823672 tw7553632293537883452 tw2749540894138065622 tw10033979820318071424 tw5497713504451747712 tw17206006091066256025 tw14163848535986603098 tw880764131361163384 tw6945162752348331092 tw7516299270791283863 tw6670478333407222338 tw15042824974060042888 tw8621190974238556437 tw10669920847129497657 tw6508338774407996351 tw3301725174357762811 tw4928504788627974093 tw5791840893850073056 tw13767579816064496742 tw6840894570819329081 tw13306440228926243171 tw12905366046046086435 tw16632684815286533058 tw7915073261677577456 tw1695448551433064010 tw9517494185093279938 tw5530385906485092364 tw6752397604403897491 tw15420126465474399116 tw1973468593162816886 tw16872596303006668644 tw14340246460881279241 tw9211897175154097111 tw6457887274234861510 tw5933316671232286902 tw5736240910164526267 tw13713786955209270398 tw12157027434395654274 tw9669861347748273175 tw15502161105661663725 tw14818677634351378252 tw5467245673943780447 tw8568692186729960808 tw16816740470093954033 tw5920671805155336168 tw3796545077462109044 tw11404902689248545602 tw8855805424412723058 tw15287062550506606670 tw9562613032944110833 tw17241624636278495880 tw7082896194994183007 tw10274744082274515106 tw17938988002676373528 tw18148899729018701682 tw3439692720995951049 tw13679960791426197518 tw9087375941027349687 tw7428975531660761103 tw6394162199051753122 tw4454659429907458323 tw17770438239771018149 tw15137297874645770084 tw14569218955157618966 tw15179078802099681496 tw16475884086588812859 tw6604186863249825353 tw13412545200979921418 tw4160809783934095769 tw18126602579331978891 tw17157182209945597966 tw11758202386492024036 tw17783979400841198816 tw293769266205718491 tw6047963125569412496 tw4973435111637214562 tw11873571147178597932 tw14230836783573112489 tw10146640921979332986 tw8828767275567218961 tw13192237753332027765 tw2061461730379517251 tw10877215816411500498 tw7137140381192196200 tw2400057169494763211 tw13414611787575456818 tw4756678819120162679 tw9522442294284687686 tw5400780828269778896 tw13400135246301369929 tw15049952443138413949 tw4441761684018667175 tw10857278757999065114 tw9261423191064129023 tw6324033033080711426 tw14091337826292856804 tw6507191261273498287 tw2725136225032094481 tw1147989269207485597 tw2101359224381859470 tw1571702970997731469 tw6957218712972788255 tw16980836792792930906 tw12402288816377788885 tw17726428008717707988 tw13646572134447731305 tw8247119284040907290 tw4285126542292540163 tw4098135718820563061 tw1333492760477794834 tw5075661361468715980 tw15765648675722627204 tw17350361271335730098 tw15698427837086591676 tw959979029663132366 tw13773423994893207087 tw13354076271281539604 tw13350173501721103940 tw4651347786401088677 tw12387451257072060946 tw7142167107312249574 tw1068949410639606010 tw9321603761619611052 tw17126064463728805764 tw9180879094646012762 tw9997280118731865901 tw8919852065759855739 tw14476223670092349961 tw5937701010015420767 tw9656774186601627216 tw8599401864116831597 tw15021495525241271986 tw12510504500160537914 tw5555792163103238677 tw16633446387547684959 tw8981660318974366548 tw2150429316927747866 tw15404377698980451994 tw10674252524446287594 tw2723605891259963469 tw8997492320900514879 tw7062962210800592987 tw16891169345372926029 tw8865915524689294891 tw8322862042460033548 tw180610950014460924 tw4226809059501092882 tw11467541505909185228 tw16782764088998270017 tw4167053751220058236 tw7858760994392372092 tw17722213533647849704 tw14306086521050196397 tw16886734109377710545 tw17269994297892461022 tw12616066079684745164 tw1333403479671349771 tw2978060567568078799 tw12755394217727661199 tw12885068484690951286 tw17957696269094864641 tw16083829983701596306 tw9873771022316739840 tw3035438739063871331 tw9296150965718554440 tw11173167447694992859 tw5479138366374345323 tw6172224338340680454 tw4099169178828436710 tw15926971092314259410 tw621031307810222803 tw12314955461099265847 tw16181348452060852200 tw13005389732856064929 tw6223479078692158170 tw6910517336291473565 tw4986447935922540789 tw9964956665263993094 tw16343853903818610225 tw13183807317694086874 tw6328580099462656138 tw15268383433414669611 tw14434654753560129189 tw14320312983122897460 tw15173976852244772785 tw6126423950469354644 tw16634673003288195786 tw5108626221716121685 tw13403470724408532956 tw1336272711040487709 tw13993663914754627704 tw13381825102491081681 tw11414288485753190509 tw16867269927297874960 tw14754016992206721388 tw10281654035802524069 tw2416716977963924541 tw11795022017186700335 tw4580052266525085827 tw4000797962714785783 tw8823726393466639319 tw8052314000473887560 tw680856454684965283 tw2098894865285427903 tw17355057278527864607 tw13095537808177758875 tw17883352862681451932 tw9992847690419676646 tw6884727475295134169 tw17489530715177925709 tw15313109577954397174 tw2315707951495877384 tw1661238601903284885 tw6642086667577990089 tw15853688060092872463 tw3884871488460071498 tw4319458338779782373 tw2936398408849777642 tw6784174299423186342 tw18325189548502138510 tw13286776172994653626 tw7456490293462468017 tw7388994922478947186 tw14434484175512006042 tw6146802354559788143 tw2967243061441996850 tw2517907351512408435 tw17634938673609868721 tw176347638729570023 tw10970393719606267793 tw15626647361179187 tw12802413927910824888 tw5837756566475472920 tw7376781888182788361 tw17754621623818292801 tw7299338262468325597 tw13155575014694808028 tw7557339112165806652 tw6737167745587781296 tw6509749457899104380 tw2840726812359013962 tw2813544518955696002 tw17737103028451306051 tw2443434450024250550 tw13508767607144664719 tw1166809819759269543 tw10401537748340184772 tw7913228199159412249 tw6807534696101584166 tw9335291600534913696 tw789843068782607490 tw6939685050452037123 tw6194791506222553025 tw18320447081355077512 tw17451277103753321775 tw14571274554610473927 tw13680962446533243464 tw13661116310983276271 tw13431748228388518701 tw9769810063063904197 tw9380780709802054411 tw6002160487202324402 tw17798981375957316367 tw6774299690799653835 tw6703709493812125995 tw13386675634127108403 tw6622779020816487521 tw5207589008761411071 tw11731380495441643240 tw8638989953553270428 tw2113758586736814574 tw11519699505142622077 tw9508954671377102566 tw346051565691247608 tw2755016877210554708 tw17992655905053858553 tw16170753304709897441 tw11557947174865596836 tw12713821420526272361 tw8407578418469151827 tw7970532383680258287 tw7953783521716819642 tw5807063267175783263 tw3804360079755173511 tw3284934480003732473 tw17927110172553669883 tw1558113941198738813 tw6600057980680477776 tw5061058178426498695 tw3301340481010076816 tw14614302740048992278 tw9804401856037141786 tw9332811140900230167 tw6189682548189338702 tw5380232447099807348 tw494787141035326593 tw2741190875897867120 tw226387274125768393 tw16446780939165048389 tw1174558046513662597 tw11086355959597932644 tw10037008426897742323 tw5662883862131619608 tw5222621435886570321 tw15155418063704344051 tw8098125282442254538 tw8013936392474242045 tw7931017740061843709 tw7603286619980459336 tw7332327181314652000 tw6254643488687420007 tw5710537957249489274 tw4440904147463995286 tw3918673635190622394 tw3333624580207798656 tw2243743818670899522 tw17462155955174404383 tw16691778681276216512 tw15717843137047644507 tw13917656361014757749 tw13197699424394934617 tw12610111036458260754 tw10309856942591985116 tw10177689532893334891 tw9979925033431213955 tw9424317583206598125 tw9366149488769945369 tw9031824306534564985 tw8224954392529455311 tw6153212039250642159 tw571816783821845923 tw5004482389981493231 tw18199703873282025910 tw17601879484709197622 tw16683107408992681846 tw15792864779389345463 tw15611419996516931868 tw1232367599478204399 tw12082637859806721463 tw11777151142004173594 tw11484068121357803072 tw11044722556532075644 tw14975345018606488619 tw17877185235676709751 tw1711093048326226857 tw8294054500472977046 tw7555849707297429960 tw6396771722724640930 tw6181374303413298440 tw5762056945026120861 tw4561760296528658831 tw346494407625369734 tw2805634402587777254 tw14791024491221312613 tw12735292010199731306 tw12282585843551878449 tw12176510848451005619 tw9982327387644100154 tw9322079786129618765 tw8949227197448407395 tw8897845575536397125 tw844106074363991282 tw8061489003269925785 tw7646141423114976623 tw6654213250869952014 tw3287972627662214878 tw3050789488501164429 tw2604881799663672682 tw16739533110711380789 tw16390304219098725395 tw12514264544331261509 tw12226417756191007721 tw11782122523932977064 tw11296188685672677564 tw10109921511839066822 tw8045385743345796213 tw5851744860189819683 tw9892400195455421702 tw9763609695358761995 tw9555082022074140678 tw9492568656276455932 tw9416029563884186845 tw931806200954732470 tw9226529077261682231 tw9181921933375333105 tw9177165032765919585 tw9058173345788284171 tw9034079444318988669 tw8978120483318650563 tw8933751833070159995 tw8891901343039509033 tw8751281702665446167 tw8612604520247126273 tw8596146337900309028 tw8318512491422338271 tw8203595037354236791 tw8181589026608898820 tw8148287037135569804 tw8092680999370564455 tw8000572453396623213 tw7885914448439335601 tw7768642298387098078 tw7766780627647728504 tw767579465882318213 tw7626788951466814382 tw7517209807227501712 tw7505260338657091887 tw7481200982945825284 tw7480777501279323407 tw7360472097879138285 tw7226243549147032595 tw7203970560249886193 tw7029558359345097406 tw6844935492858713620 tw6779973385160966652 tw6721348489621031328 tw6646358812358619033 tw6387162248277607696 tw6240323010081513352 tw6096296461672434785 tw5945026161447843263 tw5929757925828114431 tw5912704970135048219 tw5584806365347771238 tw5560216356322557399 tw5533154535646761259 tw5502569232388621443 tw5496423287695141613 tw5443989266613622629 tw5313821146682210068 tw5269033453626389970 tw4998196570068071282 tw4985010189138560410 tw4904520498692463125 tw4902223881072086318 tw4831554460576899837 tw4742731776630465368 tw4736474874166207734 tw4729204589065424141 tw470904220483073465 tw4631121132078340189 tw4608008148908544306 tw4490774486062198715 tw4482705094917207836 tw4465076132402551218 tw4462729586527735363 tw4455409693514343857 tw4367134685522492414 tw4350484147338578115 tw4294530690431694747 tw3891482716581906293 tw3742128389487187485 tw3343318058596321507 tw3256693604244767740 tw3106151643310314867 tw3099150676472337867 tw3088465113030135662 tw306540909600500307 tw2994018519999399273 tw2862862422783261706 tw283006676623617785 tw2685289697079079574 tw2678688534250705906 tw261851013200183542 tw2502704660980157919 tw2280932255673804627 tw2136449727906133204 tw2123969555414218463 tw2109268408436250976 tw2079896199235987965 tw2071668263607616842 tw2045998226514906766 tw1999535807739392666 tw1894741458755475539 tw1866479327736731972 tw18209302406568577812 tw18080175351120157181 tw17839827983116025341 tw1780831212643184425 tw17602904389315561881 tw17389301268460789713 tw17368025438675177544 tw1734446311148534960 tw17257942143936205891 tw17213549908367653752 tw17155389660654088059 tw17033882514796933848 tw1697259889392310096 tw16953173308394186687 tw16897866387023955003 tw16825068601436041672 tw16405419877763616284 tw16148359544092549936 tw16055642976026961817 tw15959832797329292077 tw15901573190129461280 tw15832332313092334772 tw15814288318768675494 tw15735559157586200389 tw15728004091808682045 tw15712122842609936804 tw15711508670239840216 tw15657631782052681467 tw15585391007017041899 tw15439106480951261738 tw15377294464271477982 tw15341362705069287646 tw15260944577533731601 tw14851312792887618336 tw14820272272626191142 tw14784322896417502714 tw14696557823612119533 tw14673348659340066384 tw14636005966626807222 tw14470163022391072179 tw1426699366962327281 tw14172068704614597950 tw14055891941499130651 tw14031991401227871163 tw13920926968843064399 tw13919048925452246461 tw13828107811871477098 tw13657598096651641512 tw13578580827005807472 tw13529901141881190905 tw13517647577613335771 tw13516915746869683349 tw13475052124371443025 tw1323110572738826602 tw12526010472381763726 tw12525119314826990237 tw12504037746836746185 tw12468326336246321438 tw12409375410269867223 tw12222286159970184469 tw12173457989192394428 tw1197787543728970461 tw11974959963631738116 tw11931950384816562474 tw1182698793097119434 tw11559430685375795304 tw11417911621683696342 tw11393713334754797076 tw11241597952715375815 tw11143983751379593951 tw11090303492681869650 tw10970492691763066823 tw10671754924909541280 tw1063567368411904619 tw1056425143743936344 tw10222352223529718088 tw10120333510948143129 tw10053796694534501352:True)
open PySem PySem.W PyProof.Rows
set_option maxRecDepth 100000 in
set_option maxHeartbeats 0 in
theorem PySem.Challenge.cw_wormyard_k68_stands_of_rings_holds : PySem.Challenge.rw_wormyard_k68_stands_of_rings.Holds := by
 w_on;o_law;k_head; (case hw=>w_witness2)
 k_fill
 refine K68.walk (l:=PySem.Challenge.rw_wormyard_k68_stands_of_rings) rfl rfl (fun w h Y=>PySem.W.kIn_of Y) ?F
 case F =>
  intro w mg fa h KX G hmg
  refine' K68.all_mk KX G hmg ?Aa ?Ab ?Ac ?Ad ?Ae ?Af ?Ag ?Ah ?Ai ?Aj ?Ak ?Al ?Am ?An ?Ao ?Ap ?Aq ?Ar ?As ?At ?Au ?Av ?Aw ?Ax ?Ay ?Az ?Ba ?Bb ?Bc ?Bd ?Be ?Bf ?Bg ?Bh ?Bi ?Bj ?Bk ?Bl ?Bm ?Bn ?Bo ?Bp ?Bq ?Br ?Bs ?Bt ?Bu ?Bv ?Bw ?Bx ?By ?Bz ?Ca ?Cb ?Cc ?Cd ?Ce ?Cf ?Cg ?Ch ?Ci ?Cj ?Ck ?Cl ?Cm ?Cn ?Co ?Cp ?Cq ?Cr ?Cs ?Ct ?Cu ?Cv ?Cw ?Cx ?Cy ?Cz ?Da ?Db ?Dc ?Dd ?De ?Df ?Dg ?Dh ?Di ?Dj ?Dk ?Dl ?Dm ?Dn ?Do ?Dp ?Dq ?Dr ?Ds ?Dt ?Du ?Dv ?Dw ?Dx ?Dy ?Dz ?Ea ?Eb ?Ec ?Ed ?Ee ?Ef ?Eg ?Eh ?Ei ?Ej ?Ek ?El ?Em ?En ?Eo ?Ep ?Eq ?Er ?Es ?Et ?Eu ?Ev ?Ew ?Ex ?Ey ?Ez ?Fa ?Fb ?Fc ?Fd ?Fe ?Ff ?Fg ?Fh ?Fi ?Fj ?Fk ?Fl ?Fm ?Fn ?Fo ?Fp ?Fq ?Fr ?Fs ?Ft ?Fu ?Fv ?Fw ?Fx ?Fy ?Fz ?Ga ?Gb ?Gc ?Gd ?Ge ?Gf ?Gg
  case Aa|Ab|Ac|Ad|Ae|Af=>k_is
  case Ag|Ah|Ai|Aj|Ak|Al|Am|An|Ao|Ap|Aq|Ar|As|At|Au|Av|Aw|Ax|Ay|Az|Ba|Bb|Bc|Bd|Be|Bf|Bg|Bh|Bi|Bj|Bk|Bl|Bm|Bn|Bo|Bp|Bq|Br|Bs|Bt|Bu|Bv|Bw|Bx|By|Bz|Ca|Cb|Cc|Cd|Ce|Cf|Cg|Ch|Ci|Cj|Ck|Cl|Cm|Cn|Co|Cp|Cq|Cr|Cs|Ct|Cu|Cv|Cw=>first |(refine' K68.mkT (by assumption) (by assumption) ?b ?a ?l ?c ?k;(case b=>first|exact fun _ _ _ _ _ _=>K68.len_of1 (fun _=>rfl)|exact fun _ _ _ _ _ _=>K68.len_of2 (fun _ _=>rfl)|exact fun _ _ _ _ _ _=>K68.len_of3 (fun _ _ _=>rfl)|exact fun _ _ _ _ _ _=>K68.len_of4 (fun _ _ _ _=>rfl)|exact fun _ _ _ _ _ _=>K68.len_of5 (fun _ _ _ _ _=>rfl));(case a=>k_is);(case l=>k_is);(case c=>k_is);(case k=>k_is))|(refine' K68.mkM ?b ?a ?l ?c ?k ?i;(case b=>first|exact fun _ _ _ _ _ _=>K68.len_of1 (fun _=>rfl)|exact fun _ _ _ _ _ _=>K68.len_of2 (fun _ _=>rfl)|exact fun _ _ _ _ _ _=>K68.len_of3 (fun _ _ _=>rfl)|exact fun _ _ _ _ _ _=>K68.len_of4 (fun _ _ _ _=>rfl)|exact fun _ _ _ _ _ _=>K68.len_of5 (fun _ _ _ _ _=>rfl));(case a=>k_is);(case l=>k_is);(case c=>k_is);(case k=>k_is);(case i=>k_is))|k_is
  case Cx|Cy|Cz|Da|Db|Dc|Dd|De|Df|Dg|Dh|Di|Dj|Dk|Dl|Dm|Dn|Do|Dp|Dq|Dr|Ds|Dt|Du|Dv|Dw|Dx|Dy|Dz|Ea|Eb|Ec|Ed|Ee|Ef|Eg|Eh|Ei|Ej|Ek|El|Em|En|Eo|Ep|Eq|Er|Es|Et|Eu|Ev|Ew|Ex|Ey|Ez|Fa|Fb|Fc|Fd|Fe|Ff|Fg=>k_is
  case Fh|Fi|Fj=>first | k_is | kernel_rfl
  case Fk|Fl|Fm|Fn|Fo|Fp|Fq|Fr|Fs=>kit_is
  case Ft|Fu|Fv|Fw|Fx|Fy|Fz|Ga|Gb|Gc|Gd|Ge|Gf|Gg=>k_is
