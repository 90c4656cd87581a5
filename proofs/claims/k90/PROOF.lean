import PyProof.Rows.All
import Wide.All
import OpenK.AllK
import Wide.FinOn
import Lean
import PyProof.EqAt
import PyProof.EqKinds
import PyProof.TupleCall
import PyProof.ExcBaseAll.ValueError
import PyProof.EnumMake
import PyProof.Rows.EnumRows
import PyProof.TupleIter
import PyProof.DictValues
import PyProof.CollectStr
import PySem.Builtin.Int.W1All
import PyProof.DictRoadsH
import PyProof.DictKinds
import PyProof.FactsAll.NoneType
import KE.KRevIter
import PyProof.FactsAll.list_3
import KE.KDictList
import PyProof.DictIter
import PyProof.DictWalks
import PyProof.ListRange
import PyProof.Rows.SumAny
import PyProof.Rows.SeqCalls
import PyProof.P3In
import KE.KNest
import KE.KLam
import KE.KSortKey
import PySem.Challenge.RW_wormyard_k90_whole_never_stands
set_option compiler.extract_closed false
set_option Elab.async false
set_option linter.all false
set_option maxRecDepth 100000
set_option maxHeartbeats 4000000
theorem η0(h:1=1:=by rfl):1=1:=h
def η:=η0._auto_1
theorem θ0(h:1=1:=by decide):1=1:=h
def θ:=θ0._auto_1
theorem ζ0(h:1=1:=by first | exact .inl rfl | exact .inr rfl | assumption):1=1:=h
def ζ:=ζ0._auto_1
theorem ξ0(h:1=1:=by decide +kernel):1=1:=h
def ξ:=ξ0._auto_1
theorem ψ0(h:1=1:=by intro _;rfl):1=1:=h
def ψ:=ψ0._auto_1
open PySem.W (Frag keepIn findIn fnOf codeIn nsIn mg_of isFn kitOne hasDictIn mg_none_of plainGet plainOver makesIn)
open List (getElem?_eq_getElem getElem?_map getElem?_append_left find?_cons getElem?_set_ne getElem?_concat_length getElem?_append_right all_cons all_eq_true all_map any_cons any_eq_true append_assoc append_eq_nil_iff append_nil drop_eq_nil_of_le eq_of_mem_replicate ext_getElem ext_getElem? filterMap_cons filter_append filter_cons_of_neg filter_cons_of_pos filter_eq_nil_iff getD_eq_getElem?_getD getElem_map getElem_mem getElem_of_mem length_append length_cons length_drop length_filter_le length_map length_range length_replicate length_set length_singleton length_take length_take_le lookup_cons map_append map_congr_left map_cons map_eq_nil_iff map_map map_nil map_take mem_append mem_append_left mem_append_right mem_cons mem_cons_of_mem mem_cons_self mem_filter mem_flatMap mem_map mem_map_of_mem mem_of_getElem? mem_of_getLast? mem_of_head? mem_of_mem_head? mem_of_mem_take mem_range mem_reverse mem_singleton mem_take_iff_getElem nodup_append nodup_cons nodup_nil not_mem_nil of_mem_zip pairwise_append pairwise_iff_getElem pairwise_map range_succ replicate_succ' set_cons_succ set_cons_zero size_toArray sum_append sum_cons take_length take_of_length_le take_succ)
open Nat (add_zero le_of_eq le_of_lt le_succ le_trans lt_irrefl lt_of_le_of_lt lt_of_lt_of_le lt_or_ge lt_succ_self min_eq_left min_eq_right ne_of_gt ne_of_lt not_lt_zero pow_le_pow_right sub_zero succ_pos testBit_lt_two_pow zero_le)
open Int (emod_lt_of_pos emod_nonneg mul_one natCast_pow one_mul toNat_natCast zero_add)
open PySem.F (args_tuple_add_2 entry_tuple_add plainAttrs_list slot_list_extend slot_tuple_add type_list_extend)
open PySem.Heap (lt_size size_push)
noncomputable section
abbrev L2.zQ0:PySem.Scope:={kind:=.function,names:=[],isGenerator:=false,isCoroutine:=false}
theorem L2.gQ0 {α:Type}{l:List α}{i:Nat}{a:α}(h:l[i]?=some a):i<l.length:=(List.getElem?_eq_some_iff.mp h).1
namespace L2
theorem EB {α:Type}{n:Nat}{l:List α}(h:l.length=n + 1):∃ a t,l=a :: t/\t.length=n:=by
 cases l with
 | nil=>cases h
 | cons a t=>exact⟨a,t,rfl,Nat.succ.inj h⟩
open PySem PySem.Spec PyProof.Rows
abbrev jo:=Sum Int Str
noncomputable def wk:jo->Value->Bool
 | .inl k,v=>Value.isInt k v
 | .inr x,v=>Value.isStrOf x v
noncomputable def Nu (w:World):jo->Int
 | .inl k=>hashInt k
 | .inr x=>hashStr w x
theorem bL:∀ {k:jo}{v:Value},wk k v=true->(∃ i t,k=Sum.inl i/\v=Value.int i t)∨(∃ x t,k=Sum.inr x/\v=Value.str x t)
 | .inl i,v,h=>by
  obtain⟨t,e⟩:=Value.isInt_shape (k:=i) (v:=v) h
  exact .inl ⟨i,t,rfl,e⟩
 | .inr x,v,h=>by
  obtain⟨t,e⟩:=Value.isStrOf_shape (x:=x) (v:=v) h
  exact .inr ⟨x,t,rfl,e⟩
theorem xX (a b:Int):decide ((Sum.inl a:jo)=Sum.inl b)=(a == b):=by
 by_cases e:a=b
 ·subst e;simp
 ·have h:¬ (Sum.inl a:jo)=Sum.inl b:=fun q=>e (Sum.inl.inj q)
  rw[decide_eq_false h]
  exact(beq_eq_false_iff_ne.mpr e).symm
theorem xT (a b:Str):decide ((Sum.inr a:jo)=Sum.inr b)=decide (a=b):=by
 by_cases e:a=b
 ·subst e;simp
 ·have h:¬ (Sum.inr a:jo)=Sum.inr b:=fun q=>e (Sum.inr.inj q)
  rw[decide_eq_false h,decide_eq_false e]
theorem xW (a:Int)(b:Str):decide ((Sum.inl a:jo)=Sum.inr b)=false:=decide_eq_false (fun q=>nomatch q)
theorem xU (a:Str)(b:Int):decide ((Sum.inr a:jo)=Sum.inl b)=false:=decide_eq_false (fun q=>nomatch q)
noncomputable def jY (prog:Program)(w:World):PySem.KeyKind prog w jo where
 is:=wk
 hash:=Nu w
 inj:=fun v a b ha hb=>by
  rcases bL ha with ⟨i,t,rfl,rfl⟩ | ⟨x,t,rfl,rfl⟩
  ·rcases bL hb with ⟨j,u,rfl,e⟩ | ⟨y,u,rfl,e⟩
   ·injection e with e1 _;rw[e1]
   ·exact nomatch e
  ·rcases bL hb with ⟨j,u,rfl,e⟩ | ⟨y,u,rfl,e⟩
   ·exact nomatch e
   ·injection e with e1 _;rw[e1]
 byValue:=fun k v h=>by
  rcases bL h with ⟨i,t,rfl,rfl⟩ | ⟨x,t,rfl,rfl⟩<;>rfl
 pyHash:=fun hv h=>by
  rcases bL hv with ⟨i,t,rfl,rfl⟩ | ⟨x,t,rfl,rfl⟩
  ·exact wpAny_pyHash_int h
  ·exact wpAny_pyHash_str h
 eqBool:=fun hu hv h=>by
  rcases bL hu with ⟨i,t,rfl,rfl⟩ | ⟨x,t,rfl,rfl⟩
  ·rcases bL hv with ⟨j,u,rfl,rfl⟩ | ⟨y,u,rfl,rfl⟩
   ·rw[xX]at h;exact wpAny_eqBool_int h
   ·rw[xW]at h;exact SeqAt.EqAt.int_str i t y u _ _ _ _ h
  ·rcases bL hv with ⟨j,u,rfl,rfl⟩ | ⟨y,u,rfl,rfl⟩
   ·rw[xU]at h;exact SeqAt.EqAt.str_int x t j u _ _ _ _ h
   ·rw[xT]at h;exact wpAny_eqBool_str h
 «strs»:=fun k x t v h=>by
  rcases bL h with ⟨i,u,rfl,e⟩ | ⟨y,u,rfl,e⟩
  ·exact nomatch e
  ·injection e with e1 _
   subst e1
   cases v<;>rfl
open PySem.Spec PyProof.Rows
inductive V where
 | yQ | bl (b:Bool) | int (i:Int) | str (x:Str) | Ce (b:Array UInt8) | Fu (b:UInt64) | ref (a:Addr) | ty (n:String)
 deriving DecidableEq
noncomputable def RelV:V->Value->Prop
 | .yQ,u=>u=Value.none
 | .bl b,u=>u=Value.bool b
 | .int i,u=>∃ t,u=Value.int i t
 | .str x,u=>∃ t,u=Value.str x t
 | .Ce b,u=>∃ t,u=Value.bytes b t
 | .Fu b,u=>∃ t,u=Value.float b t
 | .ref a,u=>u=Value.ref a
 | .ty n,u=>u=Value.type n
abbrev Vals:List V->List Value->Prop:=Paired RelV
theorem Vals.length {xs:List V}{us:List Value}(r:Vals xs us):xs.length=us.length:=Paired.length r
theorem Vals.get:∀ {xs:List V}{us:List Value}{i:Nat}{x:V},Vals xs us->xs[i]? = some x->∃ u,us[i]? = some u/\RelV x u
 | _,_,_,_, .nil,e=>by simp at e
 | _,_,0,_, .cons r _,e=>by simp at e;subst e;exact⟨_,rfl,r⟩
 | _,_,i + 1,x, .cons _ t,e=>by
  obtain⟨u,h1,h2⟩:=Vals.get (i:=i) (x:=x) t (by simpa using e)
  exact⟨u,by simpa using h1,h2⟩
theorem Vals.set {x:V}{u:Value}(r:RelV x u):∀ {xs:List V}{us:List Value}(i:Nat),Vals xs us->Vals (xs.set i x) (us.set i u)
 | _,_,_, .nil => .nil
 | _,_,0, .cons _ t => .cons r t
 | _,_,i + 1, .cons q t => .cons q (Vals.set r i t)
theorem Vals.append:∀ {xs ys:List V}{us ws:List Value},Vals xs us->Vals ys ws->Vals (xs ++ ys) (us ++ ws)
 | _,_,_,_, .nil,s=>s
 | _,_,_,_, .cons r t,s => .cons r (Vals.append t s)
theorem Vals.take:∀ {xs:List V}{us:List Value}(n:Nat),Vals xs us->Vals (xs.take n) (us.take n)
 | _,_,0,_ => .nil
 | _,_,_ + 1, .nil => .nil
 | _,_,n + 1, .cons r t => .cons r (Vals.take n t)
theorem Vals.drop:∀ {xs:List V}{us:List Value}(n:Nat),Vals xs us->Vals (xs.drop n) (us.drop n)
 | _,_,0,r=>r
 | _,_,_ + 1, .nil => .nil
 | _,_,n + 1, .cons _ t=>Vals.drop n t
noncomputable def Al:Option V->Option Value->Prop
 | some v,some u=>RelV v u
 | none,none=>True
 | _,_=>False
noncomputable def KV {κ:Type}:List (κ × V)->List (κ × Value)->Prop:=Paired fun (p:κ × V)(q:κ × Value)=>p.1=q.1/\RelV p.2 q.2
noncomputable def kV:jo->V
 | .inl i => .int i
 | .inr x => .str x
inductive HO where
  | lst (xs:List V)
  | tup (xs:List V)
  | dK (yJ:List (jo × V)) | dT (yJ:List (List jo × V))
  | set (S:Int->Bool) (n:Nat)
  | ins (C dx:Addr) (fs:List (Str × V))
  | own (x:Addr)
  | xd (fs:List (Str × V))
  | met (f x:Addr)
  | Nv (lo hi:Int)
  | Cf (o:Obj) (u:HO)
  | zI (ps:Array Value)
  | ext (φ:Heap->Prop)
abbrev Hp:=Addr->Option HO
noncomputable def upd (H:Hp)(a:Addr)(o:HO):Hp:=fun b=>if b=a then some o else H b
theorem ad {H:Hp}{a:Addr}{o:HO}:upd H a o a=some o:=by unfold upd;rw[if_pos rfl]
theorem af {H:Hp}{a b:Addr}{o:HO}(h:b ≠ a):upd H a o b=H b:=by unfold upd;rw[if_neg h]
theorem aX {H:Hp}{a b:Addr}{o u:HO}(h:H a=some o)(h':H b=some u)(d:o ≠ u):a ≠ b:=by
 intro e;subst e;rw[h]at h';exact d (Option.some.inj h')
theorem ai {H:Hp}{a b:Addr}{o:HO}(h:H a=some o)(h':H b=none):a ≠ b:=by
 intro e;subst e;rw[h]at h';cases h'
noncomputable def zN (h:Heap)(a:Addr)(items:Array Value):Prop:=∃ o,h.get? a=some o/\(o.cls = .type "tuple"/\∃ n,o.data = .seq items n)/\o.dict=none
theorem zN.isTup {h:Heap}{a:Addr}{items:Array Value}:zN h a items->IsTup h a items:=fun yD=>by obtain⟨o,e,c,_⟩:=yD;exact⟨o,e,c⟩
theorem zN.new (h:Heap)(items:Array Value):zN (h.push { cls := .type "tuple",data := .seq items }) h.objs.size items:=⟨_,Heap.get?_push_size _ rfl,⟨rfl,_,rfl⟩,rfl⟩
section
variable (P:Program)(w:World)
noncomputable def zd (H:Hp)(h:Heap)(a:Addr):HO->Prop
 | .lst xs=>xs.length <= sizeLine/\∃ (yF:List Value)(n:Nat),Vals xs yF/\h.get? a=some { cls := .type "list",data := .seq yF.toArray n }
 | .tup xs=>xs.length <= sizeLine/\∃ yF:List Value,Vals xs yF/\zN h a yF.toArray
 | .dK yJ=>yJ.length <= sizeLine/\(a == sysModules)=false/\∃ vs,KV yJ vs/\h.DictOf (jY P w) a vs
 | .dT yJ=>yJ.length <= sizeLine/\(a == sysModules)=false/\∃ xs:List (List jo × Addr × Value),
   Paired (fun (p:List jo × V)(q:List jo × Addr × Value)=>p.1=q.1/\H q.2.1=some (.tup (p.1.map kV))/\RelV p.2 q.2.2) yJ xs /\
   ∃ o es ep,h.get? a=some o/\o.ExactDict/\o.data = .dict es ep/\es.toList=xs.map (entryOfKey (tupleKind (jY P w)))/\(xs.map (·.1)).Nodup
 | .set S n=>h.SetOf (intKind P w) a S n
 | .ins C dx fs=>H dx=some (.own a)/\fs.length <= 1000/\dx ≠ a/\h.get? a=some (PySem.W.instObj C dx) /\
   ∃ mA,h.Ns1 dx mA/\(∀ f,Al (fs.lookup f) (mA f))/\PySem.Within mA (fs.map (·.1))
 | .own _=>∃ o,h.get? a=some o
 | .xd fs=>∃ mA,h.Ns1 a mA/\∀ f,Al (fs.lookup f) (mA f)
 | .Nv lo hi=>∃ t u v,h.get? a=some { cls := .type "range",data := .fields #[.int lo t, .int hi u, .int 1 v] }
 | .Cf o u=>h.get? a=some o/\zd H h a u
 | .zI ps=>h.get? a=some { cls := .none,data := .fields ps }
 | .met f x=>h.get? a=some (PySem.W.methodObj (.ref f) (.ref x))
 | .ext φ=>φ h/\(∃ o,h.get? a=some o)/\∀ h1 h2:Heap,φ h1->(∀ o,h1.get? a=some o->h2.get? a=some o)->φ h2
noncomputable def Aq (H:Hp)(h:Heap):Prop:=∀ a o,H a=some o->zd P w H h a o
end
section
variable {P:Program}{w:World}{H H':Hp}{h h':Heap}{a:Addr}{o:HO}
theorem zd.lt (x:zd P w H h a o):a < h.objs.size:=by
 cases o with
 | lst xs=>obtain⟨_,_,_,_,e⟩:=x;exact lt_size e
 | tup xs=>obtain⟨_,_,_,p⟩:=x;exact p.isTup.lt
 | dK yJ=>obtain⟨_,_,_,_,o,_,_,e,_⟩:=x;exact lt_size e
 | dT yJ=>obtain⟨_,_,_,_,o,_,_,e,_⟩:=x;exact lt_size e
 | set S n=>obtain⟨o,_,_,_,e,_⟩:=x;exact lt_size e
 | ins C dx fs=>obtain⟨_,_,_,e,_⟩:=x;exact lt_size e
 | own y=>obtain⟨_,e⟩:=x;exact lt_size e
 | xd fs=>obtain⟨_,⟨_,_,_,e,_⟩,_⟩:=x;exact lt_size e
 | Nv lo hi=>obtain⟨_,_,_,e⟩:=x;exact lt_size e
 | Cf ob u=>obtain⟨e,_⟩:=x;exact lt_size e
 | zI ps=>exact lt_size (show h.get? a=some _ from x)
 | met f y=>exact lt_size (show h.get? a=some _ from x)
 | ext φ=>obtain⟨_,⟨_,e⟩,_⟩:=x;exact lt_size e
theorem Paired.HN {α β:Type}{F G:α->β->Prop}:∀ {l₁:List α}{l₂:List β},Paired F l₁ l₂->(∀ a b,F a b->G a b)->Paired G l₁ l₂
 | _,_, .nil,_ => .nil
 | _,_, .cons r t,f => .cons (f _ _ r) (Paired.HN t f)
theorem zd.zX (x:zd P w H h a o)(k:∀ b u,(b=a∨H b=some (.own a))->h.get? b=some u->h'.get? b=some u)
  (ho:∀ b,H b=some (.own a)->H' b=some (.own a)) (ht:∀ b xs,H b=some (.tup xs)->H' b=some (.tup xs)):zd P w H' h' a o:=by
 induction o with
 | lst xs=>obtain⟨z,yF,n,r,e⟩:=x;exact⟨z,yF,n,r,k _ _ (.inl rfl) e⟩
 | tup xs=>obtain⟨z,yF,r,ob,e,c⟩:=x;exact⟨z,yF,r,ob,k _ _ (.inl rfl) e,c⟩
 | dK yJ=>obtain⟨z,y,vs,r,ob,es,ep,e,c⟩:=x;exact⟨z,y,vs,r,ob,es,ep,k _ _ (.inl rfl) e,c⟩
 | dT yJ =>
  obtain⟨z,y,xs,r,ob,es,ep,e,c⟩:=x
  exact⟨z,y,xs,Paired.HN r fun p q z=>⟨z.1,ht _ _ z.2.1,z.2.2⟩,ob,es,ep,k _ _ (.inl rfl) e,c⟩
 | set S n=>obtain⟨ob,es,ep,t,e,c⟩:=x;exact⟨ob,es,ep,t,k _ _ (.inl rfl) e,c⟩
 | ins C dx fs =>
  obtain⟨d,z,ne,e,mA,⟨od,es,ep,e2,c⟩,r⟩:=x
  exact⟨ho _ d,z,ne,k _ _ (.inl rfl) e,mA,⟨od,es,ep,k _ _ (.inr d) e2,c⟩,r⟩
 | own y=>obtain⟨ob,e⟩:=x;exact⟨ob,k _ _ (.inl rfl) e⟩
 | xd fs=>obtain⟨mA,⟨od,es,ep,e,c⟩,r⟩:=x;exact⟨mA,⟨od,es,ep,k _ _ (.inl rfl) e,c⟩,r⟩
 | Nv lo hi=>obtain⟨t,u,v,e⟩:=x;exact⟨t,u,v,k _ _ (.inl rfl) e⟩
 | Cf ob u ih=>obtain⟨e,q⟩:=x;exact⟨k _ _ (.inl rfl) e,ih q⟩
 | zI ps =>
  have e:h.get? a=some { cls := .none,data := .fields ps }:=x
  show h'.get? a=some { cls := .none,data := .fields ps }
  exact k a _ (.inl rfl) e
 | met f y =>
  have e:h.get? a=some (PySem.W.methodObj (.ref f) (.ref y)):=x
  show h'.get? a=some (PySem.W.methodObj (.ref f) (.ref y))
  exact k a _ (.inl rfl) e
 | ext φ=>obtain⟨p,⟨o,e⟩,st⟩:=x;exact⟨st _ _ p fun o q=>k _ _ (.inl rfl) q,⟨o,k _ _ (.inl rfl) e⟩,st⟩
theorem Aq.lt (x:Aq P w H h)(e:H a=some o):a < h.objs.size:=(x a o e).lt
theorem Aq.fresh (x:Aq P w H h)(e:h.objs.size <= a):H a=none:=by
 cases q:H a with
 | none=>rfl
 | some u=>exact absurd (lt_of_lt_of_le (x.lt q) e) (lt_irrefl _)
theorem Aq.kept (x:Aq P w H h)(k:∀ b u,h.get? b=some u->h'.get? b=some u):Aq P w H h':=fun a o e =>
 (x a o e).zX (fun b u _ q=>k b u q) (fun _ q=>q) fun _ _ q=>q
theorem Aq.laid (x:Aq P w H h)(k:∀ b u,h.get? b=some u->h'.get? b=some u)(hp:h.objs.size <= a)(new:zd P w (upd H a o) h' a o):Aq P w (upd H a o) h':=fun b u e=>by
 have hn:=x.fresh hp
 by_cases hb:b=a
 ·subst hb;rw[ad]at e;cases e;exact new
 ·rw[af hb]at e
  exact(x b u e).zX (fun c v _ q=>k c v q) (fun c q=>by rw[af (ai q hn)];exact q) fun c xs q=>by rw[af (ai q hn)];exact q
end
noncomputable def Rd (H:Hp)(a:Addr)(u:HO):Prop:=H a=some u∨∃ o,H a=some (.Cf o u)
theorem Rd.ok {P:Program}{w:World}{H:Hp}{h:Heap}{a:Addr}{u:HO}(r:Rd H a u)(x:Aq P w H h):zd P w H h a u:=by
 rcases r with r | ⟨o,r⟩
 ·exact x a u r
 ·obtain⟨_,q⟩:=x a _ r
  exact q
noncomputable def L8:Option HO->Prop
 | some (.lst _)=>True
 | some (.dK _)=>True
 | some (.dT _)=>True
 | some (.set _ _)=>True
 | some (.ins _ _ _)=>True
 | some (.ext _)=>True
 | _=>False
section
variable {P:Program}{w:World}{H:Hp}{h h':Heap}{x e:Addr}{o':HO}
theorem Aq.write (ok:Aq P w H h)(mu:L8 (H x))(he:e=x∨H e=some (.own x))(k:∀ b u,b ≠ e->h.get? b=some u->h'.get? b=some u)(GX:∃ u,h'.get? e=some u)
  (new:zd P w (upd H x o') h' x o'):Aq P w (upd H x o') h':=fun b u q=>by
 have HP:∀ c y,H c=some (.own y)->c ≠ x:=fun c y r z=>by subst z;rw[r]at mu;exact mu
 have Nw:∀ c xs,H c=some (.tup xs)->c ≠ x:=fun c xs r z=>by subst z;rw[r]at mu;exact mu
 by_cases hb:b=x
 ·subst hb;rw[ad]at q;cases q;exact new
 ·rw[af hb]at q
  by_cases CF:b=e
  ·have q':H b=some (.own x):=by
    rcases he with z | z
    ·exact absurd (CF.trans z) hb
    ·rw[CF];exact z
   rw[q]at q';cases q'
   obtain⟨v,hv⟩:=GX
   exact⟨v,by rw[CF];exact hv⟩
  ·refine(ok b u q).zX (fun c v hc r=>k c v ?_ r) (fun c r=>by rw[af (HP c b r)];exact r) fun c xs r=>by rw[af (Nw c xs r)];exact r
   rcases hc with rfl | hc
   ·exact CF
   ·rintro rfl
    rcases he with z | z
    ·exact HP c b hc z
    ·rw[hc]at z;cases z;exact hb rfl
end
structure Un (fs ex:List Addr)(H H':Hp)(h h':Heap):Prop where
 keep:∀ b o,h.get? b=some o->H b=none->b ∉ fs->b ∉ ex->h'.get? b=some o
 slot:∀ b o,h.get? b=some o->H b=none->b ∈ fs->b ∉ ex->∃ sl,h'.get? b=some { o with slots:=sl }
 free:∀ b o,h.get? b=some o->H b=none->b ∉ ex->H' b=none
 there:∀ b o,h.get? b=some o->b ∉ ex->∃ o',h'.get? b=some o'
 AQ:∀ b xs,H b=some (.tup xs)->H' b=some (.tup xs)
 AG:∀ b o u,H b=some (.Cf o u)->H' b=some (.Cf o u)
 AH:∀ b ps,H b=some (.zI ps)->∃ more,H' b=some (.zI (ps ++ more))
section
variable {fs Cg ex GY:List Addr}{H H1 H2:Hp}{h h1 h2 h':Heap}{a x e:Addr}{o:HO}
theorem Un.any (u:Un fs ex H H1 h h1){b:Addr}{ob:Obj}(q:h.get? b=some ob)(n:H b=none)(hx:b ∉ ex):∃ sl,h1.get? b=some { ob with slots:=sl }:=by
 by_cases hb:b ∈ fs
 ·exact u.slot b ob q n hb hx
 ·exact⟨ob.slots,u.keep b ob q n hb hx⟩
theorem Un.kept (k:∀ b u,h.get? b=some u->h'.get? b=some u):Un fs ex H H h h' :=
 ⟨fun b ob q _ _ _=>k b ob q,fun b ob q _ _ _=>⟨ob.slots,k b ob q⟩,fun _ _ _ n _=>n,fun b ob q _=>⟨ob,k b ob q⟩,fun _ _ q=>q,fun _ _ _ q=>q,fun _ ps q=>⟨#[],by rw[q];simp⟩⟩
theorem Un.refl:Un fs ex H H h h:=Un.kept fun _ _ q=>q
theorem Un.laid (k:∀ b u,h.get? b=some u->h'.get? b=some u)(hp:h.objs.size <= a)(hn:H a=none):Un fs ex H (upd H a o) h h' where
 keep:=fun b u q _ _ _=>k b u q
 slot:=fun b u q _ _ _=>⟨u.slots,k b u q⟩
 free:=fun b u q n _=>by rw[af (ne_of_lt (lt_of_lt_of_le (lt_size q) hp))];exact n
 there:=fun b u q _=>⟨u,k b u q⟩
 AQ:=fun b xs q=>by rw[af (ai q hn)];exact q
 AG:=fun b u xs q=>by rw[af (ai q hn)];exact q
 AH:=fun b ps q=>⟨#[],by rw[af (ai q hn),q];simp⟩
theorem Un.write (mu:L8 (H x))(he:e=x∨H e=some (.own x))(k:∀ b u,b ≠ e->h.get? b=some u->h'.get? b=some u)(GX:∃ u,h'.get? e=some u):Un fs ex H (upd H x o) h h':=by
 have hx:∀ b,H b=none->b ≠ x:=fun b n z=>by subst z;rw[n]at mu;exact mu
 have hb:∀ b,H b=none->b ≠ e:=fun b n z=>by
  subst z
  rcases he with r | r
  ·exact hx b n r
  ·rw[n]at r;cases r
 have hm:∀ b u,H b=some u->¬ L8 (some u)->b ≠ x:=fun b u q nm z=>by subst z;rw[q]at mu;exact nm mu
 refine⟨fun b u q n _ _=>k b u (hb b n) q,fun b u q n _ _=>⟨u.slots,k b u (hb b n) q⟩,fun b u q n _=>by rw[af (hx b n)];exact n,fun b u q _=>?_,
  fun b xs q=>by rw[af (hm b _ q fun z=>z)];exact q,fun b u xs q=>by rw[af (hm b _ q fun z=>z)];exact q,fun b ps q=>⟨#[],by rw[af (hm b _ q fun z=>z),q];simp⟩⟩
 by_cases CF:b=e
 ·subst CF;exact GX
 ·exact⟨u,k b u CF q⟩
end
noncomputable def L9 (h:Heap)(H:Hp):List Addr:=(List.range h.objs.size).filter fun a=>(H a).isSome
noncomputable def jk (h:Heap)(H:Hp):Heap:=PySem.W.hideAll h (L9 h H)
theorem qg (h:Heap)(H:Hp):(jk h H).objs.size=h.objs.size:=PySem.W.hideAll_size _ _
theorem tu {h:Heap}{H:Hp}{b:Addr}{o:Obj}(e:h.get? b=some o)(n:H b=none):(jk h H).get? b=some o :=
 PySem.W.hideAll_get _ e fun hm=>by
  have q:(H b).isSome=true:=(mem_filter.mp hm).2
  rw[n]at q;simp at q
theorem vk {h:Heap}{H:Hp}{b:Addr}{o:Obj}(e:(jk h H).get? b=some o):h.get? b=some o/\H b=none:=by
 have e':h.get? b=some o:=PySem.W.of_hideAll (L9 h H) e
 refine⟨e',?_⟩
 cases q:H b with
 | none=>rfl
 | some x =>
  have hm:b ∈ L9 h H:=mem_filter.mpr ⟨mem_range.mpr (lt_size e'),by simp[q]⟩
  have z:(jk h H).get? b=none:=PySem.W.hideAll_none (L9 h H) hm
  rw[z]at e;cases e
structure Mod (K:Frag)(mg:Str->Option Value)(base:Heap):Prop where
 BI:K.In base
 glob:base.Ns mainGlobals mg
 blt:∃ mb,base.Ns builtinsNs mb/\∀ x:Str,x ≠ "__name__"->mb x=bootBuiltins x
 nolimit:base.NoLimit
structure Cx where
 prog:Program
 w:World
 K:Frag
 mg:Str->Option Value
 base:Heap
 A:Around
 N:List Str
 s₀:Shared
 H₀:Hp
 env:Env
 outer:List Env
 stack:List Env
 ex:List Addr
 fn:Str->Bool
 calm:Bool
 pn:List (Addr × Obj)
 xe:Value->Shared->Prop
noncomputable def kM (l:List Env):List Addr:=l.filterMap (·.frame)
abbrev Cx.fs (X:Cx):List Addr:=kM X.outer
noncomputable def LA (sc:Scope)(x:Str):Prop:=sc.names.lookup x=some .local∨sc.names.lookup x=some .cell∨sc.names.lookup x=some .free
noncomputable def Loc (sc:Scope)(x:Str):Prop:=sc.names.lookup x=some .local∨sc.names.lookup x=some .cell
noncomputable def Look (env:Env)(h:Heap)(m:Str->Option Value)(x:Str)(u:Value):Prop :=
 (env.kindOf x=some .local/\m x=some u)∨((env.kindOf x=some .cell∨env.kindOf x=some .free)/\∃ c,env.cells.lookup x=some c/\h.IsCell c (some u))
structure Cx.Ok (X:Cx):Prop where
 mod:Mod X.K X.mg X.base
 kind:X.env.scope.kind = .function
 glob:X.env.globals=mainGlobals
 blt:X.env.builtins=builtinsNs
 above:X.s₀.heap.objs.size <= X.env.locals
 inj:∀ x y c,X.env.cells.lookup x=some c->X.env.cells.lookup y=some c->x=y
 has:∀ x,(X.env.kindOf x=some .cell∨X.env.kindOf x=some .free)->∃ c,X.env.cells.lookup x=some c
 EC:∀ x c,X.fn x=true->X.env.cells.lookup x=some c->X.s₀.heap.objs.size <= c
 hd:X.calm=true->X.A.handled=none
 frames:X.A.frames=some X.stack
 GZ:X.stack=X.outer∨(X.stack=X.env :: X.outer/\X.env.frame=some X.env.locals)
 LB:∀ b ∈ X.ex,b ≠ X.env.locals/\∀ x c,X.env.cells.lookup x=some c->c ≠ b
 bs:∀ b o,X.base.get? b=some o->X.s₀.heap.get? b=some o/\X.H₀ b=none
 Cy:X.base.objs.size <= X.s₀.heap.objs.size
 BJ:∀ b o,X.base.get? b=some o->b ∉ X.ex
 Cz:∀ b ∈ X.ex,b ∉ X.fs
 zO:X.s₀.heap.FunFrames X.base X.outer
 CT:∀ b ∈ X.fs,X.H₀ b=none
structure Inv (X:Cx)(pins:List (Addr × Obj))(σ:List (Option V))(H:Hp)(s:Shared):Prop where
 ok:X.Ok
 os:s.os=X.s₀.os
 bare:AllBare s.gens
 base:Un X.fs X.ex X.H₀ H X.s₀.heap s.heap
 loc:∃ m,s.heap.Ns X.env.locals m/\∀ (i:Nat)(x:Str)(v:V),X.N[i]? = some x->σ[i]? = some (some v)->LA X.env.scope x->∃ u,RelV v u/\Look X.env s.heap m x u
 cell:∀ x c,X.env.cells.lookup x=some c->∃ v,s.heap.IsCell c v
 free:H X.env.locals=none
 zk:∀ x c,X.env.cells.lookup x=some c->H c=none
 pin:∀ p ∈ X.pn ++ pins,s.heap.get? p.1=some p.2/\H p.1=none/\p.1 ≠ X.env.locals/\p.1 ∉ X.fs/\∀ v,p.2.data ≠ .cell v
 yL:Aq X.prog X.w H s.heap
 len:σ.length=X.N.length
section
variable {X:Cx}{pins:List (Addr × Obj)}{σ:List (Option V)}{H H':Hp}{s:Shared}{h':Heap}
theorem Cx.Ok.Nx (ok:X.Ok){b:Addr}{o:Obj}(e:X.base.get? b=some o):b ∉ X.fs:=fun hb=>by
 have:=(ok.zO.mem hb).1
 rw[e]at this;cases this
theorem Inv.bs (I:Inv X pins σ H s):∀ b o,X.base.get? b=some o->s.heap.get? b=some o/\H b=none:=fun b o e =>
 ⟨I.base.keep b o (I.ok.bs b o e).1 (I.ok.bs b o e).2 (I.ok.Nx e) (I.ok.BJ b o e),I.base.free b o (I.ok.bs b o e).1 (I.ok.bs b o e).2 (I.ok.BJ b o e)⟩
theorem Inv.bk (I:Inv X pins σ H s):∀ b o,X.base.get? b=some o->s.heap.get? b=some o:=fun b o e=>(I.bs b o e).1
theorem Inv.mod (I:Inv X pins σ H s):Mod X.K X.mg X.base:=I.ok.mod
theorem Inv.Ac (I:Inv X pins σ H s):X.K.In s.heap:=I.ok.mod.BI.keeps I.bk
theorem Inv.lt (I:Inv X pins σ H s):X.env.locals < s.heap.objs.size:=let ⟨_,hn,_⟩:=I.loc;hn.lt
theorem Inv.sz (I:Inv X pins σ H s):X.s₀.heap.objs.size <= s.heap.objs.size:=le_trans I.ok.above (le_of_lt I.lt)
theorem Inv.DU (I:Inv X pins σ H s){a:Addr}(h:s.heap.objs.size <= a):a ∉ X.fs:=fun hb=>by
 obtain⟨_,o,ho,_⟩:=I.ok.zO.mem hb
 exact absurd (lt_of_lt_of_le (lt_size ho) (le_trans I.sz h)) (lt_irrefl _)
theorem Inv.DD (I:Inv X pins σ H s):∀ x c,X.env.cells.lookup x=some c->c ≠ X.env.locals:=fun x c e z=>by
 obtain⟨v,o,ho,hd⟩:=I.cell x c e
 obtain⟨m,⟨o',es,ep,DV,Ny,_⟩,_⟩:=I.loc
 rw[z,DV]at ho;cases ho;rw[Ny]at hd;cases hd
theorem Inv.zO (I:Inv X pins σ H s):s.heap.FunFrames X.base X.outer:=by
 have all:∀ (l:List Env),(∀ b ∈ kM l,b ∈ X.fs)->X.s₀.heap.FunFrames X.base l->s.heap.FunFrames X.base l:=by
  intro l
  induction l with
  | nil=>intro _ _;trivial
  | cons env r ih =>
   intro hs hl
   obtain⟨hk,⟨L,o,hf,hn,ho,hd⟩,hr⟩:=hl
   have hL:L ∈ X.fs:=hs L (by unfold kM;rw[filterMap_cons,hf];exact mem_cons_self)
   obtain⟨sl,e⟩:=I.base.slot L o ho (I.ok.CT L hL) hL fun z=>I.ok.Cz L z hL
   exact⟨hk,⟨L,_,hf,hn,e,hd⟩,ih (fun b hb=>hs b (by unfold kM;rw[filterMap_cons,hf];exact mem_cons_of_mem _ hb)) hr⟩
 exact all X.outer (fun _ hb=>hb) I.ok.zO
theorem Inv.stack (I:Inv X pins σ H s):s.heap.FunFrames X.base X.stack:=by
 rcases I.ok.GZ with e | ⟨e,hf⟩
 ·rw[e];exact I.zO
 ·rw[e]
  obtain⟨m,hn,_⟩:=I.loc
  refine .cons (by rw[I.ok.kind];decide) hf hn ?_ I.zO
  exact Heap.get?_none_of_le (le_trans I.ok.Cy I.ok.above)
theorem Inv.Am (I:Inv X pins σ H s):∀ b ∈ kM X.stack,b ∈ X.env.locals :: X.fs:=fun b hb=>by
 rcases I.ok.GZ with e | ⟨e,hf⟩
 ·rw[e]at hb;exact mem_cons_of_mem _ hb
 ·rw[e]at hb
  unfold kM at hb
  rw[filterMap_cons,hf]at hb
  exact hb
theorem Inv.Bh (I:Inv X pins σ H s):∀ b ∈ kM X.stack,H b=none:=fun b hb=>by
 rcases mem_cons.mp (I.Am b hb) with e | hb
 ·rw[e];exact I.free
 ·obtain⟨_,o,ho,_⟩:=I.ok.zO.mem hb
  exact I.base.free b o ho (I.ok.CT b hb) fun z=>I.ok.Cz b z hb
theorem Inv.step {g':Array GenState}{t':Nat}{d':Drawn}{ch:List Addr}(I:Inv X pins σ H s)
  (DE:∀ b ∈ ch,(b ∈ X.ex∨X.s₀.heap.objs.size <= b)/\b ≠ X.env.locals/\(∀ x c,X.env.cells.lookup x=some c->c ≠ b)/\∀ p ∈ X.pn ++ pins,p.1 ≠ b)
  (keep:∀ b o,b ≠ X.env.locals->b ∉ X.fs->b ∉ ch->s.heap.get? b=some o->H b=none->h'.get? b=some o)
  (slot:∀ b o,b ≠ X.env.locals->b ∈ X.fs->b ∉ ch->s.heap.get? b=some o->H b=none->∃ sl,h'.get? b=some { o with slots:=sl }) (free:∀ b o,b ∉ ch->s.heap.get? b=some o->H b=none->H' b=none)
  (there:∀ b o,b ∉ ch->s.heap.get? b=some o->∃ o',h'.get? b=some o')
  (AQ:∀ b xs,H b=some (.tup xs)->H' b=some (.tup xs)) (AG:∀ b o u,H b=some (.Cf o u)->H' b=some (.Cf o u)) (AH:∀ b ps,H b=some (.zI ps)->∃ more,H' b=some (.zI (ps ++ more)))
  (ns:∀ m,s.heap.Ns X.env.locals m->h'.Ns X.env.locals m) (yL:Aq X.prog X.w H' h') (hg:AllBare g') :
  Inv X pins σ H' { s with heap:=h',gens:=g',drawn:=d',toks:=t' }:=by
 have Tp:∀ b o,X.s₀.heap.get? b=some o->b ≠ X.env.locals:=fun b o e=>ne_of_lt (lt_of_lt_of_le (lt_size e) I.ok.above)
 have LC:∀ b o,X.s₀.heap.get? b=some o->b ∉ X.ex->b ∉ ch:=fun b o e hx hb=>by
  rcases (DE b hb).1 with z | z
  ·exact hx z
  ·exact absurd (lt_of_lt_of_le (lt_size e) z) (lt_irrefl _)
 have cellK:∀ x c,X.env.cells.lookup x=some c->∀ v,s.heap.IsCell c v->h'.IsCell c v:=fun x c e v ⟨o,ho,hd⟩=>by
  have HQ:c ∉ ch:=fun z=>(DE c z).2.2.1 x c e rfl
  by_cases hc:c ∈ X.fs
  ·obtain⟨sl,q⟩:=slot c o (I.DD x c e) hc HQ ho (I.zk x c e)
   exact⟨_,q,hd⟩
  ·exact⟨o,keep c o (I.DD x c e) hc HQ ho (I.zk x c e),hd⟩
 refine⟨I.ok,I.os,hg,⟨fun b o e n hb hx=>?_,fun b o e n hb hx=>?_,fun b o e n hx=>?_,fun b o e hx=>?_,fun b xs e=>AQ b xs (I.base.AQ b xs e),fun b o xs e=>AG b o xs (I.base.AG b o xs e),fun b ps e=>?_⟩,?_,fun x c e=>?_,?_,fun x c e=>?_,fun p hp=>?_,yL,I.len⟩
 ·exact keep b o (Tp b o e) hb (LC b o e hx) (I.base.keep b o e n hb hx) (I.base.free b o e n hx)
 ·obtain⟨sl,e1⟩:=I.base.slot b o e n hb hx
  obtain⟨sl',e2⟩:=slot b _ (Tp b o e) hb (LC b o e hx) e1 (I.base.free b o e n hx)
  exact⟨sl',e2⟩
 ·obtain⟨o',e1⟩:=I.base.there b o e hx
  exact free b o' (LC b o e hx) e1 (I.base.free b o e n hx)
 ·obtain⟨o',e1⟩:=I.base.there b o e hx
  exact there b o' (LC b o e hx) e1
 ·obtain⟨m1,e1⟩:=I.base.AH b ps e
  obtain⟨m2,e2⟩:=AH b _ e1
  exact⟨m1 ++ m2,by rw[e2,Array.append_assoc]⟩
 ·obtain⟨m,hn,hl⟩:=I.loc
  refine⟨m,ns m hn,fun i x v e1 e2 e3=>?_⟩
  obtain⟨u,r,l⟩:=hl i x v e1 e2 e3
  refine⟨u,r,?_⟩
  rcases l with l | ⟨k,c,e,z⟩
  ·exact .inl l
  ·exact .inr ⟨k,c,e,cellK x c e _ z⟩
 ·obtain⟨v,z⟩:=I.cell x c e
  exact⟨v,cellK x c e v z⟩
 ·obtain⟨m,⟨o,_,_,ho,_⟩,_⟩:=I.loc
  exact free _ o (fun z=>(DE _ z).2.1 rfl) ho I.free
 ·obtain⟨v,o,ho,hd⟩:=I.cell x c e
  exact free c o (fun z=>(DE c z).2.2.1 x c e rfl) ho (I.zk x c e)
 ·obtain⟨e,n,ne,nf,d⟩:=I.pin p hp
  have HQ:p.1 ∉ ch:=fun z=>(DE p.1 z).2.2.2 p hp rfl
  exact⟨keep p.1 p.2 ne nf HQ e n,free p.1 p.2 HQ e n,ne,nf,d⟩
theorem Inv.un {t':Nat}(I:Inv X pins σ H s)(u:Un X.fs [] H H' s.heap h')(yL:Aq X.prog X.w H' h'):Inv X pins σ H' { s with heap:=h',toks:=t' }:=by
 obtain⟨m,⟨o,es,ep,ho,r⟩,_⟩:=id I.loc
 obtain⟨sl,hL⟩:=u.any ho I.free (by simp)
 exact I.step (g':=s.gens) (d':=s.drawn) (ch:=[]) (fun _ z=>nomatch z) (fun b o _ hb _ e n=>u.keep b o e n hb (by simp)) (fun b o _ hb _ e n=>u.slot b o e n hb (by simp)) (fun b o _ e n=>u.free b o e n (by simp)) (fun b o _ e=>u.there b o e (by simp)) u.AQ u.AG u.AH (fun m' hm=>by
  obtain⟨o',Nz,N0,DV,r'⟩:=hm
  rw[ho]at DV;cases DV
  exact⟨_,Nz,N0,hL,r'⟩) yL I.bare
theorem Inv.call {g':Array GenState}{t':Nat}{d':Drawn}{ch:List Addr}(I:Inv X pins σ H s)(u:Un (kM X.stack) ch H H' s.heap h')(yL:Aq X.prog X.w H' h')(hg:AllBare g')
  (DE:∀ b ∈ ch,(b ∈ X.ex∨X.s₀.heap.objs.size <= b)/\b ≠ X.env.locals/\(∀ x c,X.env.cells.lookup x=some c->c ≠ b)/\∀ p ∈ X.pn ++ pins,p.1 ≠ b) :
  Inv X pins σ H' { s with heap:=h',gens:=g',drawn:=d',toks:=t' }:=by
 obtain⟨m,⟨o,es,ep,ho,r⟩,_⟩:=id I.loc
 obtain⟨sl,hL⟩:=u.any ho I.free fun z=>(DE _ z).2.1 rfl
 exact I.step (ch:=ch) DE (fun b o hL hb hc e n=>u.keep b o e n (fun z=>(mem_cons.mp (I.Am b z)).elim hL hb) hc) (fun b o _ _ hc e n=>u.any e n hc) (fun b o hc e n=>u.free b o e n hc) (fun b o hc e=>u.there b o e hc) u.AQ u.AG u.AH (fun m' hm=>by
  obtain⟨o',Nz,N0,DV,r'⟩:=hm
  rw[ho]at DV;cases DV
  exact⟨_,Nz,N0,hL,r'⟩) yL hg
theorem Inv.turned {t':Nat}{it:Addr}(I:Inv X pins σ H s)(k:∀ b o,b ≠ it->s.heap.get? b=some o->h'.get? b=some o)(hn:H it=none)(hL:it ≠ X.env.locals)
  (h1:it ∈ X.ex∨X.s₀.heap.objs.size <= it) (h2:∀ x c,X.env.cells.lookup x=some c->c ≠ it) (h3:∀ p ∈ X.pn ++ pins,p.1 ≠ it):Inv X pins σ H { s with heap:=h',toks:=t' }:=by
 have Tq:∀ b u,H b=some u->b ≠ it:=fun b u e z=>by rw[z,hn]at e;cases e
 refine I.step (g':=s.gens) (d':=s.drawn) (ch:=[it]) (fun b hb=>?_) (fun b o _ _ hc e _=>k b o (fun z=>hc (by simp[z])) e) (fun b o _ _ hc e _=>⟨o.slots,k b o (fun z=>hc (by simp[z])) e⟩) (fun _ _ _ _ n=>n)
  (fun b o hc e=>⟨o,k b o (fun z=>hc (by simp[z])) e⟩) (fun _ _ e=>e) (fun _ _ _ e=>e) (fun b ps e=>⟨#[],by rw[e];simp⟩) (fun m hm=>?_) (fun b u e=>?_) I.bare
 ·have e:b=it:=by simpa using hb
  subst e
  exact⟨h1,hL,h2,h3⟩
 ·obtain⟨o,es,ep,ho,r⟩:=hm
  exact⟨o,es,ep,k _ o (Ne.symm hL) ho,r⟩
 ·refine(I.yL b u e).zX (fun c v hc q=>k c v ?_ q) (fun _ q=>q) fun _ _ q=>q
  rcases hc with z | z
  ·rw[z];exact Tq b u e
  ·exact Tq c _ z
theorem Inv.tok (I:Inv X pins σ H s)(t:Nat):Inv X pins σ H { s with toks:=t }:=I.un (h':=s.heap) (t':=t) Un.refl I.yL
theorem Inv.kept {t':Nat}(I:Inv X pins σ H s)(k:∀ b u,s.heap.get? b=some u->h'.get? b=some u):Inv X pins σ H { s with heap:=h',toks:=t' }:=I.un (Un.kept k) (I.yL.kept k)
theorem Inv.laid {a:Addr}{o:HO}{t':Nat}(I:Inv X pins σ H s)(k:∀ b u,s.heap.get? b=some u->h'.get? b=some u)(hp:s.heap.objs.size <= a)(new:zd X.prog X.w (upd H a o) h' a o) :
  Inv X pins σ (upd H a o) { s with heap:=h',toks:=t' }:=I.un (Un.laid k hp (I.yL.fresh hp)) (I.yL.laid k hp new)
theorem Inv.write {x e:Addr}{o:HO}{t':Nat}(I:Inv X pins σ H s)(mu:L8 (H x))(he:e=x∨H e=some (.own x))(k:∀ b u,b ≠ e->s.heap.get? b=some u->h'.get? b=some u)(GX:∃ u,h'.get? e=some u)
  (new:zd X.prog X.w (upd H x o) h' x o):Inv X pins σ (upd H x o) { s with heap:=h',toks:=t' }:=I.un (Un.write mu he k GX) (I.yL.write mu he k GX new)
theorem Inv.zi {pins':List (Addr × Obj)}(I:Inv X pins σ H s)(h:∀ p ∈ pins',s.heap.get? p.1=some p.2/\H p.1=none/\p.1 ≠ X.env.locals/\p.1 ∉ X.fs/\∀ v,p.2.data ≠ .cell v):Inv X pins' σ H s :=
 ⟨I.ok,I.os,I.bare,I.base,I.loc,I.cell,I.free,I.zk,fun p hp=>(mem_append.mp hp).elim (fun z=>I.pin p (mem_append_left _ z)) (h p),I.yL,I.len⟩
theorem ck {N:List Str}(hN:N.Nodup){i j:Nat}{x:Str}(a:N[i]? = some x)(b:N[j]? = some x):i=j:=by
 obtain⟨h1,e1⟩:=List.getElem?_eq_some_iff.mp a
 obtain⟨h2,e2⟩:=List.getElem?_eq_some_iff.mp b
 exact(List.getElem_inj hN).mp (e1.trans e2.symm)
theorem js {M:Model}{A:Around}{E:Value->Shared->Prop}{i:Nat}{x:Str}{v:V}{u:Value}{Q:Unit->Shared->Prop}(I:Inv X pins σ H s)(hN:X.N.Nodup)(hi:X.N[i]? = some x)(hx:Loc X.env.scope x)(r:RelV v u)
  (h:∀ s',Inv X pins (σ.set i (some v)) H s'->(∃ a,Heap.SameBut a s.heap s'.heap/\(a=X.env.locals∨X.env.cells.lookup x=some a))->Q () s') (hf:autoParam (X.fn x=true∨X.env.scope.names.lookup x=some .local) ζ):wpAny M A (storeName X.env x u) Q E s:=by
 obtain⟨m,hn,hl⟩:=id I.loc
 have N3:(X.env.scope.kind == .class || (X.env.scope.kind == .module && X.env.locals != X.env.globals))=false:=by rw[I.ok.kind];rfl
 have HR:i < σ.length:=by rw[I.len];exact(gQ0 hi)
 have DD:=I.DD
 have tracked:∀ {a:Addr}{h':Heap},(∃ o,s.heap.get? a=some o/\H a=none)->Heap.SameBut a s.heap h'->Aq X.prog X.w H h':=fun {a h'} ha hs b ob e=>by
  obtain⟨_,_,ED⟩:=ha
  refine(I.yL b ob e).zX (fun c w' hc q=>(hs.2 c ?_).trans q) (fun _ q=>q) fun _ _ q=>q
  rintro rfl
  rcases hc with rfl | hc
  ·rw[ED]at e;cases e
  ·rw[ED]at hc;cases hc
 rcases hx with hk | hk
 ·refine wpAny_storeName_local hk hn (fun h' hn' hs=>?_) N3
  obtain⟨oL,_,_,He,_⟩:=id hn
  refine h _ ⟨I.ok,I.os,I.bare,⟨fun b o e n hb hx=>?_,fun b o e n hb hx=>?_,I.base.free,fun b o e hx=>?_,I.base.AQ,I.base.AG,I.base.AH⟩,⟨_,hn',fun j y v' e1 e2 e3=>?_⟩,fun y c e=>?_,I.free,I.zk,fun p hp=>?_,tracked ⟨oL,He,I.free⟩ hs,by simpa using I.len⟩ ⟨_,hs, .inl rfl⟩
  ·exact(hs.2 b (ne_of_lt (lt_of_lt_of_le (lt_size e) I.ok.above))).trans (I.base.keep b o e n hb hx)
  ·obtain⟨sl,e1⟩:=I.base.slot b o e n hb hx
   exact⟨sl,(hs.2 b (ne_of_lt (lt_of_lt_of_le (lt_size e) I.ok.above))).trans e1⟩
  ·obtain⟨o',e1⟩:=I.base.there b o e hx
   exact⟨o',(hs.2 b (ne_of_lt (lt_of_lt_of_le (lt_size e) I.ok.above))).trans e1⟩
  ·by_cases hj:j=i
   ·subst hj
    rw[hi]at e1;cases e1
    rw[List.getElem?_set_self HR]at e2
    cases e2
    exact⟨u,r, .inl ⟨hk,by simp⟩⟩
   ·rw[getElem?_set_ne (Ne.symm hj)]at e2
    obtain⟨u',r',q⟩:=hl j y v' e1 e2 e3
    refine⟨u',r',?_⟩
    rcases q with ⟨k,e⟩ | ⟨k,c,e,z⟩
    ·refine .inl ⟨k,?_⟩
     have:y ≠ x:=fun e=>hj (ck hN e1 (e ▸ hi))
     simp[this,e]
    ·exact .inr ⟨k,c,e,z.sameBut hs (DD y c e)⟩
  ·obtain⟨w',z⟩:=I.cell y c e
   exact⟨w',z.sameBut hs (DD y c e)⟩
  ·obtain⟨e,n,ne,nf,d⟩:=I.pin p hp
   exact⟨(hs.2 p.1 ne).trans e,n,ne,nf,d⟩
 ·have N4:X.fn x=true:=by
   rcases hf with z | z
   ·exact z
   ·rw[z]at hk;cases hk
  obtain⟨c,hc⟩:=I.ok.has x (.inl hk)
  obtain⟨w',z⟩:=I.cell x c hc
  refine wpAny_storeName_cell I.ok.kind hk hc z (fun h' DF hs=>?_)
  obtain⟨oc,LD,N5⟩:=id z
  refine h { s with heap:=h' } ⟨I.ok,I.os,I.bare,⟨fun b o e n hb hx=>?_,fun b o e n hb hx=>?_,I.base.free,fun b o e hx=>?_,I.base.AQ,I.base.AG,I.base.AH⟩,⟨m,hn.sameBut hs (Ne.symm (DD x c hc)),fun j y v' e1 e2 e3=>?_⟩,fun y c' e=>?_,I.free,I.zk,fun p hp=>?_,tracked ⟨oc,LD,I.zk x c hc⟩ hs,by simpa using I.len⟩ ⟨c,hs, .inr hc⟩
  ·exact(hs.2 b (ne_of_lt (lt_of_lt_of_le (lt_size e) (I.ok.EC x c N4 hc)))).trans (I.base.keep b o e n hb hx)
  ·obtain⟨sl,e1⟩:=I.base.slot b o e n hb hx
   exact⟨sl,(hs.2 b (ne_of_lt (lt_of_lt_of_le (lt_size e) (I.ok.EC x c N4 hc)))).trans e1⟩
  ·obtain⟨o',e1⟩:=I.base.there b o e hx
   exact⟨o',(hs.2 b (ne_of_lt (lt_of_lt_of_le (lt_size e) (I.ok.EC x c N4 hc)))).trans e1⟩
  ·by_cases hj:j=i
   ·subst hj
    rw[hi]at e1;cases e1
    rw[List.getElem?_set_self HR]at e2
    cases e2
    exact⟨u,r, .inr ⟨.inl hk,c,hc,DF⟩⟩
   ·rw[getElem?_set_ne (Ne.symm hj)]at e2
    obtain⟨u',r',q⟩:=hl j y v' e1 e2 e3
    refine⟨u',r',?_⟩
    rcases q with q | ⟨k,c',e,z'⟩
    ·exact .inl q
    ·refine .inr ⟨k,c',e,z'.sameBut hs ?_⟩
     rintro rfl
     exact hj (ck hN e1 (I.ok.inj _ _ _ e hc ▸ hi))
  ·by_cases BK:c' = c
   ·subst BK;exact⟨_,DF⟩
   ·obtain⟨w2,z2⟩:=I.cell y c' e
    exact⟨w2,z2.sameBut hs BK⟩
  ·obtain⟨e,n,ne,nf,d⟩:=I.pin p hp
   refine⟨(hs.2 p.1 ?_).trans e,n,ne,nf,d⟩
   intro q
   rw[q,LD]at e
   have q':oc=p.2:=Option.some.inj e
   exact d w' (by rw[← q'];exact N5)
theorem iH {M:Model}{A:Around}{E:Value->Shared->Prop}{i:Nat}{x:Str}{v:V}{u:Value}{Q:Unit->Shared->Prop}(I:Inv X pins σ H s)(hN:X.N.Nodup)(hi:X.N[i]? = some x)(hx:Loc X.env.scope x)(r:RelV v u)
  (h:∀ s',Inv X pins (σ.set i (some v)) H s'->Q () s') (hf:autoParam (X.fn x=true∨X.env.scope.names.lookup x=some .local) ζ):wpAny M A (storeName X.env x u) Q E s :=
 js I hN hi hx r (fun s' I' _=>h s' I') hf
theorem Inv.HS {s':Shared}{ch:List Addr}(I:Inv X pins σ H s)(ho:s'.os=s.os)(u:Un (kM X.stack) ch H H' s.heap s'.heap)(yL:Aq X.prog X.w H' s'.heap)(hg:AllBare s'.gens)
  (DE:∀ b ∈ ch,(b ∈ X.ex∨X.s₀.heap.objs.size <= b)/\b ≠ X.env.locals/\(∀ x c,X.env.cells.lookup x=some c->c ≠ b)/\∀ p ∈ X.pn ++ pins,p.1 ≠ b):Inv X pins σ H' s':=by
 obtain⟨h',g',d',t',o'⟩:=s'
 have e:o' = s.os:=ho
 subst e
 exact I.call (g':=g') (t':=t') (d':=d') u yL hg DE
end
abbrev XK:=Value->Option Addr->Hp->Prop
abbrev St:=List (Option V)
abbrev VK:=V->Hp->Prop
abbrev TE:=St->Hp->VK->Prop
abbrev TT:=St->Hp->(Bool->Hp->Prop)->Prop
abbrev TA:=St->Hp->(List V->Hp->Prop)->Prop
structure kK where
 nx:St->Hp->Prop
 rt:VK
 bk:St->Hp->Prop:=fun _ _=>False
 ct:St->Hp->Prop:=fun _ _=>False
abbrev TS:=kK->St->Hp->Prop
noncomputable def EP (X:Cx)(pins:List (Addr × Obj))(σ:St)(Q:VK)(u:Value)(s':Shared):Prop:=∃ v H',Inv X pins σ H' s'/\RelV v u/\Q v H'
noncomputable def TP (X:Cx)(pins:List (Addr × Obj))(σ:St)(Q:Bool->Hp->Prop)(b:Bool)(s':Shared):Prop:=∃ H',Inv X pins σ H' s'/\Q b H'
noncomputable def AP (X:Cx)(pins:List (Addr × Obj))(σ:St)(Q:List V->Hp->Prop)(us:List Value)(s':Shared):Prop:=∃ vs H',Inv X pins σ H' s'/\Vals vs us/\Q vs H'
noncomputable def SP (X:Cx)(pins:List (Addr × Obj))(D:kK)(f:Flow)(s':Shared):Prop :=
 match f with
 | .next=>∃ σ' H',Inv X pins σ' H' s'/\D.nx σ' H'
 | .brk=>∃ σ' H',Inv X pins σ' H' s'/\D.bk σ' H'
 | .cont=>∃ σ' H',Inv X pins σ' H' s'/\D.ct σ' H'
 | .ret u=>∃ v σ' H',Inv X pins σ' H' s'/\RelV v u/\D.rt v H'
noncomputable def PE (X:Cx)(e:Expr)(t:TE):Prop :=
 ∀ (pins:List (Addr × Obj))(s:Shared)(σ:St)(H:Hp)(Q:VK),Inv X pins σ H s->t σ H Q->wpAny (model X.prog X.w) X.A (eval e X.env) (EP X pins σ Q) X.xe s
noncomputable def PT (X:Cx)(e:Expr)(t:TT):Prop :=
 ∀ (pins:List (Addr × Obj))(s:Shared)(σ:St)(H:Hp)(Q:Bool->Hp->Prop),Inv X pins σ H s->t σ H Q->wpAny (model X.prog X.w) X.A (isTrue e X.env (eval e X.env)) (TP X pins σ Q) X.xe s
noncomputable def PW (X:Cx)(e:Expr)(t:TT):Prop :=
 ∀ (whole:Sem Value)(pins:List (Addr × Obj))(s:Shared)(σ:St)(H:Hp)(Q:Bool->Hp->Prop),Inv X pins σ H s->t σ H Q->wpAny (model X.prog X.w) X.A (isTrue e X.env whole) (TP X pins σ Q) X.xe s
theorem PW.pt {X:Cx}{e:Expr}{t:TT}(h:PW X e t):PT X e t:=h _
noncomputable def PA (X:Cx)(es:List Expr)(t:TA):Prop :=
 ∀ (pos:Pos)(pins:List (Addr × Obj))(s:Shared)(σ:St)(H:Hp)(Q:List V->Hp->Prop),Inv X pins σ H s->t σ H Q->wpAny (model X.prog X.w) X.A (spliced (backTo pos (starEach es X.env))) (AP X pins σ Q) X.xe s
noncomputable def PS (X:Cx)(st:Stmt)(t:TS):Prop :=
 ∀ (pins:List (Addr × Obj))(s:Shared)(σ:St)(H:Hp)(D:kK),Inv X pins σ H s->t D σ H->wpAny (model X.prog X.w) X.A (exec st X.env) (SP X pins D) X.xe s
noncomputable def AR (X:Cx)(st:List Stmt)(t:TS):Prop :=
 ∀ (pins:List (Addr × Obj))(s:Shared)(σ:St)(H:Hp)(D:kK),Inv X pins σ H s->t D σ H->wpAny (model X.prog X.w) X.A (execs st X.env) (SP X pins D) X.xe s
theorem bv {α:Type}{t:Sem α}{Q Q':α->Shared->Prop}{M:Model}{A:Around}{E:Value->Shared->Prop}{s:Shared}(h:wpAny M A t Q E s)(hQ:∀ a s,Q a s->Q' a s):wpAny M A t Q' E s:=wpAny_mono h hQ fun _ _ x=>x
section
variable {X:Cx}
noncomputable def jC (i:Nat):TE:=fun σ H Q=>∃ v,σ[i]? = some (some v)/\Q v H
noncomputable def tC (v:V):TE:=fun _ H Q=>Q v H
theorem xk {i:Nat}{x:Str}{pos:Pos}(hN:X.N[i]? = some x)(hv:LA X.env.scope x)(hd:autoParam ((x == ("__debug__":Str))=false) θ)(AS:autoParam ((x == ("__classdict__":Str))=false) θ):PE X (.Name x pos) (jC i):=by
 intro pins s σ H Q I h
 obtain⟨v,e,h⟩:=h
 obtain⟨m,hn,hl⟩:=I.loc
 obtain⟨u,r,l⟩:=hl i x v hN e hv
 have fin:EP X pins σ Q u s:=⟨v,H,I,r,h⟩
 rcases l with ⟨hk,hm⟩ | ⟨hk,c,hc,Ba⟩
 ·exact wpAny_Name (wpAny_loadName_local I.ok.kind hk hn hm fin) hd
 ·rcases hk with hk | hk
  ·exact wpAny_Name (wpAny_loadName_cell I.ok.kind hk hc Ba fin) hd
  ·exact wpAny_Name (wpAny_loadName_free I.ok.kind hk hc Ba fin AS) hd
theorem aj {i j pos}:PE X (.Constant (.int i) j pos) (tC (.int i)):=fun _ _ _ H _ I h=>wpAny_Constant_int ⟨.int i,H,I.tok _,⟨_,rfl⟩,h⟩
theorem fq {b j pos}:PE X (.Constant (.bool b) j pos) (tC (.bl b)):=fun _ _ _ H _ I h=>Constant_bool ⟨.bl b,H,I,rfl,h⟩
theorem b8 {j pos}:PE X (.Constant .none j pos) (tC .yQ):=fun _ _ _ H _ I h=>Constant_none ⟨.yQ,H,I,rfl,h⟩
theorem bW {x j pos}:PE X (.Constant (.str x) j pos) (tC (.str x)):=fun _ _ _ H _ I h=>Calls.Constant_str ⟨.str x,H,I.tok _,⟨_,rfl⟩,h⟩
noncomputable def Gl (X:Cx)(x:Str):Prop:=X.env.kindOf x=some .globalImplicit
theorem ki {E:Value->Shared->Prop}{pins:List (Addr × Obj)}{s:Shared}{σ:St}{H:Hp}{x:Str}{u:Value}{pos:Pos}{Q:Value->Shared->Prop}(I:Inv X pins σ H s)(hg:Gl X x)(hm:X.mg x=some u)(h:Q u s)
  (hd:autoParam ((x == ("__debug__":Str))=false) θ):wpAny (model X.prog X.w) X.A (eval (.Name x pos) X.env) Q E s :=
 Calls.Name_function_global I.ok.kind hg (Calls.loadGlobal_global (by rw[I.ok.glob];exact I.mod.glob.keeps I.bk) hm h) hd
theorem fJ {E:Value->Shared->Prop}{pins:List (Addr × Obj)}{s:Shared}{σ:St}{H:Hp}{x:Str}{u:Value}{pos:Pos}{Q:Value->Shared->Prop}(I:Inv X pins σ H s)(hg:Gl X x)(hm:X.mg x=none)(hv:bootBuiltins x=some u)(h:Q u s)
  (hn:autoParam (x ≠ "__name__") θ) (hd:autoParam ((x == ("__debug__":Str))=false) θ):wpAny (model X.prog X.w) X.A (eval (.Name x pos) X.env) Q E s:=by
 obtain⟨mb,h1,h2⟩:=I.mod.blt
 exact Calls.Name_function_global I.ok.kind hg (Calls.loadGlobal_builtin (by rw[I.ok.glob];exact I.mod.glob.keeps I.bk) hm (by rw[I.ok.blt];exact h1.keeps I.bk) ((h2 x hn).trans hv) h) hd
theorem eP {x:Str}{v:V}{u:Value}{pos:Pos}(hg:Gl X x)(hm:X.mg x=some u)(r:RelV v u)(hd:autoParam ((x == ("__debug__":Str))=false) θ):PE X (.Name x pos) (tC v) :=
 fun _ _ _ H _ I h=>ki I hg hm ⟨v,H,I,r,h⟩ hd
theorem eQ {x:Str}{v:V}{u:Value}{pos:Pos}(hg:Gl X x)(hm:X.mg x=none)(hv:bootBuiltins x=some u)(r:RelV v u)(hn:autoParam (x ≠ "__name__") θ)(hd:autoParam ((x == ("__debug__":Str))=false) θ):PE X (.Name x pos) (tC v) :=
 fun _ _ _ H _ I h=>fJ I hg hm hv ⟨v,H,I,r,h⟩ hn hd
variable {a b:Expr}{ta tb:TE}{pos:Pos}
noncomputable def PC (X:Cx)(op:CmpOp)(a b:Expr)(t:TE):Prop :=
 ∀ (pins:List (Addr × Obj))(s:Shared)(σ:St)(H:Hp)(Q:VK),Inv X pins σ H s->t σ H Q ->
  wpAny (model X.prog X.w) X.A (eval a X.env) (fun v s₁=>wpAny (model X.prog X.w) X.A (eval b X.env) (fun u s₂=>wpAny (model X.prog X.w) X.A (compareOp op v u) (EP X pins σ Q) X.xe s₂) X.xe s₁) X.xe s
noncomputable def tB (t:TE):TT:=fun σ H Q=>t σ H fun x H1=>∃ c,x = .bl c/\Q c H1
theorem xh {op:CmpOp}{t:TE}(h:PC X op a b t)(h1:behindInMarks op b=false:=by first | exact HU _ (by decide) (by decide) | rfl):PT X (.Compare a [op] [b] pos) (tB t):=by
 intro pins s σ H Q I hw
 refine wpAny_isTrue_Compare1 (bv (h pins s σ H _ I hw) fun v s1 h1=>bv h1 fun u s2 h2=>bv h2 fun c s3 yD=>?_) h1
 obtain⟨x,H1,I1,r1,q1⟩:=yD
 obtain⟨d,rfl,q⟩:=q1
 cases r1
 exact wpAny_truthy_bool ⟨H1,I1,q⟩
theorem bA {e:Expr}{t:TE}(h:PE X e t)(he:autoParam (∀ whole,isTrue e X.env whole=(do let v ← whole;standAt e.pos;holding [v] (truthy v))) ψ):PT X e (tB t):=by
 intro pins s σ H Q I hw
 refine isTrue_plain (bv (h pins s σ H _ I hw) fun v s1 yD=>?_) (he _)
 obtain⟨x,H1,I1,r1,q1⟩:=yD
 obtain⟨d,rfl,q⟩:=q1
 cases r1
 exact wpAny_truthy_bool ⟨H1,I1,q⟩
variable {tA LF:TT}{rest:List Expr}
noncomputable def N6 (t u:TT):TT:=fun σ H Q=>t σ H fun c H1=>if c=true then u σ H1 Q else Q false H1
noncomputable def tOr (t u:TT):TT:=fun σ H Q=>t σ H fun c H1=>if c=true then Q true H1 else u σ H1 Q
noncomputable def N7 (t:TT):TT:=fun σ H Q=>t σ H fun c H1=>Q (!c) H1
theorem i7 (ha:PT X a tA):PW X (.BoolOp .And [a] pos) tA:=by
 intro wh pins s σ H Q I h
 refine isTrue_and (bv (ha pins s σ H Q I h) fun c s1 e=>?_)
 cases c with
 | true=>exact isTrue_and_nil e
 | false=>exact e
theorem cG (ha:PT X a tA):PW X (.BoolOp .Or [a] pos) tA:=by
 intro wh pins s σ H Q I h
 refine isTrue_or (bv (ha pins s σ H Q I h) fun c s1 e=>?_)
 cases c with
 | false=>exact isTrue_or_nil e
 | true=>exact e
theorem jR (ha:PT X a tA)(hb:PW X (.BoolOp .And (b :: rest) pos) LF):PW X (.BoolOp .And (a :: b :: rest) pos) (N6 tA LF):=by
 intro wh pins s σ H Q I h
 refine isTrue_and (bv (ha pins s σ H _ I h) fun c s1 yD=>?_)
 obtain⟨H1,I1,q1⟩:=yD
 cases c with
 | true=>exact hb wh pins s1 σ H1 Q I1 q1
 | false=>exact⟨H1,I1,q1⟩
theorem eu (ha:PT X a tA)(hb:PW X (.BoolOp .Or (b :: rest) pos) LF):PW X (.BoolOp .Or (a :: b :: rest) pos) (tOr tA LF):=by
 intro wh pins s σ H Q I h
 refine isTrue_or (bv (ha pins s σ H _ I h) fun c s1 yD=>?_)
 obtain⟨H1,I1,q1⟩:=yD
 cases c with
 | true=>exact⟨H1,I1,q1⟩
 | false=>exact hb wh pins s1 σ H1 Q I1 q1
theorem bF (ha:PT X a tA):PT X (.UnaryOp .Not a pos) (N7 tA):=by
 intro pins s σ H Q I h
 exact isTrue_not (ha pins s σ H (fun c H1=>Q (!c) H1) I h)
noncomputable def HV (ta tb:TE):TE:=fun σ H Q=>ta σ H fun x H1=>∃ c,x = .bl c/\if c=true then tb σ H1 Q else Q (.bl false) H1
noncomputable def N8 (ta tb:TE):TE:=fun σ H Q=>ta σ H fun x H1=>∃ c,x = .bl c/\if c=true then Q (.bl true) H1 else tb σ H1 Q
noncomputable def HW (ta:TE):TE:=fun σ H Q=>ta σ H fun x H1=>∃ c,x = .bl c/\Q (.bl (!c)) H1
theorem cS {op} {t:TE} (h:PE X a t):PE X (.BoolOp op [a] pos) t:=fun pins s σ H Q I hw=>BoolOp_one (h pins s σ H Q I hw)
theorem cT (ha:PE X a ta)(hb:PE X (.BoolOp .And (b :: rest) pos) tb):PE X (.BoolOp .And (a :: b :: rest) pos) (HV ta tb):=by
 intro pins s σ H Q I h
 refine BoolOp_and (bv (ha pins s σ H _ I h) fun v s1 yD=>?_)
 obtain⟨x,H1,I1,r1,q1⟩:=yD
 obtain⟨c,rfl,q1⟩:=q1
 cases r1
 refine wpAny_truthy_bool ?_
 cases c with
 | true=>exact hb pins s1 σ H1 Q I1 q1
 | false=>exact⟨.bl false,H1,I1,rfl,q1⟩
theorem HX (ha:PE X a ta)(hb:PE X (.BoolOp .Or (b :: rest) pos) tb):PE X (.BoolOp .Or (a :: b :: rest) pos) (N8 ta tb):=by
 intro pins s σ H Q I h
 refine BoolOp_or (bv (ha pins s σ H _ I h) fun v s1 yD=>?_)
 obtain⟨x,H1,I1,r1,q1⟩:=yD
 obtain⟨c,rfl,q1⟩:=q1
 cases r1
 refine wpAny_truthy_bool ?_
 cases c with
 | false=>exact hb pins s1 σ H1 Q I1 q1
 | true=>exact⟨.bl true,H1,I1,rfl,q1⟩
theorem rT (ha:PE X a ta):PE X (.UnaryOp .Not a pos) (HW ta):=by
 intro pins s σ H Q I h
 refine UnaryOp_ (bv (ha pins s σ H _ I h) fun v s1 yD=>?_)
 obtain⟨x,H1,I1,r1,q1⟩:=yD
 obtain⟨c,rfl,q1⟩:=q1
 cases r1
 exact not_of (wpAny_truthy_bool ⟨.bl (!c),H1,I1,rfl,q1⟩)
noncomputable def tIf (t:TT)(ta tb:TE):TE:=fun σ H Q=>t σ H fun c H1=>if c=true then ta σ H1 Q else tb σ H1 Q
theorem cK {c:Expr}(hc:PT X c tA)(ha:PE X a ta)(hb:PE X b tb):PE X (.IfExp c a b pos) (tIf tA ta tb):=by
 intro pins s σ H Q I h
 refine wpAny_IfExp (bv (hc pins s σ H _ I h) fun d s1 yD=>?_)
 obtain⟨H1,I1,q1⟩:=yD
 cases d with
 | true=>exact ha pins s1 σ H1 Q I1 q1
 | false=>exact hb pins s1 σ H1 Q I1 q1
end
noncomputable def yC (K:Frag)(H:Hp)(a:Addr)(xs:List V):Prop :=
 Rd H a (.lst xs) ∨
  ∃ (o:Obj)(yF:Array Value)(n:Nat),K.lookup a=some o/\o.cls = .type "list"/\o.dict=none/\o.data = .seq yF n/\yF.size <= sizeLine/\Vals xs yF.toList
noncomputable def yN (K:Frag)(H:Hp)(a:Addr)(xs:List V):Prop :=
 Rd H a (.tup xs) ∨
  ∃ (o:Obj)(yF:Array Value)(n:Nat),K.lookup a=some o/\o.cls = .type "tuple"/\o.data = .seq yF n/\yF.size <= sizeLine/\Vals xs yF.toList
noncomputable def N9:Value->Option V
 | .none=>some .yQ
 | .bool b=>some (.bl b)
 | .int i _=>some (.int i)
 | .str x _=>some (.str x)
 | .bytes b _=>some (.Ce b)
 | .float b _=>some (.Fu b)
 | .ref a=>some (.ref a)
 | .type n=>some (.ty n)
 | _=>none
theorem RelV.abs {x:V}{u:Value}(r:RelV x u):N9 u=some x:=by
 cases x with
 | yQ=>cases r;rfl
 | bl _=>cases r;rfl
 | int _=>obtain⟨t,rfl⟩:=r;rfl
 | str _=>obtain⟨t,rfl⟩:=r;rfl
 | Ce _=>obtain⟨t,rfl⟩:=r;rfl
 | Fu _=>obtain⟨t,rfl⟩:=r;rfl
 | ref _=>cases r;rfl
 | ty _=>cases r;rfl
theorem RelV.inj {x y:V}{u:Value}(r:RelV x u)(q:RelV y u):x=y:=Option.some.inj (r.abs.symm.trans q.abs)
theorem Vals.inj:∀ {xs ys:List V}{us:List Value},Vals xs us->Vals ys us->xs=ys
 | _,_,_, .nil, .nil=>rfl
 | _,_,_, .cons r t, .cons r' t'=>by rw[r.inj r',Vals.inj t t']
section
variable {X:Cx}{pins:List (Addr × Obj)}{σ:St}{H:Hp}{s:Shared}{a:Addr}{xs ys:List V}
theorem yC.of {K:Frag}(h:H a=some (.lst xs)):yC K H a xs := .inl (.inl h)
theorem yN.of {K:Frag}(h:H a=some (.tup xs)):yN K H a xs := .inl (.inl h)
theorem Inv.list (I:Inv X pins σ H s)(h:yC X.K H a xs):∃ yF:List Value,Vals xs yF/\PlainL s.heap a yF.toArray/\xs.length <= sizeLine:=by
 rcases h with h | ⟨o,yF,n,hk,hc,hd,hs,hz,r⟩
 ·obtain⟨z,yF,n,r,e⟩:=h.ok I.yL
  exact⟨yF,r,⟨_,n,e,rfl,rfl,rfl⟩,z⟩
 ·refine⟨yF.toList,r,⟨o,n,I.Ac a o hk,hc,hd,by simpa using hs⟩,?_⟩
  have e:=r.length
  simp only[Array.length_toList]at e
  omega
theorem Inv.tuple (I:Inv X pins σ H s)(h:yN X.K H a xs):∃ yF:List Value,Vals xs yF/\IsTup s.heap a yF.toArray/\xs.length <= sizeLine:=by
 rcases h with h | ⟨o,yF,n,hk,hc,hs,hz,r⟩
 ·obtain⟨z,yF,r,p⟩:=h.ok I.yL
  exact⟨yF,r,p.isTup,z⟩
 ·refine⟨yF.toList,r,⟨o,I.Ac a o hk,hc,n,by simpa using hs⟩,?_⟩
  have e:=r.length
  simp only[Array.length_toList]at e
  omega
theorem Inv.Bv (I:Inv X pins σ H s)(h:yC X.K H a xs)(h':yC X.K H a ys):xs=ys:=by
 obtain⟨yF,r,⟨o,n,e,_,_,d⟩,_⟩:=I.list h
 obtain⟨its',r',⟨o',n',e',_,_,d'⟩,_⟩:=I.list h'
 rw[e]at e';cases e'
 rw[d]at d'
 injection d' with d1 _
 have:yF=its':=by simpa using congrArg Array.toList d1
 subst this
 exact r.inj r'
theorem Inv.Bb (I:Inv X pins σ H s)(h:yN X.K H a xs)(h':yN X.K H a ys):xs=ys:=by
 obtain⟨yF,r,⟨o,e,_,n,d⟩,_⟩:=I.tuple h
 obtain⟨its',r',⟨o',e',_,n',d'⟩,_⟩:=I.tuple h'
 rw[e]at e';cases e'
 rw[d]at d'
 injection d' with d1 _
 have:yF=its':=by simpa using congrArg Array.toList d1
 subst this
 exact r.inj r'
end
abbrev Cx.AU (X:Cx)(E:Value->Shared->Prop):Cx:={ X with xe:=E }
abbrev Cx.EE (X:Cx):Cx:=X.AU fun _ _=>False
theorem Cx.Ok.AU {X:Cx}(ok:X.Ok)(E:Value->Shared->Prop):(X.AU E).Ok :=
 ⟨ok.mod,ok.kind,ok.glob,ok.blt,ok.above,ok.inj,ok.has,ok.EC,ok.hd,ok.frames,ok.GZ,ok.LB,ok.bs,ok.Cy,ok.BJ,ok.Cz,ok.zO,ok.CT⟩
theorem Cx.Ok.zP {X:Cx}{E:Value->Shared->Prop}(ok:(X.AU E).Ok):X.Ok :=
 ⟨ok.mod,ok.kind,ok.glob,ok.blt,ok.above,ok.inj,ok.has,ok.EC,ok.hd,ok.frames,ok.GZ,ok.LB,ok.bs,ok.Cy,ok.BJ,ok.Cz,ok.zO,ok.CT⟩
section
variable {X:Cx}{pins:List (Addr × Obj)}{σ:St}{H:Hp}{s:Shared}{E:Value->Shared->Prop}
theorem Inv.AU (I:Inv X pins σ H s)(E:Value->Shared->Prop):Inv (X.AU E) pins σ H s:=⟨I.ok.AU E,I.os,I.bare,I.base,I.loc,I.cell,I.free,I.zk,I.pin,I.yL,I.len⟩
theorem Inv.zP (I:Inv (X.AU E) pins σ H s):Inv X pins σ H s:=⟨I.ok.zP,I.os,I.bare,I.base,I.loc,I.cell,I.free,I.zk,I.pin,I.yL,I.len⟩
theorem SP.zP {D:kK}{f:Flow}{s':Shared}(h:SP (X.AU E) pins D f s'):SP X pins D f s':=by
 cases f with
 | next=>obtain⟨σ',H',I,q⟩:=h;exact⟨σ',H',I.zP,q⟩
 | brk=>obtain⟨σ',H',I,q⟩:=h;exact⟨σ',H',I.zP,q⟩
 | cont=>obtain⟨σ',H',I,q⟩:=h;exact⟨σ',H',I.zP,q⟩
 | ret u=>obtain⟨v,σ',H',I,r,q⟩:=h;exact⟨v,σ',H',I.zP,r,q⟩
theorem AR.EE {st:List Stmt}{t:TS}(h:AR X.EE st t):AR X st t:=fun pins s σ H D I hw =>
 wpAny_mono (h pins s σ H D (I.AU _) hw) (fun _ _ q=>q.zP) fun _ _ z=>False.elim z
end
section
variable {X:Cx}{st:Stmt}{rest:List Stmt}{t u:TS}{e:Expr}{te:TE}{pos:Pos}
noncomputable def HY:TS:=fun D σ H=>D.nx σ H
noncomputable def w6 (t u:TS):TS:=fun D σ H=>t { D with nx:=u D } σ H
theorem aB:AR X [] HY:=fun _ _ σ H _ I h=>wpAny_execs_nil ⟨σ,H,I,h⟩
theorem ae (h1:PS X st t)(h2:AR X rest u):AR X (st :: rest) (w6 t u):=by
 intro pins s σ H D I h
 refine wpAny_execs_cons (bv (h1 pins s σ H { D with nx:=u D } I h) fun f s1 q=>?_)
 cases f with
 | next =>
  obtain⟨σ',H',I',q⟩:=q
  exact h2 pins s1 σ' H' D I' q
 | ret v=>exact q
 | brk=>exact q
 | cont=>exact q
theorem ag (h1:PS X st t):AR X [st] t:=by
 intro pins s σ H D I h
 refine wpAny_execs_cons (bv (h1 pins s σ H D I h) fun f s1 q=>?_)
 cases f with
 | next=>exact wpAny_execs_nil q
 | ret v=>exact q
 | brk=>exact q
 | cont=>exact q
theorem Inv.quiet {pins:List (Addr × Obj)}{σ:St}{H:Hp}{s:Shared}(I:Inv X pins σ H s):interactive X.env=false:=by simp[interactive,I.ok.kind]
noncomputable def HZ (te:TE):TS:=fun D σ H=>te σ H fun _ H1=>D.nx σ H1
theorem aO (he:PE X e te)(hs:autoParam (swapsWith e none pos.line X.env=pure false) η):PS X (.Expr e pos) (HZ te):=by
 intro pins s σ H D I h
 exact wpAny_Expr_any (bv (he pins s σ H _ I h) fun v s1 yD=>by obtain⟨x,H1,I1,r1,q1⟩:=yD;exact⟨σ,H1,I1,q1⟩) I.quiet hs
noncomputable def NG (te:TE):TS:=fun D σ H=>te σ H D.rt
theorem ar (he:PE X e te):PS X (.Return (some e) pos) (NG te):=by
 intro pins s σ H D I h
 exact wpAny_Return_some (bv (he pins s σ H _ I h) fun v s1 yD=>by obtain⟨x,H1,I1,r1,q1⟩:=yD;exact⟨x,σ,H1,I1,r1,q1⟩)
noncomputable def NH (c:TT)(t u:TS):TS:=fun D σ H=>c σ H fun b H1=>if b=true then t D σ H1 else u D σ H1
theorem aL {c:Expr}{a b:List Stmt}{tc:TT}(hc:PT X c tc)(ha:AR X a t)(hb:AR X b u):PS X (.If c a b pos) (NH tc t u):=by
 intro pins s σ H D I h
 refine wpAny_If (bv (hc pins s σ H _ I h) fun d s1 yD=>?_)
 obtain⟨H1,I1,q1⟩:=yD
 cases d with
 | true=>exact ha pins s1 σ H1 D I1 q1
 | false=>exact hb pins s1 σ H1 D I1 q1
noncomputable def wC:TS:=fun _ _ _=>False
theorem bJ:PS X st wC:=fun _ _ _ _ _ _ h=>h.elim
end
abbrev TG:=V->St->Hp->(St->Hp->Prop)->Prop
abbrev yy:=List V->St->Hp->(St->Hp->Prop)->Prop
noncomputable def PG (X:Cx)(target:Expr)(t:TG):Prop :=
 ∀ (pins:List (Addr × Obj))(s:Shared)(σ:St)(H:Hp)(v:V)(u:Value)(Q:St->Hp->Prop),Inv X pins σ H s->RelV v u->t v σ H Q ->
  wpAny (model X.prog X.w) X.A (assign target X.env u) (fun _ s'=>∃ σ' H',Inv X pins σ' H' s'/\Q σ' H') X.xe s
noncomputable def LG (X:Cx)(ts:List Expr)(t:yy):Prop :=
 ∀ (pins:List (Addr × Obj))(s:Shared)(σ:St)(H:Hp)(vs:List V)(us:List Value)(Q:St->Hp->Prop),Inv X pins σ H s->Vals vs us->t vs σ H Q ->
  wpAny (model X.prog X.w) X.A (assignInOrder ((assignEach ts X.env).map (·.2)) us) (fun _ s'=>∃ σ' H',Inv X pins σ' H' s'/\Q σ' H') X.xe s
abbrev yw:=V->V->V->Hp->(Hp->Prop)->Prop
noncomputable def Ia (X:Cx)(t:yw):Prop :=
 ∀ (pins:List (Addr × Obj))(s:Shared)(σ:St)(H:Hp)(o i v:V)(ov iv u:Value)(Q:Hp->Prop),Inv X pins σ H s->RelV o ov->RelV i iv->RelV v u->t o i v H Q ->
  wpAny (model X.prog X.w) X.A (setItem ov iv u) (fun _ s'=>∃ H',Inv X pins σ H' s'/\Q H') X.xe s
abbrev LH:=V->V->Hp->VK->Prop
noncomputable def Tr (X:Cx)(op:Operator)(t:LH):Prop :=
 ∀ (pins:List (Addr × Obj))(s:Shared)(σ:St)(H:Hp)(x y:V)(v u:Value)(Q:VK),Inv X pins σ H s->RelV x v->RelV y u->t x y H Q ->
  wpAny (model X.prog X.w) X.A (inplaceOp op v u) (EP X pins σ Q) X.xe s
section
variable {X:Cx}{pos:Pos}
noncomputable def dv (i:Nat):TG:=fun v σ H Q=>Q (σ.set i (some v)) H
theorem av {i:Nat}{x:Str}(hN:X.N.Nodup)(hi:X.N[i]? = some x)(hx:Loc X.env.scope x)(hf:autoParam (X.fn x=true∨X.env.scope.names.lookup x=some .local) ζ):PG X (.Name x pos) (dv i):=by
 intro pins s σ H v u Q I r h
 exact wpAny_assign_Name (iH I hN hi hx r (fun s' I'=>⟨_,H,I',h⟩) hf)
noncomputable def NJ:yy:=fun vs σ H Q=>vs=[]/\Q σ H
noncomputable def Ib (t:TG)(u:yy):yy:=fun vs σ H Q=>∃ v r,vs=v :: r/\t v σ H fun σ' H'=>u r σ' H' Q
theorem cQ:LG X [] NJ:=by
 intro pins s σ H vs us Q I r h
 obtain⟨e,h⟩:=h
 subst e
 cases r
 exact assignInOrder_nil ⟨σ,H,I,h⟩
theorem aW {e:Expr}{es:List Expr}{t:TG}{u:yy}(h1:PG X e t)(h2:LG X es u)
  (hs:autoParam ((assignEach (e :: es) X.env).map (·.2)=assign e X.env :: (assignEach es X.env).map (·.2)) η):LG X (e :: es) (Ib t u):=by
 intro pins s σ H vs us Q I r h
 obtain⟨v,vr,e1,h⟩:=h
 subst e1
 cases r with
 | cons r rr =>
  rw[hs]
  refine assignInOrder_cons (bv (h1 pins s σ H _ _ _ I r h) fun _ s1 yD=>?_)
  obtain⟨σ1,H1,I1,q1⟩:=yD
  exact h2 pins s1 σ1 H1 _ _ Q I1 rr q1
noncomputable def v5 (K:Frag)(n:Nat)(t:yy):TG:=fun v σ H Q=>∃ a xs,v = .ref a/\yN K H a xs/\xs.length=n/\t xs σ H Q
theorem e9 {es:List Expr}{k:Nat}{t:yy}{n:Nat}(hc:X.calm=true)(h:LG X es t)
  (hn:autoParam ((assignEach es X.env).length=n) η) (Bc:autoParam ((assignEach es X.env).findIdx? (·.1)=none) η):PG X (.Tuple es k pos) (v5 X.K n t):=by
 intro pins s σ H v u Q I r hw
 obtain⟨a,xs,e1,hq,hl,hw⟩:=hw
 subst e1
 cases r
 obtain⟨yF,rv,ht,hz⟩:=I.tuple hq
 refine assign_Tuple_tuple (I.ok.hd hc) ht (by simp[hn,← hl,rv.length]) Bc fun h' hx=>?_
 have I1:Inv X pins σ H { s with heap:=h' }:=I.kept (t':=s.toks) fun b o e=>hx b o (ne_of_lt (lt_size e)) e
 exact h pins _ σ H xs _ Q I1 (by simpa using rv) hw
noncomputable def NK (to ti:TE)(t:yw):TG:=fun v σ H Q=>to σ H fun o H1=>ti σ H1 fun i H2=>t o i v H2 fun H3=>Q σ H3
theorem iS {o i:Expr}{to ti:TE}{t:yw}(ho:PE X o to)(hi:PE X i ti)(hs:Ia X t)
  (ha:∀ v,assign (.Subscript o i pos) X.env v=(do
   let ov ← holding [v] (eval o X.env)
   let iv ← holding [v,ov] (eval i X.env)
   standAt pos
   holding [v,ov,iv] (setItem ov iv v)
   release [v,ov,iv] []):=by intro _;rfl):PG X (.Subscript o i pos) (NK to ti t):=by
 intro pins s σ H v u Q I r h
 rw[ha]
 refine wpAny_bind (wpAny_holding (bv (ho pins s σ H _ I h) fun ov s1 yD=>?_))
 obtain⟨x,H1,I1,r1,q1⟩:=yD
 refine wpAny_bind (wpAny_holding (bv (hi pins s1 σ H1 _ I1 q1) fun iv s2 yD=>?_))
 obtain⟨y,H2,I2,r2,q2⟩:=yD
 refine wpAny_bind (wpAny_standAt (wpAny_bind (wpAny_holding (bv (hs pins s2 σ H2 x y v ov iv u _ I2 r1 r2 r q2) fun _ s3 yD=>?_))))
 obtain⟨H3,I3,q3⟩:=yD
 exact wpAny_release ⟨σ,H3,I3,q3⟩
noncomputable def wF (te:TE)(g:TG):TS:=fun D σ H=>te σ H fun x H1=>g x σ H1 D.nx
theorem fI {tg e:Expr}{te:TE}{g:TG}(he:PE X e te)(hg:PG X tg g)(hs:autoParam (swapsWithSole [tg] e pos.line X.env=pure false) η)(hw:autoParam (swappedStores [tg] e X.env=pure none) η)
  (h1:autoParam ((assignEach [tg] X.env).map (·.2)=[assign tg X.env]) η):PS X (.Assign [tg] e pos) (wF te g):=by
 intro pins s σ H D I h
 refine wpAny_Assign_stores (bv (he pins s σ H _ I h) fun v s1 yD=>?_) hs hw
 obtain⟨x,H1,I1,r1,q1⟩:=yD
 rw[h1]
 exact bv (hg pins s1 σ H1 x v _ I1 r1 q1) fun _ s2 q=>q
theorem aE {i:Nat}{x:Str}{e:Expr}{te:TE}{pos':Pos}(hN:X.N.Nodup)(hi:X.N[i]? = some x)(hx:Loc X.env.scope x)(he:PE X e te)(hs:autoParam (swapsWith e (some (.Name x pos')) pos.line X.env=pure false) η)(hf:autoParam (X.fn x=true∨X.env.scope.names.lookup x=some .local) ζ) :
  PS X (.Assign [.Name x pos'] e pos) (wF te (dv i)):=by
 intro pins s σ H D I h
 refine wpAny_Assign_Name (bv (he pins s σ H _ I h) fun v s1 yD=>?_) hs
 obtain⟨y,H1,I1,r1,q1⟩:=yD
 exact iH I1 hN hi hx r1 (fun s2 I2=>⟨_,H1,I2,q1⟩) hf
noncomputable def NM (i:Nat)(te:TE)(ti:LH):TS:=fun D σ H=>∃ x,σ[i]? = some (some x)/\te σ H fun y H1=>ti x y H1 fun z H2=>D.nx (σ.set i (some z)) H2
theorem xi {i:Nat}{x:Str}{e:Expr}{te:TE}{op:Operator}{ti:LH}{pos':Pos}(hN:X.N.Nodup)(hi:X.N[i]? = some x)(hx:Loc X.env.scope x)(he:PE X e te)(ho:Tr X op ti)(hf:autoParam (X.fn x=true∨X.env.scope.names.lookup x=some .local) ζ) :
  PS X (.AugAssign (.Name x pos') op e pos) (NM i te ti):=by
 intro pins s σ H D I h
 obtain⟨v,e1,h⟩:=h
 obtain⟨m,hn,hl⟩:=I.loc
 have vis:LA X.env.scope x:=by rcases hx with k | k;exact .inl k;exact .inr (.inl k)
 obtain⟨u,r,l⟩:=hl i x v hi e1 vis
 refine wpAny_AugAssign_Name ?_
 have go:wpAny (model X.prog X.w) X.A (eval e X.env) (fun w s₂=>wpAny (model X.prog X.w) X.A (inplaceOp op u w) (fun r s₃=>wpAny (model X.prog X.w) X.A (storeName X.env x r) (fun _=>SP X pins D .next) X.xe s₃) X.xe s₂) X.xe s:=by
  refine bv (he pins s σ H _ I h) fun w s1 yD=>?_
  obtain⟨y,H1,I1,r1,q1⟩:=yD
  refine bv (ho pins s1 σ H1 v y u w _ I1 r r1 q1) fun z s2 yD=>?_
  obtain⟨zv,H2,I2,r2,q2⟩:=yD
  exact iH I2 hN hi hx r2 (fun s3 I3=>⟨_,H2,I3,q2⟩) hf
 rcases l with ⟨hk,hm⟩ | ⟨hk,c,hc,Ba⟩
 ·exact wpAny_loadName_local I.ok.kind hk hn hm go
 ·rcases hk with hk | hk
  ·exact wpAny_loadName_cell I.ok.kind hk hc Ba go
  ·rcases hx with k | k
   ·have:X.env.scope.names.lookup x=some .free:=hk
    rw[k]at this;cases this
   ·have:X.env.scope.names.lookup x=some .free:=hk
    rw[k]at this;cases this
noncomputable def ipI (f:Int->Int->Int):LH:=fun x y H Q=>∃ i j,x = .int i/\y = .int j/\Q (.int (f i j)) H
theorem xZ:Tr X .Add (ipI fun i j=>i + j):=by
 intro pins s σ H x y v u Q I r1 r2 h
 obtain⟨i,j,e1,e2,q⟩:=h
 subst e1;subst e2
 obtain⟨t,rfl⟩:=r1
 obtain⟨t',rfl⟩:=r2
 exact iadd_int ⟨.int _,H,I.tok _,⟨_,rfl⟩,q⟩
end
section
variable {X:Cx}{pos:Pos}
noncomputable def qF (c:TT)(tb:TS):TS:=fun D σ H=>∃ W:Nat->St->Hp->Prop,(∃ m,W m σ H)/\∀ m σ H,W m σ H ->
 c σ H fun b H1=>if b=true then ∃ N:St->Hp->Prop,(∀ σ' H',N σ' H'->∃ m',m' < m/\W m' σ' H')/\tb { D with nx:=N,ct:=N,bk:=D.nx } σ H1 else D.nx σ H1
theorem ly {c:Expr}{body:List Stmt}{tc:TT}{tb:TS}(hp:PassesOwn (model X.prog X.w) X.A X.env X.xe)(hc:PT X c tc)(hb:AR X body tb):PS X (.While c body [] pos) (qF tc tb):=by
 intro pins s σ H D I h
 obtain⟨W,⟨m0,w0⟩,turn⟩:=h
 refine wpAny_While (codeAny_whileLoop (fun n s'=>∃ σ' H',Inv X pins σ' H' s'/\W n σ' H') ?_ m0 ⟨σ,H,I,w0⟩)
 rintro n s1 ⟨σ1,H1,I1,w1⟩
 refine wpAny_passesOwn hp (bv (hc pins s1 σ1 H1 _ I1 (turn n σ1 H1 w1)) fun b s2 yD=>?_)
 obtain⟨H2,I2,q2⟩:=yD
 cases b with
 | true =>
  obtain⟨N,hN,q2⟩:=q2
  rw[if_pos rfl]
  refine wpAny_passesOwn hp (bv (hb pins s2 σ1 H2 _ I2 q2) fun f s3 q3=>?_)
  cases f with
  | next =>
   obtain⟨σ3,H3,I3,n3⟩:=q3
   obtain⟨m',hm,w3⟩:=hN σ3 H3 n3
   exact⟨m',hm,σ3,H3,I3,w3⟩
  | cont =>
   obtain⟨σ3,H3,I3,n3⟩:=q3
   obtain⟨m',hm,w3⟩:=hN σ3 H3 n3
   exact⟨m',hm,σ3,H3,I3,w3⟩
  | brk=>exact q3
  | ret v=>exact q3
 | false =>
  rw[if_neg Bool.false_ne_true]
  exact wpAny_execs_nil ⟨σ1,H2,I2,q2⟩
end
structure It where
 go:Nat->Hp->Prop
 DW:Nat->Hp->V->Hp->Prop
 stop:Nat->Hp->Prop
noncomputable def eZ (X:Cx)(pins:List (Addr × Obj))(H:Hp)(b:Addr):Prop :=
 H b=none/\b ≠ X.env.locals/\b ∉ X.fs/\(b ∈ X.ex∨X.s₀.heap.objs.size <= b)/\(∀ x c,X.env.cells.lookup x=some c->c ≠ b)/\∀ p ∈ X.pn ++ pins,p.1 ≠ b
theorem Inv.CU {X:Cx}{pins:List (Addr × Obj)}{σ:St}{H H':Hp}{s:Shared}{b:Addr}(I:Inv X pins σ H s)(hb:s.heap.objs.size <= b)(hn:H' b=none):eZ X pins H' b:=by
 refine⟨hn,ne_of_gt (lt_of_lt_of_le I.lt hb),I.DU hb, .inr (le_trans I.sz hb),fun x c e z=>?_,fun p hp z=>?_⟩
 ·obtain⟨v,q⟩:=I.cell x c e
  exact absurd (lt_of_lt_of_le q.lt (by rw[z];exact hb)) (lt_irrefl _)
 ·exact absurd (lt_of_lt_of_le (lt_size (I.pin p hp).1) (by rw[z];exact hb)) (lt_irrefl _)
structure oq (P:Program)(w:World)(K:Frag)(tg:Expr)(J:It)(fp:List Addr)(it:Addr)(tn:Nat->Heap->Prop):Prop where
 mem:it ∈ fp
 obj:∀ i h,tn i h->∀ b ∈ fp,∃ o,h.get? b=some o/\∀ v,o.data ≠ .cell v
 keep:∀ i h h',tn i h->(∀ b ∈ fp,∀ o,h.get? b=some o->h'.get? b=some o)->tn i h'
 item:∀ (X:Cx),X.prog=P->X.w=w->X.K=K->X.calm=true->∀ (i:Nat)(pins:List (Addr × Obj))(s:Shared)(σ:St)(H:Hp)(E:Value->Shared->Prop),Inv X pins σ H s->(∀ b ∈ fp,eZ X pins H b)->tn i s.heap->J.go i H ->
  wpAny (model P w) X.A (pyNext (.ref it)) (fun r s1=>∃ u,r=some u /\
   wpAny (model P w) X.A (letOwnedTupleGo tg (.ref it) u) (fun _ s2=>∃ x H',Inv X pins σ H' s2/\RelV x u/\J.DW i H x H'/\tn (i + 1) s2.heap/\∀ b ∈ fp,H' b=none) E s1) E s
 done:∀ (X:Cx),X.prog=P->X.w=w->X.K=K->X.calm=true->∀ (i:Nat)(pins:List (Addr × Obj))(s:Shared)(σ:St)(H:Hp)(E:Value->Shared->Prop),Inv X pins σ H s->(∀ b ∈ fp,eZ X pins H b)->tn i s.heap->J.stop i H ->
  wpAny (model P w) X.A (pyNext (.ref it)) (fun r s1=>r=none/\Inv X pins σ H s1) E s
 self:∀ (A:Around)(i:Nat)(s:Shared)(Q:Value->Shared->Prop)(E:Value->Shared->Prop),tn i s.heap->Q (.ref it) s->wpAny (model P w) A (pyIter (.ref it)) Q E s
abbrev TI:=St->Hp->(It->Hp->Prop)->Prop
noncomputable def Tt (X:Cx)(pins:List (Addr × Obj))(σ:St)(tg:Expr)(R:It->Hp->Prop)(LI:Value)(s2:Shared):Prop :=
 ∃ (it:Addr)(fp:List Addr)(tn:Nat->Heap->Prop)(J:It)(H':Hp),LI = .ref it/\Inv X pins σ H' s2/\oq X.prog X.w X.K tg J fp it tn/\tn 0 s2.heap/\(∀ b ∈ fp,eZ X pins H' b)/\R J H'
noncomputable def PI (X:Cx)(tg iter:Expr)(wi:TI):Prop :=
 ∀ (pins:List (Addr × Obj))(s:Shared)(σ:St)(H:Hp)(R:It->Hp->Prop),Inv X pins σ H s->wi σ H R ->
  wpAny (model X.prog X.w) X.A (eval iter X.env) (fun v s1=>wpAny (model X.prog X.w) X.A (pyIter v) (Tt X pins σ tg R) X.xe s1) X.xe s
theorem t7 {M:Model}{A:Around}{E:Value->Shared->Prop}{s:Shared}{tg:Expr}{it:Addr}{u:Value}{o:Obj}{n:String}{vs:Array Value}{Q:Unit->Shared->Prop}(ho:s.heap.get? it=some o)(hc:o.cls = .type n)(hd:o.data = .fields vs)
  (hn:["enumerate", "zip", "dict_itemiterator", "dict_reverseitemiterator", "odict_iterator", "itertools.zip_longest", "itertools.pairwise"].contains n=false) (hQ:Q () s):wpAny M A (letOwnedTupleGo tg (.ref it) u) Q E s:=by
 unfold letOwnedTupleGo
 cases tg<;>first
  | exact wpAny_pure hQ
  | (cases u<;>first
    | exact wpAny_pure hQ
    | (refine wpAny_bind (wpAny_load ho ?_)
       rw[hc,hd]
       show wpAny M A (if (["enumerate", "zip", "dict_itemiterator", "dict_reverseitemiterator", "odict_iterator", "itertools.zip_longest", "itertools.pairwise"].contains n && vs[0]? == some (rawInt _))=true then _ else _) Q E s
       rw[if_neg (by intro h;rw[hn,Bool.false_and]at h;cases h)]
       exact wpAny_pure hQ))
noncomputable def tZ (K:Frag)(a:Addr):It :=
 ⟨fun i H=>∃ xs x,yC K H a xs/\xs[i]? = some x,fun i H x H'=>H' = H/\∀ xs,yC K H a xs->xs[i]? = some x,fun i H=>∃ xs,yC K H a xs/\xs.length <= i⟩
noncomputable def LJ (K:Frag)(a:Addr):It :=
 ⟨fun i H=>∃ xs x,yN K H a xs/\xs[i]? = some x,fun i H x H'=>H' = H/\∀ xs,yN K H a xs->xs[i]? = some x,fun i H=>∃ xs,yN K H a xs/\xs.length <= i⟩
noncomputable def ug (lo:Int)(n:Nat):It:=⟨fun i _=>i < n,fun i H x H'=>H' = H/\x = .int (lo + i),fun i _=>n <= i⟩
theorem pE {P:Program}{w:World}{K:Frag}{tg:Expr}(a it:Addr):oq P w K tg (tZ K a) [it] it (fun i h=>h.IsListIter it a i) where
 mem:=by simp
 obj:=fun i h st b hb=>by
  have e:b=it:=by simpa using hb
  subst e
  obtain⟨o,e,c,d⟩:=st
  exact⟨o,e,fun v z=>by rw[d]at z;cases z⟩
 keep:=fun i h h' st k=>st.at fun o e=>k it (by simp) o e
 item:=by
  intro X hP hw hK hc i pins s σ H E I hf st hg
  subst hP hw hK
  obtain⟨xs,x,hq,hx⟩:=hg
  obtain⟨yF,rv,p,hz⟩:=I.list hq
  obtain⟨u,hu,ru⟩:=rv.get hx
  obtain⟨f0,f1,f2,f3,f4,f5⟩:=hf it (by simp)
  refine wpAny_pyNext_list_item st p.isList (x:=u) (by simpa using hu) fun h' Ci sb=>?_
  have I1:Inv X pins σ H { s with heap:=h' }:=I.turned (t':=s.toks) (fun b o hb e=>(sb.2 b hb).trans e) f0 f1 f3 f4 f5
  obtain⟨o,e,c,d⟩:=id Ci
  exact⟨u,rfl,t7 (s:={ s with heap:=h' }) e c d (by decide) ⟨x,H,I1,ru,⟨rfl,fun ys hy=>by rw[I.Bv hy hq];exact hx⟩,Ci,fun b hb=>(hf b hb).1⟩⟩
 done:=by
  intro X hP hw hK hc i pins s σ H E I hf st hg
  subst hP hw hK
  obtain⟨xs,hq,hx⟩:=hg
  obtain⟨yF,rv,p,hz⟩:=I.list hq
  obtain⟨f0,f1,f2,f3,f4,f5⟩:=hf it (by simp)
  have hl:=rv.length
  exact wpAny_pyNext_list_end (I.ok.hd hc) st p.isList (by simp;omega) fun h' eb=>⟨rfl,I.turned (t':=s.toks) (fun b o hb e=>eb b o hb e) f0 f1 f3 f4 f5⟩
 self:=fun _ _ _ _ _ st h=>wpAny_pyIter_listiter st h
theorem mI {P:Program}{w:World}{K:Frag}{tg:Expr}(a it:Addr):oq P w K tg (LJ K a) [it] it (fun i h=>h.IsTupleIter it a i) where
 mem:=by simp
 obj:=fun i h st b hb=>by
  have e:b=it:=by simpa using hb
  subst e
  obtain⟨o,e,c,d⟩:=st
  exact⟨o,e,fun v z=>by rw[d]at z;cases z⟩
 keep:=fun i h h' st k=>st.at fun o e=>k it (by simp) o e
 item:=by
  intro X hP hw hK hc i pins s σ H E I hf st hg
  subst hP hw hK
  obtain⟨xs,x,hq,hx⟩:=hg
  obtain⟨yF,rv,p,hz⟩:=I.tuple hq
  obtain⟨u,hu,ru⟩:=rv.get hx
  obtain⟨f0,f1,f2,f3,f4,f5⟩:=hf it (by simp)
  refine wpAny_pyNext_tuple_item st (show s.heap.IsTuple a yF.toArray from p) (x:=u) (by simpa using hu) fun h' Ci sb=>?_
  have I1:Inv X pins σ H { s with heap:=h' }:=I.turned (t':=s.toks) (fun b o hb e=>(sb.2 b hb).trans e) f0 f1 f3 f4 f5
  obtain⟨o,e,c,d⟩:=id Ci
  exact⟨u,rfl,t7 (s:={ s with heap:=h' }) e c d (by decide) ⟨x,H,I1,ru,⟨rfl,fun ys hy=>by rw[I.Bb hy hq];exact hx⟩,Ci,fun b hb=>(hf b hb).1⟩⟩
 done:=by
  intro X hP hw hK hc i pins s σ H E I hf st hg
  subst hP hw hK
  obtain⟨xs,hq,hx⟩:=hg
  obtain⟨yF,rv,p,hz⟩:=I.tuple hq
  obtain⟨f0,f1,f2,f3,f4,f5⟩:=hf it (by simp)
  have hl:=rv.length
  exact wpAny_pyNext_tuple_end (I.ok.hd hc) st (show s.heap.IsTuple a yF.toArray from p) (by simp;omega) fun h' eb=>⟨rfl,I.turned (t':=s.toks) (fun b o hb e=>eb b o hb e) f0 f1 f3 f4 f5⟩
 self:=fun _ _ _ _ _ st h=>wpAny_pyIter_tupleiter st h
theorem mJ {P:Program}{w:World}{K:Frag}{tg:Expr}(it:Addr)(lo:Int)(n:Nat):oq P w K tg (ug lo n) [it] it (fun i h=>IsRangeIter h it (lo + (i:Nat) * 1) ((n:Int) - (i:Nat)) 1) where
 mem:=by simp
 obj:=fun i h st b hb=>by
  have e:b=it:=by simpa using hb
  subst e
  exact⟨_,st,fun v z=>by
   have z':Data.fields _=Data.cell v:=z
   cases z'⟩
 keep:=fun i h h' st k=>k it (by simp) _ st
 item:=by
  intro X hP hw hK hc i pins s σ H E I hf st hg
  subst hP hw hK
  obtain⟨f0,f1,f2,f3,f4,f5⟩:=hf it (by simp)
  have W:=Walks.range (prog:=X.prog) (w:=X.w) (I.ok.hd hc) it lo 1 n
  refine W.item i s _ _ hg st fun v h' tk hv Ci kk=>?_
  obtain⟨t,rfl⟩:=hv
  have I1:Inv X pins σ H { s with heap:=h',toks:=tk }:=I.turned (fun b o hb e=>kk b o (by simpa using hb) e) f0 f1 f3 f4 f5
  refine⟨_,rfl,t7 (s:={ s with heap:=h',toks:=tk }) (n := "range_iterator") Ci rfl rfl (by decide) ⟨.int (lo + i),H,I1,⟨t,?_⟩,⟨rfl,rfl⟩,Ci,fun b hb=>(hf b hb).1⟩⟩
  rw[mul_one]
 done:=by
  intro X hP hw hK hc i pins s σ H E I hf st hg
  subst hP hw hK
  obtain⟨f0,f1,f2,f3,f4,f5⟩:=hf it (by simp)
  exact wpAny_pyNext_range_end (I.ok.hd hc) st (by have:n <= i:=hg;omega) fun h' eb=>⟨rfl,I.turned (t':=s.toks) (fun b o hb e=>eb b o hb e) f0 f1 f3 f4 f5⟩
 self:=fun _ _ _ _ _ st h=>wpAny_pyIter_rangeiter st h
section
variable {X:Cx}{tg:Expr}
noncomputable def Ic (K:Frag)(tl:TE):TI:=fun σ H R=>tl σ H fun x H1=>∃ a,x = .ref a/\(∃ xs,yC K H1 a xs)/\R (tZ K a) H1
noncomputable def NN (K:Frag)(tl:TE):TI:=fun σ H R=>tl σ H fun x H1=>∃ a,x = .ref a/\(∃ xs,yN K H1 a xs)/\R (LJ K a) H1
theorem aV {l:Expr}{tl:TE}(hl:PE X l tl):PI X tg l (Ic X.K tl):=by
 intro pins s σ H R I h
 refine bv (hl pins s σ H _ I h) fun v s1 yD=>?_
 obtain⟨x,H1,I1,r1,q1⟩:=yD
 obtain⟨a,e,⟨xs,hq⟩,q⟩:=q1
 subst e
 cases r1
 obtain⟨yF,rv,p,hz⟩:=I1.list hq
 refine wpAny_pyIter_list p.isList ?_
 refine⟨s1.heap.objs.size,[s1.heap.objs.size],_,_,H1,rfl,I1.kept (t':=s1.toks) fun b o e=>Heap.get?_push_of_some _ e,pE a _,⟨_,Heap.get?_push_size _ rfl,rfl,rfl⟩,fun b hb=>?_,q⟩
 have e:b=s1.heap.objs.size:=by simpa using hb
 subst e
 exact I1.CU (Nat.le_refl _) (I1.yL.fresh (Nat.le_refl _))
theorem iR {l:Expr}{tl:TE}(hl:PE X l tl):PI X tg l (NN X.K tl):=by
 intro pins s σ H R I h
 refine bv (hl pins s σ H _ I h) fun v s1 yD=>?_
 obtain⟨x,H1,I1,r1,q1⟩:=yD
 obtain⟨a,e,⟨xs,hq⟩,q⟩:=q1
 subst e
 cases r1
 obtain⟨yF,rv,p,hz⟩:=I1.tuple hq
 refine wpAny_pyIter_tuple (show s1.heap.IsTuple a yF.toArray from p) ?_
 refine⟨s1.heap.objs.size,[s1.heap.objs.size],_,_,H1,rfl,I1.kept (t':=s1.toks) fun b o e=>Heap.get?_push_of_some _ e,mI a _,⟨_,Heap.get?_push_size _ rfl,rfl,rfl⟩,fun b hb=>?_,q⟩
 have e:b=s1.heap.objs.size:=by simpa using hb
 subst e
 exact I1.CU (Nat.le_refl _) (I1.yL.fresh (Nat.le_refl _))
theorem rQ {pins:List (Addr × Obj)}{σ:St}{H:Hp}{s:Shared}{R:It->Hp->Prop}{E:Value->Shared->Prop}{lo hi:Int}{t u v:Tok}{tk:Nat}(I:Inv X pins σ H s)(h1:-(2 ^ 62) <= lo)(h2:lo < 2 ^ 62)(h3:-(2 ^ 62) <= hi)(h4:hi < 2 ^ 62)
  (q:R (ug lo (hi - lo).toNat) H):wpAny (model X.prog X.w) X.A (pyIter (.ref s.heap.objs.size)) (Tt X pins σ tg R) E { s with heap:=s.heap.push { cls := .type "range",data := .fields #[.int lo t, .int hi u, .int 1 v] },toks:=tk }:=by
 refine wpAny_pyIter_range (IsRange.new ..) (small_one h1 h2 h3 h4) ?_
 have I1:Inv X pins σ H { s with heap:=s.heap.push { cls := .type "range",data := .fields #[.int lo t, .int hi u, .int 1 v] },toks:=tk }:=I.kept fun b o e=>Heap.get?_push_of_some _ e
 refine⟨(s.heap.push { cls := .type "range",data := .fields #[.int lo t, .int hi u, .int 1 v] }).objs.size,[(s.heap.push { cls := .type "range",data := .fields #[.int lo t, .int hi u, .int 1 v] }).objs.size],_,_,H,rfl,
  I1.kept (t':=tk) fun b o e=>Heap.get?_push_of_some _ e,mJ _ lo (hi - lo).toNat,?_,fun b hb=>?_,q⟩
 ·have e1:lo + ((0:Nat):Int) * 1=lo:=by simp
  have e2:(((hi - lo).toNat:Nat):Int) - ((0:Nat):Int)=Builtin.Range.rangeSize lo hi 1:=by rw[rangeSize_one];split<;>omega
  show IsRangeIter _ _ (lo + ((0:Nat):Int) * 1) ((((hi - lo).toNat:Nat):Int) - ((0:Nat):Int)) 1
  rw[e1,e2]
  exact Heap.get?_push_size _ rfl
 ·have e:b=(s.heap.push { cls := .type "range",data := .fields #[.int lo t, .int hi u, .int 1 v] }).objs.size:=by simpa using hb
  subst e
  exact I1.CU (Nat.le_refl _) (I1.yL.fresh (Nat.le_refl _))
noncomputable def Ie (ta:TA):TI:=fun σ H R=>ta σ H fun vs H1=>∃ j:Int,vs=[.int j]/\-(2 ^ 62) <= j/\j < 2 ^ 62/\R (ug 0 j.toNat) H1
theorem aJ {a:Expr}{ta:TA}{p pos:Pos}(hg:Gl X "range")(hm:X.mg "range" = none)(ha:PA X [a] ta)(hs:autoParam (starEach [a] X.env=[(false,eval a X.env)]) η):PI X tg (.Call (.Name "range" p) [a] [] pos) (Ie ta):=by
 intro pins s σ H R I h
 refine Call_ (fJ I hg hm boot_range (PyProof.Rows.callWith_type1 (bv (ha pos pins s σ H _ I h) fun us s1 yD=>?_) hs rfl))
 obtain⟨vs,H1,I1,r1,q1⟩:=yD
 obtain⟨j,e,q1,q2,q⟩:=q1
 subst e
 cases r1 with
 | cons r rr =>
  cases rr
  obtain⟨t,rfl⟩:=r
  exact call_range_1 (rQ I1 (by omega) (by omega) q1 q2 (by simpa using q))
noncomputable def NO (wi:TI)(g:TG)(tb:TS):TS:=fun D σ H=>wi σ H fun J H1=>∃ W:Nat->Nat->St->Hp->Prop,(∃ m,W 0 m σ H1)/\∀ i m σ H,W i m σ H ->
 (J.stop i H/\D.nx σ H)∨(J.go i H/\∃ N:St->Hp->Prop,(∀ σ' H',N σ' H'->∃ m',m' < m/\W (i + 1) m' σ' H')/\∀ x H',J.DW i H x H'->g x σ H' fun σ2 H2=>tb { D with nx:=N,ct:=N,bk:=D.nx } σ2 H2)
noncomputable def dF (fp:List Addr)(h:Heap):List (Addr × Obj):=fp.filterMap fun b=>(h.get? b).map fun o=>(b,o)
theorem dI {fp:List Addr}{h:Heap}{b:Addr}{o:Obj}(hb:b ∈ fp)(e:h.get? b=some o):(b,o) ∈ dF fp h:=List.mem_filterMap.mpr ⟨b,hb,by rw[e];rfl⟩
theorem jw {fp:List Addr}{h:Heap}{p:Addr × Obj}(hp:p ∈ dF fp h):p.1 ∈ fp/\h.get? p.1=some p.2:=by
 obtain⟨b,hb,e⟩:=List.mem_filterMap.mp hp
 cases q:h.get? b with
 | none=>rw[q]at e;cases e
 | some o =>
  rw[q]at e
  have e':(b,o)=p:=Option.some.inj e
  subst e'
  exact⟨hb,q⟩
theorem Inv.pinned {pins:List (Addr × Obj)}{σ:St}{H:Hp}{s:Shared}{fp:List Addr}(I:Inv X pins σ H s)(hf:∀ b ∈ fp,eZ X pins H b)(ho:∀ b ∈ fp,∃ o,s.heap.get? b=some o/\∀ v,o.data ≠ .cell v):Inv X (pins ++ dF fp s.heap) σ H s :=
 I.zi fun p hp=>(mem_append.mp hp).elim (fun z=>I.pin p (mem_append_right _ z)) fun z=>by
  obtain⟨hb,e⟩:=jw z
  obtain⟨f0,f1,f2,_⟩:=hf p.1 hb
  obtain⟨o,e',d⟩:=ho p.1 hb
  rw[e]at e';cases e'
  exact⟨e,f0,f1,f2,d⟩
theorem Inv.Ad {pins pl:List (Addr × Obj)}{σ:St}{H:Hp}{s:Shared}(I:Inv X (pins ++ pl) σ H s):Inv X pins σ H s:=I.zi fun p hp=>I.pin p (mem_append_right _ (mem_append_left _ hp))
theorem bB {iter:Expr}{body:List Stmt}{wi:TI}{g:TG}{tb:TS}{pos:Pos}(hp:PassesOwn (model X.prog X.w) X.A X.env X.xe)(hc:X.calm=true)(hi:PI X tg iter wi)(hg:PG X tg g)(hb:AR X body tb)
  (hs:autoParam (∀ x,foldedSetIterable iter X.env x=pure x) ψ):PS X (.For tg iter body [] pos) (NO wi g tb):=by
 intro pins s σ H D I h
 refine wpAny_For (bv (hi pins s σ H _ I h) fun v s1 h1=>bv h1 fun LI s2 h2=>?_) hs
 obtain⟨it,fp,tn,J,H2,e,I2,T,Ig,f2,W,⟨m0,w0⟩,turn⟩:=h2
 subst e
 have stat:∀ {H':Hp},(∀ b ∈ fp,H' b=none)->∀ b ∈ fp,eZ X pins H' b:=fun hn b hb=>⟨hn b hb,(f2 b hb).2⟩
 refine codeAny_forLoop_any (fun n s'=>∃ i σ' H',Inv X pins σ' H' s'/\tn i s'.heap/\(∀ b ∈ fp,H' b=none)/\W i n σ' H') ?_ m0 ⟨0,σ,H2,I2,Ig,fun b hb=>(f2 b hb).1,w0⟩
 rintro n s3 ⟨i,σ3,H3,I3,Tu,Tv,w3⟩
 rcases turn i n σ3 H3 w3 with ⟨stop,qn⟩ | ⟨go,N,hN,step⟩
 ·refine wpAny_passesOwn hp (bv (T.done X rfl rfl rfl hc i pins s3 σ3 H3 X.xe I3 (stat Tv) Tu stop) fun r s4 yD=>?_)
  obtain⟨hr,I4⟩:=yD
  subst hr
  exact wpAny_execs_nil ⟨σ3,H3,I4,qn⟩
 ·refine wpAny_passesOwn hp (bv (T.item X rfl rfl rfl hc i pins s3 σ3 H3 X.xe I3 (stat Tv) Tu go) fun r s4 yD=>?_)
  obtain⟨u,hr,h4⟩:=yD
  subst hr
  refine wpAny_passesOwn hp (bv h4 fun _ s5 yD=>?_)
  obtain⟨x,H5,I5,r5,y5,Hg,LK⟩:=yD
  have I5':=I5.pinned (stat LK) (T.obj _ _ Hg)
  refine wpAny_passesOwn hp (bv (hg _ s5 σ3 H5 x u _ I5' r5 (step x H5 y5)) fun _ s6 yD=>?_)
  obtain⟨σ6,H6,I6,q6⟩:=yD
  refine wpAny_passesOwn hp (bv (hb _ s6 σ6 H6 _ I6 q6) fun f s7 q7=>?_)
  have again:∀ {σ7:St}{H7:Hp},Inv X (pins ++ dF fp s5.heap) σ7 H7 s7->N σ7 H7->∃ m,m < n/\∃ i σ' H',Inv X pins σ' H' s7/\tn i s7.heap/\(∀ b ∈ fp,H' b=none)/\W i m σ' H':=fun {σ7 H7} I7 n7=>by
   obtain⟨m',hm,w7⟩:=hN σ7 H7 n7
   refine⟨m',hm,i + 1,σ7,H7,I7.Ad,T.keep _ _ _ Hg fun b hb o e=>(I7.pin (b,o) (mem_append_right _ (mem_append_right _ (dI hb e)))).1,fun b hb=>?_,w7⟩
   obtain⟨o,e,d⟩:=T.obj _ _ Hg b hb
   exact(I7.pin (b,o) (mem_append_right _ (mem_append_right _ (dI hb e)))).2.1
  cases f with
  | next=>obtain⟨σ7,H7,I7,n7⟩:=q7;exact again I7 n7
  | cont=>obtain⟨σ7,H7,I7,n7⟩:=q7;exact again I7 n7
  | brk=>obtain⟨σ7,H7,I7,q7⟩:=q7;exact⟨σ7,H7,I7.Ad,q7⟩
  | ret v=>obtain⟨x7,σ7,H7,I7,r7,q7⟩:=q7;exact⟨x7,σ7,H7,I7.Ad,r7,q7⟩
end
theorem c4 {K:Frag}{a:Addr}{xs:List V}{g:TG}{tb:TS}{D:kK}{σ:St}{H:Hp}(Pv:Nat->St->Hp->Prop)(h0:Pv 0 σ H)(hl:∀ i σ H,i <= xs.length->Pv i σ H->yC K H a xs)
  (hs:∀ i x σ H,xs[i]? = some x->Pv i σ H->g x σ H fun σ2 H2=>tb { D with nx:=Pv (i + 1),ct:=Pv (i + 1),bk:=D.nx } σ2 H2) (hd:∀ σ H,Pv xs.length σ H->D.nx σ H) :
  ∃ W:Nat->Nat->St->Hp->Prop,(∃ m,W 0 m σ H)/\∀ i m σ H,W i m σ H ->
   ((tZ K a).stop i H/\D.nx σ H)∨((tZ K a).go i H/\∃ N:St->Hp->Prop,(∀ σ' H',N σ' H'->∃ m',m' < m/\W (i + 1) m' σ' H')/\∀ x H',(tZ K a).DW i H x H'->g x σ H' fun σ2 H2=>tb { D with nx:=N,ct:=N,bk:=D.nx } σ2 H2):=by
 refine⟨fun i m σ H=>m=xs.length - i/\i <= xs.length/\Pv i σ H,⟨xs.length,by simp,zero_le _,h0⟩,?_⟩
 rintro i m σ H ⟨rfl,hi,p⟩
 have q:=hl i σ H hi p
 by_cases zb:i < xs.length
 ·refine .inr ⟨⟨xs,xs[i],q,by simp[zb]⟩,Pv (i + 1),fun σ' H' p'=>⟨xs.length - (i + 1),by omega,rfl,zb,p'⟩,fun x H' y=>?_⟩
  obtain⟨e,y⟩:=y
  subst e
  exact hs i x σ _ (y xs q) p
 ·have e:i=xs.length:=by omega
  subst e
  exact .inl ⟨⟨xs,q,Nat.le_refl _⟩,hd σ H p⟩
theorem b7 {lo:Int}{n:Nat}{g:TG}{tb:TS}{D:kK}{σ:St}{H:Hp}(Pv:Nat->St->Hp->Prop)(h0:Pv 0 σ H)
  (hs:∀ i σ H,i < n->Pv i σ H->g (.int (lo + i)) σ H fun σ2 H2=>tb { D with nx:=Pv (i + 1),ct:=Pv (i + 1),bk:=D.nx } σ2 H2) (hd:∀ σ H,Pv n σ H->D.nx σ H) :
  ∃ W:Nat->Nat->St->Hp->Prop,(∃ m,W 0 m σ H)/\∀ i m σ H,W i m σ H ->
   ((ug lo n).stop i H/\D.nx σ H)∨((ug lo n).go i H/\∃ N:St->Hp->Prop,(∀ σ' H',N σ' H'->∃ m',m' < m/\W (i + 1) m' σ' H')/\∀ x H',(ug lo n).DW i H x H'->g x σ H' fun σ2 H2=>tb { D with nx:=N,ct:=N,bk:=D.nx } σ2 H2):=by
 refine⟨fun i m σ H=>m=n - i/\i <= n/\Pv i σ H,⟨n,by simp,zero_le _,h0⟩,?_⟩
 rintro i m σ H ⟨rfl,hi,p⟩
 by_cases zb:i < n
 ·refine .inr ⟨zb,Pv (i + 1),fun σ' H' p'=>⟨n - (i + 1),by omega,rfl,zb,p'⟩,fun x H' y=>?_⟩
  obtain⟨e,y⟩:=y
  subst e y
  exact hs i σ _ zb p
 ·have e:i=n:=by omega
  subst e
  exact .inl ⟨Nat.le_refl _,hd σ H p⟩
theorem qy {c:TT}{tb:TS}{D:kK}{σ:St}{H:Hp}(Pv:St->Hp->Prop) (μ:St->Hp->Nat) (h0:Pv σ H)
  (hs:∀ σ H,Pv σ H->c σ H fun b H1=>if b=true then tb { D with nx:=fun σ' H'=>Pv σ' H'/\μ σ' H' < μ σ H,ct:=fun σ' H'=>Pv σ' H'/\μ σ' H' < μ σ H,bk:=D.nx } σ H1 else D.nx σ H1)
  (mono:∀ σ H Q Q',(∀ b H1,Q b H1->Q' b H1)->c σ H Q->c σ H Q'):qF c tb D σ H:=by
 refine⟨fun m σ H=>m=μ σ H/\Pv σ H,⟨_,rfl,h0⟩,?_⟩
 rintro m σ H ⟨rfl,p⟩
 refine mono σ H _ _ (fun b H1 q=>?_) (hs σ H p)
 cases b with
 | true=>exact⟨_,fun σ' H' yD=>by obtain⟨p',l⟩:=yD;exact⟨_,l,rfl,p'⟩,q⟩
 | false=>exact q
abbrev R2:=V->V->Hp->VK->Prop
noncomputable def dQ (X:Cx)(f:Value->Value->Sem Value)(r:R2):Prop :=
 ∀ (pins:List (Addr × Obj))(s:Shared)(σ:St)(H:Hp)(x y:V)(v u:Value)(Q:VK),Inv X pins σ H s->RelV x v->RelV y u->r x y H Q ->
  wpAny (model X.prog X.w) X.A (f v u) (EP X pins σ Q) X.xe s
noncomputable def NP (X:Cx)(f:Value->Sem Value)(r:V->Hp->VK->Prop):Prop :=
 ∀ (pins:List (Addr × Obj))(s:Shared)(σ:St)(H:Hp)(x:V)(v:Value)(Q:VK),Inv X pins σ H s->RelV x v->r x H Q ->
  wpAny (model X.prog X.w) X.A (f v) (EP X pins σ Q) X.xe s
noncomputable def c6 (X:Cx)(f:Value)(r:List V->Hp->VK->Prop):Prop :=
 ∀ (pins:List (Addr × Obj))(s:Shared)(σ:St)(H:Hp)(xs:List V)(us:List Value)(Q:VK),Inv X pins σ H s->Vals xs us->r xs H Q ->
  wpAny (model X.prog X.w) X.A (call f us) (EP X pins σ Q) X.xe s
noncomputable def NQ (X:Cx)(r:V->Hp->(Bool->Hp->Prop)->Prop):Prop :=
 ∀ (pins:List (Addr × Obj))(s:Shared)(σ:St)(H:Hp)(x:V)(v:Value)(Q:Bool->Hp->Prop),Inv X pins σ H s->RelV x v->r x H Q ->
  wpAny (model X.prog X.w) X.A (truthy v) (TP X pins σ Q) X.xe s
noncomputable def LL (r:R2)(ta tb:TE):TE:=fun σ H Q=>ta σ H fun x H1=>tb σ H1 fun y H2=>r x y H2 Q
noncomputable def tUn (r:V->Hp->VK->Prop)(ta:TE):TE:=fun σ H Q=>ta σ H fun x H1=>r x H1 Q
noncomputable def rI (C:Int->Int->Prop)(g:Int->Int->V):R2:=fun x y H Q=>∃ i j,x = .int i/\y = .int j/\C i j/\Q (g i j) H
noncomputable def qv (g:Int->Int->V):R2:=fun x y H Q=>∃ i j,x = .int i/\y = .int j/\Q (g i j) H
noncomputable def rU (g:Int->V):V->Hp->VK->Prop:=fun x H Q=>∃ i,x = .int i/\Q (g i) H
section
variable {X:Cx}{a b c:Expr}{ta tb tc:TE}{pos:Pos}
theorem yp (ha:PE X a ta)(hb:PE X b tb){pins:List (Addr × Obj)}{s:Shared}{σ:St}{H:Hp}{R:V->V->Hp->Prop}(I:Inv X pins σ H s)
  (h:ta σ H fun x H1=>tb σ H1 fun y H2=>R x y H2) {Q:Value->Shared->Prop} {f:Value->Value->Sem Value}
  (hf:∀ v u s2 x y H2,Inv X pins σ H2 s2->RelV x v->RelV y u->R x y H2->wpAny (model X.prog X.w) X.A (f v u) Q X.xe s2) :
  wpAny (model X.prog X.w) X.A (eval a X.env) (fun v s₁=>wpAny (model X.prog X.w) X.A (eval b X.env) (fun u s₂=>wpAny (model X.prog X.w) X.A (f v u) Q X.xe s₂) X.xe s₁) X.xe s:=by
 refine bv (ha pins s σ H _ I h) fun v s1 yD=>?_
 obtain⟨x,H1,I1,r1,q1⟩:=yD
 refine bv (hb pins s1 σ H1 _ I1 q1) fun u s2 yD=>?_
 obtain⟨y,H2,I2,r2,q2⟩:=yD
 exact hf v u s2 x y H2 I2 r1 r2 q2
theorem aD {op:Operator}{r:R2}(ho:dQ X (binaryOp op) r)(ha:PE X a ta)(hb:PE X b tb):PE X (.BinOp a op b pos) (LL r ta tb):=by
 intro pins s σ H Q I h
 exact wpAny_BinOp (yp ha hb I h fun v u s2 x y H2 I2 rx ry q=>ho pins s2 σ H2 x y v u Q I2 rx ry q)
theorem wf {op:UnaryOp}{r:V->Hp->VK->Prop}(ho:NP X (unaryOp op) r)(ha:PE X a ta):PE X (.UnaryOp op a pos) (tUn r ta):=by
 intro pins s σ H Q I h
 exact UnaryOp_ (bv (ha pins s σ H _ I h) fun v s1 yD=>by obtain⟨x,H1,I1,r1,q1⟩:=yD;exact ho pins s1 σ H1 x v Q I1 r1 q1)
theorem Hh {f:Value->Value->Sem Value}{C:Int->Int->Prop}{g:Int->Int->Int}
  (rule:∀ (i j:Int)(t u:Tok)(s:Shared)(Q:Value->Shared->Prop)(E:Value->Shared->Prop),C i j->Q (.int (g i j) s.toks) { s with toks:=s.toks + 1 }->wpAny (model X.prog X.w) X.A (f (.int i t) (.int j u)) Q E s) :
  dQ X f (rI C fun i j => .int (g i j)):=by
 intro pins s σ H x y v u Q I rx ry h
 obtain⟨i,j,rfl,rfl,hc,q⟩:=h
 obtain⟨t,rfl⟩:=rx
 obtain⟨t',rfl⟩:=ry
 exact rule i j t t' s _ _ hc ⟨.int (g i j),H,I.tok _,⟨_,rfl⟩,q⟩
theorem pQ {f:Value->Value->Sem Value}{g:Int->Int->Int}
  (rule:∀ (i j:Int)(t u:Tok)(s:Shared)(Q:Value->Shared->Prop)(E:Value->Shared->Prop),Q (.int (g i j) s.toks) { s with toks:=s.toks + 1 }->wpAny (model X.prog X.w) X.A (f (.int i t) (.int j u)) Q E s) :
  dQ X f (qv fun i j => .int (g i j)):=by
 intro pins s σ H x y v u Q I rx ry h
 obtain⟨i,j,rfl,rfl,q⟩:=h
 obtain⟨t,rfl⟩:=rx
 obtain⟨t',rfl⟩:=ry
 exact rule i j t t' s _ _ ⟨.int (g i j),H,I.tok _,⟨_,rfl⟩,q⟩
theorem uM {f:Value->Value->Sem Value}{g:Int->Int->Bool}
  (rule:∀ (i j:Int)(t u:Tok)(s:Shared)(Q:Value->Shared->Prop)(E:Value->Shared->Prop),Q (.bool (g i j)) s->wpAny (model X.prog X.w) X.A (f (.int i t) (.int j u)) Q E s) :
  dQ X f (qv fun i j => .bl (g i j)):=by
 intro pins s σ H x y v u Q I rx ry h
 obtain⟨i,j,rfl,rfl,q⟩:=h
 obtain⟨t,rfl⟩:=rx
 obtain⟨t',rfl⟩:=ry
 exact rule i j t t' s _ _ ⟨.bl (g i j),H,I,rfl,q⟩
noncomputable def NR (i j:Int):Prop:=0 < j/\j < 1073741824
noncomputable def Ih (i j:Int):Prop:=0 <= j/\j <= 1000000/\i.natAbs < 2 ^ 64
noncomputable def Fv (i j:Int):Prop:=(-(2 ^ 64) < i/\i < 2 ^ 64)∨(-(2 ^ 64) < j/\j < 2 ^ 64)
theorem Fv.ok {i j:Int}(h:Fv i j):IntMulOk i j:=by
 rcases h with ⟨h1,h2⟩ | ⟨h1,h2⟩
 ·exact .of_left (intBits_le_64 h1 h2)
 ·exact .of_right (intBits_le_64 h1 h2)
theorem mH (k:Nat):(0:Int) <= 2 ^ k:=by
 rw[two_pow_cast]
 exact Int.natCast_nonneg _
theorem ca:dQ X (binaryOp .Add) (qv fun i j => .int (i + j)):=pQ fun _ _ _ _ _ _ _ q=>add_int q
theorem dH:dQ X (binaryOp .Sub) (qv fun i j => .int (i - j)):=pQ fun _ _ _ _ _ _ _ q=>sub_int q
theorem gN:dQ X (binaryOp .Mult) (rI Fv fun i j => .int (i * j)):=Hh fun _ _ _ _ _ _ _ hc q=>mul_int q hc.ok
theorem cj:dQ X (binaryOp .FloorDiv) (rI NR fun i j => .int (i / j)):=Hh fun i j _ _ _ _ _ hc q=>by
 have h1:(0:Int) < j:=hc.1
 have h2:j < 1073741824:=hc.2
 exact floordiv_int (by omega) (by rw[Int.fdiv_eq_ediv_of_nonneg i (by omega)];exact q) (.inl (PyProof.noPylong_small (by omega)))
theorem bG:dQ X (binaryOp .Mod) (rI (fun _ j=>0 < j) fun i j => .int (i % j)):=Hh fun i j _ _ _ _ _ hc q=>by
 have h1:(0:Int) < j:=hc
 exact mod_int' (by omega) (by rw[Int.fmod_eq_emod_of_nonneg i (by omega)];exact q)
theorem jW:dQ X (binaryOp .Pow) (rI Ih fun i j => .int (i ^ j.toNat)):=Hh fun _ _ _ _ _ _ _ hc q=>pow_int_small hc.1 hc.2.1 hc.2.2 q
theorem nE:dQ X (binaryOp .LShift) (rI Ih fun i j => .int (i * 2 ^ j.toNat)):=Hh fun _ _ _ _ _ _ _ hc q=>lshift_int_small hc.1 hc.2.1 hc.2.2 q
theorem jV:dQ X (binaryOp .RShift) (rI (fun _ j=>0 <= j) fun i j => .int (i / 2 ^ j.toNat)):=Hh fun i j _ _ _ _ _ hc q =>
 rshift_int hc (by rw[Int.fdiv_eq_ediv_of_nonneg i (mH _)];exact q)
theorem nH:dQ X (binaryOp .BitAnd) (qv fun i j => .int (Builtin.bitAnd i j)):=pQ fun _ _ _ _ _ _ _ q=>and_int q
theorem wg:dQ X (binaryOp .BitOr) (qv fun i j => .int (Builtin.bitOr i j)):=pQ fun _ _ _ _ _ _ _ q=>or_int q
theorem kv:dQ X (inplaceOp .Add) (qv fun i j => .int (i + j)):=pQ fun _ _ _ _ _ _ _ q=>iadd_int q
theorem pz:dQ X (inplaceOp .Sub) (qv fun i j => .int (i - j)):=pQ fun _ _ _ _ _ _ _ q=>isub_int q
theorem unI {f:Value->Sem Value}{g:Int->Int}
  (rule:∀ (i:Int)(t:Tok)(s:Shared)(Q:Value->Shared->Prop)(E:Value->Shared->Prop),Q (.int (g i) s.toks) { s with toks:=s.toks + 1 }->wpAny (model X.prog X.w) X.A (f (.int i t)) Q E s) :
  NP X f (rU fun i => .int (g i)):=by
 intro pins s σ H x v Q I rx h
 obtain⟨i,rfl,q⟩:=h
 obtain⟨t,rfl⟩:=rx
 exact rule i t s _ _ ⟨.int (g i),H,I.tok _,⟨_,rfl⟩,q⟩
theorem qB:NP X (unaryOp .USub) (rU fun i => .int (-i)):=unI fun _ _ _ _ _ q=>neg_int q
end
noncomputable def wI:V->V->Bool
 | .yQ, .yQ=>true | .yQ, .int _=>true | .int _, .yQ=>true | .yQ, .bl _=>true | .bl _, .yQ=>true | .yQ, .str _=>true | .str _, .yQ=>true
 | .int _, .int _=>true | .bl _, .bl _=>true | .str _, .str _=>true | .Ce _, .Ce _=>true
 | .int _, .str _=>true | .str _, .int _=>true | .bl _, .str _=>true | .str _, .bl _=>true
 | _,_=>false
noncomputable def rEq:R2:=fun x y H Q=>wI x y=true/\Q (.bl (decide (x=y))) H
noncomputable def rNe:R2:=fun x y H Q=>wI x y=true/\Q (.bl (!decide (x=y))) H
theorem p9 {i j:Int}:decide (V.int i=V.int j)=(i == j):=by
 rw[Bool.eq_iff_iff]
 simp
theorem tM {i j:Bool}:decide (V.bl i=V.bl j)=(i == j):=by
 rw[Bool.eq_iff_iff]
 simp
theorem p7 {i j:Str}:decide (V.str i=V.str j)=(i == j):=by
 rw[Bool.eq_iff_iff]
 simp
theorem pA {i j:Array UInt8}:decide (V.Ce i=V.Ce j)=(i.toList == j.toList):=by
 rw[Bool.eq_iff_iff]
 cases i
 cases j
 simp
section
variable {X:Cx}{a b c:Expr}{ta tb tc:TE}{pos:Pos}
theorem aP {pins:List (Addr × Obj)}{σ:St}{H:Hp}{s:Shared}{Q:VK}{k k':Bool}(I:Inv X pins σ H s)(q:Q (.bl k) H)(e:k=k'):EP X pins σ Q (.bool k') s:=by
 subst e
 exact⟨.bl k,H,I,rfl,q⟩
theorem bK:dQ X (compareOp .Eq) rEq:=by
 intro pins s σ H x y v u Q I rx ry h
 obtain⟨hs,q⟩:=h
 cases x with
 | yQ =>
  cases rx
  cases y with
  | yQ=>cases ry;exact PySem.EqNone.eq_none_none (aP I q (by simp))
  | bl j=>cases ry;exact PySem.EqNone.eq_none_bool (aP I q (by simp))
  | int j=>obtain⟨t',rfl⟩:=ry;exact PySem.EqNone.eq_none_int (aP I q (by simp))
  | str j=>obtain⟨t',rfl⟩:=ry;exact PySem.EqNone.eq_none_str (aP I q (by simp))
  | _=>exact absurd (show false=true from hs) Bool.false_ne_true
 | bl i =>
  cases rx
  cases y with
  | yQ=>cases ry;exact PySem.EqNone.eq_bool_none (aP I q (by simp))
  | bl j=>cases ry;exact eq_bool (aP I q tM)
  | str j=>obtain⟨t',rfl⟩:=ry;exact PySem.EqMixed.eq_bool_str (aP I q (by simp))
  | _=>exact absurd (show false=true from hs) Bool.false_ne_true
 | int i =>
  obtain⟨t,rfl⟩:=rx
  cases y with
  | yQ=>cases ry;exact PySem.EqNone.eq_int_none (aP I q (by simp))
  | int j=>obtain⟨t',rfl⟩:=ry;exact eq_int (aP I q p9)
  | str j=>obtain⟨t',rfl⟩:=ry;exact PySem.EqMixed.eq_int_str (aP I q (by simp))
  | _=>exact absurd (show false=true from hs) Bool.false_ne_true
 | str i =>
  obtain⟨t,rfl⟩:=rx
  cases y with
  | yQ=>cases ry;exact PySem.EqNone.eq_str_none (aP I q (by simp))
  | bl j=>cases ry;exact PySem.EqMixed.eq_str_bool (aP I q (by simp))
  | int j=>obtain⟨t',rfl⟩:=ry;exact PySem.EqMixed.eq_str_int (aP I q (by simp))
  | str j=>obtain⟨t',rfl⟩:=ry;exact eq_str (aP I q p7)
  | _=>exact absurd (show false=true from hs) Bool.false_ne_true
 | Ce i =>
  obtain⟨t,rfl⟩:=rx
  cases y with
  | Ce j=>obtain⟨t',rfl⟩:=ry;exact PySem.W.eq_bytes (aP I q pA)
  | _=>exact absurd (show false=true from hs) Bool.false_ne_true
 | _=>cases y<;>exact absurd (show false=true from hs) Bool.false_ne_true
theorem ik:dQ X (compareOp .NotEq) rNe:=by
 intro pins s σ H x y v u Q I rx ry h
 obtain⟨hs,q⟩:=h
 cases x with
 | yQ =>
  cases rx
  cases y with
  | yQ=>cases ry;exact PySem.EqNone.ne_none_none (aP I q (by simp))
  | bl j=>cases ry;exact PySem.EqNone.ne_none_bool (aP I q (by simp))
  | int j=>obtain⟨t',rfl⟩:=ry;exact PySem.EqNone.ne_none_int (aP I q (by simp))
  | str j=>obtain⟨t',rfl⟩:=ry;exact PySem.EqNone.ne_none_str (aP I q (by simp))
  | _=>exact absurd (show false=true from hs) Bool.false_ne_true
 | bl i =>
  cases rx
  cases y with
  | yQ=>cases ry;exact PySem.EqNone.ne_bool_none (aP I q (by simp))
  | bl j=>cases ry;exact ne_bool (aP I q (congrArg not tM))
  | str j=>obtain⟨t',rfl⟩:=ry;exact PySem.EqMixed.ne_bool_str (aP I q (by simp))
  | _=>exact absurd (show false=true from hs) Bool.false_ne_true
 | int i =>
  obtain⟨t,rfl⟩:=rx
  cases y with
  | yQ=>cases ry;exact PySem.EqNone.ne_int_none (aP I q (by simp))
  | int j=>obtain⟨t',rfl⟩:=ry;exact ne_int (aP I q (congrArg not p9))
  | str j=>obtain⟨t',rfl⟩:=ry;exact PySem.EqMixed.ne_int_str (aP I q (by simp))
  | _=>exact absurd (show false=true from hs) Bool.false_ne_true
 | str i =>
  obtain⟨t,rfl⟩:=rx
  cases y with
  | yQ=>cases ry;exact PySem.EqNone.ne_str_none (aP I q (by simp))
  | bl j=>cases ry;exact PySem.EqMixed.ne_str_bool (aP I q (by simp))
  | int j=>obtain⟨t',rfl⟩:=ry;exact PySem.EqMixed.ne_str_int (aP I q (by simp))
  | str j=>obtain⟨t',rfl⟩:=ry;exact ne_str (aP I q (congrArg not p7))
  | _=>exact absurd (show false=true from hs) Bool.false_ne_true
 | Ce i =>
  obtain⟨t,rfl⟩:=rx
  cases y with
  | Ce j=>obtain⟨t',rfl⟩:=ry;exact PySem.W.ne_bytes (aP I q (congrArg not pA))
  | _=>exact absurd (show false=true from hs) Bool.false_ne_true
 | _=>cases y<;>exact absurd (show false=true from hs) Bool.false_ne_true
theorem l7:dQ X (compareOp .Lt) (qv fun i j => .bl (decide (i < j))):=uM fun _ _ _ _ _ _ _ q=>lt_int q
theorem l8:dQ X (compareOp .LtE) (qv fun i j => .bl (decide (i <= j))):=uM fun _ _ _ _ _ _ _ q=>le_int q
theorem l9:dQ X (compareOp .Gt) (qv fun i j => .bl (decide (j < i))):=uM fun _ _ _ _ _ _ _ q=>gt_int q
theorem wj:dQ X (compareOp .GtE) (qv fun i j => .bl (decide (j <= i))):=uM fun _ _ _ _ _ _ _ q=>ge_int q
theorem gO:dQ X (compareOp .Is) (fun x y H Q=>y = .yQ/\Q (.bl (decide (x = .yQ))) H):=by
 intro pins s σ H x y v u Q I rx ry h
 obtain⟨rfl,q⟩:=h
 cases ry
 refine is_none_gen (aP I q ?_)
 cases x<;>first
  | (cases rx;rfl)
  | (obtain⟨t,rfl⟩:=rx;rfl)
theorem ga:dQ X (compareOp .IsNot) (fun x y H Q=>y = .yQ/\Q (.bl (!decide (x = .yQ))) H):=by
 intro pins s σ H x y v u Q I rx ry h
 obtain⟨rfl,q⟩:=h
 cases ry
 refine isnot_none_gen (aP I q ?_)
 cases x<;>first
  | (cases rx;rfl)
  | (obtain⟨t,rfl⟩:=rx;rfl)
theorem aA (b:Expr){op:CmpOp}(h:autoParam (op ≠ .In) θ)(h2:autoParam (op ≠ .NotIn) θ):behindInMarks op b=false:=by
 have e1:(op == CmpOp.In)=false:=by cases op<;>first | rfl | exact absurd rfl h
 have e2:(op == CmpOp.NotIn)=false:=by cases op<;>first | rfl | exact absurd rfl h2
 cases b<;>simp[behindInMarks,e1,e2]
theorem cy {op:CmpOp}{r:R2}(ho:dQ X (compareOp op) r)(ha:PE X a ta)(hb:PE X b tb)(hm:behindInMarks op b=false):PE X (.Compare a [op] [b] pos) (LL r ta tb):=by
 intro pins s σ H Q I h
 exact wpAny_Compare1 (yp ha hb I h fun v u s2 x y H2 I2 rx ry q=>ho pins s2 σ H2 x y v u Q I2 rx ry q) hm
noncomputable def Ii (t:TE):TT:=fun σ H Q=>t σ H fun x H'=>∃ k,x = .bl k/\Q k H'
theorem ax {op:CmpOp}{r:R2}(ho:dQ X (compareOp op) r)(ha:PE X a ta)(hb:PE X b tb)(hm:behindInMarks op b=false):PT X (.Compare a [op] [b] pos) (Ii (LL r ta tb)):=by
 intro pins s σ H Q I h
 refine wpAny_isTrue_Compare1 (bv (ha pins s σ H _ I h) fun v s1 ⟨x,H1,I1,r1,q1⟩=>bv (hb pins s1 σ H1 _ I1 q1) fun u s2 ⟨y,H2,I2,r2,q2⟩ =>
  bv (ho pins s2 σ H2 x y v u _ I2 r1 r2 q2) fun c s3 ⟨z,H3,I3,r3,k,e,q3⟩=>?_) hm
 subst e
 cases r3
 exact wpAny_truthy_bool ⟨H3,I3,q3⟩
noncomputable def wD (r r':R2)(ta tb tc:TE):TE:=fun σ H Q=>ta σ H fun x H1=>tb σ H1 fun y H2=>r x y H2 fun z H3=>∃ k,z = .bl k /\
 (if k=true then tc σ H3 fun w' H4=>r' y w' H4 Q else Q (.bl false) H3)
theorem l6 {op NU:CmpOp}{r r':R2}(ho:dQ X (compareOp op) r)(DV:dQ X (compareOp NU) r')(ha:PE X a ta)(hb:PE X b tb)(hc:PE X c tc)
  (hm:lastMarks [op,NU] [b,c]=false:=by with_unfolding_all rfl):PE X (.Compare a [op,NU] [b,c] pos) (wD r r' ta tb tc):=by
 intro pins s σ H Q I h
 refine Compare_chain (bv (ha pins s σ H _ I h) fun v s1 ⟨x,H1,I1,r1,q1⟩=>chain_link (bv (hb pins s1 σ H1 _ I1 q1) fun u s2 ⟨y,H2,I2,r2,q2⟩ =>
  bv (ho pins s2 σ H2 x y v u _ I2 r1 r2 q2) fun d s3 ⟨z,H3,I3,r3,k,e,q3⟩=>?_)) hm
 subst e
 cases r3
 refine wpAny_truthy_bool ?_
 cases k with
 | false=>exact ite_ff ⟨.bl false,H3,I3,rfl,q3⟩
 | true=>exact ite_tt (chain_last (bv (hc pins s3 σ H3 _ I3 q3) fun w' s4 yD=>by obtain⟨z',H4,I4,r4,q4⟩:=yD;exact DV pins s4 σ H4 y z' u w' Q I4 r2 r4 q4))
noncomputable def Ij (K:Frag)(x:V)(H:Hp)(k:Bool):Prop :=
 match x with
 | .yQ=>k=false
 | .bl b=>k=b
 | .int i=>k=(i != 0)
 | .str y=>y.length <= sizeLine/\k=((y.length:Int) != 0)
 | .Ce y=>y.size <= sizeLine/\k=((y.size:Int) != 0)
 | .ref p=>(∃ xs,yC K H p xs/\k = !xs.isEmpty)∨(∃ xs,yN K H p xs/\k = !xs.isEmpty)∨∃ yJ,H p=some (.dK yJ)/\k = !yJ.isEmpty
 | _=>False
theorem nU {κ:Type} {yJ:List (κ × V)} {vs:List (κ × Value)} (r:KV yJ vs):(!vs.isEmpty) = !yJ.isEmpty:=by
 cases r<;>rfl
theorem iZ {xs:List V}{yF:List Value}(r:Vals xs yF):(!yF.toArray.isEmpty) = !xs.isEmpty:=by
 cases r<;>simp
theorem gU:(sizeLine:Nat) < 2 ^ 63:=by rw[sizeLine_eq];decide
theorem ww:NQ X (fun x H Q=>∃ k,Ij X.K x H k/\Q k H):=by
 intro pins s σ H x v Q I rx h
 obtain⟨k,e,q⟩:=h
 have hl:=gU
 have hs:sizeLine=16777216:=sizeLine_eq
 cases x with
 | yQ =>
  cases rx
  have e':k=false:=e
  subst e'
  exact truthy_none ⟨H,I,q⟩
 | bl b =>
  cases rx
  have e':k=b:=e
  subst e'
  exact wpAny_truthy_bool ⟨H,I,q⟩
 | int i =>
  obtain⟨t,rfl⟩:=rx
  have e':k=(i != 0):=e
  subst e'
  exact PySem.P.truthy_int ⟨H,I,q⟩
 | str y =>
  obtain⟨t,rfl⟩:=rx
  obtain⟨hy,e'⟩:y.length <= sizeLine/\k=((y.length:Int) != 0):=e
  subst e'
  exact PySem.P.truthy_str (by omega) ⟨H,I.tok _,q⟩
 | Ce y =>
  obtain⟨t,rfl⟩:=rx
  obtain⟨hy,e'⟩:y.size <= sizeLine/\k=((y.size:Int) != 0):=e
  subst e'
  exact PySem.W.truthy_bytes (by omega) ⟨H,I.tok _,q⟩
 | ref p =>
  cases rx
  have e':(∃ xs,yC X.K H p xs/\k = !xs.isEmpty)∨(∃ xs,yN X.K H p xs/\k = !xs.isEmpty)∨∃ yJ,H p=some (.dK yJ)/\k = !yJ.isEmpty:=e
  rcases e' with ⟨xs,hx,e'⟩ | ⟨xs,hx,e'⟩ | ⟨yJ,hx,e'⟩
  ·subst e'
   obtain⟨yF,r,pl,hz⟩:=I.list hx
   have hlen:=r.length
   exact wpAny_truthy_list pl.isList (by simp only[size_toArray];omega) ⟨H,I.tok _,by rw[iZ r];exact q⟩
  ·subst e'
   obtain⟨yF,r,pl,hz⟩:=I.tuple hx
   have hlen:=r.length
   exact truthy_tuple pl (by simp only[size_toArray];omega) ⟨H,I.tok _,by rw[iZ r];exact q⟩
  ·subst e'
   obtain⟨hz,hS,vs,r,m⟩:yJ.length <= sizeLine/\(p == sysModules)=false/\∃ vs,KV yJ vs/\s.heap.DictOf (jY X.prog X.w) p vs:=I.yL p _ hx
   have hlen:yJ.length=vs.length:=Paired.length r
   exact wpAny_truthy_dict hS m (by omega) ⟨H,I.tok _,by rw[nU r];exact q⟩
 | _=>exact(show False from e).elim
theorem e8 (ha:PE X a ta)(he:∀ whole,isTrue a X.env whole=(do let v ← whole;standAt a.pos;holding [v] (truthy v))) :
  PT X a (fun σ H Q=>ta σ H fun x H'=>∃ k,Ij X.K x H' k/\Q k H'):=by
 intro pins s σ H Q I h
 exact isTrue_plain (bv (ha pins s σ H _ I h) fun v s1 yD=>by obtain⟨x,H1,I1,r1,q1⟩:=yD;exact ww pins s1 σ H1 x v Q I1 r1 q1) (he _)
theorem jq {x:V}{us:List Value}(r:Vals [x] us):∃ u,us=[u]/\RelV x u:=by
 cases r with
 | cons r1 r2=>cases r2;exact⟨_,rfl,r1⟩
theorem vals2 {x y:V}{us:List Value}(r:Vals [x,y] us):∃ u w',us=[u,w']/\RelV x u/\RelV y w':=by
 cases r with
 | cons r1 r2 =>
  cases r2 with
  | cons r3 r4=>cases r4;exact⟨_,_,rfl,r1,r3⟩
theorem tR:c6 X (.builtin "abs") (fun xs H Q=>∃ i,xs=[.int i]/\Q (.int (if i < 0 then -i else i)) H):=by
 intro pins s σ H xs us Q I r h
 obtain⟨i,rfl,q⟩:=h
 obtain⟨u,rfl,t,rfl⟩:=jq r
 exact call_abs_int fun u tk=>⟨.int (if i < 0 then -i else i),H,I.tok _,⟨_,rfl⟩,q⟩
theorem qt (hc:X.calm=true):c6 X (.builtin "max") (fun xs H Q=>∃ i j,xs=[.int i, .int j]/\Q (.int (if j > i then j else i)) H):=by
 intro pins s σ H xs us Q I r h
 obtain⟨i,j,rfl,q⟩:=h
 obtain⟨u,w',rfl,⟨t,rfl⟩,⟨t',rfl⟩⟩:=vals2 r
 refine max_two_ints (I.ok.hd hc) fun h' tk k=>⟨_,H,I.kept k,?_,q⟩
 by_cases hj:j > i
 ·rw[if_pos hj,if_pos hj];exact⟨_,rfl⟩
 ·rw[if_neg hj,if_neg hj];exact⟨_,rfl⟩
end
structure BL (h:Heap)(x dx C:Addr)(mA:Str->Option Value):Prop where
 obj:h.get? x=some (PySem.W.instObj C dx)
 ns:h.Ns1 dx mA
 ne:dx ≠ x
theorem qb {h:Heap}{dx:Addr}{mA:Str->Option Value}(n:h.Ns1 dx mA):∃ od,h.get? dx=some od/\∀ name,PySem.W.lookIn name od=some (mA name):=by
 obtain⟨o,es,ep,ho,hd,hk,_,hm⟩:=n
 refine⟨o,ho,fun name=>?_⟩
 have e:=hm name
 unfold nsFind findBy at e
 rw[← Array.find?_toList]at e
 unfold PySem.W.lookIn
 rw[hd]
 dsimp only
 split
 ·rename_i y q
  rw[q]at e
  exact congrArg some e
 ·rename_i q
  rw[q]at e
  have a:es.toList.any (·.refKey)=false:=by
   rw[List.any_eq_false]
   intro y hy
   obtain⟨z,t,NV⟩:=hk y (Array.mem_toList_iff.mp hy)
   simp[DictEntry.refKey,NV]
  have a':¬ es.toList.any (·.refKey)=true:=by rw[a];exact Bool.false_ne_true
  rw[if_neg a']
  exact congrArg some e
theorem BL.look {h:Heap}{x dx C:Addr}{mA:Str->Option Value}(I:BL h x dx C mA):∃ od,PySem.W.InstAt h x (PySem.W.instObj C dx) C (some od)/\∀ name,PySem.W.lookIn name od=some (mA name) :=
 let ⟨od,ho,hl⟩:=qb I.ns
 ⟨od,⟨I.obj,rfl,rfl,ho⟩,hl⟩
section
variable {prog:Program}{w:World}{A:Around}{E:Value->Shared->Prop}{s:Shared}{K:Frag}{x dx C f:Addr}{mA:Str->Option Value}{name:Str}{v:Value}
theorem vy {expr:Bool}{Q:Value->Shared->Prop}(X:K.In s.heap)(I:BL s.heap x dx C mA)(hg:plainGet K C name=true)(hh:hasDictIn K C=true)
  (ha:findIn K (.ref C) name=some none) (hv:mA name=some v) (LM:PySem.W.handedIn v=true) (h:Q v { s with toks:=s.toks + 1 }) :
  wpAny (model prog w) A (getAttr (.ref x) name expr) Q E s:=by
 obtain⟨od,J,hl⟩:=I.look
 exact PySem.W.get_value X J (PySem.W.plainGet_of hg).1 (PySem.W.findObj_own hh ha rfl (by rw[hl,hv])) LM h
theorem t8 {pl:Sem Bool}{Q:Value × List Value->Shared->Prop}(X:K.In s.heap)(I:BL s.heap x dx C mA)(hg:plainGet K C name=true)
  (hf:findIn K (.ref C) name=some (some (.ref f))) (ht:isFn K (.ref f)=true) (hv:mA name=none) (h:Q (.ref f,[.ref x]) s) :
  wpAny (model prog w) A (getMethod (.ref x) name pl) Q E s:=by
 obtain⟨od,J,hl⟩:=I.look
 exact PySem.W.method_fn X J (PySem.W.plainGet_of hg).1 (PySem.W.plainGet_of hg).2 hf (beq_iff_eq.mp ht) (by show(PySem.W.lookIn name od).map (·.isSome)=some false;rw[hl,hv];rfl) h
theorem ur {ns:List Str}{Q:Unit->Shared->Prop}(X:K.In s.heap)(I:BL s.heap x dx C mA)
  (hs:findIn K (.ref C) "__setattr__" = some (some (.builtin "object.__setattr__"))) (hp:plainOver K C=true) (ht:PySem.W.takerIn K C name=some none) (hh:hasDictIn K C=true)
  (hw:PySem.Within mA ns) (hsz:ns.length <= sizeLine)
  (h:∀ h',BL h' x dx C (fun y=>if y=name then some v else mA y)->Heap.SameBut dx s.heap h'->Q () { s with heap:=h',toks:=s.toks + 2 }) :
  wpAny (model prog w) A (setAttr (.ref x) name v) Q E s:=by
 obtain⟨od,J,hl⟩:=I.look
 refine PySem.W.set_plain X J hs (PySem.W.osa_open (s:={ s with toks:=s.toks + 1 }) (r:=none) X J hp ht fun b=>?_)
 obtain⟨cd,hc,Ny⟩:=PySem.W.any_some hh
 have hx:s.heap.get? x=some ⟨.ref C,some dx, .plain,#[]⟩:=I.obj
 refine wpAny_bind (wpAny_pure (wpAny_bind (wpAny_bind (wpAny_loadPart hx (wpAny_bind (PySem.W.Looks.here (s:={ s with toks:=s.toks + 1 }) (PySem.W.looks_clsIn X hc) ?_))))))
 rw[Ny]
 refine wpAny_pure (a:=some dx) (wpAny_bind (wpAny_pure (wpAny_bind ?_)))
 refine wpAny_nsSet1 (s:={ s with toks:=s.toks + 1 }) I.ns fun h' CV DG=>?_
 obtain⟨oD,esD,epD,hoD,Tw,hcD⟩:=CV.count (PySem.Within.cons name v hw)
 refine wpAny_bind (wpAny_lookBehind hoD (by rw[Tw];exact pastItsLine_dict (le_trans hcD (by rw[length_cons];omega))) ?_)
 exact wpAny_pure (h _ ⟨(DG.2 _ (Ne.symm I.ne)).trans I.obj,CV,I.ne⟩ DG)
theorem sX {R:Result->Shared->Prop}{vs:List Value}{kw:List (Str × Value)}(X:K.In s.heap)(hm:makesIn K C=true)
  (hi:findIn K (.ref C) "__init__" = some (some (.ref f))) (hf:PySem.W.typeIn K (.ref f)=some (.type "function"))
  (h:codeAny (model prog w) (A.under (.builtin "type.__call__" ⟨.ref C :: vs,kw⟩)) (.call (.ref f) ⟨.ref (s.heap.objs.size + 1) :: vs,kw⟩) (PySem.W.InitBack (s.heap.objs.size + 1) R)
   { s with heap:=(s.heap.push PySem.W.emptyDict).push (PySem.W.instObj C s.heap.objs.size) }) :
  codeAny (model prog w) A (.call (.ref C) ⟨vs,kw⟩) R s:=by
 obtain⟨hh,g,d,t,os⟩:=s
 exact PySem.W.make_core (PySem.W.makes_of X hm) (PySem.W.looks_findIn X hi) (fun self=>PySem.W.bind_fn X self hf) (.inl rfl) h
end
noncomputable def aM (f:Str)(v:V):List (Str × V)->List (Str × V)
 | []=>[(f,v)]
 | (g,x) :: r=>if g=f then (g,v) :: r else (g,x) :: aM f v r
theorem im (f g:Str)(v:V):∀ fs:List (Str × V),(aM f v fs).lookup g=if g=f then some v else fs.lookup g
 | []=>by
  show List.lookup g [(f,v)]=_
  by_cases h:g=f
  ·have hb:(g == f)=true:=beq_iff_eq.mpr h
   simp only[List.lookup,hb,if_pos h]
  ·have hb:(g == f)=false:=beq_eq_false_iff_ne.mpr h
   simp only[List.lookup,hb,if_neg h]
 | (k,x) :: r=>by
  have ih:=im f g v r
  rw[show aM f v ((k,x) :: r)=(if k=f then (k,v) :: r else (k,x) :: aM f v r) from rfl]
  by_cases hk:k=f
  ·rw[if_pos hk]
   by_cases h:g=k
   ·have hb:(g == k)=true:=beq_iff_eq.mpr h
    simp only[List.lookup,hb,if_pos (h.trans hk)]
   ·have hb:(g == k)=false:=beq_eq_false_iff_ne.mpr h
    simp only[List.lookup,hb,if_neg (fun e:g=f=>h (e.trans hk.symm))]
  ·rw[if_neg hk]
   by_cases h:g=k
   ·have hb:(g == k)=true:=beq_iff_eq.mpr h
    simp only[List.lookup,hb,if_neg (fun e:g=f=>hk (h.symm.trans e))]
   ·have hb:(g == k)=false:=beq_eq_false_iff_ne.mpr h
    simp only[List.lookup,hb]
    exact ih
theorem gX (f:Str)(v:V):∀ fs:List (Str × V),f ∈ (aM f v fs).map (·.1)/\∀ g,g ∈ fs.map (·.1)->g ∈ (aM f v fs).map (·.1)
 | []=>⟨by simp[aM],fun g h=>by simp at h⟩
 | (k,x) :: r=>by
  obtain⟨i1,i2⟩:=gX f v r
  rw[show aM f v ((k,x) :: r)=(if k=f then (k,v) :: r else (k,x) :: aM f v r) from rfl]
  by_cases hk:k=f
  ·rw[if_pos hk]
   subst hk
   exact⟨by simp,fun g h=>by simpa using h⟩
  ·rw[if_neg hk]
   refine⟨?_,fun g h=>?_⟩
   ·rw[map_cons]
    exact mem_cons_of_mem _ i1
   ·rw[map_cons]at h ⊢
    rcases mem_cons.mp h with e | e
    ·exact mem_cons.mpr (.inl e)
    ·exact mem_cons_of_mem _ (i2 g e)
theorem io (f:Str)(v:V):∀ fs:List (Str × V),(aM f v fs).length <= fs.length + 1
 | []=>by simp[aM]
 | (k,x) :: r=>by
  have ih:=io f v r
  rw[show aM f v ((k,x) :: r)=(if k=f then (k,v) :: r else (k,x) :: aM f v r) from rfl]
  by_cases hk:k=f
  ·rw[if_pos hk,length_cons,length_cons];omega
  ·rw[if_neg hk,length_cons,length_cons];omega
theorem Al.some_of {v:V}{o:Option Value}(r:Al (some v) o):∃ u,o=some u/\RelV v u:=by
 cases o with
 | none=>exact(show False from r).elim
 | some u=>exact⟨u,rfl,r⟩
theorem Al.none_of {o:Option Value}(r:Al none o):o=none:=by
 cases o with
 | none=>rfl
 | some u=>exact(show False from r).elim
theorem qi {v:V}{u:Value}(r:RelV v u):PySem.W.handedIn u=true:=by
 cases v with
 | yQ=>cases (show u=Value.none from r);rfl
 | bl b=>cases (show u=Value.bool b from r);rfl
 | int i=>obtain⟨t,e⟩:=(show ∃ t,u=Value.int i t from r);cases e;rfl
 | str x=>obtain⟨t,e⟩:=(show ∃ t,u=Value.str x t from r);cases e;rfl
 | Ce b=>obtain⟨t,e⟩:=(show ∃ t,u=Value.bytes b t from r);cases e;rfl
 | Fu b=>obtain⟨t,e⟩:=(show ∃ t,u=Value.float b t from r);cases e;rfl
 | ref a=>cases (show u=Value.ref a from r);rfl
 | ty n=>cases (show u=Value.type n from r);rfl
section
variable {P:Program}{w:World}{H H':Hp}{h h':Heap}{a C dx:Addr}{fs Cg:List (Str × V)}
theorem iC (yL:Aq P w H h)(e:H a=some (.ins C dx fs)):∃ mA,BL h a dx C mA/\(∀ f,Al (fs.lookup f) (mA f))/\PySem.Within mA (fs.map (·.1))/\fs.length <= 1000/\H dx=some (.own a):=by
 obtain⟨d,z,ne,ob,mA,n,r,q⟩:=(show zd P w H h a (.ins C dx fs) from yL a _ e)
 exact⟨mA,⟨ob,n,ne⟩,r,q,z,d⟩
end
structure Bi (K:Frag)(C:Addr):Prop where
 pg:plainGet K C Str.empty=true
 hd:hasDictIn K C=true
 po:plainOver K C=true
 sa:findIn K (.ref C) "__setattr__" = some (some (.builtin "object.__setattr__"))
theorem Bi.get {K:Frag}{C:Addr}(c:Bi K C)(f:Str):plainGet K C f=true:=c.pg
noncomputable def yP (K:Frag)(C:Addr)(f:Str):Prop:=findIn K (.ref C) f=some none
theorem yP.Ik {K:Frag}{C:Addr}{f:Str}(n:yP K C f):PySem.W.takerIn K C f=some none:=by
 unfold PySem.W.takerIn
 rw[show findIn K (.ref C) f=some none from n]
 rfl
structure bM (K:Frag)(C:Addr)(m:Str)(f:Addr):Prop where
 at_:findIn K (.ref C) m=some (some (.ref f))
 fn:isFn K (.ref f)=true
 kp:keepIn K (.ref f)=true
section
variable {X:Cx}{pins:List (Addr × Obj)}{σ:St}{H:Hp}{s:Shared}{a C dx:Addr}{fs:List (Str × V)}{f:Str}{v:V}{A:Around}{E:Value->Shared->Prop}
theorem jc {b:Bool}{Q:Value->Shared->Prop}(I:Inv X pins σ H s)(e:H a=some (.ins C dx fs))(c:Bi X.K C)(n:yP X.K C f)(l:fs.lookup f=some v)
  (h:∀ u s',Inv X pins σ H s'->RelV v u->Q u s'):wpAny (model X.prog X.w) A (getAttr (.ref a) f b) Q E s:=by
 obtain⟨mA,O,r,_,_,_⟩:=iC I.yL e
 obtain⟨u,hu,ru⟩:=Al.some_of (v:=v) (o:=mA f) (by rw[← l];exact r f)
 exact vy I.Ac O (c.get f) c.hd n hu (qi ru) (h u _ (I.tok _) ru)
theorem jb {m:Str}{g:Addr}{pl:Sem Bool}{Q:Value × List Value->Shared->Prop}(I:Inv X pins σ H s)(e:H a=some (.ins C dx fs))(c:Bi X.K C)(k:bM X.K C m g)(l:fs.lookup m=none)
  (h:Q (.ref g,[.ref a]) s):wpAny (model X.prog X.w) A (getMethod (.ref a) m pl) Q E s:=by
 obtain⟨mA,O,r,_,_,_⟩:=iC I.yL e
 have hn:mA m=none:=Al.none_of (by rw[← l];exact r m)
 exact t8 I.Ac O (c.get m) k.at_ k.fn hn h
theorem iL {y:V}{u:Value}{Q:Unit->Shared->Prop}(I:Inv X pins σ H s)(e:H a=some (.ins C dx fs))(c:Bi X.K C)(n:yP X.K C f)(hl:fs.length < 1000)(ry:RelV y u)
  (h:∀ s',Inv X pins σ (upd H a (.ins C dx (aM f y fs))) s'->Q () s'):wpAny (model X.prog X.w) A (setAttr (.ref a) f u) Q E s:=by
 obtain⟨mA,O,r,wi,_,ho⟩:=iC I.yL e
 have hz:(fs.map (·.1)).length <= sizeLine:=by rw[length_map,sizeLine_eq];omega
 refine ur I.Ac O c.sa c.po n.Ik c.hd wi hz fun h' O' sb=>h _ ?_
 have hd:∃ o,h'.get? dx=some o:=let ⟨o,_,_,e',_⟩:=O'.ns; ⟨o,e'⟩
 refine I.write (x:=a) (e:=dx) (by rw[e];exact True.intro) (.inr ho) (fun b q hb z=>(sb.2 b hb).trans z) hd ?_
 refine⟨by rw[af O.ne];exact ho,?_,O.ne,O'.obj,_,O'.ns,fun g=>?_,fun g hg=>?_⟩
 ·have:=io f y fs;omega
 ·show Al ((aM f y fs).lookup g) (if g=f then some u else mA g)
  rw[im]
  by_cases q:g=f
  ·rw[if_pos q,if_pos q];exact ry
  ·rw[if_neg q,if_neg q];exact r g
 ·by_cases q:g=f
  ·rw[q];exact(gX f y fs).1
  ·refine(gX f y fs).2 g (wi g fun z=>hg ?_)
   show(if g=f then some u else mA g)=none
   rw[if_neg q];exact z
theorem Inv.made (I:Inv X pins σ H s):Inv X pins σ (upd (upd H s.heap.objs.size (.own (s.heap.objs.size + 1))) (s.heap.objs.size + 1) (.ins C s.heap.objs.size []))
  { s with heap:=(s.heap.push PySem.W.emptyDict).push (PySem.W.instObj C s.heap.objs.size) }:=by
 have e1:(s.heap.push PySem.W.emptyDict).get? s.heap.objs.size=some PySem.W.emptyDict:=Heap.get?_push_size s.heap rfl
 have e2:((s.heap.push PySem.W.emptyDict).push (PySem.W.instObj C s.heap.objs.size)).get? (s.heap.objs.size + 1)=some (PySem.W.instObj C s.heap.objs.size):=by
  have:=Heap.get?_push_size (s.heap.push PySem.W.emptyDict) (o:=PySem.W.instObj C s.heap.objs.size) rfl
  rwa [size_push]at this
 have e3:(s.heap.push PySem.W.emptyDict).Ns s.heap.objs.size (fun _=>none):=⟨PySem.W.emptyDict,#[],_,e1,rfl,(fun e he=>absurd he (by simp)),fun _=>rfl⟩
 have I1:=I.laid (a:=s.heap.objs.size) (o := .own (s.heap.objs.size + 1)) (h':=s.heap.push PySem.W.emptyDict) (t':=s.toks) (fun b u q=>Heap.get?_push_of_some _ q) (Nat.le_refl _) ⟨_,e1⟩
 refine I1.laid (a:=s.heap.objs.size + 1) (o := .ins C s.heap.objs.size []) (t':=s.toks) (fun b u q=>Heap.get?_push_of_some _ q) (le_of_eq (size_push _ _)) ?_
 have ne:s.heap.objs.size ≠ s.heap.objs.size + 1:=ne_of_lt (lt_succ_self _)
 refine⟨by rw[af ne,ad],zero_le _,ne,e2,fun _=>none,(Heap.Ns1.of_empty e3).at fun o q=>Heap.get?_push_of_some _ q,fun _=>True.intro,fun y hy=>absurd rfl hy⟩
theorem vF {prog:Program}{w:World}{env:Env}{e:Expr}{f:Str}{pos:Pos}{s:Shared}{Q:Value->Shared->Prop}(hb:attributeBase e f env (eval e env)=eval e env)
  (h:wpAny (model prog w) A (eval e env) (fun o s₁=>wpAny (model prog w) A (getAttr o f true) Q E s₁) E s):wpAny (model prog w) A (eval (.Attribute e f pos) env) Q E s :=
 Attribute_any_ h (by rw[arm_eval_Attribute,hb])
end
noncomputable def kQ (K:Frag)(ta:TE)(f:Str):TE:=fun σ H Q=>ta σ H fun x H1=>∃ a C dx fs v,x = .ref a/\H1 a=some (.ins C dx fs)/\Bi K C/\yP K C f/\fs.lookup f=some v/\Q v H1
noncomputable def NW (K:Frag)(ta tv:TE)(f:Str):TS:=fun D σ H=>tv σ H fun y H1=>ta σ H1 fun x H2=>∃ a C dx fs,x = .ref a/\H2 a=some (.ins C dx fs)/\Bi K C/\yP K C f/\fs.length < 1000 /\
 D.nx σ (upd H2 a (.ins C dx (aM f y fs)))
noncomputable def NX (X:Cx)(op:Operator)(rd:V->V->Hp->VK->Prop):Prop :=
 ∀ (pins:List (Addr × Obj))(s:Shared)(σ:St)(H:Hp)(x y:V)(u v:Value)(Q:VK),Inv X pins σ H s->RelV x u->RelV y v->rd x y H Q->wpAny (model X.prog X.w) X.A (inplaceOp op u v) (EP X pins σ Q) X.xe s
noncomputable def uy (K:Frag)(ta tv:TE)(rd:V->V->Hp->VK->Prop)(f:Str):TS:=fun D σ H=>ta σ H fun x H1=>∃ a C dx fs v,x = .ref a/\H1 a=some (.ins C dx fs)/\Bi K C/\yP K C f/\fs.lookup f=some v /\
 tv σ H1 fun y H2=>rd v y H2 fun z H3=>∃ C0 Cg,H3 a=some (.ins C C0 Cg)/\Cg.length < 1000/\D.nx σ (upd H3 a (.ins C C0 (aM f z Cg)))
section
variable {X:Cx}{o e value:Expr}{f:Str}{pos pos' C2:Pos}{ta tv:TE}
theorem am (he:PE X e ta)(hb:attributeBase e f X.env (eval e X.env)=eval e X.env):PE X (.Attribute e f pos) (kQ X.K ta f):=by
 intro pins s σ H Q I h
 refine vF hb (bv (he pins s σ H _ I h) fun u s1 yD=>?_)
 obtain⟨x,H1,I1,rx,a,C,dx,fs,v,ex,ea,c,n,l,q⟩:=yD
 subst ex
 obtain rfl:u=Value.ref a:=rx
 exact jc I1 ea c n l fun u' s2 I2 ru=>⟨v,H1,I2,ru,q⟩
theorem aZ (ha:PE X o ta)(hv:PE X value tv)(hs:swapsWith value (some (.Attribute o f pos')) pos.line X.env=pure false):PS X (.Assign [.Attribute o f pos'] value pos) (NW X.K ta tv f):=by
 intro pins s σ H D I h
 refine plainObj_wpAny_Assign_Attribute (bv (hv pins s σ H _ I h) fun u s1 ⟨y,H1,I1,ry,q⟩=>bv (ha pins s1 σ H1 _ I1 q) fun ov s2 yD=>?_) hs
 obtain⟨x,H2,I2,rx,a,C,dx,fs,ex,ea,c,n,l,q2⟩:=yD
 subst ex
 obtain rfl:ov=Value.ref a:=rx
 exact iL I2 ea c n l ry fun s3 I3=>⟨σ,_,I3,q2⟩
theorem cY {op:Operator}{rd:V->V->Hp->VK->Prop}(ha:PE X o ta)(hv:PE X value tv)(zy:NX X op rd):PS X (.AugAssign (.Attribute o f C2) op value pos) (uy X.K ta tv rd f):=by
 intro pins s σ H D I h
 refine wpAny_AugAssign_AttributeAny (bv (ha pins s σ H _ I h) fun ov s1 yD=>?_)
 obtain⟨x,H1,I1,rx,a,C,dx,fs,v,ex,ea,c,n,l,q⟩:=yD
 subst ex
 obtain rfl:ov=Value.ref a:=rx
 refine jc I1 ea c n l fun u s2 I2 ru=>bv (hv pins s2 σ H1 _ I2 q) fun w3 s3 ⟨y,H2,I3,ry,q3⟩=>bv (zy pins s3 σ H2 v y u w3 _ I3 ru ry q3) fun w4 s4 yD=>?_
 obtain⟨z,H3,I4,rz,C0,Cg,ea',l',q4⟩:=yD
 exact iL I4 ea' c n l' rz fun s5 I5=>⟨σ,_,I5,q4⟩
end
section
variable {X:Cx}{pins:List (Addr × Obj)}{σ:St}{H:Hp}{s:Shared}{A:Around}{E:Value->Shared->Prop}{Q:Value->Shared->Prop}{c:Value}{b:Bool}
inductive ia (K:Frag)(H:Hp):V->Value->Prop where
 | yQ:ia K H .yQ (.type "NoneType")
 | bl (x:Bool):ia K H (.bl x) (.type "bool")
 | int (i:Int):ia K H (.int i) (.type "int")
 | str (x:Str):ia K H (.str x) (.type "str")
 | Fu (x:UInt64):ia K H (.Fu x) (.type "float")
 | lst {a:Addr} {xs:List V} (e:H a=some (.lst xs)):ia K H (.ref a) (.type "list")
 | Cf {a:Addr} {o:Obj} {xs:List V} (e:H a=some (.Cf o (.lst xs))):ia K H (.ref a) (.type "list")
 | tup {a:Addr} {xs:List V} (e:H a=some (.tup xs)):ia K H (.ref a) (.type "tuple")
 | dK {a:Addr} {yJ:List (jo × V)} (e:H a=some (.dK yJ)):ia K H (.ref a) (.type "dict")
 | dT {a:Addr} {yJ:List (List jo × V)} (e:H a=some (.dT yJ)):ia K H (.ref a) (.type "dict")
 | ins {a C dx:Addr} {fs:List (Str × V)} (e:H a=some (.ins C dx fs)) (cl:Bi K C) (ha:findIn K (.ref C) "__class__" = some (some (.builtin "object.__class__")))
   (hn:PySem.W.specialIn K (.builtin "object.__class__") "__get__" = some (some (.builtin "getset_descriptor.__get__"))) (Tx:PySem.W.takesIn K (.builtin "object.__class__")=some true)
   (hm:PySem.W.mroIn K C (.type "object")=some true):ia K H (.ref a) (.ref C)
theorem qe {x:V}{u t:Value}(I:Inv X pins σ H s)(rx:RelV x u)(ty:ia X.K H x t)(e:kitOne X.K t c=some b)(h:∀ tk,Q (.bool b) { s with toks:=tk }) :
  wpAny (model X.prog X.w) A (call (.builtin "isinstance") [u,c]) Q E s:=by
 cases ty with
 | yQ=>cases (show u=Value.none from rx);exact PySem.W.kia_one PySem.W.kitx_none I.Ac True.intro e (fun z=>nomatch z) h
 | bl y=>cases (show u=Value.bool y from rx);exact PySem.W.kia_one PySem.W.kitx_bool I.Ac True.intro e (fun z=>nomatch z) h
 | int i=>obtain⟨t,q⟩:=(show ∃ t,u=Value.int i t from rx);cases q;exact PySem.W.kia_one PySem.W.kitx_int I.Ac True.intro e (fun z=>nomatch z) h
 | str y=>obtain⟨t,q⟩:=(show ∃ t,u=Value.str y t from rx);cases q;exact PySem.W.kia_one PySem.W.kitx_str I.Ac True.intro e (fun z=>nomatch z) h
 | Fu y=>obtain⟨t,q⟩:=(show ∃ t,u=Value.float y t from rx);cases q;exact PySem.W.kia_one PySem.W.kitx_float I.Ac True.intro e (fun z=>nomatch z) h
 | @lst a xs ea =>
  cases (show u=Value.ref a from rx)
  obtain⟨_,_,n,_,h1⟩:=(show zd X.prog X.w H s.heap a (.lst xs) from I.yL a _ ea)
  exact PySem.W.kia_one PySem.W.kitx_list I.Ac ⟨_,h1,rfl⟩ e (fun z=>nomatch z) h
 | @Cf a ob xs ea =>
  cases (show u=Value.ref a from rx)
  obtain⟨_,_,_,n,_,h1⟩:=(show zd X.prog X.w H s.heap a (.Cf ob (.lst xs)) from I.yL a _ ea)
  exact PySem.W.kia_one PySem.W.kitx_list I.Ac ⟨_,h1,rfl⟩ e (fun z=>nomatch z) h
 | @tup a xs ea =>
  cases (show u=Value.ref a from rx)
  obtain⟨_,_,_,p⟩:=(show zd X.prog X.w H s.heap a (.tup xs) from I.yL a _ ea)
  obtain⟨o,h1,⟨h2,_⟩,_⟩:=p
  exact PySem.W.kia_one PySem.W.kitx_tuple I.Ac ⟨o,h1,h2⟩ e (fun z=>nomatch z) h
 | @dK a yJ ea =>
  cases (show u=Value.ref a from rx)
  obtain⟨_,_,vs,_,p⟩:=(show zd X.prog X.w H s.heap a (.dK yJ) from I.yL a _ ea)
  obtain⟨o,es,ep,h1,h2,_⟩:=p
  exact PySem.W.kia_one PySem.W.kitx_dict I.Ac ⟨o,h1,h2.1⟩ e (fun z=>nomatch z) h
 | @dT a yJ ea =>
  cases (show u=Value.ref a from rx)
  obtain⟨_,_,xs,_,o,es,ep,h1,h2,_⟩:=(show zd X.prog X.w H s.heap a (.dT yJ) from I.yL a _ ea)
  exact PySem.W.kia_one PySem.W.kitx_dict I.Ac ⟨o,h1,h2.1⟩ e (fun z=>nomatch z) h
 | @ins a C dx fs ea cl ha hn Tx hm =>
  cases (show u=Value.ref a from rx)
  obtain⟨mA,O,_⟩:=iC I.yL ea
  obtain⟨od,J,_⟩:=O.look
  exact PySem.W.kia_one (PySem.W.kitx_own (cl.get _) cl.hd ha hn Tx hm) I.Ac J e (fun z=>nomatch z) h
end
structure yK (k:Nat)(A:Around):Prop where
 hd:A.handled=none
 dp:A.depth + 3 * k + 5 < recursionLimit
 un:A.units + 16 * k + 200 < cLine
theorem yK.mono {j k:Nat}{A:Around}(r:yK k A)(h:j <= k):yK j A:=⟨r.hd,by have:=r.dp;omega,by have:=r.un;omega⟩
theorem yK.deeper {k:Nat}{A:Around}(r:yK (k + 1) A)(env:Env):yK k (A.deeper env) :=
 ⟨r.hd,by have:=r.dp;show A.depth + 1 + 3 * k + 5 < _;omega,by have:=r.un;show A.units + 3 + 16 * k + 200 < _;omega⟩
theorem yK.in1 {k:Nat}{A:Around}(r:yK (k + 1) A):yK k A.in1 :=
 ⟨r.hd,by have:=r.dp;show A.depth + 3 * k + 5 < _;omega,by have:=r.un;show A.units + 1 + 16 * k + 200 < _;omega⟩
theorem nO {A:Around}{C:Addr}{us:List Value}{kw:List (Str × Value)}:(A.under (.builtin "type.__call__" ⟨.ref C :: us,kw⟩)).depth=A.depth + 1:=by
 first | rfl | simp[Around.under,Code.weight,Code.isCreation,Code.isGuard,Code.isCaller,Code.frames,Code.isFrame,guardIds]
theorem nN {A:Around}{C:Addr}{us:List Value}{kw:List (Str × Value)}:(A.under (.builtin "type.__call__" ⟨.ref C :: us,kw⟩)).units=A.units + 1:=by
 first | rfl | simp[Around.under,Code.cUnits,Code.frames,Code.isFrame]
theorem yK.make {k:Nat}{A:Around}(r:yK (k + 1) A)(C:Addr)(us:List Value)(kw:List (Str × Value)):yK k (A.under (.builtin "type.__call__" ⟨.ref C :: us,kw⟩)) :=
 ⟨r.hd,by have:=r.dp;rw[nO];omega,by have:=r.un;rw[nN];omega⟩
theorem yK.depth {k:Nat}{A:Around}(r:yK k A):A.depth < recursionLimit:=by have:=r.dp;omega
theorem yK.units {k:Nat}{A:Around}(r:yK k A):A.units + 64 < cLine:=by have:=r.un;omega
noncomputable def Il:TA:=fun _ H Q=>Q [] H
noncomputable def Im (ta:TE)(tr:TA):TA:=fun σ H Q=>ta σ H fun x H1=>tr σ H1 fun xs H2=>Q (x :: xs) H2
section
variable {X:Cx}{e:Expr}{es:List Expr}{te:TE}{t:TA}{pos:Pos}
theorem ac:PA X [] Il:=fun _ _ _ _ H Q I h=>Calls.spliced_nil ⟨[],H,I, .nil,h⟩
theorem aa (ha:PE X e te)(hr:PA X es t)(hs:autoParam (starEach (e :: es) X.env=(false,eval e X.env) :: starEach es X.env) η):PA X (e :: es) (Im te t):=by
 intro pos pins s σ H Q I h
 rw[hs]
 show wpAny _ _ (spliced ((false,eval e X.env) :: backTo pos (starEach es X.env))) _ _ s
 refine Calls.spliced_cons (bv (ha pins s σ H _ I h) fun u s1 yD=>?_)
 obtain⟨x,H1,I1,r1,q1⟩:=yD
 exact bv (hr pos pins s1 σ H1 _ I1 q1) fun us s2 yD=>by obtain⟨xs,H2,I2,r2,q2⟩:=yD;exact⟨x :: xs,H2,I2, .cons r1 r2,q2⟩
noncomputable def NY (t:TA):TE:=fun σ H Q=>t σ H fun xs H1=>xs.length <= sizeLine/\∀ p,H1 p=none->Q (.ref p) (upd H1 p (.tup xs))
noncomputable def NZ (t:TA):TE:=fun σ H Q=>t σ H fun xs H1=>xs.length <= sizeLine/\∀ p,H1 p=none->Q (.ref p) (upd H1 p (.lst xs))
theorem bj {x1} (h:PA X es t):PE X (.Tuple es x1 pos) (NY t):=by
 intro pins s σ H Q I hq
 refine wpAny_Tuple_spliced (bv (h pos pins s σ H _ I hq) fun us s1 ⟨xs,H1,I1,r,z,q⟩=>⟨by rw[← r.length];exact z,?_⟩)
 have hf:H1 s1.heap.objs.size=none:=I1.yL.fresh (Nat.le_refl _)
 refine⟨.ref s1.heap.objs.size,upd H1 s1.heap.objs.size (.tup xs),I1.laid (t':=s1.toks) (fun b u e=>Heap.get?_push_of_some _ e) (Nat.le_refl _) ?_,rfl,q _ hf⟩
 exact⟨z,us,r,⟨_,Heap.get?_push_size _ rfl,⟨rfl,_,rfl⟩,rfl⟩⟩
theorem aR (h:PA X es t):PE X (.List es pos) (NZ t):=by
 intro pins s σ H Q I hq
 refine wpAny_List_spliced (bv (h pos pins s σ H _ I hq) fun us s1 ⟨xs,H1,I1,r,z,q⟩=>⟨by rw[← r.length];exact z,?_⟩)
 have hf:H1 s1.heap.objs.size=none:=I1.yL.fresh (Nat.le_refl _)
 refine⟨.ref s1.heap.objs.size,upd H1 s1.heap.objs.size (.lst xs),I1.laid (t':=s1.toks) (fun b u e=>Heap.get?_push_of_some _ e) (Nat.le_refl _) ?_,rfl,q _ hf⟩
 exact⟨z,us,0,r,Heap.get?_push_size _ rfl⟩
end
abbrev Sp:=List V->Hp->VK->XK->Prop
abbrev mE:=List Env->Hp->Shared->XK->Value->Shared->Prop
structure Bw (P:Program)(w:World)(K:Frag)(mg:Str->Option Value)(base:Heap)(A:Around)(outer:List Env)(s:Shared)(H:Hp):Prop where
 frames:A.frames=some outer
 mod:Mod K mg base
 bs:∀ b o,base.get? b=some o->s.heap.get? b=some o/\H b=none
 Cy:base.objs.size <= s.heap.objs.size
 zO:s.heap.FunFrames base outer
 CT:∀ b ∈ kM outer,H b=none
 yL:Aq P w H s.heap
 bare:AllBare s.gens
noncomputable def CE (outer:List Env)(P:Program)(w:World)(H:Hp)(s:Shared)(Q:VK)(u:Value)(s':Shared):Prop :=
 ∃ v H',s'.os=s.os/\AllBare s'.gens/\Un (kM outer) [] H H' s.heap s'.heap/\Aq P w H' s'.heap/\RelV v u/\Q v H'
noncomputable def CR (CX:mE)(outer:List Env)(P:Program)(w:World)(H:Hp)(s:Shared)(Q:VK)(E:XK)(r:Result)(s':Shared):Prop :=
 match r with
 | .ok (.ret u)=>CE outer P w H s Q u s'
 | .ok _=>False
 | .error e=>CX outer H s E e s'
structure y9 (P:Program)(w:World)(K:Frag)(mg:Str->Option Value)(base:Heap)(CX:mE)(k:Nat)(f:Addr)(fd:FuncData)(ps:List Str)(sp:Sp):Prop where
 len:∀ vs H Q E,sp vs H Q E->vs.length=ps.length
 run:∀ (A:Around)(outer:List Env)(s:Shared)(H:Hp)(args:Args)(us:List Value)(vs:List V)(Q:VK)(E:XK),yK k A->Bw P w K mg base A outer s H->BindsTo s fd args (ps.zip us)->Vals vs us->sp vs H Q E ->
  codeAny (model P w) A (.call (.ref f) args) (CR CX outer P w H s Q E) s
theorem y9.imp {P:Program}{w:World}{K:Frag}{mg:Str->Option Value}{base:Heap}{CX:mE}{k:Nat}{f:Addr}{fd:FuncData}{ps:List Str}{sp Tz:Sp}(F:y9 P w K mg base CX k f fd ps sp)
  (h:∀ vs H Q E,Tz vs H Q E->sp vs H Q E):y9 P w K mg base CX k f fd ps Tz :=
 ⟨fun vs H Q E q=>F.len vs H Q E (h _ _ _ _ q),fun A outer s H args us vs Q E hr he hb hv hs=>F.run A outer s H args us vs Q E hr he hb hv (h _ _ _ _ hs)⟩
theorem Bw.make {P:Program}{w:World}{K:Frag}{mg:Str->Option Value}{base:Heap}{A:Around}{outer:List Env}{s:Shared}{H:Hp}(e:Bw P w K mg base A outer s H)(C:Addr)(us:List Value)(kw:List (Str × Value)) :
  Bw P w K mg base (A.under (.builtin "type.__call__" ⟨.ref C :: us,kw⟩)) outer s H:=⟨by first | exact e.frames | (simpa [Around.under,Code.envs,Code.isFrame,pushEnvs] using e.frames),e.mod,e.bs,e.Cy,e.zO,e.CT,e.yL,e.bare⟩
section
variable {X:Cx}{pins:List (Addr × Obj)}{σ:St}{H:Hp}{s s':Shared}
theorem Inv.Io (I:Inv X pins σ H s):Bw X.prog X.w X.K X.mg X.base X.A X.stack s H :=
 ⟨I.ok.frames,I.ok.mod,I.bs,le_trans I.ok.Cy I.sz,I.stack,I.Bh,I.yL,I.bare⟩
theorem Inv.after {Q:VK}{u:Value}(I:Inv X pins σ H s)(h:CE X.stack X.prog X.w H s Q u s'):EP X pins σ Q u s':=by
 obtain⟨v,H',os,bare,un,yL,r,q⟩:=h
 obtain⟨hh,g,d,t,os'⟩:=s'
 obtain rfl:os' = s.os:=os
 exact⟨v,H',I.call (h':=hh) (g':=g) (d':=d) (t':=t) (ch:=[]) un yL bare (fun b z=>absurd z (by simp)),r,q⟩
end
noncomputable def Ip (sp:Sp)(zS:List V)(E:XK)(t:TA):TE:=fun σ H Q=>t σ H fun vs H1=>sp (vs ++ zS) H1 Q E
noncomputable def vO (C:Addr)(m:Str)(sp:Sp)(zS:List V)(E:XK)(ta:TE)(t:TA):TE:=fun σ H Q=>ta σ H fun x H1=>∃ a dx fs,x = .ref a/\H1 a=some (.ins C dx fs)/\fs.lookup m=none /\
 t σ H1 fun vs H2=>sp (x :: (vs ++ zS)) H2 Q E
noncomputable def Iq (C:Addr)(sp:Sp)(zS:List V)(E:XK)(t:TA):TE:=fun σ H Q=>t σ H fun vs H1=>∀ x dx,H1 x=none->H1 dx=none->dx ≠ x ->
 sp (.ref x :: (vs ++ zS)) (upd (upd H1 dx (.own x)) x (.ins C dx [])) (fun v H2=>v = .yQ/\Q (.ref x) H2) E
noncomputable def Binds (K:Frag)(fd:FuncData)(ps:List Str)(ds:List Value):Prop :=
 ∀ (s:Shared)(us:List Value),K.In s.heap->(us ++ ds).length=ps.length->BindsTo s fd ⟨us,[]⟩ (ps.zip (us ++ ds))
theorem Binds.all {K:Frag}{fd:FuncData}{ps:List Str}(h:∀ us:List Value,us.length=ps.length->bindArgs fd ⟨us,[]⟩ = pure (ps.zip us)):Binds K fd ps []:=fun s us _ hl=>by
 rw[append_nil]at hl ⊢
 exact .of_eq (h us hl)
noncomputable def eK (CX:mE)(X:Cx)(E:XK):Prop:=∀ (pins:List (Addr × Obj))(σ:St)(H:Hp)(s:Shared)(e:Value)(s':Shared),Inv X pins σ H s->CX X.stack H s E e s'->X.xe e s'
section
variable {X:Cx}{CX:mE}{k:Nat}{f C:Addr}{fd:FuncData}{ps:List Str}{sp:Sp}{zS:List V}{ds:List Value}{E:XK}{x m:Str}{p pos apos:Pos}{e o:Expr}{es:List Expr}{ta:TE}{t:TA}
theorem jQ {pins:List (Addr × Obj)}{σ:St}{H:Hp}{s:Shared}{Q:VK}{us:List Value}{vs:List V}(F:y9 X.prog X.w X.K X.mg X.base CX k f fd ps sp)(hr:yK k X.A)(hb:Binds X.K fd ps ds)(hd:Vals zS ds)(hx:eK CX X E)
  (I:Inv X pins σ H s) (r:Vals vs us) (h:sp (vs ++ zS) H Q E):wpAny (model X.prog X.w) X.A (call (.ref f) us) (EP X pins σ Q) X.xe s:=by
 have r2:Vals (vs ++ zS) (us ++ ds):=r.append hd
 have hl:(us ++ ds).length=ps.length:=by rw[← r2.length];exact F.len _ _ _ _ h
 refine wpAny_call (codeAny_mono (F.run X.A X.stack s H ⟨us,[]⟩ (us ++ ds) (vs ++ zS) Q E hr I.Io (hb s us I.Ac hl) r2 h) fun r s' hq=>?_)
 cases r with
 | error e=>exact hx pins σ H s e s' I hq
 | ok fl =>
  cases fl with
  | ret u=>exact I.after hq
  | next=>exact False.elim hq
  | brk=>exact False.elim hq
  | cont=>exact False.elim hq
theorem au (F:y9 X.prog X.w X.K X.mg X.base CX k f fd ps sp)(hr:yK k X.A)(hg:Gl X x)(hm:X.mg x=some (.ref f))(hk:keepIn X.K (.ref f)=true)(hb:Binds X.K fd ps ds)(hd:Vals zS ds)(hx:eK CX X E)
  (ha:PA X (e :: es) t) (Fw:autoParam ((x == ("__debug__":Str))=false) θ) (he:autoParam (starEach (e :: es) X.env=(false,eval e X.env) :: starEach es X.env) η) (Bj:autoParam ((backTo pos (starEach es X.env)).any (·.1)=false) η) :
  PE X (.Call (.Name x p) (e :: es) [] pos) (Ip sp zS E t):=by
 intro pins s σ H Q I h
 refine wpAny_Call_Name_kw (ki I hg hm ?_ Fw)
 refine PySem.W.callWith_K (h₀:=X.base) I.ok.mod.BI hk (bv (ha pos pins s σ H _ I h) fun us s1 ⟨vs,H1,I1,r,q⟩=>⟨I1.Ac,?_⟩) he Bj
 exact jQ F hr hb hd hx I1 r q
theorem aG {pl:Sem Bool}(he:PE X o ta)(c:Bi X.K C)(hm:bM X.K C m f)(F:y9 X.prog X.w X.K X.mg X.base CX k f fd ps sp)(hr:yK k X.A)(hb:Binds X.K fd ps ds)(hd:Vals zS ds)(hx:eK CX X E)(ha:PA X (e :: es) t)
  (Bc:autoParam (starEach (e :: es) X.env=(false,eval e X.env) :: starEach es X.env) η) (Bj:autoParam ((backTo pos (starEach es X.env)).any (·.1)=false) η)
  (ht:eval (.Call (.Attribute o m apos) (e :: es) [] pos) X.env=(do
   let ov ← eval o X.env
   standAt apos.atName
   let (f,first) ← holding [ov] (getMethod ov m pl)
   callWith pos f first (backTo pos (starEach (e :: es) X.env)) (backToKw pos (keywordEach [] X.env))):=by rfl) :
  PE X (.Call (.Attribute o m apos) (e :: es) [] pos) (vO C m sp zS E ta t):=by
 intro pins s σ H Q I h
 refine PySem.W.methodCall_KW (pl:=pl) (bv (he pins s σ H _ I h) fun u s1 yD=>?_) ht
 obtain⟨x,H1,I1,rx,a,dx,fs,ex,ea,l,q⟩:=yD
 subst ex
 obtain rfl:u=Value.ref a:=rx
 refine jb I1 ea c hm l ?_
 refine PySem.W.callWith_K (first:=[.ref a]) (h₀:=X.base) I.ok.mod.BI hm.kp (bv (ha pos pins s1 σ H1 _ I1 q) fun us s2 ⟨vs,H2,I2,r,q2⟩=>⟨I2.Ac,?_⟩) Bc Bj
 exact jQ (us := .ref a :: us) (vs := .ref a :: vs) F hr hb hd hx I2 (.cons rfl r) q2
theorem bD {pl:Sem Bool}(he:PE X o ta)(c:Bi X.K C)(hm:bM X.K C m f)(F:y9 X.prog X.w X.K X.mg X.base CX k f fd ps sp)(hr:yK k X.A)(hb:Binds X.K fd ps ds)(hd:Vals zS ds)(hx:eK CX X E)
  (ht:eval (.Call (.Attribute o m apos) [] [] pos) X.env=(do
   let ov ← eval o X.env
   standAt apos.atName
   let (f,first) ← holding [ov] (getMethod ov m pl)
   callWith pos f first (backTo pos (starEach [] X.env)) (backToKw pos (keywordEach [] X.env))):=by rfl) :
  PE X (.Call (.Attribute o m apos) [] [] pos) (vO C m sp zS E ta Il):=by
 intro pins s σ H Q I h
 refine PySem.W.methodCall_KW (pl:=pl) (bv (he pins s σ H _ I h) fun u s1 yD=>?_) ht
 obtain⟨x,H1,I1,rx,a,dx,fs,ex,ea,l,q⟩:=yD
 subst ex
 obtain rfl:u=Value.ref a:=rx
 refine jb I1 ea c hm l ?_
 exact PySem.W.callWith_K0 (first:=[.ref a]) I1.Ac hm.kp (jQ (us:=[.ref a]) (vs:=[.ref a]) F hr hb hd hx I1 (.cons rfl .nil) q)
structure Mk (K:Frag)(C f:Addr):Prop where
 makes:makesIn K C=true
 init:findIn K (.ref C) "__init__" = some (some (.ref f))
 fn:isFn K (.ref f)=true
 kp:keepIn K (.ref C)=true
theorem rN {pins:List (Addr × Obj)}{σ:St}{H:Hp}{s:Shared}{Q:VK}{us:List Value}{vs:List V}(M:Mk X.K C f)(F:y9 X.prog X.w X.K X.mg X.base CX k f fd ps sp)(hr:yK (k + 1) X.A)(hb:Binds X.K fd ps ds)(hd:Vals zS ds)
  (hx:eK CX X E) (I:Inv X pins σ H s) (r:Vals vs us)
  (h:∀ x dx,H x=none->H dx=none->dx ≠ x->sp (.ref x :: (vs ++ zS)) (upd (upd H dx (.own x)) x (.ins C dx [])) (fun v H2=>v = .yQ/\Q (.ref x) H2) E) :
  wpAny (model X.prog X.w) X.A (call (.ref C) us) (EP X pins σ Q) X.xe s:=by
 have hq:=h (s.heap.objs.size + 1) s.heap.objs.size (I.yL.fresh (le_succ _)) (I.yL.fresh (Nat.le_refl _)) (ne_of_lt (lt_succ_self _))
 have I2:=Inv.made (C:=C) I
 have r2:Vals (V.ref (s.heap.objs.size + 1) :: (vs ++ zS)) (Value.ref (s.heap.objs.size + 1) :: (us ++ ds)) := .cons rfl (r.append hd)
 have hl:(Value.ref (s.heap.objs.size + 1) :: us ++ ds).length=ps.length:=by
  have e:=r2.length
  rw[F.len _ _ _ _ hq]at e
  exact e.symm
 refine wpAny_call (sX (f:=f) I.Ac M.makes M.init (beq_iff_eq.mp M.fn) (codeAny_mono (F.run _ X.stack _ _ ⟨Value.ref (s.heap.objs.size + 1) :: us,[]⟩ (Value.ref (s.heap.objs.size + 1) :: (us ++ ds)) _ _ E (hr.make C us [])
  (I2.Io.make C us []) (hb _ (Value.ref (s.heap.objs.size + 1) :: us) I2.Ac hl) r2 hq) fun r s' BM=>?_))
 cases r with
 | error e=>exact hx pins σ _ _ e s' I2 BM
 | ok fl =>
  cases fl with
  | ret u =>
   obtain⟨v,H',I3,rv,ev,q3⟩:=I2.after BM
   subst ev
   exact⟨rv,⟨V.ref (s.heap.objs.size + 1),H',I3,rfl,q3⟩⟩
  | next=>exact False.elim BM
  | brk=>exact False.elim BM
  | cont=>exact False.elim BM
theorem dG (M:Mk X.K C f)(F:y9 X.prog X.w X.K X.mg X.base CX k f fd ps sp)(hr:yK (k + 1) X.A)(hg:Gl X x)(hm:X.mg x=some (.ref C))(hb:Binds X.K fd ps ds)(hd:Vals zS ds)(hx:eK CX X E)
  (ha:PA X (e :: es) t) (Fw:autoParam ((x == ("__debug__":Str))=false) θ) (he:autoParam (starEach (e :: es) X.env=(false,eval e X.env) :: starEach es X.env) η) (Bj:autoParam ((backTo pos (starEach es X.env)).any (·.1)=false) η) :
  PE X (.Call (.Name x p) (e :: es) [] pos) (Iq C sp zS E t):=by
 intro pins s σ H Q I h
 refine wpAny_Call_Name_kw (ki I hg hm ?_ Fw)
 refine PySem.W.callWith_K (h₀:=X.base) I.ok.mod.BI M.kp (bv (ha pos pins s σ H _ I h) fun us s1 ⟨vs,H1,I1,r,q⟩=>⟨I1.Ac,?_⟩) he Bj
 exact rN M F hr hb hd hx I1 r q
end
section
variable {X:Cx}{CX:mE}{k:Nat}{f C:Addr}{fd:FuncData}{ps ks:List Str}{sp:Sp}{E:XK}{x m:Str}{p pos apos Ir:Pos}{e o:Expr}{es:List Expr}{kws:List Keyword}{te ta:TE}{t tk:TA}{nm:Option Str}
variable {g:List Value->List Value->List Value}{gV:List V->List V->List V}
end
structure ap (N P:List Str)(sc:Scope):Prop where
 kind:sc.kind = .function
 co:sc.isCoroutine=false
 gen:sc.isGenerator=false
 nd:N.Nodup
 pre:N.take P.length=P
 par:∀ x ∈ P,sc.names.lookup x=some .local∨sc.names.lookup x=some .cell
 Fx:∀ y ∈ sc.names,y.2 ≠ .free
theorem j6 {kindOf:Str->Option NameKind}{x:Str}:∀ {binds:List (Str × Value)}{m:Str->Option Value},(∀ v,(x,v) ∉ binds)->bindL kindOf binds m x=m x
 | [],_,_=>rfl
 | (n,v) :: r,m,h=>by
  unfold bindL
  rw[j6 fun w hw=>h w (mem_cons_of_mem _ hw)]
  split
  ·have:x ≠ n:=by rintro rfl;exact h v mem_cons_self
   simp[this]
  ·rfl
theorem j8 {kindOf:Str->Option NameKind}{x:Str}:∀ {binds:List (Str × Value)}{m:Str->Option Value},(∀ v,(x,v) ∉ binds)->bindC kindOf binds m x=m x
 | [],_,_=>rfl
 | (n,v) :: r,m,h=>by
  unfold bindC
  rw[j8 fun w hw=>h w (mem_cons_of_mem _ hw)]
  split
  ·rfl
  ·have:x ≠ n:=by rintro rfl;exact h v mem_cons_self
   simp[this]
theorem j7 {kindOf:Str->Option NameKind}{x:Str}{v:Value}:∀ {P:List Str}{vs:List Value}{i:Nat}{m:Str->Option Value},P.Nodup->P[i]? = some x->vs[i]? = some v->kindOf x=some .local ->
  bindL kindOf (P.zip vs) m x=some v
 | [],_,_,_,_,h,_,_=>by simp at h
 | _ :: _,[],_,_,_,_,h,_=>by simp at h
 | p :: P,w :: vs,0,m,nd,h1,h2,hk=>by
  simp at h1 h2;subst h1;subst h2
  show bindL kindOf ((p,w) :: P.zip vs) m p=_
  unfold bindL
  rw[j6 fun v hv=>(nodup_cons.mp nd).1 (of_mem_zip hv).1,if_pos hk]
  simp
 | p :: P,w :: vs,i + 1,m,nd,h1,h2,hk=>by
  show bindL kindOf ((p,w) :: P.zip vs) m x=_
  unfold bindL
  exact j7 (i:=i) (nodup_cons.mp nd).2 (by simpa using h1) (by simpa using h2) hk
theorem j9 {kindOf:Str->Option NameKind}{x:Str}{v:Value}:∀ {P:List Str}{vs:List Value}{i:Nat}{m:Str->Option Value},P.Nodup->P[i]? = some x->vs[i]? = some v->kindOf x ≠ some .local ->
  bindC kindOf (P.zip vs) m x=some v
 | [],_,_,_,_,h,_,_=>by simp at h
 | _ :: _,[],_,_,_,_,h,_=>by simp at h
 | p :: P,w :: vs,0,m,nd,h1,h2,hk=>by
  simp at h1 h2;subst h1;subst h2
  show bindC kindOf ((p,w) :: P.zip vs) m p=_
  unfold bindC
  rw[j8 fun v hv=>(nodup_cons.mp nd).1 (of_mem_zip hv).1,if_neg hk]
  simp
 | p :: P,w :: vs,i + 1,m,nd,h1,h2,hk=>by
  show bindC kindOf ((p,w) :: P.zip vs) m x=_
  unfold bindC
  exact j9 (i:=i) (nodup_cons.mp nd).2 (by simpa using h1) (by simpa using h2) hk
noncomputable def start (N:List Str)(vs:List V):St:=vs.map some ++ List.replicate (N.length - vs.length) none
noncomputable def lR (CX:mE)(P:Program)(w:World)(K:Frag)(mg:Str->Option Value)(base:Heap)(N:List Str)(qual:Str)(scope:Scope)(f:Addr)(cd:Value)(A:Around)(outer:List Env)(s:Shared)(H:Hp)(E:XK):Cx where
 prog:=P
 w:=w
 K:=K
 mg:=mg
 base:=base
 A:=A.deeper (envOfC qual scope s.heap.objs.size f cd)
 N:=N
 s₀:=s
 H₀:=H
 env:=envOfC qual scope s.heap.objs.size f cd
 outer:=outer
 stack:=envOfC qual scope s.heap.objs.size f cd :: outer
 ex:=[]
 calm:=true
 fn:=fun _=>true
 pn:=[]
 xe:=fun e s'=>wpAny (model P w) (A.deeper (envOfC qual scope s.heap.objs.size f cd)) (leaving (envOfC qual scope s.heap.objs.size f cd) e) (fun _ Bx=>CX outer H s E e Bx) (fun e' Bx=>CX outer H s E e' Bx) s'
theorem lY {sc:Scope}{n:Nat}{x:Str}(h:sc.names.lookup x=some .cell):∃ c,(cellsFrom n sc.names []).lookup x=some c:=by
 have q:=PySem.W.cellsFrom_some sc.names n [] (.inl h)
 exact Option.isSome_iff_exists.mp q
theorem qf {CX:mE}{P:Program}{w:World}{K:Frag}{mg:Str->Option Value}{base:Heap}{N ps:List Str}{qual:Str}{scope:Scope}{f:Addr}{cd:Value}{A:Around}{outer:List Env}{s s1:Shared}{H:Hp}{E:XK}{us:List Value}{vs:List V}
  (S:ap N ps scope) (hd:A.handled=none) (e0:Bw P w K mg base A outer s H) (hl:vs.length=ps.length) (r:Vals vs us)
  (x:InCallC s s.heap.objs.size (bindL (envOfC qual scope s.heap.objs.size f cd).kindOf (ps.zip us) fun _=>none) (cellsFrom (s.heap.objs.size + 1) scope.names []) (bindC (envOfC qual scope s.heap.objs.size f cd).kindOf (ps.zip us) fun _=>none) s1) :
  Inv (lR CX P w K mg base N qual scope f cd A outer s H E) [] (start N vs) H s1:=by
 have Bj:ps.length <= N.length:=by have:=congrArg List.length S.pre;rw[length_take]at this;omega
 obtain⟨h1,tk,rfl,hk⟩:=x.done
 have DX:∀ b:Addr,b ∉ (lR CX P w K mg base N qual scope f cd A outer s H E).ex:=fun b z=>absurd (show b ∈ ([]:List Addr) from z) (by simp)
 refine⟨⟨e0.mod,S.kind,rfl,rfl,Nat.le_refl _,fun y z c h1 h2=>?_,fun y hy=>?_,fun y c _ h=>?_,fun _=>hd,Around.frames_deeper e0.frames, .inr ⟨rfl,rfl⟩,fun b z=>absurd z (DX b),e0.bs,e0.Cy,fun b _ _=>DX b,fun b z=>absurd z (DX b),e0.zO,e0.CT⟩,
  rfl,e0.bare,Un.kept hk,⟨_,x.toInCall.ns,fun i y v h1 h2 h3=>?_⟩,fun y c h=>⟨_,x.cell y c h⟩,e0.yL.fresh (Nat.le_refl _),fun y c h=>?_,fun p hp=>absurd (show p ∈ ([]:List (Addr × Obj)) from hp) (by simp),e0.yL.kept hk,?_⟩
 ·exact name_of_addr x.apart (PySem.mem_of_lookup h1) (PySem.mem_of_lookup h2)
 ·have hy:scope.names.lookup y=some .cell∨scope.names.lookup y=some .free:=hy
  rcases hy with hy | hy
  ·exact lY hy
  ·exact absurd rfl (S.Fx _ (PySem.mem_of_lookup hy))
 ·exact le_of_lt (x.above y c (PySem.mem_of_lookup h))
 ·have hi:i < vs.length:=by
   unfold start at h2
   by_cases hi:i < vs.length
   ·exact hi
   ·rw[getElem?_append_right (by simpa using hi)]at h2
    rw[List.getElem?_replicate]at h2
    split at h2<;>cases h2
  have ha:vs[i]? = some v:=by
   unfold start at h2
   rw[getElem?_append_left (by simpa using hi),getElem?_map]at h2
   cases e:vs[i]? with
   | none=>rw[e]at h2;cases h2
   | some a=>rw[e]at h2;cases h2;rfl
  obtain⟨u,hu,rv⟩:=r.get ha
  have hp:ps[i]? = some y:=by
   rw[← S.pre,List.getElem?_take_of_lt (by omega)];exact h1
  have LN:ps.Nodup:=by rw[← S.pre];exact S.nd.sublist (List.take_sublist _ _)
  refine⟨u,rv,?_⟩
  rcases S.par y (mem_of_getElem? hp) with k | k
  ·exact .inl ⟨k,j7 LN hp hu k⟩
  ·obtain⟨c,e⟩:=lY (n:=s.heap.objs.size + 1) k
   refine .inr ⟨.inl k,c,e,?_⟩
   have q:=x.cell y c e
   rw[j9 LN hp hu (by show scope.names.lookup y ≠ _;rw[k];decide)]at q
   exact q
 ·exact e0.yL.fresh (le_of_lt (x.above y c (PySem.mem_of_lookup h)))
 ·unfold start
  show _=N.length
  rw[length_append,length_map,length_replicate]
  omega
theorem tE {CX:mE}{P:Program}{w:World}{K:Frag}{mg:Str->Option Value}{base:Heap}{k:Nat}{f:Addr}{name qual:Str}{params:Arguments}{body:List Stmt}{scope:Scope}{dV kV doc pm cdv ct oc:Value}{an od:Option Addr}
  {By:Array (Option Value)} {N ps:List Str} {sp:Sp} (lk:K.lookup f=some ⟨oc,od, .func (fnOf name qual params body scope dV kV doc pm an cdv ct),By⟩) (AS:codeIn K cdv qual=true) (S:ap N ps scope)
  (len:∀ vs H Q E,sp vs H Q E->vs.length=ps.length)
  (Ae:∀ (A:Around)(outer:List Env)(s:Shared)(H:Hp)(vs:List V)(Q:VK)(E:XK),yK k (A.deeper (envOfC qual scope s.heap.objs.size f cdv))->sp vs H Q E ->
   ∃ t,AR (lR CX P w K mg base N qual scope f cdv A outer s H E) body t/\t { nx:=fun _ H'=>Q .yQ H',rt:=Q } (start N vs) H) :
  y9 P w K mg base CX (k + 1) f (fnOf name qual params body scope dV kV doc pm an cdv ct) ps sp:=by
 refine⟨len,fun A outer s H args us vs Q E hr e0 hb r BN=>?_⟩
 have hl:=len _ _ _ _ BN
 have KX:K.In s.heap:=e0.mod.BI.keeps fun b o e=>(e0.bs b o e).1
 have lim:s.heap.NoLimit:=e0.mod.nolimit.keeps fun b o e=>(e0.bs b o e).1
 have Iu:∀ y ∈ ps.zip us,scope.names.lookup y.1=some .local∨(scope.names.lookup y.1=some .cell/\((cellsFrom (s.heap.objs.size + 1) scope.names []).lookup y.1).isSome=true):=fun⟨n,v⟩ hy=>by
  rcases S.par n (of_mem_zip hy).1 with q | q
  ·exact .inl q
  ·exact .inr ⟨q,PySem.W.cellsFrom_some _ _ _ (.inl q)⟩
 refine codeAny_call_function hr.depth (KX _ _ lk) rfl S.co S.gen rfl (PySem.W.codeRec_of KX AS) (hb _ _ _ _ ?_)
 refine wpAny_newFunctionEnv_cells S.kind Iu fun env he s1 x=>?_
 subst he
 refine⟨lim.keeps x.toInCall.keep,codeAny_func ?_⟩
 obtain⟨t,ht,hq⟩:=Ae A outer s H vs Q E (hr.deeper _) BN
 have I:Inv (lR CX P w K mg base N qual scope f cdv A outer s H E) [] (start N vs) H s1:=qf S hr.hd e0 hl r x
 refine wpAny_mono (ht [] s1 (start N vs) H _ I hq) (fun fl s' hs=>?_) fun e s' hs=>hs
 have fin:∀ {σ':St}{H':Hp}{v:V}{u:Value},Inv (lR CX P w K mg base N qual scope f cdv A outer s H E) [] σ' H' s'->RelV v u->Q v H'->CE outer P w H s Q u s' :=
  fun {σ' H' v u} J rv q=>⟨v,H',J.os,J.bare,J.base,J.yL,rv,q⟩
 cases fl with
 | ret u =>
  obtain⟨v,σ',H',J,rv,q⟩:=hs
  exact fin J rv q
 | next =>
  obtain⟨σ',H',J,q⟩:=hs
  exact fin (v:=V.yQ) (u:=Value.none) J rfl q
 | brk =>
  obtain⟨_,_,_,q⟩:=hs
  exact False.elim q
 | cont =>
  obtain⟨_,_,_,q⟩:=hs
  exact False.elim q
section
variable {X:Cx}{x:Str}{p pos:Pos}{e:Expr}{es:List Expr}{t:TA}{id T:String}{r:List V->Hp->VK->Prop}
noncomputable def T1 (r:List V->Hp->VK->Prop)(t:TA):TE:=fun σ H Q=>t σ H fun vs H1=>r vs H1 Q
theorem aw (hc:c6 X (.builtin id) r)(hg:Gl X x)(hm:X.mg x=none)(hv:bootBuiltins x=some (.builtin id))(ha:PA X (e :: es) t)(hn:autoParam (x ≠ "__name__") θ)(Fw:autoParam ((x == ("__debug__":Str))=false) θ)
  (he:autoParam (starEach (e :: es) X.env=(false,eval e X.env) :: starEach es X.env) η) (Bj:autoParam ((backTo pos (starEach es X.env)).any (·.1)=false) η):PE X (.Call (.Name x p) (e :: es) [] pos) (T1 r t):=by
 intro pins s σ H Q I h
 refine wpAny_Call_Name_kw (fJ I hg hm hv ?_ hn Fw)
 exact PyProof.Rows.callWith_builtin1 (bv (ha pos pins s σ H _ I h) fun us s1 yD=>by obtain⟨vs,H1,I1,r1,q1⟩:=yD;exact hc pins s1 σ H1 vs us Q I1 r1 q1) he Bj
theorem bI (hc:c6 X (.type T) r)(hg:Gl X x)(hm:X.mg x=none)(hv:bootBuiltins x=some (.type T))(ha:PA X (e :: es) t)(hn:autoParam (x ≠ "__name__") θ)(Fw:autoParam ((x == ("__debug__":Str))=false) θ)
  (he:autoParam (starEach (e :: es) X.env=(false,eval e X.env) :: starEach es X.env) η) (Bj:autoParam ((backTo pos (starEach es X.env)).any (·.1)=false) η):PE X (.Call (.Name x p) (e :: es) [] pos) (T1 r t):=by
 intro pins s σ H Q I h
 refine wpAny_Call_Name_kw (fJ I hg hm hv ?_ hn Fw)
 exact PyProof.Rows.callWith_type1 (bv (ha pos pins s σ H _ I h) fun us s1 yD=>by obtain⟨vs,H1,I1,r1,q1⟩:=yD;exact hc pins s1 σ H1 vs us Q I1 r1 q1) he Bj
end
end L2
namespace HT
open PySem PyProof.Rows
section
open PySem.SeqAt
open PySem.AutoSeq1 (wpAny_loadPart')
open PySem.MeetsSeq PySem.MeetsSeq2 PySem.MeetsSeq3
end
section
variable {prog:Program}{w:World}{A:Around}{E:Value->Shared->Prop}{s:Shared}
theorem DY {t b:Addr}{vs ws:List Value}{Q:Value->Shared->Prop}(ht:IsTup s.heap t vs.toArray)(hb:IsTup s.heap b ws.toArray)(hv:vs ≠ [])
  (h1:ws=[]->Q (.ref t) s) (h2:ws ≠ []->Q (.ref s.heap.objs.size) { s with heap:=s.heap.push { cls := .type "tuple",data := .seq (vs ++ ws).toArray } })
  (hsz:vs.length + ws.length <= sizeLine):wpAny (model prog w) A (binaryOp .Add (.ref t) (.ref b)) Q E s:=by
 obtain⟨⟨cls,dd,data,sl⟩,ho,hc,n,hd⟩:=id ht
 obtain⟨⟨Oa,LO,data2,LP⟩,Aj,Az,n2,hd2⟩:=id hb
 simp only at hc hd Az hd2
 subst hc hd Az hd2
 have e:vs.toArray ++ ws.toArray=(vs ++ ws).toArray:=by simp
 by_cases hw:ws=[]
 ·exact concat_meets ⟨_,ho,rfl⟩ ⟨_,Aj,rfl⟩ noFill_tuple_add seq_tuple_add slot_tuple_add entry_tuple_add (args_tuple_add_2 _ _)
   (tuple_addW1 t b vs.toArray ws.toArray n n2 dd LO sl LP (by simpa using hv) (by simp[hw])) ⟨ho,Aj,h1 hw⟩
 ·refine concat_meets ⟨_,ho,rfl⟩ ⟨_,Aj,rfl⟩ noFill_tuple_add seq_tuple_add slot_tuple_add entry_tuple_add (args_tuple_add_2 _ _)
   (tuple_addW2 t b vs.toArray ws.toArray n n2 dd LO sl LP (by simpa using hv) (by simpa using hw) (by rw[size_toArray,size_toArray];exact hsz)) ⟨ho,Aj,?_⟩
  rw[e]
  exact h2 hw
noncomputable def AA (n d:Nat):Option Int->Nat
 | none=>d
 | some v=>if v < 0 then (v + (n:Int)).toNat else min v.toNat n
theorem Af (n d k:Nat):AA n d (some (k:Int))=min k n:=by
 show(if (k:Int) < 0 then ((k:Int) + (n:Int)).toNat else min (k:Int).toNat n)=min k n
 rw[if_neg (by omega),toNat_natCast]
end
end HT
namespace L2
open PySem PySem.Spec PyProof.Rows
abbrev TO:=St->Hp->(Option Int->Hp->Prop)->Prop
noncomputable def PO (X:Cx)(e:Option Expr)(t:TO):Prop :=
 ∀ (pins:List (Addr × Obj))(s:Shared)(σ:St)(H:Hp)(Q:Option Int->Hp->Prop),Inv X pins σ H s->t σ H Q ->
  wpAny (model X.prog X.w) X.A (evalPart e X.env) (fun u s'=>∃ o H',Inv X pins σ H' s'/\IsPart u o/\Q o H') X.xe s
noncomputable def uj:TO:=fun _ H Q=>Q none H
noncomputable def Iv (t:TE):TO:=fun σ H Q=>t σ H fun x H1=>∃ i,x = .int i/\Q (some i) H1
theorem nX {ns:List Int}:∀ {us:List Value},Vals (ns.map V.int) us->IntsAre us ns:=by
 induction ns with
 | nil=>intro us r;rw[map_nil]at r;cases r;exact .nil
 | cons n ns ih =>
  intro us r
  rw[map_cons]at r
  cases r with
  | cons r1 r2 =>
   obtain⟨t,e⟩:=r1
   subst e
   exact .cons n t (ih r2)
section
variable {X:Cx}{e:Expr}{te:TE}{lo hi:Option Expr}{tl th:TO}{pos p2:Pos}
theorem jT:PO X none uj:=by
 intro pins s σ H Q I h
 rw[evalPart_none]
 exact wpAny_pure ⟨none,H,I, .none,h⟩
theorem fY (h:PE X e te):PO X (some e) (Iv te):=by
 intro pins s σ H Q I hw
 rw[evalPart_some]
 refine bv (h pins s σ H _ I hw) fun u s1 yD=>?_
 obtain⟨x,H1,I1,r1,q1⟩:=yD
 obtain⟨i,rfl,q⟩:=q1
 obtain⟨t,rfl⟩:=r1
 exact⟨some i,H1,I1, .int i t,q⟩
noncomputable def T2 (X:Cx)(r:V->Option Int->Option Int->Hp->VK->Prop):Prop :=
 ∀ (pins:List (Addr × Obj))(s:Shared)(σ:St)(H:Hp)(x:V)(v vl vu:Value)(lo hi:Option Int)(sl:Addr)(Q:VK),Inv X pins σ H s->RelV x v->s.heap.IsSliceOf sl vl vu .none->IsPart vl lo->IsPart vu hi->r x lo hi H Q ->
  ∃ T id,typeLookup (.type T) "__getitem__" = pure (some (.builtin id))/\s.TypeIs v T/\wpAny (model X.prog X.w) X.A (getItem v (.ref sl)) (EP X pins σ Q) X.xe s
noncomputable def tSl (r:V->Option Int->Option Int->Hp->VK->Prop)(te:TE)(tl th:TO):TE:=fun σ H Q=>te σ H fun x H1=>tl σ H1 fun l H2=>th σ H2 fun u H3=>r x l u H3 Q
theorem fZ {r:V->Option Int->Option Int->Hp->VK->Prop}(hr:T2 X r)(he:PE X e te)(hl:PO X lo tl)(hu:PO X hi th):PE X (.Subscript e (.Slice lo hi none p2) pos) (tSl r te tl th):=by
 intro pins s σ H Q I h
 refine Subscript_ (bv (he pins s σ H _ I h) fun v s1 yD=>?_)
 obtain⟨x,H1,I1,r1,q1⟩:=yD
 refine wpAny_Slice (bv (hl pins s1 σ H1 _ I1 q1) fun vl s2 ⟨l,H2,I2,pl,q2⟩=>bv (hu pins s2 σ H2 _ I2 q2) fun vu s3 yD=>?_)
 obtain⟨u,H3,I3,pu,q3⟩:=yD
 rw[evalPart_none]
 refine wpAny_pure ?_
 have I4:Inv X pins σ H3 { s3 with heap:=s3.heap.push { cls := .type "slice",data := .fields #[vl,vu, .none] } }:=I3.kept (t':=s3.toks) fun b ob q=>Heap.get?_push_of_some _ q
 obtain⟨T,id,hT,ht,hg⟩:=hr pins { s3 with heap:=s3.heap.push { cls := .type "slice",data := .fields #[vl,vu, .none] } } σ H3 x v vl vu l u s3.heap.objs.size Q I4 r1 (Heap.IsSliceOf.new ..) pl pu q3
 show wpAny (model X.prog X.w) X.A (subscriptTail e (.Slice lo hi none p2) v (.ref s3.heap.objs.size)) (EP X pins σ Q) X.xe { s3 with heap:=s3.heap.push { cls := .type "slice",data := .fields #[vl,vu, .none] } }
 exact tail_any (ops:=[.ref s3.heap.objs.size,v]) ht hT hg (by with_unfolding_all rfl)
noncomputable def fL (xs:List V)(lo hi:Option Int):List V:=(xs.drop (HT.AA xs.length 0 lo)).take (HT.AA xs.length xs.length hi - HT.AA xs.length 0 lo)
theorem lS (xs:List V)(lo hi:Option Int):(fL xs lo hi).length <= xs.length:=by
 unfold fL
 rw[length_take,length_drop]
 omega
noncomputable def Iw (K:Frag):R2:=fun x y H Q=>∃ a b xs ys,x = .ref a/\y = .ref b/\yN K H a xs/\yN K H b ys/\xs ≠ []/\xs.length + ys.length <= sizeLine /\
 (ys=[]->Q (.ref a) H)/\(ys ≠ []->∀ p,H p=none->Q (.ref p) (upd H p (.tup (xs ++ ys))))
theorem Vals.AB {xs:List V}{us:List Value}(r:Vals xs us):us=[]↔xs=[]:=by
 cases r with
 | nil=>simp
 | cons _ _=>simp
theorem uK:dQ X (binaryOp .Add) (Iw X.K):=by
 intro pins s σ H x y v u Q I rx ry h
 obtain⟨a,b,xs,ys,rfl,rfl,ha,hb,hx,hz,q1,q2⟩:=h
 cases rx
 cases ry
 obtain⟨yF,r1,p1,_⟩:=I.tuple ha
 obtain⟨AV,r2,p2,_⟩:=I.tuple hb
 refine HT.DY p1 p2 (fun z=>hx (r1.AB.mp z)) (fun z=>⟨.ref a,H,I,rfl,q1 (r2.AB.mp z)⟩) (fun z=>?_) (by rw[← r1.length,← r2.length];exact hz)
 refine⟨.ref s.heap.objs.size,_,I.laid (t':=s.toks) (o := .tup (xs ++ ys)) (fun b ob q=>Heap.get?_push_of_some _ q) (Nat.le_refl _) ?_,rfl,q2 (fun w=>z (r2.AB.mpr w)) _ (I.yL.fresh (Nat.le_refl _))⟩
 exact⟨by rw[length_append];exact hz,_,r1.append r2,zN.new _ _⟩
end
noncomputable def vw (n:Nat)(i:Int):Option Nat:=if 0 <= i then (if i < n then some i.toNat else none) else if -(n:Int) <= i then some (i + n).toNat else none
noncomputable def ue {α:Type}(xs:List α)(i:Int):Option α:=(vw xs.length i).bind fun j=>xs[j]?
theorem pk {n:Nat}{i:Int}{j:Nat}(h:vw n i=some j):seqIndex? i n=some j/\j < n/\-(n:Int) <= i/\i < n:=by
 unfold vw at h
 by_cases h0:0 <= i
 ·rw[if_pos h0]at h
  by_cases h1:i < n
  ·rw[if_pos h1]at h
   have e:i.toNat=j:=Option.some.inj h
   exact⟨by rw[seqIndex_of h0 h1,e],by omega,by omega,h1⟩
  ·rw[if_neg h1]at h;cases h
 ·rw[if_neg h0]at h
  by_cases h1:-(n:Int) <= i
  ·rw[if_pos h1]at h
   have e:(i + n).toNat=j:=Option.some.inj h
   exact⟨by rw[seqIndex_neg (by omega) h1,e],by omega,h1,by omega⟩
  ·rw[if_neg h1]at h;cases h
theorem kJ {α:Type}{xs:List α}{i:Int}{v:α}(h:ue xs i=some v):∃ j,seqIndex? i xs.length=some j/\xs[j]? = some v/\j < xs.length/\-(xs.length:Int) <= i/\i < xs.length:=by
 unfold ue at h
 cases e:vw xs.length i with
 | none=>rw[e]at h;cases h
 | some j =>
  rw[e]at h
  obtain⟨h1,h2,h3,h4⟩:=pk e
  exact⟨j,h1,h,h2,h3,h4⟩
theorem ak {α:Type}{xs:List α}{j:Nat}{v:α}(h:xs[j]? = some v):ue xs (j:Int)=some v:=by
 have hj:j < xs.length:=(gQ0 h)
 have e:vw xs.length (j:Int)=some j:=by
  unfold vw
  rw[if_pos (by omega),if_pos (by omega)];simp
 unfold ue;rw[e];exact h
noncomputable def vJ (b:Expr):Prop:=∀ o i,subscripted b false o i=operate [o,i] (getItem o i)
noncomputable def AL (X:Cx)(r:R2):Prop :=
 ∀ (value slice:Expr)(pins:List (Addr × Obj))(s:Shared)(σ:St)(H:Hp)(x y:V)(v u:Value)(Q:VK),Inv X pins σ H s->RelV x v->RelV y u->r x y H Q ->
  subscripted slice false v u=operate [v,u] (getItem v u)->wpAny (model X.prog X.w) X.A (subscriptTail value slice v u) (EP X pins σ Q) X.xe s
noncomputable def LQ (X:Cx)(id:String)(r:V->List V->Hp->VK->Prop):Prop :=
 ∀ (pins:List (Addr × Obj))(s:Shared)(σ:St)(H:Hp)(x:V)(xs:List V)(v:Value)(us:List Value)(Q:VK),Inv X pins σ H s->RelV x v->Vals xs us->r x xs H Q ->
  wpAny (model X.prog X.w) X.A (call (.builtin id) (v :: us)) (EP X pins σ Q) X.xe s
section
variable {X:Cx}{a b:Expr}{ta tb:TE}{pos:Pos}
theorem AL.or {r r':R2}(h:AL X r)(h':AL X r'):AL X (fun x y H Q=>r x y H Q∨r' x y H Q):=by
 intro value slice pins s σ H x y v u Q I rx ry q hs
 rcases q with q | q
 ·exact h value slice pins s σ H x y v u Q I rx ry q hs
 ·exact h' value slice pins s σ H x y v u Q I rx ry q hs
theorem az {r:R2}(hr:AL X r)(ha:PE X a ta)(hb:PE X b tb)(hs:vJ b):PE X (.Subscript a b pos) (LL r ta tb):=by
 intro pins s σ H Q I h
 exact Subscript_ (yp ha hb I h fun v u s2 x y H2 I2 rx ry q=>hr a b pins s2 σ H2 x y v u Q I2 rx ry q (hs _ _))
noncomputable def pJ (K:Frag):R2:=fun x y H Q=>∃ p xs i v,x = .ref p/\y = .int i/\yC K H p xs/\ue xs i=some v/\Q v H
noncomputable def iQ (K:Frag):R2:=fun x y H Q=>∃ p xs i v,x = .ref p/\y = .int i/\yN K H p xs/\ue xs i=some v/\Q v H
noncomputable def Iy:R2:=fun x y H Q=>∃ z i c,x = .str z/\y = .int i/\z.length <= sizeLine/\ue z.cps.toList i=some c/\Q (.str ⟨#[c]⟩) H
theorem yG:AL X (pJ X.K):=by
 intro value slice pins s σ H x y v u Q I rx ry h hs
 obtain⟨p,xs,i,z,rfl,rfl,hq,he,q⟩:=h
 cases rx
 obtain⟨t,rfl⟩:=ry
 obtain⟨yF,r,pl,hz⟩:=I.list hq
 obtain⟨j,h1,h2,h3,h4,h5⟩:=kJ he
 obtain⟨w,ew,DZ⟩:=r.get h2
 have hl:=r.length
 have hn:=gU
 have fin:EP X pins σ Q w s:=⟨z,H,I,DZ,q⟩
 by_cases h0:0 <= i
 ·have hj:i.toNat=j:=by
   rw[seqIndex_of h0 h5]at h1
   exact Option.some.inj h1
  exact item_listR pl.isList h0 (by omega) (by rw[hj];simpa using ew) fin hs
 ·have hj:(i + (yF.toArray.size:Int)).toNat=j:=by
   rw[seqIndex_neg (by omega) h4]at h1
   rw[size_toArray,← hl]
   exact Option.some.inj h1
  exact subscriptTail_builtinR (x:=w) pl.isList.typeIs slot_list_getitem.lookup
   (wpAny_getItem_list_neg (Q:=fun r s'=>r=w/\EP X pins σ Q r s') pl.isList (by omega) (by rw[size_toArray]<;>omega) (by omega) (by rw[hj];simpa using ew) ⟨rfl,fin⟩) hs
theorem yE:AL X (iQ X.K):=by
 intro value slice pins s σ H x y v u Q I rx ry h hs
 obtain⟨p,xs,i,z,rfl,rfl,hq,he,q⟩:=h
 cases rx
 obtain⟨t,rfl⟩:=ry
 obtain⟨yF,r,pl,hz⟩:=I.tuple hq
 obtain⟨j,h1,h2,h3,h4,h5⟩:=kJ he
 obtain⟨w,ew,DZ⟩:=r.get h2
 have hl:=r.length
 have hn:=gU
 have fin:EP X pins σ Q w s:=⟨z,H,I,DZ,q⟩
 exact subscriptTail_builtinR (x:=w) pl.typeIs slot_tuple_getitem.lookup
  (getItem_tuple (j:=j) (Q:=fun r s'=>r=w/\EP X pins σ Q r s') pl (by omega) (by omega) (by rw[size_toArray,← hl];exact h1) (by simpa using ew) ⟨rfl,fin⟩) hs
theorem xY:AL X Iy:=by
 intro value slice pins s σ H x y v u Q I rx ry h hs
 obtain⟨z,i,c,rfl,rfl,hz,he,q⟩:=h
 obtain⟨t,rfl⟩:=rx
 obtain⟨t',rfl⟩:=ry
 obtain⟨j,h1,h2,h3,h4,h5⟩:=kJ he
 have hl:z.cps.toList.length=z.length:=by simp[Str.length]
 rw[hl]at h1 h4 h5
 have hn:=gU
 exact tail_any (typeIs_str s z t) slot_str_getitem.lookup (getItem_str (c:=c) (by
  have e1:decide (i < -(2 ^ 63:Int))=false:=decide_eq_false (by omega)
  have e2:decide (i ≥ 2 ^ 63)=false:=decide_eq_false (by omega)
  rw[e1,e2,Bool.or_false]) (by rw[h1];simpa using h2) ⟨.str ⟨#[c]⟩,H,I.tok _,⟨_,rfl⟩,q⟩) hs
noncomputable def T3 (K:Frag):R2:=fun x y H Q=>pJ K x y H Q∨iQ K x y H Q∨Iy x y H Q
theorem iY:AL X (T3 X.K):=yG.or (yE.or xY)
theorem nM (yF:List Value)(n j:Nat)(u:Value):Obj.mapSeq (·.setIfInBounds j u) { cls := .type "list",data := .seq yF.toArray n } = { cls := .type "list",data := .seq (yF.set j u).toArray n }:=by
 simp[Obj.mapSeq]
theorem Inv.lst {pins:List (Addr × Obj)}{σ:St}{H:Hp}{s:Shared}{p:Addr}{xs:List V}(I:Inv X pins σ H s)(h:H p=some (.lst xs)) :
  ∃ (yF:List Value)(n:Nat),Vals xs yF/\s.heap.get? p=some { cls := .type "list",data := .seq yF.toArray n }/\xs.length <= sizeLine:=by
 obtain⟨z,yF,n,r,e⟩:=I.yL p _ h
 exact⟨yF,n,r,e,z⟩
theorem Inv.Fy {pins:List (Addr × Obj)}{σ:St}{H:Hp}{s:Shared}{p:Addr}{xs ys:List V}{yF its':List Value}{n n':Nat}{f:Obj->Obj}(I:Inv X pins σ H s)(h:H p=some (.lst xs))
  (ho:s.heap.get? p=some { cls := .type "list",data := .seq yF.toArray n }) (hf:f { cls := .type "list",data := .seq yF.toArray n } = { cls := .type "list",data := .seq its'.toArray n' }) (r:Vals ys its') (hz:ys.length <= sizeLine) (t:Nat) :
  Inv X pins σ (upd H p (.lst ys)) { s with heap:=s.heap.update p f,toks:=t }:=by
 have e:(s.heap.update p f).get? p=some { cls := .type "list",data := .seq its'.toArray n' }:=by
  rw[Heap.get?_update_self f ho (by rw[hf]<;>rfl),hf]
 refine I.write (x:=p) (e:=p) (by rw[h];trivial) (.inl rfl) (fun b u hb q=>(Heap.get?_update_other _ _ (Ne.symm hb)).trans q) ⟨_,e⟩ ?_
 exact⟨hz,its',n',r,e⟩
noncomputable def Iz:V->V->V->Hp->(Hp->Prop)->Prop:=fun o i v H Q=>∃ p xs k j,o = .ref p/\i = .int k/\H p=some (.lst xs)/\vw xs.length k=some j/\Q (upd H p (.lst (xs.set j v)))
theorem dZ:Ia X Iz:=by
 intro pins s σ H o i v ov iv u Q I ro ri rv h
 obtain⟨p,xs,k,j,rfl,rfl,hp,hj,q⟩:=h
 cases ro
 obtain⟨t,rfl⟩:=ri
 obtain⟨yF,n,r,ho,hz⟩:=I.lst hp
 obtain⟨h1,h2,h3,h4⟩:=pk hj
 have hl:=r.length
 have hn:=gU
 have I':Inv X pins σ (upd H p (.lst (xs.set j v))) { s with heap:=s.heap.update p (Obj.mapSeq (·.setIfInBounds j u)) } :=
  I.Fy hp ho (nM yF n j u) (r.set rv j) (by rw[length_set];exact hz) s.toks
 by_cases h0:0 <= k
 ·have hk:k.toNat=j:=by
   rw[seqIndex_of h0 h4]at h1
   exact Option.some.inj h1
  exact PySem.W.ki_setAt ho h0 (by omega) (by rw[size_toArray,← hl];exact h4) (by rw[hk];exact⟨_,I',q⟩)
 ·have hk:(k + (yF.toArray.size:Int)).toNat=j:=by
   rw[seqIndex_neg (by omega) h3]at h1
   rw[size_toArray,← hl]
   exact Option.some.inj h1
  exact PySem.W.ki_setBack ho (by omega) (by rw[size_toArray,← hl];exact h3) (by omega) (by rw[hk];exact⟨_,I',q⟩)
theorem jK (lo hi:Option Int)(n:Nat):(sliceBounds lo hi none n).1=((HT.AA n 0 lo:Nat):Int)/\(sliceBounds lo hi none n).2.1=((HT.AA n n hi:Nat):Int)/\(sliceBounds lo hi none n).2.2=1:=by
 refine⟨?_,?_,rfl⟩
 ·cases lo with
  | none=>simp[sliceBounds,HT.AA]
  | some i =>
   simp only[sliceBounds,HT.AA,Option.getD_none,show (1:Int) > 0 by decide,if_true]
   by_cases h:i < 0
   ·simp only[h,if_true]<;>omega
   ·simp only[h,if_false]<;>omega
 ·cases hi with
  | none=>simp[sliceBounds,HT.AA]
  | some i =>
   simp only[sliceBounds,HT.AA,Option.getD_none,show (1:Int) > 0 by decide,if_true]
   by_cases h:i < 0
   ·simp only[h,if_true]<;>omega
   ·simp only[h,if_false]<;>omega
theorem ji (yF:List Value)(lo hi:Option Int):slicePick yF.toArray lo hi none=((yF.drop (HT.AA yF.length 0 lo)).take (HT.AA yF.length yF.length hi - HT.AA yF.length 0 lo)).toArray:=by
 obtain⟨h1,h2,h3⟩:=jK lo hi yF.toArray.size
 unfold slicePick
 rw[h1,h2,h3]
 simp only[sliceRange_one,pick_run,size_toArray]<;>rfl
noncomputable def Ob (K:Frag):V->Option Int->Option Int->Hp->VK->Prop:=fun x lo hi H Q=>∃ a xs,x = .ref a/\yC K H a xs/\∀ p,H p=none->Q (.ref p) (upd H p (.lst (fL xs lo hi)))
theorem i4:T2 X (Ob X.K):=by
 intro pins s σ H x v vl vu lo hi sl Q I rx hs pl pu h
 obtain⟨a,xs,rfl,hx,q⟩:=h
 cases rx
 obtain⟨yF,r,ht,hz⟩:=I.list hx
 have hlen:=r.length
 refine⟨"list",_,slot_list_getitem.lookup,ht.isList.typeIs,?_⟩
 refine wpAny_getItem_list_slice ht.isList hs pl pu .none (by simp) ?_ (by rw[size_toArray]<;>omega)
 rw[ji,← hlen]
 refine⟨.ref s.heap.objs.size,_,I.laid (t':=s.toks) (o := .lst (fL xs lo hi)) (fun b ob q=>Heap.get?_push_of_some _ q) (Nat.le_refl _) ?_,rfl,q _ (I.yL.fresh (Nat.le_refl _))⟩
 exact⟨le_trans (lS xs lo hi) hz,_,0,(r.drop (HT.AA xs.length 0 lo)).take (HT.AA xs.length xs.length hi - HT.AA xs.length 0 lo),Heap.get?_push_size _ rfl⟩
noncomputable def gh:V->Bool
 | .yQ=>true
 | .bl _=>true
 | .int _=>true
 | .str _=>true
 | _=>false
noncomputable def wq:V->V->Bool
 | .yQ, .yQ=>true
 | .bl a, .bl b=>a == b
 | .bl a, .int b=>(if a then 1 else 0) == b
 | .int a, .bl b=>a == (if b then 1 else 0)
 | .int a, .int b=>a == b
 | .str a, .str b=>a == b
 | _,_=>false
theorem yi {A:Around}{s:Shared}{y x:V}{u v:Value}(ry:RelV y u)(rx:RelV x v)(fy:gh y=true)(fx:gh x=true):SeqAt.EqAt A s u v (wq y x):=by
 cases y with
 | yQ =>
  cases ry
  cases x with
  | yQ=>cases rx;exact SeqAt.EqAt.same _
  | bl b=>cases rx;exact SeqAt.EqAt.none_bool b
  | int b=>obtain⟨t,rfl⟩:=rx;exact SeqAt.EqAt.none_int b t
  | str b=>obtain⟨t,rfl⟩:=rx;exact SeqAt.EqAt.none_str b t
  | _=>exact absurd (show false=true from fx) Bool.false_ne_true
 | bl a =>
  cases ry
  cases x with
  | yQ=>cases rx;exact SeqAt.EqAt.bool_none a
  | bl b=>cases rx;exact SeqAt.EqAt.bool_bool a b
  | int b=>obtain⟨t,rfl⟩:=rx;exact SeqAt.EqAt.bool_int a b t
  | str b=>obtain⟨t,rfl⟩:=rx;exact SeqAt.EqAt.bool_str a b t
  | _=>exact absurd (show false=true from fx) Bool.false_ne_true
 | int a =>
  obtain⟨t',rfl⟩:=ry
  cases x with
  | yQ=>cases rx;exact SeqAt.EqAt.int_none a t'
  | bl b=>cases rx;exact SeqAt.EqAt.int_bool a t' b
  | int b=>obtain⟨t,rfl⟩:=rx;exact SeqAt.EqAt.int_int a t' b t
  | str b=>obtain⟨t,rfl⟩:=rx;exact SeqAt.EqAt.int_str a t' b t
  | _=>exact absurd (show false=true from fx) Bool.false_ne_true
 | str a =>
  obtain⟨t',rfl⟩:=ry
  cases x with
  | yQ=>cases rx;exact SeqAt.EqAt.str_none a t'
  | bl b=>cases rx;exact SeqAt.EqAt.str_bool a t' b
  | int b=>obtain⟨t,rfl⟩:=rx;exact SeqAt.EqAt.str_int a t' b t
  | str b=>obtain⟨t,rfl⟩:=rx;exact SeqAt.EqAt.str_str a t' b t
  | _=>exact absurd (show false=true from fx) Bool.false_ne_true
 | _=>exact absurd (show false=true from fy) Bool.false_ne_true
noncomputable def oa (x:V)(u:Value):Bool:=match u with
 | .none=>wq .yQ x
 | .bool b=>wq (.bl b) x
 | .int i _=>wq (.int i) x
 | .str z _=>wq (.str z) x
 | _=>false
theorem tF {x y:V}{u:Value}(r:RelV y u)(f:gh y=true):oa x u=wq y x:=by
 cases y with
 | yQ=>cases r;rfl
 | bl b=>cases r;rfl
 | int i=>obtain⟨t,rfl⟩:=r;rfl
 | str z=>obtain⟨t,rfl⟩:=r;rfl
 | _=>exact absurd (show false=true from f) Bool.false_ne_true
theorem gA {x:V}:∀ {xs:List V}{us:List Value},Vals xs us->xs.all gh=true->us.any (oa x)=xs.any fun y=>wq y x
 | _,_, .nil,_=>rfl
 | y :: xs,u :: us, .cons r t,f=>by
  rw[all_cons,Bool.and_eq_true]at f
  rw[any_cons,any_cons,tF r f.1,gA t f.2]
theorem eE {A:Around}{s:Shared}{x:V}{v:Value}(rx:RelV x v)(fx:gh x=true):∀ {xs:List V}{us:List Value},Vals xs us->xs.all gh=true->∀ u ∈ us,SeqAt.EqAt A s u v (oa x u)
 | _,_, .nil,_=>fun u hu=>by cases hu
 | y :: xs,u :: us, .cons r t,f=>fun u' hu=>by
  rw[all_cons,Bool.and_eq_true]at f
  rcases mem_cons.mp hu with rfl | hu
  ·rw[tF r f.1];exact yi r rx f.1 fx
  ·exact eE rx fx t f.2 u' hu
noncomputable def Hi (x:V)(xs:List V):Bool:=xs.any fun y=>wq y x
noncomputable def Oc (K:Frag)(neg:Bool):R2:=fun x y H Q=>∃ p xs,y = .ref p/\(yC K H p xs∨yN K H p xs)/\gh x=true/\xs.all gh=true/\Q (.bl (if neg then !Hi x xs else Hi x xs)) H
theorem pP:dQ X (compareOp .In) (Oc X.K false):=by
 intro pins s σ H x y v u Q I rx ry h
 obtain⟨p,xs,rfl,hq,fx,fs,q⟩:=h
 cases ry
 rcases hq with hq | hq
 ·obtain⟨yF,r,pl,hz⟩:=I.list hq
  refine SeqAt.in_listAt (oa x) pl.isList (fun w hw=>eE rx fx r fs w (by simpa using hw)) ⟨.bl _,H,I,rfl,?_⟩
  rw[show yF.toArray.any (oa x)=yF.any (oa x) by simp,gA r fs]
  exact q
 ·obtain⟨yF,r,pl,hz⟩:=I.tuple hq
  refine SeqAt.in_tupleAt (oa x) pl (fun w hw=>eE rx fx r fs w (by simpa using hw)) ⟨.bl _,H,I,rfl,?_⟩
  rw[show yF.toArray.any (oa x)=yF.any (oa x) by simp,gA r fs]
  exact q
theorem jX:dQ X (compareOp .NotIn) (Oc X.K true):=by
 intro pins s σ H x y v u Q I rx ry h
 obtain⟨p,xs,rfl,hq,fx,fs,q⟩:=h
 cases ry
 rcases hq with hq | hq
 ·obtain⟨yF,r,pl,hz⟩:=I.list hq
  refine SeqAt.notIn_listAt (oa x) pl.isList (fun w hw=>eE rx fx r fs w (by simpa using hw)) ⟨.bl _,H,I,rfl,?_⟩
  rw[show yF.toArray.any (oa x)=yF.any (oa x) by simp,gA r fs]
  exact q
 ·obtain⟨yF,r,pl,hz⟩:=I.tuple hq
  refine SeqAt.notIn_tupleAt (oa x) pl (fun w hw=>eE rx fx r fs w (by simpa using hw)) ⟨.bl _,H,I,rfl,?_⟩
  rw[show yF.toArray.any (oa x)=yF.any (oa x) by simp,gA r fs]
  exact q
theorem aq:c6 X (.builtin "len") (fun xs H Q=>∃ p ys,xs=[.ref p]/\(yC X.K H p ys∨yN X.K H p ys)/\Q (.int ys.length) H):=by
 intro pins s σ H xs us Q I r h
 obtain⟨p,ys,rfl,hq,q⟩:=h
 obtain⟨u,rfl,rx⟩:=jq r
 cases rx
 have hn:=gU
 rcases hq with hq | hq
 ·obtain⟨yF,r',pl,hz⟩:=I.list hq
  have hlen:=r'.length
  exact Calls.call_len_list pl.isList (by simp only[size_toArray]<;>omega) ⟨.int ys.length,H,I.tok _,⟨s.toks + 1,by rw[size_toArray,hlen]⟩,q⟩
 ·obtain⟨yF,r',pl,hz⟩:=I.tuple hq
  have hlen:=r'.length
  exact len_tuple pl (by simp only[size_toArray]<;>omega) ⟨.int ys.length,H,I.tok _,⟨s.toks + 1,by rw[size_toArray,hlen]⟩,q⟩
theorem c8:c6 X (.type "list") (fun xs H Q=>∃ p ys,xs=[.ref p]/\(yC X.K H p ys∨yN X.K H p ys)/\∀ l,H l=none->Q (.ref l) (upd H l (.lst ys))):=by
 intro pins s σ H xs us Q I r h
 obtain⟨p,ys,rfl,hq,q⟩:=h
 obtain⟨u,rfl,rx⟩:=jq r
 cases rx
 have fin:∀ (yF:List Value),Vals ys yF->ys.length <= sizeLine->∀ (h':Heap)(c':Nat),(∀ b o',s.heap.get? b=some o'->h'.get? b=some o') ->
   h'.get? s.heap.objs.size=some { cls := .type "list",dict:=none,data := .seq yF.toArray c',slots:=#[] }->EP X pins σ Q (.ref s.heap.objs.size) { s with heap:=h' }:=fun yF r' hz h' c' kp e =>
  ⟨.ref s.heap.objs.size,_,I.laid (t':=s.toks) kp (Nat.le_refl _) (show zd X.prog X.w _ h' _ (.lst ys) from ⟨hz,yF,c',r',e⟩),rfl,q _ (I.yL.fresh (Nat.le_refl _))⟩
 rcases hq with hq | hq
 ·obtain⟨yF,r',pl,hz⟩:=I.list hq
  have hlen:=r'.length
  obtain⟨o,ho,hc,n,hd⟩:=pl.isList
  exact call_list_seq p (.inl rfl) ho hc hd (fun h' c' kp e=>fin yF r' hz h' c' kp e) (by simp only[size_toArray]<;>omega)
 ·obtain⟨yF,r',pl,hz⟩:=I.tuple hq
  have hlen:=r'.length
  obtain⟨o,ho,hc,n,hd⟩:=pl
  exact call_list_seq p (.inr rfl) ho hc hd (fun h' c' kp e=>fin yF r' hz h' c' kp e) (by simp only[size_toArray]<;>omega)
theorem cf:c6 X (.type "tuple") (fun xs H Q=>∃ p ys,xs=[.ref p]/\((yC X.K H p ys/\∀ l,H l=none->Q (.ref l) (upd H l (.tup ys)))∨(yN X.K H p ys/\Q (.ref p) H))):=by
 intro pins s σ H xs us Q I r h
 obtain⟨p,ys,rfl,h⟩:=h
 obtain⟨u,rfl,rx⟩:=jq r
 cases rx
 rcases h with ⟨hq,q⟩ | ⟨hq,q⟩
 ·obtain⟨yF,r',pl,hz⟩:=I.list hq
  have hlen:=r'.length
  refine call_tuple_list pl.isList (fun h' kp=>?_) (by simp only[size_toArray]<;>omega)
  have I1:Inv X pins σ H { s with heap:=h' }:=I.kept (t':=s.toks) kp
  have I2:Inv X pins σ (upd H h'.objs.size (.tup ys)) { s with heap:=h'.push { cls := .type "tuple",data := .seq yF.toArray } } :=
   I1.laid (t':=s.toks) (fun b o e=>Heap.get?_push_of_some _ e) (Nat.le_refl _) (show zd X.prog X.w _ _ _ (.tup ys) from ⟨hz,yF,r',zN.new _ _⟩)
  exact⟨.ref h'.objs.size,_,I2,rfl,q _ (I1.yL.fresh (Nat.le_refl _))⟩
 ·obtain⟨yF,r',pl,hz⟩:=I.tuple hq
  exact call_tuple_same pl ⟨.ref p,H,I,rfl,q⟩
noncomputable def Od (K:Frag)(T:String)(x:V)(H:Hp):Prop:=match x with
 | .str _=>T = "str"
 | .int _=>T = "int"
 | .ref p=>(T = "list"/\∃ xs,yC K H p xs)∨(T = "tuple"/\∃ o,K.lookup p=some o/\o.cls = .type "tuple"/\o.dict=none) ∨
   (T = "dict"/\((∃ yJ,H p=some (.dK yJ))∨∃ yJ,H p=some (.dT yJ)))∨(T = "set"/\∃ S n,H p=some (.set S n))
 | _=>False
theorem qC {pins:List (Addr × Obj)}{σ:St}{H:Hp}{s:Shared}{T:String}{x:V}{v:Value}(I:Inv X pins σ H s)(r:RelV x v)(ty:Od X.K T x H) :
  s.TypeIs v T/\∀ a,v = .ref a->∃ ob,s.heap.get? a=some ob/\ob.dict=none:=by
 cases x with
 | str z =>
  obtain⟨t,rfl⟩:=r
  cases (show T = "str" from ty)
  exact⟨typeIs_str s z t,fun _ e=>nomatch e⟩
 | int i =>
  obtain⟨t,rfl⟩:=r
  cases (show T = "int" from ty)
  exact⟨typeIs_int s i t,fun _ e=>nomatch e⟩
 | ref p =>
  cases r
  rcases ty with ⟨rfl,xs,hq⟩ | ⟨rfl,o,hk,hc,hd⟩ | ⟨rfl,hk⟩ | ⟨rfl,S,n,hk⟩
  ·obtain⟨yF,_,pl,_⟩:=I.list hq
   refine⟨pl.isList.typeIs,fun a e=>?_⟩
   cases e
   obtain⟨o,n,e,c,hd,_⟩:=pl
   exact⟨o,e,hd⟩
  ·refine⟨⟨o,I.Ac p o hk,hc⟩,fun a e=>?_⟩
   cases e
   exact⟨o,I.Ac _ o hk,hd⟩
  ·have z:∃ o,s.heap.get? p=some o/\o.ExactDict:=by
    rcases hk with ⟨yJ,hk⟩ | ⟨yJ,hk⟩
    ·obtain⟨_,_,_,_,o,_,_,e,ex,_⟩:=I.yL p _ hk
     exact⟨o,e,ex⟩
    ·obtain⟨_,_,_,_,o,_,_,e,ex,_⟩:=I.yL p _ hk
     exact⟨o,e,ex⟩
   obtain⟨o,e,ex⟩:=z
   refine⟨⟨o,e,ex.1⟩,fun a e2=>?_⟩
   cases e2
   exact⟨o,e,ex.2.1⟩
  ·obtain⟨o,_,_,_,e,ex,_⟩:=I.yL p _ hk
   refine⟨⟨o,e,ex.1⟩,fun a e2=>?_⟩
   cases e2
   exact⟨o,e,ex.2.1⟩
 | _=>exact False.elim ty
noncomputable def Oe (K:Frag)(T:String)(r:V->List V->Hp->VK->Prop)(to:TE):TE:=fun σ H Q=>to σ H fun x H1=>Od K T x H1/\r x [] H1 Q
noncomputable def tBM (K:Frag)(T:String)(r:V->List V->Hp->VK->Prop)(to:TE)(t:TA):TE:=fun σ H Q=>to σ H fun x H1=>Od K T x H1/\t σ H1 fun xs H2=>r x xs H2 Q
variable {o e:Expr}{es:List Expr}{to:TE}{t:TA}{name:Str}{apos zJ:Pos}{T id:String}{r:V->List V->Hp->VK->Prop}
theorem xm (pa:PlainAttrs T)(slot:Slot T name id)(Of:typeOf (.builtin id)=pure (.type "method_descriptor"))(hm:LQ X id r)(ho:PE X o to)
  (CW:autoParam (attributeBase o name X.env (eval o X.env)=eval o X.env) η) (CY:autoParam ((apos.endLine == zJ.line)=true) η):PE X (.Call (.Attribute o name apos) [] [] zJ) (Oe X.K T r to):=by
 intro pins s σ H Q I h
 refine wpAny_Call_method0_late CW CY (bv (ho pins s σ H _ I h) fun v s1 yD=>?_)
 obtain⟨x,H1,I1,r1,ty,q1⟩:=yD
 obtain⟨h1,h2⟩:=qC I1 r1 ty
 exact⟨T,id,pa,slot,Of,h1,h2,Calls.callWith_builtin rfl (PySem.evalArgs_none (hm pins s1 σ H1 x [] v [] Q I1 r1 .nil q1))⟩
theorem cz (pa:PlainAttrs T)(slot:Slot T name id)(Of:typeOf (.builtin id)=pure (.type "method_descriptor"))(hm:LQ X id r)(ho:PE X o to)(ha:PA X (e :: es) t)
  (CW:autoParam (attributeBase o name X.env (eval o X.env)=eval o X.env) η)
  (Fz:((backTo zJ (starEach (e :: es) X.env)).all (fun x=>!x.1) && (backToKw zJ (keywordEach [] X.env)).all (fun x=>x.1.isSome)
   && decide ((e :: es).length + ([]:List Keyword).length + (if ([]:List Keyword).isEmpty then 0 else 1) < 30))=true:=by rfl)
  (CY:autoParam ((apos.endLine == zJ.line)=true) η) (hs:autoParam (starEach (e :: es) X.env=(false,eval e X.env) :: starEach es X.env) η) (F0:autoParam ((backTo zJ (starEach es X.env)).any (·.1)=false) η) :
  PE X (.Call (.Attribute o name apos) (e :: es) [] zJ) (tBM X.K T r to t):=by
 intro pins s σ H Q I h
 refine wpAny_Call_method_late CW Fz CY rfl (bv (ho pins s σ H _ I h) fun v s1 yD=>?_)
 obtain⟨x,H1,I1,r1,ty,q1⟩:=yD
 obtain⟨h1,h2⟩:=qC I1 r1 ty
 refine⟨T,id,pa,slot,Of,h1,h2,?_⟩
 have hA:=ha zJ pins s1 σ H1 _ I1 q1
 rw[hs]at hA ⊢
 refine Calls.callWith_builtin (by show(false || (backTo zJ (starEach es X.env)).any (·.1))=false;rw[F0]<;>rfl) (Calls.evalArgs_plain ?_)
 exact bv hA fun us s2 yD=>by obtain⟨vs,H2,I2,r2,q2⟩:=yD;exact hm pins s2 σ H2 x vs v us Q I2 r1 r2 q2
end
noncomputable def Og (X:Cx)(id:String)(r:V->List V->Hp->VK->Prop):Prop :=
 ∀ (pins:List (Addr × Obj))(s:Shared)(σ:St)(H:Hp)(x:V)(xs:List V)(v:Value)(us:List Value)(Q:VK),Inv X pins σ H s->RelV x v->Vals xs us->r x xs H Q ->
  wpAny (model X.prog X.w) X.A (call (.builtin id) (v :: us)) (EP X pins σ Q) X.xe s
theorem Vals.one:∀ {x:V}{us:List Value},Vals [x] us->∃ u,us=[u]/\RelV x u:=by
 intro x us h
 cases h with
 | cons r t=>cases t;exact⟨_,rfl,r⟩
theorem Vals.eraseIdx:∀ {xs:List V}{us:List Value}(i:Nat),Vals xs us->Vals (xs.eraseIdx i) (us.eraseIdx i)
 | _,_,_, .nil => .nil
 | _,_,0, .cons _ t=>t
 | _,_,i + 1, .cons r t => .cons r (Vals.eraseIdx i t)
theorem jz {α:Type}:∀ (l:List α)(i:Nat),(l.eraseIdx i).length <= l.length
 | [],_=>Nat.le_refl _
 | _ :: _,0=>le_succ _
 | _ :: r,i + 1=>Nat.succ_le_succ (jz r i)
section
variable {X:Cx}{pins:List (Addr × Obj)}{σ:St}{H:Hp}{s:Shared}{l b:Addr}{xs ys zs:List V}
theorem Inv.F1 {yF its':List Value}{n:Nat}{f:Array Value->Array Value}{t':Nat}(I:Inv X pins σ H s)(hH:H l=some (.lst xs))
  (e:s.heap.get? l=some { cls := .type "list",data := .seq yF.toArray n }) (hf:f yF.toArray=its'.toArray) (hv:Vals ys its') (hz:ys.length <= sizeLine) :
  Inv X pins σ (upd H l (.lst ys)) { s with heap:=s.heap.update l (Obj.mapSeq f),toks:=t' }:=by
 have q:=PySem.IsL.update e f
 rw[hf]at q
 refine I.write (x:=l) (e:=l) (by rw[hH];exact trivial) (.inl rfl) (fun b' u hb hu=>(Heap.get?_update_other s.heap (Obj.mapSeq f) (Ne.symm hb)).trans hu) ⟨_,q⟩ ?_
 exact⟨hz,its',_,hv,q⟩
theorem Inv.Oh {yF:List Value}{t':Nat}(I:Inv X pins σ H s)(hv:Vals ys yF)(hz:ys.length <= sizeLine) :
  Inv X pins σ (upd H s.heap.objs.size (.lst ys)) { s with heap:=s.heap.push { cls := .type "list",data := .seq yF.toArray },toks:=t' } :=
 I.laid (fun _ _ q=>Heap.get?_push_of_some _ q) (Nat.le_refl _) ⟨hz,yF,0,hv,Heap.get?_push_size _ rfl⟩
theorem Inv.fresh (I:Inv X pins σ H s):H s.heap.objs.size=none:=I.yL.fresh (Nat.le_refl _)
theorem Inv.BO (I:Inv X pins σ H s)(hH:H l=some (.lst xs)):xs.length <= sizeLine/\∃ (yF:List Value)(n:Nat),Vals xs yF/\xs.length=yF.length/\s.heap.get? l=some { cls := .type "list",data := .seq yF.toArray n }:=by
 obtain⟨z,yF,n,r,e⟩:=I.yL l _ hH
 exact⟨z,yF,n,r,r.length,e⟩
theorem sM {n:Nat}(h:n <= sizeLine):Builtin.List.listTooLong n=false:=by
 unfold Builtin.List.listTooLong
 exact decide_eq_false (by omega)
end
section
variable {X:Cx}
noncomputable def uE:V->List V->Hp->VK->Prop:=fun x vs H Q=>∃ l xs y,x = .ref l/\vs=[y]/\H l=some (.lst xs)/\xs.length < sizeLine/\Q .yQ (upd H l (.lst (xs ++ [y])))
theorem bQ:Og X "list.append" uE:=by
 intro pins s σ H x vs v us Q I rx rv h
 obtain⟨l,xs,y,rfl,rfl,hH,hz,q⟩:=h
 cases rx
 obtain⟨u,rfl,ru⟩:=rv.one
 obtain⟨z,yF,n,r,hl,e⟩:=I.BO hH
 refine call_meets F.slot_list_append ⟨_,e,rfl⟩ F.entry_list_append (F.args_list_append_2 _ _) (PySem.list_append l yF.toArray n u (by rw[size_toArray];omega)) ⟨e,?_⟩
 refine⟨.yQ,_,I.F1 (its':=yF ++ [u]) hH e (by simp) (r.append (.cons ru .nil)) ?_,rfl,q⟩
 rw[length_append,length_singleton]
 omega
noncomputable def uD:V->List V->Hp->VK->Prop:=fun x vs H Q=>∃ l b xs zs,x = .ref l/\vs=[.ref b]/\H l=some (.lst xs)/\H b=some (.lst zs)/\xs.length + zs.length <= sizeLine/\Q .yQ (upd H l (.lst (xs ++ zs)))
theorem eT:Og X "list.extend" uD:=by
 intro pins s σ H x vs v us Q I rx rv h
 obtain⟨l,b,xs,zs,rfl,rfl,hH,hB,hz,q⟩:=h
 cases rx
 obtain⟨u,rfl,ru⟩:=rv.one
 cases ru
 obtain⟨z,yF,n,r,hl,e⟩:=I.BO hH
 obtain⟨z2,AV,n2,r2,CG,e2⟩:=I.BO hB
 have hsz:yF.toArray.size + AV.toArray.size <= sizeLine:=by rw[size_toArray,size_toArray];omega
 have I0:¬ (!yF.toArray.isEmpty && Builtin.List.listTooLong (yF.toArray.size + AV.toArray.size))=true:=by
  rw[sM hsz,Bool.and_false]
  exact Bool.false_ne_true
 refine call_meets F.slot_list_extend ⟨_,e,rfl⟩ F.entry_list_extend (F.args_list_extend_2 _ _)
  (AutoSeq1.list_extend_list_list_0 l yF.toArray n b AV.toArray n2 I0 (by rw[size_toArray];omega) (by omega)) ⟨e,e2,?_⟩
 refine⟨.yQ,_,I.F1 (its':=yF ++ AV) hH e (by simp) (r.append r2) ?_,rfl,q⟩
 rw[length_append]
 omega
noncomputable def xg:V->List V->Hp->VK->Prop:=fun x vs H Q=>∃ l xs i k y,x = .ref l/\vs=[.int i]/\H l=some (.lst xs)/\-(2 ^ 63) <= i/\i < 2 ^ 63/\seqIndex? i xs.length=some k/\xs[k]? = some y/\Q y (upd H l (.lst (xs.eraseIdx k)))
theorem sP:Og X "list.pop" xg:=by
 intro pins s σ H x vs v us Q I rx rv h
 obtain⟨l,xs,i,k,y,rfl,rfl,hH,h1,h2,hk,hy,q⟩:=h
 cases rx
 obtain⟨u,rfl,ru⟩:=rv.one
 obtain⟨t,rfl⟩:=ru
 obtain⟨z,yF,n,r,hl,e⟩:=I.BO hH
 obtain⟨w,hw,DZ⟩:=r.get hy
 refine call_meets F.slot_list_pop ⟨_,e,rfl⟩ F.entry_list_pop (F.args_list_pop_2 _ _)
  (MeetsSeq.list_pop_at l yF.toArray n i t k w (fitsIndex_both h1 h2) (by rw[size_toArray,← hl];exact hk) (by rw[← Array.getElem?_toList];exact hw) (by rw[size_toArray];omega)) ⟨e,?_⟩
 refine⟨y,_,I.F1 (its':=yF.eraseIdx k) hH e ?_ (r.eraseIdx k) ?_,DZ,q⟩
 ·show yF.toArray.eraseIdxIfInBounds k=(yF.eraseIdx k).toArray
  rw[List.eraseIdxIfInBounds_toArray]
 ·have:=jz xs k
  omega
noncomputable def Oi:R2:=fun x y H Q=>∃ l b xs zs,x = .ref l/\y = .ref b/\H l=some (.lst xs)/\H b=some (.lst zs)/\xs.length + zs.length <= sizeLine/\∀ p,H p=none->Q (.ref p) (upd H p (.lst (xs ++ zs)))
theorem rZ:dQ X (binaryOp .Add) Oi:=by
 intro pins s σ H x y v u Q I rx ry h
 obtain⟨l,b,xs,zs,rfl,rfl,hH,hB,hz,q⟩:=h
 cases rx
 cases ry
 obtain⟨z,yF,n,r,hl,e⟩:=I.BO hH
 obtain⟨z2,AV,n2,r2,CG,e2⟩:=I.BO hB
 refine PySem.P.add_list e e2 ?_ (by rw[size_toArray,size_toArray];omega)
 have ea:yF.toArray ++ AV.toArray=(yF ++ AV).toArray:=by simp
 rw[ea]
 exact⟨.ref _,_,I.Oh (t':=s.toks) (r.append r2) (by rw[length_append];omega),rfl,q _ I.fresh⟩
end
section
variable {prog:Program}{w:World}{A:Around}{E:Value->Shared->Prop}{s:Shared}
set_option maxRecDepth 100000 in
end
section
variable {X:Cx}
end
end L2
namespace T4
open PySem PySem.W PySem.Calls PyProof.Rows
theorem iu {P:Params}{h:Heap}:∀ (ns:List Int)(vs:List Value),WellAll P h vs (ns.map WData.int)->IntsAre vs ns:=by
 intro ns
 induction ns with
 | nil =>
  intro vs w
  rw[map_nil]at w
  cases w
  exact .nil
 | cons n ns ih =>
  intro vs w
  rw[map_cons]at w
  cases w with
  | cons a b =>
   cases a
   exact .cons _ _ (ih _ b)
theorem pH {l:OpenLaw}{n:Nat}(hn:l.most=some n){P:Params}{h:Heap}{args:List WData}{vals:List Value}
  (Ea:l.row.toRowW.claim.pre args=true) (BD:WellAll P h vals args) :
  ∃ a vs ns,vals=[Value.ref a]/\args=[WData.list (ns.map WData.int)]/\h.get? a=some { cls := .type "list",data := .seq vs.toArray }/\IntsAre vs ns/\ns.length <= n:=by
 have hsh:WShape.hasAll [] args [.list .int]=true:=(pre_splitW Ea).1
 have hc:l.pre.holds [] { args:=args } = true:=(pre_splitW Ea).2
 obtain⟨d,r,rfl,h1,h2⟩:=hasAllW_cons hsh
 obtain rfl:=hasAllW_nil h2
 obtain⟨xs,rfl,h3⟩:=hasW_list h1
 obtain⟨ns,rfl⟩:=items_int h3
 have hlen:ns.length <= n:=by
  unfold OpenLaw.pre at hc
  have h4:(WTm.not (.lt (.lit (.int (n:Int))) (.len (.arg 0)))).holds [] { args:=[.list (ns.map .int)] } = true:=by
   have h4:=(holds_andW hc).1
   rw[hn]at h4
   exact h4
  have h5:=condW_of h4 (w_not (w_lt w_lit (w_len_list (w_arg rfl))))
  rw[length_map]at h5
  refine Nat.le_of_not_lt fun q=>?_
  have q':(n:Int) < ((ns.length:Nat):Int):=by omega
  first
   | (rw[decide_eq_true q']at h5;exact absurd h5 (by decide))
   | (simp at h5;omega)
 cases BD with
 | cons w1 w2 =>
  cases w2
  cases w1 with
  | list ho Bz=>exact⟨_,_,ns,rfl,rfl,ho,iu ns _ Bz,hlen⟩
theorem pM (l:OpenLaw)(args:List WData):l.row.toRowW.claim.post args (.bool true) args=true :=
 postW_of (r:=l.row.toRowW) (X:=(true == true))
  (show WShape.has [] (.bool true) .bool=true by first | rfl | decide | simp[WShape.has,WShape.arms,WShape.armsAll])
  (show(WTm.eq .res (.lit (.bool true))).value [] { args:=args,res:=some (.bool true),after:=args } = some (.bool (true == true)) from w_eq_bool (w_res rfl) w_lit) rfl
theorem B1 {l:OpenLaw}{n:Nat}{q:Program}{loose:List Str}{XP:(Str->Option Value)->Heap->Prop}{YP:World->Heap->Prop}{d:DefRec}
  (hn:l.most=some n) (IA:d.params.defaults=[])
  (call:∀ (w:World)(s₀ s₁:Shared)(mg mb:Str->Option Value)(fa:Addr)(o:Obj)(pm cd doc:Value)(a:Addr)(vs:List Value)(ns:List Int),
   Ground q loose [] XP w s₀ mg mb s₁.heap->YP w s₁.heap ->
   s₁.heap.get? fa=some o->o.data = .func (docDef d.name d.params d.body d.scope pm cd doc)->s₁.heap.CodeRec cd d.name->mg d.name=some (.ref fa) ->
   s₁.heap.get? a=some { cls := .type "list",data := .seq vs.toArray }->IntsAre vs ns->ns.length <= n->s₁.gens = #[] ->
   codeAny (model l.prog w) callerA (.call (.ref fa) ⟨[.ref a],[]⟩) (fun r s'=>r = .ok (.ret (.bool true))/\OldK s₁.heap s'.heap/\s'.os=s₁.os/\AllBare s'.gens) s₁) :
  WalkO q loose XP YP l.row.toRowW d [] (fun f vs=>PySem.call f vs):=by
 intro w s₀ s₁ mg mb G Y fa o pm cd doc dV kV ho hd AS hD hmg hg args vals as Ea hlay hrd BD Bk
 obtain rfl:dV = .none:=Dflts.none hD IA
 obtain rfl:kV = .none:=Dflts.noKw hD
 obtain⟨a,vs,ns,rfl,rfl,F2,hints,hlen⟩:=pH hn Ea BD
 refine enter_call (codeAny_mono (call w s₀ s₁ mg mb fa o pm cd doc a vs ns G Y ho (fd_plain hd) AS hmg F2 hints hlen hg) fun r s' hq=>?_)
 obtain⟨rfl,h2,h3,h4⟩:=hq
 exact⟨.inl ⟨.bool true, .bool true,[],rfl,fun _=>rfl, .bool true,pM l _,fun _=>⟨List.Pairwise.nil,fun _ hm=>(nomatch hm)⟩⟩,h2,h3,h4⟩
section
variable {prog:Program}{w:World}{A:Around}{E:Value->Shared->Prop}{s:Shared}{K:Frag}
end
end T4
namespace L2
open PySem PySem.Spec PyProof.Rows
theorem gF:∀ {vs:List Value}{ns:List Int},IntsAre vs ns->Vals (ns.map V.int) vs
 | _,_, .nil => .nil
 | _,_, .cons n t h => .cons ⟨t,rfl⟩ (gF h)
noncomputable def aI (s:Stmt)(j:Nat):Stmt:=match s with
 | .ClassDef _ _ _ body _ _ _ _ _ _ _=>body.getD j (.Pass ⟨0,0,0,0⟩)
 | _ => .Pass ⟨0,0,0,0⟩
noncomputable def bN (s:Stmt):Arguments:=match s with
 | .FunctionDef _ a _ _ _ _ _ _ _ _=>a
 | _=>{ posonlyargs:=[],args:=[],vararg:=none,kwonlyargs:=[],kw_defaults:=[],kwarg:=none,defaults:=[] }
noncomputable def aF (s:Stmt):List Stmt:=match s with
 | .FunctionDef _ _ b _ _ _ _ _ _ _=>b
 | _=>[]
noncomputable def ah (s:Stmt):Scope:=match s with
 | .FunctionDef _ _ _ _ _ _ sc _ _ _=>sc
 | _=>zQ0
abbrev aC:mE:=fun _ _ _ _ _ _=>False
abbrev E0:XK:=fun _ _ _=>False
theorem ao {X:Cx}:eK aC X E0:=fun _ _ _ _ _ _ _ h=>h.elim
structure yY (K:Frag)(x qual:Str)(st:Stmt)(f:Addr)(fd:FuncData):Prop where
 ex:∃ (oc:Value)(od:Option Addr)(kV doc pm:Value)(an:Option Addr)(cdv ct:Value)(By:Array (Option Value)),
  fd=fnOf x qual (bN st) (aF st) (ah st) .none kV doc pm an cdv ct/\K.lookup f=some ⟨oc,od, .func fd,By⟩/\codeIn K cdv qual=true
 kp:keepIn K (.ref f)=true
section
variable {P:Program}{w:World}{K:Frag}{mg:Str->Option Value}{base:Heap}
theorem yY.ok {x qual:Str}{st:Stmt}{f:Addr}{fd:FuncData}{N ps:List Str}{k:Nat}{sp:Sp}(F:yY K x qual st f fd)(S:ap N ps (ah st))(len:∀ vs H Q E,sp vs H Q E->vs.length=ps.length)
  (Ae:∀ (cdv:Value)(A:Around)(outer:List Env)(s:Shared)(H:Hp)(vs:List V)(Q:VK)(E:XK),yK k (A.deeper (envOfC qual (ah st) s.heap.objs.size f cdv))->sp vs H Q E ->
   ∃ t,AR (lR aC P w K mg base N qual (ah st) f cdv A outer s H E).EE (aF st) t/\t { nx:=fun _ H'=>Q .yQ H',rt:=Q } (start N vs) H):y9 P w K mg base aC (k + 1) f fd ps sp:=by
 obtain⟨oc,od,kV,doc,pm,an,cdv,ct,By,rfl,lk,AS⟩:=F.ex
 refine tE lk AS S len fun A outer s H vs Q E hr BN=>?_
 obtain⟨t,h,q⟩:=Ae cdv A outer s H vs Q E hr BN
 exact⟨t,h.EE,q⟩
theorem yY.binds {x qual:Str}{st:Stmt}{f:Addr}{fd:FuncData}{ps:List Str}(F:yY K x qual st f fd)
  (h:∀ (kV doc pm:Value)(an:Option Addr)(cdv ct:Value)(us:List Value),us.length=ps.length->bindArgs (fnOf x qual (bN st) (aF st) (ah st) .none kV doc pm an cdv ct) ⟨us,[]⟩ = pure (ps.zip us)):Binds K fd ps []:=by
 obtain⟨oc,od,kV,doc,pm,an,cdv,ct,By,rfl,lk,AS⟩:=F.ex
 exact .all (h kV doc pm an cdv ct)
theorem gY {x qual:Str}{st:Stmt}{f:Addr}{oc:Value}{od an:Option Addr}{By:Array (Option Value)}{kV doc pm cdv ct:Value}(l:K.lookup f=some ⟨oc,od, .func (fnOf x qual (bN st) (aF st) (ah st) .none kV doc pm an cdv ct),By⟩)
  (c:codeIn K cdv qual=true) (k:keepIn K (.ref f)=true):yY K x qual st f (fnOf x qual (bN st) (aF st) (ah st) .none kV doc pm an cdv ct):=⟨⟨oc,od,kV,doc,pm,an,cdv,ct,By,rfl,l,c⟩,k⟩
end
theorem wn {A:Around}{k:Nat}(hr:yK k A):A.units + 1 < cLine:=lt_of_le_of_lt (Nat.add_le_add_left (by decide:1 <= 64) _) hr.units
section
variable {X:Cx}
theorem pv (i:Nat){x:Str}{pos:Pos}(hN:autoParam (X.N[i]? = some x) η)(hv:LA X.env.scope x:=by first | exact Or.inl rfl | exact Or.inr (Or.inl rfl) | exact Or.inr (Or.inr rfl))(hd:autoParam ((x == ("__debug__":Str))=false) θ)
  (AS:autoParam ((x == ("__classdict__":Str))=false) θ):PE X (.Name x pos) (jC i):=xk hN hv hd AS
end
theorem aH {A B:Prop}(h:B):if false=true then A else B:=by
 rw[if_neg Bool.false_ne_true]
 exact h
theorem aK {A B:Prop}(h:A):if true=true then A else B:=by
 rw[if_pos rfl]
 exact h
theorem IB {c A B:Prop} [Decidable c] (h1:c->A) (h2:¬ c->B):if c then A else B:=by
 by_cases h:c
 ·rw[if_pos h]
  exact h1 h
 ·rw[if_neg h]
  exact h2 h
noncomputable def y8 (H H':Hp):Prop:=∀ b o,H b=some o->H' b=some o
theorem y8.refl (H:Hp):y8 H H:=fun _ _ h=>h
theorem y8.trans {H H1 H2:Hp}(a:y8 H H1)(b:y8 H1 H2):y8 H H2:=fun c o h=>b c o (a c o h)
theorem y8.free {H H':Hp}(e:y8 H H'){l:Addr}(h:H' l=Option.none):H l=Option.none:=by
 cases q:H l with
 | none=>rfl
 | some o =>
  rw[e l o q]at h
  cases h
theorem y8.seq {K:Frag}{H H':Hp}{a:Addr}{xs:List V}(e:y8 H H')(h:yC K H a xs):yC K H' a xs:=by
 rcases h with (h | ⟨o,h⟩) | h
 ·exact .inl (.inl (e _ _ h))
 ·exact .inl (.inr ⟨o,e _ _ h⟩)
 ·exact .inr h
end L2
namespace Yd
open PySem
theorem oi (a b:Nat):Builtin.bitAnd (a:Int) (b:Int)=((a &&& b:Nat):Int):=by
 unfold Builtin.bitAnd
 simp
theorem cE (x:Int):Builtin.bitNot x = -x - 1:=by
 unfold Builtin.bitNot
 omega
theorem Bd (a b:Nat):Builtin.bitOr (a:Int) (b:Int)=((a ||| b:Nat):Int):=by
 unfold Builtin.bitOr
 have h1:Builtin.bitNot (a:Int) = -(a:Int) - 1:=cE _
 have h2:Builtin.bitNot (b:Int) = -(b:Int) - 1:=cE _
 unfold Builtin.bitAnd
 rw[h1,h2]
 have e1:decide (0 <= -(a:Int) - 1)=false:=decide_eq_false (by omega)
 have e2:decide (0 <= -(b:Int) - 1)=false:=decide_eq_false (by omega)
 rw[e1,e2]
 simp only[]
 have e3:Builtin.bitNot (-(a:Int) - 1)=a:=by rw[cE];omega
 have e4:Builtin.bitNot (-(b:Int) - 1)=b:=by rw[cE];omega
 rw[e3,e4]
 simp only[toNat_natCast]
 rw[cE,cE]
 omega
noncomputable def zE:List Nat->Nat->Nat
 | [],s=>s
 | n :: r,s=>zE r (s ||| 2 ^ n)
theorem Ag (k:Nat):∀ (l:List Nat)(s:Nat),(zE l s).testBit k=(s.testBit k || decide (k ∈ l))
 | [],s=>by simp[zE]
 | n :: r,s=>by
  unfold zE
  rw[Ag k r]
  rw[Nat.testBit_or,Nat.testBit_two_pow]
  by_cases h:n=k
  ·subst h;simp
  ·have:¬ k=n:=fun z=>h z.symm
   simp[h,this]
theorem CZ (l r:List Nat)(s:Nat):zE (l ++ r) s=zE r (zE l s):=by
 induction l generalizing s with
 | nil=>rfl
 | cons n t ih=>exact ih _
noncomputable def jm (l:List Nat):Nat->Nat
 | 0=>0
 | n + 1=>if n ∈ l then jm l n + 2 ^ n else jm l n
theorem Bl (l:List Nat):∀ n,jm l n < 2 ^ n
 | 0=>by simp[jm]
 | n + 1=>by
  have:=Bl l n
  unfold jm
  rw[Nat.pow_succ]
  split<;>omega
theorem lP (l:List Nat)(k:Nat):∀ n,(jm l n).testBit k=decide (k < n/\k ∈ l)
 | 0=>by simp[jm]
 | n + 1=>by
  have ih:=lP l k n
  have zb:=Bl l n
  unfold jm
  by_cases hn:n ∈ l
  ·rw[if_pos hn,Nat.add_comm]
   rcases Nat.lt_trichotomy k n with h | h | h
   ·rw[Nat.testBit_two_pow_add_gt h,ih]
    simp[h,Nat.lt_succ_of_lt h]
   ·subst h
    rw[Nat.testBit_two_pow_add_eq,testBit_lt_two_pow zb]
    simp[hn]
   ·have hb:2 ^ n + jm l n < 2 ^ k:=by
     have:2 ^ (n + 1) <= 2 ^ k:=pow_le_pow_right (by decide) h
     rw[Nat.pow_succ]at this
     omega
    rw[testBit_lt_two_pow hb]
    have:¬ k < n + 1:=by omega
    simp[this]
  ·rw[if_neg hn,ih]
   by_cases h:k=n
   ·subst h;simp[hn]
   ·have:k < n↔k < n + 1:=by omega
    simp[this]
theorem Eb {l:List Nat}{n:Nat}(h:∀ k ∈ l,k < n):jm l n=zE l 0:=by
 apply Nat.eq_of_testBit_eq
 intro k
 rw[lP,Ag]
 by_cases hk:k ∈ l
 ·simp[hk,h k hk]
 ·simp[hk]
noncomputable def Dc (m b:Nat):List Nat:=(List.range b).filter fun k=>m.testBit k
theorem B3 {m b k:Nat}(h:m < 2 ^ b):k ∈ Dc m b↔m.testBit k=true:=by
 unfold Dc
 rw[mem_filter,mem_range]
 constructor
 ·exact fun z=>z.2
 ·intro z
  refine⟨?_,z⟩
  by_cases hk:k < b
  ·exact hk
  ·have:m < 2 ^ k:=lt_of_lt_of_le h (pow_le_pow_right (by decide) (by omega))
   rw[testBit_lt_two_pow this]at z
   cases z
theorem Cj (m:Nat):m < 2 ^ (Builtin.Int.intBits (m:Int)):=by
 unfold Builtin.Int.intBits
 by_cases h:m=0
 ·subst h;simp
 ·have e:((m:Int) == 0)=false:=by simp[h]
  rw[e]
  simp only[Bool.false_eq_true,if_false,Int.natAbs_natCast]
  exact Nat.lt_log2_self
theorem bits_le {m b:Nat}(h:m < 2 ^ b):Builtin.Int.intBits (m:Int) <= b:=by
 unfold Builtin.Int.intBits
 by_cases h0:m=0
 ·subst h0;simp
 ·have e:((m:Int) == 0)=false:=by simp[h0]
  rw[e]
  simp only[Bool.false_eq_true,if_false,Int.natAbs_natCast]
  have:=(Nat.log2_lt h0).mpr h
  omega
theorem Ck (m k:Nat):decide (Builtin.bitAnd ((m:Int) / 2 ^ k) 1=1)=m.testBit k:=by
 have e:((m:Int) / 2 ^ k)=((m / 2 ^ k:Nat):Int):=by
  rw[Int.natCast_ediv,natCast_pow]
  rfl
 rw[e,show (1:Int)=((1:Nat):Int) from rfl,oi,Nat.testBit_eq_decide_div_mod_eq]
 rw[Nat.and_one_is_mod]
 congr 1
 exact propext ⟨fun z=>by exact_mod_cast z,fun z=>by exact_mod_cast z⟩
end Yd
namespace L2
open PySem PySem.Spec PyProof.Rows
noncomputable def ce (cells:List (Str × Addr)):List (Str × NameKind)->List (Str × Addr)->List (Str × Addr)
 | [],acc=>acc
 | (n,k) :: r,acc=>if k == .free then ce cells r ((n,(cells.lookup n).getD 0) :: acc) else ce cells r acc
theorem fA {scope:Scope}{env:Env}(h:∀ y ∈ scope.names,y.2 = .free->∃ c,env.cells.lookup y.1=some c) :
  closureFor scope env=pure (ce env.cells scope.names []):=by
 unfold closureFor
 have key:∀ (names:List (Str × NameKind))(acc:List (Str × Addr)),(∀ y ∈ names,y.2 = .free->∃ c,env.cells.lookup y.1=some c) ->
   (forIn names acc fun (x:Str × NameKind)(cs:List (Str × Addr))=>(match x with
    | (name,kind)=>if (kind == NameKind.free)=true then do
      let c ← cellOf env name
      pure (ForInStep.yield ((name,c) :: cs))
     else pure (ForInStep.yield cs):Sem (ForInStep (List (Str × Addr)))))=(pure (ce env.cells names acc):Sem (List (Str × Addr))):=by
  intro names
  induction names with
  | nil=>intro acc _;rfl
  | cons y r ih =>
   intro acc hy
   obtain⟨n,k⟩:=y
   rw[List.forIn_cons]
   by_cases hk:(k == NameKind.free)=true
   ·obtain⟨c,hc⟩:=hy (n,k) mem_cons_self (by simpa using hk)
    have e1:cellOf env n=pure c:=by
     unfold cellOf
     simp only[]at hc
     rw[hc]
    simp only[hk,if_true,e1,pure_bind]
    rw[ih _ fun z hz=>hy z (mem_cons_of_mem _ hz)]
    unfold ce
    simp only[]at hc
    rw[if_pos hk,hc]
    conv=>rhs;unfold ce
    rfl
   ·simp only[hk,Bool.false_eq_true,if_false,pure_bind]
    rw[ih _ fun z hz=>hy z (mem_cons_of_mem _ hz)]
    conv=>rhs;unfold ce
    rw[if_neg hk]
 exact(congrArg (fun (m:Sem (List (Str × Addr)))=>m >>= fun z=>pure z) (key scope.names [] h)).trans (pure_bind _ _)
theorem cU {cells:List (Str × Addr)}{x:Str}{c:Addr}:∀ (names:List (Str × NameKind))(acc:List (Str × Addr)),(∀ y ∈ names,y.2 = .free->∃ c,cells.lookup y.1=some c) ->
  (∀ c,acc.lookup x=some c->cells.lookup x=some c)->(ce cells names acc).lookup x=some c->cells.lookup x=some c
 | [],acc,_,ha,e=>ha c e
 | (n,k) :: r,acc,hn,ha,e=>by
  unfold ce at e
  have hr:=fun z hz=>hn z (mem_cons_of_mem _ hz)
  split at e
  ·rename_i hk
   refine cU r _ hr (fun c' e'=>?_) e
   rw[lookup_cons]at e'
   split at e'
   ·rename_i hx
    have C3:x=n:=by simpa using hx
    subst C3
    obtain⟨c0,hc0⟩:=hn (x,k) mem_cons_self (by simpa using hk)
    simp only[]at hc0
    rw[hc0]at e' ⊢
    exact e'
   ·exact ha c' e'
  ·exact cU r acc hr ha e
theorem dO {cells:List (Str × Addr)}{x:Str}:∀ (names:List (Str × NameKind))(acc:List (Str × Addr)),((x,NameKind.free) ∈ names∨∃ c,acc.lookup x=some c) ->
  ∃ c,(ce cells names acc).lookup x=some c
 | [],acc,h=>by
  rcases h with h | h
  ·cases h
  ·exact h
 | (n,k) :: r,acc,h=>by
  unfold ce
  split
  ·rename_i hk
   refine dO r _ ?_
   rcases h with h | ⟨c,h⟩
   ·rcases mem_cons.mp h with h | h
    ·refine .inr ⟨(cells.lookup n).getD 0,?_⟩
     injection h with h1 h2
     rw[lookup_cons,h1]
     simp
    ·exact .inl h
   ·refine .inr ?_
    rw[lookup_cons]
    split
    ·exact⟨_,rfl⟩
    ·exact⟨c,h⟩
  ·rename_i hk
   refine dO r _ ?_
   rcases h with h | h
   ·rcases mem_cons.mp h with h | h
    ·injection h with h1 h2
     subst h2
     exact absurd rfl hk
    ·exact .inl h
   ·exact .inr h
theorem fX {env:Env}{x:Str}:∀ {names:List (Str × NameKind)},names.lookup x=some .free ->
  (names.map fun (n,k)=>if (k == NameKind.free && env.scope.kind == .function && env.kindOf n == some .cell) then (n,NameKind.cell) else (n,k)).lookup x=some .cell ∨
  (names.map fun (n,k)=>if (k == NameKind.free && env.scope.kind == .function && env.kindOf n == some .cell) then (n,NameKind.cell) else (n,k)).lookup x=some .free
 | [],h=>by simp at h
 | (n,k) :: r,h=>by
  have ih:=@fX env x r
  rw[map_cons]
  cases hx:x == n with
  | true =>
   rw[lookup_cons,hx]at h
   cases h
   simp only[]
   split
   ·left;rw[lookup_cons,hx]
   ·right;rw[lookup_cons,hx]
  | false =>
   rw[lookup_cons,hx]at h
   simp only[]
   split
   ·rw[lookup_cons,hx];exact ih h
   ·rw[lookup_cons,hx];exact ih h
theorem ed {env:Env}{x:Str}{k:NameKind}(hk:k = .cell∨k = .free):∀ {names:List (Str × NameKind)},(∀ y ∈ names,y.2 ≠ .cell) ->
  (names.map fun (n,k)=>if (k == NameKind.free && env.scope.kind == .function && env.kindOf n == some .cell) then (n,NameKind.cell) else (n,k)).lookup x=some k->(x,NameKind.free) ∈ names
 | [],_,h=>by simp at h
 | (n,k') :: r,hc,h=>by
  have ih:=@ed env x k hk r fun y hy=>hc y (mem_cons_of_mem _ hy)
  rw[map_cons]at h
  simp only[]at h
  cases hx:x == n with
  | true =>
   have e:x=n:=by simpa using hx
   subst e
   split at h
   ·rename_i q
    have q':k' = .free:=by
     have:=(Bool.and_eq_true _ _ ▸ q:_/\_).1
     have:=(Bool.and_eq_true _ _ ▸ this:_/\_).1
     simpa using this
    rw[q']
    exact mem_cons_self
   ·rw[lookup_cons,hx]at h
    have e2:k' = k:=Option.some.inj h
    rcases hk with z | z
    ·exact absurd (e2.trans z) (hc (x,k') mem_cons_self)
    ·rw[e2,z];exact mem_cons_self
  | false =>
   split at h
   ·rw[lookup_cons,hx]at h;exact mem_cons_of_mem _ (ih h)
   ·rw[lookup_cons,hx]at h;exact mem_cons_of_mem _ (ih h)
section
variable {prog:Program}{w:World}{A:Around}{R:Result->Shared->Prop}{s:Shared}
abbrev jB (ifs:List Expr)(env:Env):Sem Bool :=
 forIn ifs true fun c r=>if r=true then do let ok ← isTrue c env (eval c env);pure (ForInStep.yield ok) else pure (ForInStep.yield r)
theorem lW {elt tg iter:Expr}{ifs:List Expr}{scope:Scope}{pos:Pos}{it acc:Value}{env:Env}(I:Nat->Shared->Prop)
  (turn:∀ n s,I n s->wpAny (model prog w) A (pyNext it) (fun r s1=>match r with
   | none=>R (.ok .next) s1
   | some v=>wpAny (model prog w) A (letOwnedTupleGo tg it v) (fun _ s2=>wpAny (model prog w) A (assign tg env v) (fun _ s3 =>
     wpAny (model prog w) A (jB ifs env) (fun ok s4 =>
      if ok=true then wpAny (model prog w) A (eval elt env) (fun x s5 =>
       wpAny (model prog w) A (call (.builtin "list.append") [acc,x]) (fun _ s6=>∃ m,m < n/\I m s6) (fun _ _=>False) s5) (fun _ _=>False) s4
      else ∃ m,m < n/\I m s4) (fun _ _=>False) s3) (fun _ _=>False) s2) (fun _ _=>False) s1) (fun _ _=>False) s)
  (n:Nat) (h:I n s):codeAny (model prog w) A (.compLoop (.ListComp elt [⟨tg,iter,ifs,0⟩] scope pos) 0 it acc env) R s:=by
 refine codeAny_loop rfl I (fun n s hI=>?_) n h
 have no:∀ {E':Value->Shared->Prop}(e:Value)(s':Shared),False->E' e s':=fun _ _ z=>z.elim
 show wpAny _ A (Sem.onRaise (compTurn (.ListComp elt [⟨tg,iter,ifs,0⟩] scope pos) 0 it acc env) fun x=>do
  noteFrame x env
  theTreesLotGoes x) _ _ s
 refine wpAny_noted ?_
 rw[compTurn_list]
 refine wpAny_bind (wpAny_standAt (wpAny_bind (wpAny_mono (turn n s hI) (fun r s1 h1=>?_) no)))
 cases r with
 | none=>exact wpAny_pure h1
 | some v =>
  refine wpAny_bind (wpAny_mono h1 (fun _ s2 h2=>?_) no)
  refine wpAny_bind (wpAny_mono h2 (fun _ s3 h3=>?_) no)
  refine wpAny_bind (wpAny_mono h3 (fun ok s4 h4=>?_) no)
  cases ok with
  | false=>exact wpAny_pure ⟨rfl,h4⟩
  | true =>
   refine wpAny_bind (wpAny_bind (wpAny_mono h4 (fun x s5 h5=>?_) no))
   exact wpAny_bind (wpAny_mono h5 (fun _ s6 h6=>wpAny_pure (wpAny_pure ⟨rfl,h6⟩)) no)
end
noncomputable def IC (X:Cx)(ifs:List Expr)(t:TT):Prop :=
 ∀ (pins:List (Addr × Obj))(s:Shared)(σ:St)(H:Hp)(Q:Bool->Hp->Prop),Inv X pins σ H s->t σ H Q->wpAny (model X.prog X.w) X.A (jB ifs X.env) (TP X pins σ Q) X.xe s
noncomputable def kP:TT:=fun _ H Q=>Q true H
theorem b9 {X:Cx}:IC X [] kP:=fun _ _ _ H _ I h=>wpAny_pure ⟨H,I,h⟩
theorem cx {X:Cx}{c:Expr}{t:TT}(h:PT X c t):IC X [c] t:=fun pins s σ H Q I hw=>by
 simp only[jB,List.forIn_cons,List.forIn_nil,if_true]
 exact wpAny_bind (wpAny_bind (bv (h pins s σ H Q I hw) fun b s' hb=>wpAny_pure (wpAny_pure hb)))
structure zF (N:List Str)(sc scope:Scope)(capN:List Str)(cap:List Nat):Prop where
 kind:scope.kind = .function
 An:∀ y ∈ scope.names,y.2 ≠ .cell
 loc:∀ y ∈ scope.names,y.2 = .local->scope.names.lookup y.1=some .local
 free:∀ y ∈ scope.names,y.2 = .free->sc.names.lookup y.1=some .cell∨sc.names.lookup y.1=some .free
 len:cap.length=capN.length
 cap:∀ p ∈ capN.zip cap,scope.names.lookup p.1=some .free/\N[p.2]? = some p.1
abbrev bZ (X:Cx)(scope:Scope)(N:List Str)(C:Addr)(s:Shared)(H:Hp)(fp:List Addr):Cx :=
 { X with N:=N,s₀:=s,H₀:=H,env:=compEnvC scope (ce X.env.cells scope.names []) C X.env,outer:=X.stack,stack:=X.stack,ex:=fp,fn:=fun _=>false,pn:=[],xe:=fun _ _=>False }
noncomputable def hZ (n:Nat)(cap:List Nat)(σ:St):St:=List.replicate n none ++ cap.map fun j=>(σ[j]?).join
theorem mq (n:Nat)(cap:List Nat)(σ:St):(hZ n cap σ).length=n + cap.length:=by simp[hZ]
section
variable {X:Cx}{pins:List (Addr × Obj)}{σ:St}{H:Hp}{s:Shared}{scope:Scope}{own capN:List Str}{cap:List Nat}{fp:List Addr}
theorem zF.clos (B:zF X.N X.env.scope scope capN cap)(ok:X.Ok):∀ y ∈ scope.names,y.2 = .free->∃ c,X.env.cells.lookup y.1=some c:=fun y hy hf=>ok.has y.1 (B.free y hy hf)
theorem zF.cell (B:zF X.N X.env.scope scope capN cap)(ok:X.Ok){x:Str}{c:Addr}(h:(ce X.env.cells scope.names []).lookup x=some c):X.env.cells.lookup x=some c :=
 cU scope.names [] (B.clos ok) (fun _ e=>by cases e) h
theorem zF.locs (I:Inv X pins σ H s)(B:zF X.N X.env.scope scope capN cap){h':Heap}(k:∀ x c v,X.env.cells.lookup x=some c->s.heap.IsCell c v->h'.IsCell c v)(C:Addr)(m0:Str->Option Value) :
  ∀ (i:Nat)(x:Str)(v:V),(own ++ capN)[i]? = some x->(hZ own.length cap σ)[i]? = some (some v)->∃ u,RelV v u/\Look (compEnvC scope (ce X.env.cells scope.names []) C X.env) h' m0 x u:=by
 intro i x v e1 e2
 have hi:own.length <= i:=by
  by_cases q:own.length <= i
  ·exact q
  ·unfold hZ at e2
   rw[getElem?_append_left (by simp;omega),List.getElem?_replicate,if_pos (by omega)]at e2
   cases e2
 have e1':capN[i - own.length]? = some x:=by
  rwa [getElem?_append_right hi]at e1
 unfold hZ at e2
 rw[getElem?_append_right (by simpa using hi),length_replicate,getElem?_map]at e2
 cases ej:cap[i - own.length]? with
 | none=>rw[ej]at e2;cases e2
 | some j =>
  rw[ej]at e2
  have LR:(σ[j]?).join=some v:=Option.some.inj e2
  have e3':σ[j]? = some (some v):=by
   cases q:σ[j]? with
   | none=>rw[q]at LR;cases LR
   | some u=>rw[q]at LR;exact congrArg some LR
  have hz:(x,j) ∈ capN.zip cap:=by
   refine List.mem_iff_getElem?.mpr ⟨i - own.length,?_⟩
   rw[List.getElem?_zip_eq_some]
   exact⟨e1',ej⟩
  obtain⟨c1,c2⟩:=B.cap (x,j) hz
  have T5:(x,NameKind.free) ∈ scope.names:=PySem.mem_of_lookup c1
  have hX:=B.free _ T5 rfl
  obtain⟨m,hm,hl⟩:=I.loc
  obtain⟨u,ru,lk⟩:=hl j x v c2 e3' (hX.elim (fun z => .inr (.inl z)) fun z => .inr (.inr z))
  refine⟨u,ru, .inr ⟨fX c1,?_⟩⟩
  rcases lk with ⟨q,_⟩ | ⟨_,c,ec,ic⟩
  ·have q':X.env.scope.names.lookup x=some .local:=q
   rcases hX with z | z
   ·rw[z]at q';cases q'
   ·rw[z]at q';cases q'
  ·obtain⟨c',T6⟩:=dO (cells:=X.env.cells) (x:=x) scope.names [] (.inl T5)
   have:=B.cell I.ok T6
   rw[ec]at this
   cases this
   exact⟨c,T6,k x c _ ec ic⟩
theorem Inv.blk {h4:Heap}{tk:Nat}{m0:Str->Option Value}{C:Addr}(I:Inv X pins σ H s)(B:zF X.N X.env.scope scope capN cap)(hC:s.heap.objs.size <= C)(k:∀ b o,s.heap.get? b=some o->h4.get? b=some o)
  (hn:h4.Ns C m0) (hf:∀ b ∈ fp,eZ X pins H b) (zb:∀ b ∈ fp,b < s.heap.objs.size) :
  Inv (bZ X scope (own ++ capN) C s H fp) [] (hZ own.length cap σ) H { s with heap:=h4,toks:=tk }:=by
 have Oj:∀ b ∈ fp,b ∉ kM X.stack:=fun b hb z=>by
  obtain⟨_,f1,f2,_⟩:=hf b hb
  rcases mem_cons.mp (I.Am b z) with e | e
  ·exact f1 e
  ·exact f2 e
 have hinv:∀ x,((relabel scope X.env).names.lookup x=some .cell∨(relabel scope X.env).names.lookup x=some .free)->(x,NameKind.free) ∈ scope.names:=fun x hx=>by
  rcases hx with q | q
  ·exact ed (.inl rfl) B.An q
  ·exact ed (.inr rfl) B.An q
 refine⟨⟨I.ok.mod,B.kind,I.ok.glob,I.ok.blt,hC,fun x y c h1 h2=>I.ok.inj x y c (B.cell I.ok h1) (B.cell I.ok h2),fun x hx=>dO scope.names [] (.inl (hinv x hx)),fun _ _ z=>absurd z Bool.false_ne_true,I.ok.hd,I.ok.frames, .inl rfl,
  fun b hb=>⟨ne_of_lt (lt_of_lt_of_le (zb b hb) hC),fun x c e=>(hf b hb).2.2.2.2.1 x c (B.cell I.ok e)⟩,I.bs,le_trans I.ok.Cy I.sz,fun b o e hb=>?_,fun b hb=>Oj b hb,I.stack,I.Bh⟩,
  rfl,I.bare,Un.kept k,⟨m0,hn,fun i x v e1 e2 _=>B.locs I (fun _ _ _ _ q=>q.keeps k) C m0 i x v e1 e2⟩,fun x c e=>?_,I.yL.fresh hC,fun x c e=>I.zk x c (B.cell I.ok e),fun p hp=>absurd (show p ∈ ([]:List (Addr × Obj)) from hp) (by simp),I.yL.kept k,?_⟩
 ·rcases (hf b hb).2.2.2.1 with z | z
  ·exact I.ok.BJ b o e z
  ·exact absurd (lt_of_lt_of_le (lt_size e) (le_trans I.ok.Cy z)) (lt_irrefl _)
 ·obtain⟨v,q⟩:=I.cell x c (B.cell I.ok e)
  exact⟨v,q.keeps k⟩
 ·show(hZ own.length cap σ).length=(own ++ capN).length
  rw[mq,length_append,B.len]
theorem Inv.reset {pins':List (Addr × Obj)}{σ':St}{H':Hp}{s':Shared}{C:Addr}(I:Inv X pins σ H s)(B:zF X.N X.env.scope scope capN cap)(hf:∀ b ∈ fp,eZ X pins H b)(J:Inv (bZ X scope (own ++ capN) C s H fp) pins' σ' H' s') :
  Inv (bZ X scope (own ++ capN) C s H fp) pins' (hZ own.length cap σ) H' s':=by
 obtain⟨m,hn,_⟩:=J.loc
 refine⟨J.ok,J.os,J.bare,J.base,⟨m,hn,fun i x v e1 e2 _=>?_⟩,J.cell,J.free,J.zk,J.pin,J.yL,?_⟩
 ·refine B.locs I (fun y c v' ec ic=>?_) C m i x v e1 e2
  obtain⟨o,ho,hd⟩:=ic
  have hx:c ∉ fp:=fun z=>(hf c z).2.2.2.2.1 y c ec rfl
  obtain⟨sl,e⟩:=J.base.any ho (I.zk y c ec) hx
  exact⟨_,e,hd⟩
 ·show(hZ own.length cap σ).length=(own ++ capN).length
  rw[mq,length_append,B.len]
theorem Inv.adopt {D:Addr}{o:HO}(I:Inv X pins σ H s)(hn:H D=none)(h0:X.s₀.heap.objs.size <= D)(hL:D ≠ X.env.locals)(hc:∀ x c,X.env.cells.lookup x=some c->c ≠ D)(hp:∀ p ∈ X.pn ++ pins,p.1 ≠ D)
  (new:zd X.prog X.w (upd H D o) s.heap D o):Inv X pins σ (upd H D o) s:=by
 have ne:∀ b u,H b=some u->b ≠ D:=fun b u e=>ai e hn
 refine⟨I.ok,I.os,I.bare,⟨I.base.keep,I.base.slot,fun b ob e n hx=>?_,I.base.there,fun b xs e=>?_,fun b ob u e=>?_,fun b ps e=>?_⟩,I.loc,I.cell,?_,fun x c e=>?_,fun p AM=>?_,fun b u e=>?_,I.len⟩
 ·rw[af (ne_of_lt (lt_of_lt_of_le (lt_size e) h0))]
  exact I.base.free b ob e n hx
 ·have q:=I.base.AQ b xs e
  rw[af (ne b _ q)];exact q
 ·have q:=I.base.AG b ob u e
  rw[af (ne b _ q)];exact q
 ·obtain⟨more,q⟩:=I.base.AH b ps e
  exact⟨more,by rw[af (ne b _ q)];exact q⟩
 ·rw[af (Ne.symm hL)];exact I.free
 ·rw[af (hc x c e)];exact I.zk x c e
 ·obtain⟨e,n,r⟩:=I.pin p AM
  exact⟨e,by rw[af (hp p AM)];exact n,r⟩
 ·by_cases hb:b=D
  ·subst hb;rw[ad]at e;cases e;exact new
  ·rw[af hb]at e
   exact(I.yL b u e).zX (fun _ _ _ q=>q) (fun c q=>by rw[af (ne c _ q)];exact q) fun c xs q=>by rw[af (ne c _ q)];exact q
end
noncomputable def cO (J:It)(g:TG)(tt:TT)(te:TE)(σ0:St)(Q:VK)(H1:Hp):Prop:=∃ W:Nat->Nat->List V->Hp->Prop,(∃ m,W 0 m [] H1)/\∀ i m acc H,W i m acc H ->
 acc.length < sizeLine/\((J.stop i H/\∀ D,H D=none->Q (.ref D) (upd H D (.lst acc)))∨(J.go i H/\∃ N:List V->Hp->Prop,(∀ zo H',N zo H'->∃ m',m' < m/\W (i + 1) m' zo H') /\
  ∀ x H',J.DW i H x H'->g x σ0 H' fun σ2 H2=>tt σ2 H2 fun b H3=>if b=true then te σ2 H3 fun y H4=>N (acc ++ [y]) H4 else N acc H3))
noncomputable def vP (wi:TI)(g:TG)(tt:TT)(te:TE)(n:Nat)(cap:List Nat):TE:=fun σ H Q=>wi σ H fun J H1=>cO J g tt te (hZ n cap σ) Q H1
section
variable {X:Cx}{tg iter elt:Expr}{ifs:List Expr}{scope:Scope}{pos:Pos}{wi:TI}{g:TG}{tt:TT}{te:TE}{own capN:List Str}{cap:List Nat}
abbrev jZ (yF:List Value)(k:Nat):Obj:={ cls := .type "list",data := .seq yF.toArray k }
theorem lT {pins:List (Addr × Obj)}{s:Shared}{σ:St}{H:Hp}{Q:VK}{it:Addr}{fp:List Addr}{tn:Nat->Heap->Prop}{J:It}(B:zF X.N X.env.scope scope capN cap)(hc:X.calm=true)
  (hb:∀ (C:Addr)(s:Shared)(H:Hp)(fp:List Addr),PG (bZ X scope (own ++ capN) C s H fp) tg g/\IC (bZ X scope (own ++ capN) C s H fp) ifs tt/\PE (bZ X scope (own ++ capN) C s H fp) elt te)
  (I:Inv X pins σ H s) (T:oq X.prog X.w X.K tg J fp it tn) (st:tn 0 s.heap) (hf:∀ b ∈ fp,eZ X pins H b) {W:Nat->Nat->List V->Hp->Prop} {m0:Nat} (w0:W 0 m0 [] H)
  (turn:∀ i m acc H,W i m acc H->acc.length < sizeLine/\((J.stop i H/\∀ D,H D=none->Q (.ref D) (upd H D (.lst acc)))∨(J.go i H/\∃ N:List V->Hp->Prop,(∀ zo H',N zo H'->∃ m',m' < m/\W (i + 1) m' zo H') /\
   ∀ x H',J.DW i H x H'->g x (hZ own.length cap σ) H' fun σ2 H2=>tt σ2 H2 fun b H3=>if b=true then te σ2 H3 fun y H4=>N (acc ++ [y]) H4 else N acc H3)))
  {RR:Value->Addr->Result->Shared->Prop}
  (fin:∀ (D C:Addr)(H':Hp)(s':Shared),Q (.ref D) H'->Inv X pins σ H' s'->(∃ m,s'.heap.Ns C m)->H' C=none->C ≠ X.env.locals->X.s₀.heap.objs.size <= C->(∀ x c,X.env.cells.lookup x=some c->c ≠ C)->(∀ p ∈ X.pn ++ pins,p.1 ≠ C) ->
   RR (.ref D) C (.ok .next) s') :
  wpAny (model X.prog X.w) X.A (newList []) (fun acc s3=>wpAny (model X.prog X.w) X.A (newFunctionEnv scope X.env.globals (ce X.env.cells scope.names []) [] X.env.qual none .none (some X.env)) (fun ID s4 =>
   codeAny (model X.prog X.w) X.A (.compStart (.ListComp elt [⟨tg,iter,ifs,0⟩] scope pos) 0 (.ref it) acc { ID with scope:=relabel scope X.env }) (RR acc ID.locals) s4) X.xe s3) X.xe s:=by
 refine wpAny_newObj_type (wpAny_newFunctionEnv B.An (by intro y hy;simp at hy) (fun h1 IE Dd=>?_) B.kind)
 dsimp only at IE Dd ⊢
 generalize F3:s.heap.push { cls := .type "list",dict:=none,data := .seq ([]:List Value).toArray } = H2 at IE Dd ⊢
 have hCs:H2.objs.size=s.heap.objs.size + 1:=by rw[← F3,size_push]
 have BP:s.heap.objs.size <= H2.objs.size:=by omega
 have Ec:∀ b ∈ fp,b < s.heap.objs.size:=fun b hb=>by
  obtain⟨o,e,_⟩:=T.obj 0 s.heap st b hb
  exact lt_size e
 have old:∀ b o,s.heap.get? b=some o->h1.get? b=some o:=fun b o e =>
  Dd.extBut b o (ne_of_lt (lt_of_lt_of_le (lt_size e) BP)) (Heap.get?_push_of_some _ (F3 ▸ Heap.get?_push_of_some _ e))
 have LS:s.heap.objs.size ≠ H2.objs.size:=by omega
 have De:h1.get? s.heap.objs.size=some (jZ [] 0):=Dd.extBut _ _ LS (Heap.get?_push_of_some _ (F3 ▸ Heap.get?_push_size _ rfl))
 have I4:Inv (bZ X scope (own ++ capN) H2.objs.size s H fp) [] (hZ own.length cap σ) H { s with heap:=h1,toks:=s.toks + ([]:List (Str × Value)).length }:=I.blk (own:=own) B BP old IE hf Ec
 have Oj:∀ b ∈ fp,b ∉ kM X.stack:=fun b hb z=>by
  obtain⟨_,f1,f2,_⟩:=hf b hb
  rcases mem_cons.mp (I.Am b z) with e | e
  ·exact f1 e
  ·exact f2 e
 have Ed:∀ b ∈ kM X.stack,b < s.heap.objs.size:=fun b hb=>by
  obtain⟨_,o,ho,_⟩:=I.stack.mem hb
  exact lt_size ho
 have BQ:∀ x c,X.env.cells.lookup x=some c->c < s.heap.objs.size:=fun x c e=>by
  obtain⟨v,q⟩:=I.cell x c e
  exact q.lt
 have EF:∀ (H':Hp)(h':Heap)(yF:List Value)(k:Nat),H' s.heap.objs.size=none->h'.get? s.heap.objs.size=some (jZ yF k) ->
   ∀ p ∈ [(s.heap.objs.size,jZ yF k)],h'.get? p.1=some p.2/\H' p.1=none/\p.1 ≠ (bZ X scope (own ++ capN) H2.objs.size s H fp).env.locals/\p.1 ∉ (bZ X scope (own ++ capN) H2.objs.size s H fp).fs/\∀ v,p.2.data ≠ .cell v:=fun H' h' yF k hn he p hp=>by
  have e:p=(s.heap.objs.size,jZ yF k):=by simpa using hp
  subst e
  exact⟨he,hn,LS,fun z=>absurd (Ed _ z) (lt_irrefl _),fun v z=>by cases z⟩
 have stat:∀ (H':Hp)(yF:List Value)(k:Nat),(∀ b ∈ fp,H' b=none)->∀ b ∈ fp,eZ (bZ X scope (own ++ capN) H2.objs.size s H fp) [(s.heap.objs.size,jZ yF k)] H' b:=fun H' yF k hn b hb =>
  ⟨hn b hb,ne_of_lt (lt_of_lt_of_le (Ec b hb) BP),Oj b hb, .inl hb,fun x c e=>(hf b hb).2.2.2.2.1 x c (B.cell I.ok e),fun p hp=>by
   have e:p=(s.heap.objs.size,jZ yF k):=by simpa using hp
   subst e
   exact ne_of_gt (Ec b hb)⟩
 have loop:∀ s3:Shared,s3 = { s with heap:=h1,toks:=s.toks + ([]:List (Str × Value)).length } ->
   codeAny (model X.prog X.w) X.A (.compLoop (.ListComp elt [⟨tg,iter,ifs,0⟩] scope pos) 0 (.ref it) (.ref s.heap.objs.size) (compEnvC scope (ce X.env.cells scope.names []) H2.objs.size X.env))
    (RR (.ref s.heap.objs.size) H2.objs.size) s3:=by
  rintro s3 rfl
  refine lW (fun n s'=>∃ i acc yF k H',Inv (bZ X scope (own ++ capN) H2.objs.size s H fp) [(s.heap.objs.size,jZ yF k)] (hZ own.length cap σ) H' s'/\tn i s'.heap/\(∀ b ∈ fp,H' b=none)/\Vals acc yF/\W i n acc H') ?_ m0
   ⟨0,[],[],0,H,I4.zi (EF _ _ _ _ (I.yL.fresh (Nat.le_refl _)) De),T.keep 0 s.heap h1 st fun b _ o e=>old b o e,fun b hb=>(hf b hb).1, .nil,w0⟩
  rintro n s5 ⟨i,acc,yF,k,H5,I5,Hg,LK,rv,w5⟩
  obtain⟨hsz,IF⟩:=turn i n acc H5 w5
  obtain⟨hgt,DH,hte⟩:=hb H2.objs.size s H fp
  rcases IF with ⟨stop,q⟩ | ⟨go,N,hN,step⟩
  ·refine bv (T.done (bZ X scope (own ++ capN) H2.objs.size s H fp) rfl rfl rfl hc i _ s5 _ H5 _ I5 (stat H5 yF k LK) Hg stop) fun r s6 yD=>?_
   obtain⟨hr,I6⟩:=yD
   subst hr
   obtain⟨hD,IG,_⟩:=I6.pin (s.heap.objs.size,jZ yF k) (by simp)
   have J1:Inv X pins σ H5 s6:=I.HS (s':=s6) (ch:=fp) I6.os I6.base I6.yL I6.bare fun b hb=>by
    obtain⟨_,f1,_,f3,f4,f5⟩:=hf b hb
    exact⟨f3,f1,f4,f5⟩
   have J2:Inv X pins σ (upd H5 s.heap.objs.size (.lst acc)) s6:=J1.adopt IG I.sz (ne_of_gt I.lt) (fun x c e=>ne_of_lt (BQ x c e)) (fun p hp=>ne_of_lt (lt_size (I.pin p hp).1)) ⟨le_of_lt hsz,yF,k,rv,hD⟩
   obtain⟨mC,IH,_⟩:=I6.loc
   refine fin _ _ _ s6 (q _ IG) J2 ⟨mC,IH⟩ (by rw[af (Ne.symm LS)];exact I6.free) (ne_of_gt (lt_of_lt_of_le I.lt BP)) (le_trans I.sz BP) (fun x c e=>ne_of_lt (lt_of_lt_of_le (BQ x c e) BP)) fun p hp =>
    ne_of_lt (lt_of_lt_of_le (lt_size (I.pin p hp).1) BP)
  ·refine bv (T.item (bZ X scope (own ++ capN) H2.objs.size s H fp) rfl rfl rfl hc i _ s5 _ H5 _ I5 (stat H5 yF k LK) Hg go) fun r s6 yD=>?_
   obtain⟨u,hr,h6⟩:=yD
   subst hr
   refine bv h6 fun _ s7 yD=>?_
   obtain⟨x,H7,I7,r7,y7,Ol,fr7⟩:=yD
   have I7':=I7.pinned (stat H7 yF k fr7) (T.obj _ _ Ol)
   refine bv (hgt _ s7 _ H7 x u _ I7' r7 (step x H7 y7)) fun _ s8 yD=>?_
   obtain⟨σ8,H8,I8,q8⟩:=yD
   refine bv (DH _ s8 σ8 H8 _ I8 q8) fun b s9 yD=>?_
   obtain⟨H9,I9,q9⟩:=yD
   have T7:∀ {H':Hp}{s':Shared}{σ':St},Inv (bZ X scope (own ++ capN) H2.objs.size s H fp) (dF fp s7.heap) σ' H' s'->tn (i + 1) s'.heap/\∀ b ∈ fp,H' b=none:=fun {H' s' σ'} K=>by
    refine⟨T.keep _ _ _ Ol fun b hb o e=>(K.pin (b,o) (dI hb e)).1,fun b hb=>?_⟩
    obtain⟨o,e,_⟩:=T.obj _ _ Ol b hb
    exact(K.pin (b,o) (dI hb e)).2.1
   cases b with
   | false =>
    rw[if_neg Bool.false_ne_true]
    obtain⟨m',hm,w9⟩:=hN acc H9 (by simpa using q9)
    have K9:Inv (bZ X scope (own ++ capN) H2.objs.size s H fp) (dF fp s7.heap) σ8 H9 s9:=I9.zi fun p hp=>I9.pin p (mem_append_right _ (mem_append_right _ hp))
    obtain⟨t9,f9⟩:=T7 K9
    exact⟨m',hm,i + 1,acc,yF,k,H9,I.reset B hf I9.Ad,t9,f9,rv,w9⟩
   | true =>
    rw[if_pos rfl]
    have q9':te σ8 H9 fun y H4=>N (acc ++ [y]) H4:=by simpa using q9
    refine bv (hte _ s9 σ8 H9 _ I9 q9') fun yv Om yD=>?_
    obtain⟨y,Df,Oo,r10,q10⟩:=yD
    obtain⟨hD,IG,_⟩:=Oo.pin (s.heap.objs.size,jZ yF k) (by simp)
    have hlen:=rv.length
    refine wpAny_list_append_plain ⟨k,hD⟩ (fun h' Bj F4=>?_) (by rw[size_toArray];omega)
    obtain⟨k',hD'⟩:=Bj
    obtain⟨m',hm,w10⟩:=hN (acc ++ [y]) Df q10
    have K10:Inv (bZ X scope (own ++ capN) H2.objs.size s H fp) (dF fp s7.heap) σ8 Df Om:=Oo.zi fun p hp=>Oo.pin p (mem_append_right _ (mem_append_right _ hp))
    have T8:Inv (bZ X scope (own ++ capN) H2.objs.size s H fp) (dF fp s7.heap) σ8 Df { Om with heap:=h' }:=K10.turned (t':=Om.toks) (it:=s.heap.objs.size) (fun b o hb e=>(F4.2 b hb).trans e) IG LS (.inr (Nat.le_refl _))
     (fun x c e=>ne_of_lt (BQ x c (B.cell I.ok e))) fun p hp=>by
      obtain⟨hb,_⟩:=jw (show p ∈ dF fp s7.heap from hp)
      exact ne_of_lt (Ec p.1 hb)
    obtain⟨t11,LU⟩:=T7 T8
    refine⟨m',hm,i + 1,acc ++ [y],yF ++ [yv],k',Df,?_,t11,LU,rv.append (.cons r10 .nil),w10⟩
    refine I.reset B hf (T8.zi (EF _ _ _ _ IG ?_))
    show h'.get? s.heap.objs.size=some { cls := .type "list",data := .seq (yF ++ [yv]).toArray k' }
    rw[show(yF ++ [yv]).toArray=yF.toArray.push yv by simp]
    exact hD'
 exact codeAny_compStart_list (loop _ rfl) (T.self X.A 0 _ _ _ (T.keep 0 s.heap h1 st fun b _ o e=>old b o e) (loop _ rfl))
theorem aQ (B:zF X.N X.env.scope scope capN cap)(hc:X.calm=true)(hi:PI X tg iter wi)
  (hb:∀ (C:Addr)(s:Shared)(H:Hp)(fp:List Addr),PG (bZ X scope (own ++ capN) C s H fp) tg g/\IC (bZ X scope (own ++ capN) C s H fp) ifs tt/\PE (bZ X scope (own ++ capN) C s H fp) elt te)
  (hs:autoParam (∀ x,foldedSetIterable iter X.env x=pure x) ψ):PE X (.ListComp elt [⟨tg,iter,ifs,0⟩] scope pos) (vP wi g tt te own.length cap):=by
 intro pins s σ H Q I h
 rw[eval_ListComp]
 refine wpAny_comprehension_free (use:=none) rfl hs (fA (B.clos I.ok)) B.kind B.loc (bv (hi pins s σ H _ I h) fun v s1 h1=>bv h1 fun LI s2 h2=>?_)
 obtain⟨it,fp,tn,J,H2,e,I2,T,Ig,f2,W,⟨m0,w0⟩,turn⟩:=h2
 subst e
 refine lT (own:=own) B hc hb I2 T Ig f2 w0 turn (RR:=fun acc C=>compPost (model X.prog X.w) X.A X.xe none (EP X pins σ Q) acc C) fun D C H' s' q J2 ⟨mC,IH⟩ fC n1 n2 n3 n4=>?_
 refine⟨mC,IH,fun h' Dd=>⟨.ref D,H',?_,rfl,q⟩⟩
 exact J2.turned (t':=s'.toks) (it:=C) (fun b o hb e=>(Dd.2 b hb).trans e) fC n1 (.inr n2) n3 n4
theorem cI {i:Nat}{x:Str}{px:Pos}{II:Pos}(B:zF X.N X.env.scope scope capN cap)(hc:X.calm=true)(hN:X.N.Nodup)(hx:X.N[i]? = some x)(hl:X.env.scope.names.lookup x=some .local)(hi:PI X tg iter wi)
  (hb:∀ (C:Addr)(s:Shared)(H:Hp)(fp:List Addr),PG (bZ X scope (own ++ capN) C s H fp) tg g/\IC (bZ X scope (own ++ capN) C s H fp) ifs tt/\PE (bZ X scope (own ++ capN) C s H fp) elt te)
  (hsw:autoParam (swapsWith (.ListComp elt [⟨tg,iter,ifs,0⟩] scope pos) (some (.Name x px)) II.line X.env=pure true) η)
  (hs:autoParam (∀ x,foldedSetIterable iter X.env x=pure x) ψ):PS X (.Assign [.Name x px] (.ListComp elt [⟨tg,iter,ifs,0⟩] scope pos) II) (wF (vP wi g tt te own.length cap) (dv i)):=by
 intro pins s σ H D0 I h
 rw[exec_Assign_Name_used _ _ _ _ hsw]
 refine wpAny_bind (wpAny_standAt (wpAny_bind ?_))
 show wpAny _ X.A (do
  let _ ← comprehension (.ListComp elt [⟨tg,iter,ifs,0⟩] scope pos) scope X.env _ (newList []) false (eval iter X.env) (some (assign (.Name x px) X.env))) _ _ s
 refine wpAny_bind (wpAny_mono (wpAny_comprehension_free (use:=some (assign (.Name x px) X.env)) (Q:=fun _ s'=>SP X pins D0 .next s') rfl hs (fA (B.clos I.ok)) B.kind B.loc
  (bv (hi pins s σ H _ I h) fun v s1 h1=>bv h1 fun LI s2 h2=>?_)) (fun _ s' hq=>wpAny_pure (wpAny_pure hq)) fun _ _ e=>e)
 obtain⟨it,fp,tn,J,H2,e,I2,T,Ig,f2,W,⟨m0,w0⟩,turn⟩:=h2
 subst e
 refine lT (own:=own) (Q:=fun x H1=>dv i x σ H1 D0.nx) B hc hb I2 T Ig f2 w0 turn (RR:=fun acc C=>compPost (model X.prog X.w) X.A X.xe (some (assign (.Name x px) X.env)) (fun _ s'=>SP X pins D0 .next s') acc C) fun D C H' s' q J2 ⟨mC,IH⟩ fC n1 n2 n3 n4=>?_
 show wpAny _ X.A (assign (.Name x px) X.env (.ref D)) _ _ s'
 refine wpAny_assign_Name (js J2 hN hx (.inl hl) (show RelV (.ref D) (.ref D) from rfl) (fun Bx J3 yD=>?_) (.inr hl))
 obtain⟨a,Dd,ha⟩:=yD
 have hCa:C ≠ a:=by
  rcases ha with z | z
  ·rw[z];exact n1
  ·exact(n3 x a z).symm
 refine⟨mC,IH.sameBut Dd hCa,fun h' F4=>⟨_,H',?_,q⟩⟩
 exact J3.turned (t':=Bx.toks) (it:=C) (fun b o hb e=>(F4.2 b hb).trans e) fC n1 (.inr n2) n3 n4
end
mutual
inductive kL (K:Frag)(H:Hp):V->PyData->Prop
 | yQ:kL K H .yQ .none
 | bl (b:Bool):kL K H (.bl b) (.bool b)
 | int (i:Int):kL K H (.int i) (.int i)
 | str (x:Str):kL K H (.str x) (.str x)
 | lst {a:Addr} {xs:List V} {ds:List PyData}:yC K H a xs->jh K H xs ds->kL K H (.ref a) (.list ds)
 | tup {a:Addr} {xs:List V} {ds:List PyData}:yN K H a xs->jh K H xs ds->kL K H (.ref a) (.tuple ds)
inductive jh (K:Frag)(H:Hp):List V->List PyData->Prop
 | nil:jh K H [] []
 | cons {x:V} {d:PyData} {xs:List V} {ds:List PyData}:kL K H x d->jh K H xs ds->jh K H (x :: xs) (d :: ds)
end
section
variable {X:Cx}{pins:List (Addr × Obj)}{σ:St}{H:Hp}{s:Shared}
mutual
theorem Inv.den (I:Inv X pins σ H s):∀ {x:V}{d:PyData}{u:Value},kL X.K H x d->RelV x u->∃ as,Reads s.heap u d as
 | _,_,_, .yQ,r=>by cases r;exact⟨_, .none⟩
 | _,_,_, .bl b,r=>by cases r;exact⟨_, .bool b⟩
 | _,_,_, .int i,r=>by obtain⟨t,rfl⟩:=r;exact⟨_, .int i t⟩
 | _,_,_, .str x,r=>by obtain⟨t,rfl⟩:=r;exact⟨_, .str x t⟩
 | _,_,_, .lst hq hd,r=>by
  cases r
  obtain⟨yF,rv,⟨o,n,e,hc,_,Oq⟩,_⟩:=I.list hq
  obtain⟨as,q⟩:=I.F5 hd rv
  exact⟨_, .list e hc Oq (by simpa using q)⟩
 | _,_,_, .tup hq hd,r=>by
  cases r
  obtain⟨yF,rv,⟨o,e,hc,n,Oq⟩,_⟩:=I.tuple hq
  obtain⟨as,q⟩:=I.F5 hd rv
  exact⟨_, .tuple e hc Oq (by simpa using q)⟩
theorem Inv.F5 (I:Inv X pins σ H s):∀ {xs:List V}{ds:List PyData}{us:List Value},jh X.K H xs ds->Vals xs us->∃ as,ReadsAll s.heap us ds as
 | _,_,_, .nil, .nil=>⟨_, .nil⟩
 | _,_,_, .cons hd hr, .cons r rr=>by
  obtain⟨as,q⟩:=I.den hd r
  obtain⟨bs,q'⟩:=I.F5 hr rr
  exact⟨_, .cons q q'⟩
end
noncomputable def IJ (K:Frag):R2:=fun x y H Q=>∃ da db,kL K H x da/\kL K H y db/\SeqAt.shaped da=true/\SeqAt.shaped db=true/\Q (.bl (PyData.eqv da db)) H
noncomputable def IK (K:Frag):R2:=fun x y H Q=>∃ da db,kL K H x da/\kL K H y db/\SeqAt.shaped da=true/\SeqAt.shaped db=true/\Q (.bl (!PyData.eqv da db)) H
end
section
variable {X:Cx}
theorem rY (hu:X.A.units + 64 < cLine):dQ X (compareOp .Eq) (IJ X.K):=by
 intro pins s σ H x y v u Q I rx ry h
 obtain⟨da,db,h1,h2,h3,h4,q⟩:=h
 obtain⟨as,r1⟩:=I.den h1 rx
 obtain⟨bs,r2⟩:=I.den h2 ry
 exact SeqAt.compareEq_shaped r1 r2 h3 h4 hu ⟨.bl _,H,I,rfl,q⟩
theorem rX (hu:X.A.units + 64 < cLine):dQ X (compareOp .NotEq) (IK X.K):=by
 intro pins s σ H x y v u Q I rx ry h
 obtain⟨da,db,h1,h2,h3,h4,q⟩:=h
 obtain⟨as,r1⟩:=I.den h1 rx
 obtain⟨bs,r2⟩:=I.den h2 ry
 exact SeqAt.compareNe_shaped r1 r2 h3 h4 hu ⟨.bl _,H,I,rfl,q⟩
theorem j4 {K:Frag}{H:Hp}:∀ ns:List Int,jh K H (ns.map V.int) (ns.map PyData.int)
 | [] => .nil
 | n :: r => .cons (.int n) (j4 r)
theorem lQ {K:Frag}{H:Hp}{a:Addr}{ns:List Int}(h:yC K H a (ns.map V.int)):kL K H (.ref a) (.list (ns.map PyData.int)) := .lst h (j4 ns)
noncomputable def IL (K:Frag):R2:=fun x y H Q=>∃ (p q:Addr)(ns ms:List Int),x = .ref p/\y = .ref q/\yC K H p (ns.map V.int)/\yC K H q (ms.map V.int)/\Q (.bl (!decide (ns=ms))) H
theorem nG (hu:X.A.units + 64 < cLine):dQ X (compareOp .NotEq) (IL X.K):=by
 intro pins s σ H x y v u Q I rx ry h
 obtain⟨p,q,ns,ms,rfl,rfl,h1,h2,q⟩:=h
 refine rX hu pins s σ H _ _ v u Q I rx ry ⟨_,_,lQ h1,lQ h2,PySem.W.shaped_ints ns,PySem.W.shaped_ints ms,?_⟩
 simp only[PyData.eqv,PySem.W.ked_eqvAll]
 exact q
noncomputable def Ot (K:Frag):List V->Hp->VK->Prop:=fun xs H Q =>
 (∃ i,xs=[.int i, .ty "int"]/\Q (.bl true) H)∨(∃ i,xs=[.int i, .ty "bool"]/\Q (.bl false) H)∨(∃ p ys,xs=[.ref p, .ty "list"]/\yC K H p ys/\Q (.bl true) H)∨(∃ p ys,xs=[.ref p, .ty "tuple"]/\yN K H p ys/\Q (.bl true) H)
theorem mj:c6 X (.builtin "isinstance") (Ot X.K):=by
 intro pins s σ H xs us Q I r h
 rcases h with ⟨i,rfl,q⟩ | ⟨i,rfl,q⟩ | ⟨p,ys,rfl,hq,q⟩ | ⟨p,ys,rfl,hq,q⟩
 ·cases r with
  | cons r1 r2 =>
   cases r2 with
   | cons r2 r3 =>
    cases r3
    obtain⟨t,rfl⟩:=r1
    cases r2
    exact IsiPair.int_int ⟨.bl true,H,I,rfl,q⟩
 ·cases r with
  | cons r1 r2 =>
   cases r2 with
   | cons r2 r3 =>
    cases r3
    obtain⟨t,rfl⟩:=r1
    cases r2
    exact IsiPair.int_bool ⟨.bl false,H,I.tok _,rfl,q⟩
 ·cases r with
  | cons r1 r2 =>
   cases r2 with
   | cons r2 r3 =>
    cases r3
    cases r1
    cases r2
    obtain⟨yF,rv,⟨o,n,e,hc,_⟩,_⟩:=I.list hq
    exact IsiPair.list_list e hc ⟨.bl true,H,I,rfl,q⟩
 ·cases r with
  | cons r1 r2 =>
   cases r2 with
   | cons r2 r3 =>
    cases r3
    cases r1
    cases r2
    obtain⟨yF,rv,⟨o,e,hc,_⟩,_⟩:=I.tuple hq
    exact IsiPair.tuple_tuple e hc ⟨.bl true,H,I,rfl,q⟩
theorem vn:LQ X "int.bit_length" (fun x xs H Q=>∃ i,x = .int i/\xs=[]/\Q (.int (Builtin.Int.intBits i:Nat)) H):=by
 intro pins s σ H x xs v us Q I rx rv h
 obtain⟨i,rfl,rfl,q⟩:=h
 obtain⟨t,rfl⟩:=rx
 cases rv
 exact call_int_bit_length ⟨.int _,H,I.tok _,⟨_,rfl⟩,q⟩
theorem Inv.same {pins:List (Addr × Obj)}{σ:St}{H:Hp}{s s':Shared}(I:Inv X pins σ H s)(k:∀ b o,s.heap.get? b=some o->s'.heap.get? b=some o)(g:s'.gens=s.gens)(ho:s'.os=s.os):Inv X pins σ H s':=by
 obtain⟨hh,gg,dd,tt,oo⟩:=s'
 simp only at k g ho
 subst g
 subst ho
 have J:Inv X pins σ H { s with heap:=hh,toks:=tt }:=I.kept k
 exact⟨J.ok,J.os,J.bare,J.base,J.loc,J.cell,J.free,J.zk,J.pin,J.yL,J.len⟩
theorem gs (hc:X.calm=true):c6 X (.builtin "all") (fun xs H Q=>∃ (p:Addr)(bs:List Bool),xs=[.ref p]/\yC X.K H p (bs.map V.bl)/\Q (.bl (bs.all id)) H):=by
 intro pins s σ H xs us Q I r h
 obtain⟨p,bs,rfl,hq,q⟩:=h
 obtain⟨u,rfl,rx⟩:=jq r
 cases rx
 obtain⟨yF,rv,pl,hz⟩:=I.list hq
 have hlen:=rv.length
 rw[length_map]at hlen
 have zb:p < s.heap.objs.size:=by obtain⟨o,n,e,_⟩:=pl;exact lt_size e
 have T9:∀ (i:Nat)(v:Value),yF.toArray[i]? = some v->v=Value.bool (bs.getD i false):=fun i v hv=>by
  have LM:yF[i]? = some v:=by simpa using hv
  have hi:i < bs.length:=by rw[hlen];exact(gQ0 LM)
  obtain⟨u,hu,ru⟩:=rv.get (i:=i) (x := .bl bs[i]) (by simp[hi])
  rw[LM]at hu
  cases hu
  rw[getD_eq_getElem?_getD,getElem?_eq_getElem hi]
  exact ru
 have hh1:X.A.in1.handled=none:=I.ok.hd hc
 refine call_all_walkS (wpAny_pyIter_list pl.isList ⟨s.heap.objs.size,[s.heap.objs.size,p],[s.heap.objs.size],fun a b=>b=a,yF.toArray.size,fun i v=>yF.toArray[i]? = some v,_,fun i=>bs.getD i false,rfl,
  (Walks.list hh1 _ p (ne_of_lt zb) yF.toArray).toS,⟨⟨_,Heap.get?_push_size _ rfl,rfl,rfl⟩,pl.isList.push _⟩,fun i v s1 Q1 E1 hv Hj=>?_,fun s' hm=>?_⟩)
 ·rw[T9 i v hv]
  exact wpAny_truthy_bool Hj
 ·have I1:Inv X pins σ H { s with heap:=s.heap.push { cls := .type "list_iterator",data := .fields #[.ref p, .int 0 0] } }:=I.kept (t':=s.toks) fun b o e=>Heap.get?_push_of_some _ e
  refine⟨.bl _,H,I.same (fun b o e=>hm.heap b o (fun hb=>?_) (Heap.get?_push_of_some _ e)) hm.gens hm.os,rfl,?_⟩
  ·have B4:b=s.heap.objs.size:=by simpa using hb
   exact absurd (lt_size e) (by rw[B4];exact lt_irrefl _)
  ·have e:((List.range yF.toArray.size).all fun i=>bs.getD i false)=bs.all id:=by
    rw[size_toArray,← hlen]
    clear T9 hlen hq rv q
    have:(List.range bs.length).map (fun i=>bs.getD i false)=bs:=by
     apply ext_getElem
     ·simp
     ·intro i h1 h2
      simp[h2]
    conv=>rhs;rw[← this]
    rw[all_map]
    rfl
   rw[e]
   exact q
end
section
variable {M:Model}{A:Around}{E:Value->Shared->Prop}{s:Shared}
end
section
variable {X:Cx}{pins:List (Addr × Obj)}{σ:St}{H:Hp}{s:Shared}
end
section
variable {prog:Program}{w:World}{A:Around}{E:Value->Shared->Prop}{s:Shared}{K:Frag}{x C:Addr}{ox:Obj}{name:Str}{v:Value}
open PySem.W in
open PySem.W in
end
end L2
namespace PySem
section
variable {prog:Program}{w:World}{A:Around}{E:Value->Shared->Prop}{h:Heap}{g:Array GenState}{d:Drawn}{t:Nat}{os:OsState}
variable {nm q:Str}{C N:Addr}{bs bm bmB:List Value}{Ou:Bool}{sn:List Str}{sub:List Value}{ab:Bool}{col:Option Bool}{dd:Option Addr}{k0 k1 k2 k3 k5:Option Value}{B newId Ov:String}
end
section
variable {M:Model}{A:Around}{E:Value->Shared->Prop}{env:Env}
variable {nm q:Str}{C N:Addr}{bs bm:List Value}{Ou:Bool}{sn:List Str}{sub:List Value}{ab:Bool}{col:Option Bool}{dd:Option Addr}{k0 k1 k2 k3 k5:Option Value}{newId:String}
end
end PySem
namespace L2
open PySem PySem.Spec PyProof.Rows
section
variable {X:Cx}{C f:Addr}{x:Str}{p pos apos:Pos}{e:Expr}{es:List Expr}{t:TA}
end
section
variable {prog:Program}{w:World}{A:Around}{E:Value->Shared->Prop}{s:Shared}{K:Frag}{x C:Addr}{ox:Obj}{od:Option Obj}{name:Str}{v:Value}
open PySem.W in
open PySem.W in
end
section
variable {X:Cx}{pins:List (Addr × Obj)}{σ:St}{H:Hp}{s:Shared}{ea:Addr}{oe:Obj}
end
section
variable {X:Cx}{o e value:Expr}{f:Str}{pos pos':Pos}{ta tv:TE}
end
section
variable {P:Program}{w:World}{K:Frag}{mg:Str->Option Value}{base:Heap}
end
section
variable {X:Cx}{k:Nat}{f C:Addr}{fd:FuncData}{ps:List Str}{sp:Sp}{zS:List V}{ds:List Value}{x m:Str}{p pos apos:Pos}{e o:Expr}{es:List Expr}{ta:TE}{t:TA}
end
section
variable {X:Cx}{e:Expr}{t:St->Hp->VK->XK->Prop}{pos C2:Pos}{n:Str}{i:Nat}
end
section
variable {M:Model}{A:Around}{E:Value->Shared->Prop}{s:Shared}
end
end L2
namespace PySem
open Sem (wp)
open AutoSeq1 (wpAny_loadPart')
theorem dB (l:Addr)(items:Array Value)(n:Nat)(Ow:Option Addr)(sl:Array (Option Value)) :
  Meets (Builtin.«enumerate.__new__» ⟨[.type "enumerate", .ref l],[]⟩) (fun _ R s=>s.heap.get? l=some { cls := .type "tuple",dict:=Ow,data := .seq items n,slots:=sl } /\
   R (.ok (.ret (.ref (s.heap.push { cls := .type "tuple_iterator",data := .fields #[.ref l, .int 0 0] }).objs.size)))
    { s with heap:=(s.heap.push { cls := .type "tuple_iterator",data := .fields #[.ref l, .int 0 0] }).push { cls := .type "enumerate",data := .fields #[.none, .bool false, .ref s.heap.objs.size,rawInt 0, .none, .none] } }) :=
 .of_wp fun prog w A R s h=>by
  obtain⟨hp,g,d,tk,os⟩:=s;obtain⟨hl,h⟩:=h
  have hsub:=sub_enumerate
  have hL:Heap.IsTuple (Shared.heap ⟨hp,g,d,tk,os⟩) l items:=⟨_,hl,rfl,n,rfl⟩
  wp_walk using wpAny_loadPart' hl
  refine wpAny_stack_any fun st=>wpAny_pure ?_
  split
  ·rename_i c _ _ _ _ _
   cases (c == Value.type "enumerate")
   ·wp_walk using wpAny_loadPart' hl,wpAny_pyIter_tuple hL
    exact⟨_,rfl,h⟩
   ·wp_walk using wpAny_loadPart' hl,wpAny_pyIter_tuple hL
    exact⟨_,rfl,h⟩
  ·wp_walk using wpAny_loadPart' hl,wpAny_pyIter_tuple hL
   exact⟨_,rfl,h⟩
section
variable {prog:Program}{w:World}{A:Around}{E:Value->Shared->Prop}{s:Shared}
theorem dC {l:Addr}{items:Array Value}{Q:Value->Shared->Prop}(hL:s.heap.IsTuple l items)
  (h:∀ h',IsEnum h' (s.heap.objs.size + 1) s.heap.objs.size 0 .none->h'.IsTupleIter s.heap.objs.size l 0->h'.objs.size=s.heap.objs.size + 2 ->
   (∀ b o,s.heap.get? b=some o->h'.get? b=some o)->Q (.ref (s.heap.objs.size + 1)) { s with heap:=h' }) :
  wpAny (model prog w) A (call (.type "enumerate") [.ref l]) Q E s:=by
 obtain⟨⟨c,Ow,dt,sl⟩,hl,hc,n,hd⟩:=hL
 replace hc:c = .type "tuple":=hc
 replace hd:dt = .seq items n:=hd
 subst hc hd
 refine callType_new F.called_enumerate (by decide) (F.typeCall_enumerate_1 _) (F.newCall_enumerate_1 _) (fun obj=>F.args_object_init_2 obj _) F.entry_enumerate_new
  (dB l items n Ow sl) ⟨hl,?_⟩
 have hz:(s.heap.push { cls := .type "tuple_iterator",data := .fields #[.ref l, .int 0 0] }).objs.size=s.heap.objs.size + 1:=size_push ..
 show _/\_
 rw[hz]
 have he:IsEnum ((s.heap.push { cls := .type "tuple_iterator",data := .fields #[.ref l, .int 0 0] }).push
   { cls := .type "enumerate",data := .fields #[.none, .bool false, .ref s.heap.objs.size,rawInt 0, .none, .none] }) (s.heap.objs.size + 1) s.heap.objs.size 0 .none:=by
  have:=Heap.get?_push_size (s.heap.push { cls := .type "tuple_iterator",data := .fields #[.ref l, .int 0 0] })
   (o:={ cls := .type "enumerate",data := .fields #[.none, .bool false, .ref s.heap.objs.size,rawInt 0, .none, .none] }) rfl
  rw[hz]at this;exact this
 refine⟨⟨_,he,rfl⟩,h _ he ⟨_,Heap.get?_push_of_some _ (Heap.get?_push_size _ rfl),rfl,rfl⟩ (by rw[size_push,hz]) fun b o x=>Heap.get?_push_of_some _ (Heap.get?_push_of_some _ x)⟩
theorem eW {it l:Addr}{i:Nat} {items} {x:Value} {Q:Value->Shared->Prop} (hit:s.heap.IsTupleIter it l i)
  (hl:s.heap.IsTuple l items) (hx:items[i]? = some x)
  (hQ:∀ h',h'.IsTupleIter it l (i + 1)->Heap.SameBut it s.heap h'->Q x { s with heap:=h' }) :
  wpAny (model prog w) A (Builtin.SmallTypes.nextOf (.ref it)) Q E s:=by
 obtain⟨o,ho,hc,hd⟩:=id hit
 obtain⟨ol,LV,_,nl,F6⟩:=hl
 unfold Builtin.SmallTypes.nextOf
 refine wpAny_bind (wpAny_callSpecial?_slot (name:=Str.ofString "__next__") hit.typeIs F.slot_tuple_iterator_next
  (wpAny_call_entry F.slot_tuple_iterator_next hit.typeIs F.entry_tuple_iterator_next ?_ (F.args_tuple_iterator_next_1 _)))
 show wpAny _ _ (field (.ref it) 0 >>= _) _ _ s
 refine wpAny_bind (wpAny_field ho hd (x := .ref l) rfl ?_)
 show wpAny _ _ (if (Value.ref l == Value.none)=true then _ else _) _ _ s
 rw[if_neg (show ¬ ((Value.ref l == Value.none)=true) from Bool.false_ne_true)]
 show wpAny _ _ (field (.ref it) 1 >>= _) _ _ s
 refine wpAny_bind (wpAny_field ho hd (x := .int i 0) rfl ?_)
 show wpAny _ _ (seqItems? (.ref l) >>= _) _ _ s
 refine wpAny_bind (wpAny_seqItems LV F6 ?_)
 simp only[toNat_natCast,hx]
 refine wpAny_bind (wpAny_setField ho hd (by simp) (wpAny_pure ⟨x,rfl,wpAny_pure (hQ _ ?_ (Heap.SameBut.update ..))⟩))
 exact⟨_,Heap.get?_update_self _ ho (Obj.isFreed_of_fields (Obj.data_mapFields hd _)),(Obj.cls_mapFields ..).trans hc,by
  rw[Obj.data_mapFields hd];simp[rawInt]⟩
theorem fD {it l:Addr}{i:Nat} {items} {Q:Value->Shared->Prop} (hh:A.handled=none)
  (hit:s.heap.IsTupleIter it l i) (hl:s.heap.IsTuple l items) (hx:items[i]? = none)
  (hE:∀ h' e,Heap.ExtBut it s.heap h'->(∃ o,h'.get? e=some o/\o.cls = .type "StopIteration")->E (.ref e) { s with heap:=h' }) :
  wpAny (model prog w) A (Builtin.SmallTypes.nextOf (.ref it)) Q E s:=by
 obtain⟨o,ho,hc,hd⟩:=id hit
 obtain⟨ol,LV,_,nl,F6⟩:=hl
 unfold Builtin.SmallTypes.nextOf
 refine wpAny_bind (wpAny_callSpecial?_slot (name:=Str.ofString "__next__") hit.typeIs F.slot_tuple_iterator_next
  (wpAny_call_entry F.slot_tuple_iterator_next hit.typeIs F.entry_tuple_iterator_next ?_ (F.args_tuple_iterator_next_1 _)))
 show wpAny _ _ (field (.ref it) 0 >>= _) _ _ s
 refine wpAny_bind (wpAny_field ho hd (x := .ref l) rfl ?_)
 show wpAny _ _ (if (Value.ref l == Value.none)=true then _ else _) _ _ s
 rw[if_neg (show ¬ ((Value.ref l == Value.none)=true) from Bool.false_ne_true)]
 show wpAny _ _ (field (.ref it) 1 >>= _) _ _ s
 refine wpAny_bind (wpAny_field ho hd (x := .int i 0) rfl ?_)
 show wpAny _ _ (seqItems? (.ref l) >>= _) _ _ s
 refine wpAny_bind (wpAny_seqItems LV F6 ?_)
 simp only[toNat_natCast,hx]
 refine wpAny_bind (wpAny_rule (wpAny_bind (wpAny_setField ho hd (by simp) ?_)))
 show wpAny _ _ (newExc (.type "StopIteration") [] >>= _) _ _ _
 refine wpAny_bind ?_
 simp only[newExc,newTuple]
 refine wpAny_bind (wpAny_newObj_type ?_ (by size_fits))
 refine wpAny_bind (m:=firstArgMember _ _) (wpAny_of_eq (a:=Value.none) (by first | rfl | (simp only[firstArgMember];rfl)) ?_)
 refine wpAny_newObj_type ?_ (by size_fits)
 simp only[raiseNew]
 refine wpAny_bind (wpAny_handled ?_)
 first | rw[show A.in1.handled=none from hh] | rw[hh]
 refine wpAny_bind (wpAny_pure (wpAny_throw ?_))
 exact hE _ _ (((Heap.SameBut.update ..).extBut.push _).push _) ⟨_,Heap.get?_push_size _ rfl,rfl⟩
end
theorem fj {prog:Program}{w:World}{A:Around}(hh:A.handled=none)(it l:Addr)(zc:l ≠ it)(items:Array Value) :
  Draws prog w A it [it,l] items.size (fun i v=>items[i]? = some v) (fun i h=>h.IsTupleIter it l i/\h.IsTuple l items) where
 live:=fun _ _ st=>let ⟨o,ho,_⟩:=st.1; ⟨o,ho⟩
 frame:=fun _ _ _ st hk=>⟨st.1.at fun o e=>hk it (by simp) o e,let ⟨o,ho,r⟩:=st.2; ⟨o,hk l (by simp) o ho,r⟩⟩
 item:=fun i s Q E hi st hQ=>by
  refine eW st.1 st.2 (x:=items[i]) (by simp[hi]) fun h' Ox LW=>?_
  exact hQ _ h' s.toks (by simp[hi]) ⟨Ox,let ⟨o,ho,r⟩:=st.2; ⟨o,LW.extBut l o zc ho,r⟩⟩ LW
 done:=fun s Q E st hE=>fD hh st.1 st.2 (by simp) hE
end PySem
namespace L2
open PySem PySem.Spec PyProof.Rows
section
variable {X:Cx}{pins:List (Addr × Obj)}{σ:St}{H:Hp}{s:Shared}
theorem Inv.F7 {h':Heap}{t':Nat}{a b p:Addr}{xs:List V}{us:List Value}(I:Inv X pins σ H s)(fa:eZ X pins H a)(fb:eZ X pins H b)(hp:s.heap.objs.size <= p)
  (k:∀ c o,c ≠ a->c ≠ b->s.heap.get? c=some o->h'.get? c=some o) (ka:∃ o,h'.get? a=some o) (kb:∃ o,h'.get? b=some o) (hl:xs.length <= sizeLine) (r:Vals xs us) (ht:zN h' p us.toArray) :
  Inv X pins σ (upd H p (.tup xs)) { s with heap:=h',toks:=t' }:=by
 have hf:H p=none:=I.yL.fresh hp
 have nt:∀ c u,H c=some u->c ≠ p:=fun c u q z=>by rw[z,hf]at q;cases q
 have lt:∀ c o,s.heap.get? c=some o->c ≠ p:=fun c o q=>ne_of_lt (lt_of_lt_of_le (lt_size q) hp)
 have ne:∀ c,c ∉ [a,b]->c ≠ a/\c ≠ b:=fun c hc=>by simpa using hc
 refine I.call (g':=s.gens) (d':=s.drawn) (ch:=[a,b]) ⟨fun c o e n h1 h2=>k c o (ne c h2).1 (ne c h2).2 e,fun c o e n h1 h2=>⟨o.slots,k c o (ne c h2).1 (ne c h2).2 e⟩,fun c o e n h2=>by rw[af (lt c o e)];exact n,
  fun c o e h2=>⟨o,k c o (ne c h2).1 (ne c h2).2 e⟩,fun c ys q=>by rw[af (nt c _ q)];exact q,fun c o u q=>by rw[af (nt c _ q)];exact q,fun c ps q=>⟨#[],by rw[af (nt c _ q),q];simp⟩⟩ (fun c u q=>?_) I.bare fun c hc=>?_
 ·by_cases hc:c=p
  ·subst hc
   rw[ad]at q
   cases q
   exact⟨hl,us,r,ht⟩
  ·rw[af hc]at q
   refine(I.yL c u q).zX (fun d v hd z=>?_) (fun d z=>by rw[af (nt d _ z)];exact z) fun d ys z=>by rw[af (nt d _ z)];exact z
   have nd:∀ e,H e=none->d ≠ e:=fun e he w=>by
    rcases hd with rfl | hd
    ·rw[w,he]at q;cases q
    ·rw[w,he]at hd;cases hd
   exact k d v (nd a fa.1) (nd b fb.1) z
 ·have DF:c=a∨c=b:=by simpa using hc
  rcases DF with rfl | rfl
  ·obtain⟨_,f1,_,f3,f4,f5⟩:=fa;exact⟨f3,f1,f4,f5⟩
  ·obtain⟨_,f1,_,f3,f4,f5⟩:=fb;exact⟨f3,f1,f4,f5⟩
theorem Inv.Cm {h':Heap}{t':Nat}{a b:Addr}(I:Inv X pins σ H s)(fa:eZ X pins H a)(fb:eZ X pins H b)
  (k:∀ c o,c ≠ a->c ≠ b->s.heap.get? c=some o->h'.get? c=some o):Inv X pins σ H { s with heap:=h',toks:=t' }:=by
 have ne:∀ c,c ∉ [a,b]->c ≠ a/\c ≠ b:=fun c hc=>by simpa using hc
 refine I.call (g':=s.gens) (d':=s.drawn) (ch:=[a,b]) ⟨fun c o e n h1 h2=>k c o (ne c h2).1 (ne c h2).2 e,fun c o e n h1 h2=>⟨o.slots,k c o (ne c h2).1 (ne c h2).2 e⟩,fun c o e n h2=>n,
  fun c o e h2=>⟨o,k c o (ne c h2).1 (ne c h2).2 e⟩,fun c ys q=>q,fun c o u q=>q,fun c ps q=>⟨#[],by rw[q];simp⟩⟩ (fun c u q=>?_) I.bare fun c hc=>?_
 ·refine(I.yL c u q).zX (fun d v hd z=>?_) (fun d z=>z) fun d ys z=>z
  have nd:∀ e,H e=none->d ≠ e:=fun e he w=>by
   rcases hd with rfl | hd
   ·rw[w,he]at q;cases q
   ·rw[w,he]at hd;cases hd
  exact k d v (nd a fa.1) (nd b fb.1) z
 ·have DF:c=a∨c=b:=by simpa using hc
  rcases DF with rfl | rfl
  ·obtain⟨_,f1,_,f3,f4,f5⟩:=fa;exact⟨f3,f1,f4,f5⟩
  ·obtain⟨_,f1,_,f3,f4,f5⟩:=fb;exact⟨f3,f1,f4,f5⟩
theorem j2 {e it:Addr}{fp:List Addr}{n i:Nat}{P:Nat->Value->Prop}{Sx:Nat->Heap->Prop}{old:Value}{xs:List V}{E:Value->Shared->Prop}{elts:List Expr}{kk:Nat}{pos:Pos}
  (D:Draws X.prog X.w X.A.in1 it fp n P Sx) (I:Inv X pins σ H s) (he:IsEnum s.heap e it i old) (Bc:Sx i s.heap) (zb:i < n) (zc:e ≠ it) (TB:e ∉ fp) (fe:eZ X pins H e) (fi:eZ X pins H it)
  (hP:∀ v,P i v->∃ x,xs[i]? = some x/\RelV x v) :
  wpAny (model X.prog X.w) X.A (pyNext (.ref e)) (fun r s1=>∃ u,r=some u/\wpAny (model X.prog X.w) X.A (letOwnedTupleGo (.Tuple elts kk pos) (.ref e) u) (fun _ s2=>∃ p x,xs[i]? = some x/\H p=none/\u = .ref p /\
   Inv X pins σ (upd H p (.tup [.int i,x])) s2/\(∃ old,IsEnum s2.heap e it ((i + 1:Nat):Int) old)/\Sx (i + 1) s2.heap/\p ≠ e/\p ≠ it) E s1) E s:=by
 refine wpAny_pyNext_enum_itemD D he Bc zb zc TB fun x h' tk hx ho LW hT hsz hk=>⟨_,rfl,?_⟩
 refine wpAny_letOwnedTupleGo_enum ho fun h2 Hk DG=>?_
 obtain⟨y,hy,ry⟩:=hP x hx
 have TF:e < s.heap.objs.size:=lt_size he
 have hie:it < s.heap.objs.size:=by obtain⟨_,z⟩:=D.live _ _ Bc;exact lt_size z
 have IM:Sx (i + 1) h2:=D.frame _ _ _ LW fun b hb o z=>(DG.2 b fun q=>TB (q ▸ hb)).trans z
 refine⟨s.heap.objs.size,y,hy,I.yL.fresh (Nat.le_refl _),rfl,?_,⟨x,by simpa using Hk⟩,IM,ne_of_gt TF,ne_of_gt hie⟩
 refine Inv.F7 (s:=s) (h':=h2) (t':=tk + 1) I fe fi (Nat.le_refl _) (fun c o h1 h2' z=>(DG.2 c h1).trans (hk c o h1 h2' z)) ⟨_,Hk⟩ (let ⟨o,z⟩:=D.live _ _ IM; ⟨o,z⟩) (by show 2 <= sizeLine;decide) (us:=[.int i tk,x]) (.cons ⟨tk,rfl⟩ (.cons ry .nil)) ?_
 exact⟨_,(DG.2 _ (ne_of_gt TF)).trans hT,⟨rfl,_,rfl⟩,rfl⟩
end
noncomputable def y2 (sq:Hp->List V->Prop):It :=
 ⟨fun i H=>∃ xs x,sq H xs/\xs[i]? = some x,fun i H v H'=>∃ p,H p=none/\v = .ref p/\∀ xs,sq H xs->∃ x,xs[i]? = some x/\H' = upd H p (.tup [.int i,x]),fun i H=>∃ xs,sq H xs/\xs.length=i⟩
theorem mO {P:Program}{w:World}{K:Frag}{elts:List Expr}{kk:Nat}{pos:Pos}(a e it:Addr)(zc:e ≠ it):oq P w K (.Tuple elts kk pos) (y2 fun H=>yC K H a) [e,it] e (fun i h=>(∃ old,IsEnum h e it (i:Int) old)/\h.IsListIter it a i) where
 mem:=by simp
 obj:=fun i h st b hb=>by
  obtain⟨⟨old,he⟩,o,ho,c,d⟩:=st
  have B4:b=e∨b=it:=by simpa using hb
  rcases B4 with rfl | rfl
  ·exact⟨_,he,fun v z=>by have z':Data.fields _=Data.cell v:=z;cases z'⟩
  ·exact⟨o,ho,fun v z=>by rw[d]at z;cases z⟩
 keep:=fun i h h' st k=>by
  obtain⟨⟨old,he⟩,hi⟩:=st
  exact⟨⟨old,k e (by simp) _ he⟩,hi.at fun o z=>k it (by simp) o z⟩
 item:=by
  intro X hP hw hK hc i pins s σ H E I hf st hg
  subst hP hw hK
  obtain⟨xs,x,hq,hx⟩:=hg
  obtain⟨yF,rv,p,hz⟩:=I.list hq
  obtain⟨⟨old,he⟩,hi⟩:=st
  have hl:i < yF.toArray.size:=by
   have:=(gQ0 hx)
   have l2:=rv.length
   simp;omega
  have Oy:e ≠ a:=by
   rintro rfl
   obtain⟨o,ho,BE,_⟩:=p.isList
   rw[he]at ho;cases ho
   injection BE with z;exact absurd z (by decide)
  have F8:a ≠ it:=by
   rintro rfl
   obtain⟨o,ho,BE,_⟩:=p.isList
   obtain⟨o2,Aj,Az,_⟩:=hi
   rw[ho]at Aj;cases Aj;rw[BE]at Az
   injection Az with z;exact absurd z (by decide)
  refine bv (j2 (xs:=xs) (Draws.list (A:=X.A.in1) (I.ok.hd hc) it a F8 yF.toArray) I he ⟨hi,p.isList⟩ hl zc (by simp only[mem_cons,not_mem_nil,or_false,not_or];exact⟨zc,Oy⟩) (hf e (by simp)) (hf it (by simp)) fun v hv=>?_) fun r s1 ⟨u,hr,h1⟩=>⟨u,hr,bv h1 fun _ s2 ⟨q,y,hy,Oz,hu,I2,Hk,DG,n1,n2⟩=>?_⟩
  ·obtain⟨u,hu,ru⟩:=rv.get hx
   have e1:yF[i]? = some v:=by simpa using hv
   rw[hu]at e1;cases e1
   exact⟨x,hx,ru⟩
  ·refine⟨.ref q,_,I2,hu,⟨q,Oz,rfl,fun zs Ee=>⟨y,by rw[I.Bv Ee hq];exact hy,rfl⟩⟩,⟨Hk,DG.1⟩,fun b hb=>?_⟩
   have B4:b=e∨b=it:=by simpa using hb
   rcases B4 with rfl | rfl
   ·rw[af (Ne.symm n1)];exact(hf b (by simp)).1
   ·rw[af (Ne.symm n2)];exact(hf b (by simp)).1
 done:=by
  intro X hP hw hK hc i pins s σ H E I hf st hg
  subst hP hw hK
  obtain⟨xs,hq,hx⟩:=hg
  obtain⟨yF,rv,p,hz⟩:=I.list hq
  obtain⟨⟨old,he⟩,hi⟩:=st
  have hl:i=yF.toArray.size:=by have l2:=rv.length;simp;omega
  have F8:a ≠ it:=by
   rintro rfl
   obtain⟨o,ho,BE,_⟩:=p.isList
   obtain⟨o2,Aj,Az,_⟩:=hi
   rw[ho]at Aj;cases Aj;rw[BE]at Az
   injection Az with z;exact absurd z (by decide)
  refine wpAny_pyNext_enum_endD (Draws.list (A:=X.A.in1) (I.ok.hd hc) it a F8 yF.toArray) he (by rw[← hl];exact⟨hi,p.isList⟩) fun h' C3=>⟨rfl,?_⟩
  exact I.Cm (t':=s.toks) (hf e (by simp)) (hf it (by simp)) fun c o h1 h2 z=>C3 c o h2 z
 self:=fun _ _ _ _ _ st h=>by
  obtain⟨⟨old,he⟩,_⟩:=st
  exact wpAny_pyIter_enum he h
theorem mK {P:Program}{w:World}{K:Frag}{elts:List Expr}{kk:Nat}{pos:Pos}(a e it:Addr)(zc:e ≠ it):oq P w K (.Tuple elts kk pos) (y2 fun H=>yN K H a) [e,it] e (fun i h=>(∃ old,IsEnum h e it (i:Int) old)/\h.IsTupleIter it a i) where
 mem:=by simp
 obj:=fun i h st b hb=>by
  obtain⟨⟨old,he⟩,o,ho,c,d⟩:=st
  have B4:b=e∨b=it:=by simpa using hb
  rcases B4 with rfl | rfl
  ·exact⟨_,he,fun v z=>by have z':Data.fields _=Data.cell v:=z;cases z'⟩
  ·exact⟨o,ho,fun v z=>by rw[d]at z;cases z⟩
 keep:=fun i h h' st k=>by
  obtain⟨⟨old,he⟩,hi⟩:=st
  exact⟨⟨old,k e (by simp) _ he⟩,hi.at fun o z=>k it (by simp) o z⟩
 item:=by
  intro X hP hw hK hc i pins s σ H E I hf st hg
  subst hP hw hK
  obtain⟨xs,x,hq,hx⟩:=hg
  obtain⟨yF,rv,p,hz⟩:=I.tuple hq
  have pt:s.heap.IsTuple a yF.toArray:=p
  obtain⟨⟨old,he⟩,hi⟩:=st
  have hl:i < yF.toArray.size:=by
   have:=(gQ0 hx)
   have l2:=rv.length
   simp;omega
  have Oy:e ≠ a:=by
   rintro rfl
   obtain⟨o,ho,BE,_⟩:=pt
   rw[he]at ho;cases ho
   injection BE with z;exact absurd z (by decide)
  have F8:a ≠ it:=by
   rintro rfl
   obtain⟨o,ho,BE,_⟩:=pt
   obtain⟨o2,Aj,Az,_⟩:=hi
   rw[ho]at Aj;cases Aj;rw[BE]at Az
   injection Az with z;exact absurd z (by decide)
  refine bv (j2 (xs:=xs) (fj (A:=X.A.in1) (I.ok.hd hc) it a F8 yF.toArray) I he ⟨hi,pt⟩ hl zc (by simp only[mem_cons,not_mem_nil,or_false,not_or];exact⟨zc,Oy⟩) (hf e (by simp)) (hf it (by simp)) fun v hv=>?_) fun r s1 ⟨u,hr,h1⟩=>⟨u,hr,bv h1 fun _ s2 ⟨q,y,hy,Oz,hu,I2,Hk,DG,n1,n2⟩=>?_⟩
  ·obtain⟨u,hu,ru⟩:=rv.get hx
   have e1:yF[i]? = some v:=by simpa using hv
   rw[hu]at e1;cases e1
   exact⟨x,hx,ru⟩
  ·refine⟨.ref q,_,I2,hu,⟨q,Oz,rfl,fun zs Ee=>⟨y,by rw[I.Bb Ee hq];exact hy,rfl⟩⟩,⟨Hk,DG.1⟩,fun b hb=>?_⟩
   have B4:b=e∨b=it:=by simpa using hb
   rcases B4 with rfl | rfl
   ·rw[af (Ne.symm n1)];exact(hf b (by simp)).1
   ·rw[af (Ne.symm n2)];exact(hf b (by simp)).1
 done:=by
  intro X hP hw hK hc i pins s σ H E I hf st hg
  subst hP hw hK
  obtain⟨xs,hq,hx⟩:=hg
  obtain⟨yF,rv,p,hz⟩:=I.tuple hq
  have pt:s.heap.IsTuple a yF.toArray:=p
  obtain⟨⟨old,he⟩,hi⟩:=st
  have hl:i=yF.toArray.size:=by have l2:=rv.length;simp;omega
  have F8:a ≠ it:=by
   rintro rfl
   obtain⟨o,ho,BE,_⟩:=pt
   obtain⟨o2,Aj,Az,_⟩:=hi
   rw[ho]at Aj;cases Aj;rw[BE]at Az
   injection Az with z;exact absurd z (by decide)
  refine wpAny_pyNext_enum_endD (fj (A:=X.A.in1) (I.ok.hd hc) it a F8 yF.toArray) he (by rw[← hl];exact⟨hi,pt⟩) fun h' C3=>⟨rfl,?_⟩
  exact I.Cm (t':=s.toks) (hf e (by simp)) (hf it (by simp)) fun c o h1 h2 z=>C3 c o h2 z
 self:=fun _ _ _ _ _ st h=>by
  obtain⟨⟨old,he⟩,_⟩:=st
  exact wpAny_pyIter_enum he h
section
variable {X:Cx}{elts:List Expr}{kk:Nat}{C2 p pos:Pos}{a:Expr}{ta:TE}
noncomputable def O0 (K:Frag)(t:TA):TI:=fun σ H R=>t σ H fun vs H1=>∃ a,vs=[.ref a]/\(∃ xs,yC K H1 a xs)/\R (y2 fun H=>yC K H a) H1
noncomputable def O1 (K:Frag)(t:TA):TI:=fun σ H R=>t σ H fun vs H1=>∃ a,vs=[.ref a]/\(∃ xs,yN K H1 a xs)/\R (y2 fun H=>yN K H a) H1
theorem l5 {t:TA}(hg:Gl X "enumerate")(hm:X.mg "enumerate" = none)(ha:PA X [a] t)(hs:autoParam (starEach [a] X.env=[(false,eval a X.env)]) η):PI X (.Tuple elts kk C2) (.Call (.Name "enumerate" p) [a] [] pos) (O0 X.K t):=by
 intro pins s σ H R I h
 refine Call_ (fJ I hg hm boot_enumerate (PyProof.Rows.callWith_type1 (bv (ha pos pins s σ H _ I h) fun us s1 yD=>?_) hs rfl))
 obtain⟨vs,H1,I1,r1,q1⟩:=yD
 obtain⟨l,e,⟨xs,hq⟩,q⟩:=q1
 subst e
 cases r1 with
 | cons r rr =>
  cases rr
  cases r
  obtain⟨yF,rv,pp,hz⟩:=I1.list hq
  refine call_enumerate_list pp.isList fun h' he hit hsz hk=>?_
  have I2:Inv X pins σ H1 { s1 with heap:=h' }:=I1.kept (t':=s1.toks) hk
  refine wpAny_pyIter_enum (s:={ s1 with heap:=h' }) he ?_
  refine⟨_,_,_,_,H1,rfl,I2,mO l _ s1.heap.objs.size (Nat.succ_ne_self _),⟨⟨_,he⟩,hit⟩,fun b hb=>?_,q⟩
  have B4:b=s1.heap.objs.size + 1∨b=s1.heap.objs.size:=by simpa using hb
  have hle:s1.heap.objs.size <= b:=by
   rcases B4 with e | e
   ·rw[e];exact le_succ _
   ·rw[e];exact Nat.le_refl _
  exact I1.CU hle (I1.yL.fresh hle)
theorem lz {t:TA}(hg:Gl X "enumerate")(hm:X.mg "enumerate" = none)(ha:PA X [a] t)(hs:autoParam (starEach [a] X.env=[(false,eval a X.env)]) η):PI X (.Tuple elts kk C2) (.Call (.Name "enumerate" p) [a] [] pos) (O1 X.K t):=by
 intro pins s σ H R I h
 refine Call_ (fJ I hg hm boot_enumerate (PyProof.Rows.callWith_type1 (bv (ha pos pins s σ H _ I h) fun us s1 yD=>?_) hs rfl))
 obtain⟨vs,H1,I1,r1,q1⟩:=yD
 obtain⟨l,e,⟨xs,hq⟩,q⟩:=q1
 subst e
 cases r1 with
 | cons r rr =>
  cases rr
  cases r
  obtain⟨yF,rv,pp,hz⟩:=I1.tuple hq
  refine dC (show s1.heap.IsTuple l yF.toArray from pp) fun h' he hit hsz hk=>?_
  have I2:Inv X pins σ H1 { s1 with heap:=h' }:=I1.kept (t':=s1.toks) hk
  refine wpAny_pyIter_enum (s:={ s1 with heap:=h' }) he ?_
  refine⟨_,_,_,_,H1,rfl,I2,mK l _ s1.heap.objs.size (Nat.succ_ne_self _),⟨⟨_,he⟩,hit⟩,fun b hb=>?_,q⟩
  have B4:b=s1.heap.objs.size + 1∨b=s1.heap.objs.size:=by simpa using hb
  have hle:s1.heap.objs.size <= b:=by
   rcases B4 with e | e
   ·rw[e];exact le_succ _
   ·rw[e];exact Nat.le_refl _
  exact I1.CU hle (I1.yL.fresh hle)
end
theorem lM {sq:Hp->List V->Prop}{xs:List V}{g:TG}{tb:TS}{D:kK}{σ:St}{H:Hp}(Pv:Nat->St->Hp->Prop)(h0:Pv 0 σ H)(hl:∀ i σ H,i <= xs.length->Pv i σ H->sq H xs)
  (hs:∀ i x p σ H,xs[i]? = some x->Pv i σ H->H p=none->g (.ref p) σ (upd H p (.tup [.int i,x])) fun σ2 H2=>tb { D with nx:=Pv (i + 1),ct:=Pv (i + 1),bk:=D.nx } σ2 H2) (hd:∀ σ H,Pv xs.length σ H->D.nx σ H) :
  ∃ W:Nat->Nat->St->Hp->Prop,(∃ m,W 0 m σ H)/\∀ i m σ H,W i m σ H ->
   ((y2 sq).stop i H/\D.nx σ H)∨((y2 sq).go i H/\∃ N:St->Hp->Prop,(∀ σ' H',N σ' H'->∃ m',m' < m/\W (i + 1) m' σ' H')/\∀ x H',(y2 sq).DW i H x H'->g x σ H' fun σ2 H2=>tb { D with nx:=N,ct:=N,bk:=D.nx } σ2 H2):=by
 refine⟨fun i m σ H=>m=xs.length - i/\i <= xs.length/\Pv i σ H,⟨xs.length,by simp,zero_le _,h0⟩,?_⟩
 rintro i m σ H ⟨rfl,hi,p⟩
 have q:=hl i σ H hi p
 by_cases zb:i < xs.length
 ·refine .inr ⟨⟨xs,xs[i],q,by simp[zb]⟩,Pv (i + 1),fun σ' H' p'=>⟨xs.length - (i + 1),by omega,rfl,zb,p'⟩,fun x H' y=>?_⟩
  obtain⟨pp,hn,rfl,hx⟩:=y
  obtain⟨x',C3,e⟩:=hx xs q
  subst e
  exact hs i x' pp σ H C3 p hn
 ·have e:i=xs.length:=by omega
  subst e
  exact .inl ⟨⟨xs,q,rfl⟩,hd σ H p⟩
noncomputable def AN (d:PyData)(m:Nat):Prop:=d.canLay0=true/\d.depth <= m
theorem AN.shaped {d:PyData}{m:Nat}(h:AN d m)(hm:m <= 64):SeqAt.shaped d=true:=by
 unfold SeqAt.shaped
 rw[h.1,decide_eq_true (le_trans h.2 hm)];rfl
theorem c7 (i:Int):AN (.int i) 0:=⟨by simp[PyData.canLay0],by simp[PyData.depth]⟩
theorem Dg:AN .none 0:=⟨by simp[PyData.canLay0],by simp[PyData.depth]⟩
theorem jM {m:Nat}:∀ {ds:List PyData},(∀ d ∈ ds,AN d m)->PyData.canLayAll0 ds=true/\PyData.depthAll ds <= m
 | [],_=>⟨by simp[PyData.canLayAll0],by simp[PyData.depthAll]⟩
 | d :: r,h=>by
  obtain⟨a,b⟩:=jM (ds:=r) fun z hz=>h z (mem_cons_of_mem _ hz)
  obtain⟨c,e⟩:=h d mem_cons_self
  exact⟨by simp[PyData.canLayAll0,c,a],by simp only[PyData.depthAll];omega⟩
theorem dY {m:Nat}{ds:List PyData}(h:∀ d ∈ ds,AN d m):AN (.list ds) (m + 1):=by
 obtain⟨a,b⟩:=jM h
 exact⟨by simp[PyData.canLay0,a],by simp only[PyData.depth];omega⟩
theorem gH {m:Nat}{ds:List PyData}(h:∀ d ∈ ds,AN d m):AN (.tuple ds) (m + 1):=by
 obtain⟨a,b⟩:=jM h
 exact⟨by simp[PyData.canLay0,a],by simp only[PyData.depth];omega⟩
theorem AN.le {d:PyData}{m n:Nat}(h:AN d m)(l:m <= n):AN d n:=⟨h.1,le_trans h.2 l⟩
end L2
namespace L2
open PySem
theorem lU {n:Nat}{lo:Int}{g:TG}{tt:TT}{te:TE}{σ0:St}{H:Hp}{Q:VK}(p:Nat->Bool)(f:Nat->V)(hn:n < sizeLine)
  (hs:∀ (i:Nat)(acc:List V)(N:List V->Hp->Prop),i < n->N (if p i then acc ++ [f i] else acc) H->g (.int (lo + i)) σ0 H fun σ2 H2=>tt σ2 H2 fun b H3=>if b=true then te σ2 H3 fun y H4=>N (acc ++ [y]) H4 else N acc H3)
  (hq:∀ D,H D=none->Q (.ref D) (upd H D (.lst (((List.range n).filter p).map f)))) :
  cO (ug lo n) g tt te σ0 Q H:=by
 refine⟨fun i m acc H'=>m=n - i/\i <= n/\H' = H/\acc=((List.range i).filter p).map f,⟨n,by simp,zero_le _,rfl,rfl⟩,?_⟩
 rintro i m acc H' ⟨rfl,hi,rfl,rfl⟩
 have hl:(((List.range i).filter p).map f).length < sizeLine:=by
  rw[length_map]
  have:=length_filter_le p (List.range i)
  rw[length_range]at this
  omega
 refine⟨hl,?_⟩
 by_cases zb:i < n
 ·refine .inr ⟨zb,fun zo H2=>H2=H'/\zo = ((List.range (i + 1)).filter p).map f,fun zo H2 yD=>by obtain⟨h1,h2⟩:=yD;exact⟨n - (i + 1),by omega,rfl,zb,h1,h2⟩,fun x H2 y=>?_⟩
  obtain⟨e,y⟩:=y
  subst e y
  refine hs i _ (fun zo H3=>H3=H2/\zo = ((List.range (i + 1)).filter p).map f) zb ⟨rfl,?_⟩
  rw[range_succ,filter_append]
  cases hp:p i with
  | true=>simp[hp]
  | false=>simp[hp]
 ·have e:i=n:=by omega
  subst e
  exact .inl ⟨Nat.le_refl _,hq⟩
theorem gj {K:Frag}{a:Addr}{xs:List V}{g:TG}{tt:TT}{te:TE}{σ0:St}{H:Hp}{Q:VK}(p:V->Bool)(f:V->V)(hn:xs.length < sizeLine)(ha:yC K H a xs)
  (hs:∀ (x:V)(acc:List V)(N:List V->Hp->Prop),x ∈ xs->N (if p x then acc ++ [f x] else acc) H->g x σ0 H fun σ2 H2=>tt σ2 H2 fun b H3=>if b=true then te σ2 H3 fun y H4=>N (acc ++ [y]) H4 else N acc H3)
  (hq:∀ D,H D=none->Q (.ref D) (upd H D (.lst ((xs.filter p).map f)))) :
  cO (tZ K a) g tt te σ0 Q H:=by
 refine⟨fun i m acc H'=>m=xs.length - i/\i <= xs.length/\H' = H/\acc=((xs.take i).filter p).map f,⟨xs.length,by simp,zero_le _,rfl,rfl⟩,?_⟩
 rintro i m acc H' ⟨rfl,hi,rfl,rfl⟩
 have hl:(((xs.take i).filter p).map f).length < sizeLine:=by
  rw[length_map]
  have h1:=length_filter_le p (xs.take i)
  have h2:=length_take_le i xs
  omega
 refine⟨hl,?_⟩
 by_cases zb:i < xs.length
 ·refine .inr ⟨⟨xs,xs[i],ha,by simp[zb]⟩,fun zo H2=>H2=H'/\zo = ((xs.take (i + 1)).filter p).map f,fun zo H2 yD=>by obtain⟨h1,h2⟩:=yD;exact⟨xs.length - (i + 1),by omega,rfl,zb,h1,h2⟩,fun x H2 y=>?_⟩
  obtain⟨e,y⟩:=y
  subst e
  have hx:=y xs ha
  refine hs x _ (fun zo H3=>H3=H2/\zo = ((xs.take (i + 1)).filter p).map f) (mem_of_getElem? hx) ⟨rfl,?_⟩
  rw[take_succ,hx,filter_append]
  cases hp:p x with
  | true=>simp[hp]
  | false=>simp[hp]
 ·have e:i=xs.length:=by omega
  subst e
  rw[take_length]
  exact .inl ⟨⟨xs,ha,Nat.le_refl _⟩,hq⟩
theorem k7 (k:Int):∀ ns:List Int,Hi (.int k) (ns.map V.int)=decide (k ∈ ns)
 | []=>by simp[Hi]
 | n :: r=>by
  have ih:=k7 k r
  unfold Hi at ih ⊢
  rw[map_cons,any_cons,ih]
  show((n == k) || decide (k ∈ r))=decide (k ∈ n :: r)
  by_cases h:k=n
  ·subst h;simp
  ·have h':¬ n=k:=fun z=>h z.symm
   simp[h,h']
theorem gZ:∀ ns:List Int,(ns.map V.int).all gh=true
 | []=>rfl
 | n :: r=>by rw[map_cons,all_cons,gZ r];rfl
open PySem.Spec PyProof.Rows
section
open PySem.W
variable {prog:Program}{w:World}{A:Around}{E:Value->Shared->Prop}{s:Shared}{K:Frag}{x C:Addr}{name:Str}{v:Value}
end
section
variable {X:Cx}{o e value:Expr}{f:Str}{pos pos':Pos}{ta tv:TE}
end
end L2
namespace L2
open PySem
noncomputable def py:Option Int->Value->Bool
 | none,v=>v == .none
 | some k,v=>Value.isInt k v
noncomputable def uJ:Option Int->Int
 | none=>4238894112
 | some k=>hashInt k
theorem bY {k:Option Int}{v:Value}(h:py k v=true):(k=none/\v = .none)∨∃ i t,k=some i/\v = .int i t:=by
 cases k with
 | none=>exact .inl ⟨rfl,eq_of_beq h⟩
 | some i=>obtain⟨t,e⟩:=Value.isInt_shape h;exact .inr ⟨i,t,rfl,e⟩
section
variable {prog:Program}{w:World}{A:Around}{E:Value->Shared->Prop}{s:Shared}
theorem qh {Q:Int->Shared->Prop}(h:Q 4238894112 { s with toks:=s.toks + 1 }):wpAny (model prog w) A (pyHash .none) Q E s:=by
 have hT:s.TypeIs .none "NoneType":=rfl
 unfold pyHash
 have hv:[Value.none].any Value.onHeap=false:=rfl
 refine wpAny_bind ?_
 rw[cRoomFor,if_neg (by rw[hv];exact Bool.false_ne_true)];refine wpAny_pure ?_
 refine wpAny_bind (wpAny_specialOf hT F.slot_NoneType_hash.lookup ?_)
 show wpAny _ _ (if (some (Value.builtin "NoneType.__hash__") == some Value.none)=true then _ else _) Q E s
 rw[if_neg (by rw[beq_builtin_none];exact Bool.false_ne_true)]
 refine wpAny_bind (wpAny_specialOf hT F.slot_NoneType_hash.lookup ?_)
 show wpAny _ _ (callSpecialIfBoundUnlessNone? .none "__hash__" _ >>= _) Q E s
 refine wpAny_bind (wpAny_callSpecialIfBoundUnlessNone?_slot hT F.slot_NoneType_hash (wpAny_call_entry F.slot_NoneType_hash hT F.entry_NoneType_hash
  (show wpAny _ _ (do ret (← mkInt 4238894112)) _ _ s from wpAny_ret_mkInt ?_) (F.args_NoneType_hash_1 _)))
 exact wpAny_pure h
theorem yh {a b:Option Int}{u v:Value}{Q:Bool->Shared->Prop}(hu:py a u=true)(hv:py b v=true)(h:Q (decide (a=b)) s):wpAny (model prog w) A (PySem.eqBool u v) Q E s:=by
 rcases bY hu with ⟨rfl,rfl⟩ | ⟨i,t,rfl,rfl⟩<;>rcases bY hv with ⟨rfl,rfl⟩ | ⟨j,t',rfl,rfl⟩
 ·unfold eqBool
  refine wpAny_holding ?_
  refine wpAny_ite_split (fun _=>wpAny_bind (wpAny_rule (wpAny_pure (by simpa using h)))) (fun n=>absurd rfl n)
 ·exact PySem.SeqAt.EqAt.none_int j t' prog w E Q (by simpa using h)
 ·exact PySem.SeqAt.EqAt.int_none i t prog w E Q (by simpa using h)
 ·refine wpAny_eqBool_int ?_
  have e:(i == j)=decide (some i=some j):=by
   by_cases q:i=j
   ·simp[q]
   ·simp[q]
  rw[e];exact h
end
noncomputable def eR (prog:Program)(w:World):KeyKind prog w (Option Int) where
 is:=py
 hash:=uJ
 inj:=fun v a b ha hb=>by
  rcases bY ha with ⟨rfl,rfl⟩ | ⟨i,t,rfl,rfl⟩<;>rcases bY hb with ⟨rfl,e⟩ | ⟨j,t',rfl,e⟩
  ·rfl
  ·cases e
  ·cases e
  ·cases e;rfl
 byValue:=fun k v h=>by
  rcases bY h with ⟨_,rfl⟩ | ⟨i,t,_,rfl⟩<;>rfl
 pyHash:=fun {A E s k v Q} hv h=>by
  rcases bY hv with ⟨rfl,rfl⟩ | ⟨i,t,rfl,rfl⟩
  ·exact qh h
  ·exact wpAny_pyHash_int h
 eqBool:=fun hu hv h=>yh hu hv h
 «strs»:=fun k x t v h=>by
  rcases bY h with ⟨_,e⟩ | ⟨i,t,_,e⟩<;>cases e
open PySem.Spec PyProof.Rows
abbrev fB:=List (Option Int)
noncomputable def ub:Option Int->V
 | none => .yQ
 | some i => .int i
abbrev gB:=fB × Addr × V
abbrev jg (p:gB)(q:fB × Addr × Value):Prop:=p.1=q.1/\p.2.1=q.2.1/\RelV p.2.2 q.2.2
noncomputable def y6 (P:Program)(w:World)(a:Addr)(yJ:List gB):Heap->Prop:=fun h=>yJ.length <= sizeLine/\(a == sysModules)=false/\∃ xs,Paired jg yJ xs /\
 ∃ o es ep,h.get? a=some o/\o.ExactDict/\o.data = .dict es ep/\es.toList=xs.map (entryOfKey (tupleKind (eR P w)))/\(xs.map (·.1)).Nodup
noncomputable def mD (P:Program)(w:World)(a:Addr)(yJ:List gB):HO := .ext (y6 P w a yJ)
noncomputable def zA (P:Program)(w:World)(H:Hp)(a:Addr)(yJ:List gB):Prop:=H a=some (mD P w a yJ)/\∀ x ∈ yJ,H x.2.1=some (.tup (x.1.map ub))
theorem zA.same {P:Program}{w:World}{H H':Hp}{a:Addr}{yJ:List gB}(h:zA P w H a yJ)(s:y8 H H'):zA P w H' a yJ:=⟨s _ _ h.1,fun x hx=>s _ _ (h.2 x hx)⟩
noncomputable def cF (yJ:List gB)(k:fB):Option V:=(yJ.find? fun x=>decide (x.1=k)).map (·.2.2)
noncomputable def pL (k:fB)(v:V)(x:gB):gB:=if x.1=k then (x.1,x.2.1,v) else x
noncomputable def gL (yJ:List gB)(k:fB)(b:Addr)(v:V):List gB:=if (cF yJ k).isSome then yJ.map (pL k v) else yJ ++ [(k,b,v)]
theorem iE {k:fB}:cF [] k=none:=rfl
theorem ci {x:gB}{yJ:List gB}{k:fB}:cF (x :: yJ) k=if x.1=k then some x.2.2 else cF yJ k:=by
 unfold cF
 rw[find?_cons]
 by_cases h:x.1=k
 ·rw[decide_eq_true h,if_pos h];rfl
 ·rw[decide_eq_false h,if_neg h]
theorem qA {yJ:List gB}{k k':fB}{v:V}:cF (yJ.map (pL k v)) k' = if k' = k then (cF yJ k).map (fun _=>v) else cF yJ k':=by
 induction yJ with
 | nil=>rw[map_nil,iE,iE];split<;>rfl
 | cons x yJ ih =>
  rw[map_cons,ci,ih,ci,ci]
  unfold pL
  by_cases h:x.1=k<;>by_cases h':k' = k
  ·have:x.1=k':=h.trans h'.symm
   simp[h,h']
  ·have:¬ x.1=k':=fun z=>h' (z.symm.trans h)
   rw[if_pos h,if_neg h',if_neg this,if_neg this,if_neg h']
  ·subst h'
   simp[h]
  ·simp[h,h']
theorem kN {yJ:List gB}{k k':fB}{b:Addr}{v:V}(h:cF yJ k=none):cF (yJ ++ [(k,b,v)]) k' = if k' = k then some v else cF yJ k':=by
 induction yJ with
 | nil =>
  rw[List.nil_append,ci,iE]
  by_cases e:k' = k
  ·rw[if_pos e,if_pos e.symm]
  ·rw[if_neg e,if_neg (Ne.symm e)]
 | cons x yJ ih =>
  rw[ci]at h
  by_cases hx:x.1=k
  ·rw[if_pos hx]at h;cases h
  ·rw[if_neg hx]at h
   rw[List.cons_append,ci,ih h,ci]
   by_cases e:k' = k
   ·subst e;rw[if_neg hx,if_pos rfl,if_pos rfl]
   ·rw[if_neg e,if_neg e]
theorem q5 {yJ:List gB}{k k':fB}{b:Addr}{v:V}:cF (gL yJ k b v) k' = if k' = k then some v else cF yJ k':=by
 unfold gL
 cases h:cF yJ k with
 | none=>rw[if_neg (by simp)];exact kN h
 | some u =>
  rw[if_pos (by simp),qA,h];rfl
theorem ij {yJ:List gB}{k:fB}{b:Addr}{v:V}:(gL yJ k b v).length <= yJ.length + 1:=by
 unfold gL
 split
 ·rw[length_map];omega
 ·rw[length_append];exact Nat.le_refl _
theorem pK {yJ:List gB}{k:fB}{b:Addr}{v:V}{F:fB->Addr->Prop}(h:∀ x ∈ yJ,F x.1 x.2.1)(hk:F k b):∀ x ∈ gL yJ k b v,F x.1 x.2.1:=by
 intro x hx
 unfold gL at hx
 split at hx
 ·obtain⟨y,hy,rfl⟩:=mem_map.mp hx
  unfold pL
  split
  ·exact h y hy
  ·exact h y hy
 ·rcases mem_append.mp hx with q | q
  ·exact h x q
  ·rw[mem_singleton.mp q];exact hk
theorem kB {yJ:List gB}{xs:List (fB × Addr × Value)}(r:Paired jg yJ xs)(k:fB):Al (cF yJ k) ((atKey xs k).map (·.2)):=by
 induction r with
 | nil=>exact True.intro
 | @cons p q _ _ h1 _ ih =>
  rw[ci]
  unfold atKey at ih ⊢
  rw[find?_cons]
  by_cases e:p.1=k
  ·rw[if_pos e,decide_eq_true (h1.1.symm.trans e)];exact h1.2.2
  ·rw[if_neg e,decide_eq_false (fun z=>e (h1.1.trans z))];exact ih
theorem ig {o:Option V}{u:Option Value}(r:Al o u):o.isSome=u.isSome:=by
 cases o<;>cases u<;>first | rfl | exact r.elim
theorem pI {o:Option V}{u:Option Value}{d:V}{r:Value}(h:Al o u)(hd:RelV d r):RelV (o.getD d) (u.getD r):=by
 cases o<;>cases u<;>first | exact hd | exact h | exact h.elim
theorem v8 {yJ:List gB}{xs:List (fB × Addr × Value)}{k:fB}{v:V}{u:Value}(r:Paired jg yJ xs)(hv:RelV v u):Paired jg (yJ.map (pL k v)) (xs.map (putAt k u)):=by
 induction r with
 | nil=>exact .nil
 | @cons p q _ _ h1 _ ih =>
  refine .cons ?_ ih
  unfold pL putAt
  by_cases e:p.1=k
  ·rw[if_pos e,if_pos (h1.1.symm.trans e)];exact⟨h1.1,h1.2.1,hv⟩
  ·rw[if_neg e,if_neg (fun z=>e (h1.1.trans z))];exact h1
theorem tG {yJ:List gB}{xs:List (fB × Addr × Value)}{p:gB}{q:fB × Addr × Value}(r:Paired jg yJ xs)(h:jg p q):Paired jg (yJ ++ [p]) (xs ++ [q]):=by
 induction r with
 | nil=>exact .cons h .nil
 | cons h1 _ ih=>exact .cons h1 ih
theorem v7 {yJ:List gB}{xs:List (fB × Addr × Value)}{k:fB}{b:Addr}{v:V}{u:Value}(r:Paired jg yJ xs)(hv:RelV v u):Paired jg (gL yJ k b v) (storedH xs k b u):=by
 have h:=ig (kB r k)
 rw[Option.isSome_map]at h
 unfold gL storedH
 rw[h]
 split
 ·exact v8 r hv
 ·exact tG r ⟨rfl,rfl,hv⟩
section
variable {P:Program}{w:World}{H:Hp}{h:Heap}{a b:Addr}{yJ:List gB}{k:fB}
theorem gM:∀ {k:fB}{us:List Value},Vals (k.map ub) us->ItemsAre (eR P w) k us
 | [],_, .nil => .nil
 | none :: _,_, .cons r t => .cons (by have e:_=Value.none:=r;subst e;rfl) (gM t)
 | some i :: _,_, .cons r t => .cons (by obtain⟨tk,e⟩:=(show ∃ t,_=Value.int i t from r);subst e;exact beq_self_eq_true i) (gM t)
theorem i8 (ok:Aq P w H h)(e:H b=some (.tup (k.map ub))):(tupleKind (eR P w)).is h k b:=by
 obtain⟨_,yF,r,o,ho,⟨hc,n,hd⟩,_⟩:=ok _ _ e
 exact⟨o,yF.toArray,n,ho,hc,hd,gM r⟩
theorem iD (ok:Aq P w H h)(e:zA P w H a yJ):yJ.length <= sizeLine/\(a == sysModules)=false/\∃ xs,Paired jg yJ xs/\h.DictOfH (tupleKind (eR P w)) a xs:=by
 obtain⟨e,ek⟩:=e
 obtain⟨⟨z,hs,xs,r,o,es,ep,h1,h2,h3,h4,h5⟩,_⟩:=ok _ _ e
 refine⟨z,hs,xs,r,o,es,ep,h1,h2,h3,h4,?_,h5⟩
 have all:∀ {yJ:List gB}{xs:List (fB × Addr × Value)},Paired jg yJ xs->(∀ x ∈ yJ,H x.2.1=some (.tup (x.1.map ub)))->∀ x ∈ xs,(tupleKind (eR P w)).is h x.1 x.2.1:=by
  intro yJ xs r
  induction r with
  | nil=>intro _ x hx;cases hx
  | @cons p q _ _ h1 _ ih =>
   intro hk x hx
   rcases mem_cons.mp hx with rfl | hx
   ·have:=hk p mem_cons_self
    rw[h1.1,h1.2.1]at this
    exact i8 ok this
   ·exact ih (fun y hy=>hk y (mem_cons_of_mem _ hy)) x hx
 exact all r ek
theorem j3 (h1 h2:Heap)(p:y6 P w a yJ h1)(st:∀ o,h1.get? a=some o->h2.get? a=some o):y6 P w a yJ h2:=by
 obtain⟨z,hs,xs,r,o,es,ep,q,c⟩:=p
 exact⟨z,hs,xs,r,o,es,ep,st _ q,c⟩
theorem tJ (hb:sysModules < h.objs.size):zd P w H (h.push { cls := .type "dict",data := .dict #[] }) h.objs.size (mD P w h.objs.size []) :=
 ⟨⟨zero_le _,beq_eq_false_iff_ne.mpr (Ne.symm (ne_of_lt hb)),[], .nil,_,#[],0,Heap.get?_push_size _ rfl,⟨rfl,rfl,rfl⟩,rfl,rfl,nodup_nil⟩,⟨_,Heap.get?_push_size _ rfl⟩,fun _ _=>j3 _ _⟩
end
noncomputable def vK (P:Program)(w:World)(H:Hp)(a:Addr)(y:V)(r:Option V):Prop:=∃ yJ k b,zA P w H a yJ/\y = .ref b/\H b=some (.tup (k.map ub))/\r=cF yJ k
section
variable {X:Cx}{pins:List (Addr × Obj)}{σ:St}{H:Hp}{s:Shared}{a b:Addr}{y v d:V}{u r:Value}{o:Option V}{A:Around}{E:Value->Shared->Prop}
theorem yr (I:Inv X pins σ H s):sysModules < s.heap.objs.size :=
 Nat.lt_trans (by decide) (show mainGlobals < s.heap.objs.size from (I.mod.glob.keeps I.bk).lt)
theorem O2 {Q:Value->Shared->Prop}(hu:A.units + 1 < cLine)(I:Inv X pins σ H s)(g:vK X.prog X.w H a y o)(ry:RelV y u)(h:∀ s',Inv X pins σ H s'->Q (.bool o.isSome) s') :
  wpAny (model X.prog X.w) A (compareOp .In u (.ref a)) Q E s:=by
 obtain⟨yJ,k,b,e,rfl,eb,rfl⟩:=g
 cases (show u=Value.ref b from ry)
 obtain⟨_,hd,xs,rel,dd⟩:=iD I.yL e
 refine wpAny_in_heap (tupleKind_room_in1 hu) (i8 I.yL eb) hd dd ?_
 have q:=ig (kB rel k)
 rw[Option.isSome_map]at q
 rw[← q]
 exact h _ (I.tok _)
theorem xK {Q:Value->Shared->Prop}(hu:A.units + 1 < cLine)(I:Inv X pins σ H s)(g:vK X.prog X.w H a y o)(ry:RelV y u)(rd:RelV d r)(h:∀ w' s',Inv X pins σ H s'->RelV (o.getD d) w'->Q w' s') :
  wpAny (model X.prog X.w) A (call (.builtin "dict.get") [.ref a,u,r]) Q E s:=by
 obtain⟨yJ,k,b,e,rfl,eb,rfl⟩:=g
 cases (show u=Value.ref b from ry)
 obtain⟨_,hd,xs,rel,dd⟩:=iD I.yL e
 exact call_meetsIn PySem.F.slot_dict_get dd.typeIs PySem.F.entry_dict_get (PySem.F.args_dict_get_3 _ _ _) (meetsH_dict_get_default (tupleKind (eR X.prog X.w)) a b hd r)
  ⟨tupleKind_room_in1 hu,k,xs,i8 I.yL eb,dd,h _ _ (I.tok _) (pI (kB rel k) rd)⟩
theorem IP {yJ:List gB}{k:fB}{Q:Unit->Shared->Prop}(hu:A.units + 1 < cLine)(I:Inv X pins σ H s)(e:zA X.prog X.w H a yJ)(eb:H b=some (.tup (k.map ub)))(hl:yJ.length < sizeLine)(rv:RelV v r)
  (h:∀ s',Inv X pins σ (upd H a (mD X.prog X.w a (gL yJ k b v))) s'->Q () s'):wpAny (model X.prog X.w) A (setItem (.ref a) (.ref b) r) Q E s:=by
 obtain⟨z,hd,xs,rel,dd⟩:=iD I.yL e
 have hz:xs.length <= sizeLine:=by rw[← Paired.length rel];exact z
 have C4:(gL yJ k b v).length <= sizeLine:=le_trans ij hl
 refine wpAny_setItem_heap (hsz:=hz) (tupleKind_room_in1 hu) (i8 I.yL eb) dd fun h' dd' hs=>h _ ?_
 obtain⟨q,es,ep,hq,h2,h3,h4,_,h5⟩:=dd'
 exact I.write (x:=a) (e:=a) (by rw[e.1];exact True.intro) (.inl rfl) (fun c q hc z=>(hs.2 c hc).trans z) ⟨q,hq⟩
  ⟨⟨C4,hd,_,v7 rel rv,q,es,ep,hq,h2,h3,h4,h5⟩,⟨q,hq⟩,fun _ _=>j3 _ _⟩
theorem qk {yJ:List gB}(I:Inv X pins σ H s)(e:zA X.prog X.w H a yJ):s.TypeIs (.ref a) "dict"/\∀ b,Value.ref a = .ref b->∃ ob,s.heap.get? b=some ob/\ob.dict=none:=by
 obtain⟨_,_,xs,_,dd⟩:=iD I.yL e
 refine⟨dd.typeIs,fun b q=>?_⟩
 cases q
 obtain⟨ob,_,_,h1,h2,_⟩:=dd
 exact⟨ob,h1,h2.2.1⟩
end
noncomputable def vN (P:Program)(w:World):TE:=fun _ H Q=>∀ p,H p=none->Q (.ref p) (upd H p (mD P w p []))
noncomputable def O3 (P:Program)(w:World)(ty td:TE):TE:=fun σ H Q=>ty σ H fun y H1=>td σ H1 fun x H2=>∃ a o,x = .ref a/\vK P w H2 a y o/\Q (.bl o.isSome) H2
noncomputable def IQ (P:Program)(w:World)(td ty tv:TE):TS:=fun D σ H=>tv σ H fun v H1=>td σ H1 fun x H2=>ty σ H2 fun y H3=>∃ a yJ k b,x = .ref a/\zA P w H3 a yJ/\y = .ref b/\H3 b=some (.tup (k.map ub))/\yJ.length < sizeLine/\D.nx σ (upd H3 a (mD P w a (gL yJ k b v)))
noncomputable def wB (P:Program)(w:World)(td:TE)(t:TA):TE:=fun σ H Q=>td σ H fun x H1=>∃ a yJ,x = .ref a/\zA P w H1 a yJ/\t σ H1 fun xs H2=>∃ y z o,xs=[y,z]/\vK P w H2 a y o/\Q (o.getD z) H2
section
variable {X:Cx}{o i e f value:Expr}{pos pos' apos zJ:Pos}{td ty tv tx:TE}
theorem uH:PE X (.Dict [] [] pos) (vN X.prog X.w):=fun pins s σ H Q I h =>
 wpAny_Dict_empty ⟨.ref s.heap.objs.size,_,I.laid (a:=s.heap.objs.size) (o:=mD X.prog X.w s.heap.objs.size []) (t':=s.toks) (fun _ _ q=>Heap.get?_push_of_some _ q) (Nat.le_refl _) (tJ (yr I)),rfl,h _ (I.yL.fresh (Nat.le_refl _))⟩
theorem xn (hu:X.A.units + 1 < cLine)(hi:PE X i ty)(ho:PE X o td):PC X .In i o (O3 X.prog X.w ty td):=by
 intro pins s σ H Q I h
 refine bv (hi pins s σ H _ I h) fun iv s1 ⟨y,H1,I1,ry,q1⟩=>bv (ho pins s1 σ H1 _ I1 q1) fun u s2 yD=>?_
 obtain⟨x,H2,I2,rx,a,ov,ex,g,q2⟩:=yD
 subst ex
 obtain rfl:u=Value.ref a:=rx
 exact O2 hu I2 g ry fun s3 I3=>⟨.bl ov.isSome,H2,I3,rfl,q2⟩
theorem uG (hu:X.A.units + 1 < cLine)(ho:PE X o td)(hi:PE X i ty)(hv:PE X value tv)(hs:swapsWith value (some (.Subscript o i pos')) pos.line X.env=pure false) :
  PS X (.Assign [.Subscript o i pos'] value pos) (IQ X.prog X.w td ty tv):=by
 intro pins s σ H D I h
 refine wpAny_Assign_Subscript (bv (hv pins s σ H _ I h) fun r s1 ⟨v,H1,I1,rv,q1⟩=>bv (ho pins s1 σ H1 _ I1 q1) fun u s2 ⟨x,H2,I2,rx,q2⟩=>bv (hi pins s2 σ H2 _ I2 q2) fun iv s3 yD=>?_) hs
 obtain⟨y,H3,I3,ry,a,yJ,k,b,ex,e,ey,eb,hl,q3⟩:=yD
 subst ex ey
 obtain rfl:u=Value.ref a:=rx
 obtain rfl:iv=Value.ref b:=ry
 exact IP hu I3 e eb hl rv fun s4 I4=>⟨σ,_,I4,q3⟩
theorem rS {es:List Expr}{t:TA}(hu:X.A.units + 1 < cLine)(ho:PE X o td)(ha:PA X (e :: es) t)
  (h1:autoParam (attributeBase o "get" X.env (eval o X.env)=eval o X.env) η)
  (h2:autoParam (((backTo zJ (starEach (e :: es) X.env)).all (fun x=>!x.1) && (backToKw zJ (keywordEach [] X.env)).all (fun x=>x.1.isSome) && decide ((e :: es).length + ([]:List Keyword).length + (if ([]:List Keyword).isEmpty then 0 else 1) < 30))=true) η)
  (h3:autoParam ((apos.endLine == zJ.line)=true) η) (h4:autoParam (starEach (e :: es) X.env=(false,eval e X.env) :: starEach es X.env) η) (h5:autoParam ((backTo zJ (starEach es X.env)).any (·.1)=false) η) :
  PE X (.Call (.Attribute o "get" apos) (e :: es) [] zJ) (wB X.prog X.w td t):=by
 intro pins s σ H Q I h
 refine wpAny_Call_method_late h1 h2 h3 rfl (bv (ho pins s σ H _ I h) fun v s1 yD=>?_)
 obtain⟨x,H1,I1,r1,a,yJ,ex,e1,q1⟩:=yD
 subst ex
 obtain rfl:v=Value.ref a:=r1
 obtain⟨t1,t2⟩:=qk I1 e1
 refine⟨"dict", "dict.get",PySem.F.plainAttrs_dict,PySem.F.slot_dict_get,PySem.F.type_dict_get,t1,t2,?_⟩
 have hA:=ha zJ pins s1 σ H1 _ I1 q1
 rw[h4]at hA ⊢
 refine Calls.callWith_builtin (by show(false || (backTo zJ (starEach es X.env)).any (·.1))=false;rw[h5]<;>rfl) (Calls.evalArgs_plain ?_)
 refine bv hA fun us s2 yD=>?_
 obtain⟨vs,H2,I2,r2,y,z,ov,evs,g,q2⟩:=yD
 subst evs
 cases r2 with
 | cons ry r2=>cases r2 with
  | cons rz r2=>cases r2 with
   | nil=>exact xK hu I2 g ry rz fun w' s4 I4 DZ=>⟨_,H2,I4,DZ,q2⟩
end
structure wu (K:Frag)(C:Addr)(m:Str)(f:Addr):Prop where
 reads:PySem.W.readsIn K C (.type "type")=true
 found:PySem.W.findCls K (.ref C) (.type "type") m=some (.val (.ref f))
 spec:PySem.W.specialIn K (.ref C) "__getattribute__" = some (some (.builtin "type.__getattribute__"))
 kp:keepIn K (.ref f)=true
noncomputable def wE (C:Addr)(sp:Sp)(zS:List V)(E:XK)(ta:TE)(t:TA):TE:=fun σ H Q=>ta σ H fun x H1=>x = .ref C/\t σ H1 fun vs H2=>sp (vs ++ zS) H2 Q E
section
variable {X:Cx}{CX:mE}{k:Nat}{f C:Addr}{fd:FuncData}{ps:List Str}{sp:Sp}{zS:List V}{ds:List Value}{E:XK}{x m:Str}{p pos apos:Pos}{e o:Expr}{es:List Expr}{ta:TE}{t:TA}
theorem rV {pl:Sem Bool}(he:PE X o ta)(hm:wu X.K C m f)(F:y9 X.prog X.w X.K X.mg X.base CX k f fd ps sp)(hr:yK k X.A)(hb:Binds X.K fd ps ds)(hd:Vals zS ds)(hx:eK CX X E)(ha:PA X (e :: es) t)
  (h1:autoParam (starEach (e :: es) X.env=(false,eval e X.env) :: starEach es X.env) η) (h2:autoParam ((backTo pos (starEach es X.env)).any (·.1)=false) η)
  (ht:eval (.Call (.Attribute o m apos) (e :: es) [] pos) X.env=(do
   let ov ← eval o X.env
   standAt apos.atName
   let (f,first) ← holding [ov] (getMethod ov m pl)
   callWith pos f first (backTo pos (starEach (e :: es) X.env)) (backToKw pos (keywordEach [] X.env))):=by rfl) :
  PE X (.Call (.Attribute o m apos) (e :: es) [] pos) (wE C sp zS E ta t):=by
 intro pins s σ H Q I h
 refine PySem.W.methodCall_KW (pl:=pl) (bv (he pins s σ H _ I h) fun u s1 yD=>?_) ht
 obtain⟨x,H1,I1,rx,ex,q⟩:=yD
 subst ex
 obtain rfl:u=Value.ref C:=rx
 refine PySem.W.method_cls I1.Ac hm.spec (PySem.W.cls_value I1.Ac hm.reads hm.found rfl ?_)
 refine PySem.W.callWith_K (first:=[]) (h₀:=X.base) I.ok.mod.BI hm.kp (bv (ha pos pins _ σ H1 _ (I1.tok _) q) fun us s2 ⟨vs,H2,I2,r,q2⟩=>⟨I2.Ac,?_⟩) h1 h2
 exact jQ F hr hb hd hx I2 r q2
end
section
variable {X:Cx}
end
section
variable {X:Cx}{tg:Expr}
noncomputable def O4:V->List V->Hp->VK->Prop:=fun x vs H Q=>∃ (l:Addr)(ns:List Int)(k:Int),x = .ref l/\vs=[.int k]/\H l=some (.lst (ns.map V.int))/\k ∈ ns/\ns.length <= 100000/\Q (.int (ns.idxOf k:Nat)) H
theorem pZ:LQ X "list.index" O4:=by
 intro pins s σ H x vs v us Q I rx rv h
 obtain⟨l,ns,k,rfl,rfl,hH,hk,hlen,q⟩:=h
 cases rx
 obtain⟨u,rfl,ru⟩:=rv.one
 obtain⟨t,rfl⟩:=ru
 obtain⟨z,yF,n,r,hl,e⟩:=I.BO hH
 have hi:IntsAre yF.toArray.toList ns:=nX r
 have B5:yF.length=ns.length:=by rw[← r.length,length_map]
 have hj:ns.idxOf k < ns.length:=List.idxOf_lt_length_of_mem hk
 have at_:∀ m (hm:m < yF.toArray.size),∃ t,yF.toArray[m]=Value.int (ns[m]'(by simpa [B5] using hm)) t:=fun m hm=>by
  have EG:m < yF.length:=by simpa using hm
  have hv:(ns.map V.int)[m]? = some (V.int (ns[m]'(by omega))):=by simp[show m < ns.length by omega]
  obtain⟨w',hw,DZ⟩:=r.get hv
  obtain⟨t',rfl⟩:=DZ
  refine⟨t',?_⟩
  have:yF[m]? = some yF[m]:=getElem?_eq_getElem EG
  rw[this]at hw
  simpa using Option.some.inj hw
 let e':Value->Bool:=fun y=>Value.isInt k y
 refine call_meets PySem.F.slot_list_index ⟨_,e,rfl⟩ PySem.F.entry_list_index (PySem.F.args_list_index_2 _ _)
  (SeqAt.list_indexAt l yF.toArray n none #[] (.int k t) e' (ns.idxOf k) (by simpa [B5] using hj) (by omega) ?_ ?_) ⟨e,fun y hy=>?_,?_⟩
 ·obtain⟨t',et⟩:=at_ (ns.idxOf k) (by simpa [B5] using hj)
  show Value.isInt k (yF.toArray[ns.idxOf k]'(by simpa [B5] using hj))=true
  rw[et,List.getElem_idxOf]
  simp[Value.isInt]
 ·intro m hm hmj
  obtain⟨t',et⟩:=at_ m hm
  show Value.isInt k yF.toArray[m]=false
  rw[et]
  have zc:ns[m]'(by simpa [B5] using hm) ≠ k:=fun z=>by
   have:=List.not_of_lt_findIdx (p:=fun x=>x == k) (xs:=ns) (i:=m) hmj
   rw[z]at this
   simp at this
  simp only[Value.isInt,beq_eq_false_iff_ne,ne_eq]
  first | exact zc | exact fun z=>zc z.symm
 ·have hm:y ∈ yF:=by simpa using hy
  obtain⟨m,EG,em⟩:=getElem_of_mem hm
  obtain⟨t',et⟩:=at_ m (by simpa using EG)
  have ey:y=Value.int (ns[m]'(by omega)) t':=by rw[← em];simpa using et
  subst ey
  intro prog w E Q' hQ'
  refine wpAny_eqBool_int ?_
  have:(ns[m]'(by omega) == k)=Value.isInt k (Value.int (ns[m]'(by omega)) t'):=by simp[Value.isInt,Bool.beq_comm]
  rw[this]
  exact hQ'
 ·exact⟨.int (ns.idxOf k:Nat),H,I.tok _,⟨_,rfl⟩,q⟩
noncomputable def IS (K:Frag):List V->Hp->VK->Prop:=fun xs H Q=>∃ (v:V)(t:Value)(c:String)(b:Bool),xs=[v, .ty c]/\ia K H v t/\kitOne K t (.type c)=some b/\Q (.bl b) H
theorem gr:c6 X (.builtin "isinstance") (IS X.K):=by
 intro pins s σ H xs us Q I r h
 obtain⟨v,t,c,b,rfl,ty,hk,q⟩:=h
 cases r with
 | cons r1 r2=>cases r2 with
  | cons r2 r3 =>
   cases r3
   cases r2
   exact qe I r1 ty hk fun tk=>⟨.bl b,H,I.tok _,rfl,q⟩
end
section
variable {κ:Type} [DecidableEq κ]
end
section
variable {P:Program}{w:World}{H:Hp}{h:Heap}{a:Addr}
end
section
variable {X:Cx}{pins:List (Addr × Obj)}{σ:St}{H:Hp}{s:Shared}{a:Addr}{y v:V}{u r:Value}{o:Option V}{A:Around}{E:Value->Shared->Prop}
end
section
variable {X:Cx}{pins:List (Addr × Obj)}{σ:St}{H:Hp}{s:Shared}{a:Addr}{yJ:List (jo × V)}{k:jo}{u:Value}{A:Around}{E:Value->Shared->Prop}
end
section
variable {X:Cx}{o i e value:Expr}{pos pos' C2:Pos}{td ty tv:TE}
end
section
variable {X:Cx}{pos:Pos}
end
section
variable {X:Cx}{pins:List (Addr × Obj)}{σ:St}{H:Hp}{s:Shared}{a:Addr}{y d:V}{u r:Value}{o:Option V}{A:Around}{E:Value->Shared->Prop}
end
section
variable {X:Cx}{o e f:Expr}{apos zJ:Pos}{td ty tx:TE}
end
section
variable {X:Cx}{pins:List (Addr × Obj)}{σ:St}{H:Hp}{s:Shared}{a:Addr}{yJ:List (jo × V)}{A:Around}{E:Value->Shared->Prop}
end
section
variable {X:Cx}{pins:List (Addr × Obj)}{σ:St}{H:Hp}{s:Shared}{a:Addr}{y:V}{u:Value}{A:Around}{E:Value->Shared->Prop}
end
section
variable {X:Cx}
end
section
variable {κ:Type} [DecidableEq κ]
end
theorem ow:∀ {xs:List V}{us:List Value},xs.length=us.length->(∀ (i:Nat)(x:V)(u:Value),xs[i]? = some x->us[i]? = some u->RelV x u)->Vals xs us:=by
 intro xs;induction xs with
 | nil=>intro us hl h;cases us with|nil=>exact .nil|cons=>cases hl
 | cons x xs ih=>intro us hl h;cases us with|nil=>cases hl|cons u us=>exact .cons (h 0 x u rfl rfl) (ih (by simpa using hl) fun i x u hx hu=>h (i + 1) x u hx hu)
section
variable {X:Cx}{tg:Expr}
end
noncomputable def eY (p:Addr)(j:Int):HO := .ext fun h=>∃ t u v,IsRange h p 0 j 1 t u v
section
variable {X:Cx}
theorem lZ:c6 X (.type "range") (fun xs H Q=>∃ j:Int,xs=[.int j]/\∀ p,H p=none->Q (.ref p) (upd H p (eY p j))):=by
 intro pins s σ H xs us Q I r h
 obtain⟨j,rfl,q⟩:=h
 obtain⟨u,rfl,ru⟩:=r.one
 obtain⟨t,rfl⟩:=ru
 refine call_range_1 ⟨.ref s.heap.objs.size,_,I.laid (a:=s.heap.objs.size) (o:=eY s.heap.objs.size j) (t':=s.toks + 1 + 1) (fun _ _ q=>Heap.get?_push_of_some _ q) (Nat.le_refl _) ?_,rfl,q _ (I.yL.fresh (Nat.le_refl _))⟩
 exact⟨⟨_,_,_,IsRange.new ..⟩,⟨_,Heap.get?_push_size _ rfl⟩,fun h1 h2 ⟨t,u,v,e⟩ st=>⟨t,u,v,st _ e⟩⟩
theorem jn (hc:X.calm=true):c6 X (.type "list") (fun xs H Q=>∃ (p:Addr)(n:Nat),xs=[.ref p]/\H p=some (eY p (n:Int))/\n <= 10000/\∀ l,H l=none->Q (.ref l) (upd H l (.lst ((List.range n).map fun k:Nat=>V.int (k:Int))))):=by
 intro pins s σ H xs us Q I r h
 obtain⟨p,n,rfl,hp,hn,q⟩:=h
 obtain⟨u,rfl,ru⟩:=r.one
 cases ru
 obtain⟨⟨t,u,v,hr⟩,_⟩:=I.yL _ _ hp
 refine call_list_range (n:=n) (I.ok.hd hc) hr (small_one (by omega) (by omega) (by omega) (by omega)) (by rw[rangeSize_one];split<;>omega) (by omega) fun h' tk acc c keep hl it=>?_
 have hv:Vals ((List.range n).map fun k:Nat=>V.int (k:Int)) acc.toList:=by
  refine ow (by rw[length_map,length_range];exact it.1.symm) fun i x u hx hu=>?_
  obtain⟨tk,rfl⟩:=it.2 i u (by simpa using hu)
  have hi:i < n:=by
   have:=(gQ0 hx)
   simpa using this
  rw[getElem?_map,List.getElem?_range hi]at hx
  have hx:V.int (i:Int)=x:=Option.some.inj hx
  subst hx
  exact⟨tk,by rw[mul_one,zero_add]⟩
 refine⟨.ref _,_,I.laid (a:=s.heap.objs.size) (o := .lst ((List.range n).map fun k:Nat=>V.int (k:Int))) (t':=tk) (fun b q hq=>keep b q hq) (Nat.le_refl _) ⟨by rw[length_map,length_range,sizeLine_eq];omega,acc.toList,c,hv,by simpa using hl⟩,rfl,q _ (I.yL.fresh (Nat.le_refl _))⟩
end
end L2
namespace L2
open PySem
section
variable {X:Cx}
noncomputable def qG (t:TS):TS:=fun D σ H=>∃ Ay:St->Hp->Prop,t { D with nx:=Ay } σ H/\∀ σ' H',Ay σ' H'->D.nx σ' H'
theorem oR {st:Stmt}{t:TS}(h:PS X st t):PS X st (qG t):=fun pins s σ H D I ⟨Ay,q,k⟩ =>
 bv (h pins s σ H _ I q) fun f s1 z=>by
  cases f with
  | next=>obtain⟨σ1,H1,I1,p⟩:=z;exact⟨σ1,H1,I1,k _ _ p⟩
  | brk=>exact z
  | cont=>exact z
  | ret u=>exact z
noncomputable def wA (t:TE):TE:=fun σ H Q=>∃ Ay:V->Hp->Prop,t σ H Ay/\∀ v H',Ay v H'->Q v H'
theorem oS {e:Expr}{t:TE}(h:PE X e t):PE X e (wA t):=fun pins s σ H Q I ⟨Ay,q,k⟩ =>
 bv (h pins s σ H _ I q) fun u s1 yD=>by obtain⟨v,H1,I1,r,p⟩:=yD;exact⟨v,H1,I1,r,k v H1 p⟩
noncomputable def w8 (t:TT):TT:=fun σ H Q=>∃ Ay:Bool->Hp->Prop,t σ H Ay/\∀ b H',Ay b H'->Q b H'
theorem jS {e:Expr}{t:TT}(h:PT X e t):PT X e (w8 t):=fun pins s σ H Q I ⟨Ay,q,k⟩ =>
 bv (h pins s σ H _ I q) fun b s1 yD=>by obtain⟨H1,I1,p⟩:=yD;exact⟨H1,I1,k b H1 p⟩
end
open PySem.Spec PyProof.Rows
theorem lK:∀ {ns:List Int}{us:List Value},Vals (ns.map V.int) us->IntsAre us ns
 | [],_, .nil => .nil
 | n :: ns,_, .cons r t=>by
  obtain⟨tk,e⟩:=(show ∃ t,_=Value.int n t from r)
  subst e
  exact .cons n tk (lK t)
theorem eJ {X:Cx}(hc:X.calm=true):c6 X (.builtin "sum") (fun xs H Q=>∃ (p:Addr)(ns:List Int),xs=[.ref p]/\yC X.K H p (ns.map V.int)/\Q (.int ns.sum) H):=by
 intro pins s σ H xs us Q I r h
 obtain⟨p,ns,rfl,hq,q⟩:=h
 obtain⟨u,rfl,rx⟩:=jq r
 cases rx
 obtain⟨yF,rv,pl,hz⟩:=I.list hq
 have hi:=lK rv
 obtain⟨xs,hx⟩:=hi.allInts.items
 have C4:s.heap.IsList p (intItems xs):=hx ▸ pl.isList
 refine sum_intListG (I.ok.hd hc) C4 fun h' tk t' hk=>?_
 have e1:ns=xs.toList.map (·.1):=by
  rw[← nums_intItems,← hx]
  exact(show numsOf yF.toArray.toList=ns from hi.numsOf).symm
 have e2:preSum (numAt xs) xs.size=ns.sum:=by
  rw[preSum_eq,take_of_length_le (by simp),e1]
 rw[e2]
 exact⟨.int ns.sum,H,I.kept hk,⟨_,rfl⟩,q⟩
structure C5 (K:Frag)(x qual:Str)(st:Stmt)(f:Addr)(fd:FuncData):Prop where
 ex:∃ (oc:Value)(od:Option Addr)(dV kV doc pm:Value)(an:Option Addr)(cdv ct:Value)(By:Array (Option Value)),
  fd=fnOf x qual (bN st) (aF st) (ah st) dV kV doc pm an cdv ct/\K.lookup f=some ⟨oc,od, .func fd,By⟩/\codeIn K cdv qual=true
 kp:keepIn K (.ref f)=true
section
variable {P:Program}{w:World}{K:Frag}{mg:Str->Option Value}{base:Heap}
theorem C5.ok {x qual:Str}{st:Stmt}{f:Addr}{fd:FuncData}{N ps:List Str}{k:Nat}{sp:Sp}(F:C5 K x qual st f fd)(S:ap N ps (ah st))(len:∀ vs H Q E,sp vs H Q E->vs.length=ps.length)
  (Ae:∀ (cdv:Value)(A:Around)(outer:List Env)(s:Shared)(H:Hp)(vs:List V)(Q:VK)(E:XK),yK k (A.deeper (envOfC qual (ah st) s.heap.objs.size f cdv))->sp vs H Q E ->
   ∃ t,AR (lR aC P w K mg base N qual (ah st) f cdv A outer s H E).EE (aF st) t/\t { nx:=fun _ H'=>Q .yQ H',rt:=Q } (start N vs) H):y9 P w K mg base aC (k + 1) f fd ps sp:=by
 obtain⟨oc,od,dV,kV,doc,pm,an,cdv,ct,By,rfl,lk,AS⟩:=F.ex
 refine tE lk AS S len fun A outer s H vs Q E hr BN=>?_
 obtain⟨t,h,q⟩:=Ae cdv A outer s H vs Q E hr BN
 exact⟨t,h.EE,q⟩
end
noncomputable def uC (K:Frag):R2:=fun x y H Q=>∃ (p:Addr)(vs:List V)(d:PyData)(ds:List PyData),y = .ref p/\kL K H x d/\yC K H p vs/\jh K H vs ds/\AN d 8/\(∀ z ∈ ds,AN z 8)/\Q (.bl (!(ds.any fun y=>PyData.eqv y d))) H
theorem pO {X:Cx}(hu:X.A.units + 64 < cLine):dQ X (compareOp .NotIn) (uC X.K):=by
 intro pins s σ H x y v u Q I rx ry h
 obtain⟨p,vs,d,ds,rfl,h1,h2,h3,s1,s2,q⟩:=h
 obtain⟨as,r1⟩:=I.den (.lst h2 h3) ry
 obtain⟨bs,r2⟩:=I.den h1 rx
 refine SeqAt.notIn_list_reads r1 r2 (jM s2).1 s1.1 ?_ ⟨.bl _,H,I,rfl,q⟩
 have:=s1.2
 have:=Nat.min_le_right (PyData.depthAll ds) d.depth
 omega
noncomputable def IT (K:Frag):R2:=fun x y H Q=>∃ a b xs ys,x = .ref a/\y = .ref b/\yN K H a xs/\yN K H b ys/\ys ≠ []/\xs.length + ys.length <= sizeLine /\
 (xs=[]->Q (.ref b) H)/\(xs ≠ []->∀ p,H p=none->Q (.ref p) (upd H p (.tup (xs ++ ys))))
theorem uL {X:Cx}:dQ X (binaryOp .Add) (IT X.K):=by
 intro pins s σ H x y v u Q I rx ry h
 obtain⟨a,b,xs,ys,rfl,rfl,ha,hb,hy,hz,q1,q2⟩:=h
 by_cases hx:xs=[]
 ·cases rx
  cases ry
  obtain⟨yF,r1,p1,_⟩:=I.tuple ha
  obtain⟨AV,r2,p2,_⟩:=I.tuple hb
  have e1:yF=[]:=r1.AB.mpr hx
  obtain⟨⟨cls,dd,data,sl⟩,ho,hc,n,hd⟩:=id p1
  obtain⟨⟨Oa,LO,data2,LP⟩,Aj,Az,n2,hd2⟩:=id p2
  simp only at hc hd Az hd2
  subst hc hd Az hd2
  exact concat_meets ⟨_,ho,rfl⟩ ⟨_,Aj,rfl⟩ noFill_tuple_add seq_tuple_add slot_tuple_add entry_tuple_add (args_tuple_add_2 _ _)
   (tuple_addW0 a b yF.toArray AV.toArray n n2 dd LO sl LP (by simp[e1])) ⟨ho,Aj,⟨.ref b,H,I,rfl,q1 hx⟩⟩
 ·exact uK pins s σ H _ _ v u Q I rx ry ⟨a,b,xs,ys,rfl,rfl,ha,hb,hx,hz,fun z=>absurd z hy,fun _=>q2 hx⟩
end L2
namespace L2
open PySem
theorem fN {M:Model} {Γ:Ctx} {env:Env} {b:List Stmt} {Q:Flow->Pos->Shared->Prop} {E:Value->Pos->Shared->Prop}:∀ {a:List Stmt}{p:Pos}{s:Shared},
  Sem.wp M Γ (execs a env) (fun f p' s'=>match f with | .next=>Sem.wp M Γ (execs b env) Q E p' s' | f=>Q f p' s') E p s->Sem.wp M Γ (execs (a ++ b) env) Q E p s
 | [],_,_,h=>h
 | st :: a,p,s,h=>by
  rw[execs_cons,Sem.wp_bind']at h
  rw[List.cons_append,execs_cons,Sem.wp_bind']
  refine Sem.wp_mono M Γ _ (fun f p' s' h'=>?_) (fun _ _ _ h'=>h') _ _ h
  cases f with
  | next=>exact fN (a:=a) h'
  | brk=>exact h'
  | cont=>exact h'
  | ret u=>exact h'
section
variable {X:Cx}
theorem uF {a b:List Stmt}{t u:TS}(h1:AR X a t)(h2:AR X b u):AR X (a ++ b) (w6 (qG t) u):=by
 intro pins s σ H D I h
 obtain⟨Ay,q,k⟩:=h
 intro Γ p hΓ
 refine fN ?_
 refine Sem.wp_mono _ Γ _ (fun f p' s' z=>?_) (fun _ _ _ z=>z) _ _ (h1 pins s σ H _ I q Γ p hΓ)
 cases f with
 | next=>obtain⟨σ1,H1,I1,z⟩:=z;exact h2 pins s' σ1 H1 D I1 (k _ _ z) Γ p' hΓ
 | brk=>exact z
 | cont=>exact z
 | ret u=>exact z
theorem lw {ss:List Stmt}{t u:TS}(n:Nat)(h1:AR X (ss.take n) t)(h2:AR X (ss.drop n) u):AR X ss (w6 (qG t) u):=by
 have h:=uF h1 h2
 rwa [List.take_append_drop]at h
end
open PySem.Spec PyProof.Rows
abbrev Cx.pinned (X:Cx)(q:List (Addr × Obj)):Cx:={ X with pn:=X.pn ++ q }
theorem Cx.Ok.pinned {X:Cx}(o:X.Ok)(q:List (Addr × Obj)):(X.pinned q).Ok:=⟨o.mod,o.kind,o.glob,o.blt,o.above,o.inj,o.has,o.EC,o.hd,o.frames,o.GZ,o.LB,o.bs,o.Cy,o.BJ,o.Cz,o.zO,o.CT⟩
theorem Cx.Ok.Dh {X:Cx}{q:List (Addr × Obj)}(o:(X.pinned q).Ok):X.Ok:=⟨o.mod,o.kind,o.glob,o.blt,o.above,o.inj,o.has,o.EC,o.hd,o.frames,o.GZ,o.LB,o.bs,o.Cy,o.BJ,o.Cz,o.zO,o.CT⟩
section
variable {X:Cx}{pins q:List (Addr × Obj)}{σ:St}{H:Hp}{s:Shared}
theorem Inv.O5 (I:Inv X (q ++ pins) σ H s):Inv (X.pinned q) pins σ H s :=
 ⟨I.ok.pinned q,I.os,I.bare,I.base,I.loc,I.cell,I.free,I.zk,fun p hp=>I.pin p (by rw[append_assoc]at hp;exact hp),I.yL,I.len⟩
theorem Inv.Dh (I:Inv (X.pinned q) pins σ H s):Inv X pins σ H s :=
 ⟨I.ok.Dh,I.os,I.bare,I.base,I.loc,I.cell,I.free,I.zk,fun p hp=>I.pin p (by
  rcases mem_append.mp hp with h | h
  ·exact mem_append_left _ (mem_append_left _ h)
  ·exact mem_append_right _ h),I.yL,I.len⟩
end
structure DI (mg:Str->Option Value)(base:Heap)(c P:Addr):Prop where
 bm:base.BuiltinsAt mg P
 cd:PySem.W.CodeHd base c P
 gP:mainGlobals ≠ P
noncomputable def ot (oc:Obj)(qual:Str):Prop:=∃ vs t,oc.data = .fields vs/\vs[1]? = some (.str qual t)
theorem DI.keep {mg:Str->Option Value}{base zh:Heap}{c P:Addr}(N:DI mg base c P)(k:∀ b o,base.get? b=some o->zh.get? b=some o):DI mg zh c P:=by
 obtain⟨bm,o,h1,h2,h3,h4,h5,h6⟩:=N.bm
 exact⟨⟨bm,o,h1,h2,h3,h4,k _ _ h5,h6⟩,N.cd.keeps k,N.gP⟩
structure LX (X:Cx)(cs:List (Nat × Str))(zt:List V)(zh:Heap):Prop where
 BI:X.K.In zh
 ns:zh.Ns mainGlobals X.mg
 base:∀ b o,X.base.get? b=some o->zh.get? b=some o
 pn:∀ p ∈ X.pn,zh.get? p.1=some p.2
 cell:Paired (fun (q:Nat × Str)(v:V)=>∃ c u,X.env.cells.lookup q.2=some c/\RelV v u/\zh.IsCell c (some u)) cs zt
 inj:∀ x y c,X.env.cells.lookup x=some c->X.env.cells.lookup y=some c->x=y
theorem lL {h base zh:Heap}:∀ {l:List Env},(∀ b ∈ kM l,zh.get? b=none)->h.FunFrames base l->h.FunFrames zh l
 | [],_,_=>trivial
 | env :: r,k,⟨hk,⟨L,o,hf,hn,ho,hd⟩,hr⟩=>⟨hk,⟨L,o,hf,k L (by unfold kM;rw[filterMap_cons,hf];exact mem_cons_self),ho,hd⟩,lL (fun b hb=>k b (by unfold kM;rw[filterMap_cons,hf];exact mem_cons_of_mem _ hb)) hr⟩
noncomputable def eH (X:Cx)(cs:List (Nat × Str))(b:Addr):Bool:=(X.base.get? b).isSome || (X.pn.map (·.1)).contains b || cs.any fun q=>X.env.cells.lookup q.2 == some b
noncomputable def iq (X:Cx)(cs:List (Nat × Str))(h:Heap):Heap:=PySem.W.hideAll h ((List.range h.objs.size).filter fun b=>!eH X cs b)
theorem kI {X:Cx}{cs:List (Nat × Str)}{h:Heap}{b:Addr}{o:Obj}(e:h.get? b=some o)(k:eH X cs b=true):(iq X cs h).get? b=some o :=
 PySem.W.hideAll_get _ e fun hm=>by
  have q:=(mem_filter.mp hm).2
  rw[k]at q;cases q
theorem sL {X:Cx}{cs:List (Nat × Str)}{h:Heap}{b:Addr}{o:Obj}(e:(iq X cs h).get? b=some o):h.get? b=some o/\eH X cs b=true:=by
 have e':h.get? b=some o:=PySem.W.of_hideAll _ e
 refine⟨e',?_⟩
 cases q:eH X cs b with
 | true=>rfl
 | false =>
  have hm:b ∈ (List.range h.objs.size).filter fun b=>!eH X cs b:=mem_filter.mpr ⟨mem_range.mpr (lt_size e'),by rw[q];rfl⟩
  have z:(iq X cs h).get? b=none:=PySem.W.hideAll_none _ hm
  rw[z]at e;cases e
theorem lI {X:Cx}{cs:List (Nat × Str)}{b:Addr}(h:eH X cs b=true):(∃ o,X.base.get? b=some o)∨(∃ p ∈ X.pn,p.1=b)∨∃ q ∈ cs,X.env.cells.lookup q.2=some b:=by
 unfold eH at h
 rcases (Bool.or_eq_true _ _).mp h with h | h
 ·rcases (Bool.or_eq_true _ _).mp h with h | h
  ·exact .inl (Option.isSome_iff_exists.mp h)
  ·obtain⟨p,hp,e⟩:=mem_map.mp (List.contains_iff_mem.mp h)
   exact .inr (.inl ⟨p,hp,e⟩)
 ·obtain⟨q,hq,e⟩:=any_eq_true.mp h
  exact .inr (.inr ⟨q,hq,eq_of_beq e⟩)
theorem yq {X:Cx}{pins:List (Addr × Obj)}{σ:St}{H:Hp}{s:Shared}{cs:List (Nat × Str)}{zt:List V}(I:Inv X pins σ H s)(EH:∀ q ∈ cs,X.N[q.1]? = some q.2/\X.env.scope.names.lookup q.2=some .cell/\X.fn q.2=true)
  (hv:Paired (fun (q:Nat × Str)(v:V)=>σ[q.1]? = some (some v)) cs zt):LX X cs zt (iq X cs s.heap)/\Bw X.prog X.w X.K X.mg (iq X cs s.heap) X.A X.stack s H:=by
 have kb:∀ b o,X.base.get? b=some o->(iq X cs s.heap).get? b=some o:=fun b o e=>kI (I.bk b o e) (by unfold eH;rw[e];rfl)
 have cell:∀ (LY:List (Nat × Str))(F9:List V),(∀ q ∈ LY,q ∈ cs)->Paired (fun (q:Nat × Str)(v:V)=>σ[q.1]? = some (some v)) LY F9 ->
   Paired (fun (q:Nat × Str)(v:V)=>∃ c u,X.env.cells.lookup q.2=some c/\RelV v u/\(iq X cs s.heap).IsCell c (some u)) LY F9:=by
  intro LY F9 hs hp
  induction hp with
  | nil=>exact .nil
  | @cons q v _ _ r _ ih =>
   refine .cons ?_ (ih fun q hq=>hs q (mem_cons_of_mem _ hq))
   have hq:=hs q mem_cons_self
   obtain⟨h1,h2,h3⟩:=EH q hq
   obtain⟨m,hn,hl⟩:=I.loc
   obtain⟨u,ru,l⟩:=hl q.1 q.2 v h1 r (.inr (.inl h2))
   rcases l with ⟨k,_⟩ | ⟨_,c,hc,o,ho,hd⟩
   ·have k:X.env.scope.names.lookup q.2=some .local:=k
    rw[h2]at k;cases k
   ·exact⟨c,u,hc,ru,o,kI ho (by
     unfold eH
     rw[show(cs.any fun q=>X.env.cells.lookup q.2 == some c)=true from any_eq_true.mpr ⟨q,hq,by rw[hc];simp⟩,Bool.or_true]),hd⟩
 have BI:=I.ok.mod.BI.keeps kb
 have ns:=I.ok.mod.glob.keeps kb
 have TH:∀ b,eH X cs b=true->H b=none/\b ∉ kM X.stack:=fun b hb=>by
  rcases lI hb with ⟨o,e⟩ | ⟨p,hp,rfl⟩ | ⟨q,hq,e⟩
  ·refine⟨(I.bs b o e).2,fun z=>?_⟩
   have:=(I.stack.mem z).1
   rw[e]at this;cases this
  ·obtain⟨_,n,nl,nf,_⟩:=I.pin p (mem_append_left _ hp)
   exact⟨n,fun z=>(mem_cons.mp (I.Am _ z)).elim nl nf⟩
  ·refine⟨I.zk _ _ e,fun z=>?_⟩
   rcases mem_cons.mp (I.Am _ z) with z | z
   ·exact I.DD _ _ e z
   ·obtain⟨_,o,ho,_⟩:=I.ok.zO.mem z
    exact absurd (lt_of_lt_of_le (lt_size ho) (I.ok.EC _ _ (EH q hq).2.2 e)) (lt_irrefl _)
 refine⟨⟨BI,ns,kb,fun p hp=>?_,cell cs zt (fun _ h=>h) hv,I.ok.inj⟩,I.ok.frames,⟨BI,ns,?_,I.ok.mod.nolimit.keeps kb⟩,fun b o e=>?_,?_,?_,I.Bh,I.yL,I.bare⟩
 ·refine kI (I.pin p (mem_append_left _ hp)).1 ?_
  unfold eH
  rw[show(X.pn.map (·.1)).contains p.1=true from List.contains_iff_mem.mpr (mem_map_of_mem hp),Bool.or_true,Bool.true_or]
 ·obtain⟨mb,h1,h2⟩:=I.ok.mod.blt
  exact⟨mb,h1.keeps kb,h2⟩
 ·obtain⟨e1,k⟩:=sL e
  exact⟨e1,(TH b k).1⟩
 ·exact le_of_eq (PySem.W.hideAll_size _ _)
 ·refine lL (fun b hb=>?_) I.stack
  cases q:(iq X cs s.heap).get? b with
  | none=>rfl
  | some o=>exact absurd hb (TH b (sL q).2).2
section
variable {X:Cx}{CX:mE}{k:Nat}{f:Addr}{fd:FuncData}{ps:List Str}{zS:List V}{ds:List Value}{E:XK}{x:Str}{p pos:Pos}{e:Expr}{es:List Expr}{t:TA}{cs:List (Nat × Str)}{sps:List V->Sp}
end
structure mB (N P fr:List Str)(sc:Scope):Prop where
 kind:sc.kind = .function
 co:sc.isCoroutine=false
 gen:sc.isGenerator=false
 nd:N.Nodup
 pre:N=P ++ fr
 par:∀ x ∈ P,sc.names.lookup x=some .local
 An:∀ y ∈ sc.names,y.2 ≠ .cell
 free:∀ x ∈ fr,sc.names.lookup x=some .free
 all:∀ y ∈ sc.names,y.2 = .free->y.1 ∈ fr
structure O6 (base:Heap)(clos:List (Str × Addr))(fr:List Str)(zt:List V):Prop where
 at':Paired (fun (x:Str)(v:V)=>∃ c u,clos.lookup x=some c/\RelV v u/\base.IsCell c (some u)) fr zt
 only:∀ x c,clos.lookup x=some c->x ∈ fr
 inj:∀ x y c,clos.lookup x=some c->clos.lookup y=some c->x=y
noncomputable def O7 (CX:mE)(P:Program)(w:World)(K:Frag)(mg:Str->Option Value)(base:Heap)(N:List Str)(qual:Str)(scope:Scope)(f:Addr)(cd:Value)(cl:List (Str × Addr))(A:Around)(outer:List Env)(s:Shared)(H:Hp)(E:XK):Cx where
 prog:=P
 w:=w
 K:=K
 mg:=mg
 base:=base
 A:=A.deeper (PySem.W.envX qual scope s.heap.objs.size f cd cl)
 N:=N
 s₀:=s
 H₀:=H
 env:=PySem.W.envX qual scope s.heap.objs.size f cd cl
 outer:=outer
 stack:=PySem.W.envX qual scope s.heap.objs.size f cd cl :: outer
 ex:=[]
 calm:=true
 fn:=fun _=>false
 pn:=[]
 xe:=fun e s'=>wpAny (model P w) (A.deeper (PySem.W.envX qual scope s.heap.objs.size f cd cl)) (leaving (PySem.W.envX qual scope s.heap.objs.size f cd cl) e) (fun _ Bx=>CX outer H s E e Bx) (fun e' Bx=>CX outer H s E e' Bx) s'
theorem nD {x:Str}{v:Value}:∀ {P:List Str}{us:List Value}{i:Nat},P.Nodup->P[i]? = some x->us[i]? = some v->(P.zip us).reverse.lookup x=some v:=by
 intro P us i nd h1 h2
 have hm:(x,v) ∈ (P.zip us).reverse:=mem_reverse.mpr (mem_of_getElem? (i:=i) (by rw[List.getElem?_zip_eq_some];exact⟨h1,h2⟩))
 have key:∀ (l:List (Str × Value)),(l.map (·.1)).Nodup->(x,v) ∈ l->l.lookup x=some v:=by
  intro l
  induction l with
  | nil=>intro _ h;cases h
  | cons p r ih =>
   intro hn hm
   obtain⟨y,z⟩:=p
   rw[map_cons,nodup_cons]at hn
   rw[lookup_cons]
   rcases mem_cons.mp hm with e | hm
   ·cases e;simp
   ·have:(x == y)=false:=by
     cases q:x == y with
     | false=>rfl
     | true=>exact absurd (mem_map_of_mem (f:=(·.1)) hm) (by rw[eq_of_beq q];exact hn.1)
    rw[this]
    exact ih hn.2 hm
 refine key _ ?_ hm
 have e:((P.zip us).map (·.1))=P.take us.length:=by
  have:∀ (P:List Str)(us:List Value),(P.zip us).map (·.1)=P.take us.length:=by
   intro P
   induction P with
   | nil=>intro us;simp
   | cons p r ih=>intro us;cases us with
    | nil=>rfl
    | cons u t=>simp[ih]
  exact this P us
 rw[List.map_reverse,e,List.nodup_iff_pairwise_ne,List.pairwise_reverse]
 exact(nd.sublist (List.take_sublist _ _)).imp fun h=>Ne.symm h
theorem LX.cap {X:Cx}{cs:List (Nat × Str)}{zt:List V}{zh:Heap}{clos:List (Str × Addr)}(B:LX X cs zt zh)(hc:cs.map (·.2)=clos.map (·.1))(hl:∀ q ∈ clos,X.env.cells.lookup q.1=some q.2):O6 zh clos (clos.map (·.1)) zt:=by
 have look:∀ (l:List (Str × Addr))(x:Str)(c:Addr),(∀ q ∈ l,X.env.cells.lookup q.1=some q.2)->l.lookup x=some c->X.env.cells.lookup x=some c/\x ∈ l.map (·.1):=by
  intro l
  induction l with
  | nil=>intro x c _ h;cases h
  | cons p r ih =>
   intro x c hl h
   rw[lookup_cons]at h
   cases q:x == p.1 with
   | true=>rw[q]at h;cases h;rw[eq_of_beq q];exact⟨hl p mem_cons_self,mem_cons_self⟩
   | false =>
    rw[q]at h
    obtain⟨a,b⟩:=ih x c (fun z hz=>hl z (mem_cons_of_mem _ hz)) h
    exact⟨a,mem_cons_of_mem _ b⟩
 have has:∀ (l:List (Str × Addr))(x:Str),x ∈ l.map (·.1)->∃ c,l.lookup x=some c:=by
  intro l
  induction l with
  | nil=>intro x h;cases h
  | cons p r ih =>
   intro x h
   rw[lookup_cons]
   cases q:x == p.1 with
   | true=>exact⟨_,rfl⟩
   | false =>
    rcases mem_cons.mp h with e | h
    ·rw[e]at q;simp at q
    ·exact ih x h
 refine⟨?_,fun x c h=>(look clos x c hl h).2,fun x y c h1 h2=>B.inj x y c (look clos x c hl h1).1 (look clos y c hl h2).1⟩
 rw[← hc]
 have hs:∀ q ∈ cs,q.2 ∈ clos.map (·.1):=fun q hq=>hc ▸ mem_map_of_mem hq
 have key:∀ (cs:List (Nat × Str))(zt:List V),(∀ q ∈ cs,q.2 ∈ clos.map (·.1))->Paired (fun (q:Nat × Str)(v:V)=>∃ c u,X.env.cells.lookup q.2=some c/\RelV v u/\zh.IsCell c (some u)) cs zt->Paired (fun (x:Str)(v:V)=>∃ c u,clos.lookup x=some c/\RelV v u/\zh.IsCell c (some u)) (cs.map (·.2)) zt:=by
  intro cs zt hs hp
  induction hp with
  | nil=>exact .nil
  | @cons q v _ _ r _ ih =>
   refine .cons ?_ (ih fun z hz=>hs z (mem_cons_of_mem _ hz))
   obtain⟨c,u,e,ru,z⟩:=r
   obtain⟨c2,e2⟩:=has clos q.2 (hs q mem_cons_self)
   have:=(look clos q.2 c2 hl e2).1
   rw[e]at this;cases this
   exact⟨c,u,e2,ru,z⟩
 exact key cs zt hs B.cell
theorem yY.okC {P:Program}{w:World}{K:Frag}{mg:Str->Option Value}{base:Heap}{x qual:Str}{st:Stmt}{f:Addr}{fd:FuncData}{N ps:List Str}{k:Nat}{sp:Sp}(F:yY K x qual st f fd)(S:ap N ps (ah st))(len:∀ vs H Q E,sp vs H Q E->vs.length=ps.length)
  (Ae:∀ (cdv:Value)(A:Around)(outer:List Env)(s:Shared)(H:Hp)(vs:List V)(Q:VK)(E:XK),fd.code=cdv->yK k (A.deeper (envOfC qual (ah st) s.heap.objs.size f cdv))->sp vs H Q E ->
   ∃ t,AR (lR aC P w K mg base N qual (ah st) f cdv A outer s H E).EE (aF st) t/\t { nx:=fun _ H'=>Q .yQ H',rt:=Q } (start N vs) H):y9 P w K mg base aC (k + 1) f fd ps sp:=by
 obtain⟨oc,od,kV,doc,pm,an,cdv,ct,By,rfl,lk,AS⟩:=F.ex
 refine tE lk AS S len fun A outer s H vs Q E hr BN=>?_
 obtain⟨t,h,q⟩:=Ae cdv A outer s H vs Q E rfl hr BN
 exact⟨t,h.EE,q⟩
theorem qc {P:Program}{w:World}{K:Frag}{mg mb:Str->Option Value}{CX:mE}{k:Nat}{fa a c Tb:Addr}{fd:FuncData}{x:Str}{sp:Sp}{s₁:Shared}{vs:List Value}{ns:List Int}{pT:Program}{loose:List Str}{mean:ExcName->Option Value}
  (T:PyProof.Rows.Top pT loose mean mg mb s₁.heap) (hT:PySem.W.CodeHd s₁.heap c Tb/\s₁.heap.get? Tb=some (PySem.W.tabObj #[])) (nK:PySem.W.noTabs K=true)
  (KX:K.In s₁.heap) (hg:s₁.gens = #[])
  (ha:s₁.heap.get? a=some { cls := .type "list",data := .seq vs.toArray }) (hi:IntsAre vs ns) (hl:ns.length <= sizeLine) (hr:yK k callerA)
  (F:∀ base:Heap,K.In base->base.Ns mainGlobals mg->DI mg base c Tb->y9 P w K mg base CX k fa fd [x] sp) (IU:∀ (s:Shared)(u:Value),BindsTo s fd ⟨[u],[]⟩ [(x,u)])
  (BN:∀ H:Hp,H Tb=some (.zI #[])->yC K H a (ns.map V.int)->sp [.ref a] H (fun v _=>v = .bl true) fun _ _ _=>False)
  (O8:∀ H e s',CX [] H s₁ (fun _ _ _=>False) e s'->False) :
  codeAny (model P w) callerA (.call (.ref fa) ⟨[.ref a],[]⟩) (fun r s'=>r = .ok (.ret (.bool true))/\OldK s₁.heap s'.heap/\s'.os=s₁.os/\AllBare s'.gens) s₁:=by
 have rv:=gF hi
 have O9:=hi.length
 obtain⟨hC,B6⟩:=hT
 have TK:a ≠ Tb:=fun e=>by rw[e,B6]at ha;cases ha
 have KT:K.lookup Tb=none:=by
  cases q:K.lookup Tb with
  | none=>rfl
  | some o =>
   have e:=KX _ _ q
   rw[B6]at e;cases e
   have h2:=all_eq_true.mp nK (Tb,_) (PySem.W.mem_of_lookupK q)
   exact absurd (show false=true from h2) Bool.false_ne_true
 have core:∀ H:Hp,H Tb=some (.zI #[])->(∀ b,b ≠ Tb->H b=none∨∃ o xs,H b=some (.Cf o (.lst xs)))->yC K H a (ns.map V.int)->Aq P w H s₁.heap->(∀ b,H b ≠ none->b=a∨b=Tb)->(H a ≠ none->K.lookup a=none) ->
   codeAny (model P w) callerA (.call (.ref fa) ⟨[.ref a],[]⟩) (fun r s'=>r = .ok (.ret (.bool true))/\OldK s₁.heap s'.heap/\s'.os=s₁.os/\AllBare s'.gens) s₁:=by
  intro H TL hO hS yL hA hK
  have base_of:∀ {b:Addr}{o:Obj},s₁.heap.get? b=some o->H b=none->(jk s₁.heap H).get? b=some o:=fun e n=>tu e n
  have TM:∀ {b:Addr}{o:Obj},s₁.heap.get? b=some o->o.cls ≠ .type "list"->o.cls ≠ .none->H b=none:=fun {b o} e d1 d2=>by
   cases q:H b with
   | none=>rfl
   | some u =>
    rcases hA b (by rw[q];simp) with z | z
    ·subst z;rw[ha]at e;cases e;exact absurd rfl d1
    ·subst z;rw[B6]at e;cases e;exact absurd rfl d2
  have DX:∀ {b:Addr}{o:Obj}{es:Array DictEntry}{ep:Nat},s₁.heap.get? b=some o->o.data = .dict es ep->H b=none:=fun {b o es ep} e d=>by
   cases q:H b with
   | none=>rfl
   | some u =>
    rcases hA b (by rw[q];simp) with z | z
    ·subst z;rw[ha]at e;cases e
     have d':Data.seq vs.toArray _=Data.dict es ep:=d
     cases d'
    ·subst z;rw[B6]at e;cases e;cases d
  have LZ:∀ {b:Addr}{m:Str->Option Value},s₁.heap.Ns b m->(jk s₁.heap H).Ns b m:=fun {b m} ⟨o,es,ep,e,d,r⟩=>⟨o,es,ep,base_of e (DX e d),d,r⟩
  have TN:K.In (jk s₁.heap H):=fun b o e=>base_of (KX b o e) (by
   cases q:H b with
   | none=>rfl
   | some u =>
    rcases hA b (by rw[q];simp) with z | z
    ·subst z;rw[hK (by rw[q];simp)]at e;cases e
    ·subst z;rw[KT]at e;cases e)
  have hM:Mod K mg (jk s₁.heap H):=⟨TN,LZ T.g,⟨mb,LZ T.b,T.builtins⟩,let ⟨mc,h1,h2⟩:=T.nolimit; ⟨mc,LZ h1,h2⟩⟩
  have hN:DI mg (jk s₁.heap H) c Tb:=by
   have gP:mainGlobals ≠ Tb:=fun q=>by
    obtain⟨o,es,ep,e,hd,_⟩:=T.g
    rw[q,B6]at e;cases e;cases hd
   obtain⟨bm,ob,b1,b2,b3,b4,b5,b6⟩:=T.bmain
   have TQ:ob.cls = .type "module":=b4
   refine⟨⟨bm,ob,b1,b2,fun q=>?_,fun q=>?_,base_of b3 (TM b3 (by rw[TQ];simp) (by rw[TQ];simp)),b4,b5,b6⟩,?_,gP⟩
   ·obtain⟨o,es,ep,e,hd,_⟩:=T.g
    rw[q,e]at b3;cases b3;rw[hd]at b6;cases b6
   ·rw[q,B6]at b3;cases b3;cases b4
   ·obtain⟨o,vs',file,tf,flags,tg,inF,text,tt,e1,e2,r⟩:=hC
    exact⟨o,vs',file,tf,flags,tg,inF,text,tt,base_of e1 (TM e1 (by rw[e2];simp) (by rw[e2];simp)),e2,r⟩
  have e0:Bw P w K mg (jk s₁.heap H) callerA [] s₁ H:=⟨rfl,hM,fun b o e=>vk e,le_of_eq (qg _ _),trivial,fun b hb=>absurd (show b ∈ ([]:List Addr) from hb) (by simp),yL, .of_eq hg⟩
  refine codeAny_mono ((F _ TN (LZ T.g) hN).run callerA [] s₁ H ⟨[.ref a],[]⟩ [.ref a] [.ref a] _ _ hr e0 (IU s₁ (.ref a)) (.cons rfl .nil) (BN H TL hS)) fun r s' h=>?_
  cases r with
  | error e=>exact(O8 H e s' h).elim
  | ok fl =>
   cases fl with
   | next=>exact False.elim h
   | brk=>exact False.elim h
   | cont=>exact False.elim h
   | ret u =>
    obtain⟨v,H',os,bare,un,IV,r',q⟩:=h
    have q':v = .bl true:=q
    subst q'
    obtain rfl:u=Value.bool true:=r'
    have keep:∀ b o,b ≠ Tb->s₁.heap.get? b=some o->s'.heap.get? b=some o:=fun b o nb e=>by
     cases q:H b with
     | none=>exact un.keep b o e q (by intro z;exact absurd (show b ∈ ([]:List Addr) from z) (by simp)) (by simp)
     | some u =>
      rcases hO b nb with z | ⟨ob,xs,z⟩
      ·rw[q]at z;cases z
      ·have z2:=un.AG b ob _ z
       obtain⟨e1,_⟩:=yL b _ z
       obtain⟨e2,_⟩:=IV b _ z2
       rw[e]at e1;cases e1
       exact e2
    obtain⟨more,hm⟩:=un.AH Tb _ TL
    have gm:s'.heap.get? Tb=some (PySem.W.tabObj (#[] ++ more)):=IV Tb _ hm
    refine⟨rfl,⟨fun b o e=>?_,fun b o e=>?_⟩,os,bare⟩
    ·by_cases hb:b=Tb
     ·subst hb;rw[B6]at e;cases e
      exact .inr (.inl ⟨(hC.tab B6).isCodeTable,rfl,#[],more,rfl,gm⟩)
     ·exact .inl (keep b o hb e)
    ·by_cases hb:b=Tb
     ·subst hb;exact⟨_,gm⟩
     ·exact⟨o,keep b o hb e⟩
 cases hk:K.lookup a with
 | some o =>
  have e:=KX a o hk
  rw[ha]at e
  cases e
  refine core (fun b=>if b=Tb then some (.zI #[]) else none) (if_pos rfl) (fun b nb => .inl (if_neg nb)) (.inr ⟨_,vs.toArray,_,hk,rfl,rfl,rfl,by rw[size_toArray,O9];exact hl,by simpa using rv⟩) (fun b u z=>?_) (fun b z=>?_) fun z=>absurd (if_neg TK) z
  ·by_cases hb:b=Tb
   ·have z':=(if_pos hb).symm.trans z
    cases z'
    subst hb
    exact B6
   ·have z':=(if_neg hb).symm.trans z
    cases z'
  ·by_cases hb:b=Tb
   ·exact .inr hb
   ·exact absurd (if_neg hb) z
 | none =>
  refine core (fun b=>if b=Tb then some (.zI #[]) else if b=a then some (.Cf { cls := .type "list",data := .seq vs.toArray } (.lst (ns.map V.int))) else none) (if_pos rfl) (fun b nb=>?_) (.inl (.inr ⟨{ cls := .type "list",data := .seq vs.toArray },(if_neg TK).trans (if_pos rfl)⟩)) (fun b u z=>?_) (fun b z=>?_) fun _=>hk
  ·by_cases hb:b=a
   ·exact .inr ⟨_,_,(if_neg nb).trans (if_pos hb)⟩
   ·exact .inl ((if_neg nb).trans (if_neg hb))
  ·by_cases hb:b=Tb
   ·have z':=(if_pos hb).symm.trans z
    cases z'
    subst hb
    exact B6
   ·have z:=(if_neg hb).symm.trans z
    by_cases hb:b=a
    ·have z':=(if_pos hb).symm.trans z
     cases z'
     subst hb
     exact⟨ha,by rw[length_map];exact hl,vs,_,rv,ha⟩
    ·have z':=(if_neg hb).symm.trans z
     cases z'
  ·by_cases hb:b=Tb
   ·exact .inr hb
   ·by_cases TU:b=a
    ·exact .inl TU
    ·exact absurd ((if_neg hb).trans (if_neg TU)) z
theorem wx {K:Frag}{x:Str}{f c Tb:Addr}{oc oT:Value}{od dT:Option Addr}{fd:FuncData}{By sT:Array (Option Value)}{vT:Array Value}(a:nsIn K mainGlobals x=some (some (.ref f)))(l:K.lookup f=some ⟨oc,od, .func fd,By⟩)(hc:fd.code = .ref c)(lc:K.lookup c=some ⟨oT,dT, .fields vT,sT⟩)(hv:vT[11]? = some (.ref Tb)) :
  PySem.W.tabIn K x=some (c,Tb):=by
 unfold PySem.W.tabIn
 rw[a];dsimp only;rw[l];dsimp only;rw[hc];dsimp only;rw[lc];dsimp only;rw[hv]
theorem Di {l:PySem.W.OpenLaw}{n k:Nat}{q:Program}{loose:List Str}{XP:(Str->Option Value)->Heap->Prop}{YP:World->Heap->Prop}{d dd:DefRec}{K:Params->Frag}{CX:World->mE}{sp:World->Addr->Sp}{x y:Str}
  (hn:l.most=some n) (CV:n <= sizeLine) (IA:d.params.defaults=[]) (hr:yK k callerA)
  (hY:∀ (w:World)(h:Heap),YP w h->(K w.params).In h) (Dj:(PyProof.Rows.recsOf q).find? (fun e=>e.name == y)=some dd) (DJ:∀ p,PySem.W.noTabs (K p)=true)
  (F:∀ (w:World)(mg:Str->Option Value)(fa:Addr)(h:Heap),(K w.params).In h->h.Ns mainGlobals mg->mg d.name=some (.ref fa) ->
   ∃ (fd:FuncData)(c Tb:Addr),PySem.W.tabIn (K w.params) y=some (c,Tb)/\(∀ (s:Shared)(u:Value),BindsTo s fd ⟨[u],[]⟩ [(x,u)]) /\
    ∀ base:Heap,(K w.params).In base->base.Ns mainGlobals mg->DI mg base c Tb->y9 l.prog w (K w.params) mg base (CX w) k fa fd [x] (sp w Tb))
  (BN:∀ (w:World)(H:Hp)(a:Addr)(ns:List Int)(Tb:Addr),ns.length <= n->H Tb=some (.zI #[])->yC (K w.params) H a (ns.map V.int)->sp w Tb [.ref a] H (fun v _=>v = .bl true) fun _ _ _=>False)
  (O8:∀ (w:World)(H:Hp)(s:Shared)(e:Value)(s':Shared),CX w [] H s (fun _ _ _=>False) e s'->False) :
  PySem.W.WalkO q loose XP YP l.row.toRowW d [] (fun f vs=>PySem.call f vs):=by
 refine T4.B1 hn IA fun w s₀ s₁ mg mb fa o pm cd doc a vs ns G Y ho hd AS hmg F2 hints hlen hg=>?_
 have KX:=hY w _ Y
 obtain⟨fd,c,Tb,OA,hb,hF⟩:=F w mg fa _ KX G.T.g hmg
 exact qc G.T (PySem.W.tab_of G.T KX Dj OA) (DJ _) KX hg F2 hints (le_trans hlen CV) hr hF hb (fun H hO hS=>BN w H a ns Tb hlen hO hS) fun H e s'=>O8 w H s₁ e s'
theorem xQ {CX:mE}{P:Program}{w:World}{K:Frag}{mg:Str->Option Value}{base:Heap}{k:Nat}{f c':Addr}{name qual:Str}{params:Arguments}{body:Expr}{scope:Scope}{clos:List (Str × Addr)}{pm Be:Value}{oc:Obj}
  {N ps fr:List Str} {zt:List V} {sp:Sp} (lk:base.get? f=some (PySem.W.kla_obj name qual params body scope clos pm c' Be)) (DF:base.get? c' = some oc) (AS:ot oc qual) (S:mB N ps fr scope) (C:O6 base clos fr zt)
  (len:∀ vs H Q E,sp vs H Q E->vs.length=ps.length)
  (Ae:∀ (A:Around)(outer:List Env)(s:Shared)(H:Hp)(vs:List V)(Q:VK)(E:XK),yK k (A.deeper (PySem.W.envX qual scope s.heap.objs.size f (.ref c') clos))->sp vs H Q E ->
   ∃ t,PE (O7 CX P w K mg base N qual scope f (.ref c') clos A outer s H E) body t/\t ((vs ++ zt).map some) H Q) :
  y9 P w K mg base CX (k + 1) f (PySem.W.kla_fn name qual params body scope clos pm (.ref c') Be) ps sp:=by
 refine⟨len,fun A outer s H args us vs Q E hr e0 hb r BN=>?_⟩
 have hl:=len _ _ _ _ BN
 have bk:∀ b o,base.get? b=some o->s.heap.get? b=some o:=fun b o e=>(e0.bs b o e).1
 have lim:s.heap.NoLimit:=e0.mod.nolimit.keeps bk
 obtain⟨vv,tq,hd,hv⟩:=AS
 have hlen:ps.length=us.length:=by rw[← hl];exact r.length
 refine PySem.W.kla_callFunE hr.depth (bk _ _ lk) rfl S.co S.gen rfl ⟨c',oc,vv,tq,rfl,bk _ _ DF,hd,hv⟩ (hb _ _ _ _ ?_)
 refine wpAny_newFunctionEnv S.An (fun y hy=>S.par y.1 (of_mem_zip (a:=y.1) (b:=y.2) hy).1) (fun h1 IE Dd=>⟨lim.fresh _ Dd,?_⟩) S.kind
 have hk:∀ b o,s.heap.get? b=some o->h1.get? b=some o:=fun b o e=>Dd.extBut b o (ne_of_lt (lt_size e)) (Heap.get?_push_of_some _ e)
 show codeAny _ _ (.expr body (PySem.W.envX qual scope s.heap.objs.size f (.ref c') clos)) _ _
 refine PySem.W.kla_codeExpr ?_
 obtain⟨t,ht,hq⟩:=Ae A outer s H vs Q E (hr.deeper _) BN
 have DX:∀ b:Addr,b ∉ (O7 CX P w K mg base N qual scope f (.ref c') clos A outer s H E).ex:=fun b z=>absurd (show b ∈ ([]:List Addr) from z) (by simp)
 have cellAt:∀ x c,clos.lookup x=some c->∃ (v:V)(u:Value)(i:Nat),fr[i]? = some x/\zt[i]? = some v/\RelV v u/\base.IsCell c (some u):=fun x c hx=>by
  obtain⟨i,hi,e⟩:=getElem_of_mem (C.only x c hx)
  have Hl:fr[i]? = some x:=by rw[getElem?_eq_getElem hi,e]
  have get:∀ (fr:List Str)(zt:List V)(i:Nat)(x:Str),Paired (fun (x:Str)(v:V)=>∃ c u,clos.lookup x=some c/\RelV v u/\base.IsCell c (some u)) fr zt->fr[i]? = some x->∃ v,zt[i]? = some v/\∃ c u,clos.lookup x=some c/\RelV v u/\base.IsCell c (some u):=by
   intro fr zt i x hp
   induction hp generalizing i with
   | nil=>intro e;simp at e
   | @cons a b _ _ r _ ih =>
    intro e
    cases i with
    | zero=>simp at e;subst e;exact⟨b,rfl,r⟩
    | succ i=>simpa using ih i (by simpa using e)
  obtain⟨v,hv,c2,u,h1,h2,h3⟩:=get fr zt i x C.at' Hl
  rw[hx]at h1;cases h1
  exact⟨v,u,i,Hl,hv,h2,h3⟩
 have BR:∀ c u,base.IsCell c (some u)->H c=none/\h1.IsCell c (some u):=fun c u yD=>by obtain⟨o,ho,hd⟩:=yD;exact⟨(e0.bs c o ho).2,o,hk _ _ (bk _ _ ho),hd⟩
 have I:Inv (O7 CX P w K mg base N qual scope f (.ref c') clos A outer s H E) [] ((vs ++ zt).map some) H { s with heap:=h1,toks:=s.toks + (ps.zip us).length }:=by
  refine⟨⟨e0.mod,S.kind,rfl,rfl,Nat.le_refl _,C.inj,fun y hy=>?_,fun y c h=>absurd h (by show ¬ (false=true);decide),fun _=>hr.hd,Around.frames_deeper e0.frames, .inr ⟨rfl,rfl⟩,fun b z=>absurd z (DX b),e0.bs,e0.Cy,fun b _ _=>DX b,fun b z=>absurd z (DX b),e0.zO,e0.CT⟩,
   rfl,e0.bare,Un.kept hk,⟨_,IE,fun i y v h1 h2 h3=>?_⟩,fun y c h=>?_,e0.yL.fresh (Nat.le_refl _),fun y c h=>?_,fun p hp=>absurd (show p ∈ ([]:List (Addr × Obj)) from hp) (by simp),e0.yL.kept hk,?_⟩
  ·have hy:scope.names.lookup y=some .cell∨scope.names.lookup y=some .free:=hy
   rcases hy with hy | hy
   ·exact absurd rfl (S.An _ (PySem.mem_of_lookup hy))
   ·have hm:=S.all _ (PySem.mem_of_lookup hy) rfl
    have:∀ (fr:List Str)(zt:List V),Paired (fun (x:Str)(v:V)=>∃ c u,clos.lookup x=some c/\RelV v u/\base.IsCell c (some u)) fr zt->y ∈ fr->∃ c,clos.lookup y=some c:=by
     intro fr zt hp
     induction hp with
     | nil=>intro h;cases h
     | cons r _ ih =>
      intro h
      rcases mem_cons.mp h with rfl | h
      ·obtain⟨c,_,e,_⟩:=r;exact⟨c,e⟩
      ·exact ih h
    exact this fr zt C.at' hm
  ·have h1:N[i]? = some y:=h1
   have h2:((vs ++ zt).map some)[i]? = some (some v):=h2
   rw[getElem?_map]at h2
   have h2:(vs ++ zt)[i]? = some v:=by
    cases q:(vs ++ zt)[i]? with
    | none=>rw[q]at h2;cases h2
    | some z=>rw[q]at h2;cases h2;rfl
   rw[S.pre]at h1
   by_cases hi:i < vs.length
   ·rw[getElem?_append_left hi]at h2
    rw[getElem?_append_left (by omega)]at h1
    obtain⟨u,hu,rv⟩:=r.get h2
    have LN:ps.Nodup:=(nodup_append.mp (S.pre ▸ S.nd)).1
    exact⟨u,rv, .inl ⟨S.par y (mem_of_getElem? h1),nD LN h1 hu⟩⟩
   ·rw[getElem?_append_right (by omega)]at h2
    rw[getElem?_append_right (by omega),← hl]at h1
    have hyf:=mem_of_getElem? h1
    have:∀ (fr:List Str)(zt:List V)(j:Nat),Paired (fun (x:Str)(v:V)=>∃ c u,clos.lookup x=some c/\RelV v u/\base.IsCell c (some u)) fr zt->fr[j]? = some y->zt[j]? = some v->∃ c u,clos.lookup y=some c/\RelV v u/\base.IsCell c (some u):=by
     intro fr zt j hp
     induction hp generalizing j with
     | nil=>intro e;simp at e
     | cons r _ ih =>
      intro e1 e2
      cases j with
      | zero=>simp at e1 e2;subst e1;subst e2;exact r
      | succ j=>exact ih j (by simpa using e1) (by simpa using e2)
    obtain⟨c,u,hc,ru,Ba⟩:=this fr zt _ C.at' h1 h2
    exact⟨u,ru, .inr ⟨.inr (S.free y hyf),c,hc,(BR c u Ba).2⟩⟩
  ·obtain⟨v,u,i,_,_,_,h4⟩:=cellAt y c h
   exact⟨_,(BR c u h4).2⟩
  ·obtain⟨v,u,i,_,_,_,h4⟩:=cellAt y c h
   exact(BR c u h4).1
  ·show((vs ++ zt).map some).length=N.length
   rw[length_map,length_append,S.pre,length_append,hl,Paired.length C.at']
 exact wpAny_mono (ht [] _ _ H Q I hq) (fun u s' yD=>by obtain⟨v,H',J,rv,q⟩:=yD;exact⟨v,H',J.os,J.bare,J.base,J.yL,rv,q⟩) fun e s' hs=>hs
theorem lX {prog:Program}{w:World}{A:Around}{E:Value->Shared->Prop}{s:Shared}{r:Addr}{n:Nat}{t u v:Tok}{Q:List Value->Shared->Prop}(hh:A.handled=none)(hr:IsRange s.heap r 0 (n:Int) 1 t u v)(hl:n < 64)
  (h:∀ h' tk (acc:Array Value),(∀ b o,s.heap.get? b=some o->h'.get? b=some o)->ItemsOf (fun i v=>∃ t,v = .int (0 + i * 1) t) acc n->Q acc.toList { s with heap:=h',toks:=tk }) :
  wpAny (model prog w) A (collect (.ref r)) Q E s:=by
 unfold collect
 refine wpAny_bind (wpAny_runValue (codeAny_builtin F.entry_proto_collect ?_))
 rw[Around.under_plainId F.plain_proto_collect _]
 show wpAny _ A.in1 (newList [] >>= fun l=>again (.builtin "list.__iadd__" ⟨[l, .ref r],[]⟩)) _ _ s
 refine wpAny_bind (wpAny_newObj_type ?_)
 refine wpAny_pure ⟨plainId_quiet F.plain_list_iadd _,codeAny_builtin F.entry_list_iadd ?_⟩
 rw[Around.under_plainId F.plain_list_iadd _]
 show wpAny _ A.in1 (Builtin.List.listExtendWith (.ref s.heap.objs.size) (.ref r) (.ref s.heap.objs.size)) _ _ _
 have fin:∀ (h':Heap)(tk:Nat)(acc:Array Value)(c':Nat),(∀ b o,b ≠ s.heap.objs.size->(s.heap.push { cls := .type "list",data := .seq #[] }).get? b=some o->h'.get? b=some o)->h'.get? s.heap.objs.size=some { cls := .type "list",dict:=none,data := .seq acc c',slots:=#[] }->ItemsOf (fun i v=>∃ t,v = .int (0 + i * 1) t) acc n ->
   wpAny (model prog w) A (load s.heap.objs.size >>= fun o=>match o.data with | .seq xs _=>pure xs.toList | _=>unsupported "internal:collect") Q E { s with heap:=h',toks:=tk }:=fun h' tk acc c' keep hS it =>
  wpAny_bind (wpAny_load hS (wpAny_pure (h h' tk acc (fun b o e=>keep b o (ne_of_lt (lt_size e)) (Heap.get?_push_of_some _ e)) it)))
 refine wpAny_mono (wpAny_extend_range (s:={ s with heap:=s.heap.push { cls := .type "list",data := .seq #[] } }) (R:=fun r s'=>∃ h' tk acc c',r = .ok (.ret (.ref s.heap.objs.size))/\s' = { s with heap:=h',toks:=tk }/\(∀ b o,b ≠ s.heap.objs.size->(s.heap.push { cls := .type "list",data := .seq #[] }).get? b=some o->h'.get? b=some o)/\h'.get? s.heap.objs.size=some { cls := .type "list",dict:=none,data := .seq acc c',slots:=#[] }/\ItemsOf (fun i v=>∃ t,v = .int (0 + i * 1) t) acc n)
  (r:=r) (a:=0) (b:=(n:Int)) (c:=1) (n:=n) hh (Heap.get?_push_of_some _ hr) (small_one (by omega) (by omega) (by omega) (by omega)) (by rw[rangeSize_one];split<;>omega) (by omega) s.heap.objs.size (.ref s.heap.objs.size) 0 (Heap.get?_push_size _ rfl) fun h' tk acc c' keep hS it=>⟨h',tk,acc,c',rfl,rfl,keep,hS,it⟩) (fun fi s' hf=>?_) fun e s' yD=>by obtain⟨_,_,_,_,z,_⟩:=yD;cases z
 cases fi with
 | done f =>
  obtain⟨h',tk,acc,c',z,rfl,keep,hS,it⟩:=hf
  cases z
  exact fin h' tk acc c' keep hS it
 | again c' =>
  refine⟨hf.1,codeAny_mono hf.2 fun r s' ⟨h',tk,acc,c',z,e,keep,hS,it⟩=>?_⟩
  subst z e
  exact fin h' tk acc c' keep hS it
structure y4 (X:Cx)(pins:List (Addr × Obj))(b:Addr):Prop where
 h0:X.s₀.heap.objs.size <= b
 hL:b ≠ X.env.locals
 hc:∀ x c,X.env.cells.lookup x=some c->c ≠ b
 hp:∀ p ∈ X.pn ++ pins,p.1 ≠ b
 hf:b ∉ X.fs
section
variable {X:Cx}{pins:List (Addr × Obj)}{σ:St}{H:Hp}{s:Shared}{a b:Addr}
theorem Inv.TV (I:Inv X pins σ H s)(h:s.heap.objs.size <= b):y4 X pins b :=
 ⟨le_trans I.sz h,ne_of_gt (lt_of_lt_of_le I.lt h),fun x c e z=>by
  obtain⟨v,o,ho,_⟩:=I.cell x c e
  exact lt_irrefl _ (lt_of_lt_of_le (lt_size ho) (z ▸ h)),fun p hp z=>lt_irrefl _ (lt_of_lt_of_le (lt_size (I.pin p hp).1) (z ▸ h)),I.DU h⟩
theorem Inv.IW {o:HO}(I:Inv X pins σ H s)(hn:H a=none)(F:y4 X pins a)(new:zd X.prog X.w (upd H a o) s.heap a o):Inv X pins σ (upd H a o) s:=by
 have ne:∀ b u,H b=some u->b ≠ a:=fun b u e z=>by rw[z,hn]at e;cases e
 refine⟨I.ok,I.os,I.bare,⟨I.base.keep,I.base.slot,fun b ob e n x=>?_,I.base.there,fun b xs e=>?_,fun b ob u e=>?_,fun b ps e=>?_⟩,I.loc,I.cell,by rw[af (Ne.symm F.hL)];exact I.free,fun x c e=>by rw[af (F.hc x c e)];exact I.zk x c e,fun p hp=>?_,fun b u e=>?_,I.len⟩
 ·rw[af (ne_of_lt (lt_of_lt_of_le (lt_size e) F.h0))];exact I.base.free b ob e n x
 ·have:=I.base.AQ b xs e;rw[af (ne _ _ this)];exact this
 ·have:=I.base.AG b ob u e;rw[af (ne _ _ this)];exact this
 ·obtain⟨m,this⟩:=I.base.AH b ps e;exact⟨m,by rw[af (ne _ _ this)];exact this⟩
 ·obtain⟨h1,h2,h3⟩:=I.pin p hp
  exact⟨h1,by rw[af (F.hp p hp)];exact h2,h3⟩
 ·by_cases z:b=a
  ·subst z;rw[ad]at e;cases e;exact new
  ·rw[af z]at e
   exact(I.yL b u e).zX (fun _ _ _ q=>q) (fun d g=>by rw[af (ne _ _ g)];exact g) fun d xs g=>by rw[af (ne _ _ g)];exact g
theorem Inv.alter {h':Heap}(I:Inv X pins σ H s)(k:∀ b o,b ≠ a->s.heap.get? b=some o->h'.get? b=some o)(hn:H a=none)(F:y4 X pins a):Inv X pins σ H { s with heap:=h' } :=
 I.turned (t':=s.toks) k hn F.hL (.inr F.h0) F.hc F.hp
end
section
variable {prog:Program}{w:World}{A:Around}{E:Value->Shared->Prop}{s:Shared}{a kS:Addr}{vs:List Value}{kz:List Int}{keys:Array Value}{e e1:Nat}{P:PySem.Fin->Shared->Prop}
theorem kR {st:SortSt}(nk:s.heap.get? kS=some (seqObj "list" keys e))(na:s.heap.get? a=some (seqObj "list" #[] e1))(EI:kS ≠ a)
  (hk:IntsAre keys.toList kz) (hlen:kz.length=vs.length) (h64:vs.length < 64) (hp:(arrOf st).Perm (keys.zip vs.toArray)) (hs:SortedTo (arrOf st) (arrOf st).size) (IX:failedOf st=none)
  (h:∀ out:Array Value,out.size=vs.length->KskOut false kz vs out.toList->P (.done (.ret .none)) { s with heap:=(s.heap.update kS (Obj.mapSeq fun _=>(#[]:Array Value))).update a (Obj.mapSeq fun _=>out) }) :
  wpAny (model prog w) A (ksk_tail a false e1 (.ref kS) st) P E s:=by
 have hsz:keys.size=vs.length:=by
  have h1:=hk.length
  rw[Array.length_toList]at h1
  omega
 have IY:((arrOf st).map (·.2)).size=vs.length:=by rw[Array.size_map,hp.size_eq,Array.size_zip,hsz,size_toArray,Nat.min_self]
 have Mb:(s.heap.update kS (Obj.mapSeq fun _=>(#[]:Array Value))).get? a=some (seqObj "list" #[] e1):=((Heap.SameBut.update s.heap kS (Obj.mapSeq fun _=>(#[]:Array Value))).2 a EI.symm).trans na
 have ko:=ksk_out (b:=false) hk hp hs
 simp only[Bool.false_eq_true,if_false]at ko
 unfold ksk_tail
 try dsimp only
 simp only[Bool.false_eq_true,if_false]
 refine wpAny_bind (listUpdate_at nk rfl ?_ (by rw[hsz,sizeLine_eq];omega) (zero_le _))
 refine wpAny_bind (wpAny_letGo ?_)
 refine wpAny_bind (seqEpoch_at Mb rfl ?_)
 refine wpAny_bind (listUpdate_at Mb rfl ?_ (zero_le _) (le_trans (le_of_eq IY) (by rw[sizeLine_eq];omega)))
 rw[IX]
 simp only[bne_self_eq_false,Bool.false_eq_true,if_false]
 exact wpAny_pure (h _ IY ko)
theorem ul (nk:s.heap.get? kS=some (seqObj "list" keys e))(na:s.heap.get? a=some (seqObj "list" #[] e1))(EI:kS ≠ a)
  (hk:IntsAre keys.toList kz) (hlen:kz.length=vs.length) (h64:vs.length < 64)
  (h:∀ out:Array Value,out.size=vs.length->KskOut false kz vs out.toList->P (.done (.ret .none)) { s with heap:=(s.heap.update kS (Obj.mapSeq fun _=>(#[]:Array Value))).update a (Obj.mapSeq fun _=>out) }) :
  wpAny (model prog w) A (ksk_end a false vs.toArray e1 (.ref kS) keys) P E s:=by
 have hsz:keys.size=vs.length:=by
  have h1:=hk.length
  rw[Array.length_toList]at h1
  omega
 have OB:(keys.zip vs.toArray).size=vs.length:=by rw[Array.size_zip,hsz,size_toArray,Nat.min_self]
 unfold ksk_end
 try dsimp only
 simp only[Bool.false_eq_true,if_false]
 by_cases h2:vs.toArray.size < 2
 ·rw[if_pos h2,if_pos h2]
  refine wpAny_bind (wpAny_pure ?_)
  rw[StateT.run_pure]
  refine wpAny_bind (wpAny_pure ?_)
  try dsimp only
  refine kR (st:=SortSt.mk' general' (keys.zip vs.toArray) #[] 7 none) nk na EI hk hlen h64 (Array.Perm.refl _) ?_ rfl h
  intro i j hij hj
  have OC:j < (keys.zip vs.toArray).size:=hj
  rw[OB]at OC
  rw[size_toArray]at h2
  have:i=j:=by omega
  subst this
  exact Int.le_refl _
 ·rw[if_neg h2,if_neg h2]
  rw[size_toArray]at h2
  rw[ksk_kind hk (by rw[hsz];omega)]
  refine wpAny_bind (wpAny_pure ?_)
  refine wpAny_bind (wpAny_mono (wpS_sortRuns (a₀:=keys.zip vs.toArray) (st:=SortSt.mk' oneType' (keys.zip vs.toArray) #[] 7 none)
   (Q:=fun _ Ci=>(arrOf Ci).Perm (keys.zip vs.toArray)/\failedOf Ci = none/\SortedTo (arrOf Ci) (keys.zip vs.toArray).size)
   (ksk_intKeys hk) ⟨Array.Perm.refl _,rfl,rfl,rfl⟩ (by rw[OB];omega) (by rw[OB];exact h64) fun Ci a1 a2 a3=>⟨a1,a2,a3⟩) ?_ fun _ _ e=>e)
  rintro⟨⟨⟩,Ci⟩ s' ⟨rfl,hp,hf,hs⟩
  try dsimp only
  exact kR nk na EI hk hlen h64 hp (by rw[hp.size_eq];exact hs) hf h
end
section
variable {X:Cx}{pins:List (Addr × Obj)}{σ:St}{H:Hp}{s:Shared}{A:Around}{E:Value->Shared->Prop}{a kS:Addr}{vs:List Value}{kz:List Int}{e1:Nat}{P:PySem.Fin->Shared->Prop}{f:Value}
theorem qL (I:Inv X ((kS,seqObj "list" #[] 0) :: (a,seqObj "list" #[] e1) :: pins) σ H s)(EI:kS ≠ a)(Fk:y4 X pins kS)(Fa:y4 X pins a)(hlen:kz.length=vs.length)(h64:vs.length < 64)
  (turn:∀ (i:Nat)(v:Value)(k:Int),vs[i]? = some v->kz[i]? = some k->∀ (pins':List (Addr × Obj))(s':Shared),Inv X pins' σ H s'->wpAny (model X.prog X.w) A (call f [v]) (fun u Bx=>(∃ t,u = .int k t)/\Inv X pins' σ H Bx) (fun _ _=>False) s')
  (h:∀ (out:List Value)(s':Shared),KskOut false kz vs out->(∀ xs,Vals xs out->xs.length < 64->Inv X pins σ (upd H a (.lst xs)) s')->P (.done (.ret .none)) s') :
  wpAny (model X.prog X.w) A (ksk_rest a f false vs.toArray e1 (.ref kS)) P E s:=by
 unfold ksk_rest
 refine wpAny_bind (wpAny_rule ?_)
 first
  | rw[List.forIn_toArray]
  | (rw[← Array.forIn_toList];simp only[List.toList_toArray])
  | rw[← Array.forIn_toList]
 refine wpAny_bind (ksk_fold (fun i s'=>∃ (kA:Array Value)(e:Nat),Inv X ((kS,seqObj "list" kA e) :: (a,seqObj "list" #[] e1) :: pins) σ H s'/\IntsAre kA.toList (kz.take i)) vs 0 s
  ⟨#[],0,I,by simpa using IntsAre.nil⟩ ?step ?done)
 case step =>
  rintro j x s' hx ⟨kA,e,I',hk⟩
  simp only[Nat.zero_add]at hk ⊢
  have hj:j < vs.length:=(gQ0 hx)
  obtain⟨k,TX⟩:∃ k,kz[j]? = some k:=⟨_,getElem?_eq_getElem (by omega)⟩
  have hz:kA.size <= vs.length:=by
   have h1:=hk.length
   rw[Array.length_toList,length_take]at h1
   omega
  refine wpAny_bind (wpAny_attempt (wpAny_mono (turn j x k hx TX _ s' I') (fun v Bx he=>?_) fun _ _ hF=>hF.elim))
  obtain⟨⟨t2,rfl⟩,I2⟩:=he
  try dsimp only
  obtain⟨nk,hn,hL,hf,_⟩:=I2.pin (kS,seqObj "list" kA e) (mem_append_right _ (.head _))
  have ek:kz.take (j + 1)=kz.take j ++ [k]:=by rw[List.take_add_one,TX];simp
  have ea:(kA.push (Value.int k t2)).toList=kA.toList ++ [Value.int k t2]:=by simp
  obtain⟨c2,Az⟩:∃ c2,(Bx.heap.update kS (Obj.mapSeq (·.push (.int k t2)))).get? kS=some (seqObj "list" (kA.push (.int k t2)) c2):=⟨_,get?_update_seq nk (·.push (.int k t2))⟩
  refine wpAny_bind (listUpdate_at nk rfl ?_ (by rw[sizeLine_eq];omega) (le_trans (le_of_eq (Array.size_push ..)) (by rw[sizeLine_eq];omega)))
  have I3:Inv X ((a,seqObj "list" #[] e1) :: pins) σ H Bx:=I2.zi fun p hp=>I2.pin p (mem_append_right _ (.tail _ hp))
  have I4:=I3.alter (h':=Bx.heap.update kS (Obj.mapSeq (·.push (.int k t2)))) (fun b o hb q=>by rw[Heap.get?_update_ne _ _ _ _ hb];exact q) hn ⟨Fk.h0,Fk.hL,Fk.hc,fun p hp=>(by
   rcases mem_append.mp hp with hp | hp
   ·exact Fk.hp p (mem_append_left _ hp)
   ·rcases mem_cons.mp hp with rfl | hp
    ·exact Ne.symm EI
    ·exact Fk.hp p (mem_append_right _ hp)),Fk.hf⟩
  refine wpAny_pure ⟨rfl,kA.push (.int k t2),c2,I4.zi fun p hp=>?_,by rw[ea,ek];exact ksk_snoc hk⟩
  rcases mem_cons.mp hp with rfl | hp
  ·exact⟨Az,hn,hL,hf,by intro v z;cases z⟩
  ·exact I4.pin p (mem_append_right _ hp)
 case done =>
  rintro s' ⟨kA,e,I',hk⟩
  have TY:IntsAre kA.toList kz:=by
   have e3:kz.take (0 + vs.length)=kz:=take_of_length_le (by omega)
   rw[e3]at hk
   exact hk
  obtain⟨nk,OD,_⟩:=I'.pin (kS,seqObj "list" kA e) (mem_append_right _ (.head _))
  obtain⟨na,Hm,_⟩:=I'.pin (a,seqObj "list" #[] e1) (mem_append_right _ (.tail _ (.head _)))
  try dsimp only
  refine wpAny_bind (listItems_at nk rfl ?_)
  refine ul nk na EI TY hlen h64 fun out hsz ko=>h out.toList _ ko fun xs hx h64'=>?_
  have I3:Inv X pins σ H s':=I'.zi fun p hp=>I'.pin p (mem_append_right _ (.tail _ (.tail _ hp)))
  have I4:=I3.alter (h':=s'.heap.update kS (Obj.mapSeq fun _=>(#[]:Array Value))) (fun b o hb q=>by rw[Heap.get?_update_ne _ _ _ _ hb];exact q) OD Fk
  have Mb:(s'.heap.update kS (Obj.mapSeq fun _=>(#[]:Array Value))).get? a=some (seqObj "list" #[] e1):=by rw[Heap.get?_update_ne _ _ _ _ (Ne.symm EI)];exact na
  have I5:=I4.alter (h':=(s'.heap.update kS (Obj.mapSeq fun _=>(#[]:Array Value))).update a (Obj.mapSeq fun _=>out)) (fun b o hb q=>by rw[Heap.get?_update_ne _ _ _ _ hb];exact q) Hm Fa
  obtain⟨c2,Az⟩:∃ c2,((s'.heap.update kS (Obj.mapSeq fun _=>(#[]:Array Value))).update a (Obj.mapSeq fun _=>out)).get? a=some (seqObj "list" out c2):=⟨_,get?_update_seq Mb fun _=>out⟩
  exact I5.IW Hm Fa ⟨by rw[sizeLine_eq];omega,out.toList,c2,hx,by simpa using Az⟩
theorem qM {p:Addr}{fa:Addr}{n:Nat}{g:Int->Int}{Q:VK}(hc:X.calm=true)(I:Inv X pins σ H s)(hp:H p=some (eY p (n:Int)))(hn:n < 64)
  (turn:∀ (i:Nat)(t:Tok)(pins':List (Addr × Obj))(s':Shared),i < n->Inv X pins' σ H s'->wpAny (model X.prog X.w) X.A.in1.in1 (call (.ref fa) [.int (i:Int) t]) (fun u Bx=>(∃ t',u = .int (g i) t')/\Inv X pins' σ H Bx) (fun _ _=>False) s')
  (q:∀ (l:Addr)(ns:List Int),H l=none->ns.Perm ((List.range n).map fun i:Nat=>(i:Int))->ns.Pairwise (fun x y=>g x <= g y)->Q (.ref l) (upd H l (.lst (ns.map V.int)))) :
  wpAny (model X.prog X.w) X.A (call (.builtin "sorted") [.ref p] [(Str.ofString "key", .ref fa)]) (EP X pins σ Q) X.xe s:=by
 obtain⟨t,u,v,hr⟩:∃ t u v,IsRange s.heap p 0 (n:Int) 1 t u v:=(I.yL _ _ hp).1
 refine call_function_entry_kw kind_sorted plain_sorted entry_sorted (ksk_s1 _ _) ?_
 unfold Builtin.«sorted»
 refine wpAny_bind (m:=checkCount "sorted" 1 1 _) (wpAny_pure ?_)
 refine wpAny_bind (lX (I.ok.hd hc) hr hn fun h1 tk acc k1 it=>?_)
 have I1:Inv X pins σ H { s with heap:=h1,toks:=tk }:=I.kept k1
 have Bf:acc.toList.length=n:=by rw[Array.length_toList];exact it.1
 have Hn:∀ (i:Nat)(x:Value),acc.toList[i]? = some x->i < n/\∃ t,x = .int (i:Int) t:=fun i x hx=>by
  have hi:i < n:=by have:=(gQ0 hx);omega
  obtain⟨tk,rfl⟩:=it.2 i x (by simpa using hx)
  exact⟨hi,tk,by rw[mul_one,zero_add]⟩
 have Mc:IntsAre acc.toList ((List.range n).map fun i:Nat=>(i:Int)):=by
  have e:acc.toList.map numOf=(List.range n).map fun i:Nat=>(i:Int):=by
   refine ext_getElem (by rw[length_map,length_map,length_range];exact Bf) fun i h1 h2=>?_
   rw[length_map]at h1
   obtain⟨_,t,e⟩:=Hn i _ (getElem?_eq_getElem h1)
   rw[getElem_map,getElem_map,List.getElem_range,e];rfl
  rw[← e]
  refine intsAre_map _ fun v hv=>?_
  obtain⟨i,hi,rfl⟩:=getElem_of_mem hv
  obtain⟨_,t,e⟩:=Hn i _ (getElem?_eq_getElem hi)
  exact⟨_,_,e⟩
 generalize AI:acc.toList=vs at Bf Hn Mc
 refine wpAny_bind (wpAny_newList ?_ (by rw[Bf,sizeLine_eq];omega))
 have He:(h1.push (seqObj "list" vs.toArray 0)).get? h1.objs.size=some (seqObj "list" vs.toArray 0):=Heap.get?_push_size _ rfl
 refine wpAny_bind (wpAny_holding (wpAny_call_entry_kw slot_list_sort ⟨_,He,rfl⟩ entry_list_sort ?body (ksk_l1 _ _)))
 case body =>
  show wpAny (model X.prog X.w) X.A.in1.in1 (Builtin.«list.sort» ⟨[.ref h1.objs.size],[(Str.ofString "key", .ref fa)]⟩) _ _ _
  rw[ksk_t1]
  have I2:Inv X pins σ H { s with heap:=h1.push (seqObj "list" vs.toArray 0),toks:=tk }:=I1.kept fun b o e=>Heap.get?_push_of_some _ e
  have Fa:y4 X pins h1.objs.size:=I1.TV (Nat.le_refl _)
  have Hm:H h1.objs.size=none:=I1.yL.fresh (Nat.le_refl _)
  have I3:=I2.alter (h':=(h1.push (seqObj "list" vs.toArray 0)).update h1.objs.size (Obj.mapSeq fun _=>(#[]:Array Value))) (fun b o hb q=>by rw[Heap.get?_update_ne _ _ _ _ hb];exact q) Hm Fa
  obtain⟨e1,EJ⟩:∃ e1,((h1.push (seqObj "list" vs.toArray 0)).update h1.objs.size (Obj.mapSeq fun _=>(#[]:Array Value))).get? h1.objs.size=some (seqObj "list" #[] e1):=⟨_,get?_update_seq He fun _=>#[]⟩
  unfold ksk_tree
  refine wpAny_bind (listItems_at He rfl ?_)
  refine wpAny_bind (listUpdate_at He rfl ?_ (by rw[size_toArray,sizeLine_eq];omega) (zero_le _))
  refine wpAny_bind (seqEpoch_at EJ rfl ?_)
  refine wpAny_bind (wpAny_newTuple ?_ (by show vs.length <= _;rw[sizeLine_eq];omega))
  refine wpAny_bind (wpAny_newList ?_ (zero_le _))
  refine wpAny_holding ?_
  generalize hh2:(h1.push (seqObj "list" vs.toArray 0)).update h1.objs.size (Obj.mapSeq fun _=>(#[]:Array Value))=h2 at I3 EJ
  have I4:Inv X pins σ H { s with heap:=h2.push (seqObj "tuple" vs.toArray 0),toks:=tk }:=I3.kept fun b o e=>Heap.get?_push_of_some _ e
  have hkS:h1.objs.size < (h2.push (seqObj "tuple" vs.toArray 0)).objs.size:=lt_size (Heap.get?_push_of_some _ EJ)
  have Fk:y4 X pins (h2.push (seqObj "tuple" vs.toArray 0)).objs.size:=I4.TV (Nat.le_refl _)
  have OD:H (h2.push (seqObj "tuple" vs.toArray 0)).objs.size=none:=I4.yL.fresh (Nat.le_refl _)
  have I5:Inv X pins σ H { s with heap:=(h2.push (seqObj "tuple" vs.toArray 0)).push (seqObj "list" #[] 0),toks:=tk }:=I4.kept fun b o e=>Heap.get?_push_of_some _ e
  refine qL (kz:=(List.range n).map fun i:Nat=>g (i:Int)) (pins:=pins) (H:=H) (σ:=σ) (s:={ s with heap:=(h2.push (seqObj "tuple" vs.toArray 0)).push (seqObj "list" #[] 0),toks:=tk }) (kS:=(h2.push (seqObj "tuple" vs.toArray 0)).objs.size)
   (I5.zi fun p hp=>?_) (ne_of_gt hkS) Fk Fa (by rw[length_map,length_range];exact Bf.symm) (by omega) (fun i v k hv hk pins' s' J=>?_) fun out s' ko J=>⟨_,rfl,wpAny_pure ⟨_,rfl,?_⟩⟩
  ·rcases mem_cons.mp hp with rfl | hp
   ·exact⟨Heap.get?_push_size _ rfl,OD,Fk.hL,Fk.hf,by intro v z;cases z⟩
   ·rcases mem_cons.mp hp with rfl | hp
    ·exact⟨Heap.get?_push_of_some _ (Heap.get?_push_of_some _ EJ),Hm,Fa.hL,Fa.hf,by intro v z;cases z⟩
    ·exact I5.pin p (mem_append_right _ hp)
  ·obtain⟨hi,t,rfl⟩:=Hn i v hv
   rw[getElem?_map,List.getElem?_range hi]at hk
   cases hk
   exact turn i t pins' s' hi J
  ·obtain⟨ps,CH,rfl,hs⟩:=ko
   have FA:∀ pr,pr ∈ ((List.range n).map fun i:Nat=>g (i:Int)).zip vs->pr.1=g (numOf pr.2)/\pr.2 ∈ vs:=by
    have e0:((List.range n).map fun i:Nat=>g (i:Int))=(vs.map numOf).map g:=by rw[Mc.nums,map_map];rfl
    rw[e0,map_map,List.zip_map_left]
    intro pr hpr
    obtain⟨⟨u,v⟩,hq,rfl⟩:=mem_map.mp hpr
    have h1:u=v/\u ∈ vs:=mem_zip_self hq
    refine⟨?_,?_⟩
    ·show g (numOf u)=g (numOf v)
     rw[h1.1]
    ·show v ∈ vs
     rw[← h1.1]
     exact h1.2
   have hI:IntsAre (ps.map Prod.snd) ((ps.map Prod.snd).map numOf):=intsAre_map _ fun v hv=>by
    obtain⟨p,AM,rfl⟩:=mem_map.mp hv
    exact Mc.all _ (FA p (CH.mem_iff.mp AM)).2
   have hP:((ps.map Prod.snd).map numOf).Perm ((List.range n).map fun i:Nat=>(i:Int)):=by
    have h1:=(CH.map Prod.snd).map numOf
    rw[List.map_snd_zip (by rw[length_map,length_range];omega),Mc.nums]at h1
    exact h1
   have hO:((ps.map Prod.snd).map numOf).Pairwise (fun x y=>g x <= g y):=by
    rw[pairwise_map,pairwise_map]
    refine hs.imp_of_mem fun {p q} AM BM hr=>?_
    have Ef:p.1 <= q.1:=hr
    rw[(FA p (CH.mem_iff.mp AM)).1,(FA q (CH.mem_iff.mp BM)).1]at Ef
    exact Ef
   refine⟨.ref _,_,J _ (gF hI) ?_,rfl,q _ _ Hm hP hO⟩
   have:=hP.length_eq
   simp only[length_map,length_range]at this ⊢
   omega
end
noncomputable def wz (X:Cx)(P:Addr)(zQ:Pos)(cs:List (Nat × Str))(sps:List V->Sp)(E:XK)(t:TA):TE:=fun σ H Q=>t σ H fun vs H1=>∃ (p:Addr)(n:Nat)(ps:Array Value)(zt:List V)(g:Int->Int),vs=[.ref p]/\H1 p=some (eY p (n:Int))/\n < 64/\H1 P=some (.zI ps)/\TriplesOk ps.toList/\codeAmong zQ ps.toList=none /\
 Paired (fun (q:Nat × Str)(v:V)=>σ[q.1]? = some (some v)) cs zt/\∀ C6,(∀ i:Nat,i < n->sps zt [.int (i:Int)] (upd H1 P (.zI C6)) (fun v H2=>v = .int (g i)/\H2=upd H1 P (.zI C6)) E) /\
  ∀ (l:Addr)(ns:List Int),(upd H1 P (.zI C6)) l=none->ns.Perm ((List.range n).map fun i:Nat=>(i:Int))->ns.Pairwise (fun x y=>g x <= g y)->Q (.ref l) (upd (upd H1 P (.zI C6)) l (.lst (ns.map V.int)))
theorem rR {X:Cx}{k:Nat}{params:Arguments}{body:Expr}{scope:Scope}{zQ Ir p pos:Pos}{clos:List (Str × Addr)}{c P:Addr}{cs:List (Nat × Str)}{sps:List V->Sp}{E:XK}{e:Expr}{t:TA}{TZ:Str}
  (hc:X.calm=true) (N:DI X.mg X.base c P) (hg:Gl X "sorted") (hm:X.mg "sorted" = none) (ha:PA X [e] t) (IZ:X.env.code = .ref c) (OE:defaultsOf params X.env=([],[])) (BE:closureFor scope X.env=pure clos) (hr:yK k X.A.in1.in1)
  (EH:∀ q ∈ cs,X.N[q.1]? = some q.2/\X.env.scope.names.lookup q.2=some .cell/\X.fn q.2=true)
  (F:∀ f c' oc pm Be,ot oc (X.env.qual ++ "<lambda>")->∀ zt zh,LX (X.pinned [(f,PySem.W.kla_obj "<lambda>" (X.env.qual ++ "<lambda>") params body scope clos pm c' Be),(c',oc)]) cs zt zh ->
   y9 X.prog X.w X.K X.mg zh aC k f (PySem.W.kla_fn "<lambda>" (X.env.qual ++ "<lambda>") params body scope clos pm (.ref c') Be) [TZ] (sps zt))
  (hb:∀ pm c' Be,Binds X.K (PySem.W.kla_fn "<lambda>" (X.env.qual ++ "<lambda>") params body scope clos pm (.ref c') Be) [TZ] [])
  (he:autoParam (backTo pos (starEach [e] X.env)=(false,eval e X.env) :: backTo pos (starEach [] X.env)) η) (Bj:autoParam ((backTo pos (starEach [e] X.env)).any (·.1)=false) η) :
  PE X (.Call (.Name "sorted" p) [e] [⟨some "key", .Lambda params body scope zQ,Ir⟩] pos) (wz X P zQ cs sps E t):=by
 intro pins s σ H Q I h
 refine wpAny_Call_Name_kw (fJ I hg hm PyProof.Rows.boot_sorted ?_ (by decide) (by decide))
 refine callWith_kw (bv (ha pos pins s σ H _ I h) fun us s1 yD=>?_) he Bj rfl rfl
 obtain⟨vs,H1,I1,r1,q1⟩:=yD
 obtain⟨p,n,ps,zt,g,rfl,hp,hn,hP,ht,hnf,hfv,q1⟩:=q1
 obtain⟨u,rfl,ru⟩:=r1.one
 obtain rfl:u=Value.ref p:=ru
 have gP:s1.heap.get? P=some (PySem.W.tabObj ps):=I1.yL P _ hP
 obtain⟨bm,ob,b1,b2,b3,b4,b5,b6⟩:=(N.keep I1.bk).bm
 show wpAny _ _ (evalAll [do let v ← eval (.Lambda params body scope zQ) X.env;standAt pos;pure v]) _ _ s1
 refine wpAny_evalAll_cons (wpAny_bind (PySem.W.kla_eval OE (PySem.W.kla_makeFunction BE I1.ok.glob (I1.mod.glob.keeps I1.bk) IZ (N.cd.keeps I1.bk) gP ht hnf N.gP ⟨bm,ob,b1,b2,b3,b4,b5,b6⟩ fun c' Be h' tk C3 FC zb Dj Bs=>wpAny_bind (wpAny_standAt (wpAny_pure (wpAny_evalAll_nil ?_))))))
 obtain⟨c2,oc,vs,tq,e2,LD,Ua,hv⟩:=Dj
 cases e2
 have Ho:∀ b u,H1 b=some u->(∀ qs,u ≠ .zI qs)->b ≠ P:=fun b u e n z=>by subst z;rw[hP]at e;cases e;exact n _ rfl
 have nP:∀ b,H1 b=none->b ≠ P:=fun b e z=>by subst z;rw[hP]at e;cases e
 have hPl:P < s1.heap.objs.size:=lt_size gP
 have kp:∀ b u,b ≠ P->s1.heap.get? b=some u->(h'.push (PySem.W.kla_obj "<lambda>" (X.env.qual ++ "<lambda>") params body scope clos ((X.mg "__name__").getD .none) c' Be)).get? b=some u:=fun b u n e=>Heap.get?_push_of_some _ (C3 b u n e)
 have Ub:(h'.push (PySem.W.kla_obj "<lambda>" (X.env.qual ++ "<lambda>") params body scope clos ((X.mg "__name__").getD .none) c' Be)).get? P=some (PySem.W.tabObj (ps ++ #[rawInt zQ.line,rawInt zQ.col, .ref c'])):=Heap.get?_push_of_some _ Bs
 have I2:Inv X pins σ (upd H1 P (.zI (ps ++ #[rawInt zQ.line,rawInt zQ.col, .ref c']))) { s1 with heap:=h'.push (PySem.W.kla_obj "<lambda>" (X.env.qual ++ "<lambda>") params body scope clos ((X.mg "__name__").getD .none) c' Be),toks:=tk }:=by
  refine I1.un ⟨fun b u e n _ _=>kp b u (nP b n) e,fun b u e n _ _=>⟨u.slots,kp b u (nP b n) e⟩,fun b u e n _=>by rw[af (nP b n)];exact n,fun b u e _=>?_,fun b xs e=>?_,fun b o u e=>?_,fun b qs e=>?_⟩ fun b u e=>?_
  ·by_cases z:b=P
   ·subst z;exact⟨_,Ub⟩
   ·exact⟨u,kp b u z e⟩
  ·rw[af (Ho b _ e (by intro _ z;cases z))];exact e
  ·rw[af (Ho b _ e (by intro _ z;cases z))];exact e
  ·by_cases z:b=P
   ·subst z;rw[hP]at e;cases e;exact⟨_,ad⟩
   ·exact⟨#[],by rw[af z,e];simp⟩
  ·by_cases z:b=P
   ·subst z;rw[ad]at e;cases e;exact Ub
   ·rw[af z]at e
    refine(I1.yL b u e).zX (fun d v hd g=>kp d v ?_ g) (fun d g=>by rw[af (Ho d _ g (by intro _ z;cases z))];exact g) fun d xs g=>by rw[af (Ho d _ g (by intro _ z;cases z))];exact g
    rcases hd with rfl | hd
    ·exact z
    ·exact Ho d _ hd (by intro _ z;cases z)
 have hsz:s1.heap.objs.size <= h'.objs.size:=le_of_lt (lt_of_le_of_lt FC zb)
 have Uc:∀ b,s1.heap.objs.size <= b->upd H1 P (.zI (ps ++ #[rawInt zQ.line,rawInt zQ.col, .ref c'])) b=none:=fun b hb=>by
  rw[af (ne_of_gt (lt_of_lt_of_le hPl hb))];exact I1.yL.fresh hb
 have I3:=I2.zi (pins':=[(h'.objs.size,PySem.W.kla_obj "<lambda>" (X.env.qual ++ "<lambda>") params body scope clos ((X.mg "__name__").getD .none) c' Be),(c',oc)] ++ pins) (fun p hp=>by
  rcases mem_append.mp hp with hp | hp
  ·rcases mem_cons.mp hp with rfl | hp
   ·exact⟨Heap.get?_push_size _ rfl,Uc _ hsz,ne_of_gt (lt_of_lt_of_le I1.lt hsz),I1.DU hsz,by intro v z;cases z⟩
   ·obtain rfl:=mem_singleton.mp hp
    exact⟨Heap.get?_push_of_some _ LD,Uc _ FC,ne_of_gt (lt_of_lt_of_le I1.lt FC),I1.DU FC,by intro v z;rw[Ua]at z;cases z⟩
  ·exact I2.pin p (mem_append_right _ hp))
 have I4:=I3.O5
 obtain⟨q2,q3⟩:=q1 (ps ++ #[rawInt zQ.line,rawInt zQ.col, .ref c'])
 have Eg:(upd H1 P (.zI (ps ++ #[rawInt zQ.line,rawInt zQ.col, .ref c']))) p=some (eY p (n:Int)):=by rw[af (Ho p _ hp (by intro _ z;cases z))];exact hp
 have hF:=F h'.objs.size c' oc ((X.mg "__name__").getD .none) Be ⟨vs,tq,Ua,hv⟩
 generalize upd H1 P (.zI (ps ++ #[rawInt zQ.line,rawInt zQ.col, .ref c']))=H2 at I4 q2 q3 Eg
 refine bv (qM (X:=X.pinned _) (fa:=h'.objs.size) (g:=g) (Q:=Q) hc I4 Eg hn (fun i t pins' s' hi J=>?_) fun l ns hl CH hs=>q3 l ns hl CH hs) fun u s3 yD=>by obtain⟨v,H3,J,rv,q⟩:=yD;exact⟨v,H3,J.Dh,rv,q⟩
 obtain⟨B,e0⟩:=yq J EH hfv
 have G:=hF zt _ B
 have hbb:=hb ((X.mg "__name__").getD .none) c' Be s' [.int (i:Int) t] J.Ac rfl
 refine wpAny_call (codeAny_mono (G.run X.A.in1.in1 X.stack s' H2 ⟨[.int (i:Int) t],[]⟩ [.int (i:Int) t] [.int (i:Int)] _ E hr ⟨e0.frames,e0.mod,e0.bs,e0.Cy,e0.zO,e0.CT,e0.yL,e0.bare⟩ hbb (.cons ⟨t,rfl⟩ .nil) (q2 i hi)) fun r s4 hq=>?_)
 cases r with
 | error e=>exact hq.elim
 | ok fl =>
  cases fl with
  | ret u =>
   obtain⟨v,H5,J5,rv,rfl,rfl⟩:=J.after hq
   obtain⟨t5,rfl⟩:=rv
   exact⟨⟨t5,rfl⟩,J5⟩
  | next=>exact False.elim hq
  | brk=>exact False.elim hq
  | cont=>exact False.elim hq
end L2
namespace L2
open PySem
theorem bu {J:It}{g:TG}{tt:TT}{te:TE}{σ0:St}{H:Hp}{Q:VK}(n:Nat)(hn:n < sizeLine)(W:Nat->List V->Hp->Prop)(h0:W 0 [] H)(hlen:∀ i acc H',W i acc H'->acc.length <= i)
  (turn:∀ i acc H',i < n->W i acc H'->J.go i H'/\∀ x H2,J.DW i H' x H2->g x σ0 H2 fun σ2 H3=>tt σ2 H3 fun b H4=>if b=true then te σ2 H4 fun y H5=>W (i + 1) (acc ++ [y]) H5 else W (i + 1) acc H4)
  (stop:∀ acc H',W n acc H'->J.stop n H'/\∀ D,H' D=none->Q (.ref D) (upd H' D (.lst acc))):cO J g tt te σ0 Q H:=by
 refine⟨fun i m acc H'=>m=n - i/\i <= n/\W i acc H',⟨n,by simp,zero_le _,h0⟩,?_⟩
 rintro i m acc H' ⟨rfl,hi,w⟩
 refine⟨by have:=hlen i acc H' w;omega,?_⟩
 by_cases zb:i < n
 ·obtain⟨go,q⟩:=turn i acc H' zb w
  exact .inr ⟨go,fun zo H2=>W (i + 1) zo H2,fun zo H2 w2=>⟨n - (i + 1),by omega,rfl,zb,w2⟩,q⟩
 ·have e:i=n:=by omega
  subst e
  exact .inl (stop acc H' w)
theorem y8.new {H H':Hp}{a:Addr}{o:HO}(h:y8 H H')(n:H' a=none):y8 H (upd H' a o):=fun b u e=>by rw[af (ai (h _ _ e) n)];exact h _ _ e
end L2
namespace L2
open PySem
theorem ze {N P:List Str}{sc:Scope}(a:autoParam (sc.kind = .function) η)(b:autoParam (sc.isCoroutine=false) η)(c:autoParam (sc.isGenerator=false) η)(d:autoParam (N.Nodup) ξ)(e:autoParam (N.take P.length=P) η)(f:autoParam (∀ x ∈ P,sc.names.lookup x=some .local∨sc.names.lookup x=some .cell) ξ)(g:autoParam (∀ y ∈ sc.names,y.2 ≠ .free) ξ):ap N P sc:=⟨a,b,c,d,e,f,g⟩
theorem Ah {N:List Str}{sc scope:Scope}{capN:List Str}{cap:List Nat}(a:autoParam (scope.kind = .function) η)(b:autoParam (∀ y ∈ scope.names,y.2 ≠ .cell) ξ)(c:autoParam (∀ y ∈ scope.names,y.2 = .local->scope.names.lookup y.1=some .local) ξ)(d:autoParam (∀ y ∈ scope.names,y.2 = .free->sc.names.lookup y.1=some .cell∨sc.names.lookup y.1=some .free) ξ)(e:autoParam (cap.length=capN.length) η)(f:autoParam (∀ p ∈ capN.zip cap,scope.names.lookup p.1=some .free/\N[p.2]? = some p.1) ξ):zF N sc scope capN cap:=⟨a,b,c,d,e,f⟩
end L2
namespace K90
open PySem L2
variable {P:Program}{w:World}{K:Frag}{mg:Str->Option Value}{base:Heap}
noncomputable def top (i:Nat):Stmt:=PySem.Challenge.pw_wormyard_k90_whole_never_stands.main.body.getD i (.Pass ⟨0,0,0,0⟩)
abbrev uw:Stmt:=top 2
abbrev rE:Stmt:=top 3
abbrev wS:Stmt:=top 4
abbrev fE:Stmt:=top 19
abbrev i6:Stmt:=top 20
abbrev wU:Stmt:=top 21
abbrev wP:Stmt:=top 25
abbrev ls:Stmt:=top 28
abbrev OF:Stmt:=top 29
abbrev jN:Stmt:=top 33
abbrev kZ:Stmt:=top 35
abbrev wR:Stmt:=top 36
abbrev rq:Stmt:=top 37
abbrev ng:Stmt:=top 38
abbrev n0:Stmt:=top 39
abbrev n9:Stmt:=top 40
abbrev lg:Stmt:=top 42
abbrev fF:Stmt:=top 49
abbrev rp:Stmt:=top 50
abbrev ll:Stmt:=top 51
abbrev rM:Stmt:=top 55
abbrev wV:Stmt:=top 56
abbrev nr:Stmt:=top 57
abbrev rD:Stmt:=top 58
abbrev dE:Stmt:=top 59
abbrev iN:Stmt:=top 60
abbrev lj:Stmt:=top 61
abbrev fU:Stmt:=top 62
abbrev rK:Stmt:=top 63
abbrev bR:Stmt:=top 64
abbrev gJ:Stmt:=top 65
abbrev lp:Stmt:=aI (top 26) 0
abbrev xa:Stmt:=aI (top 26) 2
abbrev rB:Stmt:=aI (top 26) 3
abbrev lm:Stmt:=aI (top 26) 4
abbrev wQ:Stmt:=aI (top 30) 0
abbrev r6:Stmt:=aI (top 31) 0
abbrev nc:Stmt:=aI (top 31) 1
abbrev wY:Stmt:=aI (top 44) 0
abbrev rC:Stmt:=aI (top 44) 1
abbrev wT:Stmt:=aI (top 44) 2
abbrev n8:Stmt:=aI (top 44) 3
abbrev r8:Stmt:=aI (top 44) 4
abbrev nB:Stmt:=aI (top 44) 5
abbrev wX:Stmt:=aI (top 44) 6
abbrev wW:Stmt:=aI (top 44) 7
abbrev rJ:Stmt:=aI (top 52) 0
abbrev rG:Stmt:=aI (top 52) 1
abbrev gI:Stmt:=aI (top 53) 0
abbrev fT:Stmt:=aI (top 53) 1
abbrev nj:Stmt:=aI (top 53) 2
abbrev lf:Stmt:=aI (top 53) 3
abbrev ld:Stmt:=aI (top 53) 4
abbrev nh:Stmt:=aI (top 53) 5
abbrev jP:Stmt:=aI (top 53) 6
abbrev fS:Stmt:=aI (top 53) 7
abbrev rF:Stmt:=aI (top 53) 8
abbrev OG:Stmt:=aI (top 53) 9
abbrev rL:Stmt:=aI (top 53) 10
abbrev nA:Stmt:=aI (top 53) 11
abbrev wZ:Stmt:=aI (top 53) 12
abbrev rA:Stmt:=aI (top 53) 13
abbrev r9:Stmt:=aI (top 53) 14
abbrev fG:Stmt:=aI (top 53) 15
abbrev nv:Stmt:=aI (top 53) 16
abbrev rH:Stmt:=aI (top 53) 17
abbrev nq:Stmt:=aI (top 53) 19
abbrev jO:Stmt:=aI (top 53) 20
structure dP (mg:Str->Option Value):Prop where
 Hq:mg "isinstance" = none
 int:mg "int" = none
 bool:mg "bool" = none
 len:mg "len" = none
 enum:mg "enumerate" = none
 tuple:mg "tuple" = none
 range:mg "range" = none
 list:mg "list" = none
 all:mg "all" = none
 sum:mg "sum" = none
 abs:mg "abs" = none
 str:mg "str" = none
 max:mg "max" = none
 sorted:mg "sorted" = none
noncomputable def vM (H:Hp)(v:V)(p:Int × Int):Prop:=∃ t,v = .ref t/\H t=some (.tup [.int p.1, .int p.2])
abbrev yU (H:Hp):List V->List (Int × Int)->Prop:=Paired (vM H)
theorem yU.same {H H':Hp}(h:y8 H H'):∀ {vs:List V}{ps:List (Int × Int)},yU H vs ps->yU H' vs ps:=fun yD=>by
 induction yD with
 | nil=>exact .nil
 | cons zz r ih=>obtain⟨t,e,q⟩:=zz;exact .cons ⟨t,e,h _ _ q⟩ ih
theorem yU.get {H:Hp}:∀ {vs:List V}{ps:List (Int × Int)}{i:Nat}{v:V},yU H vs ps->vs[i]? = some v->∃ p,ps[i]? = some p/\vM H v p:=by
 intro _ _ i _ yD
 induction yD generalizing i with
 | nil=>intro h;cases h
 | cons x r ih =>
  intro h
  cases i with
  | zero=>cases h;exact⟨_,rfl,x⟩
  | succ i=>exact ih (i:=i) h
theorem yU.FD {H:Hp}:∀ {vs:List V}{ps:List (Int × Int)}{i:Nat}{p:Int × Int},yU H vs ps->ps[i]? = some p->∃ v,vs[i]? = some v/\vM H v p:=by
 intro _ _ i _ yD
 induction yD generalizing i with
 | nil=>intro h;cases h
 | cons x r ih =>
  intro h
  cases i with
  | zero=>cases h;exact⟨_,rfl,x⟩
  | succ i=>exact ih (i:=i) h
theorem yU.snoc {H:Hp}{v:V}{p:Int × Int}(h:vM H v p):∀ {vs:List V}{ps:List (Int × Int)},yU H vs ps->yU H (vs ++ [v]) (ps ++ [p]):=fun yD=>by
 induction yD with
 | nil=>exact .cons h .nil
 | cons q r ih=>exact .cons q ih
noncomputable def fM (n:Int)(p:Int × Int):Bool:=decide (0 <= p.1/\p.1 <= n - 1) && (decide (0 <= p.2/\p.2 <= n - 1) && !decide (p.1=p.2))
noncomputable def jF:Sp:=fun vs H Q _=>∃ i:Int,vs=[.int i]/\Q (.bl true) H
noncomputable def fQ:Sp:=fun vs H Q _=>∃ i a b:Int,vs=[.int i, .int a, .int b]/\Q (.bl (decide (a <= i/\i <= b))) H
noncomputable def qQ:Sp:=fun vs H Q _=>∃ n a b:Int,vs=[.int n, .int a, .int b]/\Q (.bl (fM n (a,b))) H
theorem oQ:ap ["value"] ["value"] (ah fE):=L2.ze
theorem lA {f:Addr}{fd:FuncData}(F:yY K "is_whole" "is_whole" fE f fd)(T:dP mg):y9 P w K mg base aC 1 f fd ["value"] jF:=by
 refine F.ok oQ (fun _ _ _ _ h=>?_) (fun _ _ _ s H _ Q E hr h=>?_)
 ·obtain⟨m,rfl,_⟩:=h
  rfl
 ·obtain⟨i,rfl,q⟩:=h
  refine⟨_,ag (ar (cT (aw mj rfl T.Hq PyProof.Rows.boot_isinstance (aa (pv 0) (aa (eQ (v := .ty "int") rfl T.int PySem.Pv.boot_int rfl) ac)))
   (cS (rT (aw mj rfl T.Hq PyProof.Rows.boot_isinstance (aa (pv 0) (aa (eQ (v := .ty "bool") rfl T.bool PySem.Pv.boot_bool rfl) ac))))))),?_⟩
  refine⟨_,rfl, .inl ⟨i,rfl,true,rfl,?_⟩⟩
  refine aK ?_
  exact⟨_,rfl, .inr (.inl ⟨i,rfl,false,rfl,q⟩)⟩
theorem kX:ap ["value", "least", "most"] ["value", "least", "most"] (ah i6):=L2.ze
theorem pR {f fh:Addr}{fd Bt:FuncData}(F:yY K "is_within" "is_within" i6 f fd)(T:dP mg)(mh:mg "is_whole" = some (.ref fh))(Fh:yY K "is_whole" "is_whole" fE fh Bt)(bh:Binds K Bt ["value"] []) :
  y9 P w K mg base aC 2 f fd ["value", "least", "most"] fQ:=by
 have G:y9 P w K mg base aC 1 fh Bt ["value"] jF:=lA Fh T
 refine F.ok kX (fun _ _ _ _ h=>?_) (fun _ _ _ s H _ Q E hr h=>?_)
 ·obtain⟨i,a,b,rfl,_⟩:=h
  rfl
 ·obtain⟨i,a,b,rfl,q⟩:=h
  refine⟨_,ag (ar (cT (au G hr rfl mh Fh.kp bh .nil ao (aa (pv 0) ac)) (cS (l6 l8 l8 (pv 1) (pv 0) (pv 2))))),?_⟩
  refine⟨_,rfl,i,rfl,true,rfl,aK ?_⟩
  refine⟨_,rfl,_,rfl,_,_,rfl,rfl,_,rfl,?_⟩
  by_cases h1:a <= i
  ·rw[decide_eq_true h1]
   refine aK ⟨_,rfl,_,_,rfl,rfl,?_⟩
   show Q (V.bl (decide (i <= b))) H
   by_cases h2:i <= b
   ·rw[decide_eq_true h2];rw[decide_eq_true ⟨h1,h2⟩]at q;exact q
   ·rw[decide_eq_false h2];rw[decide_eq_false fun z=>h2 z.2]at q;exact q
  ·rw[decide_eq_false h1]
   refine aH ?_
   rw[decide_eq_false fun z=>h1 z.1]at q;exact q
theorem EK:ap ["places", "one", "other", "last"] ["places", "one", "other"] (ah wP):=L2.ze
theorem xq {f fh:Addr}{fd Bt:FuncData}(F:yY K "are_two_places" "are_two_places" wP f fd)(mh:mg "is_within" = some (.ref fh))(kh:keepIn K (.ref fh)=true)(bh:Binds K Bt ["value", "least", "most"] [])
  (G:y9 P w K mg base aC 2 fh Bt ["value", "least", "most"] fQ) :
  y9 P w K mg base aC 3 f fd ["places", "one", "other"] qQ:=by
 refine F.ok EK (fun _ _ _ _ h=>?_) (fun _ _ _ s H _ Q E hr h=>?_)
 ·obtain⟨i,a,b,rfl,_⟩:=h
  rfl
 ·obtain⟨n,a,b,rfl,q⟩:=h
  refine⟨_,ae (aE (i:=3) EK.nd rfl (Or.inl rfl) (aD dH (pv 0) aj))
   (ag (ar (cT (au G hr rfl mh kh bh .nil ao (aa (pv 1) (aa aj (aa (pv 3) ac))))
    (cT (au G hr rfl mh kh bh .nil ao (aa (pv 2) (aa aj (aa (pv 3) ac)))) (cS (cy ik (pv 1) (pv 2) (aA _))))))),?_⟩
  refine⟨_,rfl,_,_,rfl,rfl,?_⟩
  refine⟨_,rfl,_,rfl,a,0,n - 1,rfl,_,rfl,?_⟩
  unfold fM at q
  dsimp only at q
  by_cases h1:0 <= a/\a <= n - 1
  ·rw[decide_eq_true h1]at q ⊢
   rw[Bool.true_and]at q
   refine aK ⟨_,rfl,_,rfl,b,0,n - 1,rfl,_,rfl,?_⟩
   by_cases h2:0 <= b/\b <= n - 1
   ·rw[decide_eq_true h2]at q ⊢
    rw[Bool.true_and]at q
    refine aK ⟨_,rfl,_,rfl,rfl,?_⟩
    have e:decide (V.int a=V.int b)=decide (a=b):=by
     by_cases h:a=b
     ·rw[h];simp
     ·rw[decide_eq_false h,decide_eq_false fun z=>h (by injection z)]
    show Q (V.bl (!decide (V.int a=V.int b))) H
    rw[e];exact q
   ·rw[decide_eq_false h2]at q ⊢
    exact aH q
  ·rw[decide_eq_false h1]at q ⊢
   exact aH q
end K90
namespace L2
open PySem
end L2
namespace K90
open PySem L2
variable {P:Program}{w:World}{K:Frag}{mg:Str->Option Value}{base:Heap}
inductive Due | places | many (k:Nat) | yW (k:Nat) | good
noncomputable def m7 (n:Int)(ps:List (Int × Int)):Option Nat:=ps.findIdx? fun p=>!fM n p
noncomputable def eI (n:Int)(ps:List (Int × Int)):Due:=if decide (1 <= n/\n <= 12)=false then .places else if 40 < ps.length then .many ps.length else match m7 n ps with | some k => .yW k | none => .good
structure Cs where
 land:Addr
noncomputable def cW (H:Hp)(c:Cs)(x dx t:Addr)(n:Int)(yO:List V)(ps:List (Int × Int)):Prop:=H x=some (.ins c.land dx [("places", .int n),("lanes", .ref t)])/\H t=some (.tup yO)/\yU H yO ps
noncomputable def rf (K:Frag)(c:Cs):Sp:=fun vs H Q E=>∃ x dx n p yM ps,vs=[.ref x, .int n, .ref p]/\H x=some (.ins c.land dx [])/\yC K H p yM/\yU H yM ps/\yM.length <= 1000 /\
 (eI n ps = .places->False) /\
 (∀ k,eI n ps = .many k->False) /\
 (∀ k,eI n ps = .yW k->False) /\
 (eI n ps = .good->∀ H' t yO,(∀ b o,b ≠ x->H b=some o->H' b=some o)->cW H' c x dx t n yO ps->Q .yQ H')
noncomputable def qD (s:Stmt):Scope:=match s with
 | .Assign _ (.Call _ [.ListComp _ _ sc _] _ _) _=>sc
 | _=>zQ0
noncomputable def iP (s:Stmt):Scope:=match aF s with
 | .Return (some (.ListComp _ _ sc _)) _ :: _=>sc
 | _=>zQ0
abbrev NI:List Str:=["self", "places", "lanes", "lane", "pair"]
structure mG (K:Frag)(c:Cs):Prop where
 cl:Bi K c.land
 np:yP K c.land "places"
 nl:yP K c.land "lanes"
theorem jf {n:Int}{ps:List (Int × Int)}(h:∀ p ∈ ps,fM n p=true):m7 n ps=none:=by
 unfold m7
 rw[List.findIdx?_eq_none_iff]
 intro p hp
 rw[h p hp];rfl
theorem om {n:Int}{ps:List (Int × Int)}{i:Nat}{p:Int × Int}(h:∀ q ∈ ps.take i,fM n q=true)(hi:ps[i]? = some p)(hb:fM n p=false):m7 n ps=some i:=by
 unfold m7
 rw[List.findIdx?_eq_some_iff_getElem]
 obtain⟨zb,e⟩:=List.getElem?_eq_some_iff.mp hi
 refine⟨zb,by rw[e,hb];rfl,fun j hj=>?_⟩
 have hm:ps[j]'(Nat.lt_trans hj zb) ∈ ps.take i:=mem_take_iff_getElem.mpr ⟨j,by omega,rfl⟩
 rw[h _ hm];simp
noncomputable def Off (x:Addr)(H H':Hp):Prop:=∀ b o,b ≠ x->H b=some o->H' b=some o
theorem Off.sq {K:Frag}{H H':Hp}{x p C dx:Addr}{fs:List (Str × V)}{xs:List V}(o:Off x H H')(hx:H x=some (.ins C dx fs))(h:yC K H p xs):yC K H' p xs:=by
 rcases h with (h | ⟨ob,h⟩) | h
 ·exact .inl (.inl (o _ _ (aX h hx (by intro z;cases z)) h))
 ·exact .inl (.inr ⟨ob,o _ _ (aX h hx (by intro z;cases z)) h⟩)
 ·exact .inr h
theorem Off.C7 {H H':Hp}{x C dx:Addr}{fs:List (Str × V)}(o:Off x H H')(hx:H x=some (.ins C dx fs)):∀ {vs:List V}{ps:List (Int × Int)},yU H vs ps->yU H' vs ps:=fun yD=>by
 induction yD with
 | nil=>exact .nil
 | cons zz r ih=>obtain⟨t,e,q⟩:=zz;exact .cons ⟨t,e,o _ _ (aX q hx (by intro z;cases z)) q⟩ ih
theorem BS:ap NI ["self", "places", "lanes"] (ah lp):=L2.ze
theorem ym:zF NI (ah lp) (qD ((aF lp).getD 4 (.Pass ⟨0,0,0,0⟩))) [] []:=L2.Ah
theorem xL:(["pair"]:List Str).Nodup:=by decide +kernel
theorem vf {c:Cs}{f fw ft:Addr}{fd dw dt:FuncData}{t1 t2:Tok}(F:yY K "__init__" "Land.__init__" lp f fd)(T:dP mg)(L:mG K c)
  (mw:mg "is_within" = some (.ref fw)) (kw:keepIn K (.ref fw)=true) (bw:Binds K dw ["value", "least", "most"] []) (Gw:y9 P w K mg base aC 2 fw dw ["value", "least", "most"] fQ)
  (mt:mg "are_two_places" = some (.ref ft)) (kt:keepIn K (.ref ft)=true) (bt:Binds K dt ["places", "one", "other"] []) (Gt:y9 P w K mg base aC 3 ft dt ["places", "one", "other"] qQ)
  (mp:mg "MOST_PLACES" = some (.int 12 t1)) (ml:mg "MOST_LANES" = some (.int 40 t2)) :
  y9 P w K mg base aC 4 f fd ["self", "places", "lanes"] (rf K c):=by
 refine F.ok BS (fun _ _ _ _ h=>?_) (fun _ _ _ s H _ Q E hr h=>?_)
 ·obtain⟨x,dx,n,p,yM,ps,rfl,_⟩:=h
  rfl
 ·obtain⟨x,dx,n,p,yM,ps,rfl,hx,hp,hl,hlen,h1,h2,h3,h4⟩:=h
  have zT:yK 2 _:=hr.mono (by decide)
  refine⟨_,ae (aL (bF (bA (au Gw zT rfl mw kw bw .nil ao (aa (pv 1) (aa aj (aa (eP (v := .int 12) rfl mp ⟨_,rfl⟩) ac))))))
    (ag bJ) aB)
   (ae (aL (ax l9 (aw aq rfl T.len PySem.boot_len (aa (pv 2) ac)) (eP (v := .int 40) rfl ml ⟨_,rfl⟩) (aA _))
    (ag bJ) aB)
   (ae (bB PassesOwn.never rfl (l5 rfl T.enum (aa (pv 2) ac)) (e9 rfl (aW (av (i:=3) BS.nd rfl (Or.inl rfl)) (aW (av (i:=4) BS.nd rfl (Or.inl rfl)) cQ)))
    (ag (aL (bF (bA (au Gt hr rfl mt kt bt .nil ao (aa (pv 1) (aa (az yE (pv 4) aj (fun _ _=>rfl)) (aa (az yE (pv 4) aj (fun _ _=>rfl)) ac))))))
     (ag bJ) aB)))
   (ae (aZ (pv 0) (pv 1) rfl)
   (ag (aZ (pv 0) (bI cf rfl T.tuple PySem.Pv.boot_tuple (aa (aQ (own:=["pair"]) (capN:=[]) (cap:=[]) ym rfl (aV (pv 2))
    (fun C s' H' fp=>⟨av (i:=0) xL rfl (Or.inl rfl),b9,bj (aa (az (show AL _ (iQ K) from yE) (pv 0) aj (fun _ _=>rfl)) (aa (az (show AL _ (iQ K) from yE) (pv 0) aj (fun _ _=>rfl)) ac))⟩)) ac)) rfl))))),?_⟩
  refine⟨_,rfl,n,1,12,rfl,_,rfl,?_⟩
  by_cases hn:1 <= n/\n <= 12
  rotate_left
  ·rw[decide_eq_false hn]
   exact aK (h1 (by unfold eI;rw[if_pos (decide_eq_false hn)]))
  rw[decide_eq_true hn]
  refine aH ?_
  have DK:yM.length=ps.length:=Paired.length hl
  refine⟨_,rfl,p,_,rfl, .inl hp,_,_,rfl,rfl,_,rfl,?_⟩
  by_cases hm:40 < ps.length
  ·rw[decide_eq_true (show (40:Int) < (yM.length:Nat) by omega)]
   refine aK (h2 ps.length ?_)
   unfold eI
   rw[decide_eq_true hn,if_neg (by decide),if_pos hm]
  rw[decide_eq_false (show ¬ (40:Int) < (yM.length:Nat) by omega)]
  refine aH ?_
  refine⟨_,rfl,p,rfl,⟨_,hp⟩,lM (sq:=fun H=>yC K H p) (xs:=yM) (fun i σ H2=>∃ a b:Option V,y8 H H2/\σ=[some (.ref x),some (.int n),some (.ref p),a,b]/\∀ q ∈ ps.take i,fM n q=true)
   ⟨none,none,y8.refl H,rfl,fun q hq=>by simp at hq⟩ (fun i σ H2 _ yD=>by obtain⟨a,b,s2,_⟩:=yD;exact s2.seq hp) ?_ ?_⟩
  ·rintro i v q σ H2 hv ⟨a,b,s2,rfl,Bz⟩ hq
   obtain⟨pr,hpr,t,rfl,ht⟩:=yU.get hl hv
   have s3:y8 H (upd H2 q (.tup [.int i, .ref t])):=s2.new hq
   refine⟨q,_,rfl,yN.of ad,rfl,_,_,rfl,_,_,rfl,rfl,?_⟩
   have DH:yN K (upd H2 q (.tup [.int i, .ref t])) t [.int pr.1, .int pr.2]:=yN.of (s3 _ _ ht)
   refine⟨_,rfl,_,rfl,t,_,0,_,rfl,rfl,DH,ak (j:=0) rfl,?_⟩
   refine⟨_,rfl,t,_,1,_,rfl,rfl,DH,ak (j:=1) rfl,n,pr.1,pr.2,rfl,_,rfl,?_⟩
   cases ho:fM n (pr.1,pr.2) with
   | true =>
    refine aH ⟨some (.int i),some (.ref t),s3,rfl,fun z hz=>?_⟩
    rw[take_succ,hpr]at hz
    rcases mem_append.mp hz with hz | hz
    ·exact Bz z hz
    ·have:z=pr:=by simpa using hz
     rw[this];exact ho
   | false =>
    refine aK (h3 i ?_)
    unfold eI
    rw[decide_eq_true hn,if_neg (by decide),if_neg hm,om Bz hpr ho]
  ·rintro σ H2 ⟨a,b,s2,rfl,Bz⟩
   have Ja:eI n ps = .good:=by
    unfold eI
    rw[decide_eq_true hn,if_neg (by decide),if_neg hm,jf (fun z hz=>Bz z (by rw[DK,take_length];exact hz))]
   have DL:=s2 _ _ hx
   refine⟨_,rfl,_,rfl,x,c.land,dx,_,rfl,DL,L.cl,L.np,by show 0 < 1000;decide,?_⟩
   generalize Ud:upd H2 x (.ins c.land dx (aM "places" (.int n) []))=H3
   have o3:Off x H H3:=fun b o hb e=>by rw[← Ud,af hb];exact s2 _ _ e
   have x3:H3 x=some (.ins c.land dx [("places", .int n)]):=by rw[← Ud,ad];rfl
   have l3:yU H3 yM ps:=o3.C7 hx hl
   have p3:yC K H3 p yM:=o3.sq hx hp
   refine⟨_,rfl,p,rfl,⟨_,p3⟩,bu yM.length (by rw[sizeLine_eq];omega) (fun i acc H4=>y8 H3 H4/\acc.length=i/\yU H4 acc (ps.take i)) ⟨y8.refl _,rfl, .nil⟩ (fun i acc H4 h=>le_of_eq h.2.1) ?_ ?_⟩
   ·rintro i acc H4 hi ⟨s4,ha,hA⟩
    have q4:=s4.seq p3
    refine⟨⟨yM,yM[i],q4,by simp[hi]⟩,fun y H5 ⟨e5,hy⟩=>?_⟩
    subst e5
    have hy:=hy yM q4
    obtain⟨pr,hpr,t,rfl,ht⟩:=yU.get l3 hy
    have DH:yN K H5 t [.int pr.1, .int pr.2]:=yN.of (s4 _ _ ht)
    refine⟨_,rfl,t,_,0,_,rfl,rfl,DH,ak (j:=0) rfl,?_⟩
    refine⟨_,rfl,t,_,1,_,rfl,rfl,DH,ak (j:=1) rfl,by show 2 <= sizeLine;decide,fun r Ef=>?_⟩
    refine⟨s4.new Ef,by rw[length_append,ha];rfl,?_⟩
    rw[take_succ,hpr]
    exact yU.snoc ⟨r,rfl,ad⟩ (yU.same (y8.new (y8.refl _) Ef) hA)
   ·rintro acc H4 ⟨s4,ha,hA⟩
    have q4:=s4.seq p3
    refine⟨⟨yM,q4,Nat.le_refl _⟩,fun D hD=>?_⟩
    have s5:y8 H3 (upd H4 D (.lst acc)):=s4.new hD
    refine⟨D,acc,rfl, .inl ⟨yC.of ad,fun t ht=>?_⟩⟩
    have s6:y8 H3 (upd (upd H4 D (.lst acc)) t (.tup acc)):=s5.new ht
    have x6:=s6 _ _ x3
    refine⟨_,rfl,x,c.land,dx,_,rfl,x6,L.cl,L.nl,by show 1 < 1000;decide,?_⟩
    have htx:t ≠ x:=fun z=>by rw[z,s5 _ _ x3]at ht;cases ht
    refine h4 Ja _ t acc (fun b o hb e=>?_) ⟨by rw[ad];rfl,by rw[af htx,ad],?_⟩
    ·rw[af hb];exact s6 _ _ (o3 b o hb e)
    ·have hA':yU H4 acc ps:=by rw[DK,take_length]at hA;exact hA
     have x4:=s4 _ _ x3
     have hA6:yU (upd (upd H4 D (.lst acc)) t (.tup acc)) acc ps:=yU.same (y8.new (y8.new (y8.refl _) hD) ht) hA'
     exact Off.C7 (x:=x) (fun b o hb e=>by rw[af hb];exact e) x6 hA6
noncomputable def ku (sel:Int × Int->Int)(ps:List (Int × Int))(pl:Int)(m:Nat):List V:=((List.range m).filter fun k=>decide (sel (ps.getD k (0,0))=pl)).map fun k:Nat=>V.int k
noncomputable def uo (c:Cs)(sel:Int × Int->Int):Sp:=fun vs H Q _=>∃ (x dx t:Addr)(n:Int)(yO:List V)(ps:List (Int × Int))(pl:Int),vs=[.ref x, .int pl]/\cW H c x dx t n yO ps/\ps.length <= 1000 /\
 ∀ H' D,y8 H H'->H' D=none->Q (.ref D) (upd H' D (.lst (ku sel ps pl ps.length)))
theorem lJ {sel:Int × Int->Int}{ps:List (Int × Int)}{pl:Int}{i:Nat}{pr:Int × Int}(h:ps[i]? = some pr):ku sel ps pl (i + 1)=if decide (sel pr=pl) then ku sel ps pl i ++ [V.int i] else ku sel ps pl i:=by
 have e:ps.getD i (0,0)=pr:=by rw[getD_eq_getElem?_getD,h];rfl
 unfold ku
 rw[range_succ,filter_append]
 by_cases hs:sel pr=pl
 ·rw[if_pos (decide_eq_true hs),filter_cons_of_pos (by rw[e];exact decide_eq_true hs)];simp
 ·rw[if_neg (by rw[decide_eq_false hs];decide),filter_cons_of_neg (by rw[e,decide_eq_false hs];decide)];simp
theorem pj {sel:Int × Int->Int}{ps:List (Int × Int)}{pl:Int}{i:Nat}:(ku sel ps pl i).length <= i:=by
 unfold ku
 rw[length_map]
 have:=length_filter_le (fun k=>decide (sel (ps.getD k (0,0))=pl)) (List.range i)
 rwa [length_range]at this
theorem Jb:ap ["self", "place"] ["self", "place"] (ah rB):=L2.ze
theorem Jc:zF ["self", "place"] (ah rB) (iP rB) ["place"] [1]:=L2.Ah
theorem wN:ap ["self", "place"] ["self", "place"] (ah lm):=L2.ze
theorem yl:zF ["self", "place"] (ah lm) (iP lm) ["place"] [1]:=L2.Ah
theorem oX:(["lane", "pair", "place"]:List Str).Nodup:=by decide +kernel
theorem fK (a b:Int):decide (V.int a=V.int b)=decide (a=b):=by
 by_cases h:a=b
 ·rw[h];simp
 ·rw[decide_eq_false h,decide_eq_false fun z=>h (by injection z)]
theorem xx {c:Cs}{f:Addr}{fd:FuncData}(F:yY K "out_of" "Land.out_of" rB f fd)(T:dP mg)(L:mG K c):y9 P w K mg base aC 1 f fd ["self", "place"] (uo c Prod.fst):=by
 refine F.ok Jb (fun _ _ _ _ h=>?_) (fun _ _ _ s H _ Q E hr h=>?_)
 ·obtain⟨x,dx,t,n,yO,ps,pl,rfl,_⟩:=h
  rfl
 ·obtain⟨x,dx,t,n,yO,ps,pl,rfl,⟨hx,ht,hl⟩,hlen,q⟩:=h
  refine⟨_,ag (ar (aQ (own:=["lane", "pair"]) (capN:=["place"]) (cap:=[1]) Jc rfl (lz rfl T.enum (aa (am (pv 0) rfl) ac))
   (fun C s' H' fp=>⟨(show PG _ _ (v5 K 2 _) from e9 rfl (aW (av (i:=0) oX rfl (Or.inl rfl)) (aW (av (i:=1) oX rfl (Or.inl rfl)) cQ))),
    cx (ax bK (az (show AL _ (iQ K) from yE) (pv 1) aj (fun _ _=>rfl)) (pv 2) (aA _)),pv 0⟩))),?_⟩
  have DK:yO.length=ps.length:=Paired.length hl
  refine⟨_,rfl,x,c.land,dx,_,_,rfl,hx,L.cl,L.nl,rfl,t,rfl,⟨_,yN.of ht⟩,bu ps.length (by rw[sizeLine_eq];omega) (fun i acc H4=>y8 H H4/\acc=ku Prod.fst ps pl i) ⟨y8.refl _,rfl⟩ (fun i acc H4 h=>by rw[h.2];exact pj) ?_ ?_⟩
  ·rintro i acc H4 hi ⟨s4,rfl⟩
   have q4:yN K H4 t yO:=yN.of (s4 _ _ ht)
   refine⟨⟨yO,yO[i]'(by omega),q4,by simp[DK,hi]⟩,fun y H5 ⟨r,BU,ey,h5⟩=>?_⟩
   obtain⟨v,hv,rfl⟩:=h5 yO q4
   subst ey
   obtain⟨pr,hpr,u,rfl,hu⟩:=yU.get hl hv
   have s5:y8 H (upd H4 r (.tup [.int i, .ref u])):=s4.new BU
   refine⟨r,_,rfl,yN.of ad,rfl,_,_,rfl,_,_,rfl,rfl,?_⟩
   refine⟨_,rfl,u,_,0,_,rfl,rfl,yN.of (s5 _ _ hu),ak (j:=0) rfl,_,rfl,rfl,_,rfl,?_⟩
   rw[fK,lJ hpr]
   cases hd:decide (pr.1=pl) with
   | true=>exact aK ⟨_,rfl,s5,by simp[hd]⟩
   | false=>exact aH ⟨s5,by simp[hd]⟩
  ·rintro acc H4 ⟨s4,rfl⟩
   exact⟨⟨yO,yN.of (s4 _ _ ht),DK⟩,fun D hD=>q H4 D s4 hD⟩
theorem ve {c:Cs}{f:Addr}{fd:FuncData}(F:yY K "into" "Land.into" lm f fd)(T:dP mg)(L:mG K c):y9 P w K mg base aC 1 f fd ["self", "place"] (uo c Prod.snd):=by
 refine F.ok wN (fun _ _ _ _ h=>?_) (fun _ _ _ s H _ Q E hr h=>?_)
 ·obtain⟨x,dx,t,n,yO,ps,pl,rfl,_⟩:=h
  rfl
 ·obtain⟨x,dx,t,n,yO,ps,pl,rfl,⟨hx,ht,hl⟩,hlen,q⟩:=h
  refine⟨_,ag (ar (aQ (own:=["lane", "pair"]) (capN:=["place"]) (cap:=[1]) yl rfl (lz rfl T.enum (aa (am (pv 0) rfl) ac))
   (fun C s' H' fp=>⟨(show PG _ _ (v5 K 2 _) from e9 rfl (aW (av (i:=0) oX rfl (Or.inl rfl)) (aW (av (i:=1) oX rfl (Or.inl rfl)) cQ))),
    cx (ax bK (az (show AL _ (iQ K) from yE) (pv 1) aj (fun _ _=>rfl)) (pv 2) (aA _)),pv 0⟩))),?_⟩
  have DK:yO.length=ps.length:=Paired.length hl
  refine⟨_,rfl,x,c.land,dx,_,_,rfl,hx,L.cl,L.nl,rfl,t,rfl,⟨_,yN.of ht⟩,bu ps.length (by rw[sizeLine_eq];omega) (fun i acc H4=>y8 H H4/\acc=ku Prod.snd ps pl i) ⟨y8.refl _,rfl⟩ (fun i acc H4 h=>by rw[h.2];exact pj) ?_ ?_⟩
  ·rintro i acc H4 hi ⟨s4,rfl⟩
   have q4:yN K H4 t yO:=yN.of (s4 _ _ ht)
   refine⟨⟨yO,yO[i]'(by omega),q4,by simp[DK,hi]⟩,fun y H5 ⟨r,BU,ey,h5⟩=>?_⟩
   obtain⟨v,hv,rfl⟩:=h5 yO q4
   subst ey
   obtain⟨pr,hpr,u,rfl,hu⟩:=yU.get hl hv
   have s5:y8 H (upd H4 r (.tup [.int i, .ref u])):=s4.new BU
   refine⟨r,_,rfl,yN.of ad,rfl,_,_,rfl,_,_,rfl,rfl,?_⟩
   refine⟨_,rfl,u,_,1,_,rfl,rfl,yN.of (s5 _ _ hu),ak (j:=1) rfl,_,rfl,rfl,_,rfl,?_⟩
   rw[fK,lJ hpr]
   cases hd:decide (pr.2=pl) with
   | true=>exact aK ⟨_,rfl,s5,by simp[hd]⟩
   | false=>exact aH ⟨s5,by simp[hd]⟩
  ·rintro acc H4 ⟨s4,rfl⟩
   exact⟨⟨yO,yN.of (s4 _ _ ht),DK⟩,fun D hD=>q H4 D s4 hD⟩
noncomputable def rh:Sp:=fun vs H Q _=>∃ m k:Nat,vs=[.int m, .int k]/\Q (.bl (m.testBit k)) H
noncomputable def xO (m:Nat):List V:=(Yd.Dc m (Builtin.Int.intBits (m:Int))).map fun k:Nat=>V.int k
noncomputable def qX:Sp:=fun vs H Q _=>∃ m:Nat,vs=[.int m]/\m < 2 ^ 400/\∀ p,H p=none->Q (.ref p) (upd H p (.lst (xO m)))
noncomputable def vU (K:Frag):Sp:=fun vs H Q _=>∃ (a:Addr)(ks:List Nat),vs=[.ref a]/\yC K H a (ks.map fun k:Nat=>V.int k)/\(∀ k ∈ ks,k <= 1000)/\Q (.int (Yd.zE ks 0:Nat)) H
theorem Jd:ap ["some", "number"] ["some", "number"] (ah uw):=L2.ze
theorem sy {f:Addr}{fd:FuncData}(F:yY K "has" "has" uw f fd):y9 P w K mg base aC 1 f fd ["some", "number"] rh:=by
 refine F.ok Jd (fun _ _ _ _ h=>?_) (fun _ _ _ s H _ Q E hr h=>?_)
 ·obtain⟨m,k,rfl,_⟩:=h
  rfl
 ·obtain⟨m,k,rfl,q⟩:=h
  refine⟨_,ag (ar (cT (cy wj (pv 1) aj (aA _)) (cS (cy bK (aD nH (aD jV (pv 0) (pv 1)) aj) aj (aA _))))),?_⟩
  refine⟨_,rfl,_,_,rfl,rfl,_,rfl,?_⟩
  rw[decide_eq_true (show (0:Int) <= (k:Int) by omega)]
  refine aK ?_
  refine⟨_,rfl,_,rfl,_,_,rfl,rfl,(show (0:Int) <= (k:Int) by omega),_,_,rfl,rfl,rfl,?_⟩
  have e:decide (V.int (Builtin.bitAnd ((m:Int) / 2 ^ (k:Int).toNat) 1)=V.int 1)=m.testBit k:=by
   rw[toNat_natCast,← Yd.Ck m k]
   by_cases h:Builtin.bitAnd ((m:Int) / 2 ^ k) 1=1
   ·rw[h];simp
   ·rw[decide_eq_false h,decide_eq_false fun z=>h (by injection z)]
  rw[e]
  exact q
theorem sN {ks:List Nat}{i:Nat}{x:V}(h:(ks.map fun k:Nat=>V.int k)[i]? = some x):∃ k,ks[i]? = some k/\x=V.int k:=by
 rw[getElem?_map]at h
 cases e:ks[i]? with
 | none=>rw[e]at h;cases h
 | some k=>rw[e]at h;exact⟨k,rfl,(Option.some.inj h).symm⟩
theorem Cn:ap ["numbers", "some", "number"] ["numbers"] (ah wS):=L2.ze
theorem xv {f:Addr}{fd:FuncData}(F:yY K "set_of" "set_of" wS f fd):y9 P w K mg base aC 1 f fd ["numbers"] (vU K):=by
 refine F.ok Cn (fun _ _ _ _ h=>?_) (fun _ _ _ s H _ Q E hr h=>?_)
 ·obtain⟨a,ks,rfl,_⟩:=h
  rfl
 ·obtain⟨a,ks,rfl,hS,hk,q⟩:=h
  refine⟨_,ae (aE (i:=1) Cn.nd rfl (Or.inl rfl) aj)
   (ae (bB PassesOwn.never rfl (aV (pv 0)) (av (i:=2) Cn.nd rfl (Or.inl rfl))
    (ag (aE (i:=1) Cn.nd rfl (Or.inl rfl) (aD wg (pv 1) (aD nE aj (pv 2))))))
   (ag (ar (pv 1)))),?_⟩
  refine⟨_,rfl,a,rfl,⟨_,hS⟩,c4 (K:=K) (a:=a) (xs:=ks.map fun k:Nat=>V.int k) (fun i σ H2=>∃ v:Option V,H2=H/\σ=[some (.ref a),some (.int (Yd.zE (ks.take i) 0:Nat)),v])
   ⟨none,rfl,rfl⟩ (fun i σ H2 _ yD=>by obtain⟨_,e,_⟩:=yD;rw[e];exact hS) ?_ ?_⟩
  ·rintro i x σ H2 hx ⟨v,rfl,rfl⟩
   obtain⟨k,ek,rfl⟩:=sN hx
   have TY:=hk k (mem_of_getElem? ek)
   refine⟨_,rfl,_,rfl,_,_,rfl,rfl,⟨(show (0:Int) <= (k:Int) by omega),(show (k:Int) <= 1000000 by omega),(by decide)⟩,_,_,rfl,rfl,some (.int k),rfl,?_⟩
   have e:Builtin.bitOr ((Yd.zE (ks.take i) 0:Nat):Int) (1 * 2 ^ (k:Int).toNat)=((Yd.zE (ks.take (i + 1)) 0:Nat):Int):=by
    rw[take_succ,ek,toNat_natCast,one_mul,show (2:Int) ^ k=((2 ^ k:Nat):Int) by rw[natCast_pow];rfl,Yd.Bd,Yd.CZ]
    rfl
   show [some (V.ref a),some (V.int _),some (V.int k)]=_
   rw[e]
  ·rintro σ H2 ⟨v,rfl,rfl⟩
   refine⟨_,rfl,?_⟩
   rw[length_map,take_length]
   exact q
theorem Je:ap ["some"] ["some"] (ah rE):=L2.ze
theorem Jf:(["number", "some"]:List Str).Nodup:=by decide +kernel
theorem Jg:zF ["some"] (ah rE) (iP rE) ["some"] [0]:=L2.Ah
theorem x8 {f fh:Addr}{fd Bt:FuncData}(F:yY K "members" "members" rE f fd)(T:dP mg)(mh:mg "has" = some (.ref fh))(Fh:yY K "has" "has" uw fh Bt)(bh:Binds K Bt ["some", "number"] []):y9 P w K mg base aC 2 f fd ["some"] qX:=by
 have G:y9 P w K mg base aC 1 fh Bt ["some", "number"] rh:=sy Fh
 refine F.ok Je (fun _ _ _ _ h=>?_) (fun _ _ _ s H _ Q E hr h=>?_)
 ·obtain⟨m,rfl,_⟩:=h
  rfl
 ·obtain⟨m,rfl,hm,q⟩:=h
  refine⟨_,ag (ar (aQ (own:=["number"]) (capN:=["some"]) (cap:=[0]) Jg rfl
   (aJ rfl T.range (aa (xm PySem.F.plainAttrs_int PySem.F.slot_int_bit_length PySem.F.type_int_bit_length vn (pv 0)) ac))
   (fun C s' H' fp=>⟨av (i:=0) Jf rfl (Or.inl rfl),cx (bA (au G hr rfl mh Fh.kp bh .nil ao (aa (pv 1) (aa (pv 0) ac)))),pv 0⟩))),?_⟩
  have hb:Builtin.Int.intBits (m:Int) <= 400:=Yd.bits_le hm
  refine⟨_,rfl,rfl,_,rfl,rfl,(Builtin.Int.intBits (m:Int):Nat),rfl,by omega,by omega,?_⟩
  rw[toNat_natCast]
  refine lU (fun k=>m.testBit k) (fun k=>V.int k) (by rw[sizeLine_eq];omega) (fun i acc N hi h=>?_) q
  refine⟨_,rfl,_,rfl,m,i,by simp,_,rfl,?_⟩
  cases e:m.testBit i with
  | true =>
   rw[e]at h
   refine aK ⟨_,rfl,?_⟩
   simpa using h
  | false =>
   rw[e]at h
   exact aH (by simpa using h)
noncomputable def iz (ks:List Nat):List Int:=ks.map fun k:Nat=>(k:Int)
theorem vt (ks:List Nat):(iz ks).map V.int=ks.map fun k:Nat=>V.int k:=by rw[iz,map_map];rfl
theorem Ao {ks:List Nat}{k:Int}:k ∈ iz ks↔∃ n ∈ ks,(n:Int)=k:=mem_map
theorem wH {ks:List Nat}{b:Nat}(h:∀ k ∈ ks,k < b):Yd.zE ks 0 < 2 ^ b:=by
 rw[← Yd.Eb h]
 exact Yd.Bl ks b
theorem pF {ks:List Nat}{k:Nat}:(Yd.zE ks 0).testBit k=decide ((k:Int) ∈ iz ks):=by
 rw[Yd.Ag,Nat.zero_testBit,Bool.false_or]
 congr 1
 refine propext ⟨fun h=>Ao.mpr ⟨k,h,rfl⟩,fun h=>?_⟩
 obtain⟨n,hn,e⟩:=Ao.mp h
 have:n=k:=by omega
 rw[← this]
 exact hn
structure Rw where
 p:Int
 g:Int
 c:Option Nat
 s:List Nat
noncomputable def aN (r:Rw):fB:=[some r.p,some r.g,r.c.map fun k:Nat=>(k:Int)]
noncomputable def fu (sel:Int × Int->Int)(ps:List (Int × Int))(pl:Int):List Nat:=(List.range ps.length).filter fun k=>decide (sel (ps.getD k (0,0))=pl)
noncomputable def dM (n:Int)(ps:List (Int × Int))(r:Rw):Bool :=
 fM n (r.p,r.g) && ((match r.c with | none=>true | some k=>decide (k ∈ fu Prod.snd ps r.p)) && r.s.all fun k=>decide (k ∈ fu Prod.fst ps r.p))
noncomputable def lB (sel:Int × Int->Int)(ps:List (Int × Int))(pl:Int)(k:Nat):Bool:=decide (ps.length <= k) || !decide (sel (ps.getD k (0,0))=pl)
noncomputable def m6 (n:Int)(ps:List (Int × Int))(ahead:List Rw)(r:Rw):Bool :=
 !fM n (r.p,r.g) || ((match r.c with | none=>false | some k=>lB Prod.snd ps r.p k) || ((r.s.any fun k=>lB Prod.fst ps r.p k) || ahead.any fun a=>decide (aN a=aN r)))
theorem pw {sel:Int × Int->Int}{ps:List (Int × Int)}{pl:Int}{k:Nat}:decide (k ∈ fu sel ps pl) = !lB sel ps pl k:=by
 unfold fu lB
 by_cases h1:ps.length <= k
 ·rw[decide_eq_true h1,decide_eq_false]
  ·rfl
  ·intro z
   have:=mem_range.mp (mem_filter.mp z).1
   omega
 ·rw[decide_eq_false h1]
  by_cases h2:sel (ps.getD k (0,0))=pl
  ·rw[decide_eq_true h2,decide_eq_true]
   ·rfl
   ·exact mem_filter.mpr ⟨mem_range.mpr (by omega),decide_eq_true h2⟩
  ·rw[decide_eq_false h2,decide_eq_false]
   ·rfl
   ·intro z
    exact h2 (of_decide_eq_true (mem_filter.mp z).2)
theorem vH {l:List Nat}{f:Nat->Bool}:(l.all fun k=>!f k) = !(l.any f):=by
 induction l with
 | nil=>rfl
 | cons a l ih=>rw[all_cons,any_cons,ih,Bool.not_or]
theorem gy (n:Int)(ps:List (Int × Int))(ahead:List Rw)(r:Rw):m6 n ps ahead r=(!dM n ps r || ahead.any fun a=>decide (aN a=aN r)):=by
 unfold m6 dM
 have e:(r.s.all fun k=>decide (k ∈ fu Prod.fst ps r.p)) = !(r.s.any fun k=>lB Prod.fst ps r.p k):=by
  rw[← vH]
  congr 1
  funext k
  exact pw
 rw[e]
 cases hc:r.c with
 | none =>
  dsimp only
  cases fM n (r.p,r.g)<;>cases (r.s.any fun k=>lB Prod.fst ps r.p k)<;>cases (ahead.any fun a=>decide (aN a=aN r))<;>rfl
 | some k =>
  dsimp only
  rw[pw]
  cases fM n (r.p,r.g)<;>cases (lB Prod.snd ps r.p k)<;>cases (r.s.any fun k=>lB Prod.fst ps r.p k)<;>cases (ahead.any fun a=>decide (aN a=aN r))<;>rfl
noncomputable def cN (n:Int)(ps:List (Int × Int))(rs:List Rw)(m:Nat):Option Nat:=(List.range m).find? fun k=>m6 n ps (rs.take k) (rs.getD k ⟨0,0,none,[]⟩)
theorem fv {n:Int}{ps:List (Int × Int)}{rs:List Rw}:∀ {m:Nat},(∀ k,k < m->m6 n ps (rs.take k) (rs.getD k ⟨0,0,none,[]⟩)=false)->cN n ps rs m=none:=by
 intro m h
 unfold cN
 rw[List.find?_eq_none]
 intro k hk
 rw[h k (mem_range.mp hk)]
 decide
theorem jl {n:Int}{ps:List (Int × Int)}{rs:List Rw}{m i:Nat}(hi:i < m)(h:∀ k,k < i->m6 n ps (rs.take k) (rs.getD k ⟨0,0,none,[]⟩)=false)(hb:m6 n ps (rs.take i) (rs.getD i ⟨0,0,none,[]⟩)=true):cN n ps rs m=some i:=by
 unfold cN
 rw[List.find?_range_eq_some]
 refine⟨hb,mem_range.mpr hi,fun j hj=>?_⟩
 rw[h j hj]
 rfl
noncomputable def cn (rs:List Rw)(k:fB):Option Rw:=rs.reverse.find? fun r=>decide (aN r=k)
theorem nR {rs:List Rw}{r:Rw}{k:fB}:cn (rs ++ [r]) k=if k=aN r then some r else cn rs k:=by
 unfold cn
 rw[List.reverse_append,List.reverse_singleton,List.singleton_append,find?_cons]
 by_cases h:aN r=k
 ·rw[decide_eq_true h,if_pos h.symm]
 ·rw[decide_eq_false h,if_neg (Ne.symm h)]
theorem kj {rs:List Rw}{k:fB}:(cn rs k).isSome=rs.any fun r=>decide (aN r=k):=by
 unfold cn
 rw[Bool.eq_iff_iff,List.find?_isSome,any_eq_true]
 exact⟨fun yD=>by obtain⟨x,hx,h⟩:=yD;exact⟨x,mem_reverse.mp hx,h⟩,fun yD=>by obtain⟨x,hx,h⟩:=yD;exact⟨x,mem_reverse.mpr hx,h⟩⟩
noncomputable def cV:Option Nat->V
 | none => .yQ
 | some k => .int k
noncomputable def bP (ks:List Nat):List V:=ks.map fun k:Nat=>V.int k
noncomputable def FE (H:Hp)(t l:Addr)(r:Rw):Prop:=H t=some (.tup [.int r.p, .int r.g,cV r.c, .ref l])/\H l=some (.lst (bP r.s))
noncomputable def FF (H:Hp)(v:V)(r:Rw):Prop:=∃ t l,v = .ref t/\FE H t l r
abbrev BV (H:Hp):List V->List Rw->Prop:=Paired (FF H)
theorem FE.same {H H':Hp}{t l:Addr}{r:Rw}(h:y8 H H')(x:FE H t l r):FE H' t l r:=⟨h _ _ x.1,h _ _ x.2⟩
theorem FF.same {H H':Hp}{v:V}{r:Rw}(h:y8 H H'):FF H v r->FF H' v r:=fun yD=>by obtain⟨t,l,e,x⟩:=yD;exact⟨t,l,e,x.same h⟩
theorem BV.imp {H H':Hp}(h:∀ v r,FF H v r->FF H' v r):∀ {vs:List V}{rs:List Rw},BV H vs rs->BV H' vs rs:=fun yD=>by
 induction yD with
 | nil=>exact .nil
 | cons x r ih=>exact .cons (h _ _ x) ih
theorem BV.same {H H':Hp}(h:y8 H H'){vs:List V}{rs:List Rw}(x:BV H vs rs):BV H' vs rs:=BV.imp (fun _ _ z=>z.same h) x
theorem BV.get {H:Hp}:∀ {vs:List V}{rs:List Rw}{i:Nat}{v:V},BV H vs rs->vs[i]? = some v->∃ r,rs[i]? = some r/\FF H v r
 | _,_,_,_, .nil,e=>by simp at e
 | _,_,0,_, .cons x _,e=>by simp at e;subst e;exact⟨_,rfl,x⟩
 | _,_,i + 1,v, .cons _ t,e=>by
  obtain⟨r,h1,h2⟩:=BV.get (i:=i) (v:=v) t (by simpa using e)
  exact⟨r,by simpa using h1,h2⟩
theorem pi (r:Rw):(aN r).map ub=[.int r.p, .int r.g,cV r.c]:=by
 cases r with
 | mk p g c s=>cases c<;>rfl
theorem nT {sel:Int × Int->Int}{ps:List (Int × Int)}{pl:Int}:ku sel ps pl ps.length=(iz (fu sel ps pl)).map V.int:=by rw[vt];rfl
theorem nS {k:Nat}{l:List Nat}:decide ((k:Int) ∈ iz l)=decide (k ∈ l):=by
 congr 1
 refine propext ⟨fun h=>?_,fun h=>Ao.mpr ⟨k,h,rfl⟩⟩
 obtain⟨n,hn,e⟩:=Ao.mp h
 have:n=k:=by omega
 rw[← this]
 exact hn
theorem pC (ks l:List Nat):((bP ks).filter fun _=>true).map (fun v=>match v with | .int i=>V.bl (decide (i ∈ iz l)) | _ => .yQ)=(ks.map fun k=>decide (k ∈ l)).map V.bl:=by
 rw[List.filter_eq_self.mpr (fun _ _=>rfl)]
 unfold bP
 rw[map_map,map_map]
 refine map_congr_left fun k _=>?_
 show V.bl (decide ((k:Int) ∈ iz l))=V.bl (decide (k ∈ l))
 rw[nS]
theorem tV (ks:List Nat)(p:Nat->Bool):(ks.map p).all id=ks.all p:=by rw[all_map];rfl
noncomputable def vW (K:Frag):Sp:=fun vs H Q _=>∃ (i:Int)(p:Addr)(ns:List Int),vs=[.int i, .ref p]/\yC K H p (ns.map V.int)/\Q (.bl (decide (i ∈ ns))) H
noncomputable def rl (c:Cs):Sp:=fun vs H Q _=>∃ (x dx lt t l:Addr)(n:Int)(yO:List V)(ps:List (Int × Int))(r:Rw),vs=[.ref x, .ref t]/\cW H c x dx lt n yO ps/\FE H t l r/\ps.length <= 1000/\r.s.length <= 1000/\∀ H',y8 H H'->Q (.bl (dM n ps r)) H'
structure Jh (K:Frag)(c:Cs)(f3 f4:Addr)(d3 d4:FuncData):Prop where
 m3:bM K c.land "out_of" f3
 m4:bM K c.land "into" f4
 b3:Binds K d3 ["self", "place"] []
 b4:Binds K d4 ["self", "place"] []
abbrev NF:List Str:=["land", "row", "place", "came", "begin_here"]
noncomputable def tW (s:Stmt):Scope:=match s with
 | .Return (some (.Call _ [.ListComp _ _ sc _] _ _)) _=>sc
 | _=>zQ0
theorem Ji:ap ["value", "numbers"] ["value", "numbers"] (ah wU):=L2.ze
theorem xy {f fh:Addr}{fd Bt:FuncData}(F:yY K "is_one_of" "is_one_of" wU f fd)(T:dP mg)(mh:mg "is_whole" = some (.ref fh))(Fh:yY K "is_whole" "is_whole" fE fh Bt)(bh:Binds K Bt ["value"] []) :
  y9 P w K mg base aC 2 f fd ["value", "numbers"] (vW K):=by
 have G:y9 P w K mg base aC 1 fh Bt ["value"] jF:=lA Fh T
 refine F.ok Ji (fun _ _ _ _ h=>?_) (fun _ _ _ s H _ Q E hr h=>?_)
 ·obtain⟨i,p,ns,rfl,_⟩:=h
  rfl
 ·obtain⟨i,p,ns,rfl,hS,q⟩:=h
  refine⟨_,ag (ar (cT (au G hr rfl mh Fh.kp bh .nil ao (aa (pv 0) ac)) (cS (cy pP (pv 0) (pv 1) (by with_unfolding_all rfl))))),?_⟩
  refine⟨_,rfl,i,rfl,true,rfl,aK ?_⟩
  refine⟨_,rfl,_,rfl,p,_,rfl, .inl hS,rfl,gZ _,?_⟩
  show Q (V.bl (Hi (V.int i) (ns.map V.int))) H
  rw[k7]
  exact q
theorem Bm:ap NF ["land", "row"] (ah ls):=L2.ze
theorem yn:zF NF (ah ls) (tW ((aF ls).getD 5 (.Pass ⟨0,0,0,0⟩))) ["begin_here"] [4]:=L2.Ah
theorem xM:(["lane", "begin_here"]:List Str).Nodup:=by decide +kernel
theorem vi {c:Cs}{f ft fo f3 f4:Addr}{fd dt d1 d3 d4:FuncData}(F:yY K "row_fits" "row_fits" ls f fd)(T:dP mg)(L:mG K c)(M:Jh K c f3 f4 d3 d4)
  (mt:mg "are_two_places" = some (.ref ft)) (kt:keepIn K (.ref ft)=true) (bt:Binds K dt ["places", "one", "other"] []) (Gt:y9 P w K mg base aC 3 ft dt ["places", "one", "other"] qQ)
  (mo:mg "is_one_of" = some (.ref fo)) (ko:keepIn K (.ref fo)=true) (bo:Binds K d1 ["value", "numbers"] []) (Go:y9 P w K mg base aC 2 fo d1 ["value", "numbers"] (vW K))
  (G3:y9 P w K mg base aC 1 f3 d3 ["self", "place"] (uo c Prod.fst)) (G4:y9 P w K mg base aC 1 f4 d4 ["self", "place"] (uo c Prod.snd)) :
  y9 P w K mg base aC 4 f fd ["land", "row"] (rl c):=by
 refine F.ok Bm (fun _ _ _ _ h=>?_) (fun _ _ _ s H _ Q E hr h=>?_)
 ·obtain⟨x,dx,lt,t,l,n,yO,ps,r,rfl,_⟩:=h
  rfl
 ·obtain⟨x,dx,lt,t,l,n,yO,ps,r,rfl,hL,hR,hlen,OH,q⟩:=h
  have zp:yK 1 _:=hr.mono (by decide)
  have zT:yK 2 _:=hr.mono (by decide)
  refine⟨_,ae (aE (i:=2) Bm.nd rfl (Or.inl rfl) (az yE (pv 1) aj (fun _ _=>rfl)))
   (ae (aE (i:=3) Bm.nd rfl (Or.inl rfl) (az yE (pv 1) aj (fun _ _=>rfl)))
   (ae (aL (bF (bA (au Gt hr rfl mt kt bt .nil ao (aa (am (pv 0) rfl) (aa (pv 2) (aa (az yE (pv 1) aj (fun _ _=>rfl)) ac)))))) (ag (ar fq)) aB)
   (ae (aL (PW.pt (jR (ax ga (pv 3) b8 (aA _)) (i7 (bF (bA (au Go zT rfl mo ko bo .nil ao (aa (pv 3) (aa (aG (pv 0) L.cl M.m4 G4 zp M.b4 .nil ao (aa (pv 2) ac)) ac)))))))) (ag (ar fq)) aB)
   (ae (aE (i:=4) Bm.nd rfl (Or.inr rfl) (aG (pv 0) L.cl M.m3 G3 zp M.b3 .nil ao (aa (pv 2) ac)))
   (ag (ar (aw (gs rfl) rfl T.all PyProof.Rows.boot_all (aa (aQ (own:=["lane"]) (capN:=["begin_here"]) (cap:=[4]) yn rfl (aV (az yE (pv 1) aj (fun _ _=>rfl)))
    (fun C s' H' fp=>⟨av (i:=0) xM rfl (Or.inl rfl),b9,au Go zT rfl mo ko bo .nil ao (aa (pv 0) (aa (pv 1) ac))⟩)) ac)))))))),?_⟩
  obtain⟨hT,hl⟩:=hR
  have OI:yN K H t [.int r.p, .int r.g,cV r.c, .ref l]:=yN.of hT
  refine⟨_,rfl,t,_,0,_,rfl,rfl,OI,ak (j:=0) rfl,?_⟩
  refine⟨_,rfl,t,_,2,_,rfl,rfl,OI,ak (j:=2) rfl,?_⟩
  refine⟨_,rfl,x,c.land,dx,_,_,rfl,hL.1,L.cl,L.np,rfl,_,rfl,_,rfl,t,_,1,_,rfl,rfl,OI,ak (j:=1) rfl,n,r.p,r.g,rfl,_,rfl,?_⟩
  cases ho:fM n (r.p,r.g) with
  | false =>
   have e:dM n ps r=false:=by unfold dM;rw[ho];rfl
   refine aK ?_
   have:=q H (y8.refl H)
   rw[e]at this
   exact this
  | true =>
   refine aH ?_
   cases hc:r.c with
   | none =>
    refine⟨_,rfl,rfl,_,rfl,aH (aH ?_)⟩
    have s1:=y8.refl H
    have e1:dM n ps r=r.s.all fun k=>decide (k ∈ fu Prod.fst ps r.p):=by unfold dM;rw[ho,hc];rfl
    refine⟨_,rfl,x,dx,_,rfl,s1 _ _ hL.1,rfl,_,rfl,x,dx,lt,n,yO,ps,r.p,rfl,⟨s1 _ _ hL.1,s1 _ _ hL.2.1,yU.same s1 hL.2.2⟩,hlen,fun H2 D2 s2 Ap=>?_⟩
    have s3:=(s1.trans s2).new (o := .lst (ku Prod.fst ps r.p ps.length)) Ap
    have g2:(upd H2 D2 (.lst (ku Prod.fst ps r.p ps.length))) D2=some (.lst (ku Prod.fst ps r.p ps.length)):=ad
    generalize upd H2 D2 (.lst (ku Prod.fst ps r.p ps.length))=H3 at s3 g2 ⊢
    refine⟨_,rfl,t,_,3,_,rfl,rfl,yN.of (s3 _ _ hT),ak (j:=3) rfl,l,rfl,⟨_,yC.of (s3 _ _ hl)⟩,?_⟩
    refine gj (xs:=bP r.s) (fun _=>true) (fun v=>match v with | .int i => .bl (decide (i ∈ iz (fu Prod.fst ps r.p))) | _ => .yQ) (by rw[sizeLine_eq];simp only[bP,length_map];omega) (yC.of (s3 _ _ hl)) (fun y acc N hy h=>?_) (fun D hD=>?_)
    ·obtain⟨k',_,rfl⟩:=mem_map.mp hy
     exact⟨_,rfl,_,rfl,(k':Int),D2,iz (fu Prod.fst ps r.p),rfl,by rw[← nT];exact yC.of g2,by simpa using h⟩
    ·rw[pC]
     refine⟨D,r.s.map fun k=>decide (k ∈ fu Prod.fst ps r.p),rfl,yC.of ad,?_⟩
     have:=q _ (s3.new (o := .lst ((r.s.map fun k=>decide (k ∈ fu Prod.fst ps r.p)).map V.bl)) hD)
     rw[e1]at this
     rw[tV]
     exact this
   | some k =>
    refine⟨_,rfl,rfl,_,rfl,aK ?_⟩
    refine⟨_,rfl,_,rfl,x,dx,_,rfl,hL.1,rfl,_,rfl,x,dx,lt,n,yO,ps,r.p,rfl,hL,hlen,fun H' D s' hD=>?_⟩
    have s1:=s'.new (o := .lst (ku Prod.snd ps r.p ps.length)) hD
    refine⟨(k:Int),D,iz (fu Prod.snd ps r.p),rfl,by rw[← nT];exact yC.of ad,_,rfl,?_⟩
    rw[nS]
    cases hk:decide (k ∈ fu Prod.snd ps r.p) with
    | false =>
     refine aK ?_
     have e:dM n ps r=false:=by unfold dM;rw[ho,hc];dsimp only;rw[hk];rfl
     have:=q _ s1
     rw[e]at this
     exact this
    | true =>
     have e1:dM n ps r=r.s.all fun k=>decide (k ∈ fu Prod.fst ps r.p):=by unfold dM;rw[ho,hc];dsimp only;rw[hk];rfl
     refine aH ?_
     refine⟨_,rfl,x,dx,_,rfl,s1 _ _ hL.1,rfl,_,rfl,x,dx,lt,n,yO,ps,r.p,rfl,⟨s1 _ _ hL.1,s1 _ _ hL.2.1,yU.same s1 hL.2.2⟩,hlen,fun H2 D2 s2 Ap=>?_⟩
     have s3:=(s1.trans s2).new (o := .lst (ku Prod.fst ps r.p ps.length)) Ap
     have g2:(upd H2 D2 (.lst (ku Prod.fst ps r.p ps.length))) D2=some (.lst (ku Prod.fst ps r.p ps.length)):=ad
     generalize upd H2 D2 (.lst (ku Prod.fst ps r.p ps.length))=H3 at s3 g2 ⊢
     refine⟨_,rfl,t,_,3,_,rfl,rfl,yN.of (s3 _ _ hT),ak (j:=3) rfl,l,rfl,⟨_,yC.of (s3 _ _ hl)⟩,?_⟩
     refine gj (xs:=bP r.s) (fun _=>true) (fun v=>match v with | .int i => .bl (decide (i ∈ iz (fu Prod.fst ps r.p))) | _ => .yQ) (by rw[sizeLine_eq];simp only[bP,length_map];omega) (yC.of (s3 _ _ hl)) (fun y acc N hy h=>?_) (fun D hD=>?_)
     ·obtain⟨k',_,rfl⟩:=mem_map.mp hy
      exact⟨_,rfl,_,rfl,(k':Int),D2,iz (fu Prod.fst ps r.p),rfl,by rw[← nT];exact yC.of g2,by simpa using h⟩
     ·rw[pC]
      refine⟨D,r.s.map fun k=>decide (k ∈ fu Prod.fst ps r.p),rfl,yC.of ad,?_⟩
      have:=q _ (s3.new (o := .lst ((r.s.map fun k=>decide (k ∈ fu Prod.fst ps r.p)).map V.bl)) hD)
      rw[e1]at this
      rw[tV]
      exact this
structure Ts where
 tab:Addr
 told:Addr
noncomputable def vR (K:Frag):Sp:=fun vs H Q _=>∃ (x C dx:Addr)(lv:V),vs=[.ref x,lv]/\H x=some (.ins C dx [])/\Bi K C/\yP K C "land"/\Q .yQ (upd H x (.ins C dx [("land",lv)]))
noncomputable def rn (r:Rw):V := .int (Yd.zE r.s 0:Nat)
noncomputable def qR (P:Program)(w:World)(K:Frag)(c:Cs)(ts:Ts):Sp:=fun vs H Q E=>∃ (x dx lx zq lt p:Addr)(n:Int)(yO yR:List V)(ps:List (Int × Int))(rs:List Rw),
 vs=[.ref x, .ref lx, .ref p]/\H x=some (.ins ts.told dx [])/\cW H c lx zq lt n yO ps/\yC K H p yR/\BV H yR rs/\yR.length <= 100000/\ps.length <= 1000/\(∀ r ∈ rs,(∀ k ∈ r.s,k <= 1000)/\r.s.length <= 1000) /\
 (∀ i,cN n ps rs rs.length=some i->False) /\
 (cN n ps rs rs.length=none->∀ H' de yJ,Off x H H'->H' x=some (.ins ts.told dx [("land", .ref lx),("entries", .ref de)])->zA P w H' de yJ->(∀ k,cF yJ k=(cn rs k).map rn)->Q .yQ H')
noncomputable def oA (P:Program)(w:World)(ts:Ts):Sp:=fun vs H Q _=>∃ (x dx de:Addr)(lv:V)(yJ:List gB)(r:Rw)(m:Nat),vs=[.ref x, .int r.p, .int r.g,cV r.c]/\H x=some (.ins ts.told dx [("land",lv),("entries", .ref de)])/\zA P w H de yJ /\
 (cF yJ (aN r)).getD (.int 0) = .int m/\m < 2 ^ 400/\∀ H' D,y8 H H'->H' D=none->Q (.ref D) (upd H' D (.lst (xO m)))
structure OJ (K:Frag)(mg:Str->Option Value)(ts:Ts)(f1:Addr)(d1:FuncData):Prop where
 ct:Bi K ts.tab
 nt:yP K ts.tab "land"
 cd:Bi K ts.told
 Jj:yP K ts.told "land"
 Md:yP K ts.told "entries"
 mt:mg "Table" = some (.ref ts.tab)
 cm:wu K ts.tab "__init__" f1
 bt:Binds K d1 ["self", "land"] []
abbrev NT:List Str:=["self", "land", "rows", "number", "row", "key"]
theorem Off.land {H H':Hp}{x C dx:Addr}(o:Off x H H')(hx:H x=some (.ins C dx [])){c:Cs}{lx zq lt:Addr}{n:Int}{yO:List V}{ps:List (Int × Int)}(h:cW H c lx zq lt n yO ps):cW H' c lx zq lt n yO ps :=
 ⟨o _ _ (aX h.1 hx (by intro z;cases z)) h.1,o _ _ (aX h.2.1 hx (by intro z;cases z)) h.2.1,o.C7 hx h.2.2⟩
theorem Jk:ap ["self", "land"] ["self", "land"] (ah wQ):=L2.ze
theorem xr {f:Addr}{fd:FuncData}(F:yY K "__init__" "Table.__init__" wQ f fd):y9 P w K mg base aC 1 f fd ["self", "land"] (vR K):=by
 refine F.ok Jk (fun _ _ _ _ h=>?_) (fun _ _ _ s H _ Q E hr h=>?_)
 ·obtain⟨x,C,dx,lv,rfl,_⟩:=h
  rfl
 ·obtain⟨x,C,dx,lv,rfl,hx,hc,hn,q⟩:=h
  refine⟨_,ag (aZ (pv 0) (pv 1) rfl),?_⟩
  exact⟨_,rfl,_,rfl,x,C,dx,_,rfl,hx,hc,hn,by show 0 < 1000;decide,q⟩
theorem ut:ap ["self", "place", "goal", "came"] ["self", "place", "goal", "came"] (ah nc):=L2.ze
theorem se {ts:Ts}{f fm f1:Addr}{fd dm d1:FuncData}(F:yY K "ways" "Told.ways" nc f fd)(B:OJ K mg ts f1 d1)(mm:mg "members" = some (.ref fm))(km:keepIn K (.ref fm)=true)(bm:Binds K dm ["some"] [])
  (Gm:y9 P w K mg base aC 2 fm dm ["some"] qX):y9 P w K mg base aC 3 f fd ["self", "place", "goal", "came"] (oA P w ts):=by
 refine F.ok ut (fun _ _ _ _ h=>?_) (fun _ _ _ s H _ Q E hr h=>?_)
 ·obtain⟨x,dx,de,lv,yJ,r,m,rfl,_⟩:=h
  rfl
 ·obtain⟨x,dx,de,lv,yJ,r,m,rfl,hx,hd,hv,hm,q⟩:=h
  have hu:=wn hr
  refine⟨_,ag (ar (au Gm hr rfl mm km bm .nil ao (aa (rS hu (am (pv 0) rfl) (aa (bj (aa (pv 1) (aa (pv 2) (aa (pv 3) ac)))) (aa aj ac))) ac))),?_⟩
  refine⟨_,rfl,x,ts.told,dx,_,_,rfl,hx,B.cd,B.Md,rfl,de,yJ,rfl,hd,?_⟩
  refine⟨_,rfl,_,rfl,_,rfl,by show 3 <= sizeLine;decide,fun t ht=>?_⟩
  have s1:y8 H (upd H t (.tup [.int r.p, .int r.g,cV r.c])):=(y8.refl H).new ht
  refine⟨_,_,cF yJ (aN r),rfl,⟨yJ,aN r,t,hd.same s1,rfl,by rw[pi];exact ad,rfl⟩,?_⟩
  rw[hv]
  exact⟨m,rfl,hm,fun D hD=>q _ D s1 hD⟩
theorem Bn:ap NT ["self", "land", "rows"] (ah r6):=L2.ze
theorem uP {c:Cs}{ts:Ts}{f ff fs f1:Addr}{fd df ds d1:FuncData}(F:yY K "__init__" "Told.__init__" r6 f fd)(T:dP mg)(B:OJ K mg ts f1 d1)(G1:y9 P w K mg base aC 1 f1 d1 ["self", "land"] (vR K))
  (mf:mg "row_fits" = some (.ref ff)) (kf:keepIn K (.ref ff)=true) (bf:Binds K df ["land", "row"] []) (Gf:y9 P w K mg base aC 4 ff df ["land", "row"] (rl c))
  (ms:mg "set_of" = some (.ref fs)) (ks:keepIn K (.ref fs)=true) (bs:Binds K ds ["numbers"] []) (Gs:y9 P w K mg base aC 1 fs ds ["numbers"] (vU K)) :
  y9 P w K mg base aC 5 f fd ["self", "land", "rows"] (qR P w K c ts):=by
 refine F.ok Bn (fun _ _ _ _ h=>?_) (fun _ _ _ s H _ Q E hr h=>?_)
 ·obtain⟨x,dx,lx,zq,lt,p,n,yO,yR,ps,rs,rfl,_⟩:=h
  rfl
 ·obtain⟨x,dx,lx,zq,lt,p,n,yO,yR,ps,rs,rfl,hx,hL,hp,hR,hlen,DK,Ue,hE,hQ⟩:=h
  have zp:yK 1 _:=hr.mono (by decide)
  have zT:yK 2 _:=hr.mono (by decide)
  have hu:=wn hr
  refine⟨_,ae (aO (rV (eP (v := .ref ts.tab) rfl B.mt rfl) B.cm G1 zp B.bt .nil ao (aa (pv 0) (aa (pv 1) ac))))
   (ae (aZ (pv 0) (show PE _ _ (vN P w) from uH) rfl)
   (ag (bB PassesOwn.never rfl (l5 rfl T.enum (aa (pv 2) ac)) (e9 rfl (aW (av (i:=3) Bn.nd rfl (Or.inl rfl)) (aW (av (i:=4) Bn.nd rfl (Or.inl rfl)) cQ)))
    (ae (aE (i:=5) Bn.nd rfl (Or.inl rfl) (bj (aa (az yE (pv 4) aj (fun _ _=>rfl)) (aa (az yE (pv 4) aj (fun _ _=>rfl)) (aa (az yE (pv 4) aj (fun _ _=>rfl)) ac)))))
    (ae (aL (PW.pt (eu (bF (bA (au Gf hr rfl mf kf bf .nil ao (aa (pv 1) (aa (pv 4) ac))))) (cG (xh (xn hu (pv 5) (am (pv 0) rfl))))))
     (ag bJ) aB)
    (ag (uG hu (am (pv 0) rfl) (pv 5) (au Gs zp rfl ms ks bs .nil ao (aa (az yE (pv 4) aj (fun _ _=>rfl)) ac)) rfl))))))),?_⟩
  refine⟨rfl,_,rfl,_,rfl,x,ts.told,dx,_,rfl,hx,B.cd,B.Jj,?_⟩
  refine fun de Mf=>⟨_,rfl,x,ts.told,dx,[("land", .ref lx)],rfl,by rw[af (ai ad Mf)];exact ad,B.cd,B.Md,by show 1 < 1000;decide,?_⟩
  have Mg:x ≠ de:=ai ad Mf
  have Jl:H de=none:=by rw[af (Ne.symm Mg)]at Mf;exact Mf
  generalize F3:upd (upd (upd H x (.ins ts.told dx [("land", .ref lx)])) de (mD P w de [])) x (.ins ts.told dx (aM "entries" (.ref de) [("land", .ref lx)]))=H2
  have o2:Off x H H2:=fun b o hb e=>by rw[← F3,af hb,af (ai e Jl),af hb];exact e
  have x2:H2 x=some (.ins ts.told dx [("land", .ref lx),("entries", .ref de)]):=by rw[← F3,ad];rfl
  have d2:zA P w H2 de []:=⟨by rw[← F3,af (Ne.symm Mg),ad],fun y hy=>by cases hy⟩
  have hrs:yR.length=rs.length:=Paired.length hR
  refine⟨_,rfl,p,rfl,⟨_,o2.sq hx hp⟩,lM (sq:=fun H=>yC K H p) (xs:=yR) (fun i σ H3=>∃ (a b k:Option V)(yJ:List gB),Off x H H3/\H3 x=some (.ins ts.told dx [("land", .ref lx),("entries", .ref de)])/\zA P w H3 de yJ/\yJ.length <= i /\
    (∀ k,cF yJ k=(cn (rs.take i) k).map rn)/\(∀ j,j < i->m6 n ps (rs.take j) (rs.getD j ⟨0,0,none,[]⟩)=false)/\σ=[some (.ref x),some (.ref lx),some (.ref p),a,b,k])
   ⟨none,none,none,[],o2,x2,d2,Nat.le_refl _,fun k=>rfl,fun j hj=>absurd hj (not_lt_zero _),rfl⟩ (fun i σ H3 _ yD=>by obtain⟨_,_,_,_,o3,_⟩:=yD;exact o3.sq hx hp) ?_ ?_⟩
  ·rintro i v q σ H3 hv ⟨a,b,k,yJ,o3,x3,d3,l3,v3,g3,rfl⟩ hq
   obtain⟨r,hri,t,l,rfl,hT⟩:=BV.get hR hv
   have hi:i < rs.length:=(gQ0 hri)
   have Mj:rs.getD i ⟨0,0,none,[]⟩ = r:=by rw[getD_eq_getElem?_getD,hri];rfl
   have FG:FE H3 t l r:=⟨o3 _ _ (aX hT.1 hx (by intro z;cases z)) hT.1,o3 _ _ (aX hT.2 hx (by intro z;cases z)) hT.2⟩
   have Bu:=o3.land hx hL
   have s4:y8 H3 (upd H3 q (.tup [.int i, .ref t])):=(y8.refl H3).new hq
   refine⟨q,_,rfl,yN.of ad,rfl,_,_,rfl,_,_,rfl,rfl,?_⟩
   generalize upd H3 q (.tup [.int i, .ref t])=H4 at s4 ⊢
   have Jm:yN K H4 t [.int r.p, .int r.g,cV r.c, .ref l]:=yN.of (s4 _ _ FG.1)
   refine⟨_,rfl,t,_,0,_,rfl,rfl,Jm,ak (j:=0) rfl,_,rfl,t,_,1,_,rfl,rfl,Jm,ak (j:=1) rfl,_,rfl,t,_,2,_,rfl,rfl,Jm,ak (j:=2) rfl,by show 3 <= sizeLine;decide,fun kt hkt=>?_⟩
   have s5:y8 H3 (upd H4 kt (.tup [.int r.p, .int r.g,cV r.c])):=s4.new hkt
   have k5:(upd H4 kt (.tup [.int r.p, .int r.g,cV r.c])) kt=some (.tup ((aN r).map ub)):=by rw[pi];exact ad
   generalize upd H4 kt (.tup [.int r.p, .int r.g,cV r.c])=H5 at s5 k5 ⊢
   refine⟨_,rfl,_,rfl,lx,zq,lt,t,l,n,yO,ps,r,rfl,⟨s5 _ _ Bu.1,s5 _ _ Bu.2.1,yU.same s5 Bu.2.2⟩,FG.same s5,DK,(Ue r (mem_of_getElem? hri)).2,fun H6 Hr=>⟨_,rfl,?_⟩⟩
   have s6:=s5.trans Hr
   have k6:=Hr _ _ k5
   have x6:=s6 _ _ x3
   have d6:=d3.same s6
   have EL:m6 n ps (rs.take i) r=true->False:=fun hb=>hE i (jl hi g3 (by rw[Mj];exact hb))
   cases hf:dM n ps r with
   | false =>
    exact aK (aK (EL (by rw[gy,hf];rfl)))
   | true =>
    refine aH ⟨_,rfl,_,rfl,x,ts.told,dx,_,_,rfl,x6,B.cd,B.Md,rfl,de,_,rfl,⟨yJ,aN r,kt,d6,rfl,k6,rfl⟩,_,rfl,?_⟩
    have eS:(cF yJ (aN r)).isSome=(rs.take i).any fun a=>decide (aN a=aN r):=by rw[v3,Option.isSome_map,kj]
    cases hS:(cF yJ (aN r)).isSome with
    | true =>
     exact aK (EL (by rw[gy,hf,← eS,hS];rfl))
    | false =>
     refine aH ?_
     have Ug:=FG.same s6
     refine⟨_,rfl,t,_,3,_,rfl,rfl,yN.of Ug.1,ak (j:=3) rfl,l,r.s,rfl,yC.of Ug.2,(Ue r (mem_of_getElem? hri)).1,?_⟩
     refine⟨_,rfl,x,ts.told,dx,_,_,rfl,x6,B.cd,B.Md,rfl,_,rfl,de,yJ,aN r,kt,rfl,d6,rfl,k6,by rw[sizeLine_eq];omega,?_⟩
     have hx6:x ≠ de:=Mg
     refine⟨_,_,_,gL yJ (aN r) kt (rn r),fun b' o hb e=>?_,?_,⟨ad,pK (F:=fun k a=>(upd H6 de (mD P w de (gL yJ (aN r) kt (rn r)))) a=some (.tup (k.map ub))) (fun y hy=>?_) ?_⟩,?_,fun k'=>?_,fun j hj=>?_,rfl⟩
     ·rw[af (ai e Jl)];exact s6 _ _ (o3 _ _ hb e)
     ·rw[af Mg];exact x6
     ·rw[af (aX (d6.2 y hy) d6.1 (by intro z;cases z))];exact d6.2 y hy
     ·rw[af (aX k6 d6.1 (by intro z;cases z))];exact k6
     ·exact le_trans ij (Nat.succ_le_succ l3)
     ·rw[q5,take_succ,hri,Option.toList_some,nR,v3]
      by_cases hk:k' = aN r
      ·rw[if_pos hk,if_pos hk];rfl
      ·rw[if_neg hk,if_neg hk]
     ·rcases lt_or_ge j i with h | h
      ·exact g3 j h
      ·have:j=i:=by omega
       subst this
       rw[Mj,gy,hf,← eS,hS];rfl
  ·rintro σ H3 ⟨a,b,k,yJ,o3,x3,d3,l3,v3,g3,rfl⟩
   rw[hrs]at g3 v3
   rw[take_length]at v3
   exact hQ (fv g3) H3 de yJ o3 x3 d3 v3
noncomputable def nV (ps:List Nat):List V:=ps.map fun q:Nat=>V.int (q:Int)
theorem cp (ps:List Nat):(nV ps).length=ps.length:=by simp[nV]
theorem nL {ps:List Nat}{k q:Nat}(h:ps[k]? = some q):(nV ps)[k]? = some (V.int (q:Int)):=by simp[nV,h]
theorem xN (a b:List Nat):nV (a ++ b)=nV a ++ nV b:=by unfold nV;rw[map_append]
theorem iU {ps:List Nat}{v:V}(h:v ∈ nV ps):∃ q:Nat,q ∈ ps/\v = .int (q:Int):=by
 obtain⟨q,hq,e⟩:=mem_map.mp h
 exact⟨q,hq,e.symm⟩
noncomputable def rm (c:Cs)(sel:Int × Int->Int):Sp:=fun vs H Q _=>∃ (x dx t:Addr)(n:Int)(yO:List V)(ps:List (Int × Int))(k:Nat)(pr:Int × Int),vs=[.ref x, .int k]/\cW H c x dx t n yO ps/\ps[k]? = some pr/\Q (.int (sel pr)) H
structure ua (K:Frag)(c:Cs)(f:Addr)(d:FuncData):Prop where
 m:bM K c.land "end_of" f
 b:Binds K d ["self", "lane"] []
theorem bE (a b:Int):decide (V.int a=V.int b)=decide (a=b):=by
 by_cases h:a=b
 ·rw[h];simp
 ·rw[decide_eq_false h,decide_eq_false fun z=>h (by injection z)]
theorem iA {F:List Nat}{p:Nat}(h:p < F.length):(nV F)[p]? = some (V.int ((F.getD p 0:Nat):Int)):=by
 have e:=getElem?_eq_getElem h
 rw[nL e,getD_eq_getElem?_getD,e];rfl
theorem sO (F:List Nat)(i v:Nat):(nV F).set i (.int (v:Int))=nV (F.set i v):=by unfold nV;rw[List.map_set]
theorem eU {n i:Nat}(h:i < n):vw n (i:Int)=some i:=by
 unfold vw
 rw[if_pos (by omega),if_pos (by omega),toNat_natCast]
noncomputable def mN (m:Nat):List Nat:=Yd.Dc m (Builtin.Int.intBits (m:Int))
theorem Jn:ap ["self", "lane"] ["self", "lane"] (ah xa):=L2.ze
theorem xH {c:Cs}{f:Addr}{fd:FuncData}(F:yY K "end_of" "Land.end_of" xa f fd)(L:mG K c):y9 P w K mg base aC 1 f fd ["self", "lane"] (rm c Prod.snd):=by
 refine F.ok Jn (fun _ _ _ _ h=>?_) (fun _ _ _ s H _ Q E hr h=>?_)
 ·obtain⟨x,dx,t,n,yO,ps,k,pr,rfl,_⟩:=h
  rfl
 ·obtain⟨x,dx,t,n,yO,ps,k,pr,rfl,⟨hx,ht,hl⟩,hk,q⟩:=h
  refine⟨_,ag (ar (az yE (az yE (am (pv 0) rfl) (pv 1) (fun _ _=>rfl)) aj (fun _ _=>rfl))),?_⟩
  obtain⟨v,hv,u,rfl,hu⟩:=yU.FD hl hk
  refine⟨_,rfl,x,c.land,dx,_,_,rfl,hx,L.cl,L.nl,rfl,_,rfl,t,_,_,_,rfl,rfl,yN.of ht,ak hv,u,_,1,_,rfl,rfl,yN.of hu,ak (j:=1) rfl,q⟩
noncomputable def isI:V->Bool
 | .int _=>true
 | _=>false
noncomputable def ju:V->Int->Int->Bool
 | .int i,a,b=>decide (a <= i/\i <= b)
 | _,_,_=>false
inductive qu:V->Prop
 | int (i:Int):qu (.int i)
 | bl (b:Bool):qu (.bl b)
 | yQ:qu .yQ
structure tY (K:Frag):Prop where
 ii:kitOne K (.type "int") (.type "int")=some true
 ib:kitOne K (.type "int") (.type "bool")=some false
 bi:kitOne K (.type "bool") (.type "int")=some true
 bb:kitOne K (.type "bool") (.type "bool")=some true
 ni:kitOne K (.type "NoneType") (.type "int")=some false
noncomputable def fR:Sp:=fun vs H Q _=>∃ v,vs=[v]/\qu v/\Q (.bl (isI v)) H
noncomputable def eO:Sp:=fun vs H Q _=>∃ (v:V)(a b:Int),vs=[v, .int a, .int b]/\qu v/\Q (.bl (ju v a b)) H
noncomputable def mX (K:Frag):Sp:=fun vs H Q _=>∃ (a:Addr)(ns:List Int)(k:Nat),vs=[.ref a, .int k]/\yC K H a (ns.map V.int)/\∀ d,Q (.int d) H
noncomputable def jt:Sp:=fun vs H Q _=>∃ (c:Int)(k:Nat),vs=[.int c, .int k]/\k <= 1000000/\∀ d:Int,0 <= d->Q (.int d) H
theorem yU.imp {H H':Hp}(h:∀ v p,vM H v p->vM H' v p):∀ {vs:List V}{ps:List (Int × Int)},yU H vs ps->yU H' vs ps:=fun yD=>by
 induction yD with
 | nil=>exact .nil
 | cons z r ih=>exact .cons (h _ _ z) ih
noncomputable def hV:Option Int->V
 | none => .yQ
 | some z => .int z
abbrev Fs:=List (Str × V)
noncomputable def ip (r b:Int)(h:V)(pa:Addr):Fs:=[("rights", .int r),("returning", .int b),("holder",h),("pieces", .ref pa)]
structure yV (H:Hp)(C x dx pa:Addr)(r b:Int)(h:Option Int)(yS:List V)(qs:List (Int × Int)):Prop where
 ins:H x=some (.ins C dx (ip r b (hV h) pa))
 lst:H pa=some (.lst yS)
 zL:yU H yS qs
noncomputable def zU (x pa:Addr)(H H':Hp):Prop:=∀ a o,a ≠ x->a ≠ pa->H a=some o->H' a=some o
theorem zU.C7 {C x dx pa:Addr}{fs:Fs}{yS:List V}{H H':Hp}(h:zU x pa H H')(hx:H x=some (.ins C dx fs))(hp:H pa=some (.lst yS)){vs:List V}{qs:List (Int × Int)}:yU H vs qs->yU H' vs qs :=
 yU.imp fun _ _ yD=>by obtain⟨t,e,q⟩:=yD;exact⟨t,e,h _ _ (aX q hx (by intro z;cases z)) (aX q hp (by intro z;cases z)) q⟩
theorem yV.same {H H':Hp}{C x dx pa:Addr}{r b:Int}{h:Option Int}{yS:List V}{qs:List (Int × Int)}(L:yV H C x dx pa r b h yS qs)(s:y8 H H'):yV H' C x dx pa r b h yS qs:=⟨s _ _ L.ins,s _ _ L.lst,yU.same s L.zL⟩
noncomputable def bT (r:Int)(h:Option Int)(l c:Int):Bool:=if r=0 then false else if c=0 then decide (h=none) else decide (h=some l)
theorem ye (h:Option Int):decide (hV h=V.yQ)=decide (h=none):=by cases h<;>rfl
theorem yf (h:Option Int)(l:Int):decide (hV h=V.int l)=decide (h=some l):=by
 cases h with
 | none=>rfl
 | some z =>
  show decide (V.int z=V.int l)=_
  rw[bE]
  by_cases e:z=l
  ·rw[decide_eq_true e,decide_eq_true (by rw[e])]
  ·rw[decide_eq_false e,decide_eq_false fun q=>e (Option.some.inj q)]
theorem vx (h:Option Int)(l:Int):wI (hV h) (.int l)=true:=by cases h<;>rfl
structure vL (K:Frag)(C:Addr):Prop where
 cl:Bi K C
 n1:yP K C "rights"
 n2:yP K C "returning"
 n3:yP K C "holder"
 n4:yP K C "pieces"
noncomputable def rb (C:Addr):Sp:=fun vs H Q _=>∃ (x dx:Addr)(room:Int),vs=[.ref x, .int room]/\H x=some (.ins C dx [])/\∀ (pa:Addr)(H':Hp),H pa=none->(∀ a o,a ≠ x->H a=some o->H' a=some o)->yV H' C x dx pa room 0 none [] []->Q .yQ H'
noncomputable def jH (C:Addr):Sp:=fun vs H Q _=>∃ (x dx pa:Addr)(r b:Int)(h:Option Int)(l c:Int),vs=[.ref x, .int l, .int c]/\H x=some (.ins C dx (ip r b (hV h) pa))/\Q (.bl (bT r h l c)) H
noncomputable def vV (C:Addr):Sp:=fun vs H Q _=>∃ (x dx pa:Addr)(r b:Int)(h:Option Int)(yS:List V)(qs:List (Int × Int))(l c:Int)(last:Bool),vs=[.ref x, .int l, .int c, .bl last]/\yV H C x dx pa r b h yS qs/\yS.length < 100000 /\
 (bT r h l c=false->False) /\
 (bT r h l c=true->∀ (t:Addr)(H':Hp),zU x pa H H'->yV H' C x dx pa (r - 1) b (if last then none else some l) (yS ++ [.ref t]) (qs ++ [(l,c)])->Q .yQ H')
noncomputable def nY:List V->V
 | [] => .yQ
 | v :: _=>v
noncomputable def iy (C:Addr):Sp:=fun vs H Q _=>∃ (x dx pa:Addr)(r b:Int)(h:Option Int)(yS:List V)(qs:List (Int × Int)),vs=[.ref x]/\yV H C x dx pa r b h yS qs/\Q (nY yS) H
noncomputable def mR (C:Addr):Sp:=fun vs H Q _=>∃ (x dx pa:Addr)(r b:Int)(h:Option Int)(yS:List V)(qs:List (Int × Int)),vs=[.ref x]/\yV H C x dx pa r b h yS qs /\
 (yS=[]->False) /\
 (∀ v rest,yS=v :: rest->∀ H':Hp,zU x pa H H'->yV H' C x dx pa r (b + 1) h rest qs.tail->Q v H')
noncomputable def oO (C:Addr):Sp:=fun vs H Q _=>∃ (x dx pa:Addr)(r b:Int)(h:Option Int)(yS:List V)(qs:List (Int × Int)),vs=[.ref x]/\yV H C x dx pa r b h yS qs /\
 (b=0->False) /\
 (b ≠ 0->∀ H':Hp,zU x pa H H'->yV H' C x dx pa (r + 1) (b - 1) h yS qs->Q .yQ H')
noncomputable def vZ (C:Addr):Sp:=fun vs H Q _=>∃ (x dx pa:Addr)(r b:Int)(h:Option Int)(yS:List V)(qs:List (Int × Int)),vs=[.ref x]/\yV H C x dx pa r b h yS qs /\
 ∀ (t ql:Addr)(H':Hp),y8 H H'->H ql=none->H' t=some (.tup [.int r, .int b,hV h, .ref ql])->H' ql=some (.lst yS)->Q (.ref t) H'
theorem OK (n:Nat):seqIndex? 0 (n + 1)=some 0:=by
 unfold seqIndex?
 simp
theorem jv {f:Addr}{fd:FuncData}(F:yY K "is_whole" "is_whole" fE f fd)(T:dP mg)(Z:tY K):y9 P w K mg base aC 1 f fd ["value"] fR:=by
 refine F.ok oQ (fun _ _ _ _ h=>?_) (fun _ _ _ s H _ Q E hr h=>?_)
 ·obtain⟨m,rfl,_⟩:=h
  rfl
 ·obtain⟨v,rfl,hv,q⟩:=h
  refine⟨_,ag (ar (cT (aw gr rfl T.Hq PyProof.Rows.boot_isinstance (aa (pv 0) (aa (eQ (v := .ty "int") rfl T.int PySem.Pv.boot_int rfl) ac)))
   (cS (rT (aw gr rfl T.Hq PyProof.Rows.boot_isinstance (aa (pv 0) (aa (eQ (v := .ty "bool") rfl T.bool PySem.Pv.boot_bool rfl) ac))))))),?_⟩
  cases hv with
  | int i=>exact⟨_,rfl, .int i,_, "int",true,rfl, .int i,Z.ii,true,rfl,aK ⟨_,rfl, .int i,_, "bool",false,rfl, .int i,Z.ib,false,rfl,q⟩⟩
  | bl b=>exact⟨_,rfl, .bl b,_, "int",true,rfl, .bl b,Z.bi,true,rfl,aK ⟨_,rfl, .bl b,_, "bool",true,rfl, .bl b,Z.bb,true,rfl,q⟩⟩
  | yQ=>exact⟨_,rfl, .yQ,_, "int",false,rfl, .yQ,Z.ni,false,rfl,aH q⟩
theorem nJ {f fh:Addr}{fd Bt:FuncData}(F:yY K "is_within" "is_within" i6 f fd)(T:dP mg)(Z:tY K)(mh:mg "is_whole" = some (.ref fh))(Fh:yY K "is_whole" "is_whole" fE fh Bt)(bh:Binds K Bt ["value"] []) :
  y9 P w K mg base aC 2 f fd ["value", "least", "most"] eO:=by
 have G:y9 P w K mg base aC 1 fh Bt ["value"] fR:=jv Fh T Z
 refine F.ok kX (fun _ _ _ _ h=>?_) (fun _ _ _ s H _ Q E hr h=>?_)
 ·obtain⟨i,a,b,rfl,_⟩:=h
  rfl
 ·obtain⟨v,a,b,rfl,hv,q⟩:=h
  refine⟨_,ag (ar (cT (au G hr rfl mh Fh.kp bh .nil ao (aa (pv 0) ac)) (cS (l6 l8 l8 (pv 1) (pv 0) (pv 2))))),?_⟩
  cases hv with
  | bl x=>exact⟨_,rfl,_,rfl, .bl x,false,rfl,aH q⟩
  | yQ=>exact⟨_,rfl,_,rfl, .yQ,false,rfl,aH q⟩
  | int i =>
   refine⟨_,rfl,_,rfl, .int i,true,rfl,aK ?_⟩
   refine⟨_,rfl,_,rfl,_,_,rfl,rfl,_,rfl,?_⟩
   have q:Q (V.bl (decide (a <= i/\i <= b))) H:=q
   by_cases h1:a <= i
   ·rw[decide_eq_true h1]
    refine aK ⟨_,rfl,_,_,rfl,rfl,?_⟩
    show Q (V.bl (decide (i <= b))) H
    by_cases h2:i <= b
    ·rw[decide_eq_true h2];rw[decide_eq_true ⟨h1,h2⟩]at q;exact q
    ·rw[decide_eq_false h2];rw[decide_eq_false fun z=>h2 z.2]at q;exact q
   ·rw[decide_eq_false h1]
    refine aH ?_
    rw[decide_eq_false fun z=>h1 z.1]at q;exact q
theorem wO:ap ["_law_script", "_law_k"] ["_law_script", "_law_k"] (ah rM):=L2.ze
theorem vj {f:Addr}{fd:FuncData}(F:yY K "_law_cell_at" "_law_cell_at" rM f fd)(T:dP mg):y9 P w K mg base aC 1 f fd ["_law_script", "_law_k"] (mX K):=by
 refine F.ok wO (fun _ _ _ _ h=>?_) (fun _ _ _ s H _ Q E hr h=>?_)
 ·obtain⟨a,ns,k,rfl,_⟩:=h
  rfl
 ·obtain⟨a,ns,k,rfl,hS,q⟩:=h
  refine⟨_,ae (aL (ax l7 (pv 1) (aw aq rfl T.len PySem.boot_len (aa (pv 0) ac)) (aA _))
    (ag (ar (az yG (pv 0) (pv 1) (fun _ _=>rfl)))) aB) (ag (ar aj)),?_⟩
  refine⟨_,rfl,_,rfl,a,_,rfl, .inl hS,_,_,rfl,rfl,_,rfl,?_⟩
  refine IB (fun h=>?_) fun _=>q _
  have h':(k:Int) < ((ns.map V.int).length:Nat):=of_decide_eq_true h
  rw[length_map]at h'
  have hk:k < ns.length:=by omega
  exact⟨_,rfl,_,rfl,a,_,k,V.int ns[k],rfl,rfl,hS,ak (by simp[hk]),q _⟩
theorem EM:ap ["_law_cell", "_law_k", "_law_number"] ["_law_cell", "_law_k"] (ah wV):=L2.ze
theorem x5 {f:Addr}{fd:FuncData}(F:yY K "_law_mixed" "_law_mixed" wV f fd):y9 P w K mg base aC 1 f fd ["_law_cell", "_law_k"] jt:=by
 refine F.ok EM (fun _ _ _ _ h=>?_) (fun _ _ _ s H _ Q E hr h=>?_)
 ·obtain⟨c,k,rfl,_⟩:=h
  rfl
 ·obtain⟨c,k,rfl,hk,q⟩:=h
  refine⟨_,ae (aL (ax bK (aD bG (pv 0) aj) aj (aA _)) (ag (ar (aD bG (aD jV (pv 0) (aD ca aj (aD gN aj (aD bG (pv 1) aj)))) (aD jW aj aj)))) aB)
   (ae (aE (i:=2) EM.nd rfl (Or.inl rfl) (aD bG (aD gN (aD ca (aD ca (aD bG (aD cj (pv 0) aj) aj) (aD gN aj (pv 1))) aj) aj) aj))
   (ag (ar (aD bG (aD gN (pv 2) (aD ca (aD cj (pv 2) aj) aj)) aj)))),?_⟩
  have pos:(0:Int) < 2147483647:=by decide
  refine⟨_,rfl,_,_,rfl,rfl,(by show (0:Int) < 2;decide),rfl,_,rfl,?_⟩
  dsimp only
  by_cases Jo:c % 2=1
  ·rw[decide_eq_true (show V.int (c % 2)=V.int 1 by rw[Jo])]
   have h0:=emod_nonneg (k:Int) (show (120:Int) ≠ 0 by decide)
   refine aK ⟨_,rfl,_,rfl,_,_,rfl,rfl,(by show (0:Int) < 120;decide),_,_,rfl,rfl, .inl ⟨by decide,by decide⟩,_,_,rfl,rfl,_,_,rfl,rfl,(by show (0:Int) <= 1 + 20 * ((k:Int) % 120);omega),_,_,rfl,rfl,⟨by decide,by decide,by decide⟩,_,_,rfl,rfl,(by show (0:Int) < 2 ^ (20:Int).toNat;decide +kernel),?_⟩
   exact q _ (emod_nonneg _ (by decide +kernel))
  rw[decide_eq_false (show ¬ V.int (c % 2)=V.int 1 from fun z=>Jo (V.int.inj z))]
  refine aH ⟨_,rfl,_,_,rfl,rfl,⟨by decide,by decide⟩,_,_,rfl,rfl,pos,_,rfl,_,_,rfl,rfl, .inl ⟨by decide,by decide⟩,_,_,rfl,rfl,_,_,rfl,rfl,_,_,rfl,rfl, .inr ⟨by decide,by decide⟩,_,_,rfl,rfl,pos,?_⟩
  dsimp only
  have h1:=emod_nonneg ((c / 2 % 2147483647 + 7919 * (k:Int) + 1) * 48271) (show (2147483647:Int) ≠ 0 by decide)
  have h2:=emod_lt_of_pos ((c / 2 % 2147483647 + 7919 * (k:Int) + 1) * 48271) pos
  generalize (c / 2 % 2147483647 + 7919 * (k:Int) + 1) * 48271 % 2147483647=m at h1 h2
  refine⟨_,rfl,_,rfl,_,_,rfl,rfl,⟨by decide,by decide⟩,_,_,rfl,rfl,_,_,rfl,rfl, .inl ⟨by omega,by omega⟩,_,_,rfl,rfl,pos,?_⟩
  exact q _ (emod_nonneg _ (by decide))
theorem Jp:ap ["self", "room"] ["self", "room"] (ah wY):=L2.ze
theorem xD {C f:Addr}{fd:FuncData}(F:yY K "__init__" "Lane.__init__" wY f fd)(L:vL K C):y9 P w K mg base aC 1 f fd ["self", "room"] (rb C):=by
 refine F.ok Jp (fun _ _ _ _ h=>?_) (fun _ _ _ s H _ Q E hr h=>?_)
 ·obtain⟨x,dx,room,rfl,_⟩:=h
  rfl
 ·obtain⟨x,dx,room,rfl,hx,q⟩:=h
  refine⟨_,ae (aZ (pv 0) (pv 1) rfl) (ae (aZ (pv 0) aj rfl) (ae (aZ (pv 0) b8 rfl) (ag (aZ (pv 0) (aR ac) rfl)))),?_⟩
  refine⟨_,rfl,_,rfl,x,C,dx,_,rfl,hx,L.cl,L.n1,by show 0 < 1000;decide,?_⟩
  refine⟨_,rfl,x,C,dx,_,rfl,ad,L.cl,L.n2,by show 1 < 1000;decide,?_⟩
  refine⟨_,rfl,x,C,dx,_,rfl,ad,L.cl,L.n3,by show 2 < 1000;decide,?_⟩
  refine⟨zero_le _,fun pa BF=>?_⟩
  have B7:x ≠ pa:=ai ad BF
  refine⟨_,rfl,x,C,dx,_,rfl,by rw[af B7];exact ad,L.cl,L.n4,by show 3 < 1000;decide,?_⟩
  have Eh:H pa=none:=by
   rw[af (Ne.symm B7),af (Ne.symm B7),af (Ne.symm B7)]at BF
   exact BF
  refine q pa _ Eh (fun a o ha e=>?_) ⟨ad,by rw[af (Ne.symm B7)];exact ad, .nil⟩
  have nap:a ≠ pa:=fun z=>by
   rw[z,Eh]at e
   cases e
  rw[af ha,af nap,af ha,af ha,af ha]
  exact e
theorem wM:ap ["self", "letter", "count"] ["self", "letter", "count"] (ah rC):=L2.ze
theorem uV {C f:Addr}{fd:FuncData}(F:yY K "open_to" "Lane.open_to" rC f fd)(L:vL K C):y9 P w K mg base aC 1 f fd ["self", "letter", "count"] (jH C):=by
 refine F.ok wM (fun _ _ _ _ h=>?_) (fun _ _ _ s H _ Q E hr h=>?_)
 ·obtain⟨x,dx,pa,r,b,h,l,c,rfl,_⟩:=h
  rfl
 ·obtain⟨x,dx,pa,r,b,h,l,c,rfl,hx,q⟩:=h
  refine⟨_,ae (aL (ax bK (am (pv 0) rfl) aj (aA _)) (ag (ar fq)) aB)
   (ae (aL (ax bK (pv 2) aj (aA _)) (ag (ar (cy gO (am (pv 0) rfl) b8 (aA _)))) aB)
   (ag (ar (cy bK (am (pv 0) rfl) (pv 1) (aA _))))),?_⟩
  refine⟨_,rfl,x,C,dx,_,_,rfl,hx,L.cl,L.n1,rfl,rfl,_,rfl,?_⟩
  rw[bE]
  unfold bT at q
  by_cases BW:r=0
  ·rw[decide_eq_true BW]
   rw[if_pos BW]at q
   exact aK q
  rw[decide_eq_false BW]
  rw[if_neg BW]at q
  refine aH ⟨_,rfl,rfl,_,rfl,?_⟩
  rw[bE]
  by_cases hc0:c=0
  ·rw[decide_eq_true hc0]
   rw[if_pos hc0]at q
   refine aK ⟨_,rfl,x,C,dx,_,_,rfl,hx,L.cl,L.n3,rfl,rfl,?_⟩
   rw[ye]
   exact q
  ·rw[decide_eq_false hc0]
   rw[if_neg hc0]at q
   refine aH ⟨_,rfl,x,C,dx,_,_,rfl,hx,L.cl,L.n3,rfl,_,rfl,vx h l,?_⟩
   rw[yf]
   exact q
theorem Jq:ap ["self", "letter", "count", "last"] ["self", "letter", "count", "last"] (ah wT):=L2.ze
theorem xw {C f fo:Addr}{fd AW:FuncData}(F:yY K "put" "Lane.put" wT f fd)(L:vL K C)(mo:bM K C "open_to" fo)(bo:Binds K AW ["self", "letter", "count"] [])(Go:y9 P w K mg base aC 1 fo AW ["self", "letter", "count"] (jH C)) :
  y9 P w K mg base aC 2 f fd ["self", "letter", "count", "last"] (vV C):=by
 refine F.ok Jq (fun _ _ _ _ h=>?_) (fun _ _ _ s H _ Q E hr h=>?_)
 ·obtain⟨x,dx,pa,r,b,h,yS,qs,l,c,last,rfl,_⟩:=h
  rfl
 ·obtain⟨x,dx,pa,r,b,h,yS,qs,l,c,last,rfl,hL,hlen,h1,h2⟩:=h
  refine⟨_,ae (aL (bF (bA (aG (pv 0) L.cl mo Go hr bo .nil ao (aa (pv 1) (aa (pv 2) ac))))) (ag bJ) aB)
   (ae (cY (pv 0) aj pz)
   (ae (aO (cz plainAttrs_list PySem.F.slot_list_append PySem.F.type_list_append bQ (am (pv 0) rfl) (aa (bj (aa (pv 1) (aa (pv 2) ac))) ac)))
   (ag (aZ (pv 0) (cK (bA (pv 3)) b8 (pv 1)) rfl)))),?_⟩
  refine⟨_,rfl,x,dx,_,rfl,hL.ins,rfl,_,rfl,_,rfl,x,dx,pa,r,b,h,l,c,rfl,hL.ins,_,rfl,?_⟩
  cases ho:bT r h l c with
  | false =>
   exact aK (h1 ho)
  | true =>
   refine aH ?_
   refine⟨_,rfl,x,C,dx,_,_,rfl,hL.ins,L.cl,L.n1,rfl,_,_,rfl,rfl,dx,_,hL.ins,by show 4 < 1000;decide,?_⟩
   have B7:pa ≠ x:=aX hL.lst hL.ins (by intro z;cases z)
   have Ak:(upd H x (.ins C dx (aM "rights" (.int (r - 1)) (ip r b (hV h) pa)))) x=some (.ins C dx (ip (r - 1) b (hV h) pa)):=ad
   have zf:(upd H x (.ins C dx (aM "rights" (.int (r - 1)) (ip r b (hV h) pa)))) pa=some (.lst yS):=by rw[af B7];exact hL.lst
   have o1:zU x pa H (upd H x (.ins C dx (aM "rights" (.int (r - 1)) (ip r b (hV h) pa)))):=fun a o ha _ e=>by rw[af ha];exact e
   show _
   generalize upd H x (.ins C dx (aM "rights" (.int (r - 1)) (ip r b (hV h) pa)))=H1 at Ak zf o1 ⊢
   refine⟨_,rfl,x,C,dx,_,_,rfl,Ak,L.cl,L.n4,rfl, .inl ⟨rfl,_,yC.of zf⟩,_,rfl,_,rfl,by show 2 <= sizeLine;decide,fun t ht=>?_⟩
   have s2:=(y8.refl H1).new (o := .tup [.int l, .int c]) ht
   have gt:(upd H1 t (.tup [.int l, .int c])) t=some (.tup [.int l, .int c]):=ad
   generalize upd H1 t (.tup [.int l, .int c])=H2 at s2 gt ⊢
   refine⟨pa,yS,_,rfl,rfl,s2 _ _ zf,by rw[sizeLine_eq];omega,?_⟩
   have Mm:(upd H2 pa (.lst (yS ++ [.ref t]))) x=some (.ins C dx (ip (r - 1) b (hV h) pa)):=by rw[af (Ne.symm B7)];exact s2 _ _ Ak
   have Hs:(upd H2 pa (.lst (yS ++ [.ref t]))) pa=some (.lst (yS ++ [.ref t])):=ad
   have o3:zU x pa H (upd H2 pa (.lst (yS ++ [.ref t]))):=fun a o ha hb e=>by rw[af hb];exact s2 _ _ (o1 a o ha hb e)
   have ntp:t ≠ pa:=aX gt (s2 _ _ zf) (by intro z;cases z)
   have OL:(upd H2 pa (.lst (yS ++ [.ref t]))) t=some (.tup [.int l, .int c]):=by rw[af ntp];exact gt
   generalize upd H2 pa (.lst (yS ++ [.ref t]))=H3 at Mm Hs o3 OL ⊢
   have ntx:t ≠ x:=aX OL Mm (by intro z;cases z)
   have fin:∀ h':Option Int,yV (upd H3 x (.ins C dx (aM "holder" (hV h') (ip (r - 1) b (hV h) pa)))) C x dx pa (r - 1) b h' (yS ++ [.ref t]) (qs ++ [(l,c)]):=fun h' =>
    ⟨ad,by rw[af B7];exact Hs,yU.snoc ⟨t,rfl,by rw[af ntx];exact OL⟩ (zU.C7 (fun a o ha hb e=>by rw[af ha];exact o3 a o ha hb e) hL.ins hL.lst hL.zL)⟩
   have off:∀ o',zU x pa H (upd H3 x o'):=fun o' a o ha hb e=>by rw[af ha];exact o3 a o ha hb e
   refine⟨_,rfl,_,rfl,?_⟩
   cases last with
   | true=>exact aK ⟨_,rfl,x,C,dx,_,rfl,Mm,L.cl,L.n3,by show 4 < 1000;decide,h2 ho t _ (off _) (fin none)⟩
   | false=>exact aH ⟨_,rfl,_,rfl,x,C,dx,_,rfl,Mm,L.cl,L.n3,by show 4 < 1000;decide,h2 ho t _ (off _) (fin (some l))⟩
theorem uu:ap ["self"] ["self"] (ah n8):=L2.ze
theorem sE {C f:Addr}{fd:FuncData}(F:yY K "front" "Lane.front" n8 f fd)(L:vL K C):y9 P w K mg base aC 1 f fd ["self"] (iy C):=by
 refine F.ok uu (fun _ _ _ _ h=>?_) (fun _ _ _ s H _ Q E hr h=>?_)
 ·obtain⟨x,dx,pa,r,b,h,yS,qs,rfl,_⟩:=h
  rfl
 ·obtain⟨x,dx,pa,r,b,h,yS,qs,rfl,hL,q⟩:=h
  refine⟨_,ag (ar (cK (e8 (am (pv 0) rfl) (fun _=>rfl)) (az yG (am (pv 0) rfl) aj (fun _ _=>rfl)) b8)),?_⟩
  refine⟨_,rfl,x,C,dx,_,_,rfl,hL.ins,L.cl,L.n4,rfl,_, .inl ⟨_,yC.of hL.lst,rfl⟩,?_⟩
  cases yS with
  | nil=>exact aH q
  | cons v rest=>exact aK ⟨_,rfl,x,C,dx,_,_,rfl,hL.ins,L.cl,L.n4,rfl,pa,_,0,v,rfl,rfl,yC.of hL.lst,ak (j:=0) rfl,q⟩
theorem wJ:ap ["self"] ["self"] (ah r8):=L2.ze
theorem uR {C f:Addr}{fd:FuncData}(F:yY K "pull" "Lane.pull" r8 f fd)(L:vL K C):y9 P w K mg base aC 1 f fd ["self"] (mR C):=by
 refine F.ok wJ (fun _ _ _ _ h=>?_) (fun _ _ _ s H _ Q E hr h=>?_)
 ·obtain⟨x,dx,pa,r,b,h,yS,qs,rfl,_⟩:=h
  rfl
 ·obtain⟨x,dx,pa,r,b,h,yS,qs,rfl,hL,h1,h2⟩:=h
  refine⟨_,ae (aL (bF (e8 (am (pv 0) rfl) (fun _=>rfl))) (ag bJ) aB)
   (ae (cY (pv 0) aj kv)
   (ag (ar (cz plainAttrs_list PySem.F.slot_list_pop PySem.F.type_list_pop sP (am (pv 0) rfl) (aa aj ac))))),?_⟩
  refine⟨_,rfl,x,C,dx,_,_,rfl,hL.ins,L.cl,L.n4,rfl,_, .inl ⟨_,yC.of hL.lst,rfl⟩,?_⟩
  have B7:pa ≠ x:=aX hL.lst hL.ins (by intro z;cases z)
  cases yS with
  | nil =>
   exact aK (h1 rfl)
  | cons v rest =>
   refine aH ?_
   refine⟨_,rfl,x,C,dx,_,_,rfl,hL.ins,L.cl,L.n2,rfl,_,_,rfl,rfl,dx,_,hL.ins,by show 4 < 1000;decide,?_⟩
   have Ak:(upd H x (.ins C dx (aM "returning" (.int (b + 1)) (ip r b (hV h) pa)))) x=some (.ins C dx (ip r (b + 1) (hV h) pa)):=ad
   have zf:(upd H x (.ins C dx (aM "returning" (.int (b + 1)) (ip r b (hV h) pa)))) pa=some (.lst (v :: rest)):=by rw[af B7];exact hL.lst
   have o1:zU x pa H (upd H x (.ins C dx (aM "returning" (.int (b + 1)) (ip r b (hV h) pa)))):=fun a o ha _ e=>by rw[af ha];exact e
   show _
   generalize upd H x (.ins C dx (aM "returning" (.int (b + 1)) (ip r b (hV h) pa)))=H1 at Ak zf o1 ⊢
   refine⟨_,rfl,x,C,dx,_,_,rfl,Ak,L.cl,L.n4,rfl, .inl ⟨rfl,_,yC.of zf⟩,pa,v :: rest,0,0,v,rfl,rfl,zf,by decide,by decide,OK _,rfl,?_⟩
   have o2:zU x pa H (upd H1 pa (.lst rest)):=fun a o ha hb e=>by rw[af hb];exact o1 a o ha hb e
   refine h2 v rest rfl _ o2 ⟨by rw[af (Ne.symm B7)];exact Ak,ad,?_⟩
   have z:=zU.C7 o2 hL.ins hL.lst hL.zL
   cases z with
   | cons _ t=>exact t
theorem uv:ap ["self"] ["self"] (ah nB):=L2.ze
theorem sJ {C f:Addr}{fd:FuncData}(F:yY K "bring" "Lane.bring" nB f fd)(L:vL K C):y9 P w K mg base aC 1 f fd ["self"] (oO C):=by
 refine F.ok uv (fun _ _ _ _ h=>?_) (fun _ _ _ s H _ Q E hr h=>?_)
 ·obtain⟨x,dx,pa,r,b,h,yS,qs,rfl,_⟩:=h
  rfl
 ·obtain⟨x,dx,pa,r,b,h,yS,qs,rfl,hL,h1,h2⟩:=h
  refine⟨_,ae (aL (ax bK (am (pv 0) rfl) aj (aA _)) (ag bJ) aB)
   (ae (cY (pv 0) aj pz) (ag (cY (pv 0) aj kv))),?_⟩
  refine⟨_,rfl,x,C,dx,_,_,rfl,hL.ins,L.cl,L.n2,rfl,rfl,_,rfl,?_⟩
  have B7:pa ≠ x:=aX hL.lst hL.ins (by intro z;cases z)
  rw[bE]
  by_cases Mn:b=0
  ·rw[decide_eq_true Mn]
   exact aK (h1 Mn)
  ·rw[decide_eq_false Mn]
   refine aH ?_
   refine⟨_,rfl,x,C,dx,_,_,rfl,hL.ins,L.cl,L.n2,rfl,_,_,rfl,rfl,dx,_,hL.ins,by show 4 < 1000;decide,?_⟩
   have Ak:(upd H x (.ins C dx (aM "returning" (.int (b - 1)) (ip r b (hV h) pa)))) x=some (.ins C dx (ip r (b - 1) (hV h) pa)):=ad
   have o1:zU x pa H (upd H x (.ins C dx (aM "returning" (.int (b - 1)) (ip r b (hV h) pa)))):=fun a o ha _ e=>by rw[af ha];exact e
   have zf:(upd H x (.ins C dx (aM "returning" (.int (b - 1)) (ip r b (hV h) pa)))) pa=some (.lst yS):=by rw[af B7];exact hL.lst
   show _
   generalize upd H x (.ins C dx (aM "returning" (.int (b - 1)) (ip r b (hV h) pa)))=H1 at Ak zf o1 ⊢
   refine⟨_,rfl,x,C,dx,_,_,rfl,Ak,L.cl,L.n1,rfl,_,_,rfl,rfl,dx,_,Ak,by show 4 < 1000;decide,?_⟩
   have o2:∀ o',zU x pa H (upd H1 x o'):=fun o' a o ha hb e=>by rw[af ha];exact o1 a o ha hb e
   exact h2 Mn _ (o2 _) ⟨ad,by rw[af B7];exact zf,zU.C7 (o2 _) hL.ins hL.lst hL.zL⟩
theorem Jr:ap ["self"] ["self"] (ah wX):=L2.ze
theorem xC {C f:Addr}{fd:FuncData}(F:yY K "told" "Lane.told" wX f fd)(T:dP mg)(L:vL K C):y9 P w K mg base aC 1 f fd ["self"] (vZ C):=by
 refine F.ok Jr (fun _ _ _ _ h=>?_) (fun _ _ _ s H _ Q E hr h=>?_)
 ·obtain⟨x,dx,pa,r,b,h,yS,qs,rfl,_⟩:=h
  rfl
 ·obtain⟨x,dx,pa,r,b,h,yS,qs,rfl,hL,q⟩:=h
  refine⟨_,ag (ar (bj (aa (am (pv 0) rfl) (aa (am (pv 0) rfl) (aa (am (pv 0) rfl) (aa (bI c8 rfl T.list PySem.Pv.boot_list (aa (am (pv 0) rfl) ac)) ac)))))),?_⟩
  refine⟨_,rfl,x,C,dx,_,_,rfl,hL.ins,L.cl,L.n1,rfl,_,rfl,x,C,dx,_,_,rfl,hL.ins,L.cl,L.n2,rfl,_,rfl,x,C,dx,_,_,rfl,hL.ins,L.cl,L.n3,rfl,_,rfl,x,C,dx,_,_,rfl,hL.ins,L.cl,L.n4,rfl,pa,_,rfl, .inl (yC.of hL.lst),fun ql DN=>?_⟩
  have s1:=(y8.refl H).new (o := .lst yS) DN
  have g1:(upd H ql (.lst yS)) ql=some (.lst yS):=ad
  generalize upd H ql (.lst yS)=H1 at s1 g1 ⊢
  refine⟨by show 4 <= sizeLine;decide,fun t ht=>?_⟩
  have s2:=s1.new (o := .tup [.int r, .int b,hV h, .ref ql]) ht
  exact q t ql _ s2 DN ad (by rw[af (ai g1 ht)];exact g1)
noncomputable def oW (m:Nat)(yR:List V):Bool:=decide (yR.length=m) && yR.all fun v=>ju v 1 60
noncomputable def Sq (K:Frag)(H:Hp)(a:Addr)(xs:List V):Prop:=yC K H a xs∨yN K H a xs
noncomputable def oB (K:Frag)(c:Cs):Sp:=fun vs H Q _=>∃ (lx zq lt:Addr)(n:Int)(yO:List V)(ps:List (Int × Int))(rv:V),vs=[.ref lx,rv]/\cW H c lx zq lt n yO ps/\ps.length <= 1000 /\
 ((rv = .yQ/\∀ t H',y8 H H'->H' t=some (.tup (List.replicate ps.length (.int 1)))->Q (.ref t) H') ∨
  (∃ ra yR,rv = .ref ra/\Sq K H ra yR/\yR.length <= 1000/\(∀ v ∈ yR,qu v)/\(oW ps.length yR=false->False)/\(oW ps.length yR=true->∀ t H',y8 H H'->yN K H' t yR->Q (.ref t) H')))
noncomputable def yc (s:Stmt):Scope:=match s with
 | .If _ (.Return (some (.Call _ [.ListComp _ _ sc _] _ _)) _ :: _) _ _=>sc
 | _=>zQ0
noncomputable def xo (s:Stmt):Scope:=match s with
 | .If (.BoolOp _ [_, .UnaryOp _ (.Call _ [.ListComp _ _ sc _] _ _) _] _) _ _ _=>sc
 | _=>zQ0
noncomputable def Ht:V->Bool
 | .int i=>decide ((if i < 0 then -i else i) < 10 ^ (60:Int).toNat)
 | _=>false
noncomputable def qO:Sp:=fun vs H Q _=>∃ v,vs=[v]/\qu v/\Q (.bl (Ht v)) H
theorem bH {K:Frag}{H H':Hp}{a:Addr}{xs:List V}(e:y8 H H')(h:yN K H a xs):yN K H' a xs:=by
 rcases h with h | h
 ·refine .inl ?_
  rcases h with h | ⟨o,h⟩
  ·exact .inl (e _ _ h)
  ·exact .inr ⟨o,e _ _ h⟩
 ·exact .inr h
theorem we {X:Cx}{tg it:Expr}{a b:TI}(h1:PI X tg it a)(h2:PI X tg it b):PI X tg it (fun σ H R=>a σ H R∨b σ H R):=fun pins s σ H R I h=>h.elim (h1 pins s σ H R I) (h2 pins s σ H R I)
theorem lV {J:It}{xs:List V}{g:TG}{te:TE}{σ0:St}{H:Hp}{Q:VK}(f:V->V)(hn:xs.length < sizeLine)(hgo:∀ i,i < xs.length->J.go i H)(Bc:J.stop xs.length H)(hy:∀ i x H',J.DW i H x H'->H' = H/\xs[i]? = some x)
  (hs:∀ (x:V)(N:V->Hp->Prop),x ∈ xs->N (f x) H->g x σ0 H fun σ2 H2=>te σ2 H2 N)
  (hq:∀ D,H D=none->Q (.ref D) (upd H D (.lst (xs.map f)))):cO J g kP te σ0 Q H:=by
 refine bu xs.length hn (fun i acc H'=>H' = H/\acc=(xs.take i).map f) ⟨rfl,rfl⟩ (fun i acc H' h=>by rw[h.2,length_map];exact length_take_le _ _) (fun i acc H' hi h=>?_) (fun acc H' h=>?_)
 ·obtain⟨rfl,rfl⟩:=h
  refine⟨hgo i hi,fun v H2 y=>?_⟩
  obtain⟨e,hx⟩:=hy i v H2 y
  subst e
  exact hs v (fun y H4=>H4=H2/\(xs.take i).map f ++ [y]=(xs.take (i + 1)).map f) (mem_of_getElem? hx) ⟨rfl,by rw[take_succ,hx,map_append];rfl⟩
 ·obtain⟨rfl,rfl⟩:=h
  rw[take_length]
  exact⟨Bc,hq⟩
theorem yk {K:Frag}{a:Addr}{xs:List V}{g:TG}{te:TE}{σ0:St}{H:Hp}{Q:VK}(f:V->V)(hn:xs.length < sizeLine)(ha:yC K H a xs)(hs:∀ (x:V) (N:V->Hp->Prop),x ∈ xs->N (f x) H->g x σ0 H fun σ2 H2=>te σ2 H2 N)
  (hq:∀ D,H D=none->Q (.ref D) (upd H D (.lst (xs.map f)))):cO (tZ K a) g kP te σ0 Q H :=
 lV f hn (fun i hi=>⟨xs,xs[i],ha,by simp[hi]⟩) ⟨xs,ha,Nat.le_refl _⟩ (fun i x H' y=>⟨y.1,y.2 xs ha⟩) hs hq
theorem tO {K:Frag}{a:Addr}{xs:List V}{g:TG}{te:TE}{σ0:St}{H:Hp}{Q:VK}(f:V->V)(hn:xs.length < sizeLine)(ha:yN K H a xs)(hs:∀ (x:V) (N:V->Hp->Prop),x ∈ xs->N (f x) H->g x σ0 H fun σ2 H2=>te σ2 H2 N)
  (hq:∀ D,H D=none->Q (.ref D) (upd H D (.lst (xs.map f)))):cO (LJ K a) g kP te σ0 Q H :=
 lV f hn (fun i hi=>⟨xs,xs[i],ha,by simp[hi]⟩) ⟨xs,ha,Nat.le_refl _⟩ (fun i x H' y=>⟨y.1,y.2 xs ha⟩) hs hq
theorem OM:ap ["land", "rooms"] ["land", "rooms"] (ah fF):=L2.ze
theorem ON:zF ["land", "rooms"] (ah fF) (yc ((aF fF).getD 0 (.Pass ⟨0,0,0,0⟩))) [] []:=L2.Ah
theorem OO:zF ["land", "rooms"] (ah fF) (xo ((aF fF).getD 1 (.Pass ⟨0,0,0,0⟩))) [] []:=L2.Ah
theorem OP:(["lane"]:List Str).Nodup:=by decide +kernel
theorem Js:(["room"]:List Str).Nodup:=by decide +kernel
theorem sf {c:Cs}{f fw:Addr}{fd dw:FuncData}{t1:Tok}(F:yY K "rooms_of" "rooms_of" fF f fd)(T:dP mg)(L:mG K c)
  (mw:mg "is_within" = some (.ref fw)) (kw:keepIn K (.ref fw)=true) (bw:Binds K dw ["value", "least", "most"] []) (Gw:y9 P w K mg base aC 2 fw dw ["value", "least", "most"] eO) (mp:mg "MOST_ROOM" = some (.int 60 t1)) :
  y9 P w K mg base aC 3 f fd ["land", "rooms"] (oB K c):=by
 refine F.ok OM (fun _ _ _ _ h=>?_) (fun _ _ _ s H _ Q E hr h=>?_)
 ·obtain⟨lx,zq,lt,n,yO,ps,rv,rfl,_⟩:=h
  rfl
 ·obtain⟨lx,zq,lt,n,yO,ps,rv,rfl,hL,Bj,hh⟩:=h
  refine⟨_,ae (aL (ax gO (pv 1) b8 (aA _)) (ag (ar (bI cf rfl T.tuple PySem.Pv.boot_tuple (aa (aQ (own:=["lane"]) (capN:=[]) (cap:=[]) ON rfl (iR (am (pv 0) rfl))
     (fun C s' H' fp=>⟨av (i:=0) OP rfl (Or.inl rfl),b9,aj⟩)) ac)))) aB)
   (ae (aL (jS (PW.pt (eu (ax ik (aw aq rfl T.len PySem.boot_len (aa (pv 1) ac)) (aw aq rfl T.len PySem.boot_len (aa (am (pv 0) rfl) ac)) (aA _))
     (cG (bF (bA (aw (gs rfl) rfl T.all PyProof.Rows.boot_all (aa (aQ (own:=["room"]) (capN:=[]) (cap:=[]) OO rfl (we (aV (pv 1)) (iR (pv 1)))
      (fun C s' H' fp=>⟨av (i:=0) Js rfl (Or.inl rfl),b9,au Gw hr rfl mw kw bw .nil ao (aa (pv 0) (aa aj (aa (eP (v := .int 60) rfl mp ⟨_,rfl⟩) ac)))⟩)) ac))))))))
    (ag bJ) aB)
   (ag (ar (bI cf rfl T.tuple PySem.Pv.boot_tuple (aa (pv 1) ac))))),?_⟩
  have zV:yO.length=ps.length:=Paired.length hL.2.2
  refine⟨_,rfl,rfl,_,rfl,?_⟩
  rcases hh with ⟨rfl,q⟩ | ⟨ra,yR,rfl,hR,BX,Jt,qE,q⟩
  ·refine aK ⟨_,rfl,lx,c.land,zq,_,_,rfl,hL.1,L.cl,L.nl,rfl,lt,rfl,⟨_,yN.of hL.2.1⟩,?_⟩
   refine tO (fun _ => .int 1) (by rw[sizeLine_eq];omega) (yN.of hL.2.1) (fun x N hx h=>h) (fun D hD=>?_)
   have s1:=(y8.refl H).new (o := .lst (yO.map fun _=>V.int 1)) hD
   refine⟨D,_,rfl, .inl ⟨yC.of ad,fun t ht=>q t _ (s1.new ht) ?_⟩⟩
   rw[ad,List.map_const',zV]
  ·refine aH ?_
   have len1:∀ {H:Hp},Sq K H ra yR->(yC K H ra yR∨yN K H ra yR):=fun h=>h
   refine⟨fun b H'=>y8 H H'/\b = !oW ps.length yR,?_,?_⟩
   ·refine⟨_,rfl,ra,yR,rfl,hR,_,rfl,lx,c.land,zq,_,_,rfl,hL.1,L.cl,L.nl,rfl,lt,_,rfl, .inr (yN.of hL.2.1),rfl,_,rfl,?_⟩
    rw[bE,zV]
    by_cases Dk:yR.length=ps.length
    rotate_left
    ·rw[decide_eq_false (show ¬ ((yR.length:Nat):Int)=(ps.length:Nat) by omega)]
     refine aK ⟨y8.refl H,?_⟩
     unfold oW
     rw[decide_eq_false Dk];rfl
    rw[decide_eq_true (show((yR.length:Nat):Int)=(ps.length:Nat) by omega)]
    have step:∀ (x:V)(N:V->Hp->Prop),x ∈ yR->N (.bl (ju x 1 60)) H->qu x:=fun x _ hx _=>Jt x hx
    have fin:∀ D,H D=none->∃ (p:Addr)(bs:List Bool),[V.ref D]=[.ref p]/\yC K (upd H D (.lst (yR.map fun v=>V.bl (ju v 1 60)))) p (bs.map V.bl)/\∃ cc,V.bl (bs.all id) = .bl cc/\(y8 H (upd H D (.lst (yR.map fun v=>V.bl (ju v 1 60))))/\(!cc) = !oW ps.length yR):=fun D hD=>by
     refine⟨D,yR.map fun v=>ju v 1 60,rfl,yC.of (by rw[ad,map_map];rfl),_,rfl,(y8.refl H).new hD,?_⟩
     unfold oW
     rw[decide_eq_true Dk,Bool.true_and,all_map];rfl
    refine aH ?_
    rcases hR with hR | hR
    ·refine .inl ⟨_,rfl,ra,rfl,⟨_,hR⟩,?_⟩
     exact yk (fun v => .bl (ju v 1 60)) (by rw[sizeLine_eq];omega) hR (fun x N hx h=>⟨_,rfl,x,1,60,rfl,Jt x hx,h⟩) fin
    ·refine .inr ⟨_,rfl,ra,rfl,⟨_,hR⟩,?_⟩
     exact tO (fun v => .bl (ju v 1 60)) (by rw[sizeLine_eq];omega) hR (fun x N hx h=>⟨_,rfl,x,1,60,rfl,Jt x hx,h⟩) fin
   rintro b H' ⟨s',rfl⟩
   cases yL:oW ps.length yR with
   | false=>exact aK (qE yL)
   | true =>
    refine aH ⟨_,rfl,ra,yR,rfl,?_⟩
    rcases hR with hR | hR
    ·exact .inl ⟨s'.seq hR,fun t ht=>q yL t _ (s'.new ht) (yN.of ad)⟩
    ·exact .inr ⟨bH s' hR,q yL ra _ s' (bH s' hR)⟩
theorem OQ:ap ["word"] ["word"] (ah rp):=L2.ze
theorem uN {f fh:Addr}{fd dh:FuncData}(F:yY K "is_word" "is_word" rp f fd)(T:dP mg)(mh:mg "is_whole" = some (.ref fh))(kh:keepIn K (.ref fh)=true)(bh:Binds K dh ["value"] [])(G:y9 P w K mg base aC 1 fh dh ["value"] fR) :
  y9 P w K mg base aC 2 f fd ["word"] qO:=by
 refine F.ok OQ (fun _ _ _ _ h=>?_) (fun _ _ _ s H _ Q E hr h=>?_)
 ·obtain⟨v,rfl,_⟩:=h
  rfl
 ·obtain⟨v,rfl,hv,q⟩:=h
  refine⟨_,ag (ar (cT (au G hr rfl mh kh bh .nil ao (aa (pv 0) ac)) (cS (cy l7 (aw tR rfl T.abs PyProof.Rows.boot_abs (aa (pv 0) ac)) (aD jW aj aj) (aA _))))),?_⟩
  cases hv with
  | int i=>exact⟨_,rfl,_,rfl, .int i,true,rfl,aK ⟨_,rfl,i,rfl,_,_,rfl,rfl,⟨by decide,by decide,by decide⟩,_,_,rfl,rfl,q⟩⟩
  | bl b=>exact⟨_,rfl,_,rfl, .bl b,false,rfl,aH q⟩
  | yQ=>exact⟨_,rfl,_,rfl, .yQ,false,rfl,aH q⟩
abbrev Wf:=Nat->Nat->Option Nat->List Nat
abbrev TJ:=Hp->Addr->Nat->Wf->Prop
noncomputable def NL:HO->Prop
 | .lst _=>False
 | .ins _ _ []=>False
 | .zI _=>False
 | _=>True
noncomputable def zj (H H':Hp):Prop:=∀ b o,H b=some o->NL o->H' b=some o
theorem y8.yT {H H':Hp}(s:y8 H H'):zj H H':=fun b o e _=>s b o e
theorem zj.trans {H H1 H2:Hp}(a:zj H H1)(b:zj H1 H2):zj H H2:=fun x o e n=>b x o (a x o e n) n
theorem zj.C7 {H H':Hp}(k:zj H H'){vs:List V}{ps:List (Int × Int)}(h:yU H vs ps):yU H' vs ps:=yU.imp (fun _ _ ⟨t,e,q⟩=>⟨t,e,k _ _ q True.intro⟩) h
structure zG (c:Cs)(C:Addr)(J:TJ)(H:Hp)(x lx zq lt:Addr)(n:Nat)(yO:List V)(ps:List (Int × Int))(wy:Wf):Prop where
 j:J H x n wy
 i:∃ dx fs,H x=some (.ins C dx fs)/\fs.lookup ("land":Str)=some (.ref lx)/\fs.lookup ("ways":Str)=none
 l:cW H c lx zq lt (n:Int) yO ps
 FH:n <= 12
 zD:ps.length <= 40
 ok:∀ p g k,p < n->g < n->∀ z ∈ wy p g k,z < ps.length
structure Wy (K:Frag)(C fw:Addr)(dw:FuncData)(J:TJ):Prop where
 cl:Bi K C
 nl:yP K C "land"
 m:bM K C "ways" fw
 b:Binds K dw ["self", "place", "goal", "came"] []
 zX:∀ H H' x n wy,J H x n wy->zj H H'->J H' x n wy
theorem zG.keep {K:Frag}{c:Cs}{C fw:Addr}{dw:FuncData}{J:TJ}{H H':Hp}{x lx zq lt:Addr}{n:Nat}{yO:List V}{ps:List (Int × Int)}{wy:Wf}(W:Wy K C fw dw J)(h:zG c C J H x lx zq lt n yO ps wy)(k:zj H H'):zG c C J H' x lx zq lt n yO ps wy :=
 ⟨W.zX _ _ _ _ _ h.j k,let ⟨dx,fs,h1,h2⟩:=h.i; ⟨dx,fs,k _ _ h1 (by cases fs with | nil=>cases h2.1 | cons _ _=>exact True.intro),h2⟩,⟨k _ _ h.l.1 True.intro,k _ _ h.l.2.1 True.intro,k.C7 h.l.2.2⟩,h.FH,h.zD,h.ok⟩
noncomputable def dD (J:TJ):Sp:=fun vs H Q _=>∃ (x:Addr)(n:Nat)(wy:Wf)(p g:Nat)(k:Option Nat),vs=[.ref x, .int p, .int g,cV k]/\J H x n wy/\p < n/\g < n/\∀ (D:Addr)(H':Hp),y8 H H'->H D=none->H' D=some (.lst (nV (wy p g k)))->Q (.ref D) H'
structure bC where
 r:Int
 b:Int
 h:Option Int
 qs:List (Int × Int)
structure aS where
 start:Int
 goal:Int
 len:Int
 word:Int
 gone:Int
 way:List Nat
structure YS where
 rooms:List V
 lanes:List bC
 U:List aS
 lies:List (List (Int × Int))
 done:List (List V)
structure Ys where
 yB:Addr
 yW:Addr
 yA:Addr
 ex:List Addr
noncomputable def AJ (H:Hp)(C:Addr)(ex:List Addr)(v:V)(s:bC):Prop:=∃ x dx pa yS,v = .ref x/\yV H C x dx pa s.r s.b s.h yS s.qs/\pa ∉ ex
noncomputable def nQ (s:aS)(wa:Addr):Fs:=[("start", .int s.start),("goal", .int s.goal),("length", .int s.len),("word", .int s.word),("gone", .int s.gone),("way", .ref wa)]
noncomputable def Bo (H:Hp)(C:Addr)(ex:List Addr)(v:V)(s:aS):Prop:=∃ x dx wa,v = .ref x/\H x=some (.ins C dx (nQ s wa))/\H wa=some (.lst (nV s.way))/\wa ∉ ex
noncomputable def zY (H:Hp)(v:V)(qs:List (Int × Int)):Prop:=∃ t vs,v = .ref t/\H t=some (.tup vs)/\yU H vs qs
noncomputable def Ar (H:Hp)(v:V)(m:List V):Prop:=∃ t,v = .ref t/\H t=some (.tup m)
theorem Paired.mono {α β:Type}{R R':α->β->Prop}(h:∀ a b,R a b->R' a b):∀ {as:List α}{bs:List β},Paired R as bs->Paired R' as bs:=fun yD=>by
 induction yD with
 | nil=>exact .nil
 | cons x r ih=>exact .cons (h _ _ x) ih
theorem Paired.snoc {α β:Type}{R:α->β->Prop}{a:α}{b:β}(h:R a b):∀ {as:List α}{bs:List β},Paired R as bs->Paired R (as ++ [a]) (bs ++ [b]):=fun yD=>by
 induction yD with
 | nil=>exact .cons h .nil
 | cons x r ih=>exact .cons x ih
theorem Paired.at {α β:Type}{R:α->β->Prop}:∀ {as:List α}{bs:List β}{i:Nat}{a:α},Paired R as bs->as[i]? = some a->∃ b,bs[i]? = some b/\R a b:=by
 intro _ _ i _ yD
 induction yD generalizing i with
 | nil=>intro h;cases h
 | cons x r ih =>
  intro h
  cases i with
  | zero=>cases h;exact⟨_,rfl,x⟩
  | succ i=>exact ih (i:=i) h
theorem Paired.at2 {α β:Type}{R:α->β->Prop}:∀ {as:List α}{bs:List β}{i:Nat}{b:β},Paired R as bs->bs[i]? = some b->∃ a,as[i]? = some a/\R a b:=by
 intro _ _ i _ yD
 induction yD generalizing i with
 | nil=>intro h;cases h
 | cons x r ih =>
  intro h
  cases i with
  | zero=>cases h;exact⟨_,rfl,x⟩
  | succ i=>exact ih (i:=i) h
noncomputable def yI (ex:List Addr)(H H':Hp):Prop:=∀ b o,b ∉ ex->H b=some o->H' b=some o
theorem y8.zg {ex:List Addr}{H H':Hp}(s:y8 H H'):yI ex H H':=fun b o _ e=>s b o e
theorem yI.trans {ex:List Addr}{H H1 H2:Hp}(a:yI ex H H1)(b:yI ex H1 H2):yI ex H H2:=fun x o n e=>b x o n (a x o n e)
theorem yU.zg {ex:List Addr}{H H':Hp}(hx:∀ b ∈ ex,∃ xs,H b=some (.lst xs))(o:yI ex H H'){vs:List V}{ps:List (Int × Int)}(h:yU H vs ps):yU H' vs ps :=
 yU.imp (fun _ _ yD=>by obtain⟨t,e,q⟩:=yD;exact⟨t,e,o _ _ (fun z=>by obtain⟨xs,hz⟩:=hx _ z;rw[q]at hz;cases hz) q⟩) h
theorem yI.EN {ex:List Addr}{H H':Hp}(hx:∀ b ∈ ex,∃ o,H b=some o/\¬ NL o)(o:yI ex H H'):zj H H':=fun b u e n=>o b u (fun z=>by obtain⟨o',hz,hn⟩:=hx _ z;rw[e]at hz;cases hz;exact hn n) e
theorem yI.yT {ex:List Addr}{H H':Hp}(hx:∀ b ∈ ex,∃ xs,H b=some (.lst xs))(o:yI ex H H'):zj H H':=o.EN fun b hb=>let ⟨xs,hz⟩:=hx b hb; ⟨_,hz,id⟩
theorem AJ.zg {ex:List Addr}{H H':Hp}{C:Addr}{v:V}{s:bC}(hx:∀ b ∈ ex,∃ xs,H b=some (.lst xs))(o:yI ex H H')(h:AJ H C ex v s):AJ H' C ex v s:=by
 obtain⟨x,dx,pa,yS,e,L,n⟩:=h
 have k:=o.yT hx
 exact⟨x,dx,pa,yS,e,⟨k _ _ L.ins True.intro,o _ _ n L.lst,yU.zg hx o L.zL⟩,n⟩
theorem Bo.zg {ex:List Addr}{H H':Hp}{C:Addr}{v:V}{s:aS}(hx:∀ b ∈ ex,∃ xs,H b=some (.lst xs))(o:yI ex H H')(h:Bo H C ex v s):Bo H' C ex v s:=by
 obtain⟨x,dx,wa,e,h1,h2,n⟩:=h
 exact⟨x,dx,wa,e,o.yT hx _ _ h1 True.intro,o _ _ n h2,n⟩
theorem zY.keep {H H':Hp}{v:V}{qs:List (Int × Int)}(k:zj H H')(h:zY H v qs):zY H' v qs:=by
 obtain⟨t,vs,e,h1,h2⟩:=h
 exact⟨t,vs,e,k _ _ h1 True.intro,k.C7 h2⟩
theorem Ar.keep {H H':Hp}{v:V}{m:List V}(k:zj H H')(h:Ar H v m):Ar H' v m:=by
 obtain⟨t,e,h1⟩:=h
 exact⟨t,e,k _ _ h1 True.intro⟩
noncomputable def Mo (tb ro la le li dn:Addr):Fs:=[("table", .ref tb),("rooms", .ref ro),("lanes", .ref la),("letters", .ref le),("lies", .ref li),("done", .ref dn)]
structure yH (K:Frag)(ys:Ys)(H:Hp)(y dy tb ro la le li dn:Addr)(s:YS):Prop where
 ins:H y=some (.ins ys.yB dy (Mo tb ro la le li dn))
 FI:yN K H ro s.rooms
 hla:∃ vs,H la=some (.lst vs)/\Paired (AJ H ys.yW (la :: le :: li :: dn :: ys.ex)) vs s.lanes
 hle:∃ vs,H le=some (.lst vs)/\Paired (Bo H ys.yA (la :: le :: li :: dn :: ys.ex)) vs s.U
 Bg:∃ vs,H li=some (.lst vs)/\Paired (zY H) vs s.lies
 AO:∃ vs,H dn=some (.lst vs)/\Paired (Ar H) vs s.done
 ne:[la,le,li,dn].Nodup
 hex:∀ b ∈ ys.ex,∃ xs,H b=some (.lst xs)
theorem yH.Bp {K:Frag}{ys:Ys}{H:Hp}{y dy tb ro la le li dn:Addr}{s:YS}(h:yH K ys H y dy tb ro la le li dn s):∀ b ∈ [la,le,li,dn],∃ xs,H b=some (.lst xs):=by
 intro b hb
 obtain⟨v1,h1,_⟩:=h.hla
 obtain⟨v2,h2,_⟩:=h.hle
 obtain⟨v3,h3,_⟩:=h.Bg
 obtain⟨v4,h4,_⟩:=h.AO
 simp only[mem_cons,not_mem_nil,or_false]at hb
 rcases hb with rfl | rfl | rfl | rfl
 ·exact⟨_,h1⟩
 ·exact⟨_,h2⟩
 ·exact⟨_,h3⟩
 ·exact⟨_,h4⟩
theorem yH.Co {K:Frag}{ys:Ys}{H:Hp}{y dy tb ro la le li dn:Addr}{s:YS}(h:yH K ys H y dy tb ro la le li dn s):∀ b ∈ la :: le :: li :: dn :: ys.ex,∃ xs,H b=some (.lst xs):=by
 intro b hb
 have e:la :: le :: li :: dn :: ys.ex=[la,le,li,dn] ++ ys.ex:=rfl
 rw[e]at hb
 rcases mem_append.mp hb with hb | hb
 ·exact h.Bp b hb
 ·exact h.hex b hb
theorem yH.same {K:Frag}{ys:Ys}{H H':Hp}{y dy tb ro la le li dn:Addr}{s:YS}(h:yH K ys H y dy tb ro la le li dn s)(e:y8 H H'):yH K ys H' y dy tb ro la le li dn s:=by
 have hx:=h.Co
 obtain⟨v1,h1,p1⟩:=h.hla
 obtain⟨v2,h2,p2⟩:=h.hle
 obtain⟨v3,h3,p3⟩:=h.Bg
 obtain⟨v4,h4,p4⟩:=h.AO
 have o:yI (la :: le :: li :: dn :: ys.ex) H H':=y8.zg e
 exact⟨e _ _ h.ins,bH e h.FI,⟨v1,e _ _ h1,Paired.mono (fun _ _ z=>z.zg hx o) p1⟩,⟨v2,e _ _ h2,Paired.mono (fun _ _ z=>z.zg hx o) p2⟩,⟨v3,e _ _ h3,Paired.mono (fun _ _ z=>z.keep (y8.yT e)) p3⟩,⟨v4,e _ _ h4,Paired.mono (fun _ _ z=>z.keep (y8.yT e)) p4⟩,h.ne,fun b hb=>let ⟨xs,hz⟩:=h.hex b hb; ⟨xs,e _ _ hz⟩⟩
structure gE (K:Frag)(ys:Ys):Prop where
 cl:Bi K ys.yB
 n1:yP K ys.yB "table"
 n2:yP K ys.yB "rooms"
 n3:yP K ys.yB "lanes"
 n4:yP K ys.yB "letters"
 n5:yP K ys.yB "lies"
 n6:yP K ys.yB "done"
 ct:Bi K ys.yA
 t1:yP K ys.yA "start"
 t2:yP K ys.yA "goal"
 t3:yP K ys.yA "length"
 t4:yP K ys.yA "word"
 t5:yP K ys.yA "gone"
 t6:yP K ys.yA "way"
 L:vL K ys.yW
noncomputable def qZ (C:Addr):Sp:=fun vs H Q _=>∃ (x dx:Addr)(a b l u:Int),vs=[.ref x, .int a, .int b, .int l, .int u]/\H x=some (.ins C dx [])/\∀ (wa:Addr)(H':Hp),H wa=none->(∀ z o,z ≠ x->H z=some o->H' z=some o)->H' x=some (.ins C dx (nQ ⟨a,b,l,u,0,[]⟩ wa))->H' wa=some (.lst (nV []))->Q .yQ H'
theorem Ju:ap ["self", "start", "goal", "length", "word"] ["self", "start", "goal", "length", "word"] (ah rJ):=L2.ze
theorem xA {ys:Ys}{f:Addr}{fd:FuncData}(F:yY K "__init__" "Letter.__init__" rJ f fd)(Y:gE K ys):y9 P w K mg base aC 1 f fd ["self", "start", "goal", "length", "word"] (qZ ys.yA):=by
 refine F.ok Ju (fun _ _ _ _ h=>?_) (fun _ _ _ s H _ Q E hr h=>?_)
 ·obtain⟨x,dx,a,b,l,u,rfl,_⟩:=h
  rfl
 ·obtain⟨x,dx,a,b,l,u,rfl,hx,q⟩:=h
  refine⟨_,ae (aZ (pv 0) (pv 1) rfl) (ae (aZ (pv 0) (pv 2) rfl) (ae (aZ (pv 0) (pv 3) rfl) (ae (aZ (pv 0) (pv 4) rfl) (ae (aZ (pv 0) aj rfl) (ag (aZ (pv 0) (aR ac) rfl)))))),?_⟩
  refine⟨_,rfl,_,rfl,x,ys.yA,dx,_,rfl,hx,Y.ct,Y.t1,by show 0 < 1000;decide,?_⟩
  refine⟨_,rfl,_,rfl,x,ys.yA,dx,_,rfl,ad,Y.ct,Y.t2,by show 1 < 1000;decide,?_⟩
  refine⟨_,rfl,_,rfl,x,ys.yA,dx,_,rfl,ad,Y.ct,Y.t3,by show 2 < 1000;decide,?_⟩
  refine⟨_,rfl,_,rfl,x,ys.yA,dx,_,rfl,ad,Y.ct,Y.t4,by show 3 < 1000;decide,?_⟩
  refine⟨_,rfl,x,ys.yA,dx,_,rfl,ad,Y.ct,Y.t5,by show 4 < 1000;decide,?_⟩
  refine⟨zero_le _,fun wa C8=>?_⟩
  have Ei:x ≠ wa:=ai ad C8
  refine⟨_,rfl,x,ys.yA,dx,_,rfl,by rw[af Ei];exact ad,Y.ct,Y.t6,by show 5 < 1000;decide,?_⟩
  have Jv:H wa=none:=by
   rw[af (Ne.symm Ei),af (Ne.symm Ei),af (Ne.symm Ei),af (Ne.symm Ei),af (Ne.symm Ei)]at C8
   exact C8
  refine q wa _ Jv (fun z o nz e=>?_) ad (by rw[af (Ne.symm Ei)];exact ad)
  have nzw:z ≠ wa:=ai e Jv
  rw[af nz,af nzw,af nz,af nz,af nz,af nz,af nz]
  exact e
noncomputable def vI:V->Int
 | .int i=>i
 | _=>0
noncomputable def mF (v:V):bC:=⟨vI v,0,none,[]⟩
noncomputable def Y0 (rooms:List V)(n:Nat):YS:=⟨rooms,rooms.map mF,[],List.replicate n [],[]⟩
noncomputable def As (H0 H:Hp)(C:Addr)(v:V)(s:bC):Prop:=∃ x dx pa,v = .ref x/\yV H C x dx pa s.r s.b s.h [] []/\s.qs=[]/\H0 x=none/\H0 pa=none
theorem As.same {H0 H H':Hp}{C:Addr}{v:V}{s:bC}(h:As H0 H C v s)(e:y8 H H'):As H0 H' C v s:=by
 obtain⟨x,dx,pa,h1,h2,h3⟩:=h
 exact⟨x,dx,pa,h1,h2.same e,h3⟩
noncomputable def zl (y:Addr)(ex:List Addr)(H:Hp)(C:Addr)(v:V)(s:bC):Prop:=∃ x dx pa,v = .ref x/\yV H C x dx pa s.r s.b s.h [] []/\s.qs=[]/\x ≠ y/\pa ≠ y/\pa ∉ ex
theorem As.Jw {H0 H:Hp}{C y:Addr}{v:V}{s:bC}{u:HO}(h:As H0 H C v s){ex:List Addr}(hy:H0 y=some u)(hx:∀ b ∈ ex,∃ o,H0 b=some o):zl y ex H C v s:=by
 obtain⟨x,dx,pa,h1,h2,h3,h4,h5⟩:=h
 exact⟨x,dx,pa,h1,h2,h3,(fun z=>by rw[z,hy]at h4;cases h4),(fun z=>by rw[z,hy]at h5;cases h5),fun z=>by obtain⟨o,ho⟩:=hx _ z;rw[h5]at ho;cases ho⟩
theorem zl.same {y:Addr}{ex:List Addr}{H H':Hp}{C:Addr}{v:V}{s:bC}(h:zl y ex H C v s)(e:y8 H H'):zl y ex H' C v s:=by
 obtain⟨x,dx,pa,h1,h2,h3⟩:=h
 exact⟨x,dx,pa,h1,h2.same e,h3⟩
theorem zl.upd {y:Addr}{ex:List Addr}{H:Hp}{C:Addr}{v:V}{s:bC}{o:HO}(h:zl y ex H C v s):zl y ex (upd H y o) C v s:=by
 obtain⟨x,dx,pa,h1,h2,h3,h4,h5,h6⟩:=h
 exact⟨x,dx,pa,h1,⟨by rw[af h4];exact h2.ins,by rw[af h5];exact h2.lst, .nil⟩,h3,h4,h5,h6⟩
theorem zl.new {y a:Addr}{ex:List Addr}{H:Hp}{C:Addr}{v:V}{s:bC}{o:HO}(h:zl y ex H C v s)(ha:H a=none):zl y (a :: ex) (L2.upd H a o) C v s:=by
 obtain⟨x,dx,pa,h1,h2,h3,h4,h5,h6⟩:=h
 exact⟨x,dx,pa,h1,h2.same ((y8.refl H).new ha),h3,h4,h5,fun z=>(mem_cons.mp z).elim (fun z=>by rw[z]at h2;rw[h2.lst]at ha;cases ha) h6⟩
theorem zl.Jx {y:Addr}{ex GY:List Addr}{H:Hp}{C:Addr}{v:V}{s:bC}(h:zl y ex H C v s)(hs:∀ a ∈ GY,a ∈ ex):AJ H C GY v s:=by
 obtain⟨x,dx,pa,h1,h2,h3,h4,h5,h6⟩:=h
 exact⟨x,dx,pa,[],h1,by rw[h3];exact h2,fun z=>h6 (hs _ z)⟩
theorem og {K:Frag}{ro C:Addr}{yR:List V}{g:TG}{te:TE}{σ0:St}{H:Hp}{Q:VK}(hn:yR.length < sizeLine)(ha:yN K H ro yR)(hint:∀ v ∈ yR,∃ r,v = .int r)
  (hs:∀ (r:Int)(H1:Hp)(N:V->Hp->Prop),y8 H H1->(∀ x dx pa H2,H1 x=none->H1 pa=none->y8 H1 H2->yV H2 C x dx pa r 0 none [] []->N (.ref x) H2)->g (.int r) σ0 H1 fun σ2 H2=>te σ2 H2 N)
  (hq:∀ D vs H1,y8 H H1->H1 D=none->Paired (As H H1 C) vs (yR.map mF)->Q (.ref D) (upd H1 D (.lst vs))):cO (LJ K ro) g kP te σ0 Q H:=by
 refine bu yR.length hn (fun i acc H'=>y8 H H'/\Paired (As H H' C) acc ((yR.take i).map mF)) ⟨y8.refl _, .nil⟩ (fun i acc H' h=>by have:=Paired.length h.2;rw[this,length_map];exact length_take_le _ _) (fun i acc H' hi h=>?_) (fun acc H' h=>?_)
 ·obtain⟨s,hL⟩:=h
  refine⟨⟨yR,yR[i],bH s ha,by simp[hi]⟩,fun v H2 y=>?_⟩
  obtain⟨e,y⟩:=y
  subst e
  have hv:=y _ (bH s ha)
  obtain⟨r,rfl⟩:=hint v (mem_of_getElem? hv)
  refine hs r H2 (fun y H4=>y8 H H4/\Paired (As H H4 C) (acc ++ [y]) ((yR.take (i + 1)).map mF)) s fun x dx pa H3 nx Ej s3 Bu=>⟨s.trans s3,?_⟩
  rw[take_succ,hv,Option.toList_some,map_append]
  exact Paired.snoc (b:=mF (.int r)) ⟨x,dx,pa,rfl,Bu,rfl,s.free nx,s.free Ej⟩ (Paired.mono (fun _ _ z=>z.same s3) hL)
 ·obtain⟨s,hL⟩:=h
  rw[take_length]at hL
  exact⟨⟨yR,bH s ha,Nat.le_refl _⟩,fun D hD=>hq D acc H' s hD hL⟩
theorem qq {n:Nat}{g:TG}{te:TE}{σ0:St}{H:Hp}{Q:VK}(hn:n <= 1000)
  (hs:∀ (i:Nat)(H1:Hp)(N:V->Hp->Prop),y8 H H1->(∀ t,H1 t=none->N (.ref t) (upd H1 t (.tup [])))->g (.int (0 + i)) σ0 H1 fun σ2 H2=>te σ2 H2 N)
  (hq:∀ D vs H1,y8 H H1->H1 D=none->Paired (zY H1) vs (List.replicate n [])->Q (.ref D) (upd H1 D (.lst vs))):cO (ug 0 n) g kP te σ0 Q H:=by
 refine bu n (by rw[sizeLine_eq];omega) (fun i acc H'=>y8 H H'/\Paired (zY H') acc (List.replicate i [])) ⟨y8.refl _, .nil⟩ (fun i acc H' h=>by have:=Paired.length h.2;rw[this,length_replicate];exact Nat.le_refl _) (fun i acc H' hi h=>?_) (fun acc H' h=>?_)
 ·obtain⟨s,hL⟩:=h
  refine⟨hi,fun v H2 y=>?_⟩
  obtain⟨e1,e2⟩:=y
  subst e1 e2
  refine hs i H2 (fun y H4=>y8 H H4/\Paired (zY H4) (acc ++ [y]) (List.replicate (i + 1) [])) s fun t ht=>⟨s.new ht,?_⟩
  rw[replicate_succ']
  exact Paired.snoc ⟨t,[],rfl,ad, .nil⟩ (Paired.mono (fun _ _ z=>z.keep (y8.yT ((y8.refl H2).new ht))) hL)
 ·obtain⟨s,hL⟩:=h
  exact⟨Nat.le_refl n,fun D hD=>hq D acc H' s hD hL⟩
theorem eL {K:Frag}{H:Hp}{a y C d:Addr}{fs:Fs}{o:HO}{xs:List V}(hy:H y=some (.ins C d fs))(h:yN K H a xs):yN K (upd H y o) a xs:=by
 rcases h with h | h
 ·refine .inl ?_
  rcases h with h | ⟨u,h⟩
  ·exact .inl (by rw[af (aX h hy (by intro z;cases z))];exact h)
  ·exact .inr ⟨u,by rw[af (aX h hy (by intro z;cases z))];exact h⟩
 ·exact .inr h
theorem um {K:Frag}{H:Hp}{a y C d:Addr}{fs:Fs}{o:HO}{xs:List V}(hy:H y=some (.ins C d fs))(h:yC K H a xs):yC K (upd H y o) a xs:=by
 rcases h with h | h
 ·refine .inl ?_
  rcases h with h | ⟨u,h⟩
  ·exact .inl (by rw[af (aX h hy (by intro z;cases z))];exact h)
  ·exact .inr ⟨u,by rw[af (aX h hy (by intro z;cases z))];exact h⟩
 ·exact .inr h
noncomputable def kT (K:Frag)(c:Cs)(TC:Addr)(J:TJ)(ys:Ys):Sp:=fun vs H Q _=>∃ (y dy tb lx zq lt:Addr)(n:Nat)(yO:List V)(ps:List (Int × Int))(wy:Wf)(rv:V)(yR:List V),vs=[.ref y, .ref tb,rv]/\H y=some (.ins ys.yB dy [])/\zG c TC J H tb lx zq lt n yO ps wy/\(∀ b ∈ ys.ex,∃ xs,H b=some (.lst xs)) /\
 ((rv = .yQ/\yR=List.replicate ps.length (.int 1))∨(∃ ra,rv = .ref ra/\Sq K H ra yR/\yR.length <= 1000/\(∀ v ∈ yR,qu v)/\(oW ps.length yR=false->False))) /\
 (oW ps.length yR=true->∀ (ro la le li dn:Addr)(H':Hp),yI [y] H H'->H la=none->H le=none->H li=none->H dn=none->yH K ys H' y dy tb ro la le li dn (Y0 yR n)->Q .yQ H')
noncomputable def Jy (s:Stmt):Scope:=match s with
 | .Assign _ (.ListComp _ _ sc _) _=>sc
 | _=>zQ0
theorem i9 {v:V}{a b:Int}(h:ju v a b=true):∃ r,v = .int r:=by
 cases v<;>first | exact⟨_,rfl⟩ | cases h
theorem OR:ap ["self", "table", "rooms"] ["self", "table", "rooms"] (ah gI):=L2.ze
theorem Jz:zF ["self", "table", "rooms"] (ah gI) (Jy ((aF gI).getD 2 (.Pass ⟨0,0,0,0⟩))) [] []:=L2.Ah
theorem J0:zF ["self", "table", "rooms"] (ah gI) (Jy ((aF gI).getD 4 (.Pass ⟨0,0,0,0⟩))) [] []:=L2.Ah
theorem J4:(["place"]:List Str).Nodup:=by decide +kernel
theorem xp {c:Cs}{ys:Ys}{J:TJ}{TC f Mp fr fl:Addr}{fd Mq dr dl:FuncData}(F:C5 K "__init__" "Yard.__init__" gI f fd)(T:dP mg)(L:mG K c)(Y:gE K ys)(W:Wy K TC Mp Mq J)
  (mr:mg "rooms_of" = some (.ref fr)) (kr:keepIn K (.ref fr)=true) (br:Binds K dr ["land", "rooms"] []) (Gr:y9 P w K mg base aC 3 fr dr ["land", "rooms"] (oB K c))
  (ml:mg "Lane" = some (.ref ys.yW)) (Ml:Mk K ys.yW fl) (bl:Binds K dl ["self", "room"] []) (Gl:y9 P w K mg base aC 1 fl dl ["self", "room"] (rb ys.yW)) :
  y9 P w K mg base aC 4 f fd ["self", "table", "rooms"] (kT K c TC J ys):=by
 refine F.ok OR (fun _ _ _ _ h=>?_) (fun _ _ _ s H _ Q E hr h=>?_)
 ·obtain⟨y,dy,tb,lx,zq,lt,n,yO,ps,wy,rv,yR,rfl,_⟩:=h
  rfl
 ·obtain⟨y,dy,tb,lx,zq,lt,n,yO,ps,wy,rv,yR,rfl,hy,hT,hex,hrv,q⟩:=h
  have EO:∀ b ∈ ys.ex,b ∉ [y]:=fun b hb z=>by obtain⟨xs,hz⟩:=hex b hb;rw[mem_singleton.mp z,hy]at hz;cases hz
  have zT:yK 2 _:=hr.mono (by decide)
  refine⟨_,ae (aZ (pv 0) (pv 1) rfl)
   (ae (aZ (pv 0) (oS (au Gr hr rfl mr kr br .nil ao (aa (am (pv 1) rfl) (aa (pv 2) ac)))) rfl)
   (ae (aZ (pv 0) (aQ (own:=["room"]) (capN:=[]) (cap:=[]) Jz rfl (iR (am (pv 0) rfl)) (fun C s' H' fp=>⟨av (i:=0) Js rfl (Or.inl rfl),b9,dG Ml Gl zT rfl ml bl .nil ao (aa (pv 0) ac)⟩)) rfl)
   (ae (aZ (pv 0) (aR ac) rfl)
   (ae (aZ (pv 0) (aQ (own:=["place"]) (capN:=[]) (cap:=[]) J0 rfl (aJ rfl T.range (aa (am (am (pv 1) rfl) rfl) ac)) (fun C s' H' fp=>⟨av (i:=0) J4 rfl (Or.inl rfl),b9,bj ac⟩)) rfl)
   (ag (aZ (pv 0) (aR ac) rfl)))))),?_⟩
  have hm40:=hT.zD
  have Ek:=hT.FH
  obtain⟨BY,fst,Bs,zB,_⟩:=hT.i
  have kp:∀ {H':Hp},yI [y] H H'->zj H H':=fun o=>o.EN fun b hb=>by rw[mem_singleton.mp hb];exact⟨_,hy,id⟩
  have Uh:tb ≠ y:=aX Bs hy (fun z=>by injection z with _ _ z3;rw[z3]at zB;cases zB)
  refine⟨_,rfl,_,rfl,y,ys.yB,dy,_,rfl,hy,Y.cl,Y.n1,by show 0 < 1000;decide,?_⟩
  have o1:yI [y] H (upd H y (.ins ys.yB dy (aM "table" (.ref tb) []))):=fun b o nb e=>by rw[af (fun z=>nb (by rw[z];exact mem_singleton.mpr rfl))];exact e
  have g1:(upd H y (.ins ys.yB dy (aM "table" (.ref tb) []))) y=some (.ins ys.yB dy [("table", .ref tb)]):=ad
  have Ui:∀ ra,Sq K H ra yR->Sq K (upd H y (.ins ys.yB dy (aM "table" (.ref tb) []))) ra yR:=fun ra h=>h.elim (fun h => .inl (um hy h)) fun h => .inr (eL hy h)
  show _
  generalize upd H y (.ins ys.yB dy (aM "table" (.ref tb) []))=A1 at o1 g1 Ui ⊢
  have OS:=hT.keep W (kp o1)
  have Hu:∀ {Ha Hb:Hp}{o:HO},yI [y] Ha Hb->yI [y] Ha (upd Hb y o):=fun {Ha Hb o} h b u nb e=>by rw[af (fun z=>nb (by rw[z];exact mem_singleton.mpr rfl))];exact h b u nb e
  refine⟨fun v A2=>∃ ro,v = .ref ro/\y8 A1 A2/\yN K A2 ro yR/\oW ps.length yR=true,?_,?_⟩
  ·refine⟨_,rfl,tb,TC,BY,fst,_,rfl,o1 _ _ (fun z=>Uh (mem_singleton.mp z)) Bs,W.cl,W.nl,zB,_,rfl,lx,zq,lt,(n:Int),yO,ps,rv,rfl,OS.l,by omega,?_⟩
   rcases hrv with ⟨rfl,rfl⟩ | ⟨ra,rfl,hR,BX,Jt,qE⟩
   ·refine .inl ⟨rfl,fun t A2 s2 ht=>⟨t,rfl,s2,yN.of ht,?_⟩⟩
    unfold oW
    rw[length_replicate,decide_eq_true rfl,Bool.true_and,all_eq_true]
    intro v hv
    rw[eq_of_mem_replicate hv];rfl
   ·have hR1:Sq K A1 ra yR:=Ui ra hR
    exact .inr ⟨ra,yR,rfl,hR1,BX,Jt,qE,fun yL t A2 s2 ht=>⟨t,rfl,s2,ht,yL⟩⟩
  rintro v A2 ⟨ro,rfl,s2,FI,yL⟩
  have Bz:yR.length=ps.length/\∀ v ∈ yR,∃ r,v = .int r:=by
   unfold oW at yL
   rw[Bool.and_eq_true,decide_eq_true_eq,all_eq_true]at yL
   exact⟨yL.1,fun v hv=>i9 (yL.2 v hv)⟩
  have o2:yI [y] H A2:=o1.trans (y8.zg s2)
  have g2:=s2 _ _ g1
  refine⟨_,rfl,y,ys.yB,dy,_,rfl,g2,Y.cl,Y.n2,by show 1 < 1000;decide,?_⟩
  have o3:=Hu (o := .ins ys.yB dy (aM "rooms" (.ref ro) [("table", .ref tb)])) o2
  have g3:(upd A2 y (.ins ys.yB dy (aM "rooms" (.ref ro) [("table", .ref tb)]))) y=some (.ins ys.yB dy [("table", .ref tb),("rooms", .ref ro)]):=ad
  have El:yN K (upd A2 y (.ins ys.yB dy (aM "rooms" (.ref ro) [("table", .ref tb)]))) ro yR:=eL g2 FI
  show _
  generalize upd A2 y (.ins ys.yB dy (aM "rooms" (.ref ro) [("table", .ref tb)]))=A3 at o3 g3 El ⊢
  have OT:∀ b ∈ ys.ex,∃ o,A3 b=some o:=fun b hb=>let ⟨xs,hz⟩:=hex b hb; ⟨_,o3 b _ (EO b hb) hz⟩
  refine⟨_,rfl,y,ys.yB,dy,_,_,rfl,g3,Y.cl,Y.n2,rfl,ro,rfl,⟨_,El⟩,?_⟩
  refine og (C:=ys.yW) (by rw[sizeLine_eq];omega) El Bz.2 (fun r B N sB hN=>?_) (fun la yM A4 s4 hla ER=>?_)
  ·refine⟨_,rfl,fun x dx nx J6 EO=>⟨x,dx,r,rfl,ad,fun pa B2 BF off hL=>⟨rfl,?_⟩⟩⟩
   have B7:B pa=none:=by
    by_cases e1:pa=x
    ·rw[e1,ad]at BF;cases BF
    ·by_cases e2:pa=dx
     ·rw[e2,af EO,ad]at BF;cases BF
     ·rw[af e1,af e2]at BF;exact BF
   refine hN x dx pa B2 nx B7 (fun b o e=>off b o (ai e nx) ?_) hL
   rw[af (ai e nx),af (ai e J6)]
   exact e
  have o4:yI [y] H A4:=o3.trans (y8.zg s4)
  have g4:=s4 _ _ g3
  have Em:la ≠ y:=Ne.symm (ai g4 hla)
  have la0:H la=none:=by
   cases e:H la with
   | none=>rfl
   | some u=>rw[o4 _ _ (fun z=>Em (mem_singleton.mp z)) e]at hla;cases hla
  have Uj:Paired (zl y (la :: ys.ex) (upd A4 la (.lst yM)) ys.yW) yM (yR.map mF):=Paired.mono (fun _ _ z=>(z.Jw g3 OT).new hla) ER
  have o5:yI [y] H (upd A4 la (.lst yM)):=o4.trans (y8.zg ((y8.refl A4).new hla))
  have g5:(upd A4 la (.lst yM)) y=some (.ins ys.yB dy [("table", .ref tb),("rooms", .ref ro)]):=by rw[af (Ne.symm Em)];exact g4
  have J7:(upd A4 la (.lst yM)) la=some (.lst yM):=ad
  have J8:yN K (upd A4 la (.lst yM)) ro yR:=bH ((y8.refl A4).new hla) (bH s4 El)
  refine⟨_,rfl,y,ys.yB,dy,_,rfl,g5,Y.cl,Y.n3,by show 2 < 1000;decide,?_⟩
  generalize upd A4 la (.lst yM)=A5 at Uj o5 g5 J7 J8 ⊢
  have Uk:Paired (zl y (la :: ys.ex) (upd A5 y (.ins ys.yB dy (aM "lanes" (.ref la) [("table", .ref tb),("rooms", .ref ro)]))) ys.yW) yM (yR.map mF):=Paired.mono (fun _ _ z=>z.upd) Uj
  have o6:=Hu (o := .ins ys.yB dy (aM "lanes" (.ref la) [("table", .ref tb),("rooms", .ref ro)])) o5
  have g6:(upd A5 y (.ins ys.yB dy (aM "lanes" (.ref la) [("table", .ref tb),("rooms", .ref ro)]))) y=some (.ins ys.yB dy [("table", .ref tb),("rooms", .ref ro),("lanes", .ref la)]):=ad
  have FJ:(upd A5 y (.ins ys.yB dy (aM "lanes" (.ref la) [("table", .ref tb),("rooms", .ref ro)]))) la=some (.lst yM):=by rw[af Em];exact J7
  have J9:=eL (o := .ins ys.yB dy (aM "lanes" (.ref la) [("table", .ref tb),("rooms", .ref ro)])) g5 J8
  generalize upd A5 y (.ins ys.yB dy (aM "lanes" (.ref la) [("table", .ref tb),("rooms", .ref ro)]))=A6 at Uk o6 g6 FJ J9 ⊢
  refine⟨zero_le _,fun le hle=>?_⟩
  have FK:le ≠ y:=Ne.symm (ai g6 hle)
  have ES:la ≠ le:=ai FJ hle
  have le0:H le=none:=by
   cases e:H le with
   | none=>rfl
   | some u=>rw[o6 _ _ (fun z=>FK (mem_singleton.mp z)) e]at hle;cases hle
  have Ul:Paired (zl y (le :: la :: ys.ex) (upd A6 le (.lst [])) ys.yW) yM (yR.map mF):=Paired.mono (fun _ _ z=>z.new hle) Uk
  have o7:yI [y] H (upd A6 le (.lst [])):=o6.trans (y8.zg ((y8.refl A6).new hle))
  have g7:(upd A6 le (.lst [])) y=some (.ins ys.yB dy [("table", .ref tb),("rooms", .ref ro),("lanes", .ref la)]):=by rw[af (Ne.symm FK)];exact g6
  have JA:(upd A6 le (.lst [])) la=some (.lst yM):=by rw[af ES];exact FJ
  have JB:(upd A6 le (.lst [])) le=some (.lst []):=ad
  have JC:yN K (upd A6 le (.lst [])) ro yR:=bH ((y8.refl A6).new hle) J9
  refine⟨_,rfl,y,ys.yB,dy,_,rfl,g7,Y.cl,Y.n4,by show 3 < 1000;decide,?_⟩
  generalize upd A6 le (.lst [])=A7 at Ul o7 g7 JA JB JC ⊢
  have Um:Paired (zl y (le :: la :: ys.ex) (upd A7 y (.ins ys.yB dy (aM "letters" (.ref le) [("table", .ref tb),("rooms", .ref ro),("lanes", .ref la)]))) ys.yW) yM (yR.map mF):=Paired.mono (fun _ _ z=>z.upd) Ul
  have o8:=Hu (o := .ins ys.yB dy (aM "letters" (.ref le) [("table", .ref tb),("rooms", .ref ro),("lanes", .ref la)])) o7
  have g8:(upd A7 y (.ins ys.yB dy (aM "letters" (.ref le) [("table", .ref tb),("rooms", .ref ro),("lanes", .ref la)]))) y=some (.ins ys.yB dy [("table", .ref tb),("rooms", .ref ro),("lanes", .ref la),("letters", .ref le)]):=ad
  have FL:(upd A7 y (.ins ys.yB dy (aM "letters" (.ref le) [("table", .ref tb),("rooms", .ref ro),("lanes", .ref la)]))) la=some (.lst yM):=by rw[af Em];exact JA
  have FN:(upd A7 y (.ins ys.yB dy (aM "letters" (.ref le) [("table", .ref tb),("rooms", .ref ro),("lanes", .ref la)]))) le=some (.lst []):=by rw[af FK];exact JB
  have JD:=eL (o := .ins ys.yB dy (aM "letters" (.ref le) [("table", .ref tb),("rooms", .ref ro),("lanes", .ref la)])) g7 JC
  generalize upd A7 y (.ins ys.yB dy (aM "letters" (.ref le) [("table", .ref tb),("rooms", .ref ro),("lanes", .ref la)]))=A8 at Um o8 g8 FL FN JD ⊢
  have hT8:=hT.keep W (kp o8)
  refine⟨_,rfl,tb,TC,BY,fst,_,rfl,o8 _ _ (fun z=>Uh (mem_singleton.mp z)) Bs,W.cl,W.nl,zB,lx,c.land,zq,_,_,rfl,hT8.l.1,L.cl,L.np,rfl,(n:Int),rfl,by omega,by omega,?_⟩
  rw[toNat_natCast]
  refine qq (by omega) (fun i B N sB hN=>⟨zero_le _,fun t ht=>hN t ht⟩) (fun li AI A9 s9 Bg hLi=>?_)
  have g9:=s9 _ _ g8
  have o9:yI [y] H A9:=o8.trans (y8.zg s9)
  have JE:li ≠ y:=Ne.symm (ai g9 Bg)
  have JF:la ≠ li:=ai (s9 _ _ FL) Bg
  have JG:le ≠ li:=ai (s9 _ _ FN) Bg
  have li0:H li=none:=by
   cases e:H li with
   | none=>rfl
   | some u=>rw[o9 _ _ (fun z=>JE (mem_singleton.mp z)) e]at Bg;cases Bg
  have Hv:=(y8.refl A9).new (o := .lst AI) Bg
  have JH:Paired (zl y (li :: le :: la :: ys.ex) (upd A9 li (.lst AI)) ys.yW) yM (yR.map mF):=Paired.mono (fun _ _ z=>(z.same s9).new Bg) Um
  have ET:Paired (zY (upd A9 li (.lst AI))) AI (List.replicate n []):=Paired.mono (fun _ _ z=>z.keep (y8.yT Hv)) hLi
  have EU:(upd A9 li (.lst AI)) li=some (.lst AI):=ad
  have Uo:yI [y] H (upd A9 li (.lst AI)):=o9.trans (y8.zg Hv)
  have FO:=Hv _ _ g9
  have EV:=Hv _ _ (s9 _ _ FL)
  have EW:=Hv _ _ (s9 _ _ FN)
  have EX:=bH Hv (bH s9 JD)
  refine⟨_,rfl,y,ys.yB,dy,_,rfl,FO,Y.cl,Y.n5,by show 4 < 1000;decide,?_⟩
  generalize upd A9 li (.lst AI)=FP at JH ET EU Uo FO EV EW EX ⊢
  have JI:∀ {B:Hp}{o:HO}{C d:Addr}{fs:Fs}{v:V}{qs:List (Int × Int)},B y=some (.ins C d fs)->zY B v qs->zY (upd B y o) v qs:=fun {B o C d fs v qs} hB h=>by
   obtain⟨t,ws,e,h1,h2⟩:=h
   exact⟨t,ws,e,by rw[af (aX h1 hB (by intro z;cases z))];exact h1,yU.imp (fun _ _ yD=>by obtain⟨t',e',q'⟩:=yD;exact⟨t',e',by rw[af (aX q' hB (by intro z;cases z))];exact q'⟩) h2⟩
  have JJ:Paired (zl y (li :: le :: la :: ys.ex) (upd FP y (.ins ys.yB dy (aM "lies" (.ref li) [("table", .ref tb),("rooms", .ref ro),("lanes", .ref la),("letters", .ref le)]))) ys.yW) yM (yR.map mF):=Paired.mono (fun _ _ z=>z.upd) JH
  have EY:Paired (zY (upd FP y (.ins ys.yB dy (aM "lies" (.ref li) [("table", .ref tb),("rooms", .ref ro),("lanes", .ref la),("letters", .ref le)])))) AI (List.replicate n []):=Paired.mono (fun _ _ z=>JI FO z) ET
  have Mr:=Hu (o := .ins ys.yB dy (aM "lies" (.ref li) [("table", .ref tb),("rooms", .ref ro),("lanes", .ref la),("letters", .ref le)])) Uo
  have OU:(upd FP y (.ins ys.yB dy (aM "lies" (.ref li) [("table", .ref tb),("rooms", .ref ro),("lanes", .ref la),("letters", .ref le)]))) y=some (.ins ys.yB dy [("table", .ref tb),("rooms", .ref ro),("lanes", .ref la),("letters", .ref le),("lies", .ref li)]):=ad
  have Dn:(upd FP y (.ins ys.yB dy (aM "lies" (.ref li) [("table", .ref tb),("rooms", .ref ro),("lanes", .ref la),("letters", .ref le)]))) la=some (.lst yM):=by rw[af Em];exact EV
  have Dq:(upd FP y (.ins ys.yB dy (aM "lies" (.ref li) [("table", .ref tb),("rooms", .ref ro),("lanes", .ref la),("letters", .ref le)]))) le=some (.lst []):=by rw[af FK];exact EW
  have Ds:(upd FP y (.ins ys.yB dy (aM "lies" (.ref li) [("table", .ref tb),("rooms", .ref ro),("lanes", .ref la),("letters", .ref le)]))) li=some (.lst AI):=by rw[af JE];exact EU
  have EZ:=eL (o := .ins ys.yB dy (aM "lies" (.ref li) [("table", .ref tb),("rooms", .ref ro),("lanes", .ref la),("letters", .ref le)])) FO EX
  generalize upd FP y (.ins ys.yB dy (aM "lies" (.ref li) [("table", .ref tb),("rooms", .ref ro),("lanes", .ref la),("letters", .ref le)]))=A11 at JJ EY Mr OU Dn Dq Ds EZ ⊢
  refine⟨zero_le _,fun dn AO=>?_⟩
  have Ms:dn ≠ y:=Ne.symm (ai OU AO)
  have JK:la ≠ dn:=ai Dn AO
  have JL:le ≠ dn:=ai Dq AO
  have JM:li ≠ dn:=ai Ds AO
  have dn0:H dn=none:=by
   cases e:H dn with
   | none=>rfl
   | some u=>rw[Mr _ _ (fun z=>Ms (mem_singleton.mp z)) e]at AO;cases AO
  have Fb:=(y8.refl A11).new (o := .lst []) AO
  have OV:=Fb _ _ OU
  refine⟨_,rfl,y,ys.yB,dy,_,rfl,OV,Y.cl,Y.n6,by show 5 < 1000;decide,?_⟩
  refine q yL ro la le li dn _ (Hu (Mr.trans (y8.zg Fb))) la0 le0 li0 dn0 ⟨ad,eL OV (bH Fb EZ),⟨yM,by rw[af Em];exact Fb _ _ Dn,?_⟩,⟨[],by rw[af FK];exact Fb _ _ Dq, .nil⟩,⟨AI,by rw[af JE];exact Fb _ _ Ds,Paired.mono (fun _ _ z=>JI OV (z.keep (y8.yT Fb))) EY⟩,⟨[],by rw[af Ms];exact ad, .nil⟩,?_,(fun b hb=>let ⟨xs,hz⟩:=hex b hb; ⟨xs,(Hu (Mr.trans (y8.zg Fb))) b _ (EO b hb) hz⟩)⟩
  ·refine Paired.mono (fun _ _ z=>((z.new AO).upd).Jx fun a ha=>?_) JJ
   simp only[mem_cons]at ha ⊢
   rcases ha with rfl | rfl | rfl | rfl | h
   ·exact .inr (.inr (.inr (.inl rfl)))
   ·exact .inr (.inr (.inl rfl))
   ·exact .inr (.inl rfl)
   ·exact .inl rfl
   ·exact .inr (.inr (.inr (.inr h)))
  ·simp only[nodup_cons,mem_cons,not_mem_nil,or_false,not_or,not_false_eq_true,and_true,nodup_nil]
   exact⟨⟨ES,JF,JK⟩,⟨JG,JL⟩,JM⟩
theorem yH.off {K:Frag}{ys:Ys}{H H':Hp}{y dy tb ro la le li dn:Addr}{s:YS}(h:yH K ys H y dy tb ro la le li dn s)(o:yI (la :: le :: li :: dn :: ys.ex) H H'):H' y=some (.ins ys.yB dy (Mo tb ro la le li dn))/\yN K H' ro s.rooms/\(∀ vs ss,Paired (AJ H ys.yW (la :: le :: li :: dn :: ys.ex)) vs ss->Paired (AJ H' ys.yW (la :: le :: li :: dn :: ys.ex)) vs ss)/\(∀ vs ss,Paired (Bo H ys.yA (la :: le :: li :: dn :: ys.ex)) vs ss->Paired (Bo H' ys.yA (la :: le :: li :: dn :: ys.ex)) vs ss)/\(∀ vs ss,Paired (zY H) vs ss->Paired (zY H') vs ss)/\∀ vs ss,Paired (Ar H) vs ss->Paired (Ar H') vs ss:=by
 have hx:=h.Co
 have k:=o.yT hx
 refine⟨k _ _ h.ins True.intro,?_,fun vs ss=>Paired.mono fun _ _ z=>z.zg hx o,fun vs ss=>Paired.mono fun _ _ z=>z.zg hx o,fun vs ss=>Paired.mono fun _ _ z=>z.keep k,fun vs ss=>Paired.mono fun _ _ z=>z.keep k⟩
 rcases h.FI with r | r
 ·refine .inl ?_
  rcases r with r | ⟨u,r⟩
  ·exact .inl (k _ _ r True.intro)
  ·exact .inr ⟨u,k _ _ r True.intro⟩
 ·exact .inr r
theorem cu {ex:List Addr}{a:Addr}{H:Hp}{o:HO}(ha:a ∈ ex):yI ex H (upd H a o):=fun b u nb e=>by rw[af (fun z=>nb (by rw[z];exact ha))];exact e
theorem p0 {H:Hp}{x b:Addr}{zs:List V}(h:∃ xs,H b=some (.lst xs)):∃ xs,(upd H x (.lst zs)) b=some (.lst xs):=by
 by_cases e:b=x
 ·exact⟨zs,by rw[e,ad]⟩
 ·obtain⟨xs,hz⟩:=h
  exact⟨xs,by rw[af e];exact hz⟩
theorem yH.JN {K:Frag}{ys:Ys}{H:Hp}{y dy tb ro la le li dn:Addr}{s:YS}(h:yH K ys H y dy tb ro la le li dn s){vs:List V}{v:V}{t:aS}(hv:H le=some (.lst vs))(hL:Bo H ys.yA (la :: le :: li :: dn :: ys.ex) v t):yH K ys (upd H le (.lst (vs ++ [v]))) y dy tb ro la le li dn { s with U:=s.U ++ [t] }:=by
 obtain⟨h1,h2,f1,f2,f3,f4⟩:=h.off (cu (a:=le) (o := .lst (vs ++ [v])) (by simp))
 obtain⟨v1,a1,p1⟩:=h.hla
 obtain⟨v2,a2,p2⟩:=h.hle
 obtain⟨v3,a3,p3⟩:=h.Bg
 obtain⟨v4,a4,p4⟩:=h.AO
 rw[hv]at a2
 cases a2
 have ne:=h.ne
 simp only[nodup_cons,mem_cons,not_mem_nil,or_false,not_or,not_false_eq_true,and_true,nodup_nil]at ne
 have OW:Paired (Bo (upd H le (.lst (vs ++ [v]))) ys.yA (la :: le :: li :: dn :: ys.ex)) [v] [t]:=f2 [v] [t] (.cons hL .nil)
 exact⟨h1,h2,⟨v1,by rw[af ne.1.1];exact a1,f1 _ _ p1⟩,⟨vs ++ [v],ad,Paired.snoc (by cases OW with | cons z _=>exact z) (f2 _ _ p2)⟩,⟨v3,by rw[af (Ne.symm ne.2.1.1)];exact a3,f3 _ _ p3⟩,⟨v4,by rw[af (Ne.symm ne.2.1.2)];exact a4,f4 _ _ p4⟩,h.ne,fun b hb=>p0 (h.hex b hb)⟩
theorem yH.Fc {K:Frag}{ys:Ys}{H:Hp}{y dy tb ro la le li dn:Addr}{s:YS}(h:yH K ys H y dy tb ro la le li dn s){vs:List V}{v:V}{t:List V}(hv:H dn=some (.lst vs))(hL:Ar H v t):yH K ys (upd H dn (.lst (vs ++ [v]))) y dy tb ro la le li dn { s with done:=s.done ++ [t] }:=by
 obtain⟨h1,h2,f1,f2,f3,f4⟩:=h.off (cu (a:=dn) (o := .lst (vs ++ [v])) (by simp))
 obtain⟨v1,a1,p1⟩:=h.hla
 obtain⟨v2,a2,p2⟩:=h.hle
 obtain⟨v3,a3,p3⟩:=h.Bg
 obtain⟨v4,a4,p4⟩:=h.AO
 rw[hv]at a4
 cases a4
 have ne:=h.ne
 simp only[nodup_cons,mem_cons,not_mem_nil,or_false,not_or,not_false_eq_true,and_true,nodup_nil]at ne
 have OW:Paired (Ar (upd H dn (.lst (vs ++ [v])))) [v] [t]:=f4 [v] [t] (.cons hL .nil)
 exact⟨h1,h2,⟨v1,by rw[af ne.1.2.2];exact a1,f1 _ _ p1⟩,⟨v2,by rw[af ne.2.1.2];exact a2,f2 _ _ p2⟩,⟨v3,by rw[af ne.2.2];exact a3,f3 _ _ p3⟩,⟨vs ++ [v],ad,Paired.snoc (by cases OW with | cons z _=>exact z) (f4 _ _ p4)⟩,h.ne,fun b hb=>p0 (h.hex b hb)⟩
inductive Pd
 | place | length | word | way | full | good
noncomputable def jU (n:Nat)(wy:Wf)(m:Nat)(sv gv lv wv:V):Pd :=
 if (ju sv 0 ((n:Int) - 1) && ju gv 0 ((n:Int) - 1))=false then .place else if ju lv 1 60=false then .length else if Ht wv=false then .word
 else if vI sv=vI gv∨wy (vI sv).toNat (vI gv).toNat none=[] then .way else if 60 <= m then .full else .good
noncomputable def cP (s:YS)(a b l u:Int):YS:={ s with U:=s.U ++ [⟨a,b,l,u,0,[]⟩],done:=s.done ++ [[.str "post", .int a, .int b, .int l, .int u]] }
noncomputable def mS (K:Frag)(c:Cs)(TC:Addr)(J:TJ)(ys:Ys):Sp:=fun vs H Q _=>∃ (y dy tb ro la le li dn lx zq lt:Addr)(n:Nat)(yO:List V)(ps:List (Int × Int))(wy:Wf)(s:YS)(sv gv lv wv:V),vs=[.ref y,sv,gv,lv,wv]/\yH K ys H y dy tb ro la le li dn s/\zG c TC J H tb lx zq lt n yO ps wy/\qu sv/\qu gv/\qu lv/\qu wv/\s.U.length <= 900/\s.done.length <= 10000 /\
 (jU n wy s.U.length sv gv lv wv = .place->False) /\
 (jU n wy s.U.length sv gv lv wv = .length->False) /\
 (jU n wy s.U.length sv gv lv wv = .word->False) /\
 (jU n wy s.U.length sv gv lv wv = .way->False) /\
 (jU n wy s.U.length sv gv lv wv = .full->False) /\
 (jU n wy s.U.length sv gv lv wv = .good->∀ H',yI [le,dn] H H'->yH K ys H' y dy tb ro la le li dn (cP s (vI sv) (vI gv) (vI lv) (vI wv))->Q (.int s.U.length) H')
abbrev NPo:List Str:=["self", "start", "goal", "length", "word", "last_place"]
abbrev JO:List Str:=["self", "start", "goal", "length", "word"]
theorem JP:ap NPo JO (ah fT):=L2.ze
theorem uS {c:Cs}{ys:Ys}{J:TJ}{TC f Mp fw OX fl:Addr}{fd Mq dw Up dl:FuncData}{t1 t2:Tok}(F:C5 K "post" "Yard.post" fT f fd)(T:dP mg)(L:mG K c)(Y:gE K ys)(W:Wy K TC Mp Mq J)(FQ:y9 P w K mg base aC 3 Mp Mq ["self", "place", "goal", "came"] (dD J))
  (mw:mg "is_within" = some (.ref fw)) (kw:keepIn K (.ref fw)=true) (bw:Binds K dw ["value", "least", "most"] []) (Gw:y9 P w K mg base aC 2 fw dw ["value", "least", "most"] eO)
  (mwo:mg "is_word" = some (.ref OX)) (kwo:keepIn K (.ref OX)=true) (bwo:Binds K Up ["word"] []) (OY:y9 P w K mg base aC 2 OX Up ["word"] qO)
  (ml:mg "Letter" = some (.ref ys.yA)) (Ml:Mk K ys.yA fl) (bl:Binds K dl ["self", "start", "goal", "length", "word"] []) (Gl:y9 P w K mg base aC 1 fl dl ["self", "start", "goal", "length", "word"] (qZ ys.yA))
  (mL:mg "MOST_LENGTH" = some (.int 60 t1)) (mM:mg "MOST_LETTERS" = some (.int 60 t2)) :
  y9 P w K mg base aC 4 f fd JO (mS K c TC J ys):=by
 refine F.ok JP (fun _ _ _ _ h=>?_) (fun _ _ _ s H _ Q E hr h=>?_)
 ·obtain⟨y,dy,tb,ro,la,le,li,dn,lx,zq,lt,n,yO,ps,wy,s,sv,gv,lv,wv,rfl,_⟩:=h
  rfl
 ·obtain⟨y,dy,tb,ro,la,le,li,dn,lx,zq,lt,n,yO,ps,wy,st,sv,gv,lv,wv,rfl,hY,hT,cs,cg,cl,cw,hl9,hd9,e1,e2,e3,e4,e5,q⟩:=h
  have zT:yK 2 _:=hr.mono (by decide)
  refine⟨_,ae (aE (i:=5) JP.nd rfl (Or.inl rfl) (aD dH (am (am (am (pv 0) rfl) rfl) rfl) aj))
   (ae (aL (PW.pt (eu (bF (bA (au Gw zT rfl mw kw bw .nil ao (aa (pv 1) (aa aj (aa (pv 5) ac)))))) (cG (bF (bA (au Gw zT rfl mw kw bw .nil ao (aa (pv 2) (aa aj (aa (pv 5) ac)))))))))
    (ag bJ) aB)
   (ae (aL (bF (bA (au Gw zT rfl mw kw bw .nil ao (aa (pv 3) (aa aj (aa (eP (v := .int 60) rfl mL ⟨_,rfl⟩) ac))))))
    (ag bJ) aB)
   (ae (aL (bF (bA (au OY zT rfl mwo kwo bwo .nil ao (aa (pv 4) ac))))
    (ag bJ) aB)
   (ae (aL (jS (PW.pt (eu (ax bK (pv 1) (pv 2) (aA _)) (cG (bF (e8 (aG (am (pv 0) rfl) W.cl W.m FQ hr W.b .nil ao (aa (pv 1) (aa (pv 2) (aa b8 ac)))) (fun _=>rfl)))))))
    (ag bJ) aB)
   (ae (aL (ax wj (aw aq rfl T.len PySem.boot_len (aa (am (pv 0) rfl) ac)) (eP (v := .int 60) rfl mM ⟨_,rfl⟩) (aA _))
    (ag bJ) aB)
   (ae (aO (cz plainAttrs_list PySem.F.slot_list_append PySem.F.type_list_append bQ (am (pv 0) rfl) (aa (dG Ml Gl zT rfl ml bl .nil ao (aa (pv 1) (aa (pv 2) (aa (pv 3) (aa (pv 4) ac))))) ac)))
   (ae (aO (cz plainAttrs_list PySem.F.slot_list_append PySem.F.type_list_append bQ (am (pv 0) rfl) (aa (bj (aa bW (aa (pv 1) (aa (pv 2) (aa (pv 3) (aa (pv 4) ac)))))) ac)))
   (ag (ar (aD dH (aw aq rfl T.len PySem.boot_len (aa (am (pv 0) rfl) ac)) aj)))))))))),?_⟩
  obtain⟨BY,fst,Bs,zB,Au⟩:=hT.i
  unfold jU at e1 e2 e3 e4 e5 q
  refine⟨_,rfl,y,ys.yB,dy,_,_,rfl,hY.ins,Y.cl,Y.n1,rfl,tb,TC,BY,fst,_,rfl,Bs,W.cl,W.nl,zB,lx,c.land,zq,_,_,rfl,hT.l.1,L.cl,L.np,rfl,_,_,rfl,rfl,?_⟩
  refine⟨_,rfl,_,rfl,sv,0,(n:Int) - 1,rfl,cs,_,rfl,?_⟩
  cases h1:ju sv 0 ((n:Int) - 1) with
  | false =>
   exact aK (aK (e1 (by rw[h1,Bool.false_and,if_pos rfl])))
  | true =>
  refine aH ⟨_,rfl,_,rfl,gv,0,(n:Int) - 1,rfl,cg,_,rfl,?_⟩
  cases h2:ju gv 0 ((n:Int) - 1) with
  | false =>
   exact aK (e1 (by rw[h1,h2,Bool.and_false,if_pos rfl]))
  | true =>
  rw[h1,h2,Bool.true_and,if_neg (by decide)]at e2 e3 e4 e5 q
  refine aH ⟨_,rfl,lv,1,60,rfl,cl,_,rfl,?_⟩
  cases h3:ju lv 1 60 with
  | false =>
   exact aK (e2 (by rw[h3,if_pos rfl]))
  | true =>
  rw[h3,if_neg (by decide)]at e3 e4 e5 q
  refine aH ⟨_,rfl,wv,rfl,cw,_,rfl,?_⟩
  cases h4:Ht wv with
  | false =>
   exact aK (e3 (by rw[h4,if_pos rfl]))
  | true =>
  rw[h4,if_neg (by decide)]at e4 e5 q
  refine aH ?_
  obtain⟨a,rfl⟩:=i9 h1
  obtain⟨b,rfl⟩:=i9 h2
  obtain⟨l,rfl⟩:=i9 h3
  obtain⟨u,rfl⟩:∃ u,wv = .int u:=by
   cases wv<;>first | exact⟨_,rfl⟩ | cases h4
  have ha:0 <= a/\a <= (n:Int) - 1:=of_decide_eq_true h1
  have hb:0 <= b/\b <= (n:Int) - 1:=of_decide_eq_true h2
  obtain⟨a',rfl⟩:∃ a':Nat,a=(a':Int):=⟨a.toNat,by omega⟩
  obtain⟨b',rfl⟩:∃ b':Nat,b=(b':Int):=⟨b.toNat,by omega⟩
  have ev:∀ z:Int,vI (.int z)=z:=fun _=>rfl
  rw[ev,ev,toNat_natCast,toNat_natCast]at e4 e5 q
  refine⟨fun k H1=>y8 H H1/\k=decide ((a':Int)=(b':Int)∨wy a' b' none=[]),?_,?_⟩
  ·refine⟨_,rfl,_,rfl,rfl,_,rfl,?_⟩
   rw[bE]
   by_cases FR:(a':Int)=(b':Int)
   ·rw[decide_eq_true FR]
    exact aK ⟨y8.refl H,by rw[decide_eq_true (Or.inl FR)]⟩
   ·rw[decide_eq_false FR]
    refine aH ⟨_,rfl,y,ys.yB,dy,_,_,rfl,hY.ins,Y.cl,Y.n1,rfl,tb,BY,fst,rfl,Bs,Au,_,rfl,_,rfl,tb,n,wy,a',b',none,rfl,hT.j,by omega,by omega,fun D H1 s1 hD gD=>⟨_, .inl ⟨_,yC.of gD,rfl⟩,s1,?_⟩⟩
    cases hw:wy a' b' none with
    | nil=>rw[decide_eq_true (Or.inr rfl)];rfl
    | cons z zs=>rw[decide_eq_false (fun z=>z.elim FR fun z=>by cases z)];rfl
  rintro k H1 ⟨s1,rfl⟩
  have zM:=hY.same s1
  by_cases En:(a':Int)=(b':Int)∨wy a' b' none=[]
  ·rw[decide_eq_true En]
   exact aK (e4 (by rw[if_pos En]))
  rw[decide_eq_false En]
  rw[if_neg En]at e5 q
  refine aH ?_
  obtain⟨C9,zR,pl⟩:=zM.hle
  have zV:C9.length=st.U.length:=Paired.length pl
  refine⟨_,rfl,y,ys.yB,dy,_,_,rfl,zM.ins,Y.cl,Y.n4,rfl,le,_,rfl, .inl (yC.of zR),_,_,rfl,rfl,_,rfl,?_⟩
  by_cases Fe:60 <= st.U.length
  ·rw[decide_eq_true (show (60:Int) <= (C9.length:Nat) by omega)]
   exact aK (e5 (by rw[if_pos Fe]))
  rw[decide_eq_false (show ¬ (60:Int) <= (C9.length:Nat) by omega)]
  rw[if_neg Fe]at q
  refine aH ?_
  refine⟨_,rfl,y,ys.yB,dy,_,_,rfl,zM.ins,Y.cl,Y.n4,rfl, .inl ⟨rfl,_,yC.of zR⟩,_,rfl,_,rfl,_,rfl,_,rfl,fun xl AD nx J6 EO=>⟨xl,AD,(a':Int),(b':Int),l,u,rfl,ad,fun wa H2 C8 off DL DO=>⟨rfl,?_⟩⟩⟩
  have BG:y8 H1 H2:=fun z o ez=>off z o (ai ez nx) (by rw[af (ai ez nx),af (ai ez J6)];exact ez)
  have OZ:H1 wa=none:=by
   by_cases z1:wa=xl
   ·rw[z1,ad]at C8;cases C8
   ·by_cases z2:wa=AD
    ·rw[z2,af EO,ad]at C8;cases C8
    ·rw[af z1,af z2]at C8;exact C8
  have Av:=zM.same BG
  have JQ:=BG _ _ zR
  have hlv:Bo H2 ys.yA (la :: le :: li :: dn :: ys.ex) (.ref xl) ⟨(a':Int),(b':Int),l,u,0,[]⟩:=⟨xl,AD,wa,rfl,DL,DO,fun z=>by obtain⟨xs,hz⟩:=zM.Co wa z;rw[OZ]at hz;cases hz⟩
  refine⟨le,_,_,rfl,rfl,JQ,by rw[sizeLine_eq];omega,?_⟩
  have Aw:=Av.JN JQ hlv
  have o3:yI [le,dn] H (upd H2 le (.lst (C9 ++ [.ref xl]))):=(y8.zg (s1.trans BG)).trans (cu (by simp))
  generalize upd H2 le (.lst (C9 ++ [.ref xl]))=H3 at Aw o3 ⊢
  obtain⟨zS,Hw,pd⟩:=Aw.AO
  have F6:zS.length=st.done.length:=Paired.length pd
  refine⟨_,rfl,y,ys.yB,dy,_,_,rfl,Aw.ins,Y.cl,Y.n6,rfl, .inl ⟨rfl,_,yC.of Hw⟩,_,rfl,_,rfl,_,rfl,_,rfl,by show 5 <= sizeLine;decide,fun t ht=>?_⟩
  have Du:=(y8.refl H3).new (o := .tup [.str "post", .int (a':Int), .int (b':Int), .int l, .int u]) ht
  have Uq:(upd H3 t (.tup [.str "post", .int (a':Int), .int (b':Int), .int l, .int u])) t=some (.tup [.str "post", .int (a':Int), .int (b':Int), .int l, .int u]):=ad
  generalize upd H3 t (.tup [.str "post", .int (a':Int), .int (b':Int), .int l, .int u])=H4 at Du Uq ⊢
  have JR:=Aw.same Du
  have JS:=Du _ _ Hw
  refine⟨dn,_,_,rfl,rfl,JS,by rw[sizeLine_eq];omega,?_⟩
  have Hx:=JR.Fc JS ⟨t,rfl,Uq⟩
  have o5:yI [le,dn] H (upd H4 dn (.lst (zS ++ [.ref t]))):=(o3.trans (y8.zg Du)).trans (cu (by simp))
  generalize upd H4 dn (.lst (zS ++ [.ref t]))=H5 at Hx o5 ⊢
  obtain⟨Ur,Pa,pl5⟩:=Hx.hle
  have hl5:Ur.length=st.U.length + 1:=by rw[Paired.length pl5,length_append];rfl
  refine⟨_,rfl,y,ys.yB,dy,_,_,rfl,Hx.ins,Y.cl,Y.n4,rfl,le,_,rfl, .inl (yC.of Pa),_,_,rfl,rfl,?_⟩
  have er:((Ur.length:Nat):Int) - 1=(st.U.length:Int):=by omega
  dsimp only
  rw[er]
  exact q rfl H5 o5 Hx
theorem eV {K:Frag}{a:Addr}{xs:List V}{g:TG}{te:TE}{σ0:St}{H:Hp}{Q:VK}(f:Nat->V)(hn:xs.length < sizeLine)(ha:yC K H a xs)
  (hs:∀ (i:Nat)(x:V)(N:V->Hp->Prop),xs[i]? = some x->N (f i) H->g x σ0 H fun σ2 H2=>te σ2 H2 N)
  (hq:∀ D,H D=none->Q (.ref D) (upd H D (.lst ((List.range xs.length).map f)))):cO (tZ K a) g kP te σ0 Q H:=by
 refine bu xs.length hn (fun i acc H'=>H' = H/\acc=(List.range i).map f) ⟨rfl,rfl⟩ (fun i acc H' h=>by rw[h.2,length_map,length_range];exact Nat.le_refl _) (fun i acc H' hi h=>?_) (fun acc H' h=>?_)
 ·obtain⟨rfl,rfl⟩:=h
  refine⟨⟨xs,xs[i],ha,by simp[hi]⟩,fun v H2 y=>?_⟩
  obtain⟨e,y⟩:=y
  subst e
  exact hs i v (fun y H4=>H4=H2/\(List.range i).map f ++ [y]=(List.range (i + 1)).map f) (y xs ha) ⟨rfl,by rw[range_succ,map_append];rfl⟩
 ·obtain⟨rfl,rfl⟩:=h
  exact⟨⟨xs,ha,Nat.le_refl _⟩,hq⟩
theorem fH {α β:Type}(xs:List α)(d:α)(f:α->β):(List.range xs.length).map (fun i=>f (xs.getD i d))=xs.map f:=by
 refine ext_getElem (by simp) fun i h1 h2=>?_
 simp only[getElem_map,List.getElem_range]
 rw[getD_eq_getElem?_getD,getElem?_eq_getElem (by simpa using h2)];rfl
noncomputable def JT (K:Frag):List V->Hp->VK->Prop:=fun xs H Q=>∃ (p:Addr)(ys:List V),xs=[.ref p]/\(yC K H p ys∨yN K H p ys)/\Q (.int (ys.length:Nat)) H
noncomputable def oJ (K:Frag)(ys:Ys):Sp:=fun vs H Q _=>∃ (y dy tb ro la le li dn:Addr)(s:YS)(k:Nat)(ln:bC),vs=[.ref y, .int k]/\yH K ys H y dy tb ro la le li dn s/\s.lanes[k]? = some ln/\∀ (t ql:Addr)(yS:List V)(H':Hp),y8 H H'->H ql=none->H' t=some (.tup [.int ln.r, .int ln.b,hV ln.h, .ref ql])->H' ql=some (.lst yS)->yU H' yS ln.qs->Q (.ref t) H'
noncomputable def mW (K:Frag)(ys:Ys):Sp:=fun vs H Q _=>∃ (y dy tb ro la le li dn:Addr)(s:YS)(k:Nat)(lt:aS),vs=[.ref y, .int k]/\yH K ys H y dy tb ro la le li dn s/\s.U[k]? = some lt/\∀ (t:Addr)(H':Hp),y8 H H'->H' t=some (.tup [.int lt.start, .int lt.goal, .int lt.len, .int lt.word])->Q (.ref t) H'
noncomputable def iJ (K:Frag)(ys:Ys):Sp:=fun vs H Q _=>∃ (y dy tb ro la le li dn:Addr)(s:YS),vs=[.ref y]/\yH K ys H y dy tb ro la le li dn s/\Q (.int s.U.length) H
theorem Pb:ap ["self", "lane"] ["self", "lane"] (ah nv):=L2.ze
theorem su {ys:Ys}{f ft:Addr}{fd dt:FuncData}(F:yY K "lane_told" "Yard.lane_told" nv f fd)(Y:gE K ys)(mt:bM K ys.yW "told" ft)(bt:Binds K dt ["self"] [])(Gt:y9 P w K mg base aC 1 ft dt ["self"] (vZ ys.yW)) :
  y9 P w K mg base aC 2 f fd ["self", "lane"] (oJ K ys):=by
 refine F.ok Pb (fun _ _ _ _ h=>?_) (fun _ _ _ s H _ Q E hr h=>?_)
 ·obtain⟨y,dy,tb,ro,la,le,li,dn,st,k,ln,rfl,_⟩:=h
  rfl
 ·obtain⟨y,dy,tb,ro,la,le,li,dn,st,k,ln,rfl,hY,hk,q⟩:=h
  refine⟨_,ag (ar (bD (az yG (am (pv 0) rfl) (pv 1) (fun _ _=>rfl)) Y.L.cl mt Gt hr bt .nil ao)),?_⟩
  obtain⟨yM,zw,pl⟩:=hY.hla
  obtain⟨v,hv,x,dx,pa,yS,rfl,hL,_⟩:=Paired.at2 pl hk
  refine⟨_,rfl,y,ys.yB,dy,_,_,rfl,hY.ins,Y.cl,Y.n3,rfl,_,rfl,la,yM,(k:Int),_,rfl,rfl,yC.of zw,ak hv,x,dx,_,rfl,hL.ins,rfl,?_⟩
  exact⟨x,dx,pa,ln.r,ln.b,ln.h,yS,ln.qs,rfl,hL,fun t ql H' s' DN gt Mu=>q t ql yS H' s' DN gt Mu (yU.same s' hL.zL)⟩
theorem JU:ap ["self", "number", "letter"] ["self", "number"] (ah rH):=L2.ze
theorem vc {ys:Ys}{f:Addr}{fd:FuncData}(F:yY K "letter_told" "Yard.letter_told" rH f fd)(Y:gE K ys):y9 P w K mg base aC 1 f fd ["self", "number"] (mW K ys):=by
 refine F.ok JU (fun _ _ _ _ h=>?_) (fun _ _ _ s H _ Q E hr h=>?_)
 ·obtain⟨y,dy,tb,ro,la,le,li,dn,st,k,ln,rfl,_⟩:=h
  rfl
 ·obtain⟨y,dy,tb,ro,la,le,li,dn,st,k,lt,rfl,hY,hk,q⟩:=h
  refine⟨_,ae (aE (i:=2) JU.nd rfl (Or.inl rfl) (az yG (am (pv 0) rfl) (pv 1) (fun _ _=>rfl))) (ag (ar (bj (aa (am (pv 2) rfl) (aa (am (pv 2) rfl) (aa (am (pv 2) rfl) (aa (am (pv 2) rfl) ac))))))),?_⟩
  obtain⟨yO,zR,pl⟩:=hY.hle
  obtain⟨v,hv,x,dx,wa,rfl,hx,_⟩:=Paired.at2 pl hk
  refine⟨_,rfl,y,ys.yB,dy,_,_,rfl,hY.ins,Y.cl,Y.n4,rfl,_,rfl,le,yO,(k:Int),_,rfl,rfl,yC.of zR,ak hv,?_⟩
  refine⟨_,rfl,x,ys.yA,dx,_,_,rfl,hx,Y.ct,Y.t1,rfl,_,rfl,x,ys.yA,dx,_,_,rfl,hx,Y.ct,Y.t2,rfl,_,rfl,x,ys.yA,dx,_,_,rfl,hx,Y.ct,Y.t3,rfl,_,rfl,x,ys.yA,dx,_,_,rfl,hx,Y.ct,Y.t4,rfl,by show 4 <= sizeLine;decide,fun t ht=>?_⟩
  exact q t _ ((y8.refl H).new ht) ad
theorem Pe:ap ["self"] ["self"] (ah jO):=L2.ze
theorem pV {ys:Ys}{f:Addr}{fd:FuncData}(F:yY K "posted" "Yard.posted" jO f fd)(T:dP mg)(Y:gE K ys):y9 P w K mg base aC 1 f fd ["self"] (iJ K ys):=by
 refine F.ok Pe (fun _ _ _ _ h=>?_) (fun _ _ _ s H _ Q E hr h=>?_)
 ·obtain⟨y,dy,tb,ro,la,le,li,dn,st,rfl,_⟩:=h
  rfl
 ·obtain⟨y,dy,tb,ro,la,le,li,dn,st,rfl,hY,q⟩:=h
  refine⟨_,ag (ar (aw aq rfl T.len PySem.boot_len (aa (am (pv 0) rfl) ac))),?_⟩
  obtain⟨yO,zR,pl⟩:=hY.hle
  refine⟨_,rfl,y,ys.yB,dy,_,_,rfl,hY.ins,Y.cl,Y.n4,rfl,le,_,rfl, .inl (yC.of zR),?_⟩
  rw[Paired.length pl]
  exact q
theorem oj {K:Frag}{T:Addr}{o:Obj}{n:Nat}{kV doc pm cdv ct:Value}{an:Option Addr}(ho:K.lookup T=some o)(hs:o.data = .seq #[Value.none] n) :
  Binds K (fnOf "__init__" "Yard.__init__" (bN gI) (aF gI) (ah gI) (.ref T) kV doc pm an cdv ct) ["self", "table", "rooms"] []:=fun s us BI hl=>by
 have hl:us.length=3:=by rw[append_nil]at hl;exact hl
 obtain⟨a,Pf,rfl,Mw⟩:=L2.EB hl
 obtain⟨b,us1,rfl,Pg⟩:=L2.EB Mw
 obtain⟨c,us2,rfl,CG⟩:=L2.EB Pg
 obtain rfl:=List.eq_nil_of_length_eq_zero CG
 exact BindsTo.of_defaults rfl (BI _ _ ho) hs rfl rfl
theorem m5 {K:Frag}{T:Addr}{o:Obj}{n:Nat}{tk:Tok}{kV doc pm cdv ct:Value}{an:Option Addr}(ho:K.lookup T=some o)(hs:o.data = .seq #[Value.int 0 tk] n) :
  Binds K (fnOf "post" "Yard.post" (bN fT) (aF fT) (ah fT) (.ref T) kV doc pm an cdv ct) JO []:=fun s us BI hl=>by
 have hl:us.length=5:=by rw[append_nil]at hl;exact hl
 obtain⟨a,Pf,rfl,Mw⟩:=L2.EB hl
 obtain⟨b,us1,rfl,Pg⟩:=L2.EB Mw
 obtain⟨c,us2,rfl,CG⟩:=L2.EB Pg
 obtain⟨d,us3,rfl,hl3⟩:=L2.EB CG
 obtain⟨e,us4,rfl,Mx⟩:=L2.EB hl3
 obtain rfl:=List.eq_nil_of_length_eq_zero Mx
 exact BindsTo.of_defaults rfl (BI _ _ ho) hs rfl rfl
noncomputable def vY (C:Addr):Sp:=fun vs H Q _=>∃ (x dx pa:Addr)(r b:Int)(h:Option Int)(yS:List V)(qs:List (Int × Int)),vs=[.ref x]/\yV H C x dx pa r b h yS qs/\∀ (x' C0 CI:Addr)(H':Hp),y8 H H'->H x' = none->H CI = none->yV H' C x' C0 CI r b h yS qs->Q (.ref x') H'
noncomputable def vX (C:Addr):Sp:=fun vs H Q _=>∃ (x dx wa:Addr)(s:aS),vs=[.ref x]/\H x=some (.ins C dx (nQ s wa))/\H wa=some (.lst (nV s.way))/\∀ (x' C0 Cp:Addr)(H':Hp),y8 H H'->H x' = none->H Cp = none->H' x' = some (.ins C C0 (nQ s Cp))->H' Cp = some (.lst (nV s.way))->Q (.ref x') H'
theorem Ff:ap ["self", "other"] ["self"] (ah wW):=L2.ze
theorem xB {C f fl:Addr}{fd dl:FuncData}(F:yY K "twin" "Lane.twin" wW f fd)(T:dP mg)(L:vL K C)(ml:mg "Lane" = some (.ref C))(Ml:Mk K C fl)(bl:Binds K dl ["self", "room"] [])(Gl:y9 P w K mg base aC 1 fl dl ["self", "room"] (rb C)) :
  y9 P w K mg base aC 3 f fd ["self"] (vY C):=by
 refine F.ok Ff (fun _ _ _ _ h=>?_) (fun _ _ _ s H _ Q E hr h=>?_)
 ·obtain⟨x,dx,pa,r,b,h,yS,qs,rfl,_⟩:=h
  rfl
 ·obtain⟨x,dx,pa,r,b,h,yS,qs,rfl,hL,q⟩:=h
  refine⟨_,ae (aE (i:=1) Ff.nd rfl (Or.inl rfl) (dG Ml Gl hr rfl ml bl .nil ao (aa (am (pv 0) rfl) ac)))
   (ae (aZ (pv 1) (am (pv 0) rfl) rfl)
   (ae (aZ (pv 1) (am (pv 0) rfl) rfl)
   (ae (aZ (pv 1) (bI c8 rfl T.list PySem.Pv.boot_list (aa (am (pv 0) rfl) ac)) rfl)
   (ag (ar (pv 1)))))),?_⟩
  refine⟨_,rfl,x,C,dx,_,_,rfl,hL.ins,L.cl,L.n1,rfl,fun x' d' nx nd ne=>⟨x',d',r,rfl,ad,fun FU H1 Eh off Dv=>⟨rfl,?_⟩⟩⟩
  have s1:y8 H H1:=fun z o ez=>off z o (ai ez nx) (by rw[af (ai ez nx),af (ai ez nd)];exact ez)
  have hi1:=Dv.ins
  clear Eh off Dv
  refine⟨_,rfl,x,C,dx,_,_,rfl,s1 _ _ hL.ins,L.cl,L.n2,rfl,_,rfl,x',C,d',_,rfl,hi1,L.cl,L.n2,by show 4 < 1000;decide,?_⟩
  have o2:∀ o',y8 H (upd H1 x' o'):=fun o' z o ez=>by rw[af (ai ez nx)];exact s1 _ _ ez
  refine⟨_,rfl,x,C,dx,_,_,rfl,o2 _ _ _ hL.ins,L.cl,L.n3,rfl,_,rfl,x',C,d',_,rfl,ad,L.cl,L.n3,by show 4 < 1000;decide,?_⟩
  have o3:∀ o' Us,y8 H (upd (upd H1 x' o') x' Us):=fun o' Us z o ez=>by rw[af (ai ez nx)];exact o2 _ _ _ ez
  have s3:=o3 (.ins C d' (aM "returning" (.int b) (ip r 0 (hV none) FU))) (.ins C d' (aM "holder" (hV h) (aM "returning" (.int b) (ip r 0 (hV none) FU))))
  have FV:(upd (upd H1 x' (.ins C d' (aM "returning" (.int b) (ip r 0 (hV none) FU)))) x' (.ins C d' (aM "holder" (hV h) (aM "returning" (.int b) (ip r 0 (hV none) FU))))) x' = some (.ins C d' (ip r b (hV h) FU)):=ad
  generalize upd (upd H1 x' (.ins C d' (aM "returning" (.int b) (ip r 0 (hV none) FU)))) x' (.ins C d' (aM "holder" (hV h) (aM "returning" (.int b) (ip r 0 (hV none) FU))))=H3 at s3 FV ⊢
  refine⟨_,rfl,x,C,dx,_,_,rfl,s3 _ _ hL.ins,L.cl,L.n4,rfl,pa,_,rfl, .inl (yC.of (s3 _ _ hL.lst)),fun CI FW=>?_⟩
  have BF:H CI = none:=by
   cases e:H CI with
   | none=>rfl
   | some o=>rw[s3 _ _ e]at FW;cases FW
  have JV:x' ≠ CI:=ai FV FW
  refine⟨_,rfl,x',C,d',_,rfl,by rw[af JV];exact FV,L.cl,L.n4,by show 4 < 1000;decide,_,rfl,?_⟩
  have s4:∀ o',y8 H (upd (upd H3 CI (.lst yS)) x' o'):=fun o' z o ez=>by rw[af (ai ez nx),af (ai ez BF)];exact s3 _ _ ez
  exact q x' d' CI _ (s4 _) nx BF ⟨ad,by rw[af (Ne.symm JV)];exact ad,yU.same (s4 _) hL.zL⟩
theorem Fg:ap ["self", "other"] ["self"] (ah rG):=L2.ze
theorem x9 {ys:Ys}{f fl:Addr}{fd dl:FuncData}(F:yY K "twin" "Letter.twin" rG f fd)(T:dP mg)(Y:gE K ys)(ml:mg "Letter" = some (.ref ys.yA))(Ml:Mk K ys.yA fl)(bl:Binds K dl ["self", "start", "goal", "length", "word"] [])(Gl:y9 P w K mg base aC 1 fl dl ["self", "start", "goal", "length", "word"] (qZ ys.yA)) :
  y9 P w K mg base aC 3 f fd ["self"] (vX ys.yA):=by
 refine F.ok Fg (fun _ _ _ _ h=>?_) (fun _ _ _ s H _ Q E hr h=>?_)
 ·obtain⟨x,dx,wa,s,rfl,_⟩:=h
  rfl
 ·obtain⟨x,dx,wa,t,rfl,hx,hw,q⟩:=h
  refine⟨_,ae (aE (i:=1) Fg.nd rfl (Or.inl rfl) (dG Ml Gl hr rfl ml bl .nil ao (aa (am (pv 0) rfl) (aa (am (pv 0) rfl) (aa (am (pv 0) rfl) (aa (am (pv 0) rfl) ac))))))
   (ae (aZ (pv 1) (am (pv 0) rfl) rfl)
   (ae (aZ (pv 1) (bI c8 rfl T.list PySem.Pv.boot_list (aa (am (pv 0) rfl) ac)) rfl)
   (ag (ar (pv 1))))),?_⟩
  refine⟨_,rfl,x,ys.yA,dx,_,_,rfl,hx,Y.ct,Y.t1,rfl,_,rfl,x,ys.yA,dx,_,_,rfl,hx,Y.ct,Y.t2,rfl,_,rfl,x,ys.yA,dx,_,_,rfl,hx,Y.ct,Y.t3,rfl,_,rfl,x,ys.yA,dx,_,_,rfl,hx,Y.ct,Y.t4,rfl,fun x' d' nx nd ne=>⟨x',d',t.start,t.goal,t.len,t.word,rfl,ad,fun w0 H1 hw0 off Ak hw1=>⟨rfl,?_⟩⟩⟩
  have s1:y8 H H1:=fun z o ez=>off z o (ai ez nx) (by rw[af (ai ez nx),af (ai ez nd)];exact ez)
  clear hw0 off hw1
  refine⟨_,rfl,x,ys.yA,dx,_,_,rfl,s1 _ _ hx,Y.ct,Y.t5,rfl,_,rfl,x',ys.yA,d',_,rfl,Ak,Y.ct,Y.t5,by show 6 < 1000;decide,?_⟩
  have s3:y8 H (upd H1 x' (.ins ys.yA d' (aM "gone" (.int t.gone) (nQ ⟨t.start,t.goal,t.len,t.word,0,[]⟩ w0)))):=fun z o ez=>by rw[af (ai ez nx)];exact s1 _ _ ez
  have FV:(upd H1 x' (.ins ys.yA d' (aM "gone" (.int t.gone) (nQ ⟨t.start,t.goal,t.len,t.word,0,[]⟩ w0)))) x' = some (.ins ys.yA d' (nQ ⟨t.start,t.goal,t.len,t.word,t.gone,[]⟩ w0)):=ad
  show _
  generalize upd H1 x' (.ins ys.yA d' (aM "gone" (.int t.gone) (nQ ⟨t.start,t.goal,t.len,t.word,0,[]⟩ w0)))=H3 at s3 FV ⊢
  refine⟨_,rfl,x,ys.yA,dx,_,_,rfl,s3 _ _ hx,Y.ct,Y.t6,rfl,wa,_,rfl, .inl (yC.of (s3 _ _ hw)),fun Cp FX=>?_⟩
  have C8:H Cp = none:=by
   cases e:H Cp with
   | none=>rfl
   | some o=>rw[s3 _ _ e]at FX;cases FX
  have JV:x' ≠ Cp:=ai FV FX
  refine⟨_,rfl,x',ys.yA,d',_,rfl,by rw[af JV];exact FV,Y.ct,Y.t6,by show 6 < 1000;decide,_,rfl,?_⟩
  have s4:∀ o',y8 H (upd (upd H3 Cp (.lst (nV t.way))) x' o'):=fun o' z o ez=>by rw[af (ai ez nx),af (ai ez C8)];exact s3 _ _ ez
  exact q x' d' Cp _ (s4 _) nx C8 ad (by rw[af (Ne.symm JV)];exact ad)
structure YA where
 y:Addr
 dy:Addr
 tb:Addr
 ro:Addr
 la:Addr
 le:Addr
 li:Addr
 dn:Addr
 lx:Addr
 zq:Addr
 lt:Addr
 n:Nat
 yO:List V
 ps:List (Int × Int)
 wy:Wf
abbrev zx (K:Frag)(ys:Ys)(H:Hp)(a:YA)(s:YS):Prop:=yH K ys H a.y a.dy a.tb a.ro a.la a.le a.li a.dn s
abbrev uf (c:Cs)(TC:Addr)(J:TJ)(H:Hp)(a:YA):Prop:=zG c TC J H a.tb a.lx a.zq a.lt a.n a.yO a.ps a.wy
abbrev YA.four (a:YA):List Addr:=[a.la,a.le,a.li,a.dn]
theorem Paired.set {α β:Type}{R:α->β->Prop}{v:α}{r:β}(h:R v r):∀ {vs:List α}{rs:List β}(i:Nat),Paired R vs rs->Paired R (vs.set i v) (rs.set i r)
 | _,_,_, .nil => .nil
 | _,_,0, .cons _ t => .cons h t
 | _,_,i + 1, .cons x t => .cons x (Paired.set h i t)
theorem yI.mono {ex GY:List Addr}{H H':Hp}(h:∀ b ∈ ex,b ∈ GY)(o:yI ex H H'):yI GY H H':=fun b u nb e=>o b u (fun z=>nb (h b z)) e
theorem ge {K:Frag}{ys:Ys}{H:Hp}{a:YA}{s:YS}(h:zx K ys H a s){p:Addr}(hp:H p=none):p ∉ a.four:=fun z=>by obtain⟨xs,hz⟩:=h.Bp p z;rw[hp]at hz;cases hz
theorem jx {K:Frag}{ys:Ys}{H:Hp}{a:YA}{s:YS}(h:zx K ys H a s){p:Addr}(hp:H p=none):p ∉ a.la :: a.le :: a.li :: a.dn :: ys.ex:=fun z=>by obtain⟨xs,hz⟩:=yH.Co h p z;rw[hp]at hz;cases hz
theorem k8 {H H2:Hp}{x b:Addr}{zs:List V}(o:yI [x] H H2)(hx:H2 x=some (.lst zs))(h:∃ xs,H b=some (.lst xs)):∃ xs,H2 b=some (.lst xs):=by
 by_cases e:b=x
 ·exact⟨zs,by rw[e];exact hx⟩
 ·obtain⟨xs,hz⟩:=h
  exact⟨xs,o _ _ (by simpa using e) hz⟩
theorem zx.Bq {K:Frag}{ys:Ys}{H H2:Hp}{a:YA}{s:YS}(h:zx K ys H a s){vs:List V}(hv:H a.la=some (.lst vs))(o:yI [a.la] H H2){k:Nat}{x dx pa:Addr}(hl:H2 a.la=some (.lst (vs.set k (.ref x)))){ln:bC}{yS:List V}
  (L:yV H2 ys.yW x dx pa ln.r ln.b ln.h yS ln.qs) (np:H pa=none):zx K ys H2 a { s with lanes:=s.lanes.set k ln }:=by
 obtain⟨h1,h2,f1,f2,f3,f4⟩:=yH.off h (o.mono (by simp))
 obtain⟨v1,a1,p1⟩:=h.hla
 obtain⟨v2,a2,p2⟩:=h.hle
 obtain⟨v3,a3,p3⟩:=h.Bg
 obtain⟨v4,a4,p4⟩:=h.AO
 rw[hv]at a1
 cases a1
 have ne:=h.ne
 simp only[nodup_cons,mem_cons,not_mem_nil,or_false,not_or,not_false_eq_true,and_true,nodup_nil]at ne
 exact⟨h1,h2,⟨_,hl,Paired.set ⟨x,dx,pa,yS,rfl,L,jx h np⟩ k (f1 _ _ p1)⟩,⟨v2,o _ _ (by simp;exact Ne.symm ne.1.1) a2,f2 _ _ p2⟩,⟨v3,o _ _ (by simp;exact Ne.symm ne.1.2.1) a3,f3 _ _ p3⟩,⟨v4,o _ _ (by simp;exact Ne.symm ne.1.2.2) a4,f4 _ _ p4⟩,h.ne,fun b hb=>k8 o hl (h.hex b hb)⟩
theorem zx.Dw {K:Frag}{ys:Ys}{H H2:Hp}{a:YA}{s:YS}(h:zx K ys H a s){vs:List V}(hv:H a.le=some (.lst vs))(o:yI [a.le] H H2){k:Nat}{x dx wa:Addr}(hl:H2 a.le=some (.lst (vs.set k (.ref x)))){t:aS}
  (hx:H2 x=some (.ins ys.yA dx (nQ t wa))) (hw:H2 wa=some (.lst (nV t.way))) (np:H wa=none):zx K ys H2 a { s with U:=s.U.set k t }:=by
 obtain⟨h1,h2,f1,f2,f3,f4⟩:=yH.off h (o.mono (by simp))
 obtain⟨v1,a1,p1⟩:=h.hla
 obtain⟨v2,a2,p2⟩:=h.hle
 obtain⟨v3,a3,p3⟩:=h.Bg
 obtain⟨v4,a4,p4⟩:=h.AO
 rw[hv]at a2
 cases a2
 have ne:=h.ne
 simp only[nodup_cons,mem_cons,not_mem_nil,or_false,not_or,not_false_eq_true,and_true,nodup_nil]at ne
 exact⟨h1,h2,⟨v1,o _ _ (by simp;exact ne.1.1) a1,f1 _ _ p1⟩,⟨_,hl,Paired.set ⟨x,dx,wa,rfl,hx,hw,jx h np⟩ k (f2 _ _ p2)⟩,⟨v3,o _ _ (by simp;exact Ne.symm ne.2.1.1) a3,f3 _ _ p3⟩,⟨v4,o _ _ (by simp;exact Ne.symm ne.2.1.2) a4,f4 _ _ p4⟩,h.ne,fun b hb=>k8 o hl (h.hex b hb)⟩
theorem zx.FY {K:Frag}{ys:Ys}{H H2:Hp}{a:YA}{s:YS}(h:zx K ys H a s){vs:List V}(hv:H a.li=some (.lst vs))(o:yI [a.li] H H2){k:Nat}{v:V}(hl:H2 a.li=some (.lst (vs.set k v))){qs:List (Int × Int)}
  (L:zY H2 v qs):zx K ys H2 a { s with lies:=s.lies.set k qs }:=by
 obtain⟨h1,h2,f1,f2,f3,f4⟩:=yH.off h (o.mono (by simp))
 obtain⟨v1,a1,p1⟩:=h.hla
 obtain⟨v2,a2,p2⟩:=h.hle
 obtain⟨v3,a3,p3⟩:=h.Bg
 obtain⟨v4,a4,p4⟩:=h.AO
 rw[hv]at a3
 cases a3
 have ne:=h.ne
 simp only[nodup_cons,mem_cons,not_mem_nil,or_false,not_or,not_false_eq_true,and_true,nodup_nil]at ne
 exact⟨h1,h2,⟨v1,o _ _ (by simp;exact ne.1.2.1) a1,f1 _ _ p1⟩,⟨v2,o _ _ (by simp;exact ne.2.1.1) a2,f2 _ _ p2⟩,⟨_,hl,Paired.set L k (f3 _ _ p3)⟩,⟨v4,o _ _ (by simp;exact Ne.symm ne.2.2) a4,f4 _ _ p4⟩,h.ne,fun b hb=>k8 o hl (h.hex b hb)⟩
noncomputable def qU (K:Frag)(ys:Ys):Sp:=fun vs H Q _=>∃ (a:YA)(s:YS)(k:Nat)(ln:bC)(yM:List V),vs=[.ref a.y, .int k]/\zx K ys H a s/\s.lanes[k]? = some ln/\H a.la=some (.lst yM) /\
 ∀ (x dx pa:Addr)(yS:List V)(H':Hp),yI [a.la] H H'->H x=none->H pa=none->H' a.la=some (.lst (yM.set k (.ref x)))->yV H' ys.yW x dx pa ln.r ln.b ln.h yS ln.qs->Q (.ref x) H'
noncomputable def qT (K:Frag)(ys:Ys):Sp:=fun vs H Q _=>∃ (a:YA)(s:YS)(k:Nat)(t:aS)(yO:List V),vs=[.ref a.y, .int k]/\zx K ys H a s/\s.U[k]? = some t/\H a.le=some (.lst yO) /\
 ∀ (x dx wa:Addr)(H':Hp),yI [a.le] H H'->H x=none->H wa=none->H' a.le=some (.lst (yO.set k (.ref x)))->H' x=some (.ins ys.yA dx (nQ t wa))->H' wa=some (.lst (nV t.way))->Q (.ref x) H'
noncomputable def wb (K:Frag)(ys:Ys):Sp:=fun vs H Q _=>∃ (a:YA)(s:YS)(v:V)(q:Int × Int)(p:Nat)(qs:List (Int × Int)),vs=[.ref a.y,v, .int p]/\zx K ys H a s/\vM H v q/\s.lies[p]? = some qs/\qs.length <= 100000 /\
 ∀ H',yI [a.li] H H'->zx K ys H' a { s with lies:=s.lies.set p (qs ++ [q]) }->Q .yQ H'
noncomputable def oG (K:Frag)(ys:Ys):Sp:=fun vs H Q _=>∃ (a:YA)(s:YS)(p:Nat)(qs:List (Int × Int)),vs=[.ref a.y, .int p]/\zx K ys H a s/\s.lies[p]? = some qs /\
 ∀ (D:Addr)(yS:List V)(H':Hp),y8 H H'->H D=none->H' D=some (.lst yS)->yU H' yS qs->Q (.ref D) H'
theorem wL:ap ["self", "lane"] ["self", "lane"] (ah rA):=L2.ze
theorem uU {ys:Ys}{f ft:Addr}{fd dt:FuncData}(F:yY K "own_lane" "Yard.own_lane" rA f fd)(Y:gE K ys)(mt:bM K ys.yW "twin" ft)(bt:Binds K dt ["self"] [])(Gt:y9 P w K mg base aC 3 ft dt ["self"] (vY ys.yW)) :
  y9 P w K mg base aC 4 f fd ["self", "lane"] (qU K ys):=by
 refine F.ok wL (fun _ _ _ _ h=>?_) (fun _ _ _ s H _ Q E hr h=>?_)
 ·obtain⟨a,s,k,ln,yM,rfl,_⟩:=h
  rfl
 ·obtain⟨a,st,k,ln,yM,rfl,hY,hk,zw,q⟩:=h
  refine⟨_,ae (fI (bD (az yG (am (pv 0) rfl) (pv 1) (fun _ _=>rfl)) Y.L.cl mt Gt hr bt .nil ao) (iS (am (pv 0) rfl) (pv 1) dZ))
   (ag (ar (az yG (am (pv 0) rfl) (pv 1) (fun _ _=>rfl)))),?_⟩
  obtain⟨Ph,JW,pl⟩:=hY.hla
  rw[zw]at JW
  cases JW
  obtain⟨v,hv,x,dx,pa,yS,rfl,hL,_⟩:=Paired.at2 pl hk
  have zK:k < yM.length:=(gQ0 hv)
  refine⟨_,rfl,a.y,ys.yB,a.dy,_,_,rfl,hY.ins,Y.cl,Y.n3,rfl,_,rfl,a.la,yM,(k:Int),_,rfl,rfl,yC.of zw,ak hv,x,dx,_,rfl,hL.ins,rfl,?_⟩
  refine⟨x,dx,pa,ln.r,ln.b,ln.h,yS,ln.qs,rfl,hL,fun x' C0 CI H1 s1 nx Ej Dv=>?_⟩
  refine⟨_,rfl,a.y,ys.yB,a.dy,_,_,rfl,s1 _ _ hY.ins,Y.cl,Y.n3,rfl,_,rfl,a.la,yM,(k:Int),k,rfl,rfl,s1 _ _ zw,eU zK,?_⟩
  have o1:yI [a.la] H (upd H1 a.la (.lst (yM.set k (.ref x')))):=(y8.zg s1).trans (cu (by simp))
  have g1:(upd H1 a.la (.lst (yM.set k (.ref x')))) a.la=some (.lst (yM.set k (.ref x'))):=ad
  have Ax:yV (upd H1 a.la (.lst (yM.set k (.ref x')))) ys.yW x' C0 CI ln.r ln.b ln.h yS ln.qs:=by
   have n1:x' ≠ a.la:=aX Dv.ins (s1 _ _ zw) (by intro z;cases z)
   have n2:CI ≠ a.la:=fun z=>by rw[z,zw]at Ej;cases Ej
   exact⟨by rw[af n1];exact Dv.ins,by rw[af n2];exact Dv.lst,yU.zg (ex:=[a.la]) (fun b hb=>by simp at hb;subst hb;exact⟨_,s1 _ _ zw⟩) (cu (by simp)) Dv.zL⟩
  generalize upd H1 a.la (.lst (yM.set k (.ref x')))=H2 at o1 g1 Ax ⊢
  have Pj:H2 a.y=some (.ins ys.yB a.dy (Mo a.tb a.ro a.la a.le a.li a.dn)):=o1 _ _ (by simp;exact aX hY.ins zw (by intro z;cases z)) hY.ins
  exact⟨_,rfl,a.y,ys.yB,a.dy,_,_,rfl,Pj,Y.cl,Y.n3,rfl,_,rfl,a.la,_,(k:Int), .ref x',rfl,rfl,yC.of g1,ak (by simp[zK]),q x' C0 CI yS H2 o1 nx Ej g1 Ax⟩
theorem wK:ap ["self", "number"] ["self", "number"] (ah r9):=L2.ze
theorem uT {ys:Ys}{f ft:Addr}{fd dt:FuncData}(F:yY K "own_letter" "Yard.own_letter" r9 f fd)(Y:gE K ys)(mt:bM K ys.yA "twin" ft)(bt:Binds K dt ["self"] [])(Gt:y9 P w K mg base aC 3 ft dt ["self"] (vX ys.yA)) :
  y9 P w K mg base aC 4 f fd ["self", "number"] (qT K ys):=by
 refine F.ok wK (fun _ _ _ _ h=>?_) (fun _ _ _ s H _ Q E hr h=>?_)
 ·obtain⟨a,s,k,ln,yM,rfl,_⟩:=h
  rfl
 ·obtain⟨a,st,k,t,yO,rfl,hY,hk,zR,q⟩:=h
  refine⟨_,ae (fI (bD (az yG (am (pv 0) rfl) (pv 1) (fun _ _=>rfl)) Y.ct mt Gt hr bt .nil ao) (iS (am (pv 0) rfl) (pv 1) dZ))
   (ag (ar (az yG (am (pv 0) rfl) (pv 1) (fun _ _=>rfl)))),?_⟩
  obtain⟨C9,JX,pl⟩:=hY.hle
  rw[zR]at JX
  cases JX
  obtain⟨v,hv,x,dx,wa,rfl,hx,hw,_⟩:=Paired.at2 pl hk
  have zK:k < yO.length:=(gQ0 hv)
  refine⟨_,rfl,a.y,ys.yB,a.dy,_,_,rfl,hY.ins,Y.cl,Y.n4,rfl,_,rfl,a.le,yO,(k:Int),_,rfl,rfl,yC.of zR,ak hv,x,dx,_,rfl,hx,rfl,?_⟩
  refine⟨x,dx,wa,t,rfl,hx,hw,fun x' C0 Cp H1 s1 nx Ej Ak hw1=>?_⟩
  refine⟨_,rfl,a.y,ys.yB,a.dy,_,_,rfl,s1 _ _ hY.ins,Y.cl,Y.n4,rfl,_,rfl,a.le,yO,(k:Int),k,rfl,rfl,s1 _ _ zR,eU zK,?_⟩
  have o1:yI [a.le] H (upd H1 a.le (.lst (yO.set k (.ref x')))):=(y8.zg s1).trans (cu (by simp))
  have g1:(upd H1 a.le (.lst (yO.set k (.ref x')))) a.le=some (.lst (yO.set k (.ref x'))):=ad
  have n1:x' ≠ a.le:=aX Ak (s1 _ _ zR) (by intro z;cases z)
  have n2:Cp ≠ a.le:=fun z=>by rw[z,zR]at Ej;cases Ej
  have DL:(upd H1 a.le (.lst (yO.set k (.ref x')))) x' = some (.ins ys.yA C0 (nQ t Cp)):=by rw[af n1];exact Ak
  have DO:(upd H1 a.le (.lst (yO.set k (.ref x')))) Cp = some (.lst (nV t.way)):=by rw[af n2];exact hw1
  generalize upd H1 a.le (.lst (yO.set k (.ref x')))=H2 at o1 g1 DL DO ⊢
  have Pj:H2 a.y=some (.ins ys.yB a.dy (Mo a.tb a.ro a.la a.le a.li a.dn)):=o1 _ _ (by simp;exact aX hY.ins zR (by intro z;cases z)) hY.ins
  exact⟨_,rfl,a.y,ys.yB,a.dy,_,_,rfl,Pj,Y.cl,Y.n4,rfl,_,rfl,a.le,_,(k:Int), .ref x',rfl,rfl,yC.of g1,ak (by simp[zK]),q x' C0 Cp H2 o1 nx Ej g1 DL DO⟩
theorem JY:ap ["self", "piece", "place"] ["self", "piece", "place"] (ah wZ):=L2.ze
theorem xE {ys:Ys}{f:Addr}{fd:FuncData}(F:yY K "lay" "Yard.lay" wZ f fd)(Y:gE K ys):y9 P w K mg base aC 1 f fd ["self", "piece", "place"] (wb K ys):=by
 refine F.ok JY (fun _ _ _ _ h=>?_) (fun _ _ _ s H _ Q E hr h=>?_)
 ·obtain⟨a,s,v,q,p,qs,rfl,_⟩:=h
  rfl
 ·obtain⟨a,st,v,qp,p,qs,rfl,hY,hv,hp,hlen,q⟩:=h
  refine⟨_,ag (fI (aD uL (az yG (am (pv 0) rfl) (pv 2) (fun _ _=>rfl)) (bj (aa (pv 1) ac))) (iS (am (pv 0) rfl) (pv 2) dZ)),?_⟩
  obtain⟨yM,Dx,pl⟩:=hY.Bg
  obtain⟨v0,hv0,t0,Dy,rfl,Fi,JZ⟩:=Paired.at2 pl hp
  have zK:p < yM.length:=(gQ0 hv0)
  have Mw:Dy.length=qs.length:=Paired.length JZ
  refine⟨_,rfl,a.y,ys.yB,a.dy,_,_,rfl,hY.ins,Y.cl,Y.n5,rfl,_,rfl,a.li,yM,(p:Int),_,rfl,rfl,yC.of Dx,ak hv0,_,rfl,by show 1 <= sizeLine;decide,fun t ht=>?_⟩
  have s1:=(y8.refl H).new (o := .tup [v]) ht
  have g1:(upd H t (.tup [v])) t=some (.tup [v]):=ad
  generalize upd H t (.tup [v])=H1 at s1 g1 ⊢
  have fin:∀ (z:Addr)(H2:Hp),y8 H H2->zY H2 (.ref z) (qs ++ [qp])->Q .yQ (upd H2 a.li (.lst (yM.set p (.ref z)))):=fun z H2 s2 hz=>by
   have o2:yI [a.li] H (upd H2 a.li (.lst (yM.set p (.ref z)))):=(y8.zg s2).trans (cu (by simp))
   refine q _ o2 (zx.FY hY Dx o2 ad ?_)
   obtain⟨tz,vz,ez,Ut,hz2⟩:=hz
   cases ez
   have nz:z ≠ a.li:=aX Ut (s2 _ _ Dx) (by intro y;cases y)
   exact⟨z,vz,rfl,by rw[af nz];exact Ut,yU.zg (ex:=[a.li]) (fun b hb=>by simp at hb;subst hb;exact⟨_,s2 _ _ Dx⟩) (cu (by simp)) hz2⟩
  refine⟨t0,t,Dy,[v],rfl,rfl,yN.of (s1 _ _ Fi),yN.of g1,by simp,by rw[sizeLine_eq];simp;omega,fun e0=>?_,fun e0 p2 Eg=>?_⟩
  ·subst e0
   cases JZ
   refine⟨_,rfl,a.y,ys.yB,a.dy,_,_,rfl,s1 _ _ hY.ins,Y.cl,Y.n5,rfl,_,rfl,a.li,yM,(p:Int),p,rfl,rfl,s1 _ _ Dx,eU zK,?_⟩
   exact fin t H1 s1 ⟨t,[v],rfl,g1, .cons (let ⟨u,e,hu⟩:=hv; ⟨u,e,s1 _ _ hu⟩) .nil⟩
  ·have s2:=s1.new (o := .tup (Dy ++ [v])) Eg
   have g2:(upd H1 p2 (.tup (Dy ++ [v]))) p2=some (.tup (Dy ++ [v])):=ad
   generalize upd H1 p2 (.tup (Dy ++ [v]))=H2 at s2 g2 ⊢
   refine⟨_,rfl,a.y,ys.yB,a.dy,_,_,rfl,s2 _ _ hY.ins,Y.cl,Y.n5,rfl,_,rfl,a.li,yM,(p:Int),p,rfl,rfl,s2 _ _ Dx,eU zK,?_⟩
   exact fin p2 H2 s2 ⟨p2,_,rfl,g2,yU.snoc (let ⟨u,e,hu⟩:=hv; ⟨u,e,s2 _ _ hu⟩) (yU.same s2 JZ)⟩
theorem Ka:ap ["self", "place"] ["self", "place"] (ah nq):=L2.ze
theorem sm {ys:Ys}{f:Addr}{fd:FuncData}(F:yY K "lying" "Yard.lying" nq f fd)(T:dP mg)(Y:gE K ys):y9 P w K mg base aC 1 f fd ["self", "place"] (oG K ys):=by
 refine F.ok Ka (fun _ _ _ _ h=>?_) (fun _ _ _ s H _ Q E hr h=>?_)
 ·obtain⟨a,s,p,qs,rfl,_⟩:=h
  rfl
 ·obtain⟨a,st,p,qs,rfl,hY,hp,q⟩:=h
  refine⟨_,ag (ar (bI c8 rfl T.list PySem.Pv.boot_list (aa (az yG (am (pv 0) rfl) (pv 1) (fun _ _=>rfl)) ac))),?_⟩
  obtain⟨yM,Dx,pl⟩:=hY.Bg
  obtain⟨v0,hv0,t0,Dy,rfl,Fi,JZ⟩:=Paired.at2 pl hp
  refine⟨_,rfl,a.y,ys.yB,a.dy,_,_,rfl,hY.ins,Y.cl,Y.n5,rfl,_,rfl,a.li,yM,(p:Int),_,rfl,rfl,yC.of Dx,ak hv0,t0,_,rfl, .inr (yN.of Fi),fun D hD=>?_⟩
  have s1:=(y8.refl H).new (o := .lst Dy) hD
  exact q D Dy _ s1 hD ad (yU.same s1 JZ)
noncomputable def dL (ln:bC)(m c len:Int):bC:={ ln with r:=ln.r - 1,h:=if decide (c=len - 1)=true then none else some m,qs:=ln.qs ++ [(m,c)] }
noncomputable def cb (s:YS)(m:Nat)(c:Int)(l:Nat)(t:aS)(ln:bC):YS:={ s with U:=if c=0 then s.U.set m { t with way:=t.way ++ [l] } else s.U,lanes:=s.lanes.set l (dL ln m c t.len) }
noncomputable def jJ (K:Frag)(ys:Ys):Sp:=fun vs H Q _=>∃ (a:YA)(s:YS)(v:V)(m:Nat)(c:Int)(l:Nat)(t:aS)(ln:bC),vs=[.ref a.y,v, .int l]/\zx K ys H a s/\vM H v ((m:Int),c)/\s.U[m]? = some t/\s.lanes[l]? = some ln/\bT ln.r ln.h m c=true/\t.way.length <= 1000/\ln.qs.length < 100000 /\
 ∀ H',yI [a.la,a.le] H H'->zx K ys H' a (cb s m c l t ln)->Q .yQ H'
noncomputable def bV (s:YS)(m:Nat)(t:aS):YS:={ s with U:=s.U.set m { t with gone:=t.gone + 1 } }
noncomputable def rk (K:Frag)(ys:Ys):Sp:=fun vs H Q _=>∃ (a:YA)(s:YS)(m l:Nat)(t:aS)(ln:bC),vs=[.ref a.y, .int m, .int l]/\zx K ys H a s/\s.U[m]? = some t/\s.lanes[l]? = some ln/\bT ln.r ln.h m t.gone=true/\t.way.length <= 1000/\ln.qs.length < 100000 /\
 ∀ H',yI [a.la,a.le] H H'->zx K ys H' a (cb (bV s m t) m t.gone l { t with gone:=t.gone + 1 } ln)->Q .yQ H'
structure Own (P:Program)(w:World)(K:Frag)(mg:Str->Option Value)(base:Heap)(ys:Ys)(fl ft fp:Addr)(dl dt dp:FuncData):Prop where
 ml:bM K ys.yB "own_lane" fl
 bl:Binds K dl ["self", "lane"] []
 Gl:y9 P w K mg base aC 4 fl dl ["self", "lane"] (qU K ys)
 mt:bM K ys.yB "own_letter" ft
 bt:Binds K dt ["self", "number"] []
 Gt:y9 P w K mg base aC 4 ft dt ["self", "number"] (qT K ys)
 mp:bM K ys.yW "put" fp
 bp:Binds K dp ["self", "letter", "count", "last"] []
 Gp:y9 P w K mg base aC 2 fp dp ["self", "letter", "count", "last"] (vV ys.yW)
abbrev Uu:List Str:=["self", "piece", "lane", "last"]
abbrev NGi:List Str:=["self", "number", "lane", "letter"]
theorem Kb:ap Uu ["self", "piece", "lane"] (ah nA):=L2.ze
theorem sH {ys:Ys}{f fl ft fp:Addr}{fd dl dt dp:FuncData}(F:yY K "enter" "Yard.enter" nA f fd)(Y:gE K ys)(O:Own P w K mg base ys fl ft fp dl dt dp) :
  y9 P w K mg base aC 5 f fd ["self", "piece", "lane"] (jJ K ys):=by
 refine F.ok Kb (fun _ _ _ _ h=>?_) (fun _ _ _ s H _ Q E hr h=>?_)
 ·obtain⟨a,s,v,m,c,l,t,ln,rfl,_⟩:=h
  rfl
 ·obtain⟨a,st,v,m,c,l,t,ln,rfl,hY,⟨pt,rfl,B8⟩,hm,hl,zy,BD,DN,q⟩:=h
  have zT:yK 2 _:=hr.mono (by decide)
  refine⟨_,ae (oR (aL (ax bK (az yE (pv 1) aj (fun _ _=>rfl)) aj (aA _))
    (ag (aO (cz plainAttrs_list PySem.F.slot_list_append PySem.F.type_list_append bQ (am (aG (pv 0) Y.cl O.mt O.Gt hr O.bt .nil ao (aa (az yE (pv 1) aj (fun _ _=>rfl)) ac)) rfl) (aa (pv 2) ac)))) aB))
   (ae (aE (i:=3) Kb.nd rfl (Or.inl rfl) (cy bK (az yE (pv 1) aj (fun _ _=>rfl)) (aD dH (am (az yG (am (pv 0) rfl) (az yE (pv 1) aj (fun _ _=>rfl)) (fun _ _=>rfl)) rfl) aj) (aA _)))
   (ag (aO (aG (aG (pv 0) Y.cl O.ml O.Gl hr O.bl .nil ao (aa (pv 2) ac)) Y.L.cl O.mp O.Gp zT O.bp .nil ao (aa (az yE (pv 1) aj (fun _ _=>rfl)) (aa (az yE (pv 1) aj (fun _ _=>rfl)) (aa (pv 3) ac))))))),?_⟩
  refine⟨fun σ' H'=>σ' = start Uu [.ref a.y, .ref pt, .int l]/\yI [a.le] H H'/\∃ t1:aS,t1.len=t.len/\zx K ys H' a { st with U:=if c=0 then st.U.set m { t with way:=t.way ++ [l] } else st.U }/\(if c=0 then st.U.set m { t with way:=t.way ++ [l] } else st.U)[m]? = some t1,?_,?_⟩
  ·refine⟨_,rfl,pt,_,1,_,rfl,rfl,yN.of B8,ak (j:=1) rfl,rfl,_,rfl,?_⟩
   rw[bE]
   by_cases hc:c=0
   ·rw[decide_eq_true hc]
    obtain⟨yO,zR,pl⟩:=hY.hle
    refine aK ⟨_,rfl,a.y,a.dy,_,rfl,hY.ins,rfl,_,rfl,pt,_,0,_,rfl,rfl,yN.of B8,ak (j:=0) rfl,a,st,m,t,yO,rfl,hY,hm,zR,fun x dx wa H1 o1 nx nw g1 Ak hw1=>?_⟩
    refine⟨x,ys.yA,dx,_,_,rfl,Ak,Y.ct,Y.t6,rfl, .inl ⟨rfl,_,yC.of hw1⟩,_,rfl,wa,_,_,rfl,rfl,hw1,by rw[cp,sizeLine_eq];omega,?_⟩
    have nxw:x ≠ wa:=aX Ak hw1 (by intro z;cases z)
    have nlw:a.le ≠ wa:=ai zR nw
    have o2:yI [a.le] H (upd H1 wa (.lst (nV t.way ++ [.int l]))):=fun b o nb e=>by rw[af (ai e nw)];exact o1 b o nb e
    have Av:=zx.Dw hY zR o2 (k:=m) (x:=x) (dx:=dx) (wa:=wa) (by rw[af nlw];exact g1) (t:={ t with way:=t.way ++ [l] }) (by rw[af nxw];exact Ak) (by rw[ad,xN];rfl) nw
    have Kc:m < st.U.length:=(gQ0 hm)
    refine⟨rfl,o2,{ t with way:=t.way ++ [l] },rfl,?_,?_⟩
    ·rw[if_pos hc];exact Av
    ·rw[if_pos hc];simp[Kc]
   ·rw[decide_eq_false hc]
    refine aH ⟨rfl,y8.zg (y8.refl H),t,rfl,?_,?_⟩
    ·rw[if_neg hc];exact hY
    ·rw[if_neg hc];exact hm
  ·rintro σ' H1 ⟨rfl,o1,t1,hlen,zM,hm1⟩
   have Eo:H1 pt=some (.tup [.int m, .int c]):=by
    obtain⟨yO,zR,_⟩:=hY.hle
    exact o1 _ _ (by simp;exact aX B8 zR (by intro z;cases z)) B8
   obtain⟨Pk,Pl,Pm⟩:=zM.hle
   obtain⟨v1,hv1,x1,dx1,wa1,rfl,Ak,_⟩:=Paired.at2 Pm hm1
   refine⟨_,rfl,pt,_,1,_,rfl,rfl,yN.of Eo,ak (j:=1) rfl,_,rfl,a.y,ys.yB,a.dy,_,_,rfl,zM.ins,Y.cl,Y.n4,rfl,_,rfl,pt,_,0,_,rfl,rfl,yN.of Eo,ak (j:=0) rfl,a.le,Pk,(m:Int),_,rfl,rfl,yC.of Pl,ak hv1,x1,ys.yA,dx1,_,_,rfl,Ak,Y.ct,Y.t3,rfl,_,_,rfl,rfl,rfl,?_⟩
   obtain⟨yM,zw,CJ⟩:=zM.hla
   refine⟨_,rfl,a.y,a.dy,_,rfl,zM.ins,rfl,_,rfl,a,_,l,ln,yM,rfl,zM,hl,zw,fun x dx pa yS H2 o2 nx np g2 Ax=>?_⟩
   have Dz:H2 pt=some (.tup [.int m, .int c]):=o2 _ _ (by simp;exact aX Eo zw (by intro z;cases z)) Eo
   have Bj:yS.length=ln.qs.length:=Paired.length Ax.zL
   refine⟨x,dx,_,rfl,Ax.ins,rfl,_,rfl,pt,_,0,_,rfl,rfl,yN.of Dz,ak (j:=0) rfl,_,rfl,pt,_,1,_,rfl,rfl,yN.of Dz,ak (j:=1) rfl,_,rfl,x,dx,pa,ln.r,ln.b,ln.h,yS,ln.qs,(m:Int),c,decide (c=t.len - 1),?_,Ax,by omega,(fun ho=>by rw[zy]at ho;cases ho),fun _ t3 H3 o3 Bu=>?_⟩
   ·rw[bE,hlen];rfl
   have nxl:a.la ≠ x:=ai zw nx
   have npl:a.la ≠ pa:=ai zw np
   have o4:yI [a.la] H1 H3:=fun b o nb e=>o3 b o (ai e nx) (ai e np) (o2 b o nb e)
   have Aw:=zx.Bq zM zw o4 (k:=l) (x:=x) (dx:=dx) (pa:=pa) (o3 _ _ nxl npl g2) (ln:=dL ln m c t.len) Bu np
   exact q H3 ((o1.mono (by simp)).trans (o4.mono (by simp))) Aw
theorem Kd:ap NGi ["self", "number", "lane"] (ah rL):=L2.ze
theorem vh {ys:Ys}{f fl ft fp fe:Addr}{fd dl dt dp de:FuncData}(F:yY K "go_in" "Yard.go_in" rL f fd)(Y:gE K ys)(O:Own P w K mg base ys fl ft fp dl dt dp)(me:bM K ys.yB "enter" fe)(be:Binds K de ["self", "piece", "lane"] [])(Ge:y9 P w K mg base aC 5 fe de ["self", "piece", "lane"] (jJ K ys)) :
  y9 P w K mg base aC 6 f fd ["self", "number", "lane"] (rk K ys):=by
 refine F.ok Kd (fun _ _ _ _ h=>?_) (fun _ _ _ s H _ Q E hr h=>?_)
 ·obtain⟨a,s,m,l,t,ln,rfl,_⟩:=h
  rfl
 ·obtain⟨a,st,m,l,t,ln,rfl,hY,hm,hl,zy,BD,DN,q⟩:=h
  have BU:yK 4 _:=hr.mono (by decide)
  refine⟨_,ae (aE (i:=3) Kd.nd rfl (Or.inl rfl) (aG (pv 0) Y.cl O.mt O.Gt BU O.bt .nil ao (aa (pv 1) ac)))
   (ae (cY (pv 3) aj kv)
   (ag (aO (aG (pv 0) Y.cl me Ge hr be .nil ao (aa (bj (aa (pv 1) (aa (aD dH (am (pv 3) rfl) aj) ac))) (aa (pv 2) ac)))))),?_⟩
  obtain⟨yO,zR,pl⟩:=hY.hle
  refine⟨_,rfl,a.y,a.dy,_,rfl,hY.ins,rfl,_,rfl,a,st,m,t,yO,rfl,hY,hm,zR,fun x dx wa H1 o1 nx nw g1 Ak hw1=>?_⟩
  refine⟨_,rfl,x,ys.yA,dx,_,_,rfl,Ak,Y.ct,Y.t5,rfl,_,_,rfl,rfl,dx,_,Ak,by show 6 < 1000;decide,?_⟩
  have nlx:a.le ≠ x:=ai zR nx
  have Ei:wa ≠ x:=aX hw1 Ak (by intro z;cases z)
  have o2:yI [a.le] H (upd H1 x (.ins ys.yA dx (aM "gone" (.int (t.gone + 1)) (nQ t wa)))):=fun b o nb e=>by rw[af (ai e nx)];exact o1 b o nb e
  have DL:(upd H1 x (.ins ys.yA dx (aM "gone" (.int (t.gone + 1)) (nQ t wa)))) x=some (.ins ys.yA dx (nQ { t with gone:=t.gone + 1 } wa)):=ad
  have Av:=zx.Dw hY zR o2 (k:=m) (x:=x) (dx:=dx) (wa:=wa) (by rw[af nlx];exact g1) (t:={ t with gone:=t.gone + 1 }) DL (by rw[af Ei];exact hw1) nw
  show _
  generalize upd H1 x (.ins ys.yA dx (aM "gone" (.int (t.gone + 1)) (nQ t wa)))=H2 at o2 DL Av ⊢
  refine⟨_,rfl,a.y,a.dy,_,rfl,Av.ins,rfl,_,rfl,_,rfl,x,ys.yA,dx,_,_,rfl,DL,Y.ct,Y.t5,rfl,_,_,rfl,rfl,by show 2 <= sizeLine;decide,fun pt B8=>?_⟩
  have eg:t.gone + 1 - 1=t.gone:=by omega
  have s3:=(y8.refl H2).new (o := .tup [.int m, .int t.gone]) B8
  have g3:(upd H2 pt (.tup [.int m, .int t.gone])) pt=some (.tup [.int m, .int t.gone]):=ad
  dsimp only
  rw[eg]
  generalize upd H2 pt (.tup [.int m, .int t.gone])=H3 at s3 g3 ⊢
  have Kc:m < st.U.length:=(gQ0 hm)
  refine⟨_,rfl,a,bV st m t,_,m,t.gone,l,{ t with gone:=t.gone + 1 },ln,rfl,yH.same Av s3,⟨pt,rfl,g3⟩,by unfold bV;simp[Kc],hl,zy,BD,DN,fun H' o' FZ=>?_⟩
  exact q H' ((o2.mono (by simp)).trans ((y8.zg s3).trans o')) FZ
theorem yj (us:List Nat)(i:Nat):fL (nV us) none (some (i:Int))=nV (us.take i):=by
 unfold fL
 have e0:HT.AA (nV us).length 0 none=0:=rfl
 rw[e0,show HT.AA (nV us).length (nV us).length (some (i:Int))=min i (nV us).length from HT.Af _ _ i,List.drop_zero,sub_zero]
 unfold nV
 rw[map_take,length_map]
 refine ext_getElem? fun j=>?_
 simp only[List.getElem?_take,getElem?_map]
 by_cases h1:j < i
 ·by_cases h2:j < us.length
  ·rw[if_pos (by omega),if_pos h1]
  ·rw[if_neg (by omega),if_pos h1,List.getElem?_eq_none (by omega)];rfl
 ·rw[if_neg (by omega),if_neg h1]
theorem vA (us:List Nat)(i:Nat):fL (nV us) (some (i:Int)) (some ((i:Int) + 1))=nV ((us.drop i).take 1):=by
 unfold fL
 rw[show HT.AA (nV us).length 0 (some (i:Int))=min i (nV us).length from HT.Af _ _ i,show((i:Int) + 1)=((i + 1:Nat):Int) by omega,show HT.AA (nV us).length (nV us).length (some ((i + 1:Nat):Int))=min (i + 1) (nV us).length from HT.Af _ _ (i + 1),cp]
 by_cases h:i < us.length
 ·rw[min_eq_left (by omega),min_eq_left (by omega),show i + 1 - i=1 by omega]
  unfold nV
  rw[map_take,List.map_drop]
 ·rw[min_eq_right (by omega),min_eq_right (by omega),Nat.sub_self,List.take_zero,drop_eq_nil_of_le (by omega)];rfl
theorem oY (us:List Nat):nV us=(iz us).map V.int:=(vt us).symm
theorem tm (k:Nat):∀ us:List Nat,(iz us).idxOf (k:Int)=us.idxOf k
 | []=>rfl
 | u :: us=>by
  have ih:=tm k us
  unfold iz at ih ⊢
  rw[map_cons,List.idxOf_cons,List.idxOf_cons,ih]
  by_cases h:u=k
  ·subst h;simp
  ·have h':((u:Int) == (k:Int))=false:=by simp;omega
   have h2:(u == k)=false:=by simp;exact h
   rw[h',h2]
inductive Mv
 | Ab (k l:Nat) | on (k l:Nat) | zZ (k:Nat) | back (k:Nat)
noncomputable def dU:Mv->List V
 | .Ab k l=>[.str "in", .int k, .int l]
 | .on k l=>[.str "on", .int k, .int l]
 | .zZ k=>[.str "lie", .int k]
 | .back k=>[.str "back", .int k]
noncomputable def c5 (s:YS)(l:Nat)(m c:Int):Bool:=match s.lanes[l]? with
 | some ln=>bT ln.r ln.h m c
 | none=>false
noncomputable def aT (s:YS)(k:Nat):Option (Int × Int):=match s.lanes[k]? with
 | some ln=>ln.qs.head?
 | none=>none
noncomputable def il (a:YA)(l g:Nat):List Nat:=if (a.ps.getD l (0,0)).2=(g:Int) then [] else a.wy (a.ps.getD l (0,0)).2.toNat g (some l)
noncomputable def bO (a:YA)(s:YS)(k:Nat):List Nat:=match aT s k with
 | none=>[]
 | some q=>match s.U[q.1.toNat]? with
  | none=>[]
  | some t=>if q.2=0 then (il a k t.goal.toNat).filter fun l=>!decide (l ∈ t.way) else (t.way.drop (t.way.idxOf k + 1)).take 1
noncomputable def bS (a:YA)(t:aS):List Nat:=if t.gone=0 then a.wy t.start.toNat t.goal.toNat none else t.way.take 1
noncomputable def gf (a:YA)(s:YS)(k:Nat):List Mv:=match s.U[k]? with
 | none=>[]
 | some t=>if t.gone=t.len then [] else ((bS a t).filter fun l=>c5 s l k t.gone).map (Mv.Ab k)
noncomputable def gQ (a:YA)(s:YS)(k:Nat):List Mv:=match aT s k with
 | none=>[]
 | some q=>((bO a s k).filter fun l=>c5 s l q.1 q.2).map (Mv.on k)
noncomputable def dS (a:YA)(s:YS)(k:Nat):List Mv:=match aT s k with
 | none=>[]
 | some q=>match s.U[q.1.toNat]? with
  | none=>[]
  | some t=>if t.goal=(a.ps.getD k (0,0)).2 then [.zZ k] else []
noncomputable def cM (s:YS)(k:Nat):List Mv:=match s.lanes[k]? with
 | some ln=>if 0 < ln.b then [.back k] else []
 | none=>[]
structure qw (a:YA):Prop where
 ends:∀ (l:Nat)(pr:Int × Int),a.ps[l]? = some pr->∃ e:Nat,pr.2=(e:Int)/\e < a.n
 zD:∀ p g k,(a.wy p g k).length <= 400
structure Pn (a:YA)(s:YS):Prop where
 lanes:s.lanes.length=a.ps.length
 lies:s.lies.length=a.n
 lets:∀ (m:Nat)(t:aS),s.U[m]? = some t->∃ x y:Nat,t.start=(x:Int)/\t.goal=(y:Int)/\x < a.n/\y < a.n
 zu:∀ (m:Nat)(t:aS),s.U[m]? = some t->(∀ l ∈ t.way,l < a.ps.length)/\t.way.length <= 1000
 zL:∀ (k:Nat)(ln:bC),s.lanes[k]? = some ln->∀ q ∈ ln.qs,∃ (m:Nat)(t:aS),q.1=(m:Int)/\s.U[m]? = some t/\k ∈ t.way
 zD:s.U.length <= 60
structure D1 (K:Frag)(c:Cs)(TC:Addr)(J:TJ)(ys:Ys)(H:Hp)(a:YA)(s:YS):Prop where
 Y:zx K ys H a s
 T:uf c TC J H a
 O:qw a
 G:Pn a s
theorem D1.same {K:Frag}{c:Cs}{TC fw:Addr}{dw:FuncData}{J:TJ}{ys:Ys}{H H':Hp}{a:YA}{s:YS}(W:Wy K TC fw dw J)(h:D1 K c TC J ys H a s)(e:y8 H H'):D1 K c TC J ys H' a s:=⟨yH.same h.Y e,zG.keep W h.T (y8.yT e),h.O,h.G⟩
abbrev oE (K:Frag)(c:Cs)(TC:Addr)(J:TJ)(ys:Ys)(f:YA->YS->Nat->List Mv)(len:YS->Nat):Sp:=fun vs H Q _=>∃ (a:YA)(s:YS)(k:Nat),vs=[.ref a.y, .int k]/\D1 K c TC J ys H a s/\k < len s /\
 ∀ (D:Addr)(za:List V)(H':Hp),y8 H H'->H D=none->H' D=some (.lst za)->Paired (Ar H') za ((f a s k).map dU)->Q (.ref D) H'
noncomputable def mU (K:Frag)(c:Cs)(TC:Addr)(J:TJ)(ys:Ys):Sp:=oE K c TC J ys gf (fun s=>s.U.length)
noncomputable def mT (K:Frag)(c:Cs)(TC:Addr)(J:TJ)(ys:Ys):Sp:=oE K c TC J ys gQ (fun s=>s.lanes.length)
noncomputable def oF (K:Frag)(c:Cs)(TC:Addr)(J:TJ)(ys:Ys):Sp:=oE K c TC J ys dS (fun s=>s.lanes.length)
noncomputable def iK (K:Frag)(c:Cs)(TC:Addr)(J:TJ)(ys:Ys):Sp:=oE K c TC J ys (fun _ s k=>cM s k) (fun s=>s.lanes.length)
noncomputable def iI (K:Frag)(c:Cs)(TC:Addr)(J:TJ)(ys:Ys):Sp:=fun vs H Q _=>∃ (a:YA)(s:YS)(k:Nat),vs=[.ref a.y, .int k]/\D1 K c TC J ys H a s/\k < s.lanes.length /\
 ∀ (D:Addr)(H':Hp),y8 H H'->H D=none->H' D=some (.lst (nV (bO a s k)))->Q (.ref D) H'
noncomputable def qV (c:Cs)(C:Addr)(J:TJ):Sp:=fun vs H Q _=>∃ (a:YA)(l g:Nat),vs=[.ref a.tb, .int l, .int g]/\uf c C J H a/\qw a/\l < a.ps.length/\g < a.n /\
 ∀ (D:Addr)(H':Hp),y8 H H'->H D=none->H' D=some (.lst (nV (il a l g)))->Q (.ref D) H'
theorem kG {K:Frag}{p:Addr}{us:List Nat}{g:TG}{tt:TT}{te:TE}{σ0:St}{H:Hp}{Q:VK}(b:Nat->Bool)(f:Nat->Mv)(hn:us.length < sizeLine)(ha:H p=some (.lst (nV us)))
  (hs:∀ (u:Nat)(H1:Hp)(acc:List V)(N:List V->Hp->Prop),u ∈ us->y8 H H1->(b u=true->∀ v H2,y8 H1 H2->Ar H2 v (dU (f u))->N (acc ++ [v]) H2)->(b u=false->N acc H1) ->
   g (.int u) σ0 H1 fun σ2 H2=>tt σ2 H2 fun b H3=>if b=true then te σ2 H3 fun y H4=>N (acc ++ [y]) H4 else N acc H3)
  (hq:∀ D vs H1,y8 H H1->H1 D=none->Paired (Ar H1) vs (((us.filter b).map f).map dU)->Q (.ref D) (upd H1 D (.lst vs))):cO (tZ K p) g tt te σ0 Q H:=by
 refine bu us.length hn (fun i acc H'=>y8 H H'/\Paired (Ar H') acc ((((us.take i).filter b).map f).map dU)) ⟨y8.refl _, .nil⟩ (fun i acc H' h=>by
   rw[Paired.length h.2,length_map,length_map]
   have h1:=length_filter_le b (us.take i)
   have h2:=length_take_le i us
   omega) (fun i acc H' hi h=>?_) (fun acc H' h=>?_)
 ·obtain⟨s,hL⟩:=h
  have hu:us[i]? = some us[i]:=getElem?_eq_getElem hi
  refine⟨⟨_,_,yC.of (s _ _ ha),nL hu⟩,fun v H2 y=>?_⟩
  obtain⟨rfl,y⟩:=y
  have hv:=y _ (yC.of (s _ _ ha))
  rw[nL hu]at hv
  cases hv
  refine hs us[i] H2 acc (fun zo H4=>y8 H H4/\Paired (Ar H4) zo ((((us.take (i + 1)).filter b).map f).map dU)) (getElem_mem hi) s (fun hb v H3 s3 hv=>⟨s.trans s3,?_⟩) (fun hb=>⟨s,?_⟩)
  ·rw[take_succ,hu,filter_append]
   have e:(some us[i]).toList.filter b=[us[i]]:=by simp[hb]
   rw[e,map_append,map_append]
   exact Paired.snoc hv (Paired.mono (fun _ _ z=>z.keep (y8.yT s3)) hL)
  ·rw[take_succ,hu,filter_append]
   have e:(some us[i]).toList.filter b=[]:=by simp[hb]
   rw[e,append_nil]
   exact hL
 ·obtain⟨s,hL⟩:=h
  rw[take_length]at hL
  exact⟨⟨_,yC.of (s _ _ ha),by rw[cp];exact Nat.le_refl _⟩,fun D hD=>hq D acc H' s hD hL⟩
noncomputable def xf (s:Stmt):Scope:=match s with
 | .Return (some (.ListComp _ _ sc _)) _=>sc
 | _=>zQ0
noncomputable def yb (s:Stmt):Scope:=match s with
 | .If _ [s'] _ _=>xf s'
 | _=>zQ0
abbrev Uv:List Str:=["self", "number", "letter", "wanted"]
abbrev Uw:List Str:=["self", "lane", "piece", "letter", "behind"]
abbrev Ux:List Str:=["self", "lane", "piece", "wanted"]
theorem Gh:ap Uv ["self", "number"] (ah lf):=L2.ze
theorem Po:zF Uv (ah lf) (xf ((aF lf).getD 3 (.Pass ⟨0,0,0,0⟩))) ["self", "number", "letter"] [0,1,2]:=L2.Ah
theorem Pp:(["lane", "self", "number", "letter"]:List Str).Nodup:=by decide +kernel
theorem uY {c:Cs}{ys:Ys}{J:TJ}{TC f fw fo:Addr}{fd dw AW:FuncData}(F:yY K "moves_in" "Yard.moves_in" lf f fd)(Y:gE K ys)(W:Wy K TC fw dw J)(FQ:y9 P w K mg base aC 3 fw dw ["self", "place", "goal", "came"] (dD J))
  (mo:bM K ys.yW "open_to" fo) (bo:Binds K AW ["self", "letter", "count"] []) (Go:y9 P w K mg base aC 1 fo AW ["self", "letter", "count"] (jH ys.yW)) :
  y9 P w K mg base aC 4 f fd ["self", "number"] (mU K c TC J ys):=by
 refine F.ok Gh (fun _ _ _ _ h=>?_) (fun _ _ _ s H _ Q E hr h=>?_)
 ·obtain⟨a,s,k,rfl,_⟩:=h
  rfl
 ·obtain⟨a,st,k,rfl,hI,hk,q⟩:=h
  have zp:yK 1 _:=hr.mono (by decide)
  refine⟨_,ae (aE (i:=2) Gh.nd rfl (Or.inr rfl) (az yG (am (pv 0) rfl) (pv 1) (fun _ _=>rfl)))
   (ae (aL (ax bK (am (pv 2) rfl) (am (pv 2) rfl) (aA _)) (ag (ar (aR ac))) aB)
   (ae (aE (i:=3) Gh.nd rfl (Or.inl rfl) (oS (cK (ax bK (am (pv 2) rfl) aj (aA _)) (aG (am (pv 0) rfl) W.cl W.m FQ hr W.b .nil ao (aa (am (pv 2) rfl) (aa (am (pv 2) rfl) (aa b8 ac)))) (fZ i4 (am (pv 2) rfl) jT (fY aj)))))
   (ag (ar (aQ (own:=["lane"]) (capN:=["self", "number", "letter"]) (cap:=[0,1,2]) Po rfl (aV (pv 3)) (fun C s' H' fp=>⟨av (i:=0) Pp rfl (Or.inl rfl),cx (bA (aG (az (show AL _ (pJ K) from yG) (show PE _ _ (kQ K (jC 1) "lanes") from am (pv 1) rfl) (pv 0) (fun _ _=>rfl)) Y.L.cl mo Go zp bo .nil ao (aa (pv 2) (aa (show PE _ _ (kQ K (jC 3) "gone") from am (pv 3) rfl) ac)))),bj (aa bW (aa (pv 2) (aa (pv 0) ac)))⟩)))))),?_⟩
  have hY:=hI.Y
  obtain⟨yO,zR,pl⟩:=hY.hle
  obtain⟨t,ht⟩:∃ t,st.U[k]? = some t:=⟨_,getElem?_eq_getElem hk⟩
  obtain⟨v,hv,x,dx,wa,rfl,hx,hw,_⟩:=Paired.at2 pl ht
  obtain⟨x0,y0,e1,e2,Mz,Hy⟩:=hI.G.lets k t ht
  obtain⟨BD,hw9⟩:=hI.G.zu k t ht
  unfold gf at q
  rw[ht]at q
  refine⟨_,rfl,a.y,ys.yB,a.dy,_,_,rfl,hY.ins,Y.cl,Y.n4,rfl,_,rfl,a.le,yO,(k:Int),_,rfl,rfl,yC.of zR,ak hv,?_⟩
  refine⟨_,rfl,x,ys.yA,dx,_,_,rfl,hx,Y.ct,Y.t5,rfl,_,rfl,x,ys.yA,dx,_,_,rfl,hx,Y.ct,Y.t3,rfl,rfl,_,rfl,?_⟩
  rw[bE]
  by_cases hg:t.gone=t.len
  ·rw[decide_eq_true hg]
   dsimp only at q
   rw[if_pos hg]at q
   exact aK ⟨zero_le _,fun D hD=>q D [] _ ((y8.refl H).new hD) hD ad .nil⟩
  rw[decide_eq_false hg]
  dsimp only at q
  rw[if_neg hg]at q
  refine aH ⟨fun v H1=>∃ D,v = .ref D/\y8 H H1/\H1 D=some (.lst (nV (bS a t))),?_,?_⟩
  ·refine⟨_,rfl,x,ys.yA,dx,_,_,rfl,hx,Y.ct,Y.t5,rfl,rfl,_,rfl,?_⟩
   rw[bE]
   unfold bS
   by_cases h0:t.gone=0
   ·rw[decide_eq_true h0,if_pos h0]
    obtain⟨BY,fst,Bs,zB,Au⟩:=hI.T.i
    refine aK ⟨_,rfl,a.y,ys.yB,a.dy,_,_,rfl,hY.ins,Y.cl,Y.n1,rfl,a.tb,BY,fst,rfl,Bs,Au,_,rfl,x,ys.yA,dx,_,_,rfl,hx,Y.ct,Y.t1,rfl,_,rfl,x,ys.yA,dx,_,_,rfl,hx,Y.ct,Y.t2,rfl,?_⟩
    rw[e1,e2,toNat_natCast,toNat_natCast]
    exact⟨a.tb,a.n,a.wy,x0,y0,none,rfl,hI.T.j,Mz,Hy,fun D H1 s1 hD gD=>⟨D,rfl,s1,gD⟩⟩
   ·rw[decide_eq_false h0,if_neg h0]
    refine aH ⟨_,rfl,x,ys.yA,dx,_,_,rfl,hx,Y.ct,Y.t6,rfl,_,rfl,wa,_,rfl,yC.of hw,fun D hD=>⟨D,rfl,(y8.refl H).new hD,?_⟩⟩
    rw[ad,show((1:Int))=((1:Nat):Int) from rfl,yj]
  rintro v H1 ⟨D,rfl,s1,gD⟩
  have CA:=hI.same W s1
  have zM:=CA.Y
  have Ak:=s1 _ _ hx
  obtain⟨yM,zw,CJ⟩:=zM.hla
  have IX:(bS a t).length <= 1000:=by
   unfold bS
   by_cases h0:t.gone=0
   ·rw[if_pos h0];exact le_trans (hI.O.zD _ _ _) (by decide)
   ·rw[if_neg h0];rw[length_take];omega
  have Ke:∀ u ∈ bS a t,u < a.ps.length:=fun u hu=>by
   unfold bS at hu
   by_cases h0:t.gone=0
   ·rw[if_pos h0,e1,e2,toNat_natCast,toNat_natCast]at hu;exact hI.T.ok _ _ _ Mz Hy u hu
   ·rw[if_neg h0]at hu;exact BD u (mem_of_mem_take hu)
  refine⟨_,rfl,D,rfl,⟨_,yC.of gD⟩,?_⟩
  refine kG (fun l=>c5 st l k t.gone) (Mv.Ab k) (by rw[sizeLine_eq];omega) gD (fun u H2 acc N hu s2 Ep DJ=>?_) (fun D2 Gj H2 s2 Ap hp=>?_)
  ·have AE:=CA.same W s2
   obtain⟨Gq,Gu,Gv⟩:=AE.Y.hla
   have Hz:u < st.lanes.length:=by rw[hI.G.lanes];exact Ke u hu
   obtain⟨ln,yX⟩:∃ ln,st.lanes[u]? = some ln:=⟨_,getElem?_eq_getElem Hz⟩
   obtain⟨vl,Bf,xl,AD,Fj,G0,rfl,hL,_⟩:=Paired.at2 Gv yX
   refine⟨_,rfl,a.y,ys.yB,a.dy,_,_,rfl,AE.Y.ins,Y.cl,Y.n3,rfl,_,rfl,a.la,Gq,(u:Int),_,rfl,rfl,yC.of Gu,ak Bf,xl,AD,_,rfl,hL.ins,rfl,_,rfl,_,rfl,x,ys.yA,dx,_,_,rfl,s2 _ _ Ak,Y.ct,Y.t5,rfl,xl,AD,Fj,ln.r,ln.b,ln.h,(k:Int),t.gone,rfl,hL.ins,_,rfl,?_⟩
   have eo:c5 st u k t.gone=bT ln.r ln.h k t.gone:=by unfold c5;rw[yX]
   cases ho:bT ln.r ln.h k t.gone with
   | false=>exact aH (DJ (by rw[eo,ho]))
   | true=>exact aK ⟨_,rfl,_,rfl,by show 3 <= sizeLine;decide,fun z hz=>Ep (by rw[eo,ho]) _ _ ((y8.refl H2).new hz) ⟨z,rfl,ad⟩⟩
  ·exact q D2 Gj _ ((s1.trans s2).new Ap) (s1.free (s2.free Ap)) ad (Paired.mono (fun _ _ z=>z.keep (y8.yT ((y8.refl H2).new Ap))) hp)
theorem jd {H:Hp}{yS:List V}{qs:List (Int × Int)}(h:yU H yS qs):(qs.head? = none/\nY yS = .yQ)∨∃ q pt,qs.head? = some q/\nY yS = .ref pt/\H pt=some (.tup [.int q.1, .int q.2]):=by
 cases h with
 | nil=>exact .inl ⟨rfl,rfl⟩
 | cons x r=>obtain⟨t,rfl,ht⟩:=x;exact .inr ⟨_,t,rfl,rfl,ht⟩
theorem Kf:ap ["table", "lane", "goal", "end"] ["table", "lane", "goal"] (ah OF):=L2.ze
theorem xz {c:Cs}{J:TJ}{C f fw fe:Addr}{fd dw de:FuncData}(F:yY K "onward" "onward" OF f fd)(L:mG K c)(W:Wy K C fw dw J)(Gw:y9 P w K mg base aC 3 fw dw ["self", "place", "goal", "came"] (dD J))
  (M:ua K c fe de) (Ge:y9 P w K mg base aC 1 fe de ["self", "lane"] (rm c Prod.snd)):y9 P w K mg base aC 4 f fd ["table", "lane", "goal"] (qV c C J):=by
 refine F.ok Kf (fun _ _ _ _ h=>?_) (fun _ _ _ s H _ Q E hr h=>?_)
 ·obtain⟨a,l,g,rfl,_⟩:=h
  rfl
 ·obtain⟨a,l,g,rfl,hT,hO,hl,hg,q⟩:=h
  have zp:yK 1 _:=hr.mono (by decide)
  refine⟨_,ae (aE (i:=3) Kf.nd rfl (Or.inl rfl) (aG (am (pv 0) rfl) L.cl M.m Ge zp M.b .nil ao (aa (pv 1) ac)))
   (ag (ar (cK (ax bK (pv 3) (pv 2) (aA _)) (aR ac) (aG (pv 0) W.cl W.m Gw hr W.b .nil ao (aa (pv 3) (aa (pv 2) (aa (pv 1) ac))))))),?_⟩
  obtain⟨dx,fs,hx,hf,CK⟩:=hT.i
  have he:=getElem?_eq_getElem hl
  have DP:a.ps.getD l (0,0)=a.ps[l]:=by rw[getD_eq_getElem?_getD,he];rfl
  unfold il at q
  rw[DP]at q
  obtain⟨e,ee,Kg⟩:=hO.ends l _ he
  refine⟨_,rfl,a.tb,C,dx,fs,_,rfl,hx,W.cl,W.nl,hf,a.lx,a.zq,_,rfl,hT.l.1,rfl,_,rfl,a.lx,a.zq,a.lt,(a.n:Int),a.yO,a.ps,l,_,rfl,hT.l,he,?_⟩
  rw[ee]at q ⊢
  rw[toNat_natCast]at q
  refine⟨_,rfl,_,rfl,rfl,_,rfl,?_⟩
  rw[bE]
  by_cases h1:(e:Int)=(g:Int)
  ·rw[decide_eq_true h1]
   rw[if_pos h1]at q
   exact aK ⟨zero_le _,fun D hD=>q D _ ((y8.refl H).new hD) hD ad⟩
  ·rw[decide_eq_false h1]
   rw[if_neg h1]at q
   exact aH ⟨_,rfl,a.tb,dx,fs,rfl,hx,CK,_,rfl,_,rfl,_,rfl,a.tb,a.n,a.wy,e,g,some l,rfl,hT.j,Kg,hg,fun D H' s' hD gD=>q D _ s' hD gD⟩
theorem Er:ap Uw ["self", "lane"] (ah fS):=L2.ze
theorem Pq:zF Uw (ah fS) (yb ((aF fS).getD 3 (.Pass ⟨0,0,0,0⟩))) ["letter"] [3]:=L2.Ah
theorem Pr:(["way", "letter"]:List Str).Nodup:=by decide +kernel
theorem pS {c:Cs}{ys:Ys}{J:TJ}{TC f fw ff fo:Addr}{fd dw df AW:FuncData}(F:yY K "wanted" "Yard.wanted" fS f fd)(Y:gE K ys)(W:Wy K TC fw dw J)
  (mf:bM K ys.yW "front" ff) (bf:Binds K df ["self"] []) (Gf:y9 P w K mg base aC 1 ff df ["self"] (iy ys.yW))
  (mo:mg "onward" = some (.ref fo)) (ko:keepIn K (.ref fo)=true) (bo:Binds K AW ["table", "lane", "goal"] []) (Go:y9 P w K mg base aC 4 fo AW ["table", "lane", "goal"] (qV c TC J)) :
  y9 P w K mg base aC 5 f fd ["self", "lane"] (iI K c TC J ys):=by
 refine F.ok Er (fun _ _ _ _ h=>?_) (fun _ _ _ s H _ Q E hr h=>?_)
 ·obtain⟨a,s,k,rfl,_⟩:=h
  rfl
 ·obtain⟨a,st,k,rfl,hI,hk,q⟩:=h
  have zp:yK 1 _:=hr.mono (by decide)
  refine⟨_,ae (aE (i:=2) Er.nd rfl (Or.inl rfl) (bD (az yG (am (pv 0) rfl) (pv 1) (fun _ _=>rfl)) Y.L.cl mf Gf zp bf .nil ao))
   (ae (aL (ax gO (pv 2) b8 (aA _)) (ag (ar (aR ac))) aB)
   (ae (aE (i:=3) Er.nd rfl (Or.inr rfl) (az yG (am (pv 0) rfl) (az yE (pv 2) aj (fun _ _=>rfl)) (fun _ _=>rfl)))
   (ae (aL (ax bK (az yE (pv 2) aj (fun _ _=>rfl)) aj (aA _))
    (ag (ar (aQ (own:=["way"]) (capN:=["letter"]) (cap:=[3]) Pq rfl (aV (au Go hr rfl mo ko bo .nil ao (aa (am (pv 0) rfl) (aa (pv 1) (aa (am (pv 3) rfl) ac))))) (fun C s' H' fp=>⟨av (i:=0) Pr rfl (Or.inl rfl),cx (ax (show dQ _ (compareOp .NotIn) (Oc K true) from jX) (pv 0) (show PE _ _ (kQ K (jC 1) "way") from am (pv 1) rfl) (by with_unfolding_all rfl)),pv 0⟩)))) aB)
   (ae (aE (i:=4) Er.nd rfl (Or.inl rfl) (aD ca (cz plainAttrs_list PySem.F.slot_list_index PySem.F.type_list_index pZ (am (pv 3) rfl) (aa (pv 1) ac)) aj))
   (ag (ar (fZ i4 (am (pv 3) rfl) (fY (pv 4)) (fY (aD ca (pv 4) aj))))))))),?_⟩
  have hY:=hI.Y
  obtain⟨yM,zw,CJ⟩:=hY.hla
  obtain⟨ln,yX⟩:∃ ln,st.lanes[k]? = some ln:=⟨_,getElem?_eq_getElem hk⟩
  obtain⟨vl,Bf,xl,AD,Fj,G0,rfl,hL,_⟩:=Paired.at2 CJ yX
  refine⟨_,rfl,a.y,ys.yB,a.dy,_,_,rfl,hY.ins,Y.cl,Y.n3,rfl,_,rfl,a.la,yM,(k:Int),_,rfl,rfl,yC.of zw,ak Bf,xl,AD,_,rfl,hL.ins,rfl,xl,AD,Fj,ln.r,ln.b,ln.h,G0,ln.qs,rfl,hL,?_⟩
  unfold bO aT at q
  rw[yX]at q
  dsimp only at q
  rcases jd hL.zL with ⟨hf,ef⟩ | ⟨pq,pt,hf,ef,B8⟩
  ·rw[hf]at q
   rw[ef]
   exact⟨_,rfl,rfl,_,rfl,aK ⟨zero_le _,fun D hD=>q D _ ((y8.refl H).new hD) hD ad⟩⟩
  rw[hf]at q
  rw[ef]
  have M0:pq ∈ ln.qs:=mem_of_head? hf
  obtain⟨m,t,em,hm,BZ⟩:=hI.G.zL k ln yX pq M0
  obtain⟨x0,y0,e1,e2,Mz,Hy⟩:=hI.G.lets m t hm
  obtain⟨BD,hw9⟩:=hI.G.zu m t hm
  rw[em]at B8
  dsimp only at q
  rw[em,toNat_natCast,hm]at q
  dsimp only at q
  refine⟨_,rfl,rfl,_,rfl,aH ?_⟩
  obtain⟨yO,zR,pl⟩:=hY.hle
  obtain⟨v,hv,x,dx,wa,rfl,hx,hw,_⟩:=Paired.at2 pl hm
  refine⟨_,rfl,a.y,ys.yB,a.dy,_,_,rfl,hY.ins,Y.cl,Y.n4,rfl,_,rfl,pt,_,0,_,rfl,rfl,yN.of B8,ak (j:=0) rfl,a.le,yO,(m:Int),_,rfl,rfl,yC.of zR,ak hv,?_⟩
  refine⟨_,rfl,pt,_,1,_,rfl,rfl,yN.of B8,ak (j:=1) rfl,rfl,_,rfl,?_⟩
  rw[bE]
  by_cases h0:pq.2=0
  ·rw[decide_eq_true h0]
   rw[if_pos h0,e2,toNat_natCast]at q
   refine aK ⟨_,rfl,a.y,ys.yB,a.dy,_,_,rfl,hY.ins,Y.cl,Y.n1,rfl,_,rfl,_,rfl,x,ys.yA,dx,_,_,rfl,hx,Y.ct,Y.t2,rfl,?_⟩
   rw[e2]
   refine⟨a,k,y0,rfl,hI.T,hI.O,by rw[← hI.G.lanes];exact hk,Hy,fun D H1 s1 hD gD=>⟨D,rfl,⟨_,yC.of gD⟩,?_⟩⟩
   have LV:(il a k y0).length <= 400:=by
    unfold il
    by_cases z:(a.ps.getD k (0,0)).2=(y0:Int)
    ·rw[if_pos z];exact zero_le _
    ·rw[if_neg z];exact hI.O.zD _ _ _
   refine gj (fun v=>match v with | .int i=>!decide (i ∈ iz t.way) | _=>false) (fun v=>v) (by rw[cp,sizeLine_eq];omega) (yC.of gD) (fun y acc N hy h=>?_) (fun D2 Ap=>?_)
   ·obtain⟨u,hu,rfl⟩:=iU hy
    refine⟨_,rfl,_,rfl,x,ys.yA,dx,_,_,rfl,s1 _ _ hx,Y.ct,Y.t6,rfl,wa,_,rfl, .inl (yC.of (s1 _ _ hw)),rfl,by rw[oY];exact gZ _,_,rfl,?_⟩
    rw[oY,k7]
    have h:N (if (!decide ((u:Int) ∈ iz t.way))=true then acc ++ [V.int u] else acc) H1:=h
    cases hb:decide ((u:Int) ∈ iz t.way) with
    | true =>
     rw[hb]at h
     exact aH h
    | false =>
     rw[hb]at h
     exact aK ⟨_,rfl,h⟩
   ·have e:((nV (il a k y0)).filter (fun v=>match v with | .int i=>!decide (i ∈ iz t.way) | _=>false)).map (fun v=>v)=nV ((il a k y0).filter fun l=>!decide (l ∈ t.way)):=by
     rw[List.map_id']
     unfold nV
     rw[List.filter_map]
     congr 1
     refine List.filter_congr fun u _=>?_
     show(!decide ((u:Int) ∈ iz t.way))=_
     rw[nS]
    rw[e]
    exact q D2 _ (s1.new Ap) (s1.free Ap) ad
  ·rw[decide_eq_false h0]
   rw[if_neg h0]at q
   refine aH ⟨_,rfl,x,ys.yA,dx,_,_,rfl,hx,Y.ct,Y.t6,rfl, .inl ⟨rfl,_,yC.of hw⟩,_,rfl,wa,iz t.way,(k:Int),rfl,rfl,by rw[← oY];exact hw,Ao.mpr ⟨k,BZ,rfl⟩,by unfold iz;rw[length_map];omega,_,_,rfl,rfl,?_⟩
   rw[tm]
   refine⟨_,rfl,x,ys.yA,dx,_,_,rfl,hx,Y.ct,Y.t6,rfl,_,rfl,_,rfl,_,rfl,_,_,rfl,rfl,_,rfl,wa,_,rfl,yC.of hw,fun D hD=>?_⟩
   have e:fL (nV t.way) (some (((t.way.idxOf k:Nat):Int) + 1)) (some (((t.way.idxOf k:Nat):Int) + 1 + 1))=nV ((t.way.drop (t.way.idxOf k + 1)).take 1):=by
    have:=vA t.way (t.way.idxOf k + 1)
    rw[← this]
    rfl
   dsimp only
   rw[e]
   exact q D _ ((y8.refl H).new hD) hD ad
theorem G5:ap Ux ["self", "lane"] (ah ld):=L2.ze
theorem Pt:zF Ux (ah ld) (xf ((aF ld).getD 2 (.Pass ⟨0,0,0,0⟩))) ["self", "lane", "piece"] [0,1,2]:=L2.Ah
theorem Pu:(["other", "self", "lane", "piece"]:List Str).Nodup:=by decide +kernel
theorem uX {c:Cs}{ys:Ys}{J:TJ}{TC f fw ff fa fo:Addr}{fd dw df da AW:FuncData}(F:yY K "moves_on" "Yard.moves_on" ld f fd)(Y:gE K ys)(W:Wy K TC fw dw J)
  (mf:bM K ys.yW "front" ff) (bf:Binds K df ["self"] []) (Gf:y9 P w K mg base aC 1 ff df ["self"] (iy ys.yW))
  (ma:bM K ys.yB "wanted" fa) (ba:Binds K da ["self", "lane"] []) (Ga:y9 P w K mg base aC 5 fa da ["self", "lane"] (iI K c TC J ys))
  (mo:bM K ys.yW "open_to" fo) (bo:Binds K AW ["self", "letter", "count"] []) (Go:y9 P w K mg base aC 1 fo AW ["self", "letter", "count"] (jH ys.yW)) :
  y9 P w K mg base aC 6 f fd ["self", "lane"] (mT K c TC J ys):=by
 refine F.ok G5 (fun _ _ _ _ h=>?_) (fun _ _ _ s H _ Q E hr h=>?_)
 ·obtain⟨a,s,k,rfl,_⟩:=h
  rfl
 ·obtain⟨a,st,k,rfl,hI,hk,q⟩:=h
  have zp:yK 1 _:=hr.mono (by decide)
  refine⟨_,ae (aE (i:=2) G5.nd rfl (Or.inr rfl) (bD (az yG (am (pv 0) rfl) (pv 1) (fun _ _=>rfl)) Y.L.cl mf Gf zp bf .nil ao))
   (ae (aE (i:=3) G5.nd rfl (Or.inl rfl) (aG (pv 0) Y.cl ma Ga hr ba .nil ao (aa (pv 1) ac)))
   (ag (ar (aQ (own:=["other"]) (capN:=["self", "lane", "piece"]) (cap:=[0,1,2]) Pt rfl (aV (pv 3)) (fun C s' H' fp=>⟨av (i:=0) Pu rfl (Or.inl rfl),cx (bA (aG (az (show AL _ (pJ K) from yG) (show PE _ _ (kQ K (jC 1) "lanes") from am (pv 1) rfl) (pv 0) (fun _ _=>rfl)) Y.L.cl mo Go zp bo .nil ao (aa (az (show AL _ (iQ K) from yE) (pv 3) aj (fun _ _=>rfl)) (aa (az (show AL _ (iQ K) from yE) (pv 3) aj (fun _ _=>rfl)) ac)))),bj (aa bW (aa (pv 2) (aa (pv 0) ac)))⟩))))),?_⟩
  have hY:=hI.Y
  obtain⟨yM,zw,CJ⟩:=hY.hla
  obtain⟨ln,yX⟩:∃ ln,st.lanes[k]? = some ln:=⟨_,getElem?_eq_getElem hk⟩
  obtain⟨vl,Bf,xl,AD,Fj,G0,rfl,hL,_⟩:=Paired.at2 CJ yX
  refine⟨_,rfl,a.y,ys.yB,a.dy,_,_,rfl,hY.ins,Y.cl,Y.n3,rfl,_,rfl,a.la,yM,(k:Int),_,rfl,rfl,yC.of zw,ak Bf,xl,AD,_,rfl,hL.ins,rfl,xl,AD,Fj,ln.r,ln.b,ln.h,G0,ln.qs,rfl,hL,?_⟩
  refine⟨_,rfl,a.y,a.dy,_,rfl,hY.ins,rfl,_,rfl,a,st,k,rfl,hI,hk,fun D H1 s1 hD gD=>?_⟩
  refine⟨_,rfl,D,rfl,⟨_,yC.of gD⟩,?_⟩
  have CA:=hI.same W s1
  have eF:aT st k=ln.qs.head?:=by unfold aT;rw[yX]
  have Ke:∀ u ∈ bO a st k,u < a.ps.length:=fun u hu=>by
   unfold bO at hu
   rw[eF]at hu
   cases hq:ln.qs.head? with
   | none=>rw[hq]at hu;cases hu
   | some pq =>
    rw[hq]at hu
    obtain⟨m,t,em,hm,BZ⟩:=hI.G.zL k ln yX pq (mem_of_head? hq)
    obtain⟨x0,y0,e1,e2,Mz,Hy⟩:=hI.G.lets m t hm
    dsimp only at hu
    rw[em,toNat_natCast,hm]at hu
    dsimp only at hu
    by_cases h0:pq.2=0
    ·rw[if_pos h0,e2,toNat_natCast]at hu
     have hu:=(mem_filter.mp hu).1
     unfold il at hu
     by_cases z:(a.ps.getD k (0,0)).2=(y0:Int)
     ·rw[if_pos z]at hu;cases hu
     ·rw[if_neg z]at hu
      have HA:k < a.ps.length:=by rw[← hI.G.lanes];exact hk
      obtain⟨e,ee,Kg⟩:=hI.O.ends k _ (getElem?_eq_getElem HA)
      have DP:a.ps.getD k (0,0)=a.ps[k]:=by rw[getD_eq_getElem?_getD,getElem?_eq_getElem HA];rfl
      rw[DP,ee,toNat_natCast]at hu
      exact hI.T.ok _ _ _ Kg Hy u hu
    ·rw[if_neg h0]at hu
     exact(hI.G.zu m t hm).1 u (List.mem_of_mem_drop (mem_of_mem_take hu))
  have BD:(bO a st k).length <= 1000:=by
   unfold bO
   cases aT st k with
   | none=>exact zero_le _
   | some pq =>
    dsimp only
    cases st.U[pq.1.toNat]? with
    | none=>exact zero_le _
    | some t =>
     dsimp only
     by_cases h0:pq.2=0
     ·rw[if_pos h0]
      refine le_trans (length_filter_le _ _) ?_
      unfold il
      by_cases z:(a.ps.getD k (0,0)).2=((t.goal.toNat:Nat):Int)
      ·rw[if_pos z];exact zero_le _
      ·rw[if_neg z];exact le_trans (hI.O.zD _ _ _) (by decide)
     ·rw[if_neg h0,length_take];omega
  unfold gQ at q
  rw[eF]at q
  rcases jd hL.zL with ⟨hf,ef⟩ | ⟨pq,pt,hf,ef,B8⟩
  ·have e0:bO a st k=[]:=by unfold bO;rw[eF,hf]
   rw[hf]at q
   rw[e0]at gD
   refine kG (fun l=>false) (Mv.on k) (by rw[sizeLine_eq];decide) gD (fun u H2 acc N hu s2 Ep DJ=>by cases hu) (fun D2 Gj H2 s2 Ap hp=>?_)
   exact q D2 Gj _ ((s1.trans s2).new Ap) (s1.free (s2.free Ap)) ad (Paired.mono (fun _ _ z=>z.keep (y8.yT ((y8.refl H2).new Ap))) hp)
  rw[hf]at q
  dsimp only at q
  rw[ef]
  refine kG (fun l=>c5 st l pq.1 pq.2) (Mv.on k) (by rw[sizeLine_eq];omega) gD (fun u H2 acc N hu s2 Ep DJ=>?_) (fun D2 Gj H2 s2 Ap hp=>?_)
  ·have AE:=CA.same W s2
   obtain⟨Gq,Gu,Gv⟩:=AE.Y.hla
   have Hz:u < st.lanes.length:=by rw[hI.G.lanes];exact Ke u hu
   obtain⟨zm,Aa⟩:∃ ln,st.lanes[u]? = some ln:=⟨_,getElem?_eq_getElem Hz⟩
   obtain⟨vu,hvu,xu,Uy,pau,pvu,rfl,Uz,_⟩:=Paired.at2 Gv Aa
   have Dz:=s2 _ _ (s1 _ _ B8)
   refine⟨_,rfl,a.y,ys.yB,a.dy,_,_,rfl,AE.Y.ins,Y.cl,Y.n3,rfl,_,rfl,a.la,Gq,(u:Int),_,rfl,rfl,yC.of Gu,ak hvu,xu,Uy,_,rfl,Uz.ins,rfl,_,rfl,pt,_,0,_,rfl,rfl,yN.of Dz,ak (j:=0) rfl,_,rfl,pt,_,1,_,rfl,rfl,yN.of Dz,ak (j:=1) rfl,xu,Uy,pau,zm.r,zm.b,zm.h,pq.1,pq.2,rfl,Uz.ins,_,rfl,?_⟩
   have eo:c5 st u pq.1 pq.2=bT zm.r zm.h pq.1 pq.2:=by unfold c5;rw[Aa]
   cases ho:bT zm.r zm.h pq.1 pq.2 with
   | false=>exact aH (DJ (by rw[eo,ho]))
   | true=>exact aK ⟨_,rfl,_,rfl,by show 3 <= sizeLine;decide,fun z hz=>Ep (by rw[eo,ho]) _ _ ((y8.refl H2).new hz) ⟨z,rfl,ad⟩⟩
  ·exact q D2 Gj _ ((s1.trans s2).new Ap) (s1.free (s2.free Ap)) ad (Paired.mono (fun _ _ z=>z.keep (y8.yT ((y8.refl H2).new Ap))) hp)
theorem Kh:ap ["self", "lane", "piece"] ["self", "lane"] (ah nh):=L2.ze
theorem si {c:Cs}{ys:Ys}{J:TJ}{TC f fw ff fe:Addr}{fd dw df de:FuncData}(F:yY K "moves_lie" "Yard.moves_lie" nh f fd)(Y:gE K ys)(L:mG K c)(W:Wy K TC fw dw J)
  (mf:bM K ys.yW "front" ff) (bf:Binds K df ["self"] []) (Gf:y9 P w K mg base aC 1 ff df ["self"] (iy ys.yW)) (M:ua K c fe de) (Ge:y9 P w K mg base aC 1 fe de ["self", "lane"] (rm c Prod.snd)) :
  y9 P w K mg base aC 2 f fd ["self", "lane"] (oF K c TC J ys):=by
 refine F.ok Kh (fun _ _ _ _ h=>?_) (fun _ _ _ s H _ Q E hr h=>?_)
 ·obtain⟨a,s,k,rfl,_⟩:=h
  rfl
 ·obtain⟨a,st,k,rfl,hI,hk,q⟩:=h
  refine⟨_,ae (aE (i:=2) Kh.nd rfl (Or.inl rfl) (bD (az yG (am (pv 0) rfl) (pv 1) (fun _ _=>rfl)) Y.L.cl mf Gf hr bf .nil ao))
   (ae (aL (PW.pt (eu (ax gO (pv 2) b8 (aA _)) (cG (ax ik (am (az yG (am (pv 0) rfl) (az yE (pv 2) aj (fun _ _=>rfl)) (fun _ _=>rfl)) rfl) (aG (am (am (pv 0) rfl) rfl) L.cl M.m Ge hr M.b .nil ao (aa (pv 1) ac)) (aA _))))) (ag (ar (aR ac))) aB)
   (ag (ar (aR (aa (bj (aa bW (aa (pv 1) ac))) ac))))),?_⟩
  have hY:=hI.Y
  obtain⟨yM,zw,CJ⟩:=hY.hla
  obtain⟨ln,yX⟩:∃ ln,st.lanes[k]? = some ln:=⟨_,getElem?_eq_getElem hk⟩
  obtain⟨vl,Bf,xl,AD,Fj,G0,rfl,hL,_⟩:=Paired.at2 CJ yX
  refine⟨_,rfl,a.y,ys.yB,a.dy,_,_,rfl,hY.ins,Y.cl,Y.n3,rfl,_,rfl,a.la,yM,(k:Int),_,rfl,rfl,yC.of zw,ak Bf,xl,AD,_,rfl,hL.ins,rfl,xl,AD,Fj,ln.r,ln.b,ln.h,G0,ln.qs,rfl,hL,?_⟩
  have eF:aT st k=ln.qs.head?:=by unfold aT;rw[yX]
  unfold dS at q
  rw[eF]at q
  rcases jd hL.zL with ⟨hf,ef⟩ | ⟨pq,pt,hf,ef,B8⟩
  ·rw[hf]at q
   rw[ef]
   exact⟨_,rfl,rfl,_,rfl,aK (aK ⟨zero_le _,fun D hD=>q D [] _ ((y8.refl H).new hD) hD ad .nil⟩)⟩
  rw[hf]at q
  rw[ef]
  obtain⟨m,t,em,hm,BZ⟩:=hI.G.zL k ln yX pq (mem_of_head? hf)
  rw[em]at B8
  dsimp only at q
  rw[em,toNat_natCast,hm]at q
  dsimp only at q
  obtain⟨yO,zR,pl⟩:=hY.hle
  obtain⟨v,hv,x,dx,wa,rfl,hx,hw,_⟩:=Paired.at2 pl hm
  obtain⟨BY,fst,Bs,zB,Au⟩:=hI.T.i
  have HA:k < a.ps.length:=by rw[← hI.G.lanes];exact hk
  have he:=getElem?_eq_getElem HA
  have DP:a.ps.getD k (0,0)=a.ps[k]:=by rw[getD_eq_getElem?_getD,he];rfl
  rw[DP]at q
  refine⟨_,rfl,rfl,_,rfl,aH ⟨_,rfl,a.y,ys.yB,a.dy,_,_,rfl,hY.ins,Y.cl,Y.n4,rfl,_,rfl,pt,_,0,_,rfl,rfl,yN.of B8,ak (j:=0) rfl,a.le,yO,(m:Int),_,rfl,rfl,yC.of zR,ak hv,x,ys.yA,dx,_,_,rfl,hx,Y.ct,Y.t2,rfl,_,rfl,a.y,ys.yB,a.dy,_,_,rfl,hY.ins,Y.cl,Y.n1,rfl,a.tb,TC,BY,fst,_,rfl,Bs,W.cl,W.nl,zB,a.lx,a.zq,_,rfl,hI.T.l.1,rfl,_,rfl,a.lx,a.zq,a.lt,(a.n:Int),a.yO,a.ps,k,_,rfl,hI.T.l,he,rfl,_,rfl,?_⟩⟩
  rw[bE]
  by_cases hg:t.goal=a.ps[k].2
  ·rw[decide_eq_true hg]
   rw[if_pos hg]at q
   refine aH ⟨_,rfl,by show 2 <= sizeLine;decide,fun z hz=>⟨by show 1 <= sizeLine;decide,fun D hD=>?_⟩⟩
   have s2:=(y8.refl H).new (o := .tup [.str "lie", .int k]) hz
   have gz:(upd H z (.tup [.str "lie", .int k])) z=some (.tup [.str "lie", .int k]):=ad
   exact q D [.ref z] _ (s2.new hD) (s2.free hD) ad (.cons ⟨z,rfl,by rw[af (ai gz hD)];exact gz⟩ .nil)
  ·rw[decide_eq_false hg]
   rw[if_neg hg]at q
   exact aK ⟨zero_le _,fun D hD=>q D [] _ ((y8.refl H).new hD) hD ad .nil⟩
theorem Pw:ap ["self", "lane"] ["self", "lane"] (ah jP):=L2.ze
theorem pW {c:Cs}{ys:Ys}{J:TJ}{TC f:Addr}{fd:FuncData}(F:yY K "moves_back" "Yard.moves_back" jP f fd)(Y:gE K ys):y9 P w K mg base aC 1 f fd ["self", "lane"] (iK K c TC J ys):=by
 refine F.ok Pw (fun _ _ _ _ h=>?_) (fun _ _ _ s H _ Q E hr h=>?_)
 ·obtain⟨a,s,k,rfl,_⟩:=h
  rfl
 ·obtain⟨a,st,k,rfl,hI,hk,q⟩:=h
  refine⟨_,ag (ar (cK (ax l9 (am (az yG (am (pv 0) rfl) (pv 1) (fun _ _=>rfl)) rfl) aj (aA _)) (aR (aa (bj (aa bW (aa (pv 1) ac))) ac)) (aR ac))),?_⟩
  have hY:=hI.Y
  obtain⟨yM,zw,CJ⟩:=hY.hla
  obtain⟨ln,yX⟩:∃ ln,st.lanes[k]? = some ln:=⟨_,getElem?_eq_getElem hk⟩
  obtain⟨vl,Bf,xl,AD,Fj,G0,rfl,hL,_⟩:=Paired.at2 CJ yX
  unfold cM at q
  dsimp only at q
  rw[yX]at q
  dsimp only at q
  refine⟨_,rfl,a.y,ys.yB,a.dy,_,_,rfl,hY.ins,Y.cl,Y.n3,rfl,_,rfl,a.la,yM,(k:Int),_,rfl,rfl,yC.of zw,ak Bf,xl,ys.yW,AD,_,_,rfl,hL.ins,Y.L.cl,Y.L.n2,rfl,_,_,rfl,rfl,_,rfl,?_⟩
  by_cases hb:0 < ln.b
  ·rw[decide_eq_true hb]
   rw[if_pos hb]at q
   refine aK ⟨_,rfl,by show 2 <= sizeLine;decide,fun z hz=>⟨by show 1 <= sizeLine;decide,fun D hD=>?_⟩⟩
   have s2:=(y8.refl H).new (o := .tup [.str "back", .int k]) hz
   have gz:(upd H z (.tup [.str "back", .int k])) z=some (.tup [.str "back", .int k]):=ad
   exact q D [.ref z] _ (s2.new hD) (s2.free hD) ad (.cons ⟨z,rfl,by rw[af (ai gz hD)];exact gz⟩ .nil)
  ·rw[decide_eq_false hb]
   rw[if_neg hb]at q
   exact aH ⟨zero_le _,fun D hD=>q D [] _ ((y8.refl H).new hD) hD ad .nil⟩
theorem lG {H:Hp}{F:Addr}{xs:List V}{o:HO}(h:H F=some (.lst xs)):zj H (upd H F o):=fun b u e n=>by
 have nb:b ≠ F:=fun z=>by rw[z,h]at e;cases e;exact n
 rw[af nb];exact e
theorem dA {α:Type}(f:Nat->List α)(i:Nat):(List.range (i + 1)).flatMap f=(List.range i).flatMap f ++ f i:=by
 rw[range_succ,List.flatMap_append];simp
theorem bq {α:Type}{f:Nat->List α}(h:∀ i,(f i).length <= 1000):∀ i,((List.range i).flatMap f).length <= 1000 * i
 | 0=>by simp
 | i + 1=>by rw[dA,length_append];have:=bq h i;have:=h i;omega
theorem dq {a:YA}{s:YS}(O:qw a)(G:Pn a s)(k:Nat):(gf a s k).length <= 1000:=by
 unfold gf
 cases ht:s.U[k]? with
 | none=>exact zero_le _
 | some t =>
  dsimp only
  by_cases hg:t.gone=t.len
  ·rw[if_pos hg];exact zero_le _
  rw[if_neg hg,length_map]
  refine le_trans (length_filter_le _ _) ?_
  unfold bS
  by_cases h0:t.gone=0
  ·rw[if_pos h0];exact le_trans (O.zD _ _ _) (by decide)
  ·rw[if_neg h0,length_take];omega
theorem dj {a:YA}{s:YS}(O:qw a)(k:Nat):(gQ a s k).length <= 1000:=by
 unfold gQ
 cases hq:aT s k with
 | none=>exact zero_le _
 | some pq =>
  dsimp only
  rw[length_map]
  refine le_trans (length_filter_le _ _) ?_
  unfold bO
  rw[hq]
  dsimp only
  cases s.U[pq.1.toNat]? with
  | none=>exact zero_le _
  | some t =>
   dsimp only
   by_cases h0:pq.2=0
   ·rw[if_pos h0]
    refine le_trans (length_filter_le _ _) ?_
    unfold il
    by_cases z:(a.ps.getD k (0,0)).2=((t.goal.toNat:Nat):Int)
    ·rw[if_pos z];exact zero_le _
    ·rw[if_neg z];exact le_trans (O.zD _ _ _) (by decide)
   ·rw[if_neg h0,length_take];omega
theorem cC (a:YA)(s:YS)(k:Nat):(dS a s k).length <= 1000:=by
 unfold dS
 cases aT s k with
 | none=>exact zero_le _
 | some pq =>
  dsimp only
  cases s.U[pq.1.toNat]? with
  | none=>exact zero_le _
  | some t =>
   dsimp only
   by_cases h0:t.goal=(a.ps.getD k (0,0)).2
   ·rw[if_pos h0];show 1 <= 1000;decide
   ·rw[if_neg h0];exact zero_le _
theorem iV (s:YS)(k:Nat):(cM s k).length <= 1000:=by
 unfold cM
 cases s.lanes[k]? with
 | none=>exact zero_le _
 | some ln =>
  dsimp only
  by_cases h0:0 < ln.b
  ·rw[if_pos h0];show 1 <= 1000;decide
  ·rw[if_neg h0];exact zero_le _
noncomputable def bX (a:YA)(s:YS):List Mv:=(List.range s.U.length).flatMap (gf a s) ++ (List.range s.lanes.length).flatMap (gQ a s) ++ (List.range s.lanes.length).flatMap (dS a s) ++ (List.range s.lanes.length).flatMap (cM s)
noncomputable def jI (K:Frag)(c:Cs)(TC:Addr)(J:TJ)(ys:Ys):Sp:=fun vs H Q _=>∃ (a:YA)(s:YS),vs=[.ref a.y]/\D1 K c TC J ys H a s /\
 ∀ (D:Addr)(za:List V)(H':Hp),y8 H H'->H D=none->H' D=some (.lst za)->Paired (Ar H') za ((bX a s).map dU)->Q (.ref D) H'
theorem Paired.app {α β:Type}{R:α->β->Prop}{cs:List α}{ds:List β}(h:Paired R cs ds):∀ {as:List α}{bs:List β},Paired R as bs->Paired R (as ++ cs) (bs ++ ds):=fun yD=>by
 induction yD with
 | nil=>exact h
 | cons x r ih=>exact .cons x ih
theorem iB {H H2 H3:Hp}{F:Addr}{vs za:List V}{xs ys:List Mv}(nF:H F=none)(s2:y8 H H2)(g2:H2 F=some (.lst vs))(p2:Paired (Ar H2) vs (xs.map dU))(s3:y8 H2 H3)(p3:Paired (Ar H3) za (ys.map dU)) :
  y8 H (upd H3 F (.lst (vs ++ za)))/\(upd H3 F (.lst (vs ++ za))) F=some (.lst (vs ++ za))/\Paired (Ar (upd H3 F (.lst (vs ++ za)))) (vs ++ za) ((xs ++ ys).map dU):=by
 refine⟨fun b o e=>by rw[af (ai e nF)];exact s3 _ _ (s2 _ _ e),ad,?_⟩
 have kk:zj H3 (upd H3 F (.lst (vs ++ za))):=lG (s3 _ _ g2)
 rw[map_append]
 have q2:=Paired.mono (fun _ _ z=>z.keep (zj.trans (y8.yT s3) kk)) p2
 have q3:=Paired.mono (fun _ _ z=>z.keep kk) p3
 exact Paired.app q3 q2
abbrev NMs:List Str:=["self", "found", "number", "lane"]
theorem CB:ap NMs ["self"] (ah nj):=L2.ze
structure Px (P:Program)(w:World)(K:Frag)(mg:Str->Option Value)(base:Heap)(c:Cs)(TC:Addr)(J:TJ)(ys:Ys)(fi fo fl fb:Addr)(di AW dl db:FuncData):Prop where
 mi:bM K ys.yB "moves_in" fi
 bi:Binds K di ["self", "number"] []
 Gi:y9 P w K mg base aC 4 fi di ["self", "number"] (mU K c TC J ys)
 mo:bM K ys.yB "moves_on" fo
 bo:Binds K AW ["self", "lane"] []
 Go:y9 P w K mg base aC 6 fo AW ["self", "lane"] (mT K c TC J ys)
 ml:bM K ys.yB "moves_lie" fl
 bl:Binds K dl ["self", "lane"] []
 Gl:y9 P w K mg base aC 2 fl dl ["self", "lane"] (oF K c TC J ys)
 mb:bM K ys.yB "moves_back" fb
 bb:Binds K db ["self", "lane"] []
 Gb:y9 P w K mg base aC 1 fb db ["self", "lane"] (iK K c TC J ys)
theorem sj {c:Cs}{ys:Ys}{J:TJ}{TC f fw fi fo fl fb:Addr}{fd dw di AW dl db:FuncData}(F:yY K "moves" "Yard.moves" nj f fd)(T:dP mg)(Y:gE K ys)(W:Wy K TC fw dw J)(M:Px P w K mg base c TC J ys fi fo fl fb di AW dl db) :
  y9 P w K mg base aC 7 f fd ["self"] (jI K c TC J ys):=by
 refine F.ok CB (fun _ _ _ _ h=>?_) (fun _ _ _ s H _ Q E hr h=>?_)
 ·obtain⟨a,s,rfl,_⟩:=h
  rfl
 ·obtain⟨a,st,rfl,hI,q⟩:=h
  have zp:yK 1 _:=hr.mono (by decide)
  have zT:yK 2 _:=hr.mono (by decide)
  have BU:yK 4 _:=hr.mono (by decide)
  refine⟨_,ae (aE (i:=1) CB.nd rfl (Or.inl rfl) (aR ac))
   (ae (bB PassesOwn.never rfl (aJ rfl T.range (aa (aw aq rfl T.len PySem.boot_len (aa (am (pv 0) rfl) ac)) ac)) (av (i:=2) CB.nd rfl (Or.inl rfl)) (ag (aO (cz plainAttrs_list slot_list_extend type_list_extend eT (pv 1) (aa (aG (pv 0) Y.cl M.mi M.Gi BU M.bi .nil ao (aa (pv 2) ac)) ac)))))
   (ae (bB PassesOwn.never rfl (aJ rfl T.range (aa (aw aq rfl T.len PySem.boot_len (aa (am (pv 0) rfl) ac)) ac)) (av (i:=3) CB.nd rfl (Or.inl rfl)) (ag (aO (cz plainAttrs_list slot_list_extend type_list_extend eT (pv 1) (aa (aG (pv 0) Y.cl M.mo M.Go hr M.bo .nil ao (aa (pv 3) ac)) ac)))))
   (ae (bB PassesOwn.never rfl (aJ rfl T.range (aa (aw aq rfl T.len PySem.boot_len (aa (am (pv 0) rfl) ac)) ac)) (av (i:=3) CB.nd rfl (Or.inl rfl)) (ag (aO (cz plainAttrs_list slot_list_extend type_list_extend eT (pv 1) (aa (aG (pv 0) Y.cl M.ml M.Gl zT M.bl .nil ao (aa (pv 3) ac)) ac)))))
   (ae (bB PassesOwn.never rfl (aJ rfl T.range (aa (aw aq rfl T.len PySem.boot_len (aa (am (pv 0) rfl) ac)) ac)) (av (i:=3) CB.nd rfl (Or.inl rfl)) (ag (aO (cz plainAttrs_list slot_list_extend type_list_extend eT (pv 1) (aa (aG (pv 0) Y.cl M.mb M.Gb zp M.bb .nil ao (aa (pv 3) ac)) ac)))))
   (ag (ar (pv 1))))))),?_⟩
  have hlet:=hI.G.zD
  have Es:st.lanes.length <= 40:=by rw[hI.G.lanes];exact hI.T.zD
  refine⟨zero_le _,fun Fd HB=>?_⟩
  have s0:=(y8.refl H).new (o := .lst []) HB
  have g0:(upd H Fd (.lst [])) Fd=some (.lst []):=ad
  show dv 1 (V.ref Fd) _ _ _
  generalize upd H Fd (.lst [])=H0 at s0 g0 ⊢
  have Py:∃ vs,y8 H H0/\H0 Fd=some (.lst vs)/\Paired (Ar H0) vs (([]:List Mv).map dU):=⟨[],s0,g0, .nil⟩
  obtain⟨Dy,U0,g0',p0'⟩:=Py
  have U1:=(hI.same W U0).Y
  obtain⟨U2,Pz,pl0⟩:=U1.hle
  have P0:U2.length=st.U.length:=Paired.length pl0
  refine⟨_,rfl,a.y,ys.yB,a.dy,_,_,rfl,U1.ins,Y.cl,Y.n4,rfl,a.le,_,rfl, .inl (yC.of Pz),((U2.length:Nat):Int),rfl,by omega,by omega,?_⟩
  rw[toNat_natCast,P0]
  refine b7 (n:=st.U.length) (fun i σ H2=>∃ a2 a3:Option V,(∃ vs,y8 H H2/\H2 Fd=some (.lst vs)/\Paired (Ar H2) vs (((List.range i).flatMap (gf a st)).map dU))/\σ=[some (.ref a.y),some (.ref Fd),a2,a3]) ?_ ?_ ?_
  ·exact⟨_,_,⟨Dy,U0,g0',by simpa using p0'⟩,rfl⟩
  ·rintro i σ H2 hi ⟨a2,a3,⟨vs,s2,g2,p2⟩,rfl⟩
   rw[zero_add]
   have AE:=hI.same W s2
   refine⟨_,rfl, .inl ⟨rfl,_,yC.of g2⟩,_,rfl,a.y,a.dy,_,rfl,AE.Y.ins,rfl,_,rfl,a,st,i,rfl,AE,hi,fun D za H3 s3 hD gD hp=>?_⟩
   have l1:vs.length <= 1000000:=by
    rw[Paired.length p2,length_map]
    have h0:=bq (dq hI.O hI.G) st.U.length
    have h1:=bq (dj (s:=st) hI.O) st.lanes.length
    have h2:=bq (cC a st) st.lanes.length
    have hh:=bq (dq hI.O hI.G) i
    try simp only[length_append]
    omega
   have l2:za.length <= 1000:=by rw[Paired.length hp,length_map];exact(dq hI.O hI.G) i
   obtain⟨q1,q2,q3⟩:=iB HB s2 g2 p2 s3 hp
   refine⟨Fd,D,vs,za,rfl,rfl,s3 _ _ g2,gD,by rw[sizeLine_eq];omega,?_⟩
   refine⟨_,_,⟨vs ++ za,q1,q2,?_⟩,rfl⟩
   rw[dA]
   exact q3
  rintro σ0 H1 ⟨a20,a30,inv1,rfl⟩
  obtain⟨vs1,U3,g1',p1'⟩:=inv1
  have zM:=(hI.same W U3).Y
  obtain⟨U4,gl1,Pm⟩:=zM.hla
  have P4:U4.length=st.lanes.length:=Paired.length Pm
  refine⟨_,rfl,a.y,ys.yB,a.dy,_,_,rfl,zM.ins,Y.cl,Y.n3,rfl,a.la,_,rfl, .inl (yC.of gl1),((U4.length:Nat):Int),rfl,by omega,by omega,?_⟩
  rw[toNat_natCast,P4]
  refine b7 (n:=st.lanes.length) (fun i σ H2=>∃ a2 a3:Option V,(∃ vs,y8 H H2/\H2 Fd=some (.lst vs)/\Paired (Ar H2) vs ((((List.range st.U.length).flatMap (gf a st)) ++ (List.range i).flatMap (gQ a st)).map dU))/\σ=[some (.ref a.y),some (.ref Fd),a2,a3]) ?_ ?_ ?_
  ·exact⟨_,_,⟨vs1,U3,g1',by simpa using p1'⟩,rfl⟩
  ·rintro i σ H2 hi ⟨a2,a3,⟨vs,s2,g2,p2⟩,rfl⟩
   rw[zero_add]
   have AE:=hI.same W s2
   refine⟨_,rfl, .inl ⟨rfl,_,yC.of g2⟩,_,rfl,a.y,a.dy,_,rfl,AE.Y.ins,rfl,_,rfl,a,st,i,rfl,AE,hi,fun D za H3 s3 hD gD hp=>?_⟩
   have l1:vs.length <= 1000000:=by
    rw[Paired.length p2,length_map]
    have h0:=bq (dq hI.O hI.G) st.U.length
    have h1:=bq (dj (s:=st) hI.O) st.lanes.length
    have h2:=bq (cC a st) st.lanes.length
    have hh:=bq (dj (s:=st) hI.O) i
    try simp only[length_append]
    omega
   have l2:za.length <= 1000:=by rw[Paired.length hp,length_map];exact(dj (s:=st) hI.O) i
   obtain⟨q1,q2,q3⟩:=iB HB s2 g2 p2 s3 hp
   refine⟨Fd,D,vs,za,rfl,rfl,s3 _ _ g2,gD,by rw[sizeLine_eq];omega,?_⟩
   refine⟨_,_,⟨vs ++ za,q1,q2,?_⟩,rfl⟩
   rw[dA]
   rw[← append_assoc];exact q3
  rintro σ1 H2 ⟨a21,a31,inv2,rfl⟩
  obtain⟨Gj,U5,g2',p2'⟩:=inv2
  have Av:=(hI.same W U5).Y
  obtain⟨U6,gl2,pl2⟩:=Av.hla
  have P5:U6.length=st.lanes.length:=Paired.length pl2
  refine⟨_,rfl,a.y,ys.yB,a.dy,_,_,rfl,Av.ins,Y.cl,Y.n3,rfl,a.la,_,rfl, .inl (yC.of gl2),((U6.length:Nat):Int),rfl,by omega,by omega,?_⟩
  rw[toNat_natCast,P5]
  refine b7 (n:=st.lanes.length) (fun i σ H2=>∃ a2 a3:Option V,(∃ vs,y8 H H2/\H2 Fd=some (.lst vs)/\Paired (Ar H2) vs ((((List.range st.U.length).flatMap (gf a st) ++ (List.range st.lanes.length).flatMap (gQ a st)) ++ (List.range i).flatMap (dS a st)).map dU))/\σ=[some (.ref a.y),some (.ref Fd),a2,a3]) ?_ ?_ ?_
  ·exact⟨_,_,⟨Gj,U5,g2',by simpa using p2'⟩,rfl⟩
  ·rintro i σ H2 hi ⟨a2,a3,⟨vs,s2,g2,p2⟩,rfl⟩
   rw[zero_add]
   have AE:=hI.same W s2
   refine⟨_,rfl, .inl ⟨rfl,_,yC.of g2⟩,_,rfl,a.y,a.dy,_,rfl,AE.Y.ins,rfl,_,rfl,a,st,i,rfl,AE,hi,fun D za H3 s3 hD gD hp=>?_⟩
   have l1:vs.length <= 1000000:=by
    rw[Paired.length p2,length_map]
    have h0:=bq (dq hI.O hI.G) st.U.length
    have h1:=bq (dj (s:=st) hI.O) st.lanes.length
    have h2:=bq (cC a st) st.lanes.length
    have hh:=bq (cC a st) i
    try simp only[length_append]
    omega
   have l2:za.length <= 1000:=by rw[Paired.length hp,length_map];exact(cC a st) i
   obtain⟨q1,q2,q3⟩:=iB HB s2 g2 p2 s3 hp
   refine⟨Fd,D,vs,za,rfl,rfl,s3 _ _ g2,gD,by rw[sizeLine_eq];omega,?_⟩
   refine⟨_,_,⟨vs ++ za,q1,q2,?_⟩,rfl⟩
   rw[dA]
   rw[← append_assoc];exact q3
  rintro σ2 H3 ⟨a22,a32,P6,rfl⟩
  obtain⟨vs3,U7,g3',p3'⟩:=P6
  have Aw:=(hI.same W U7).Y
  obtain⟨U8,DQ,pl3⟩:=Aw.hla
  have P7:U8.length=st.lanes.length:=Paired.length pl3
  refine⟨_,rfl,a.y,ys.yB,a.dy,_,_,rfl,Aw.ins,Y.cl,Y.n3,rfl,a.la,_,rfl, .inl (yC.of DQ),((U8.length:Nat):Int),rfl,by omega,by omega,?_⟩
  rw[toNat_natCast,P7]
  refine b7 (n:=st.lanes.length) (fun i σ H2=>∃ a2 a3:Option V,(∃ vs,y8 H H2/\H2 Fd=some (.lst vs)/\Paired (Ar H2) vs ((((List.range st.U.length).flatMap (gf a st) ++ (List.range st.lanes.length).flatMap (gQ a st) ++ (List.range st.lanes.length).flatMap (dS a st)) ++ (List.range i).flatMap (cM st)).map dU))/\σ=[some (.ref a.y),some (.ref Fd),a2,a3]) ?_ ?_ ?_
  ·exact⟨_,_,⟨vs3,U7,g3',by simpa using p3'⟩,rfl⟩
  ·rintro i σ H2 hi ⟨a2,a3,⟨vs,s2,g2,p2⟩,rfl⟩
   rw[zero_add]
   have AE:=hI.same W s2
   refine⟨_,rfl, .inl ⟨rfl,_,yC.of g2⟩,_,rfl,a.y,a.dy,_,rfl,AE.Y.ins,rfl,_,rfl,a,st,i,rfl,AE,hi,fun D za H3 s3 hD gD hp=>?_⟩
   have l1:vs.length <= 1000000:=by
    rw[Paired.length p2,length_map]
    have h0:=bq (dq hI.O hI.G) st.U.length
    have h1:=bq (dj (s:=st) hI.O) st.lanes.length
    have h2:=bq (cC a st) st.lanes.length
    have hh:=bq (iV st) i
    try simp only[length_append]
    omega
   have l2:za.length <= 1000:=by rw[Paired.length hp,length_map];exact(iV st) i
   obtain⟨q1,q2,q3⟩:=iB HB s2 g2 p2 s3 hp
   refine⟨Fd,D,vs,za,rfl,rfl,s3 _ _ g2,gD,by rw[sizeLine_eq];omega,?_⟩
   refine⟨_,_,⟨vs ++ za,q1,q2,?_⟩,rfl⟩
   rw[dA]
   rw[← append_assoc];exact q3
  rintro σ3 H4 ⟨a23,a33,P8,rfl⟩
  obtain⟨vs,s2,g2,p2⟩:=P8
  exact⟨_,rfl,q Fd vs _ s2 HB g2 p2⟩
structure Ki (K:Frag):Prop where
 ss:kitOne K (.type "str") (.type "str")=some true
 ns:kitOne K (.type "int") (.type "str")=some false
 tt:kitOne K (.type "tuple") (.type "tuple")=some true
theorem ir {a b:Str}(h:a ≠ b):decide (V.str a=V.str b)=false:=decide_eq_false fun z=>h (by injection z)
theorem iM (a:Str):decide (V.str a=V.str a)=true:=decide_eq_true rfl
noncomputable def re:Sp:=fun vs H Q _=>∃ (p:Addr)(xs:List V),vs=[.ref p]/\H p=some (.tup xs)/\xs.length <= 100/\(∀ x ∈ xs,(∃ t,x = .str t)∨∃ i,x = .int i)/\∀ H',y8 H H'->Q (.bl true) H'
noncomputable def vG (s:Stmt):Scope:=match s with
 | .Return (some (.BoolOp _ [_, .Call _ [.ListComp _ _ sc _] _ _] _)) _=>sc
 | _=>zQ0
theorem lC (m:Mv):(dU m).length <= 100/\∀ x ∈ dU m,(∃ t,x=V.str t)∨∃ i,x=V.int i:=by
 cases m<;>refine⟨by simp[dU],fun x hx=>?_⟩<;>simp only[dU,mem_cons,not_mem_nil,or_false]at hx
 ·rcases hx with rfl | rfl | rfl
  ·exact .inl ⟨_,rfl⟩
  ·exact .inr ⟨_,rfl⟩
  ·exact .inr ⟨_,rfl⟩
 ·rcases hx with rfl | rfl | rfl
  ·exact .inl ⟨_,rfl⟩
  ·exact .inr ⟨_,rfl⟩
  ·exact .inr ⟨_,rfl⟩
 ·rcases hx with rfl | rfl
  ·exact .inl ⟨_,rfl⟩
  ·exact .inr ⟨_,rfl⟩
 ·rcases hx with rfl | rfl
  ·exact .inl ⟨_,rfl⟩
  ·exact .inr ⟨_,rfl⟩
noncomputable def pe (a:YA)(s:YS):Mv->List Mv
 | .Ab k _=>gf a s k
 | .on k _=>gQ a s k
 | .zZ k=>dS a s k
 | .back k=>cM s k
noncomputable def wm (s:YS):Mv->Prop
 | .Ab k _=>k < s.U.length
 | .on k _=>k < s.lanes.length
 | .zZ k=>k < s.lanes.length
 | .back k=>k < s.lanes.length
noncomputable def rc (K:Frag)(c:Cs)(TC:Addr)(J:TJ)(ys:Ys):Sp:=fun vs H Q _=>∃ (a:YA)(s:YS)(p:Addr)(m:Mv),vs=[.ref a.y, .ref p]/\D1 K c TC J ys H a s/\H p=some (.tup (dU m))/\wm s m /\
 ∀ (D:Addr)(za:List V)(H':Hp),y8 H H'->H D=none->H' D=some (.lst za)->Paired (Ar H') za ((pe a s m).map dU)->Q (.ref D) H'
theorem P9:ap ["move"] ["move"] (ah ll):=L2.ze
theorem PB:zF ["move"] (ah ll) (vG ((aF ll).getD 0 (.Pass ⟨0,0,0,0⟩))) [] []:=L2.Ah
theorem PD:(["thing"]:List Str).Nodup:=by decide +kernel
theorem vd {f fh:Addr}{fd dh:FuncData}(F:yY K "is_move" "is_move" ll f fd)(T:dP mg)(Z:Ki K)(mh:mg "is_whole" = some (.ref fh))(kh:keepIn K (.ref fh)=true)(bh:Binds K dh ["value"] [])(G:y9 P w K mg base aC 1 fh dh ["value"] fR) :
  y9 P w K mg base aC 2 f fd ["move"] re:=by
 refine F.ok P9 (fun _ _ _ _ h=>?_) (fun _ _ _ s H _ Q E hr h=>?_)
 ·obtain⟨p,xs,rfl,_⟩:=h
  rfl
 ·obtain⟨p,xs,rfl,hp,hl,hx,q⟩:=h
  refine⟨_,ag (ar (cT (aw gr rfl T.Hq PyProof.Rows.boot_isinstance (aa (pv 0) (aa (eQ (v := .ty "tuple") rfl T.tuple PySem.Pv.boot_tuple rfl) ac)))
   (cS (aw (gs rfl) rfl T.all PyProof.Rows.boot_all (aa (aQ (own:=["thing"]) (capN:=[]) (cap:=[]) PB rfl (iR (pv 0)) (fun C s' H' fp=>⟨av (i:=0) PD rfl (Or.inl rfl),b9,
    HX (aw (show c6 _ (.builtin "isinstance") (IS K) from gr) rfl T.Hq PyProof.Rows.boot_isinstance (aa (pv 0) (aa (eQ (v := .ty "str") rfl T.str PySem.Pv.boot_str rfl) ac))) (cS (au G hr rfl mh kh bh .nil ao (aa (pv 0) ac)))⟩)) ac))))),?_⟩
  refine⟨_,rfl, .ref p,_, "tuple",true,rfl, .tup hp,Z.tt,true,rfl,aK ⟨_,rfl,p,rfl,⟨_,yN.of hp⟩,?_⟩⟩
  refine bu xs.length (by rw[sizeLine_eq];omega) (fun i acc H'=>H' = H/\acc=(List.replicate i true).map V.bl) ⟨rfl,rfl⟩ (fun i acc H' h=>by rw[h.2];simp) (fun i acc H' hi h=>?_) (fun acc H' h=>?_)
  ·obtain⟨rfl,rfl⟩:=h
   refine⟨⟨xs,xs[i],yN.of hp,getElem?_eq_getElem hi⟩,fun v H2 y=>?_⟩
   obtain⟨rfl,y⟩:=y
   have hv:=y xs (yN.of hp)
   have e:(List.replicate i true).map V.bl ++ [V.bl true]=(List.replicate (i + 1) true).map V.bl:=by rw[replicate_succ',map_append];rfl
   rcases hx v (mem_of_getElem? hv) with ⟨t,rfl⟩ | ⟨z,rfl⟩
   ·exact⟨_,rfl, .str t,_, "str",true,rfl, .str t,Z.ss,true,rfl,aK ⟨rfl,e⟩⟩
   ·exact⟨_,rfl, .int z,_, "str",false,rfl, .int z,Z.ns,false,rfl,aH ⟨_,rfl, .int z,rfl, .int z,rfl,e⟩⟩
  ·obtain⟨rfl,rfl⟩:=h
   refine⟨⟨xs,yN.of hp,Nat.le_refl _⟩,fun D hD=>⟨D,List.replicate xs.length true,rfl,yC.of ad,?_⟩⟩
   have e:(List.replicate xs.length true).all id=true:=by rw[all_eq_true];intro b hb;rw[eq_of_mem_replicate hb];rfl
   rw[e]
   exact q _ ((y8.refl H').new hD)
theorem PF:ap ["self", "move"] ["self", "move"] (ah rF):=L2.ze
theorem vb {c:Cs}{ys:Ys}{J:TJ}{TC f fw fi fo fl fb fm fn:Addr}{fd dw di AW dl db dm dn:FuncData}(F:yY K "moves_like" "Yard.moves_like" rF f fd)(T:dP mg)(Y:gE K ys)(W:Wy K TC fw dw J)(M:Px P w K mg base c TC J ys fi fo fl fb di AW dl db)
  (mm:mg "is_move" = some (.ref fm)) (km:keepIn K (.ref fm)=true) (bm:Binds K dm ["move"] []) (Gm:y9 P w K mg base aC 2 fm dm ["move"] re)
  (mn:mg "is_within" = some (.ref fn)) (kn:keepIn K (.ref fn)=true) (bn:Binds K dn ["value", "least", "most"] []) (Gn:y9 P w K mg base aC 2 fn dn ["value", "least", "most"] eO) :
  y9 P w K mg base aC 7 f fd ["self", "move"] (rc K c TC J ys):=by
 refine F.ok PF (fun _ _ _ _ h=>?_) (fun _ _ _ s H _ Q E hr h=>?_)
 ·obtain⟨a,s,p,m,rfl,_⟩:=h
  rfl
 ·obtain⟨a,st,p,m,rfl,hI,hp,yL,q⟩:=h
  have zp:yK 1 _:=hr.mono (by decide)
  have zT:yK 2 _:=hr.mono (by decide)
  have BU:yK 4 _:=hr.mono (by decide)
  refine⟨_,ae (aL (jS (PW.pt (eu (bF (bA (au Gm zT rfl mm km bm .nil ao (aa (pv 1) ac)))) (cG (ax l7 (aw aq rfl T.len PySem.boot_len (aa (pv 1) ac)) aj (aA _)))))) (ag (ar (aR ac))) aB)
   (ae (aL (ax bK (az yE (pv 1) aj (fun _ _=>rfl)) bW (aA _))
    (ag (ar (cK (bA (au Gn zT rfl mn kn bn .nil ao (aa (az yE (pv 1) aj (fun _ _=>rfl)) (aa aj (aa (aD dH (aw aq rfl T.len PySem.boot_len (aa (am (pv 0) rfl) ac)) aj) ac)))))
     (aG (pv 0) Y.cl M.mi M.Gi BU M.bi .nil ao (aa (az yE (pv 1) aj (fun _ _=>rfl)) ac)) (aR ac)))) aB)
   (ae (aL (bF (bA (au Gn zT rfl mn kn bn .nil ao (aa (az yE (pv 1) aj (fun _ _=>rfl)) (aa aj (aa (aD dH (aw aq rfl T.len PySem.boot_len (aa (am (pv 0) rfl) ac)) aj) ac)))))) (ag (ar (aR ac))) aB)
   (ae (aL (ax bK (az yE (pv 1) aj (fun _ _=>rfl)) bW (aA _)) (ag (ar (aG (pv 0) Y.cl M.mo M.Go hr M.bo .nil ao (aa (az yE (pv 1) aj (fun _ _=>rfl)) ac)))) aB)
   (ae (aL (ax bK (az yE (pv 1) aj (fun _ _=>rfl)) bW (aA _)) (ag (ar (aG (pv 0) Y.cl M.ml M.Gl zT M.bl .nil ao (aa (az yE (pv 1) aj (fun _ _=>rfl)) ac)))) aB)
   (ag (ar (cK (ax bK (az yE (pv 1) aj (fun _ _=>rfl)) bW (aA _)) (aG (pv 0) Y.cl M.mb M.Gb zp M.bb .nil ao (aa (az yE (pv 1) aj (fun _ _=>rfl)) ac)) (aR ac)))))))),?_⟩
  refine⟨fun b H1=>b=false/\y8 H H1,?_,?_⟩
  ·refine⟨_,rfl,p,dU m,rfl,hp,(lC m).1,(lC m).2,fun H1 s1=>⟨_,rfl,aH ?_⟩⟩
   refine⟨_,rfl,p,_,rfl, .inr (yN.of (s1 _ _ hp)),_,_,rfl,rfl,_,rfl,?_,s1⟩
   cases m<;>rfl
  rintro b H1 ⟨rfl,s1⟩
  refine aH ?_
  have CA:=hI.same W s1
  have zf:=s1 _ _ hp
  have q1:∀ (D:Addr)(za:List V)(H':Hp),y8 H1 H'->H1 D=none->H' D=some (.lst za)->Paired (Ar H') za ((pe a st m).map dU)->Q (.ref D) H':=fun D za H' s' hD g' AM=>q D za H' (s1.trans s') (s1.free hD) g' AM
  have hY:=CA.Y
  obtain⟨yO,zR,ple⟩:=hY.hle
  have hle:yO.length=st.U.length:=Paired.length ple
  obtain⟨yM,zw,CJ⟩:=hY.hla
  have hla:yM.length=st.lanes.length:=Paired.length CJ
  clear s1 q hp hI
  have inl:∀ k:Nat,k < st.lanes.length->ju (.int k) 0 (((yM.length:Nat):Int) - 1)=true:=fun k hk=>decide_eq_true (by omega)
  cases m with
  | Ab k l =>
   have zf:H1 p=some (.tup [.str "in", .int k, .int l]):=zf
   have yL:k < st.U.length:=yL
   refine⟨_,rfl,p,_,0,_,rfl,rfl,yN.of zf,ak (j:=0) rfl,rfl,_,rfl,?_⟩
   rw[iM]
   refine aK ⟨_,rfl,p,_,1,_,rfl,rfl,yN.of zf,ak (j:=1) rfl,_,rfl,a.y,ys.yB,a.dy,_,_,rfl,hY.ins,Y.cl,Y.n4,rfl,a.le,_,rfl, .inl (yC.of zR),_,_,rfl,rfl, .int k,0,((yO.length:Nat):Int) - 1,rfl, .int _,_,rfl,?_⟩
   rw[show ju (.int k) 0 (((yO.length:Nat):Int) - 1)=true from decide_eq_true (by omega)]
   exact aK ⟨_,rfl,a.y,a.dy,_,rfl,hY.ins,rfl,_,rfl,p,_,1,_,rfl,rfl,yN.of zf,ak (j:=1) rfl,a,st,k,rfl,CA,yL,fun D za H' s' hD g' AM=>q1 D za H' s' hD g' AM⟩
  | on k l =>
   have zf:H1 p=some (.tup [.str "on", .int k, .int l]):=zf
   have yL:k < st.lanes.length:=yL
   refine⟨_,rfl,p,_,0,_,rfl,rfl,yN.of zf,ak (j:=0) rfl,rfl,_,rfl,?_⟩
   rw[ir (by decide +kernel)]
   refine aH ⟨_,rfl,p,_,1,_,rfl,rfl,yN.of zf,ak (j:=1) rfl,_,rfl,a.y,ys.yB,a.dy,_,_,rfl,hY.ins,Y.cl,Y.n3,rfl,a.la,_,rfl, .inl (yC.of zw),_,_,rfl,rfl, .int k,0,((yM.length:Nat):Int) - 1,rfl, .int _,_,rfl,?_⟩
   rw[inl k yL]
   refine aH ⟨_,rfl,p,_,0,_,rfl,rfl,yN.of zf,ak (j:=0) rfl,rfl,_,rfl,?_⟩
   rw[iM]
   exact aK ⟨_,rfl,a.y,a.dy,_,rfl,hY.ins,rfl,_,rfl,p,_,1,_,rfl,rfl,yN.of zf,ak (j:=1) rfl,a,st,k,rfl,CA,yL,fun D za H' s' hD g' AM=>q1 D za H' s' hD g' AM⟩
  | zZ k =>
   have zf:H1 p=some (.tup [.str "lie", .int k]):=zf
   have yL:k < st.lanes.length:=yL
   refine⟨_,rfl,p,_,0,_,rfl,rfl,yN.of zf,ak (j:=0) rfl,rfl,_,rfl,?_⟩
   rw[ir (by decide +kernel)]
   refine aH ⟨_,rfl,p,_,1,_,rfl,rfl,yN.of zf,ak (j:=1) rfl,_,rfl,a.y,ys.yB,a.dy,_,_,rfl,hY.ins,Y.cl,Y.n3,rfl,a.la,_,rfl, .inl (yC.of zw),_,_,rfl,rfl, .int k,0,((yM.length:Nat):Int) - 1,rfl, .int _,_,rfl,?_⟩
   rw[inl k yL]
   refine aH ⟨_,rfl,p,_,0,_,rfl,rfl,yN.of zf,ak (j:=0) rfl,rfl,_,rfl,?_⟩
   rw[ir (by decide +kernel)]
   refine aH ⟨_,rfl,p,_,0,_,rfl,rfl,yN.of zf,ak (j:=0) rfl,rfl,_,rfl,?_⟩
   rw[iM]
   exact aK ⟨_,rfl,a.y,a.dy,_,rfl,hY.ins,rfl,_,rfl,p,_,1,_,rfl,rfl,yN.of zf,ak (j:=1) rfl,a,st,k,rfl,CA,yL,fun D za H' s' hD g' AM=>q1 D za H' s' hD g' AM⟩
  | back k =>
   have zf:H1 p=some (.tup [.str "back", .int k]):=zf
   have yL:k < st.lanes.length:=yL
   refine⟨_,rfl,p,_,0,_,rfl,rfl,yN.of zf,ak (j:=0) rfl,rfl,_,rfl,?_⟩
   rw[ir (by decide +kernel)]
   refine aH ⟨_,rfl,p,_,1,_,rfl,rfl,yN.of zf,ak (j:=1) rfl,_,rfl,a.y,ys.yB,a.dy,_,_,rfl,hY.ins,Y.cl,Y.n3,rfl,a.la,_,rfl, .inl (yC.of zw),_,_,rfl,rfl, .int k,0,((yM.length:Nat):Int) - 1,rfl, .int _,_,rfl,?_⟩
   rw[inl k yL]
   refine aH ⟨_,rfl,p,_,0,_,rfl,rfl,yN.of zf,ak (j:=0) rfl,rfl,_,rfl,?_⟩
   rw[ir (by decide +kernel)]
   refine aH ⟨_,rfl,p,_,0,_,rfl,rfl,yN.of zf,ak (j:=0) rfl,rfl,_,rfl,?_⟩
   rw[ir (by decide +kernel)]
   refine aH ⟨_,rfl,p,_,0,_,rfl,rfl,yN.of zf,ak (j:=0) rfl,rfl,_,rfl,?_⟩
   rw[iM]
   exact aK ⟨_,rfl,a.y,a.dy,_,rfl,hY.ins,rfl,_,rfl,p,_,1,_,rfl,rfl,yN.of zf,ak (j:=1) rfl,a,st,k,rfl,CA,yL,fun D za H' s' hD g' AM=>q1 D za H' s' hD g' AM⟩
noncomputable def bU (ln:bC):bC:={ ln with b:=ln.b + 1,qs:=ln.qs.tail }
noncomputable def lH (ln:bC):bC:={ ln with r:=ln.r + 1,b:=ln.b - 1 }
inductive AF (a:YA)(s:YS):Mv->YS->Prop
 | Ab {k l:Nat} {t:aS} {ln:bC} (ht:s.U[k]? = some t) (hg:t.gone ≠ t.len) (hl:l ∈ bS a t) (yX:s.lanes[l]? = some ln) (ho:bT ln.r ln.h k t.gone=true) :
  AF a s (.Ab k l) (cb (bV s k t) k t.gone l { t with gone:=t.gone + 1 } ln)
 | on {k l m:Nat} {c:Int} {lk ln:bC} {t:aS} (hk:s.lanes[k]? = some lk) (hq:lk.qs.head? = some ((m:Int),c)) (ht:s.U[m]? = some t) (hl:l ∈ bO a s k) (yX:(s.lanes.set k (bU lk))[l]? = some ln) (ho:bT ln.r ln.h m c=true) :
  AF a s (.on k l) (cb { s with lanes:=s.lanes.set k (bU lk) } m c l t ln)
 | zZ {k m e:Nat} {c:Int} {lk:bC} {t:aS} {qs:List (Int × Int)} (hk:s.lanes[k]? = some lk) (hq:lk.qs.head? = some ((m:Int),c)) (ht:s.U[m]? = some t) (hg:t.goal=(e:Int)) (he:(a.ps.getD k (0,0)).2=(e:Int)) (AK:s.lies[e]? = some qs) :
  AF a s (.zZ k) { s with lanes:=s.lanes.set k (bU lk),lies:=s.lies.set e (qs ++ [((m:Int),c)]) }
 | back {k:Nat} {lk:bC} (hk:s.lanes[k]? = some lk) (hb:0 < lk.b):AF a s (.back k) { s with lanes:=s.lanes.set k (lH lk) }
theorem AF.done {a:YA}{s s':YS}{m:Mv}(h:AF a s m s'):s'.done=s.done:=by
 cases h<;>rfl
structure U9 (s:YS):Prop where
 q:∀ (k:Nat)(ln:bC),s.lanes[k]? = some ln->ln.qs.length <= 10000
 l:∀ (p:Nat)(qs:List (Int × Int)),s.lies[p]? = some qs->qs.length <= 10000
 d:s.done.length <= 100000
theorem iT {s:YS}{l:Nat}{m c:Int}(h:c5 s l m c=true):∃ ln,s.lanes[l]? = some ln/\bT ln.r ln.h m c=true:=by
 unfold c5 at h
 cases hl:s.lanes[l]? with
 | none=>rw[hl]at h;cases h
 | some ln=>rw[hl]at h;exact⟨ln,rfl,h⟩
theorem sV {a:YA}{s:YS}{k:Nat}{m:Mv}(h:m ∈ gf a s k):∃ l t ln,m = .Ab k l/\s.U[k]? = some t/\t.gone ≠ t.len/\l ∈ bS a t/\s.lanes[l]? = some ln/\bT ln.r ln.h k t.gone=true:=by
 unfold gf at h
 cases ht:s.U[k]? with
 | none=>rw[ht]at h;cases h
 | some t =>
  rw[ht]at h
  dsimp only at h
  by_cases hg:t.gone=t.len
  ·rw[if_pos hg]at h;cases h
  rw[if_neg hg]at h
  obtain⟨l,hl,rfl⟩:=mem_map.mp h
  obtain⟨h1,h2⟩:=mem_filter.mp hl
  obtain⟨ln,h3,h4⟩:=iT h2
  exact⟨l,t,ln,rfl,rfl,hg,h1,h3,h4⟩
theorem sS {a:YA}{s:YS}{k:Nat}{m:Mv}(h:m ∈ gQ a s k):∃ l q lk ln,m = .on k l/\s.lanes[k]? = some lk/\lk.qs.head? = some q/\l ∈ bO a s k/\s.lanes[l]? = some ln/\bT ln.r ln.h q.1 q.2=true:=by
 unfold gQ at h
 cases hq:aT s k with
 | none=>rw[hq]at h;cases h
 | some q =>
  rw[hq]at h
  dsimp only at h
  obtain⟨l,hl,rfl⟩:=mem_map.mp h
  obtain⟨h1,h2⟩:=mem_filter.mp hl
  obtain⟨ln,h3,h4⟩:=iT h2
  unfold aT at hq
  cases hk:s.lanes[k]? with
  | none=>rw[hk]at hq;cases hq
  | some lk=>rw[hk]at hq;exact⟨l,q,lk,ln,rfl,rfl,hq,h1,h3,h4⟩
theorem oZ {a:YA}{s:YS}{k:Nat}{m:Mv}(h:m ∈ dS a s k):∃ q lk t,m = .zZ k/\s.lanes[k]? = some lk/\lk.qs.head? = some q/\s.U[q.1.toNat]? = some t/\t.goal=(a.ps.getD k (0,0)).2:=by
 unfold dS at h
 cases hq:aT s k with
 | none=>rw[hq]at h;cases h
 | some q =>
  rw[hq]at h
  dsimp only at h
  cases ht:s.U[q.1.toNat]? with
  | none=>rw[ht]at h;cases h
  | some t =>
   rw[ht]at h
   dsimp only at h
   by_cases hg:t.goal=(a.ps.getD k (0,0)).2
   ·rw[if_pos hg]at h
    have hm:m = .zZ k:=by simpa using h
    unfold aT at hq
    cases hk:s.lanes[k]? with
    | none=>rw[hk]at hq;cases hq
    | some lk=>rw[hk]at hq;exact⟨q,lk,t,hm,rfl,hq,ht,hg⟩
   ·rw[if_neg hg]at h;cases h
theorem lF {s:YS}{k:Nat}{m:Mv}(h:m ∈ cM s k):∃ lk,m = .back k/\s.lanes[k]? = some lk/\0 < lk.b:=by
 unfold cM at h
 cases hk:s.lanes[k]? with
 | none=>rw[hk]at h;cases h
 | some lk =>
  rw[hk]at h
  dsimp only at h
  by_cases hb:0 < lk.b
  ·rw[if_pos hb]at h;exact⟨lk,by simpa using h,rfl,hb⟩
  ·rw[if_neg hb]at h;cases h
theorem qa {a:YA}{s:YS}{m:Mv}(h:m ∈ bX a s):wm s m/\m ∈ pe a s m:=by
 unfold bX at h
 rw[mem_append,mem_append,mem_append]at h
 rcases h with ((h | h) | h) | h
 ·obtain⟨k,hk,h⟩:=mem_flatMap.mp h
  obtain⟨l,t,ln,rfl,_⟩:=sV h
  exact⟨mem_range.mp hk,h⟩
 ·obtain⟨k,hk,h⟩:=mem_flatMap.mp h
  obtain⟨l,q,lk,ln,rfl,_⟩:=sS h
  exact⟨mem_range.mp hk,h⟩
 ·obtain⟨k,hk,h⟩:=mem_flatMap.mp h
  obtain⟨q,lk,t,rfl,_⟩:=oZ h
  exact⟨mem_range.mp hk,h⟩
 ·obtain⟨k,hk,h⟩:=mem_flatMap.mp h
  obtain⟨lk,rfl,_⟩:=lF h
  exact⟨mem_range.mp hk,h⟩
noncomputable def uc:Mv->PyData
 | .Ab k l => .tuple [.str "in", .int k, .int l]
 | .on k l => .tuple [.str "on", .int k, .int l]
 | .zZ k => .tuple [.str "lie", .int k]
 | .back k => .tuple [.str "back", .int k]
theorem i5 {x:Str}(h:PyData.strOk x=true):AN (.str x) 0:=⟨by simp[PyData.canLay0,h],by simp[PyData.depth]⟩
theorem jL (m:Mv):AN (uc m) 1:=by
 cases m<;>refine gH (m:=0) fun y hy=>?_<;>simp only[mem_cons,not_mem_nil,or_false]at hy
 ·rcases hy with rfl | rfl | rfl
  ·exact i5 (by decide +kernel)
  ·exact c7 _
  ·exact c7 _
 ·rcases hy with rfl | rfl | rfl
  ·exact i5 (by decide +kernel)
  ·exact c7 _
  ·exact c7 _
 ·rcases hy with rfl | rfl
  ·exact i5 (by decide +kernel)
  ·exact c7 _
 ·rcases hy with rfl | rfl
  ·exact i5 (by decide +kernel)
  ·exact c7 _
theorem tL {K:Frag}{H:Hp}{p:Addr}(m:Mv)(h:H p=some (.tup (dU m))):kL K H (.ref p) (uc m):=by
 cases m<;>refine .tup (yN.of h) ?_
 ·exact .cons (.str _) (.cons (.int _) (.cons (.int _) .nil))
 ·exact .cons (.str _) (.cons (.int _) (.cons (.int _) .nil))
 ·exact .cons (.str _) (.cons (.int _) .nil)
 ·exact .cons (.str _) (.cons (.int _) .nil)
theorem kF {K:Frag}{H:Hp}:∀ {vs:List V}{ms:List Mv},Paired (Ar H) vs (ms.map dU)->jh K H vs (ms.map uc)
 | [],[],_ => .nil
 | _ :: _,m :: ms, .cons ⟨t,e,h⟩ r=>by subst e;exact .cons (tL m h) (kF r)
 | [],_ :: _,h=>by cases h
 | _ :: _,[],h=>by cases h
theorem yu {m:Mv}{ms:List Mv}(h:m ∈ ms):((ms.map uc).any fun y=>PyData.eqv y (uc m))=true:=by
 rw[any_eq_true]
 exact⟨uc m,mem_map.mpr ⟨m,h,rfl⟩,SeqAt.eqv_refl _ (jL m).1⟩
noncomputable def wG (K:Frag)(c:Cs)(TC:Addr)(J:TJ)(ys:Ys):Sp:=fun vs H Q _=>∃ (a:YA)(s:YS)(p:Addr)(m:Mv),vs=[.ref a.y, .ref p]/\D1 K c TC J ys H a s/\H p=some (.tup (dU m))/\m ∈ bX a s/\U9 s /\
 ∀ (H':Hp)(s':YS),AF a s m s'->yI a.four H H'->zx K ys H' a { s' with done:=s.done ++ [dU m] }->Q .yQ H'
structure UA (P:Program)(w:World)(K:Frag)(mg:Str->Option Value)(base:Heap)(c:Cs)(TC:Addr)(J:TJ)(ys:Ys)(fk fg fe fp fb fy:Addr)(dk dg de dp db dy:FuncData):Prop where
 mk':bM K ys.yB "moves_like" fk
 bk:Binds K dk ["self", "move"] []
 Gk:y9 P w K mg base aC 7 fk dk ["self", "move"] (rc K c TC J ys)
 M1:bM K ys.yB "go_in" fg
 bg:Binds K dg ["self", "number", "lane"] []
 Gg:y9 P w K mg base aC 6 fg dg ["self", "number", "lane"] (rk K ys)
 me:bM K ys.yB "enter" fe
 be:Binds K de ["self", "piece", "lane"] []
 Ge:y9 P w K mg base aC 5 fe de ["self", "piece", "lane"] (jJ K ys)
 mp:bM K ys.yW "pull" fp
 bp:Binds K dp ["self"] []
 Gp:y9 P w K mg base aC 1 fp dp ["self"] (mR ys.yW)
 mb:bM K ys.yW "bring" fb
 bb:Binds K db ["self"] []
 Gb:y9 P w K mg base aC 1 fb db ["self"] (oO ys.yW)
 my:bM K ys.yB "lay" fy
 Et:Binds K dy ["self", "piece", "place"] []
 Gy:y9 P w K mg base aC 1 fy dy ["self", "piece", "place"] (wb K ys)
theorem PH:ap ["self", "move"] ["self", "move"] (ah OG):=L2.ze
theorem Kj {c:Cs}{ys:Ys}{J:TJ}{TC f fw fl ft fpu fk fg fe fp fb fy UB:Addr}{fd dw dl dt dpu dk dg de dp db dy den:FuncData}(F:yY K "do" "Yard.do" OG f fd)(Y:gE K ys)(L:mG K c)(W:Wy K TC fw dw J)(O:Own P w K mg base ys fl ft fpu dl dt dpu)
  (D:UA P w K mg base c TC J ys fk fg fe fp fb fy dk dg de dp db dy) (Me:ua K c UB den) (Gen:y9 P w K mg base aC 1 UB den ["self", "lane"] (rm c Prod.snd)) :
  y9 P w K mg base aC 8 f fd ["self", "move"] (wG K c TC J ys):=by
 refine F.ok PH (fun _ _ _ _ h=>?_) (fun _ _ _ s H _ Q E hr h=>?_)
 ·obtain⟨a,s,p,m,rfl,_⟩:=h
  rfl
 ·obtain⟨a,st,p,m,rfl,hI,hp,hm,hS,q⟩:=h
  have hu:=hr.units
  have zp:yK 1 _:=hr.mono (by decide)
  have BU:yK 4 _:=hr.mono (by decide)
  have Fl:yK 5 _:=hr.mono (by decide)
  have PJ:yK 6 _:=hr.mono (by decide)
  refine⟨_,ae (aL (ax (pO hu) (pv 1) (aG (pv 0) Y.cl D.mk' D.Gk hr D.bk .nil ao (aa (pv 1) ac)) (by with_unfolding_all rfl)) (ag bJ) aB)
   (ae (oR (aL (ax bK (az yE (pv 1) aj (fun _ _=>rfl)) bW (aA _))
    (ag (aO (aG (pv 0) Y.cl D.M1 D.Gg PJ D.bg .nil ao (aa (az yE (pv 1) aj (fun _ _=>rfl)) (aa (az yE (pv 1) aj (fun _ _=>rfl)) ac)))))
    (ag (aL (ax bK (az yE (pv 1) aj (fun _ _=>rfl)) bW (aA _))
     (ag (aO (aG (pv 0) Y.cl D.me D.Ge Fl D.be .nil ao (aa (bD (aG (pv 0) Y.cl O.ml O.Gl BU O.bl .nil ao (aa (az yE (pv 1) aj (fun _ _=>rfl)) ac)) Y.L.cl D.mp D.Gp zp D.bp .nil ao) (aa (az yE (pv 1) aj (fun _ _=>rfl)) ac)))))
     (ag (aL (ax bK (az yE (pv 1) aj (fun _ _=>rfl)) bW (aA _))
      (ag (aO (aG (pv 0) Y.cl D.my D.Gy zp D.Et .nil ao (aa (bD (aG (pv 0) Y.cl O.ml O.Gl BU O.bl .nil ao (aa (az yE (pv 1) aj (fun _ _=>rfl)) ac)) Y.L.cl D.mp D.Gp zp D.bp .nil ao) (aa (aG (am (am (pv 0) rfl) rfl) L.cl Me.m Gen zp Me.b .nil ao (aa (az yE (pv 1) aj (fun _ _=>rfl)) ac)) ac)))))
      (ag (aO (bD (aG (pv 0) Y.cl O.ml O.Gl BU O.bl .nil ao (aa (az yE (pv 1) aj (fun _ _=>rfl)) ac)) Y.L.cl D.mb D.Gb zp D.bb .nil ao)))))))))
   (ag (aO (cz plainAttrs_list PySem.F.slot_list_append PySem.F.type_list_append bQ (am (pv 0) rfl) (aa (pv 1) ac))))),?_⟩
  obtain⟨yL,Kk⟩:=qa hm
  refine⟨_,rfl,_,rfl,a.y,a.dy,_,rfl,hI.Y.ins,rfl,_,rfl,a,st,p,m,rfl,hI,hp,yL,fun Dl za H1 s1 hDl gDl hpr=>?_⟩
  refine⟨Dl,za,uc m,(pe a st m).map uc,rfl,tL m (s1 _ _ hp),yC.of gDl,kF hpr,(jL m).le (by decide),fun z hz=>by obtain⟨m',_,rfl⟩:=mem_map.mp hz;exact(jL m').le (by decide),_,rfl,?_⟩
  rw[yu Kk]
  refine aH ?_
  have CA:=hI.same W s1
  have zf:=s1 _ _ hp
  have hY:=CA.Y
  refine⟨fun σ' H'=>σ' = start ["self", "move"] [.ref a.y, .ref p]/\∃ s',AF a st m s'/\yI a.four H1 H'/\zx K ys H' a s',?_,?_⟩
  ·
   have D5:∀ (k:Nat)(lk:bC)(pq:Int × Int),st.lanes[k]? = some lk->lk.qs.head? = some pq->∀ (yM:List V),H1 a.la=some (.lst yM)->∀ (x dx pa:Addr)(yS:List V)(H2:Hp),yI [a.la] H1 H2->H1 x=none->H1 pa=none->H2 a.la=some (.lst (yM.set k (.ref x)))->yV H2 ys.yW x dx pa lk.r lk.b lk.h yS lk.qs ->
     ∀ (Q':VK)(E':XK),(∀ (v:V)(H3:Hp),vM H3 v pq->yI [a.la] H1 H3->zx K ys H3 a { st with lanes:=st.lanes.set k (bU lk) }->Q' v H3)->mR ys.yW [.ref x] H2 Q' E':=by
    intro k lk pq hk hq yM zw x dx pa yS H2 o2 nx np g2 Ax Q' E' hQ
    refine⟨x,dx,pa,lk.r,lk.b,lk.h,yS,lk.qs,rfl,Ax,fun e0=>?_,fun v rest ev H3 o3 Bu=>?_⟩
    ·exfalso
     have hl:=Paired.length Ax.zL
     rw[e0]at hl
     cases AK:lk.qs with
     | nil=>rw[AK]at hq;cases hq
     | cons _ _=>rw[AK]at hl;cases hl
    ·have o4:yI [a.la] H1 H3:=fun b o nb e=>o3 b o (ai e nx) (ai e np) (o2 b o nb e)
     refine hQ v H3 ?_ o4 (zx.Bq hY zw o4 (k:=k) (x:=x) (dx:=dx) (pa:=pa) (o3 _ _ (ai zw nx) (ai zw np) g2) (ln:=bU lk) Bu np)
     have hz:=zU.C7 o3 Ax.ins Ax.lst Ax.zL
     rw[ev]at hz
     cases AK:lk.qs with
     | nil=>rw[AK]at hq;cases hq
     | cons q0 r0 =>
      rw[AK]at hq hz
      cases hq
      cases hz with
      | cons z _=>exact z
   obtain⟨yM,zw,CJ⟩:=hY.hla
   have p3:∀ {H3:Hp}{ex:List Addr}{xs:List V},H1 p=some (.tup xs)->yI ex H1 H3->(∀ b ∈ ex,b ∈ a.four)->H3 p=some (.tup xs):=fun h o he=>o _ _ (fun z=>by obtain⟨xs,hz⟩:=hY.Bp _ (he _ z);rw[h]at hz;cases hz) h
   cases m with
   | Ab k l =>
    have zf:H1 p=some (.tup [.str "in", .int k, .int l]):=zf
    obtain⟨l',t,ln,e0,ht,hg,hl,yX,ho⟩:=sV (show Mv.Ab k l ∈ gf a st k from Kk)
    cases e0
    refine⟨_,rfl,p,_,0,_,rfl,rfl,yN.of zf,ak (j:=0) rfl,rfl,_,rfl,?_⟩
    rw[iM]
    refine aK ⟨_,rfl,a.y,a.dy,_,rfl,hY.ins,rfl,_,rfl,p,_,1,_,rfl,rfl,yN.of zf,ak (j:=1) rfl,_,rfl,p,_,2,_,rfl,rfl,yN.of zf,ak (j:=2) rfl,a,st,k,l,t,ln,rfl,hY,ht,yX,ho,(hI.G.zu k t ht).2,lt_of_le_of_lt (hS.q l ln yX) (by decide),fun H' o' FZ=>⟨rfl,_,AF.Ab ht hg hl yX ho,o'.mono (by simp),FZ⟩⟩
   | on k l =>
    have zf:H1 p=some (.tup [.str "on", .int k, .int l]):=zf
    obtain⟨l',pq,lk,ln,e0,hk,hq,hl,yX,ho⟩:=sS (show Mv.on k l ∈ gQ a st k from Kk)
    cases e0
    obtain⟨m,t,em,ht,BZ⟩:=hI.G.zL k lk hk pq (mem_of_head? hq)
    obtain⟨m0,cq⟩:=pq
    have em:m0=(m:Int):=em
    subst em
    refine⟨_,rfl,p,_,0,_,rfl,rfl,yN.of zf,ak (j:=0) rfl,rfl,_,rfl,?_⟩
    rw[ir (by decide +kernel)]
    refine aH ⟨_,rfl,p,_,0,_,rfl,rfl,yN.of zf,ak (j:=0) rfl,rfl,_,rfl,?_⟩
    rw[iM]
    refine aK ⟨_,rfl,a.y,a.dy,_,rfl,hY.ins,rfl,_,rfl,a.y,a.dy,_,rfl,hY.ins,rfl,_,rfl,p,_,1,_,rfl,rfl,yN.of zf,ak (j:=1) rfl,a,st,k,lk,yM,rfl,hY,hk,zw,fun x dx pa yS H2 o2 nx np g2 Ax=>⟨x,dx,_,rfl,Ax.ins,rfl,D5 k lk _ hk hq yM zw x dx pa yS H2 o2 nx np g2 Ax _ (fun _ _ _=>False) fun v H3 hv o3 Aw=>?_⟩⟩
    have Hs:=p3 zf o3 (by simp)
    have zK:k < st.lanes.length:=(gQ0 hk)
    obtain⟨ln2,Kl,er,eh,eq⟩:∃ ln2,(st.lanes.set k (bU lk))[l]? = some ln2/\ln2.r=ln.r/\ln2.h=ln.h/\ln2.qs.length <= 10000:=by
     by_cases Km:k=l
     ·subst Km
      rw[hk]at yX
      cases yX
      refine⟨bU lk,by simp[zK],rfl,rfl,?_⟩
      have:=hS.q k lk hk
      show lk.qs.tail.length <= 10000
      rw[List.length_tail];omega
     ·exact⟨ln,by rw[getElem?_set_ne Km];exact yX,rfl,rfl,hS.q l ln yX⟩
    have Aj:bT ln2.r ln2.h m cq=true:=by rw[er,eh];exact ho
    refine⟨_,rfl,p,_,2,_,rfl,rfl,yN.of Hs,ak (j:=2) rfl,a,{ st with lanes:=st.lanes.set k (bU lk) },v,m,cq,l,t,ln2,rfl,Aw,hv,ht,Kl,Aj,(hI.G.zu m t ht).2,lt_of_le_of_lt eq (by decide),fun H' o' FZ=>⟨rfl,_,AF.on hk hq ht hl Kl Aj,(o3.mono (by simp)).trans (o'.mono (by simp)),FZ⟩⟩
   | zZ k =>
    have zf:H1 p=some (.tup [.str "lie", .int k]):=zf
    obtain⟨pq,lk,t0,e0,hk,hq,Fi,hg⟩:=oZ (show Mv.zZ k ∈ dS a st k from Kk)
    obtain⟨m,t,em,ht,BZ⟩:=hI.G.zL k lk hk pq (mem_of_head? hq)
    obtain⟨m0,cq⟩:=pq
    have em:m0=(m:Int):=em
    subst em
    have Fi:st.U[m]? = some t0:=by rw[← Fi];rfl
    rw[ht]at Fi
    cases Fi
    have zK:k < st.lanes.length:=(gQ0 hk)
    have HA:k < a.ps.length:=by rw[← hI.G.lanes];exact zK
    have he:=getElem?_eq_getElem HA
    have DP:a.ps.getD k (0,0)=a.ps[k]:=by rw[getD_eq_getElem?_getD,he];rfl
    obtain⟨e,ee,Kg⟩:=hI.O.ends k _ he
    rw[DP,ee]at hg
    have hel:e < st.lies.length:=by rw[hI.G.lies];exact Kg
    have AK:=getElem?_eq_getElem hel
    refine⟨_,rfl,p,_,0,_,rfl,rfl,yN.of zf,ak (j:=0) rfl,rfl,_,rfl,?_⟩
    rw[ir (by decide +kernel)]
    refine aH ⟨_,rfl,p,_,0,_,rfl,rfl,yN.of zf,ak (j:=0) rfl,rfl,_,rfl,?_⟩
    rw[ir (by decide +kernel)]
    refine aH ⟨_,rfl,p,_,0,_,rfl,rfl,yN.of zf,ak (j:=0) rfl,rfl,_,rfl,?_⟩
    rw[iM]
    refine aK ⟨_,rfl,a.y,a.dy,_,rfl,hY.ins,rfl,_,rfl,a.y,a.dy,_,rfl,hY.ins,rfl,_,rfl,p,_,1,_,rfl,rfl,yN.of zf,ak (j:=1) rfl,a,st,k,lk,yM,rfl,hY,hk,zw,fun x dx pa yS H2 o2 nx np g2 Ax=>⟨x,dx,_,rfl,Ax.ins,rfl,D5 k lk _ hk hq yM zw x dx pa yS H2 o2 nx np g2 Ax _ (fun _ _ _=>False) fun v H3 hv o3 Aw=>?_⟩⟩
    have Hs:=p3 zf o3 (by simp)
    have FG:uf c TC J H3 a:=zG.keep W CA.T (yI.yT (fun b hb=>by simp at hb;subst hb;exact⟨_,zw⟩) o3)
    obtain⟨BY,fst,Bs,zB,Au⟩:=FG.i
    refine⟨_,rfl,a.y,ys.yB,a.dy,_,_,rfl,Aw.ins,Y.cl,Y.n1,rfl,a.tb,TC,BY,fst,_,rfl,Bs,W.cl,W.nl,zB,a.lx,a.zq,_,rfl,FG.l.1,rfl,_,rfl,p,_,1,_,rfl,rfl,yN.of Hs,ak (j:=1) rfl,a.lx,a.zq,a.lt,(a.n:Int),a.yO,a.ps,k,_,rfl,FG.l,he,?_⟩
    rw[ee]
    exact⟨a,{ st with lanes:=st.lanes.set k (bU lk) },v,((m:Int),cq),e,_,rfl,Aw,hv,AK,le_trans (hS.l e _ AK) (by decide),fun H' o' FZ=>⟨rfl,_,AF.zZ hk hq ht hg (by rw[DP,ee]) AK,(o3.mono (by simp)).trans (o'.mono (by simp)),FZ⟩⟩
   | back k =>
    have zf:H1 p=some (.tup [.str "back", .int k]):=zf
    obtain⟨lk,e0,hk,hb⟩:=lF (show Mv.back k ∈ cM st k from Kk)
    refine⟨_,rfl,p,_,0,_,rfl,rfl,yN.of zf,ak (j:=0) rfl,rfl,_,rfl,?_⟩
    rw[ir (by decide +kernel)]
    refine aH ⟨_,rfl,p,_,0,_,rfl,rfl,yN.of zf,ak (j:=0) rfl,rfl,_,rfl,?_⟩
    rw[ir (by decide +kernel)]
    refine aH ⟨_,rfl,p,_,0,_,rfl,rfl,yN.of zf,ak (j:=0) rfl,rfl,_,rfl,?_⟩
    rw[ir (by decide +kernel)]
    refine aH ⟨_,rfl,a.y,a.dy,_,rfl,hY.ins,rfl,_,rfl,p,_,1,_,rfl,rfl,yN.of zf,ak (j:=1) rfl,a,st,k,lk,yM,rfl,hY,hk,zw,fun x dx pa yS H2 o2 nx np g2 Ax=>⟨x,dx,_,rfl,Ax.ins,rfl,x,dx,pa,lk.r,lk.b,lk.h,yS,lk.qs,rfl,Ax,(fun e0=>by rw[e0]at hb;exact absurd hb (by decide)),fun _ H3 o3 Bu=>?_⟩⟩
    have o4:yI [a.la] H1 H3:=fun b o nb e=>o3 b o (ai e nx) (ai e np) (o2 b o nb e)
    exact⟨rfl,_,AF.back hk hb,o4.mono (by simp),zx.Bq hY zw o4 (k:=k) (x:=x) (dx:=dx) (pa:=pa) (o3 _ _ (ai zw nx) (ai zw np) g2) (ln:=lH lk) Bu np⟩
  ·rintro σ' H2 ⟨rfl,s',hs,o2,Av⟩
   obtain⟨zS,Hw,pd⟩:=Av.AO
   have F6:zS.length=st.done.length:=by rw[Paired.length pd,hs.done]
   have Eg:H2 p=some (.tup (dU m)):=o2 _ _ (fun z=>by obtain⟨xs,hz⟩:=hY.Bp _ z;rw[zf]at hz;cases hz) zf
   have hd:=hS.d
   refine⟨_,rfl,a.y,ys.yB,a.dy,_,_,rfl,Av.ins,Y.cl,Y.n6,rfl, .inl ⟨rfl,_,yC.of Hw⟩,_,rfl,a.dn,_,_,rfl,rfl,Hw,by rw[sizeLine_eq];omega,?_⟩
   have Aw:=Av.Fc Hw ⟨p,rfl,Eg⟩
   rw[hs.done]at Aw
   exact q _ s' hs ((y8.zg s1).trans (o2.trans (cu (by simp)))) Aw
theorem aY {α:Type}{L:List α}{k j:Nat}{y z:α}(h:(L.set k y)[j]? = some z):(j=k/\z=y)∨(j ≠ k/\L[j]? = some z):=by
 by_cases e:k=j
 ·subst e
  rw[List.getElem?_set_self']at h
  cases hk:L[k]? with
  | none=>rw[hk]at h;cases h
  | some x=>rw[hk]at h;cases h;exact .inl ⟨rfl,rfl⟩
 ·rw[getElem?_set_ne e]at h
  exact .inr ⟨Ne.symm e,h⟩
theorem cv {α:Type}{L:List α}{k:Nat}{x y:α}(h:L[k]? = some x):(L.set k y)[k]? = some y:=by
 have:=(gQ0 h)
 simp[this]
theorem dW {α:Type}(f:α->Nat):∀ {L:List α}{k:Nat}{x y:α},L[k]? = some x->((L.set k y).map f).sum + f x=(L.map f).sum + f y
 | [],_,_,_,h=>by cases h
 | z :: L,0,x,y,h=>by cases h;simp only[set_cons_zero,map_cons,sum_cons];omega
 | z :: L,k + 1,x,y,h=>by
  have:=dW f (L:=L) (k:=k) (x:=x) (y:=y) h
  simp only[set_cons_succ,map_cons,sum_cons];omega
theorem iF {α:Type}(f:α->Int):∀ {L:List α}{k:Nat}{x y:α},L[k]? = some x->((L.set k y).map f).sum + f x=(L.map f).sum + f y
 | [],_,_,_,h=>by cases h
 | z :: L,0,x,y,h=>by cases h;simp only[set_cons_zero,map_cons,sum_cons];omega
 | z :: L,k + 1,x,y,h=>by
  have:=iF f (L:=L) (k:=k) (x:=x) (y:=y) h
  simp only[set_cons_succ,map_cons,sum_cons];omega
noncomputable def kD (a:YA)(l:Nat):Int:=(a.ps.getD l (0,0)).2
noncomputable def fO (s:YS):Nat:=(s.lanes.map fun ln=>ln.qs.length).sum
noncomputable def eX (s:YS):Nat:=(s.lies.map fun qs=>qs.length).sum
noncomputable def dX (s:YS):Int:=(s.U.map fun t=>t.gone).sum
structure M3 (a:YA)(s:YS)(m:Nat)(c:Int):Prop where
 lanes:s.lanes.length=a.ps.length
 lies:s.lies.length=a.n
 zD:s.U.length <= 60
 CC:a.ps.length <= 40
 lets:∀ (m:Nat)(t:aS),s.U[m]? = some t->∃ x y:Nat,t.start=(x:Int)/\t.goal=(y:Int)/\x < a.n/\y < a.n
 zu:∀ (m:Nat)(t:aS),s.U[m]? = some t->(∀ l ∈ t.way,l < a.ps.length)/\t.way.Nodup
 zL:∀ (k:Nat)(ln:bC),s.lanes[k]? = some ln->∀ q ∈ ln.qs,∃ (m:Nat)(t:aS),q.1=(m:Int)/\s.U[m]? = some t/\k ∈ t.way
 Ai:∀ (m:Nat)(t:aS),s.U[m]? = some t->0 <= t.gone/\t.gone <= t.len/\t.len <= 60
 zH:∀ (m':Nat)(t:aS),s.U[m']? = some t->t.gone=0->t.way=[]/\m' ≠ m
 last:∀ (m:Nat)(t:aS),s.U[m]? = some t->∀ (i l:Nat),t.way[i]? = some l->kD a l=t.goal->i + 1=t.way.length
 head:∀ (m':Nat)(t:aS),s.U[m']? = some t->∀ (l:Nat)(ln:bC),t.way.getLast? = some l->s.lanes[l]? = some ln->(m' = m/\c=0)∨((m':Int),(0:Int)) ∈ ln.qs∨kD a l=t.goal
 first:∀ (k:Nat)(ln:bC),s.lanes[k]? = some ln->∀ (i j:Nat)(z:Int)(q:Int × Int),ln.qs[i]? = some (z,0)->j < i->ln.qs[j]? = some q->q.1 ≠ z
 Cq:∀ (k:Nat)(ln:bC),s.lanes[k]? = some ln->∀ (m':Nat)(t:aS),((m':Int),(0:Int)) ∈ ln.qs->s.U[m']? = some t->t.way.getLast? = some k
 gone:c=0->∀ (k:Nat)(ln:bC),s.lanes[k]? = some ln->((m:Int),(0:Int)) ∉ ln.qs
 sum:(fO s:Int) + (eX s:Int) + 1=dX s
structure zC (a:YA)(s:YS):Prop where
 lanes:s.lanes.length=a.ps.length
 lies:s.lies.length=a.n
 zD:s.U.length <= 60
 CC:a.ps.length <= 40
 lets:∀ (m:Nat)(t:aS),s.U[m]? = some t->∃ x y:Nat,t.start=(x:Int)/\t.goal=(y:Int)/\x < a.n/\y < a.n
 zu:∀ (m:Nat)(t:aS),s.U[m]? = some t->(∀ l ∈ t.way,l < a.ps.length)/\t.way.Nodup
 zL:∀ (k:Nat)(ln:bC),s.lanes[k]? = some ln->∀ q ∈ ln.qs,∃ (m:Nat)(t:aS),q.1=(m:Int)/\s.U[m]? = some t/\k ∈ t.way
 Ai:∀ (m:Nat)(t:aS),s.U[m]? = some t->0 <= t.gone/\t.gone <= t.len/\t.len <= 60
 zH:∀ (m':Nat)(t:aS),s.U[m']? = some t->t.gone=0->t.way=[]
 last:∀ (m:Nat)(t:aS),s.U[m]? = some t->∀ (i l:Nat),t.way[i]? = some l->kD a l=t.goal->i + 1=t.way.length
 head:∀ (m':Nat)(t:aS),s.U[m']? = some t->∀ (l:Nat)(ln:bC),t.way.getLast? = some l->s.lanes[l]? = some ln->((m':Int),(0:Int)) ∈ ln.qs∨kD a l=t.goal
 first:∀ (k:Nat)(ln:bC),s.lanes[k]? = some ln->∀ (i j:Nat)(z:Int)(q:Int × Int),ln.qs[i]? = some (z,0)->j < i->ln.qs[j]? = some q->q.1 ≠ z
 Cq:∀ (k:Nat)(ln:bC),s.lanes[k]? = some ln->∀ (m':Nat)(t:aS),((m':Int),(0:Int)) ∈ ln.qs->s.U[m']? = some t->t.way.getLast? = some k
 sum:(fO s:Int) + (eX s:Int)=dX s
theorem cZ:∀ (n:Nat)(l:List Nat),l.Nodup->(∀ x ∈ l,x < n)->l.length <= n
 | 0,l,_,h=>by
  cases l with
  | nil=>exact Nat.le_refl _
  | cons x _=>exact absurd (h x mem_cons_self) (by omega)
 | n + 1,l,hn,h=>by
  have h1:=cZ n (l.filter fun x=>decide (x ≠ n)) (hn.filter _) fun x hx=>by
   obtain⟨a,b⟩:=mem_filter.mp hx
   have:=h x a
   have:=of_decide_eq_true b
   omega
  have h2:l.length <= (l.filter fun x=>decide (x ≠ n)).length + 1:=by
   clear h1 h
   induction l with
   | nil=>exact zero_le _
   | cons x l ih =>
    rw[nodup_cons]at hn
    by_cases e:x=n
    ·subst e
     have:(l.filter fun y=>decide (y ≠ x))=l:=List.filter_eq_self.mpr fun y hy=>decide_eq_true fun z=>hn.1 (z ▸ hy)
     rw[filter_cons_of_neg (by simp),this]
     exact Nat.le_refl _
    ·rw[filter_cons_of_pos (by simpa using e)]
     have:=ih hn.2
     simp only[length_cons]
     omega
  omega
theorem zC.ok {a:YA}{s:YS}(h:zC a s):Pn a s:=⟨h.lanes,h.lies,h.lets,fun m t ht=>⟨(h.zu m t ht).1,by have:=cZ _ _ (h.zu m t ht).2 (h.zu m t ht).1;have:=h.CC;omega⟩,h.zL,h.zD⟩
theorem sR {α:Type}{x:α}{l:List α}(h:x ∈ l.tail):x ∈ l:=List.mem_of_mem_tail h
theorem tw {α:Type}{l:List α}{x:α}(h:l.head? = some x):l[0]? = some x:=by cases l with
 | nil=>cases h
 | cons y r=>exact h
theorem pc {α:Type}{l:List α}{x:α}(h:x ∈ l):∃ i:Nat,l[i]? = some x:=by
 obtain⟨i,hi,e⟩:=getElem_of_mem h
 exact⟨i,by rw[getElem?_eq_getElem hi,e]⟩
theorem kO {α:Type}(l:List α)(i:Nat):l.tail[i]? = l[i + 1]?:=by cases l with
 | nil=>simp
 | cons y r=>rfl
theorem lD {a:YA}{s:YS}{k m:Nat}{c:Int}{lk:bC}(J:zC a s)(hk:s.lanes[k]? = some lk)(hq:lk.qs.head? = some ((m:Int),c)):M3 a { s with lanes:=s.lanes.set k (bU lk) } m c:=by
 have h0:=tw hq
 have Ab:∀ (j:Nat)(zm:bC),(s.lanes.set k (bU lk))[j]? = some zm->∃ ln,s.lanes[j]? = some ln/\(∀ q ∈ zm.qs,q ∈ ln.qs)/\∃ d,(∀ i,zm.qs[i]? = ln.qs[i + d]?)/\(zm.qs=ln.qs∨(j=k/\ln=lk/\zm.qs=lk.qs.tail)):=fun j zm h=>by
  rcases aY h with ⟨rfl,rfl⟩ | ⟨ne,h⟩
  ·exact⟨lk,hk,fun q hq=>sR hq,1,fun i=>kO _ i, .inr ⟨rfl,rfl,rfl⟩⟩
  ·exact⟨zm,h,fun q hq=>hq,0,fun i=>rfl, .inl rfl⟩
 have keep:∀ (j:Nat)(ln:bC),s.lanes[j]? = some ln->∃ zm,(s.lanes.set k (bU lk))[j]? = some zm/\∀ q ∈ ln.qs,q=((m:Int),c)∨q ∈ zm.qs:=fun j ln h=>by
  by_cases e:j=k
  ·subst e
   rw[hk]at h
   cases h
   refine⟨bU lk,cv hk,fun q BM=>?_⟩
   show _∨q ∈ lk.qs.tail
   cases hl:lk.qs with
   | nil=>rw[hl]at hq;cases hq
   | cons z r =>
    rw[hl]at hq BM
    cases hq
    exact(mem_cons.mp BM).imp id id
  ·exact⟨ln,by rw[getElem?_set_ne (Ne.symm e)];exact h,fun q hq => .inr hq⟩
 refine⟨by rw[← J.lanes];simp,J.lies,J.zD,J.CC,J.lets,J.zu,?_,J.Ai,?_,J.last,?_,?_,?_,?_,?_⟩
 ·intro j zm h q BM
  obtain⟨ln,hj,h1,_⟩:=Ab j zm h
  exact J.zL j ln hj q (h1 q BM)
 ·intro m' t ht hg
  refine⟨J.zH m' t ht hg,fun e=>?_⟩
  subst e
  obtain⟨m2,t2,e2,Eu,PK⟩:=J.zL k lk hk _ (mem_of_head? hq)
  have:m' = m2:=by have:(m':Int)=(m2:Int):=e2;omega
  subst this
  rw[ht]at Eu
  cases Eu
  rw[J.zH m' t ht hg]at PK
  cases PK
 ·intro m' t ht l zm hl Aa
  obtain⟨ln,hj,h1,_⟩:=Ab l zm Aa
  rcases J.head m' t ht l ln hl hj with h | h
  ·obtain⟨ln2,h2,h3⟩:=keep l ln hj
   have h2:{ s with lanes:=s.lanes.set k (bU lk) }.lanes[l]? = some ln2:=h2
   rw[Aa]at h2
   cases h2
   rcases h3 _ h with e | h
   ·injection e with e1 e2
    exact .inl ⟨by omega,e2.symm⟩
   ·exact .inr (.inl h)
  ·exact .inr (.inr h)
 ·intro j zm h i i' z q hi zb BM
  obtain⟨ln,hj,_,d,h2,_⟩:=Ab j zm h
  rw[h2]at hi BM
  exact J.first j ln hj (i + d) (i' + d) z q hi (by omega) BM
 ·intro j zm h m' t EG ht
  obtain⟨ln,hj,h1,_⟩:=Ab j zm h
  exact J.Cq j ln hj m' t (h1 _ EG) ht
 ·intro e0 j zm h EG
  subst e0
  obtain⟨ln,hj,h1,d,h2,h3⟩:=Ab j zm h
  obtain⟨m2,t2,e2,Eu,_⟩:=J.zL k lk hk _ (mem_of_head? hq)
  have:m=m2:=by have:(m:Int)=(m2:Int):=e2;omega
  subst this
  have b1:=J.Cq k lk hk m t2 (mem_of_head? hq) Eu
  have b2:=J.Cq j ln hj m t2 (h1 _ EG) Eu
  rw[b1]at b2
  have b2:=Option.some.inj b2
  subst b2
  rcases aY h with ⟨_,rfl⟩ | ⟨ne,_⟩
  ·obtain⟨i,hi⟩:=pc EG
   have hi:lk.qs.tail[i]? = some ((m:Int),0):=hi
   rw[kO]at hi
   exact J.first k lk hk (i + 1) 0 _ _ hi (by omega) h0 rfl
  ·exact ne rfl
 ·have:=dW (fun ln:bC=>ln.qs.length) (y:=bU lk) hk
  have hl:(bU lk).qs.length + 1=lk.qs.length:=by
   show lk.qs.tail.length + 1=_
   cases hl:lk.qs with
   | nil=>rw[hl]at hq;cases hq
   | cons _ _=>rfl
  have h1:=J.sum
  unfold fO at h1 ⊢
  show((((s.lanes.set k (bU lk)).map fun ln=>ln.qs.length).sum:Nat):Int) + (eX s:Int) + 1=dX s
  omega
theorem sQ {a:YA}{s:YS}{k:Nat}{t:aS}(J:zC a s)(ht:s.U[k]? = some t)(hg:t.gone ≠ t.len):M3 a (bV s k t) k t.gone:=by
 have g0:=J.Ai k t ht
 have lk:∀ (m:Nat)(t':aS),(s.U.set k { t with gone:=t.gone + 1 })[m]? = some t'->∃ t0,s.U[m]? = some t0/\t'.start=t0.start/\t'.goal=t0.goal/\t'.way=t0.way/\t'.len=t0.len/\((m=k/\t'.gone=t.gone + 1)∨(m ≠ k/\t'.gone=t0.gone)):=fun m t' h=>by
  rcases aY h with ⟨rfl,rfl⟩ | ⟨ne,h⟩
  ·exact⟨t,ht,rfl,rfl,rfl,rfl, .inl ⟨rfl,rfl⟩⟩
  ·exact⟨t',h,rfl,rfl,rfl,rfl, .inr ⟨ne,rfl⟩⟩
 refine⟨J.lanes,J.lies,by show(s.U.set _ _).length <= 60;rw[length_set];exact J.zD,J.CC,?_,?_,?_,?_,?_,?_,?_,J.first,?_,?_,?_⟩
 ·intro m t' h
  obtain⟨t0,h0,e1,e2,_⟩:=lk m t' h
  rw[e1,e2];exact J.lets m t0 h0
 ·intro m t' h
  obtain⟨t0,h0,e1,e2,e3,_⟩:=lk m t' h
  rw[e3];exact J.zu m t0 h0
 ·intro j ln h q hq
  obtain⟨m,t0,e,h0,hj⟩:=J.zL j ln h q hq
  by_cases em:m=k
  ·subst em
   rw[ht]at h0
   cases h0
   exact⟨m,_,e,cv ht,hj⟩
  ·exact⟨m,t0,e,by show(s.U.set _ _)[m]? = _;rw[getElem?_set_ne (Ne.symm em)];exact h0,hj⟩
 ·intro m t' h
  obtain⟨t0,h0,e1,e2,e3,e4,e5⟩:=lk m t' h
  have:=J.Ai m t0 h0
  rcases e5 with ⟨rfl,e5⟩ | ⟨_,e5⟩
  ·rw[ht]at h0
   cases h0
   rw[e4,e5];omega
  ·rw[e4,e5];exact this
 ·intro m t' h hz
  obtain⟨t0,h0,e1,e2,e3,e4,e5⟩:=lk m t' h
  rcases e5 with ⟨rfl,e5⟩ | ⟨ne,e5⟩
  ·omega
  ·rw[e3];exact⟨J.zH m t0 h0 (by omega),ne⟩
 ·intro m t' h i l hi hl
  obtain⟨t0,h0,e1,e2,e3,e4,e5⟩:=lk m t' h
  rw[e3]at hi ⊢
  rw[e2]at hl
  exact J.last m t0 h0 i l hi hl
 ·intro m t' h l ln hl yX
  obtain⟨t0,h0,e1,e2,e3,e4,e5⟩:=lk m t' h
  rw[e3]at hl
  rw[e2]
  exact .inr (J.head m t0 h0 l ln hl yX)
 ·intro j ln h m t' hm h'
  obtain⟨t0,h0,e1,e2,e3,e4,e5⟩:=lk m t' h'
  rw[e3]
  exact J.Cq j ln h m t0 hm h0
 ·intro e0 j ln h hm
  obtain⟨m,t0,e,h0,hj⟩:=J.zL j ln h _ hm
  have:k=m:=by have:(k:Int)=(m:Int):=e;omega
  subst this
  rw[ht]at h0
  cases h0
  rw[J.zH k t ht e0]at hj
  cases hj
 ·have:=iF (fun t:aS=>t.gone) (y:={ t with gone:=t.gone + 1 }) ht
  have h1:=J.sum
  unfold dX at h1 ⊢
  show (fO s:Int) + (eX s:Int) + 1=((s.U.set k { t with gone:=t.gone + 1 }).map fun t=>t.gone).sum
  have:({ t with gone:=t.gone + 1 }:aS).gone=t.gone + 1:=rfl
  omega
theorem tj {l:List Nat}{x:Nat}(h:l.getLast? = some x):l[l.length - 1]? = some x:=by rw[← h,List.getLast?_eq_getElem?]
theorem jy {a:YA}{s:YS}{m l:Nat}{c:Int}{t:aS}{ln:bC}(M:M3 a s m c)(ht:s.U[m]? = some t)(yX:s.lanes[l]? = some ln)(h0:c=0->l ∉ t.way/\∀ x ∈ t.way,kD a x ≠ t.goal)(h1:c ≠ 0->l ∈ t.way):zC a (cb s m c l t ln):=by
 have zV:l < a.ps.length:=by rw[← M.lanes];exact(gQ0 yX)
 have lk:∀ (m':Nat)(t':aS),(cb s m c l t ln).U[m']? = some t'->∃ t0,s.U[m']? = some t0/\t'.start=t0.start/\t'.goal=t0.goal/\t'.len=t0.len/\t'.gone=t0.gone/\((c=0/\m' = m/\t0=t/\t'.way=t.way ++ [l])∨(¬ (c=0/\m' = m)/\t'.way=t0.way)):=fun m' t' h=>by
  have h:(if c=0 then s.U.set m { t with way:=t.way ++ [l] } else s.U)[m']? = some t':=h
  by_cases hc:c=0
  ·rw[if_pos hc]at h
   rcases aY h with ⟨rfl,rfl⟩ | ⟨ne,h⟩
   ·exact⟨t,ht,rfl,rfl,rfl,rfl, .inl ⟨hc,rfl,rfl,rfl⟩⟩
   ·exact⟨t',h,rfl,rfl,rfl,rfl, .inr ⟨fun z=>ne z.2,rfl⟩⟩
  ·rw[if_neg hc]at h
   exact⟨t',h,rfl,rfl,rfl,rfl, .inr ⟨fun z=>hc z.1,rfl⟩⟩
 have UC:∀ (m':Nat)(t0:aS),s.U[m']? = some t0->∃ t',(cb s m c l t ln).U[m']? = some t'/\(∀ x ∈ t0.way,x ∈ t'.way)/\(m' = m->l ∈ t'.way):=fun m' t0 h=>by
  by_cases hc:c=0
  ·by_cases e:m' = m
   ·subst e
    rw[ht]at h
    cases h
    refine⟨{ t with way:=t.way ++ [l] },by show(if c=0 then s.U.set m' { t with way:=t.way ++ [l] } else s.U)[m']? = _;rw[if_pos hc];exact cv ht,fun x hx=>mem_append_left _ hx,fun _=>by show l ∈ t.way ++ [l];simp⟩
   ·exact⟨t0,by show(if c=0 then s.U.set m { t with way:=t.way ++ [l] } else s.U)[m']? = _;rw[if_pos hc,getElem?_set_ne (Ne.symm e)];exact h,fun x hx=>hx,fun z=>absurd z e⟩
  ·refine⟨t0,by show(if c=0 then s.U.set m { t with way:=t.way ++ [l] } else s.U)[m']? = _;rw[if_neg hc];exact h,fun x hx=>hx,fun z=>?_⟩
   subst z
   rw[ht]at h
   cases h
   exact h1 hc
 have zm:∀ (j:Nat)(l':bC),(cb s m c l t ln).lanes[j]? = some l'->(j=l/\l'.qs=ln.qs ++ [((m:Int),c)])∨(j ≠ l/\s.lanes[j]? = some l'):=fun j l' h=>by
  rcases aY h with ⟨rfl,rfl⟩ | ⟨ne,h⟩
  ·exact .inl ⟨rfl,rfl⟩
  ·exact .inr ⟨ne,h⟩
 have old:∀ (j:Nat)(l':bC),(cb s m c l t ln).lanes[j]? = some l'->∀ q ∈ l'.qs,(j=l/\q=((m:Int),c))∨∃ l0,s.lanes[j]? = some l0/\q ∈ l0.qs:=fun j l' h q hq=>by
  rcases zm j l' h with ⟨rfl,e⟩ | ⟨ne,h⟩
  ·rw[e,mem_append]at hq
   rcases hq with hq | hq
   ·exact .inr ⟨ln,yX,hq⟩
   ·exact .inl ⟨rfl,by simpa using hq⟩
  ·exact .inr ⟨l',h,hq⟩
 refine⟨by rw[← M.lanes];show(s.lanes.set _ _).length=_;simp,M.lies,?_,M.CC,?_,?_,?_,?_,?_,?_,?_,?_,?_,?_⟩
 ·show(if c=0 then s.U.set m { t with way:=t.way ++ [l] } else s.U).length <= 60
  by_cases hc:c=0
  ·rw[if_pos hc,length_set];exact M.zD
  ·rw[if_neg hc];exact M.zD
 ·intro m' t' h
  obtain⟨t0,h2,e1,e2,_⟩:=lk m' t' h
  rw[e1,e2];exact M.lets m' t0 h2
 ·intro m' t' h
  obtain⟨t0,h2,_,_,_,_,e⟩:=lk m' t' h
  obtain⟨w1,w2⟩:=M.zu m' t0 h2
  rcases e with ⟨hc,rfl,rfl,e⟩ | ⟨_,e⟩
  ·rw[e]
   refine⟨fun x hx=>?_,?_⟩
   ·rcases mem_append.mp hx with hx | hx
    ·exact w1 x hx
    ·rw[mem_singleton.mp hx];exact zV
   ·rw[nodup_append]
    exact⟨w2,by simp,fun x hx y hy=>by rw[mem_singleton.mp hy];exact fun z=>(h0 hc).1 (z ▸ hx)⟩
  ·rw[e];exact⟨w1,w2⟩
 ·intro j l' h q hq
  rcases old j l' h q hq with ⟨rfl,rfl⟩ | ⟨l0,h2,hq⟩
  ·obtain⟨t',h3,_,h4⟩:=UC m t ht
   exact⟨m,t',rfl,h3,h4 rfl⟩
  ·obtain⟨m',t0,e,h3,hj⟩:=M.zL j l0 h2 q hq
   obtain⟨t',h4,h5,_⟩:=UC m' t0 h3
   exact⟨m',t',e,h4,h5 j hj⟩
 ·intro m' t' h
  obtain⟨t0,h2,_,_,e3,e4,_⟩:=lk m' t' h
  rw[e3,e4];exact M.Ai m' t0 h2
 ·intro m' t' h hz
  obtain⟨t0,h2,_,_,_,e4,e⟩:=lk m' t' h
  rw[e4]at hz
  obtain⟨w1,w2⟩:=M.zH m' t0 h2 hz
  rcases e with ⟨hc,rfl,_⟩ | ⟨_,e⟩
  ·exact absurd rfl w2
  ·rw[e];exact w1
 ·intro m' t' h i x hi hx
  obtain⟨t0,h2,_,e2,_,_,e⟩:=lk m' t' h
  rw[e2]at hx
  rcases e with ⟨hc,rfl,rfl,e⟩ | ⟨_,e⟩
  ·rw[e]at hi ⊢
   by_cases zb:i < t0.way.length
   ·rw[getElem?_append_left zb]at hi
    exact absurd hx ((h0 hc).2 x (mem_of_getElem? hi))
   ·have:=(gQ0 hi)
    rw[length_append,length_singleton]at this ⊢
    omega
  ·rw[e]at hi ⊢
   exact M.last m' t0 h2 i x hi hx
 ·intro m' t' h x l' hx C4
  obtain⟨t0,h2,_,e2,_,_,e⟩:=lk m' t' h
  rcases e with ⟨hc,rfl,rfl,e⟩ | ⟨ne,e⟩
  ·rw[e]at hx
   have hx:l=x:=by simpa using hx
   subst hx
   rcases zm l l' C4 with ⟨_,e'⟩ | ⟨ne,_⟩
   ·left
    rw[e',hc];simp
   ·exact absurd rfl ne
  ·rw[e]at hx
   rcases zm x l' C4 with ⟨rfl,e'⟩ | ⟨ne',h'⟩
   ·rcases M.head m' t0 h2 x ln hx yX with z | z | z
    ·exact absurd ⟨z.2,z.1⟩ ne
    ·exact .inl (by rw[e'];exact mem_append_left _ z)
    ·rw[e2];exact .inr z
   ·rcases M.head m' t0 h2 x l' hx h' with z | z | z
    ·exact absurd ⟨z.2,z.1⟩ ne
    ·exact .inl z
    ·rw[e2];exact .inr z
 ·intro j l' h i i' z q hi zb hq
  rcases zm j l' h with ⟨rfl,e⟩ | ⟨_,h'⟩
  ·rw[e]at hi hq
   by_cases CG:i < ln.qs.length
   ·rw[getElem?_append_left CG]at hi
    rw[getElem?_append_left (by omega)]at hq
    exact M.first j ln yX i i' z q hi zb hq
   ·have h3:=(gQ0 hi)
    rw[length_append,length_singleton]at h3
    have ei:i=ln.qs.length:=by omega
    subst ei
    rw[getElem?_concat_length]at hi
    have hi:=Option.some.inj hi
    injection hi with e1 e2
    subst e1
    rw[getElem?_append_left zb]at hq
    intro ez
    obtain⟨m',t0,e3,h4,h5⟩:=M.zL j ln yX q (mem_of_getElem? hq)
    have em0:(m':Int)=(m:Int):=by rw[← e3];exact ez
    have:m=m':=by omega
    subst this
    rw[ht]at h4
    cases h4
    exact(h0 e2).1 h5
  ·exact M.first j l' h' i i' z q hi zb hq
 ·intro j l' h m' t' hm h'
  obtain⟨t0,h2,_,_,_,_,e⟩:=lk m' t' h'
  rcases old j l' h _ hm with ⟨rfl,e'⟩ | ⟨l0,h3,hm⟩
  ·injection e' with e1 e2
   have em:m' = m:=by omega
   subst em
   rcases e with ⟨_,_,_,e⟩ | ⟨ne,_⟩
   ·rw[e];simp
   ·exact absurd ⟨e2.symm,rfl⟩ ne
  ·rcases e with ⟨hc,rfl,rfl,e⟩ | ⟨ne,e⟩
   ·exact absurd hm (M.gone hc j l0 h3)
   ·rw[e];exact M.Cq j l0 h3 m' t0 hm h2
 ·have q1:=dW (fun ln:bC=>ln.qs.length) (y:=dL ln m c t.len) yX
  have q2:(dL ln m c t.len).qs.length=ln.qs.length + 1:=by show(ln.qs ++ [_]).length=_;simp
  have q3:dX (cb s m c l t ln)=dX s:=by
   unfold dX
   show((if c=0 then s.U.set m { t with way:=t.way ++ [l] } else s.U).map fun t=>t.gone).sum=_
   by_cases hc:c=0
   ·rw[if_pos hc]
    have:=iF (fun t:aS=>t.gone) (y:={ t with way:=t.way ++ [l] }) ht
    have e:({ t with way:=t.way ++ [l] }:aS).gone=t.gone:=rfl
    omega
   ·rw[if_neg hc]
  have h2:=M.sum
  rw[q3]
  unfold fO at h2 ⊢
  show((((s.lanes.set l (dL ln m c t.len)).map fun ln=>ln.qs.length).sum:Nat):Int) + (eX s:Int)=dX s
  omega
theorem vo {a:YA}{s:YS}{m e:Nat}{c:Int}{t:aS}{qs:List (Int × Int)}(M:M3 a s m c)(ht:s.U[m]? = some t)(AK:s.lies[e]? = some qs)(h0:c=0->∀ x,t.way.getLast? = some x->kD a x=t.goal):zC a { s with lies:=s.lies.set e (qs ++ [((m:Int),c)]) }:=by
 refine⟨M.lanes,by show(s.lies.set _ _).length=_;rw[length_set];exact M.lies,M.zD,M.CC,M.lets,M.zu,M.zL,M.Ai,fun m' t' h z=>(M.zH m' t' h z).1,M.last,?_,M.first,M.Cq,?_⟩
 ·intro m' t' h x l' hx C4
  rcases M.head m' t' h x l' hx C4 with ⟨rfl,hc⟩ | z | z
  ·have h:s.U[m']? = some t':=h
   rw[ht]at h
   cases h
   exact .inr (h0 hc x hx)
  ·exact .inl z
  ·exact .inr z
 ·have:=dW (fun qs:List (Int × Int)=>qs.length) (y:=qs ++ [((m:Int),c)]) AK
  have h2:=M.sum
  unfold eX at h2 ⊢
  show (fO s:Int) + ((((s.lies.set e (qs ++ [((m:Int),c)])).map fun qs=>qs.length).sum:Nat):Int)=dX s
  rw[length_append,length_singleton]at this
  omega
theorem zC.back {a:YA}{s:YS}{k:Nat}{lk Kn:bC}(J:zC a s)(hk:s.lanes[k]? = some lk)(e:Kn.qs=lk.qs):zC a { s with lanes:=s.lanes.set k Kn }:=by
 have Ab:∀ (j:Nat)(l':bC),(s.lanes.set k Kn)[j]? = some l'->∃ l0,s.lanes[j]? = some l0/\l'.qs=l0.qs:=fun j l' h=>by
  rcases aY h with ⟨rfl,rfl⟩ | ⟨_,h⟩
  ·exact⟨lk,hk,e⟩
  ·exact⟨l',h,rfl⟩
 refine⟨by rw[← J.lanes];simp,J.lies,J.zD,J.CC,J.lets,J.zu,?_,J.Ai,J.zH,J.last,?_,?_,?_,?_⟩
 ·intro j l' h q hq
  obtain⟨l0,h0,e0⟩:=Ab j l' h
  rw[e0]at hq
  exact J.zL j l0 h0 q hq
 ·intro m t ht x l' hx C4
  obtain⟨l0,h0,e0⟩:=Ab x l' C4
  rw[e0]
  exact J.head m t ht x l0 hx h0
 ·intro j l' h
  obtain⟨l0,h0,e0⟩:=Ab j l' h
  rw[e0]
  exact J.first j l0 h0
 ·intro j l' h
  obtain⟨l0,h0,e0⟩:=Ab j l' h
  rw[e0]
  exact J.Cq j l0 h0
 ·have:=dW (fun ln:bC=>ln.qs.length) (y:=Kn) hk
  have h1:=J.sum
  have e':=congrArg List.length e
  unfold fO at h1 ⊢
  show((((s.lanes.set k Kn).map fun ln=>ln.qs.length).sum:Nat):Int) + (eX s:Int)=dX s
  omega
theorem zC.step {a:YA}{s s':YS}{m:Mv}(J:zC a s)(h:AF a s m s'):zC a s':=by
 cases h with
 | @Ab k l t ln ht hg hl yX ho =>
  have M:=sQ J ht hg
  refine jy (t:={ t with gone:=t.gone + 1 }) M (cv ht) yX (fun hc=>?_) (fun hc=>?_)
  ·have hw:=J.zH k t ht hc
   show l ∉ t.way/\∀ x ∈ t.way,kD a x ≠ t.goal
   rw[hw]
   exact⟨by simp,by simp⟩
  ·unfold bS at hl
   rw[if_neg hc]at hl
   exact mem_of_mem_take hl
 | @on k l m c lk ln t hk hq ht hl yX ho =>
  have M:=lD J hk hq
  have hw:bO a s k=if c=0 then (il a k t.goal.toNat).filter (fun l=>!decide (l ∈ t.way)) else (t.way.drop (t.way.idxOf k + 1)).take 1:=by
   unfold bO aT
   rw[hk]
   dsimp only
   rw[hq]
   dsimp only
   rw[toNat_natCast,ht]
  rw[hw]at hl
  refine jy M ht yX (fun hc=>?_) (fun hc=>?_)
  ·rw[if_pos hc]at hl
   obtain⟨h1,h2⟩:=mem_filter.mp hl
   refine⟨by simpa using h2,fun x hx ex=>?_⟩
   subst hc
   obtain⟨i,hi⟩:=pc hx
   have h3:=J.last m t ht i x hi ex
   have h4:=J.Cq k lk hk m t (mem_of_head? hq) ht
   have h5:=tj h4
   rw[show t.way.length - 1=i by omega,hi]at h5
   have h5:=Option.some.inj h5
   subst h5
   unfold il at h1
   obtain⟨x0,y0,e1,e2,_,_⟩:=J.lets m t ht
   rw[if_pos (by show kD a x=_;rw[ex,e2,toNat_natCast])]at h1
   cases h1
  ·rw[if_neg hc]at hl
   exact List.mem_of_mem_drop (mem_of_mem_take hl)
 | @zZ k m e c lk t qs hk hq ht hg he AK =>
  have M:=lD J hk hq
  have:=vo (s:={ s with lanes:=s.lanes.set k (bU lk) }) M ht AK (fun hc x hx=>?_)
  ·exact this
  ·subst hc
   have h4:=J.Cq k lk hk m t (mem_of_head? hq) ht
   rw[h4]at hx
   have hx:=Option.some.inj hx
   subst hx
   show(a.ps.getD k (0,0)).2=t.goal
   rw[he,hg]
 | @back k lk hk hb=>exact J.back hk rfl
noncomputable def qI (s:YS):Int:=(s.U.map fun t=>t.len).sum
theorem oy {α:Type}(f g:α->Int):∀ {L:List α},(∀ (m:Nat)(t:α),L[m]? = some t->f t <= g t)->(L.map f).sum <= (L.map g).sum
 | [],_=>by simp
 | x :: L,h=>by
  have h1:=h 0 x rfl
  have h2:=oy f g (L:=L) fun m t ht=>h (m + 1) t ht
  simp only[map_cons,sum_cons];omega
theorem jr {α:Type}(g:α->Int):∀ {L:List α},(∀ (m:Nat)(t:α),L[m]? = some t->g t <= 60)->(L.map g).sum <= 60 * L.length
 | [],_=>by simp
 | x :: L,h=>by
  have h1:=h 0 x rfl
  have h2:=jr g (L:=L) fun m t ht=>h (m + 1) t ht
  simp only[map_cons,sum_cons,length_cons];omega
theorem zC.Fm {a:YA}{s:YS}(J:zC a s):(eX s:Int) <= qI s/\(fO s:Int) + (eX s:Int) <= 3600:=by
 have h1:=oy (fun t:aS=>t.gone) (fun t=>t.len) (L:=s.U) fun m t ht=>(J.Ai m t ht).2.1
 have h2:=J.sum
 have h3:=jr (fun t:aS=>t.len) (L:=s.U) fun m t ht=>(J.Ai m t ht).2.2
 have h4:=J.zD
 unfold dX at h2
 unfold qI
 omega
theorem eC {α:Type}(f:α->Nat):∀ {L:List α}{k:Nat}{x:α},L[k]? = some x->f x <= (L.map f).sum
 | [],_,_,h=>by cases h
 | z :: L,0,x,h=>by cases h;simp only[map_cons,sum_cons];omega
 | z :: L,k + 1,x,h=>by
  have:=eC f (L:=L) (k:=k) (x:=x) h
  simp only[map_cons,sum_cons];omega
theorem zC.sml {a:YA}{s:YS}(J:zC a s)(hd:s.done.length <= 100000):U9 s:=by
 have h:=J.Fm.2
 refine⟨fun k ln hk=>?_,fun p qs hp=>?_,hd⟩
 ·have:=eC (fun ln:bC=>ln.qs.length) hk
  unfold fO at h
  omega
 ·have:=eC (fun qs:List (Int × Int)=>qs.length) hp
  unfold eX at h
  omega
abbrev yx (ys:Ys)(ex:List Addr):Ys:={ ys with ex:=ex }
noncomputable def ScV (x:V):Prop:=(∃ i,x = .int i)∨∃ t,x = .str t/\PyData.strOk t=true
structure PL (a:YA)(s:YS):Prop where
 lanes:s.lanes.length=a.ps.length
 lies:s.lies.length=a.n
 q0:∀ (k:Nat)(ln:bC),s.lanes[k]? = some ln->ln.qs=[]
 l0:∀ (p:Nat)(qs:List (Int × Int)),s.lies[p]? = some qs->qs=[]
 lets:∀ (m:Nat)(t:aS),s.U[m]? = some t->t.gone=0/\t.way=[]/\0 <= t.len/\t.len <= 60/\∃ x y:Nat,t.start=(x:Int)/\t.goal=(y:Int)/\x < a.n/\y < a.n
 done:∀ d ∈ s.done,∀ x ∈ d,ScV x
theorem qJ {α:Type}(f:α->Nat):∀ {L:List α},(∀ (k:Nat)(x:α),L[k]? = some x->f x=0)->(L.map f).sum=0
 | [],_=>rfl
 | x :: L,h=>by
  have h1:=h 0 x rfl
  have h2:=qJ f (L:=L) fun k y hy=>h (k + 1) y hy
  simp only[map_cons,sum_cons];omega
theorem vQ {α:Type}(f:α->Int):∀ {L:List α},(∀ (k:Nat)(x:α),L[k]? = some x->f x=0)->(L.map f).sum=0
 | [],_=>rfl
 | x :: L,h=>by
  have h1:=h 0 x rfl
  have h2:=vQ f (L:=L) fun k y hy=>h (k + 1) y hy
  simp only[map_cons,sum_cons];omega
theorem PL.jnv {a:YA}{s:YS}(h:PL a s)(zD:s.U.length <= 60)(CC:a.ps.length <= 40):zC a s:=by
 refine⟨h.lanes,h.lies,zD,CC,fun m t ht=>(h.lets m t ht).2.2.2.2,fun m t ht=>?_,fun k ln hk q hq=>?_,fun m t ht=>?_,fun m t ht _=>(h.lets m t ht).2.1,fun m t ht i l hi=>?_,fun m t ht l ln hl=>?_,fun k ln hk i j z q hi=>?_,fun k ln hk m t hm=>?_,?_⟩
 ·rw[(h.lets m t ht).2.1];exact⟨(fun l hl=>by cases hl),nodup_nil⟩
 ·rw[h.q0 k ln hk]at hq;cases hq
 ·obtain⟨h1,h2,h3,h4,_⟩:=h.lets m t ht
  rw[h1];exact⟨by omega,h3,h4⟩
 ·rw[(h.lets m t ht).2.1]at hi;cases hi
 ·rw[(h.lets m t ht).2.1]at hl;cases hl
 ·rw[h.q0 k ln hk]at hi;cases hi
 ·rw[h.q0 k ln hk]at hm;cases hm
 ·have h1:fO s=0:=qJ _ fun k ln hk=>by rw[h.q0 k ln hk];rfl
  have h2:eX s=0:=qJ _ fun p qs hp=>by rw[h.l0 p qs hp];rfl
  have h3:dX s=0:=vQ _ fun m t ht=>(h.lets m t ht).1
  rw[h1,h2,h3];rfl
theorem pN {n a b:Nat}{wy:Wf}{m:Nat}{l u:Int}(ha:a < n)(hb:b < n)(hl:1 <= l/\l <= 60)(hu:Ht (.int u)=true)(FR:a ≠ b)(hw:wy a b none ≠ [])(hm:m < 60):jU n wy m (.int a) (.int b) (.int l) (.int u) = .good:=by
 unfold jU
 rw[show ju (.int (a:Int)) 0 ((n:Int) - 1)=true from decide_eq_true (by omega),show ju (.int (b:Int)) 0 ((n:Int) - 1)=true from decide_eq_true (by omega),show ju (.int l) 1 60=true from decide_eq_true hl,hu,if_neg (by decide),if_neg (by decide),if_neg (by decide)]
 rw[if_neg (by
  rintro (h | h)
  ·have h:(a:Int)=(b:Int):=h
   omega
  ·have h:wy ((a:Int)).toNat ((b:Int)).toNat none=[]:=h
   rw[toNat_natCast,toNat_natCast]at h
   exact hw h),if_neg (by omega)]
theorem kY {ex:List Addr}{H H1 H2:Hp}(s:y8 H H1)(o:yI ex H1 H2)(hn:∀ b ∈ ex,H b=none):y8 H H2:=fun b u e=>o b _ (fun z=>by rw[hn b z]at e;cases e) (s b u e)
theorem zC.done {a:YA}{s:YS}(J:zC a s)(d:List (List V)):zC a { s with done:=d }:=⟨J.lanes,J.lies,J.zD,J.CC,J.lets,J.zu,J.zL,J.Ai,J.zH,J.last,J.head,J.first,J.Cq,J.sum⟩
theorem PM {a:YA}{yR:List V}(h:yR.length=a.ps.length):PL a (Y0 yR a.n):=by
 refine⟨by show(yR.map mF).length=_;rw[length_map];exact h,by show(List.replicate a.n []).length=_;rw[length_replicate],fun k ln hk=>?_,fun p qs hp=>?_,fun m t ht=>?_,fun d hd=>?_⟩
 ·have hk:(yR.map mF)[k]? = some ln:=hk
  rw[getElem?_map]at hk
  cases hr:yR[k]? with
  | none=>rw[hr]at hk;cases hk
  | some v=>rw[hr]at hk;cases hk;rfl
 ·have hp:(List.replicate a.n ([]:List (Int × Int)))[p]? = some qs:=hp
  exact eq_of_mem_replicate (mem_of_getElem? hp)
 ·have ht:([]:List aS)[m]? = some t:=ht
  cases ht
 ·have hd:d ∈ ([]:List (List V)):=hd
  cases hd
noncomputable def rW (p:Int × Int):PyData := .tuple [.int p.1, .int p.2]
theorem tK {K:Frag}{H:Hp}:∀ {vs:List V}{ps:List (Int × Int)},yU H vs ps->jh K H vs (ps.map rW):=fun yD=>by
 induction yD with
 | nil=>exact .nil
 | cons zz r ih=>obtain⟨t,e,h⟩:=zz;exact .cons (by subst e;exact .tup (yN.of h) (.cons (.int _) (.cons (.int _) .nil))) ih
theorem pG (ps:List (Int × Int)):AN (.list (ps.map rW)) 64:=(dY (m:=1) fun z hz=>by
 obtain⟨p,_,rfl⟩:=mem_map.mp hz
 exact gH (m:=0) fun y hy=>by
  simp only[mem_cons,not_mem_nil,or_false]at hy
  rcases hy with rfl | rfl<;>exact c7 _).le (by decide)
theorem uq (ms:List Mv):AN (.list (ms.map uc)) 64:=(dY (m:=1) fun z hz=>by
 obtain⟨m,_,rfl⟩:=mem_map.mp hz
 exact jL m).le (by decide)
theorem Cr:AN (.list []) 64:=(dY (m:=0) fun z hz=>by cases hz).le (by decide)
theorem p5 {α:Type}(f:α->PyData)(l:List α):PyData.eqv (.list (l.map f)) (.list [])=l.isEmpty:=by
 cases l<;>simp[PyData.eqv,PyData.eqvAll]
theorem eqN {K:Frag}{x y:V}{H:Hp}{Q:VK}{α:Type}{f:α->PyData}{l:List α}(h1:kL K H x (.list (l.map f)))(h2:kL K H y (.list []))(s:AN (.list (l.map f)) 64)(q:Q (.bl l.isEmpty) H):IJ K x y H Q :=
 ⟨_,_,h1,h2,s.shaped (Nat.le_refl _),Cr.shaped (Nat.le_refl _),by rw[p5];exact q⟩
theorem neN {K:Frag}{x y:V}{H:Hp}{Q:VK}{α:Type}{f:α->PyData}{l:List α}(h1:kL K H x (.list (l.map f)))(h2:kL K H y (.list []))(s:AN (.list (l.map f)) 64)(q:Q (.bl (!l.isEmpty)) H):IK K x y H Q :=
 ⟨_,_,h1,h2,s.shaped (Nat.le_refl _),Cr.shaped (Nat.le_refl _),by rw[p5];exact q⟩
theorem AF.rooms {a:YA}{s s':YS}{m:Mv}(h:AF a s m s'):s'.rooms=s.rooms:=by cases h<;>rfl
theorem AF.len {a:YA}{s s':YS}{m:Mv}(h:AF a s m s'):s'.U.length=s.U.length:=by
 cases h with
 | @Ab k l t ln ht hg hl yX ho =>
  show(if t.gone=0 then (bV s k t).U.set k _ else (bV s k t).U).length=_
  have:(bV s k t).U.length=s.U.length:=length_set ..
  split
  ·rw[length_set];exact this
  ·exact this
 | @on k l m c lk ln t hk hq ht hl yX ho =>
  show(if c=0 then s.U.set m _ else s.U).length=_
  split
  ·exact length_set ..
  ·rfl
 | zZ=>rfl
 | back=>rfl
theorem zC.post {a:YA}{s:YS}(J:zC a s){x y:Nat}{l u:Int}(hx:x < a.n)(hy:y < a.n)(hl:0 <= l/\l <= 60)(hf:s.U.length < 60):zC a (cP s x y l u):=by
 have el:∀ (m:Nat)(t:aS),(cP s x y l u).U[m]? = some t->s.U[m]? = some t∨(m=s.U.length/\t = ⟨x,y,l,u,0,[]⟩):=fun m t ht=>by
  have ht:(s.U ++ [(⟨(x:Int),(y:Int),l,u,0,[]⟩:aS)])[m]? = some t:=ht
  by_cases hm:m < s.U.length
  ·rw[getElem?_append_left hm]at ht;exact .inl ht
  ·have h3:=(gQ0 ht)
   rw[length_append,length_singleton]at h3
   have em:m=s.U.length:=by omega
   subst em
   rw[getElem?_concat_length]at ht
   cases ht
   exact .inr ⟨rfl,rfl⟩
 have eo:∀ (m:Nat)(t:aS),s.U[m]? = some t->(cP s x y l u).U[m]? = some t:=fun m t ht=>by
  show(s.U ++ [(⟨(x:Int),(y:Int),l,u,0,[]⟩:aS)])[m]? = some t
  rw[getElem?_append_left (gQ0 ht)];exact ht
 refine⟨J.lanes,J.lies,?_,J.CC,fun m t ht=>?_,fun m t ht=>?_,fun k ln hk q hq=>?_,fun m t ht=>?_,fun m t ht hg=>?_,fun m t ht i l' hi he=>?_,fun m t ht l' ln C4 yX=>?_,J.first,fun k ln hk m t hm ht=>?_,?_⟩
 ·show(s.U ++ [_]).length <= 60
  rw[length_append,length_singleton];omega
 ·rcases el m t ht with h | ⟨_,rfl⟩
  ·exact J.lets m t h
  ·exact⟨x,y,rfl,rfl,hx,hy⟩
 ·rcases el m t ht with h | ⟨_,rfl⟩
  ·exact J.zu m t h
  ·exact⟨(fun l hl=>by cases hl),nodup_nil⟩
 ·obtain⟨m,t,e,ht,BZ⟩:=J.zL k ln hk q hq
  exact⟨m,t,e,eo m t ht,BZ⟩
 ·rcases el m t ht with h | ⟨_,rfl⟩
  ·exact J.Ai m t h
  ·exact⟨Int.le_refl _,hl.1,hl.2⟩
 ·rcases el m t ht with h | ⟨_,rfl⟩
  ·exact J.zH m t h hg
  ·rfl
 ·rcases el m t ht with h | ⟨_,rfl⟩
  ·exact J.last m t h i l' hi he
  ·cases hi
 ·rcases el m t ht with h | ⟨_,rfl⟩
  ·exact J.head m t h l' ln C4 yX
  ·cases C4
 ·obtain⟨m2,t2,e2,Eu,_⟩:=J.zL k ln hk _ hm
  have e2:(m:Int)=(m2:Int):=e2
  have e2:m=m2:=by omega
  subst e2
  rcases el m t ht with h | ⟨e,_⟩
  ·exact J.Cq k ln hk m t hm h
  ·rw[e]at Eu
   rw[List.getElem?_eq_none (Nat.le_refl _)]at Eu
   cases Eu
 ·have h:=J.sum
  have e:dX (cP s x y l u)=dX s:=by
   show((s.U ++ [(⟨(x:Int),(y:Int),l,u,0,[]⟩:aS)]).map _).sum=_
   rw[map_append,sum_append]
   simp[dX]
  rw[e];exact h
theorem zx.UD {K:Frag}{ys:Ys}{e e':List Addr}{H H':Hp}{a:YA}{s:YS}(h:zx K (yx ys e) H a s)(o:y8 H H')(hx:∀ b ∈ e',b ∈ e∨(H b=none/\∃ zs,H' b=some (.lst zs))):zx K (yx ys e') H' a s:=by
 have UE:∀ p:Addr,(∃ u,H p=some u)->p ∉ a.la :: a.le :: a.li :: a.dn :: e->p ∉ a.la :: a.le :: a.li :: a.dn :: e':=fun p ⟨u,hu⟩ hn z=>by
  have en:∀ q:List Addr,a.la :: a.le :: a.li :: a.dn :: q=[a.la,a.le,a.li,a.dn] ++ q:=fun _=>rfl
  rw[en]at z hn
  rcases mem_append.mp z with z | z
  ·exact hn (mem_append_left _ z)
  ·rcases hx p z with z | ⟨z,_⟩
   ·exact hn (mem_append_right _ z)
   ·rw[z]at hu;cases hu
 obtain⟨v1,h1,p1⟩:=h.hla
 obtain⟨v2,h2,p2⟩:=h.hle
 have h':=yH.same h o
 refine⟨h'.ins,h'.FI,⟨v1,o _ _ h1,Paired.mono (fun v ln z=>?_) p1⟩,⟨v2,o _ _ h2,Paired.mono (fun v t z=>?_) p2⟩,h'.Bg,h'.AO,h'.ne,fun b hb=>?_⟩
 ·obtain⟨x,dx,pa,yS,ev,L,n⟩:=z
  exact⟨x,dx,pa,yS,ev,L.same o,UE pa ⟨_,L.lst⟩ n⟩
 ·obtain⟨x,dx,wa,ev,C3,hw,n⟩:=z
  exact⟨x,dx,wa,ev,o _ _ C3,o _ _ hw,UE wa ⟨_,hw⟩ n⟩
 ·rcases hx b hb with z | ⟨_,z⟩
  ·obtain⟨zs,hz⟩:=h.hex b z
   exact⟨zs,o _ _ hz⟩
  ·exact z
theorem zx.PN {K:Frag}{ys:Ys}{e:List Addr}{H H':Hp}{a:YA}{s:YS}(h:zx K ys H a s)(o:yI e H H')(hs:∀ b ∈ e,b ∈ ys.ex)(hn:∀ b ∈ a.four,b ∉ e)(hl:∀ b ∈ e,∃ zs,H' b=some (.lst zs)):zx K ys H' a s:=by
 have o2:yI (a.la :: a.le :: a.li :: a.dn :: ys.ex) H H':=o.mono fun b hb=>by simp[hs b hb]
 obtain⟨h1,h2,f1,f2,f3,f4⟩:=yH.off h o2
 obtain⟨v1,a1,p1⟩:=h.hla
 obtain⟨v2,a2,p2⟩:=h.hle
 obtain⟨v3,a3,p3⟩:=h.Bg
 obtain⟨v4,a4,p4⟩:=h.AO
 refine⟨h1,h2,⟨v1,o _ _ (hn _ (by simp)) a1,f1 _ _ p1⟩,⟨v2,o _ _ (hn _ (by simp)) a2,f2 _ _ p2⟩,⟨v3,o _ _ (hn _ (by simp)) a3,f3 _ _ p3⟩,⟨v4,o _ _ (hn _ (by simp)) a4,f4 _ _ p4⟩,h.ne,fun b hb=>?_⟩
 by_cases CF:b ∈ e
 ·exact hl b CF
 ·obtain⟨zs,hz⟩:=h.hex b hb
  exact⟨zs,o _ _ CF hz⟩
theorem xI {m:Nat}{rs:List Int}(BX:rs.length=m)(Fn:∀ r ∈ rs,1 <= r/\r <= 60):oW m (rs.map V.int)=true:=by
 unfold oW
 rw[length_map,BX,decide_eq_true rfl,Bool.true_and,all_eq_true]
 intro v hv
 obtain⟨r,Ef,rfl⟩:=mem_map.mp hv
 exact decide_eq_true (Fn r Ef)
noncomputable def YdP (K:Frag)(c:Cs)(TC:Addr)(J:TJ)(ys:Ys)(ex:List Addr)(H:Hp)(tb:Addr)(ps:List (Int × Int))(n:Nat)(wy:Wf)(rs:List Int):VK:=fun v H'=>∃ a:YA,v = .ref a.y/\a.tb=tb/\a.ps=ps/\a.n=n/\a.wy=wy/\y8 H H'/\(∀ z ∈ a.four,H z=none)/\D1 K c TC J (yx ys ex) H' a (Y0 (rs.map V.int) n)/\zC a (Y0 (rs.map V.int) n)
theorem ui {P:Program}{w:World}{K:Frag}{c:Cs}{TC fw:Addr}{dw:FuncData}{J:TJ}{ys:Ys}{ex:List Addr}{H:Hp}{tb lx zq lt ra:Addr}{n:Nat}{yO:List V}{ps:List (Int × Int)}{wy:Wf}{rs:List Int}{E:XK}(W:Wy K TC fw dw J)
  (hT:zG c TC J H tb lx zq lt n yO ps wy) (Fz:∀ p g k,(wy p g k).length <= 400) (yL:∀ p ∈ ps,fM n p=true) (hR:yC K H ra (rs.map V.int)) (BX:rs.length=ps.length) (Fn:∀ r ∈ rs,1 <= r/\r <= 60) (hp:ps.length <= 40) (hex:∀ b ∈ ex,∃ xs,H b=some (.lst xs)) :
  ∀ y dy,H y=none->H dy=none->dy ≠ y->kT K c TC J (yx ys ex) [.ref y, .ref tb, .ref ra] (upd (upd H dy (.own y)) y (.ins ys.yB dy [])) (fun v H2=>v = .yQ/\YdP K c TC J ys ex H tb ps n wy rs (.ref y) H2) E:=by
 intro y dy ny PQ PR
 have s4:y8 H (upd (upd H dy (.own y)) y (.ins ys.yB dy [])):=y8.new (y8.new (y8.refl H) PQ) (by rw[af (Ne.symm PR)];exact ny)
 have PU:=xI BX Fn
 refine⟨y,dy,tb,lx,zq,lt,n,yO,ps,wy,_,rs.map V.int,rfl,ad,hT.keep W (y8.yT s4),(fun b hb=>let ⟨xs,hz⟩:=hex b hb; ⟨xs,s4 _ _ hz⟩), .inr ⟨ra,rfl, .inl (s4.seq hR),by rw[length_map];omega,(fun v hv=>by obtain⟨r,_,rfl⟩:=mem_map.mp hv;exact .int r),fun h=>by rw[PU]at h;cases h⟩,fun _ ro la le li dn H5 o5 Em FK JE Ms hY=>⟨rfl,?_⟩⟩
 have s5:y8 H H5:=fun b o e=>o5 b o (fun z=>by rw[mem_singleton.mp z,ny]at e;cases e) (s4 _ _ e)
 have hO:qw ⟨y,dy,tb,ro,la,le,li,dn,lx,zq,lt,n,yO,ps,wy⟩:=by
  refine⟨fun l pr hl=>?_,Fz⟩
  have B9:=yL pr (mem_of_getElem? hl)
  unfold fM at B9
  simp only[Bool.and_eq_true,decide_eq_true_eq,Bool.not_eq_true',decide_eq_false_iff_not]at B9
  exact⟨pr.2.toNat,by omega,by show pr.2.toNat < n;omega⟩
 have hJ:zC ⟨y,dy,tb,ro,la,le,li,dn,lx,zq,lt,n,yO,ps,wy⟩ (Y0 (rs.map V.int) n):=(PM (a:=⟨y,dy,tb,ro,la,le,li,dn,lx,zq,lt,n,yO,ps,wy⟩) (by rw[length_map];exact BX)).jnv (zero_le _) (by show ps.length <= 40;omega)
 refine⟨⟨y,dy,tb,ro,la,le,li,dn,lx,zq,lt,n,yO,ps,wy⟩,rfl,rfl,rfl,rfl,rfl,s5,fun z hz=>?_,⟨hY,hT.keep W (y8.yT s5),hO,hJ.ok⟩,hJ⟩
 have hz:z ∈ [la,le,li,dn]:=hz
 simp only[mem_cons,not_mem_nil,or_false]at hz
 rcases hz with rfl | rfl | rfl | rfl
 ·exact s4.free Em
 ·exact s4.free FK
 ·exact s4.free JE
 ·exact s4.free Ms
theorem gi {α:Type}{R:Hp->V->α->Prop}{g:TG}{te:TE}{σ0:St}{H:Hp}{Q:VK}(mono:∀ {H H':Hp},y8 H H'->∀ v a,R H v a->R H' v a)(as:List α)(hn:as.length < sizeLine)
  (hs:∀ (i:Nat)(a:α)(H1:Hp)(N:V->Hp->Prop),as[i]? = some a->y8 H H1->(∀ v H2,y8 H1 H2->R H2 v a->N v H2)->g (.int i) σ0 H1 fun σ2 H2=>te σ2 H2 N)
  (hq:∀ D vs H1,y8 H H1->H1 D=none->Paired (R H1) vs as->Q (.ref D) (upd H1 D (.lst vs))):cO (ug 0 as.length) g kP te σ0 Q H:=by
 refine bu as.length hn (fun i acc H'=>y8 H H'/\Paired (R H') acc (as.take i)) ⟨y8.refl _, .nil⟩ (fun i acc H' h=>by rw[Paired.length h.2];exact length_take_le _ _) (fun i acc H' hi h=>?_) (fun acc H' h=>?_)
 ·obtain⟨s,hL⟩:=h
  refine⟨hi,fun v H2 y=>?_⟩
  obtain⟨rfl,rfl⟩:=y
  rw[zero_add]
  refine hs i as[i] H2 (fun y H4=>y8 H H4/\Paired (R H4) (acc ++ [y]) (as.take (i + 1))) (getElem?_eq_getElem hi) s fun v H3 s3 hv=>⟨s.trans s3,?_⟩
  rw[take_succ,getElem?_eq_getElem hi]
  exact Paired.snoc hv (Paired.mono (mono s3) hL)
 ·obtain⟨s,hL⟩:=h
  rw[take_length]at hL
  exact⟨Nat.le_refl _,fun D hD=>hq D acc H' s hD hL⟩
noncomputable def kE (s:YS):Bool:=decide ((s.U.map (·.len)).sum=(s.lies.map fun q=>(q.length:Int)).sum)
noncomputable def PV (s:Stmt):Scope:=match s with
 | .Return (some (.Compare (.Call _ [.ListComp _ _ sc _] _ _) _ _ _)) _=>sc
 | _=>zQ0
noncomputable def PX (s:Stmt):Scope:=match s with
 | .Return (some (.Compare _ _ [.Call _ [.ListComp _ _ sc _] _ _] _)) _=>sc
 | _=>zQ0
noncomputable def i3 (K:Frag)(ys:Ys):Sp:=fun vs H Q _=>∃ (y dy tb ro la le li dn:Addr)(s:YS),vs=[.ref y]/\yH K ys H y dy tb ro la le li dn s/\s.U.length <= 900/\s.lies.length <= 900/\∀ H',y8 H H'->Q (.bl (kE s)) H'
theorem PY:ap ["self"] ["self"] (ah fG):=L2.ze
theorem PZ:zF ["self"] (ah fG) (PV ((aF fG).getD 0 (.Pass ⟨0,0,0,0⟩))) [] []:=L2.Ah
theorem Qa:zF ["self"] (ah fG) (PX ((aF fG).getD 0 (.Pass ⟨0,0,0,0⟩))) [] []:=L2.Ah
theorem Qb:(["letter"]:List Str).Nodup:=by decide +kernel
theorem Qc:(["pieces"]:List Str).Nodup:=by decide +kernel
theorem sI {ys:Ys}{f:Addr}{fd:FuncData}(F:yY K "ended" "Yard.ended" fG f fd)(T:dP mg)(Y:gE K ys):y9 P w K mg base aC 1 f fd ["self"] (i3 K ys):=by
 refine F.ok PY (fun _ _ _ _ h=>?_) (fun _ _ _ s H _ Q E hr h=>?_)
 ·obtain⟨y,dy,tb,ro,la,le,li,dn,st,rfl,_⟩:=h
  rfl
 ·obtain⟨y,dy,tb,ro,la,le,li,dn,st,rfl,hY,h9,h92,q⟩:=h
  refine⟨_,ag (ar (cy bK (aw (eJ rfl) rfl T.sum PyProof.Rows.boot_sum (aa (aQ (own:=["letter"]) (capN:=[]) (cap:=[]) PZ rfl (aV (am (pv 0) rfl)) (fun C s' H' fp=>⟨av (i:=0) Qb rfl (Or.inl rfl),b9,(show PE _ _ (kQ K (jC 0) "length") from am (pv 0) rfl)⟩)) ac))
   (aw (eJ rfl) rfl T.sum PyProof.Rows.boot_sum (aa (aQ (own:=["pieces"]) (capN:=[]) (cap:=[]) Qa rfl (aV (am (pv 0) rfl)) (fun C s' H' fp=>⟨av (i:=0) Qc rfl (Or.inl rfl),b9,aw (show c6 _ (.builtin "len") (JT K) from aq) rfl T.len PySem.boot_len (aa (pv 0) ac)⟩)) ac)) (aA _))),?_⟩
  obtain⟨yO,zR,pl⟩:=hY.hle
  have zV:=Paired.length pl
  refine⟨_,rfl,y,ys.yB,dy,_,_,rfl,hY.ins,Y.cl,Y.n4,rfl,le,rfl,⟨_,yC.of zR⟩,?_⟩
  refine eV (fun i => .int (st.U.getD i ⟨0,0,0,0,0,[]⟩).len) (by rw[sizeLine_eq];omega) (yC.of zR) (fun i x N hx h=>?_) (fun D hD=>?_)
  ·obtain⟨lt,zb,x',dx,wa,rfl,C3,_⟩:=Paired.at pl hx
   rw[getD_eq_getElem?_getD,zb]at h
   exact⟨_,rfl,x',ys.yA,dx,_,_,rfl,C3,Y.ct,Y.t3,rfl,h⟩
  have e1:(List.range yO.length).map (fun i=>V.int (st.U.getD i ⟨0,0,0,0,0,[]⟩).len)=(st.U.map (·.len)).map V.int:=by
   rw[zV,map_map]
   exact fH st.U _ fun s=>V.int s.len
  rw[e1]
  have s1:=(y8.refl H).new (o := .lst ((st.U.map (·.len)).map V.int)) hD
  have gD:(upd H D (.lst ((st.U.map (·.len)).map V.int))) D=some (.lst ((st.U.map (·.len)).map V.int)):=ad
  generalize upd H D (.lst ((st.U.map (·.len)).map V.int))=H1 at s1 gD ⊢
  refine⟨D,_,rfl,yC.of gD,?_⟩
  have zM:=hY.same s1
  obtain⟨AI,Dx,ph⟩:=zM.Bg
  have hhl:=Paired.length ph
  refine⟨_,rfl,y,ys.yB,dy,_,_,rfl,zM.ins,Y.cl,Y.n5,rfl,li,rfl,⟨_,yC.of Dx⟩,?_⟩
  refine eV (fun i => .int ((st.lies.getD i []).length:Nat)) (by rw[sizeLine_eq];omega) (yC.of Dx) (fun i x N hx h=>?_) (fun D2 Ap=>?_)
  ·obtain⟨qs,AK,t,vs,rfl,ht,hL⟩:=Paired.at ph hx
   rw[getD_eq_getElem?_getD,AK]at h
   have Bf:vs.length=qs.length:=Paired.length hL
   refine⟨_,rfl,t,vs,rfl, .inr (yN.of ht),?_⟩
   rw[Bf]
   exact h
  have e2:(List.range AI.length).map (fun i=>V.int ((st.lies.getD i []).length:Nat))=(st.lies.map fun q=>(q.length:Int)).map V.int:=by
   rw[hhl,map_map]
   exact fH st.lies _ fun q=>V.int (q.length:Nat)
  rw[e2]
  refine⟨D2,_,rfl,yC.of ad,rfl,?_⟩
  rw[bE]
  exact q _ (s1.new Ap)
noncomputable def cnt (m:Nat)(qs:List (Int × Int)):List Int:=(qs.filter fun q=>decide (q.1=(m:Int))).map (·.2)
noncomputable def fW (x y:Nat):List Int:=(List.range' x (y - x)).map fun z:Nat=>(z:Int)
theorem cR (m:Nat)(xs ys:List (Int × Int)):cnt m (xs ++ ys)=cnt m xs ++ cnt m ys:=by
 unfold cnt;rw[filter_append,map_append]
theorem dN (m m':Nat)(c:Int):cnt m [((m':Int),c)]=if m' = m then [c] else []:=by
 unfold cnt
 by_cases h:m' = m
 ·subst h;simp
 ·rw[if_neg h,filter_cons_of_neg (by simp;omega)];rfl
theorem pB {m:Nat}{qs:List (Int × Int)}(h:∀ q ∈ qs,q.1 ≠ (m:Int)):cnt m qs=[]:=by
 unfold cnt
 rw[filter_eq_nil_iff.mpr (fun q hq=>by simpa using h q hq)];rfl
theorem lu {x y:Nat}(h:x < y):fW x y=(x:Int) :: fW (x + 1) y:=by
 unfold fW
 rw[show y - x=(y - (x + 1)) + 1 by omega,List.range'_succ];rfl
theorem fV {x y:Nat}(h:y <= x):fW x y=[]:=by
 unfold fW
 rw[show y - x=0 by omega];rfl
theorem iO {x y:Nat}(h:x <= y):fW x (y + 1)=fW x y ++ [(y:Int)]:=by
 unfold fW
 rw[show y + 1 - x=(y - x) + 1 by omega,List.range'_1_concat,map_append]
 show _ ++ [((x + (y - x):Nat):Int)]=_
 rw[show x + (y - x)=y by omega]
theorem uB (x y:Nat):(fW x y).length=y - x:=by unfold fW;rw[length_map,List.length_range']
theorem qr {m:Nat}{qs:List (Int × Int)}{c:Int}{x y:Nat}(h:qs.head? = some ((m:Int),c))(e:cnt m qs=fW x y):x < y/\c=(x:Int)/\cnt m qs.tail=fW (x + 1) y/\∀ m',m' ≠ m->cnt m' qs.tail=cnt m' qs:=by
 cases qs with
 | nil=>cases h
 | cons q qs =>
  cases h
  rw[show((m:Int),c) :: qs=[((m:Int),c)] ++ qs from rfl,cR,dN,if_pos rfl]at e
  have Fo:x < y:=by
   rcases lt_or_ge x y with h | h
   ·exact h
   ·rw[fV h]at e;cases e
  rw[lu Fo]at e
  have e1:c :: cnt m qs=(x:Int) :: fW (x + 1) y:=e
  refine⟨Fo,(List.cons.inj e1).1,(List.cons.inj e1).2,fun m' hm=>?_⟩
  rw[show((m:Int),c) :: qs=[((m:Int),c)] ++ qs from rfl,cR,dN,if_neg (Ne.symm hm)];rfl
theorem tQ {m:Nat}{qs:List (Int × Int)}{q:Int × Int}{x y:Nat}(h:qs.getLast? = some q)(hq:q.1=(m:Int))(e:cnt m qs=fW x y):q.2 + 1=(y:Int)/\x < y:=by
 obtain⟨ys,rfl⟩:=List.getLast?_eq_some_iff.mp h
 obtain⟨q1,q2⟩:=q
 have hq:q1=(m:Int):=hq
 subst hq
 rw[cR,dN,if_pos rfl]at e
 rcases lt_or_ge x y with Fo | Fo
 ·obtain⟨z,rfl⟩:∃ z,y=z + 1:=⟨y - 1,by omega⟩
  rw[iO (by omega)]at e
  have:=List.append_inj_right' e rfl
  have:q2=(z:Int):=(List.cons.inj this).1
  exact⟨by show q2 + 1=_;omega,Fo⟩
 ·rw[fV Fo]at e
  exact absurd e (by simp)
noncomputable def Ko (s:YS)(p q:Int × Int):Prop:=(q.1=p.1/\q.2=p.2 + 1)∨(q.2=0/\∃ (m:Nat)(t:aS),p.1=(m:Int)/\s.U[m]? = some t/\p.2=t.len - 1)
structure zW (a:YA)(s:YS)(N D:Nat->Nat->Nat):Prop where
 g0:∀ (m:Nat)(t:aS),s.U[m]? = some t->((N m 0 + D m 0:Nat):Int)=t.gone
 gl:∀ (m:Nat)(t:aS),s.U[m]? = some t->t.gone <= t.len
 CL:∀ (m:Nat)(t:aS),s.U[m]? = some t->∀ i,t.way.length < i->N m i + D m i=0
 top:∀ (m:Nat)(t:aS),s.U[m]? = some t->t.way=[]->N m 0=0
 dn:∀ (m:Nat)(t:aS),s.U[m]? = some t->∀ i,i < t.way.length->N m (i + 1) + D m (i + 1) <= N m i/\0 < N m i/\(N m i:Int) <= t.len
 q:∀ (m:Nat)(t:aS),s.U[m]? = some t->∀ (i k:Nat)(ln:bC),t.way[i]? = some k->s.lanes[k]? = some ln->cnt m ln.qs=fW (N m (i + 1) + D m (i + 1)) (N m i)
 own:∀ (k:Nat)(ln:bC),s.lanes[k]? = some ln->∀ p ∈ ln.qs,∃ (m:Nat)(t:aS),p.1=(m:Int)/\s.U[m]? = some t/\k ∈ t.way
 nd:∀ (m:Nat)(t:aS),s.U[m]? = some t->t.way.Nodup
 zZ:∀ (m:Nat)(t:aS),s.U[m]? = some t->∀ (p:Nat)(qs:List (Int × Int)),s.lies[p]? = some qs->cnt m qs=if (p:Int)=t.goal then fW 0 (N m t.way.length) else []
 Br:∀ (p:Nat)(qs:List (Int × Int)),s.lies[p]? = some qs->∀ q ∈ qs,∃ (m:Nat)(t:aS),q.1=(m:Int)/\s.U[m]? = some t
 hold:∀ (k:Nat)(ln:bC),s.lanes[k]? = some ln->∀ (m:Nat)(t:aS),s.U[m]? = some t->(ln.h=some (m:Int)↔∃ i,t.way[i]? = some k/\(N m i:Int) < t.len)
 AX:∀ (k:Nat)(ln:bC),s.lanes[k]? = some ln->∀ z,ln.h=some z->∃ (m:Nat)(t:aS),z=(m:Int)/\s.U[m]? = some t
 room:∀ (k:Nat)(ln:bC),s.lanes[k]? = some ln->s.rooms[k]? = some (.int (ln.r + ln.b + ln.qs.length))/\0 <= ln.r/\0 <= ln.b
 DR:∀ (k:Nat)(ln:bC),s.lanes[k]? = some ln->∀ (i:Nat)(p q:Int × Int),ln.qs[i]? = some p->ln.qs[i + 1]? = some q->Ko s p q
 lst:∀ (k:Nat)(ln:bC),s.lanes[k]? = some ln->∀ q,ln.qs.getLast? = some q->ln.h=some q.1∨(ln.h=none/\∃ (m:Nat)(t:aS),q.1=(m:Int)/\s.U[m]? = some t/\q.2=t.len - 1)
noncomputable def zr:Nat->Nat->Nat:=fun _ _=>0
noncomputable def c9 (m0 i0:Nat):Nat->Nat->Nat:=fun m i=>if m=m0/\i=i0 then 1 else 0
theorem eB (m i:Nat):c9 m i m i=1:=if_pos ⟨rfl,rfl⟩
theorem dR {m0 i0 m i:Nat}(h:m ≠ m0):c9 m0 i0 m i=0:=if_neg fun z=>h z.1
theorem c3 {m0 i0 m i:Nat}(h:i ≠ i0):c9 m0 i0 m i=0:=if_neg fun z=>h z.2
theorem ck {l:List Nat}(h:l.Nodup){i j x:Nat}(hi:l[i]? = some x)(hj:l[j]? = some x):i=j:=by
 obtain⟨h1,e1⟩:=List.getElem?_eq_some_iff.mp hi
 obtain⟨h2,e2⟩:=List.getElem?_eq_some_iff.mp hj
 exact(List.getElem_inj h).mp (e1.trans e2.symm)
theorem tX {s:YS}{qs:List (Int × Int)}(h:∀ (i:Nat) (p q:Int × Int),qs[i]? = some p->qs[i + 1]? = some q->Ko s p q):∀ (i:Nat)(p q:Int × Int),qs.tail[i]? = some p->qs.tail[i + 1]? = some q->Ko s p q:=fun i p q hp hq=>by
 rw[List.getElem?_tail]at hp hq
 exact h (i + 1) p q hp hq
theorem qd {α:Type}{qs:List α}{q:α}(h:qs.tail.getLast? = some q):qs.getLast? = some q:=by
 cases qs with
 | nil=>cases h
 | cons x qs =>
  cases qs with
  | nil=>cases h
  | cons y qs=>rw[List.getLast?_cons_cons];exact h
theorem zW.pull {a:YA}{s:YS}{N:Nat->Nat->Nat}(G:zW a s N zr){k m:Nat}{c:Int}{lk:bC}{t:aS}(hk:s.lanes[k]? = some lk)(hq:lk.qs.head? = some ((m:Int),c))(ht:s.U[m]? = some t) :
  ∃ i,t.way[i]? = some k/\c=(N m (i + 1):Int)/\N m (i + 1) < N m i/\zW a { s with lanes:=s.lanes.set k (bU lk) } N (c9 m (i + 1)):=by
 have Ke:((m:Int),c) ∈ lk.qs:=mem_of_mem_head? hq
 obtain⟨m',t',e,G6,BZ⟩:=G.own k lk hk _ Ke
 have e:(m:Int)=(m':Int):=e
 have e:m' = m:=by omega
 subst e
 rw[ht]at G6;cases G6
 obtain⟨i,hi⟩:=List.getElem?_of_mem BZ
 have Ew:=(gQ0 hi)
 obtain⟨f1,f2,f3,f4⟩:=qr hq (G.q m' t ht i k lk hi hk)
 have f1:N m' (i + 1) < N m' i:=f1
 have f3:cnt m' lk.qs.tail=fW (N m' (i + 1) + 1) (N m' i):=f3
 refine⟨i,hi,f2,f1,?_⟩
 have tl:lk.qs=((m':Int),c) :: lk.qs.tail:=by
  cases hx:lk.qs with
  | nil=>rw[hx]at hq;cases hq
  | cons x xs=>rw[hx]at hq;cases hq;rfl
 refine⟨fun m t h=>?_,G.gl,fun m t h j hj=>?_,G.top,fun m t h j hj=>?_,fun m t h j kk ln hj hl=>?_,fun kk ln hl p hp=>?_,G.nd,G.zZ,G.Br,fun kk ln hl=>?_,fun kk ln hl=>?_,fun kk ln hl=>?_,fun kk ln hl=>?_,fun kk ln hl=>?_⟩
 ·have:=G.g0 m t h
  rw[c3 (by omega)];exact this
 ·have h1:=G.CL m t h j hj
  by_cases e:m=m'
  ·subst e
   rw[ht]at h;cases h
   rw[c3 (by omega)];exact h1
  ·rw[dR e];exact h1
 ·obtain⟨h1,h2,h3⟩:=G.dn m t h j hj
  refine⟨?_,h2,h3⟩
  have h1:N m (j + 1) <= N m j:=h1
  by_cases e:m=m'/\j + 1=i + 1
  ·obtain⟨rfl,e⟩:=e
   have:j=i:=by omega
   subst this
   rw[eB];omega
  ·show N m (j + 1) + c9 m' (i + 1) m (j + 1) <= _
   unfold c9;rw[if_neg e];omega
 ·rcases aY hl with ⟨rfl,rfl⟩ | ⟨zc,hl⟩
  ·show cnt m lk.qs.tail=_
   by_cases e:m=m'
   ·subst e
    rw[ht]at h;cases h
    have:j=i:=ck (G.nd _ _ ht) hj hi
    subst this
    rw[eB];exact f3
   ·rw[dR e,f4 m e];exact G.q m t h j kk lk hj hk
  ·by_cases e:m=m'/\j + 1=i + 1
   ·obtain⟨rfl,e⟩:=e
    have:j=i:=by omega
    subst this
    rw[ht]at h;cases h
    rw[hi]at hj;cases hj
    exact absurd rfl zc
   ·unfold c9;rw[if_neg e];exact G.q m t h j kk ln hj hl
 ·rcases aY hl with ⟨rfl,rfl⟩ | ⟨_,hl⟩
  ·exact G.own kk lk hk p (by rw[tl];exact mem_cons_of_mem _ hp)
  ·exact G.own kk ln hl p hp
 ·rcases aY hl with ⟨rfl,rfl⟩ | ⟨_,hl⟩
  ·exact G.hold kk lk hk
  ·exact G.hold kk ln hl
 ·rcases aY hl with ⟨rfl,rfl⟩ | ⟨_,hl⟩
  ·exact G.AX kk lk hk
  ·exact G.AX kk ln hl
 ·rcases aY hl with ⟨rfl,rfl⟩ | ⟨_,hl⟩
  ·obtain⟨r1,r2,r3⟩:=G.room kk lk hk
   refine⟨?_,r2,?_⟩
   ·show s.rooms[kk]? = some (.int (lk.r + (lk.b + 1) + lk.qs.tail.length))
    rw[r1]
    have:lk.qs.length=lk.qs.tail.length + 1:=by rw[tl];rfl
    rw[this]
    congr 2;omega
   ·show 0 <= lk.b + 1;omega
  ·exact G.room kk ln hl
 ·rcases aY hl with ⟨rfl,rfl⟩ | ⟨_,hl⟩
  ·exact tX (s:={ s with lanes:=s.lanes.set kk (bU lk) }) (G.DR kk lk hk)
  ·exact G.DR kk ln hl
 ·rcases aY hl with ⟨rfl,rfl⟩ | ⟨_,hl⟩
  ·exact fun q hq=>G.lst kk lk hk q (qd hq)
  ·exact G.lst kk ln hl
theorem zW.leave {a:YA}{s:YS}{N:Nat->Nat->Nat}(G:zW a s N zr){m:Nat}{t:aS}(ht:s.U[m]? = some t)(hg:t.gone ≠ t.len):zW a (bV s m t) N (c9 m 0):=by
 have gl:=G.gl m t ht
 have key:∀ (m':Nat)(t':aS),(bV s m t).U[m']? = some t'->∃ t2,s.U[m']? = some t2/\t'.way=t2.way/\t'.len=t2.len/\t'.goal=t2.goal/\(m' ≠ m->t' = t2)/\(m' = m->t'.gone=t.gone + 1/\t2=t):=fun m' t' h=>by
  have h:(s.U.set m { t with gone:=t.gone + 1 })[m']? = some t':=h
  rcases aY h with ⟨rfl,rfl⟩ | ⟨zc,h⟩
  ·exact⟨t,ht,rfl,rfl,rfl,fun z=>absurd rfl z,fun _=>⟨rfl,rfl⟩⟩
  ·exact⟨t',h,rfl,rfl,rfl,fun _=>rfl,fun z=>absurd z zc⟩
 have back:∀ (m':Nat)(t2:aS),s.U[m']? = some t2->∃ t',(bV s m t).U[m']? = some t'/\t'.way=t2.way/\t'.len=t2.len:=fun m' t2 h=>by
  by_cases e:m' = m
  ·subst e
   rw[ht]at h;cases h
   exact⟨{ t with gone:=t.gone + 1 },cv ht,rfl,rfl⟩
  ·exact⟨t2,by show(s.U.set m _)[m']? = _;rw[getElem?_set_ne (Ne.symm e)];exact h,rfl,rfl⟩
 refine⟨fun m' t' h=>?_,fun m' t' h=>?_,fun m' t' h j hj=>?_,fun m' t' h hw=>?_,fun m' t' h j hj=>?_,fun m' t' h j kk ln hj hl=>?_,fun kk ln hl p hp=>?_,fun m' t' h=>?_,fun m' t' h p qs hp=>?_,fun p qs hp q hq=>?_,fun kk ln hl m' t' h=>?_,fun kk ln hl z hz=>?_,G.room,fun kk ln hl i p q hp hq=>?_,fun kk ln hl q hq=>?_⟩
 ·obtain⟨t2,h2,ew,el,eg,ne,eq⟩:=key m' t' h
  have h0:=G.g0 m' t2 h2
  by_cases e:m' = m
  ·obtain⟨e1,rfl⟩:=eq e
   subst e
   rw[eB,e1,← h0];show((N m' 0 + 1:Nat):Int)=((N m' 0 + 0:Nat):Int) + 1;omega
  ·rw[dR e,ne e];exact h0
 ·obtain⟨t2,h2,ew,el,eg,ne,eq⟩:=key m' t' h
  by_cases e:m' = m
  ·obtain⟨e1,rfl⟩:=eq e
   rw[e1,el];omega
  ·rw[ne e];exact G.gl m' t2 h2
 ·obtain⟨t2,h2,ew,el,eg,ne,eq⟩:=key m' t' h
  rw[c3 (by omega)];exact G.CL m' t2 h2 j (by rw[← ew];exact hj)
 ·obtain⟨t2,h2,ew,el,eg,ne,eq⟩:=key m' t' h
  exact G.top m' t2 h2 (by rw[← ew];exact hw)
 ·obtain⟨t2,h2,ew,el,eg,ne,eq⟩:=key m' t' h
  rw[c3 (by omega),el];exact G.dn m' t2 h2 j (by rw[← ew];exact hj)
 ·obtain⟨t2,h2,ew,el,eg,ne,eq⟩:=key m' t' h
  rw[c3 (by omega)];exact G.q m' t2 h2 j kk ln (by rw[← ew];exact hj) hl
 ·obtain⟨m',t2,e,h2,hw⟩:=G.own kk ln hl p hp
  obtain⟨t',h',ew,_⟩:=back m' t2 h2
  exact⟨m',t',e,h',by rw[ew];exact hw⟩
 ·obtain⟨t2,h2,ew,_⟩:=key m' t' h
  rw[ew];exact G.nd m' t2 h2
 ·obtain⟨t2,h2,ew,el,eg,_⟩:=key m' t' h
  rw[ew,eg];exact G.zZ m' t2 h2 p qs hp
 ·obtain⟨m',t2,e,h2⟩:=G.Br p qs hp q hq
  obtain⟨t',h',_⟩:=back m' t2 h2
  exact⟨m',t',e,h'⟩
 ·obtain⟨t2,h2,ew,el,eg,_⟩:=key m' t' h
  rw[ew,el];exact G.hold kk ln hl m' t2 h2
 ·obtain⟨m',t2,e,h2⟩:=G.AX kk ln hl z hz
  obtain⟨t',h',_⟩:=back m' t2 h2
  exact⟨m',t',e,h'⟩
 ·rcases G.DR kk ln hl i p q hp hq with z | ⟨z,m',t2,e,h2,e2⟩
  ·exact .inl z
  ·obtain⟨t',h',_,el⟩:=back m' t2 h2
   exact .inr ⟨z,m',t',e,h',by rw[el];exact e2⟩
 ·rcases G.lst kk ln hl q hq with z | ⟨z,m',t2,e,h2,e2⟩
  ·exact .inl z
  ·obtain⟨t',h',_,el⟩:=back m' t2 h2
   exact .inr ⟨z,m',t',e,h',by rw[el];exact e2⟩
theorem zW.enter {a:YA}{s:YS}{N:Nat->Nat->Nat}{m i l:Nat}{c:Int}{t:aS}{ln:bC}(G:zW a s N (c9 m i))(ht:s.U[m]? = some t)(hc:c=(N m i:Int))(h0:c=0->i=t.way.length/\l ∉ t.way)(h1:c ≠ 0->t.way[i]? = some l)(hlen:c + 1 <= t.len)(yX:s.lanes[l]? = some ln)(ho:bT ln.r ln.h m c=true) :
  zW a (cb s m c l t ln) (fun m' i'=>N m' i' + c9 m i m' i') zr:=by
 obtain⟨BW,zy⟩:ln.r ≠ 0/\if c=0 then ln.h=none else ln.h=some (m:Int):=by
  unfold bT at ho
  by_cases hr:ln.r=0
  ·rw[if_pos hr]at ho;cases ho
  ·rw[if_neg hr]at ho
   by_cases h:c=0
   ·rw[if_pos h]at ho ⊢;exact⟨hr,of_decide_eq_true ho⟩
   ·rw[if_neg h]at ho ⊢;exact⟨hr,of_decide_eq_true ho⟩
 obtain⟨t1,CM,w1,el,eg,UG,hw⟩:∃ t1:aS,(cb s m c l t ln).U[m]? = some t1/\t1.way=(if c=0 then t.way ++ [l] else t.way)/\t1.len=t.len/\t1.goal=t.goal/\t1.gone=t.gone/\t1.way[i]? = some l:=by
  by_cases h:c=0
  ·refine⟨{ t with way:=t.way ++ [l] },?_,by rw[if_pos h],rfl,rfl,rfl,?_⟩
   ·show(if c=0 then s.U.set m { t with way:=t.way ++ [l] } else s.U)[m]? = _
    rw[if_pos h];exact cv ht
   ·show(t.way ++ [l])[i]? = some l
    rw[(h0 h).1,getElem?_concat_length]
  ·refine⟨t,?_,by rw[if_neg h],rfl,rfl,rfl,h1 h⟩
   show(if c=0 then s.U.set m { t with way:=t.way ++ [l] } else s.U)[m]? = _
   rw[if_neg h];exact ht
 have key:∀ (m':Nat)(t':aS),(cb s m c l t ln).U[m']? = some t'->(m' = m/\t' = t1)∨(m' ≠ m/\s.U[m']? = some t'):=fun m' t' h=>by
  by_cases e:m' = m
  ·subst e
   rw[CM]at h;cases h;exact .inl ⟨rfl,rfl⟩
  ·refine .inr ⟨e,?_⟩
   have h:(if c=0 then s.U.set m { t with way:=t.way ++ [l] } else s.U)[m']? = some t':=h
   by_cases hc0:c=0
   ·rw[if_pos hc0,getElem?_set_ne (Ne.symm e)]at h;exact h
   ·rw[if_neg hc0]at h;exact h
 have back:∀ (m':Nat)(t2:aS),s.U[m']? = some t2->∃ t',(cb s m c l t ln).U[m']? = some t'/\(∀ x ∈ t2.way,x ∈ t'.way)/\t'.len=t2.len:=fun m' t2 h=>by
  by_cases e:m' = m
  ·subst e
   rw[ht]at h;cases h
   refine⟨t1,CM,fun x hx=>?_,el⟩
   rw[w1];split
   ·exact mem_append_left _ hx
   ·exact hx
  ·refine⟨t2,?_,fun x hx=>hx,rfl⟩
   show(if c=0 then s.U.set m { t with way:=t.way ++ [l] } else s.U)[m']? = _
   split
   ·rw[getElem?_set_ne (Ne.symm e)];exact h
   ·exact h
 have Kp:∀ (j k:Nat),t1.way[j]? = some k->j ≠ i->t.way[j]? = some k:=fun j k hj zc=>by
  rw[w1]at hj
  by_cases h:c=0
  ·rw[if_pos h]at hj
   have zb:=(gQ0 hj)
   rw[length_append,length_singleton]at zb
   have:=(h0 h).1
   rwa [getElem?_append_left (by omega)]at hj
  ·rw[if_neg h]at hj;exact hj
 have G7:t1.way.length=if c=0 then i + 1 else t.way.length:=by
  rw[w1];split
  ·rename_i h
   rw[length_append,length_singleton,(h0 h).1]
  ·rfl
 have Ew:c ≠ 0->i < t.way.length:=fun h=>(List.getElem?_eq_some_iff.mp (h1 h)).1
 have Jj:t1.way.Nodup:=by
  rw[w1];split
  ·rename_i h
   refine nodup_append.mpr ⟨G.nd m t ht,by simp,fun x hx y hy e=>?_⟩
   rw[mem_singleton]at hy
   subst hy;subst e
   exact(h0 h).2 hx
  ·exact G.nd m t ht
 have Aa:∀ {kk:Nat}{zm:bC},(cb s m c l t ln).lanes[kk]? = some zm->(kk=l/\zm = dL ln m c t.len)∨(kk ≠ l/\s.lanes[kk]? = some zm):=fun h=>aY h
 have DD:∀ m',m' ≠ m->cnt m' (ln.qs ++ [((m:Int),c)])=cnt m' ln.qs:=fun m' hm=>by
  rw[cR,dN,if_neg (Ne.symm hm),append_nil]
 have M4:cnt m ln.qs=fW (N m (i + 1)) (N m i)/\N m (i + 1) <= N m i:=by
  by_cases h:c=0
  ·have e0:N m i=0:=by omega
   have f1:=G.CL m t ht (i + 1) (by have:=(h0 h).1;omega)
   rw[c3 (by omega)]at f1
   have f1:N m (i + 1)=0:=by omega
   rw[e0,f1]
   refine⟨?_,Nat.le_refl _⟩
   rw[fV (Nat.le_refl _)]
   refine pB fun q hq e=>?_
   obtain⟨m',t',e',G6,CK⟩:=G.own l ln yX q hq
   have:m' = m:=by rw[e]at e';omega
   subst this
   rw[ht]at G6;cases G6
   exact(h0 h).2 CK
  ·have:=G.q m t ht i l ln (h1 h) yX
   rw[c3 (by omega)]at this
   have hd:=(G.dn m t ht i (Ew h)).1
   rw[c3 (by omega)]at hd
   exact⟨this,hd⟩
 have z0:∀ m' j,(zr m' j)=0:=fun _ _=>rfl
 refine⟨fun m' t' h=>?_,fun m' t' h=>?_,fun m' t' h j hj=>?_,fun m' t' h CK=>?_,fun m' t' h j hj=>?_,fun m' t' h j kk zm hj hl=>?_,fun kk zm hl p hp=>?_,fun m' t' h=>?_,fun m' t' h p qs hp=>?_,fun p qs hp q hq=>?_,fun kk zm hl m' t' h=>?_,fun kk zm hl z hz=>?_,fun kk zm hl=>?_,fun kk zm hl j p q hp hq=>?_,fun kk zm hl q hq=>?_⟩
 ·rcases key m' t' h with ⟨rfl,rfl⟩ | ⟨zc,h⟩
  ·rw[UG,← G.g0 _ t ht];rfl
  ·exact G.g0 m' t' h
 ·rcases key m' t' h with ⟨rfl,rfl⟩ | ⟨zc,h⟩
  ·rw[UG,el];exact G.gl _ t ht
  ·exact G.gl m' t' h
 ·rcases key m' t' h with ⟨rfl,rfl⟩ | ⟨zc,h⟩
  ·refine G.CL _ t ht j ?_
   rw[G7]at hj
   by_cases hc0:c=0
   ·rw[if_pos hc0]at hj;have:=(h0 hc0).1;omega
   ·rw[if_neg hc0]at hj;exact hj
  ·exact G.CL m' t' h j hj
 ·rcases key m' t' h with ⟨rfl,rfl⟩ | ⟨zc,h⟩
  ·rw[CK]at hw;cases hw
  ·show N m' 0 + c9 m i m' 0=0
   rw[dR zc];exact G.top m' t' h CK
 ·rcases key m' t' h with ⟨rfl,rfl⟩ | ⟨zc,h⟩
  ·show N m' (j + 1) + c9 m' i m' (j + 1) + 0 <= N m' j + c9 m' i m' j/\0 < N m' j + c9 m' i m' j/\((N m' j + c9 m' i m' j:Nat):Int) <= t'.len
   rw[el]
   by_cases e:j=i
   ·subst e
    rw[eB,c3 (by omega)]
    have:=M4.2
    exact⟨by omega,by omega,by omega⟩
   ·have HC:j < t.way.length:=by
     rw[G7]at hj
     by_cases hc0:c=0
     ·rw[if_pos hc0]at hj;have:=(h0 hc0).1;omega
     ·rw[if_neg hc0]at hj;exact hj
    obtain⟨d1,d2,d3⟩:=G.dn _ t ht j HC
    have:c9 m' i m' j=0:=c3 e
    rw[this]
    exact⟨by omega,by omega,by omega⟩
  ·show N m' (j + 1) + c9 m i m' (j + 1) + 0 <= N m' j + c9 m i m' j/\0 < N m' j + c9 m i m' j/\((N m' j + c9 m i m' j:Nat):Int) <= t'.len
   have:=G.dn m' t' h j hj
   rw[dR zc]at this ⊢
   rw[dR zc];exact this
 ·show cnt m' zm.qs=fW (N m' (j + 1) + c9 m i m' (j + 1) + 0) (N m' j + c9 m i m' j)
  rcases key m' t' h with ⟨rfl,rfl⟩ | ⟨zc,h2⟩
  ·rcases Aa hl with ⟨rfl,rfl⟩ | ⟨zK,hl⟩
   ·have:j=i:=ck Jj hj hw
    subst this
    show cnt m' (ln.qs ++ [((m':Int),c)])=_
    rw[cR,dN,if_pos rfl,eB,c3 (by omega),M4.1,hc,add_zero,add_zero]
    exact(iO M4.2).symm
   ·have HD:j ≠ i:=fun e=>by rw[e,hw]at hj;cases hj;exact zK rfl
    rw[show c9 m' i m' j=0 from c3 HD]
    exact G.q _ t ht j kk zm (Kp j kk hj HD) hl
  ·rcases Aa hl with ⟨rfl,rfl⟩ | ⟨zK,hl⟩
   ·show cnt m' (ln.qs ++ [((m:Int),c)])=_
    rw[DD m' zc,show c9 m i m' j=0 from dR zc]
    exact G.q m' t' h2 j kk ln hj yX
   ·rw[show c9 m i m' j=0 from dR zc]
    exact G.q m' t' h2 j kk zm hj hl
 ·rcases Aa hl with ⟨rfl,rfl⟩ | ⟨zK,hl⟩
  ·rcases mem_append.mp hp with hp | hp
   ·obtain⟨m',t2,e,h2,DO⟩:=G.own kk ln yX p hp
    obtain⟨t',h',sub,_⟩:=back m' t2 h2
    exact⟨m',t',e,h',sub _ DO⟩
   ·rw[mem_singleton.mp hp]
    exact⟨m,t1,rfl,CM,mem_of_getElem? hw⟩
  ·obtain⟨m',t2,e,h2,DO⟩:=G.own kk zm hl p hp
   obtain⟨t',h',sub,_⟩:=back m' t2 h2
   exact⟨m',t',e,h',sub _ DO⟩
 ·rcases key m' t' h with ⟨rfl,rfl⟩ | ⟨zc,h⟩
  ·exact Jj
  ·exact G.nd m' t' h
 ·show cnt m' qs=if (p:Int)=t'.goal then fW 0 (N m' t'.way.length + c9 m i m' t'.way.length) else []
  rcases key m' t' h with ⟨rfl,rfl⟩ | ⟨zc,h⟩
  ·have e:=G.zZ _ t ht p qs hp
   rw[eg,e]
   by_cases AM:(p:Int)=t.goal
   ·rw[if_pos AM,if_pos AM,G7]
    by_cases hc0:c=0
    ·rw[if_pos hc0,c3 (by omega),← (h0 hc0).1]
     have f1:=G.CL _ t ht (i + 1) (by have:=(h0 hc0).1;omega)
     have e1:N m' (i + 1)=0:=by omega
     have e2:N m' i=0:=by omega
     rw[e1,e2]
    ·rw[if_neg hc0,c3 (by have:=Ew hc0;omega)];rfl
   ·rw[if_neg AM,if_neg AM]
  ·rw[dR zc];exact G.zZ m' t' h p qs hp
 ·obtain⟨m',t2,e,h2⟩:=G.Br p qs hp q hq
  obtain⟨t',h',_⟩:=back m' t2 h2
  exact⟨m',t',e,h'⟩
 ·show zm.h=some (m':Int)↔∃ j,t'.way[j]? = some kk/\((N m' j + c9 m i m' j:Nat):Int) < t'.len
  rcases key m' t' h with ⟨rfl,rfl⟩ | ⟨zc,h2⟩
  ·rcases Aa hl with ⟨rfl,rfl⟩ | ⟨zK,hl⟩
   ·show(if decide (c=t.len - 1)=true then none else some (m':Int))=_↔_
    rw[el]
    constructor
    ·intro z
     refine⟨i,hw,?_⟩
     rw[eB]
     by_cases e:c=t.len - 1
     ·rw[if_pos (decide_eq_true e)]at z;cases z
     ·omega
    ·rintro⟨j,hj,CN⟩
     have:j=i:=ck Jj hj hw
     subst this
     rw[eB]at CN
     rw[if_neg (by rw[decide_eq_true_eq];omega)]
   ·have e:=G.hold kk zm hl _ t ht
    rw[e,el]
    constructor
    ·rintro⟨j,hj,CN⟩
     refine⟨j,?_,?_⟩
     ·rw[w1];split
      ·rw[getElem?_append_left (gQ0 hj)];exact hj
      ·exact hj
     ·rw[show c9 m' i m' j=0 from c3 fun e=>by
       subst e
       by_cases hc0:c=0
       ·have:=(gQ0 hj);have:=(h0 hc0).1;omega
       ·rw[h1 hc0]at hj;cases hj;exact zK rfl]
      exact CN
    ·rintro⟨j,hj,CN⟩
     have HD:j ≠ i:=fun e=>by rw[e,hw]at hj;cases hj;exact zK rfl
     rw[show c9 m' i m' j=0 from c3 HD]at CN
     exact⟨j,Kp j kk hj HD,CN⟩
  ·have eN:∀ j,N m' j + c9 m i m' j=N m' j:=fun j=>by rw[dR zc];rfl
   simp only[eN]
   rcases Aa hl with ⟨rfl,rfl⟩ | ⟨zK,hl⟩
   ·show(if decide (c=t.len - 1)=true then none else some (m:Int))=_↔_
    rw[← G.hold kk ln yX m' t' h2]
    have a1:ln.h ≠ some (m':Int):=fun z=>by
     rw[z]at zy
     by_cases hc0:c=0
     ·rw[if_pos hc0]at zy;cases zy
     ·rw[if_neg hc0]at zy
      have:=Option.some.inj zy
      omega
    refine⟨fun z=>?_,fun z=>absurd z a1⟩
    split at z
    ·cases z
    ·have:=Option.some.inj z
     exact absurd (show m' = m by omega) zc
   ·exact G.hold kk zm hl m' t' h2
 ·rcases Aa hl with ⟨rfl,rfl⟩ | ⟨zK,hl⟩
  ·have z:(if decide (c=t.len - 1)=true then none else some (m:Int))=some z:=hz
   split at z
   ·cases z
   ·exact⟨m,t1,(Option.some.inj z).symm,CM⟩
  ·obtain⟨m',t2,e,h2⟩:=G.AX kk zm hl z hz
   obtain⟨t',h',_⟩:=back m' t2 h2
   exact⟨m',t',e,h'⟩
 ·rcases Aa hl with ⟨rfl,rfl⟩ | ⟨zK,hl⟩
  ·obtain⟨r1,r2,r3⟩:=G.room kk ln yX
   refine⟨?_,by show 0 <= ln.r - 1;omega,r3⟩
   show s.rooms[kk]? = some (.int (ln.r - 1 + ln.b + ((ln.qs ++ [((m:Int),c)]).length:Nat)))
   rw[r1,length_append,length_singleton]
   congr 2;omega
  ·exact G.room kk zm hl
 ·have up:Ko s p q->Ko (cb s m c l t ln) p q:=fun z=>by
   rcases z with z | ⟨z,m',t2,e,h2,e2⟩
   ·exact .inl z
   ·obtain⟨t',h',_,Qd⟩:=back m' t2 h2
    exact .inr ⟨z,m',t',e,h',by rw[Qd];exact e2⟩
  rcases Aa hl with ⟨rfl,rfl⟩ | ⟨zK,hl⟩
  ·have hp:(ln.qs ++ [((m:Int),c)])[j]? = some p:=hp
   have hq:(ln.qs ++ [((m:Int),c)])[j + 1]? = some q:=hq
   by_cases hj:j + 1 < ln.qs.length
   ·rw[getElem?_append_left (by omega)]at hp
    rw[getElem?_append_left hj]at hq
    exact up (G.DR kk ln yX j p q hp hq)
   ·have zb:=(gQ0 hq)
    rw[length_append,length_singleton]at zb
    have ej:j + 1=ln.qs.length:=by omega
    rw[ej,getElem?_concat_length]at hq
    cases hq
    rw[getElem?_append_left (by omega)]at hp
    have Ct:ln.qs.getLast? = some p:=by rw[List.getLast?_eq_getElem?,← ej];exact hp
    rcases G.lst kk ln yX p Ct with z | ⟨z,m',t2,e,h2,e2⟩
    ·by_cases hc0:c=0
     ·rw[if_pos hc0,z]at zy;cases zy
     ·rw[if_neg hc0,z]at zy
      have e1:p.1=(m:Int):=Option.some.inj zy
      obtain⟨e2,_⟩:=tQ Ct e1 M4.1
      exact .inl ⟨e1.symm,by show c=p.2 + 1;omega⟩
    ·by_cases hc0:c=0
     ·exact up (.inr ⟨hc0,m',t2,e,h2,e2⟩)
     ·rw[if_neg hc0,z]at zy;cases zy
  ·exact up (G.DR kk zm hl j p q hp hq)
 ·rcases Aa hl with ⟨rfl,rfl⟩ | ⟨zK,hl⟩
  ·have hq:(ln.qs ++ [((m:Int),c)]).getLast? = some q:=hq
   rw[List.getLast?_concat]at hq
   cases hq
   show(if decide (c=t.len - 1)=true then none else some (m:Int))=_∨_
   by_cases e:c=t.len - 1
   ·exact .inr ⟨by show(if decide (c=t.len - 1)=true then none else some (m:Int))=none;rw[if_pos (decide_eq_true e)],m,t1,rfl,CM,by rw[el];exact e⟩
   ·exact .inl (by rw[if_neg (by rw[decide_eq_true_eq];exact e)])
  ·rcases G.lst kk zm hl q hq with z | ⟨z,m',t2,e,h2,e2⟩
   ·exact .inl z
   ·obtain⟨t',h',_,Qd⟩:=back m' t2 h2
    exact .inr ⟨z,m',t',e,h',by rw[Qd];exact e2⟩
theorem zW.lay {a:YA}{s:YS}{N:Nat->Nat->Nat}{m e:Nat}{c:Int}{t:aS}{qs:List (Int × Int)}(G:zW a s N (c9 m t.way.length))(ht:s.U[m]? = some t)(hc:c=(N m t.way.length:Int))(hg:t.goal=(e:Int))(AK:s.lies[e]? = some qs)(hw:t.way ≠ []) :
  zW a { s with lies:=s.lies.set e (qs ++ [((m:Int),c)]) } (fun m' i'=>N m' i' + c9 m t.way.length m' i') zr:=by
 have Ex:0 < t.way.length:=List.length_pos_iff.mpr hw
 have eN:∀ m' j,(m' = m->j ≠ t.way.length)->N m' j + c9 m t.way.length m' j=N m' j:=fun m' j h=>by
  by_cases e:m' = m
  ·rw[c3 (h e)];rfl
  ·rw[dR e];rfl
 refine⟨fun m' t' h=>?_,G.gl,fun m' t' h j hj=>?_,fun m' t' h CK=>?_,fun m' t' h j hj=>?_,fun m' t' h j kk ln hj hl=>?_,G.own,G.nd,fun m' t' h p Kq hp=>?_,fun p Kq hp q hq=>?_,fun kk ln hl m' t' h=>?_,G.AX,G.room,G.DR,G.lst⟩
 ·rw[← G.g0 m' t' h];rfl
 ·exact G.CL m' t' h j hj
 ·show N m' 0 + c9 m t.way.length m' 0=0
  rw[eN m' 0 (fun _=>by omega)];exact G.top m' t' h CK
 ·show N m' (j + 1) + c9 m t.way.length m' (j + 1) + 0 <= N m' j + c9 m t.way.length m' j/\0 < N m' j + c9 m t.way.length m' j/\((N m' j + c9 m t.way.length m' j:Nat):Int) <= t'.len
  rw[eN m' j (fun e=>by subst e;rw[ht]at h;cases h;omega)]
  exact G.dn m' t' h j hj
 ·show cnt m' ln.qs=fW (N m' (j + 1) + c9 m t.way.length m' (j + 1) + 0) (N m' j + c9 m t.way.length m' j)
  have CN:=(gQ0 hj)
  rw[eN m' j (fun e=>by subst e;rw[ht]at h;cases h;omega)]
  exact G.q m' t' h j kk ln hj hl
 ·show cnt m' Kq = if (p:Int)=t'.goal then fW 0 (N m' t'.way.length + c9 m t.way.length m' t'.way.length) else []
  have h:s.U[m']? = some t':=h
  rcases aY hp with ⟨rfl,rfl⟩ | ⟨zc,Eg⟩
  ·rw[cR,dN]
   have e1:=G.zZ m' t' h p qs AK
   by_cases em:m' = m
   ·subst em
    rw[ht]at h;cases h
    rw[if_pos hg.symm]at e1
    rw[if_pos rfl,if_pos hg.symm,e1,eB,hc]
    exact(iO (zero_le _)).symm
   ·rw[if_neg (Ne.symm em),append_nil,eN m' _ (fun z=>absurd z em)];exact e1
  ·by_cases em:m' = m
   ·subst em
    rw[ht]at h;cases h
    have e1:=G.zZ m' t ht p Kq Eg
    rw[if_neg (by rw[hg];omega)]at e1 ⊢
    exact e1
   ·rw[eN m' _ (fun z=>absurd z em)];exact G.zZ m' t' h p Kq Eg
 ·rcases aY hp with ⟨rfl,rfl⟩ | ⟨zc,hp⟩
  ·rcases mem_append.mp hq with hq | hq
   ·exact G.Br p qs AK q hq
   ·rw[mem_singleton.mp hq];exact⟨m,t,rfl,ht⟩
  ·exact G.Br p Kq hp q hq
 ·show ln.h=some (m':Int)↔∃ j,t'.way[j]? = some kk/\((N m' j + c9 m t.way.length m' j:Nat):Int) < t'.len
  have h:s.U[m']? = some t':=h
  rw[G.hold kk ln hl m' t' h]
  constructor
  ·rintro⟨j,hj,CN⟩
   have hjw:=(gQ0 hj)
   exact⟨j,hj,by rw[eN m' j (fun e=>by subst e;rw[ht]at h;cases h;omega)];exact CN⟩
  ·rintro⟨j,hj,CN⟩
   have hjw:=(gQ0 hj)
   rw[eN m' j (fun e=>by subst e;rw[ht]at h;cases h;omega)]at CN
   exact⟨j,hj,CN⟩
theorem zW.back {a:YA}{s:YS}{N D:Nat->Nat->Nat}(G:zW a s N D){k:Nat}{lk:bC}(hk:s.lanes[k]? = some lk)(hb:0 < lk.b):zW a { s with lanes:=s.lanes.set k (lH lk) } N D:=by
 have kl:∀ {kk:Nat}{ln:bC},(s.lanes.set k (lH lk))[kk]? = some ln->∃ l0,s.lanes[kk]? = some l0/\ln.qs=l0.qs/\ln.h=l0.h/\ln.r + ln.b=l0.r + l0.b/\l0.r <= ln.r/\(0 <= l0.b->0 <= ln.b):=fun h=>by
  rcases aY h with ⟨rfl,rfl⟩ | ⟨_,h⟩
  ·exact⟨lk,hk,rfl,rfl,by show lk.r + 1 + (lk.b - 1)=_;omega,by show lk.r <= lk.r + 1;omega,fun _=>by show 0 <= lk.b - 1;omega⟩
  ·exact⟨_,h,rfl,rfl,rfl,Int.le_refl _,id⟩
 refine⟨G.g0,G.gl,G.CL,G.top,G.dn,fun m' t' h j kk ln hj hl=>?_,fun kk ln hl p hp=>?_,G.nd,G.zZ,G.Br,fun kk ln hl m' t' h=>?_,fun kk ln hl z hz=>?_,fun kk ln hl=>?_,fun kk ln hl j p q hp hq=>?_,fun kk ln hl q hq=>?_⟩
 ·obtain⟨l0,h0,e1,e2,e3,e4,e5⟩:=kl hl
  rw[e1];exact G.q m' t' h j kk l0 hj h0
 ·obtain⟨l0,h0,e1,e2,e3,e4,e5⟩:=kl hl
  rw[e1]at hp;exact G.own kk l0 h0 p hp
 ·obtain⟨l0,h0,e1,e2,e3,e4,e5⟩:=kl hl
  rw[e2];exact G.hold kk l0 h0 m' t' h
 ·obtain⟨l0,h0,e1,e2,e3,e4,e5⟩:=kl hl
  rw[e2]at hz;exact G.AX kk l0 h0 z hz
 ·obtain⟨l0,h0,e1,e2,e3,e4,e5⟩:=kl hl
  obtain⟨r1,r2,r3⟩:=G.room kk l0 h0
  exact⟨by rw[e1,e3];exact r1,by omega,e5 r3⟩
 ·obtain⟨l0,h0,e1,e2,e3,e4,e5⟩:=kl hl
  rw[e1]at hp hq;exact G.DR kk l0 h0 j p q hp hq
 ·obtain⟨l0,h0,e1,e2,e3,e4,e5⟩:=kl hl
  rw[e1]at hq;rw[e2];exact G.lst kk l0 h0 q hq
theorem jA {a:YA}{s:YS}{k m:Nat}{c:Int}{lk:bC}{t:aS}{l:Nat}(hk:s.lanes[k]? = some lk)(hq:lk.qs.head? = some ((m:Int),c))(ht:s.U[m]? = some t)(hl:l ∈ bO a s k):if c=0 then l ∉ t.way else l ∈ (t.way.drop (t.way.idxOf k + 1)).take 1:=by
 have ef:aT s k=some ((m:Int),c):=by unfold aT;rw[hk];exact hq
 unfold bO at hl
 rw[ef]at hl
 have hl:l ∈ (match s.U[(m:Int).toNat]? with | none=>[] | some t=>if c=0 then (il a k t.goal.toNat).filter fun l=>!decide (l ∈ t.way) else (t.way.drop (t.way.idxOf k + 1)).take 1):=hl
 rw[toNat_natCast,ht]at hl
 have hl:l ∈ (if c=0 then (il a k t.goal.toNat).filter fun l=>!decide (l ∈ t.way) else (t.way.drop (t.way.idxOf k + 1)).take 1):=hl
 by_cases h:c=0
 ·rw[if_pos h]at hl ⊢
  have:=(mem_filter.mp hl).2
  simpa using this
 ·rw[if_neg h]at hl ⊢;exact hl
theorem du {l:List Nat}{j x:Nat}(h:x ∈ (l.drop j).take 1):l[j]? = some x:=by
 cases hd:l.drop j with
 | nil=>rw[hd]at h;cases h
 | cons y ys =>
  rw[hd]at h
  have h:x ∈ [y]:=h
  rw[mem_singleton]at h
  subst h
  have:=List.getElem?_drop (xs:=l) (i:=j) (j:=0)
  rw[hd]at this
  exact this.symm
theorem ja {l:List Nat}(h:l.Nodup){i x:Nat}(hi:l[i]? = some x):l.idxOf x=i:=by
 obtain⟨h1,e1⟩:=List.getElem?_eq_some_iff.mp hi
 have hx:x ∈ l:=mem_of_getElem? hi
 have h2:l.idxOf x < l.length:=List.idxOf_lt_length_of_mem hx
 have h3:l[l.idxOf x]? = some x:=by rw[getElem?_eq_getElem h2,List.getElem_idxOf h2]
 exact ck h h3 hi
theorem zW.dn' {a:YA}{s:YS}{N D:Nat->Nat->Nat}(G:zW a s N D)(d:List (List V)):zW a { s with done:=d } N D:=⟨G.g0,G.gl,G.CL,G.top,G.dn,G.q,G.own,G.nd,G.zZ,G.Br,G.hold,G.AX,G.room,G.DR,G.lst⟩
theorem zW.Kr {a:YA}{s:YS}{N:Nat->Nat->Nat}(G:zW a s N zr){x y l u:Int}(hl:0 <= l):∃ N':Nat->Nat->Nat,(∀ m i,m ≠ s.U.length->N' m i=N m i)/\zW a (cP s x y l u) N' zr:=by
 have el:∀ (m:Nat)(t:aS),(cP s x y l u).U[m]? = some t->(m ≠ s.U.length/\s.U[m]? = some t)∨(m=s.U.length/\t = ⟨x,y,l,u,0,[]⟩):=fun m t ht=>by
  have ht:(s.U ++ [(⟨x,y,l,u,0,[]⟩:aS)])[m]? = some t:=ht
  by_cases hm:m < s.U.length
  ·rw[getElem?_append_left hm]at ht;exact .inl ⟨by omega,ht⟩
  ·have h3:=(gQ0 ht)
   rw[length_append,length_singleton]at h3
   have em:m=s.U.length:=by omega
   subst em
   rw[getElem?_concat_length]at ht
   cases ht
   exact .inr ⟨rfl,rfl⟩
 have eo:∀ {m:Nat}{t:aS},s.U[m]? = some t->(cP s x y l u).U[m]? = some t:=fun ht=>by
  show(s.U ++ [(⟨x,y,l,u,0,[]⟩:aS)])[_]? = some _
  rw[getElem?_append_left (gQ0 ht)];exact ht
 have nw:∀ {m:Nat}{t:aS},s.U[m]? = some t->m ≠ s.U.length:=fun ht z=>by
  rw[z,List.getElem?_eq_none (Nat.le_refl _)]at ht;cases ht
 refine⟨fun m i=>if m=s.U.length then 0 else N m i,(fun m i h=>if_neg h),fun m t h=>?_,fun m t h=>?_,fun m t h j hj=>?_,fun m t h hw=>?_,fun m t h j hj=>?_,fun m t h j kk ln hj hl=>?_,fun kk ln hl p hp=>?_,fun m t h=>?_,fun m t h p qs hp=>?_,fun p qs hp q hq=>?_,fun kk ln hl m t h=>?_,fun kk ln hl z hz=>?_,G.room,fun kk ln hl j p q hp hq=>?_,fun kk ln hl q hq=>?_⟩
 ·rcases el m t h with ⟨zc,h⟩ | ⟨e,rfl⟩
  ·simp only[if_neg zc];exact G.g0 m t h
  ·simp only[if_pos e];rfl
 ·rcases el m t h with ⟨zc,h⟩ | ⟨e,rfl⟩
  ·exact G.gl m t h
  ·exact hl
 ·rcases el m t h with ⟨zc,h⟩ | ⟨e,rfl⟩
  ·simp only[if_neg zc];exact G.CL m t h j hj
  ·simp only[if_pos e];rfl
 ·rcases el m t h with ⟨zc,h⟩ | ⟨e,rfl⟩
  ·simp only[if_neg zc];exact G.top m t h hw
  ·simp only[if_pos e]
 ·rcases el m t h with ⟨zc,h⟩ | ⟨e,rfl⟩
  ·simp only[if_neg zc];exact G.dn m t h j hj
  ·cases hj
 ·rcases el m t h with ⟨zc,h⟩ | ⟨e,rfl⟩
  ·simp only[if_neg zc];exact G.q m t h j kk ln hj hl
  ·cases hj
 ·obtain⟨m,t,e,h,hw⟩:=G.own kk ln hl p hp
  exact⟨m,t,e,eo h,hw⟩
 ·rcases el m t h with ⟨zc,h⟩ | ⟨e,rfl⟩
  ·exact G.nd m t h
  ·exact nodup_nil
 ·rcases el m t h with ⟨zc,h⟩ | ⟨e,rfl⟩
  ·simp only[if_neg zc];exact G.zZ m t h p qs hp
  ·simp only[if_pos e]
   rw[fV (Nat.le_refl _),ite_self]
   refine pB fun q hq e2=>?_
   obtain⟨m',t',e3,h'⟩:=G.Br p qs hp q hq
   have:=nw h'
   rw[e2]at e3
   omega
 ·obtain⟨m,t,e,h⟩:=G.Br p qs hp q hq
  exact⟨m,t,e,eo h⟩
 ·rcases el m t h with ⟨zc,h⟩ | ⟨e,rfl⟩
  ·simp only[if_neg zc];exact G.hold kk ln hl m t h
  ·refine⟨fun z=>?_,fun yD=>by obtain⟨j,hj,_⟩:=yD;cases hj⟩
   obtain⟨m',t',e3,h'⟩:=G.AX kk ln hl _ z
   have:=nw h'
   omega
 ·obtain⟨m,t,e,h⟩:=G.AX kk ln hl z hz
  exact⟨m,t,e,eo h⟩
 ·rcases G.DR kk ln hl j p q hp hq with z | ⟨z,m',t2,e,h2,e2⟩
  ·exact .inl z
  ·exact .inr ⟨z,m',t2,e,eo h2,e2⟩
 ·rcases G.lst kk ln hl q hq with z | ⟨z,m',t2,e,h2,e2⟩
  ·exact .inl z
  ·exact .inr ⟨z,m',t2,e,eo h2,e2⟩
theorem Qe {a:YA}{rs:List Int}{n:Nat}(h:∀ r ∈ rs,1 <= r/\r <= 60):zW a (Y0 (rs.map V.int) n) zr zr:=by
 have yX:∀ {k:Nat}{ln:bC},(Y0 (rs.map V.int) n).lanes[k]? = some ln->∃ r,rs[k]? = some r/\ln = ⟨r,0,none,[]⟩:=fun {k ln} hl=>by
  have hl:(((rs.map V.int).map mF))[k]? = some ln:=hl
  rw[getElem?_map,getElem?_map]at hl
  cases hr:rs[k]? with
  | none=>rw[hr]at hl;cases hl
  | some r=>rw[hr]at hl;cases hl;exact⟨r,rfl,rfl⟩
 have nl:∀ {m:Nat}{t:aS},(Y0 (rs.map V.int) n).U[m]? = some t->False:=fun h=>by cases h
 have Qf:∀ {p:Nat}{qs:List (Int × Int)},(Y0 (rs.map V.int) n).lies[p]? = some qs->qs=[]:=fun {p qs} hp=>by
  have hp:(List.replicate n ([]:List (Int × Int)))[p]? = some qs:=hp
  rw[List.getElem?_replicate]at hp
  split at hp
  ·cases hp;rfl
  ·cases hp
 refine⟨fun m t h=>(nl h).elim,fun m t h=>(nl h).elim,fun m t h=>(nl h).elim,fun m t h=>(nl h).elim,fun m t h=>(nl h).elim,fun m t h=>(nl h).elim,fun kk ln hl p hp=>?_,fun m t h=>(nl h).elim,fun m t h=>(nl h).elim,fun p qs hp q hq=>?_,fun kk ln hl m t h=>(nl h).elim,fun kk ln hl z hz=>?_,fun kk ln hl=>?_,fun kk ln hl j p q hp hq=>?_,fun kk ln hl q hq=>?_⟩
 ·obtain⟨r,hr,rfl⟩:=yX hl
  cases hp
 ·rw[Qf hp]at hq;cases hq
 ·obtain⟨r,hr,rfl⟩:=yX hl
  cases hz
 ·obtain⟨r,hr,rfl⟩:=yX hl
  have Fn:=h r (mem_of_getElem? hr)
  refine⟨?_,by show 0 <= r;omega,Int.le_refl _⟩
  show(rs.map V.int)[kk]? = some (.int (r + 0 + ((0:Nat):Int)))
  rw[getElem?_map,hr]
  show some (V.int r)=_
  congr 2;omega
 ·obtain⟨r,hr,rfl⟩:=yX hl
  cases hp
 ·obtain⟨r,hr,rfl⟩:=yX hl
  cases hq
abbrev UH (s s1:YS)(m:Mv):YS:={ s1 with done:=s.done ++ [dU m] }
theorem dJ {l:List aS}{k:Nat}{x y:aS}(h:l[k]? = some x)(e:y.len=x.len):(l.set k y).map (·.len)=l.map (·.len):=by
 refine ext_getElem? fun i=>?_
 rw[getElem?_map,getElem?_map,List.getElem?_set]
 by_cases hi:k=i
 ·subst hi
  rw[if_pos rfl,if_pos (gQ0 h),h]
  show some y.len=some x.len
  rw[e]
 ·rw[if_neg hi]
theorem AF.Ks {a:YA}{s s':YS}{m:Mv}(h:AF a s m s'):s'.U.map (·.len)=s.U.map (·.len):=by
 cases h with
 | @Ab k l t ln ht hg hl yX ho =>
  have e1:(bV s k t).U.map (·.len)=s.U.map (·.len):=dJ ht rfl
  have CM:(bV s k t).U[k]? = some { t with gone:=t.gone + 1 }:=cv ht
  show(if t.gone=0 then (bV s k t).U.set k _ else (bV s k t).U).map (·.len)=_
  split
  ·exact(dJ (y:={ ({ t with gone:=t.gone + 1 }:aS) with way:=t.way ++ [l] }) CM rfl).trans e1
  ·exact e1
 | @on k l m c lk ln t hk hq ht hl yX ho =>
  show(if c=0 then s.U.set m _ else s.U).map (·.len)=_
  split
  ·exact dJ (y:={ t with way:=t.way ++ [l] }) ht rfl
  ·rfl
 | zZ=>rfl
 | back=>rfl
inductive Cu (a:YA)(s0:YS):YS->Prop
 | nil:Cu a s0 s0
 | snoc {s:YS} {x y l u:Int} (h:Cu a s0 s) (hl:1 <= l/\l <= 4):Cu a s0 (cP s x y l u)
noncomputable def mQ (s:YS):Int:=(s.lanes.map (·.b)).sum
noncomputable def wt (i:Nat):Nat:=if i=0 then 1 else 2
noncomputable def gK (L:Nat)(f:Nat->Nat):Nat:=((List.range (L + 1)).map fun i=>wt i * f i).sum
noncomputable def gG (k L:Nat)(N:Nat->Nat->Nat):Nat:=((List.range k).map fun m=>gK L (N m)).sum
noncomputable def kd (s:YS):Int:=(s.U.map (·.len)).sum
theorem jD {f g:Nat->Nat}:∀ l:List Nat,(l.map fun i=>f i + g i).sum=(l.map f).sum + (l.map g).sum
 | []=>rfl
 | x :: l=>by rw[map_cons,map_cons,map_cons,sum_cons,sum_cons,sum_cons,jD l];omega
theorem iw {c:Nat}{i0:Nat}:∀ n:Nat,((List.range n).map fun i=>if i=i0 then c else 0).sum=if i0 < n then c else 0
 | 0=>rfl
 | n + 1=>by
  rw[range_succ,map_append,sum_append,iw n]
  show _ + (if n=i0 then c else 0) + 0=_
  by_cases h1:n=i0
  ·rw[if_pos h1,if_neg (by omega),if_pos (by omega)];omega
  ·rw[if_neg h1]
   by_cases h2:i0 < n
   ·rw[if_pos h2,if_pos (by omega)];omega
   ·rw[if_neg h2,if_neg (by omega)]
theorem rO {L m i:Nat}{N:Nat->Nat->Nat}(hi:i <= L):gK L (fun j=>N m j + c9 m i m j)=gK L (N m) + wt i:=by
 unfold gK
 rw[show(fun j=>wt j * (N m j + c9 m i m j))=fun j=>wt j * N m j + (if j=i then wt i else 0) from funext fun j=>by
  unfold c9
  by_cases h:j=i
  ·subst h;rw[if_pos ⟨rfl,rfl⟩,if_pos rfl,Nat.mul_add];omega
  ·rw[if_neg (fun z=>h z.2),if_neg h,add_zero,add_zero]]
 rw[jD,iw,if_pos (by omega)]
theorem iG {k L m i:Nat}{N:Nat->Nat->Nat}(hm:m < k)(hi:i <= L):gG k L (fun m' i'=>N m' i' + c9 m i m' i')=gG k L N + wt i:=by
 unfold gG
 rw[show(fun m'=>gK L fun i'=>N m' i' + c9 m i m' i')=fun m'=>gK L (N m') + (if m' = m then wt i else 0) from funext fun m'=>by
  by_cases h:m' = m
  ·subst h;rw[if_pos rfl];exact rO hi
  ·rw[if_neg h,show(fun i'=>N m' i' + c9 m i m' i')=N m' from funext fun i'=>by rw[dR h];omega];omega]
 rw[jD,iw,if_pos hm]
theorem cX:∀ {l:List bC}{k:Nat}{x:bC}(y:bC),l[k]? = some x->((l.set k y).map (·.b)).sum=(l.map (·.b)).sum + (y.b - x.b)
 | [],_,_,_,h=>by cases h
 | z :: l,0,x,y,h=>by
  cases h
  rw[set_cons_zero,map_cons,map_cons,sum_cons,sum_cons];omega
 | z :: l,k + 1,x,y,h=>by
  rw[set_cons_succ,map_cons,map_cons,sum_cons,sum_cons,cX y (show l[k]? = some x from h)];omega
theorem o0:∀ {l:List bC},(∀ x ∈ l,0 <= x.b)->0 <= (l.map (·.b)).sum
 | [],_=>Int.le_refl _
 | x :: l,h=>by
  rw[map_cons,sum_cons]
  have:=h x mem_cons_self
  have:=o0 fun y hy=>h y (mem_cons_of_mem _ hy)
  omega
theorem qz {a:YA}{s:YS}(J:zC a s){m:Nat}{t:aS}(ht:s.U[m]? = some t):t.way.length <= a.ps.length:=cZ _ _ (J.zu m t ht).2 (J.zu m t ht).1
structure Cv (a:YA)(s:YS)(N:Nat->Nat->Nat):Prop where
 G:zW a s N zr
 c:(s.done.length:Int) + mQ s=s.U.length + gG s.U.length a.ps.length N
theorem Cv.step {a:YA}{s s':YS}{N:Nat->Nat->Nat}{mv:Mv}(C:Cv a s N)(J:zC a s)(h:AF a s mv s'):∃ N',Cv a (UH s s' mv) N':=by
 have G:=C.G
 have hc:=C.c
 have hd:((s.done ++ [dU mv]).length:Int)=s.done.length + 1:=by rw[length_append,length_singleton];omega
 have hlen:=h.len
 have fin:∀ {N':Nat->Nat->Nat}{x:Nat}{b:Int},zW a s' N' zr->gG s.U.length a.ps.length N' = gG s.U.length a.ps.length N + x->mQ s' = mQ s + b->1 + b=x->∃ N',Cv a (UH s s' mv) N':=fun {N' x b} G' h1 h2 h3 =>
  ⟨N',G'.dn' _,by
   show((s.done ++ [dU mv]).length:Int) + mQ s' = (s'.U.length:Int) + gG s'.U.length a.ps.length N'
   rw[hd,h2,hlen,h1];omega⟩
 have lt:∀ {m:Nat}{t:aS},s.U[m]? = some t->m < s.U.length:=fun ht=>(gQ0 ht)
 cases h with
 | @Ab m l t ln ht hg hl yX ho =>
  have G1:=G.leave ht hg
  have g0:(N m 0:Int)=t.gone:=G.g0 m t ht
  have gl:=G.gl m t ht
  have CM:(bV s m t).U[m]? = some { t with gone:=t.gone + 1 }:=cv ht
  refine fin (b:=0) (G1.enter CM g0.symm (fun h0=>?_) (fun h0=>?_) (by show t.gone + 1 <= t.len;omega) yX ho) (iG (lt ht) (zero_le _)) ?_ rfl
  ·have:=J.zH m t ht h0
   show 0=t.way.length/\l ∉ t.way
   rw[this];exact⟨rfl,not_mem_nil⟩
  ·unfold bS at hl
   rw[if_neg h0]at hl
   exact du (j:=0) hl
  ·exact(cX _ yX).trans (by show(s.lanes.map (·.b)).sum + (ln.b - ln.b)=(s.lanes.map (·.b)).sum + 0;omega)
 | @on k l m c lk ln t hk hq ht hl yX ho =>
  obtain⟨i,hi,BK,zb,G1⟩:=G.pull hk hq ht
  have hw:=jA hk hq ht hl
  have Ew:=(gQ0 hi)
  obtain⟨d1,d2,d3⟩:=G.dn m t ht i Ew
  have wl:=qz J ht
  refine fin (b:=1) (G1.enter (t:=t) ht BK (fun h0=>?_) (fun h0=>?_) (by omega) yX ho) (iG (lt ht) (by omega)) ?_ rfl
  ·rw[if_pos h0]at hw
   refine⟨?_,hw⟩
   rcases lt_or_ge (i + 1) t.way.length with h | h
   ·have:=(G.dn m t ht (i + 1) h).2.1
    omega
   ·omega
  ·rw[if_neg h0]at hw
   rw[ja (G.nd m t ht) hi]at hw
   exact du hw
  ·have e1:=cX (bU lk) hk
   have e2:=cX (dL ln (m:Int) c t.len) yX
   have e3:(bU lk).b=lk.b + 1:=rfl
   have e4:(dL ln (m:Int) c t.len).b=ln.b:=rfl
   show(((s.lanes.set k (bU lk)).set l (dL ln (m:Int) c t.len)).map (·.b)).sum=(s.lanes.map (·.b)).sum + 1
   rw[e2,e1,e3,e4];omega
 | @zZ k m e c lk t qs hk hq ht hg he AK =>
  obtain⟨i,hi,BK,zb,G1⟩:=G.pull hk hq ht
  have ew:i + 1=t.way.length:=J.last m t ht i k hi (by show(a.ps.getD k (0,0)).2=_;rw[he,hg])
  rw[ew]at BK G1
  have wl:=qz J ht
  refine fin (b:=1) (G1.lay (t:=t) ht BK hg AK (fun z=>by rw[z]at hi;cases hi)) (iG (lt ht) wl) ?_ (by unfold wt;rw[if_neg (by omega)];rfl)
  exact(cX (bU lk) hk).trans (by show(s.lanes.map (·.b)).sum + (lk.b + 1 - lk.b)=(s.lanes.map (·.b)).sum + 1;omega)
 | @back k lk hk hb =>
  refine fin (x:=0) (b:=-1) (G.back hk hb) rfl ?_ rfl
  exact(cX (lH lk) hk).trans (by show(s.lanes.map (·.b)).sum + (lk.b - 1 - lk.b)=(s.lanes.map (·.b)).sum + -1;omega)
theorem Cv.post {a:YA}{s:YS}{N:Nat->Nat->Nat}(C:Cv a s N){x y l u:Int}(hl:1 <= l):∃ N',Cv a (cP s x y l u) N':=by
 obtain⟨N',he,G'⟩:=C.G.Kr (x:=x) (y:=y) (l:=l) (u:=u) (by omega)
 refine⟨N',G',?_⟩
 have ht:(cP s x y l u).U[s.U.length]? = some ⟨x,y,l,u,0,[]⟩:=getElem?_concat_length
 have h0:∀ i,N' s.U.length i=0:=fun i=>by
  cases i with
  | zero=>have:=G'.g0 _ _ ht;have:((N' s.U.length 0 + 0:Nat):Int)=0:=this;omega
  | succ i=>have:N' s.U.length (i + 1) + 0=0:=G'.CL _ _ ht (i + 1) (succ_pos _);omega
 have e1:gK a.ps.length (N' s.U.length)=0:=by
  unfold gK
  rw[show(fun i=>wt i * N' s.U.length i)=fun i=>if i=a.ps.length + 1 then 0 else 0 from funext fun i=>by rw[h0,Nat.mul_zero,ite_self]]
  rw[iw,ite_self]
 have e2:gG (s.U.length + 1) a.ps.length N' = gG s.U.length a.ps.length N:=by
  unfold gG
  rw[range_succ,map_append,sum_append]
  show _ + (gK a.ps.length (N' s.U.length) + 0)=_
  rw[e1,add_zero]
  congr 1
  refine map_congr_left fun m hm=>?_
  have:=mem_range.mp hm
  rw[show N' m=N m from funext fun i=>he m i (by omega)]
 show((s.done ++ [_]).length:Int) + mQ s=((s.U ++ [(⟨x,y,l,u,0,[]⟩:aS)]).length:Int) + gG (s.U ++ [(⟨x,y,l,u,0,[]⟩:aS)]).length a.ps.length N'
 rw[length_append,length_singleton,length_append,length_singleton,e2]
 have:=C.c
 omega
theorem Cv.Qg {a:YA}{s s':YS}{N:Nat->Nat->Nat}(h:Cu a s s')(C:Cv a s N):∃ N',Cv a s' N':=by
 induction h with
 | nil=>exact⟨N,C⟩
 | snoc h hl ih=>obtain⟨N1,C1⟩:=ih;exact C1.post hl.1
theorem Cu.zD {a:YA}{s s':YS}(h:Cu a s s')(hs:∀ t ∈ s.U,0 <= t.len/\t.len <= 4):∀ t ∈ s'.U,0 <= t.len/\t.len <= 4:=by
 induction h with
 | nil=>exact hs
 | @snoc s x y l u h hl ih =>
  intro t ht
  have ht:t ∈ s.U ++ [(⟨x,y,l,u,0,[]⟩:aS)]:=ht
  rcases mem_append.mp ht with ht | ht
  ·exact ih t ht
  ·rw[mem_singleton.mp ht];exact⟨by show 0 <= l;omega,hl.2⟩
theorem xc {L n W:Nat}{f:Nat->Nat}(h:∀ i,i <= L->f i <= n):gK L f <= n * (2 * L + 1):=by
 unfold gK
 have key:∀ L,(∀ i,i <= L->f i <= n)->((List.range (L + 1)).map fun i=>wt i * f i).sum <= n * (2 * L + 1):=by
  intro L
  induction L with
  | zero =>
   intro h
   show wt 0 * f 0 + 0 <= n * (2 * 0 + 1)
   have:=h 0 (Nat.le_refl _)
   show 1 * f 0 + 0 <= _
   omega
  | succ L ih =>
   intro h
   rw[range_succ,map_append,sum_append]
   have h1:=ih fun i hi=>h i (by omega)
   have h2:=h (L + 1) (Nat.le_refl _)
   show _ + (wt (L + 1) * f (L + 1) + 0) <= _
   have e:wt (L + 1)=2:=if_neg (by omega)
   rw[e,show n * (2 * (L + 1) + 1)=n * (2 * L + 1) + 2 * n by rw[show 2 * (L + 1) + 1=(2 * L + 1) + 2 by omega,Nat.mul_add];omega]
   omega
 exact key L h
theorem qH:∀ (l:List aS)(f:Nat->Nat)(c k0:Nat),(∀ (m:Nat)(t:aS),l[m]? = some t->(f (k0 + m):Int) <= t.len * c)->((((List.range' k0 l.length).map f).sum:Nat):Int) <= (l.map (·.len)).sum * c
 | [],f,c,k0,_=>by simp
 | t :: l,f,c,k0,h=>by
  have h1:=h 0 t rfl
  have h2:=qH l f c (k0 + 1) fun m t' hm=>by
   have:=h (m + 1) t' hm
   rw[show k0 + 1 + m=k0 + (m + 1) by omega];exact this
  rw[length_cons,List.range'_succ,map_cons,sum_cons,map_cons,sum_cons,Int.add_mul,Int.natCast_add]
  have h1:(f k0:Int) <= t.len * c:=h1
  omega
theorem Cv.most {a:YA}{s:YS}{N:Nat->Nat->Nat}(C:Cv a s N)(J:zC a s):(s.done.length:Int) <= s.U.length + kd s * (2 * a.ps.length + 1:Nat):=by
 have hb:0 <= mQ s:=o0 fun ln hl=>by
  obtain⟨k,hk⟩:=List.getElem?_of_mem hl
  exact(C.G.room k ln hk).2.2
 have hc:=C.c
 have hs:=qH s.U (fun m=>gK a.ps.length (N m)) (2 * a.ps.length + 1) 0 (fun m t ht=>?_)
 ·unfold kd
  have e:gG s.U.length a.ps.length N=((List.range' 0 s.U.length).map fun m=>gK a.ps.length (N m)).sum:=by unfold gG;rw[List.range_eq_range']
  rw[e]at hc
  omega
 ·rw[Nat.zero_add]
  have G:=C.G
  have g0:((N m 0 + 0:Nat):Int)=t.gone:=G.g0 m t ht
  have gl:=G.gl m t ht
  have hle:∀ i,i <= a.ps.length->N m i <= t.len.toNat:=fun i _=>by
   rcases lt_or_ge i t.way.length with h | h
   ·have:=(G.dn m t ht i h).2.2;omega
   ·rcases lt_or_ge t.way.length i with h2 | h2
    ·have:N m i + 0=0:=G.CL m t ht i h2;omega
    ·have ei:i=t.way.length:=by omega
     cases hw:t.way.length with
     | zero=>rw[ei,hw];omega
     | succ j =>
      obtain⟨d1,d2,d3⟩:=G.dn m t ht j (by omega)
      have d1:N m (j + 1) + 0 <= N m j:=d1
      rw[ei,hw];omega
  have:=xc (W:=0) hle
  have h0:0 <= t.len:=by omega
  have e:((t.len.toNat * (2 * a.ps.length + 1):Nat):Int)=t.len * ((2 * a.ps.length + 1:Nat):Int):=by rw[Int.natCast_mul,Int.toNat_of_nonneg h0]
  rw[← e]
  exact Int.ofNat_le.mpr this
theorem Qh {a:YA}{rs:List Int}{n:Nat}(h:∀ r ∈ rs,1 <= r/\r <= 60):Cv a (Y0 (rs.map V.int) n) zr:=by
 refine⟨Qe h,?_⟩
 have e:mQ (Y0 (rs.map V.int) n)=0:=by
  show((((rs.map V.int).map mF).map (·.b))).sum=0
  have:∀ l:List Int,((((l.map V.int).map mF).map (·.b))).sum=0:=by
   intro l
   induction l with
   | nil=>rfl
   | cons x l ih=>show (0:Int) + _=0;rw[zero_add];exact ih
  exact this rs
 rw[e]
 rfl
structure Ca (a:YA)(s:YS):Prop where
 b0:∀ (k:Nat)(ln:bC),s.lanes[k]? = some ln->ln.b <= 0
 Kt:∀ (k m:Nat)(c:Int)(ln:bC)(t:aS),s.lanes[k]? = some ln->ln.qs.head? = some ((m:Int),c)->s.U[m]? = some t->t.goal ≠ kD a k
 UI:∀ (k m:Nat)(c:Int)(ln:bC),s.lanes[k]? = some ln->ln.qs.head? = some ((m:Int),c)->∀ l ∈ bO a s k,c5 s l m c=false
 UJ:∀ (m:Nat)(t:aS),s.U[m]? = some t->t.gone ≠ t.len->∀ l ∈ bS a t,c5 s l m t.gone=false
theorem qK {a:YA}{s:YS}(h:bX a s=[]):Ca a s:=by
 unfold bX at h
 have h1:=append_eq_nil_iff.mp h
 have h2:=append_eq_nil_iff.mp h1.1
 have h3:=append_eq_nil_iff.mp h2.1
 have part:∀ {n:Nat}{f:Nat->List Mv},(List.range n).flatMap f=[]->∀ k,k < n->f k=[]:=fun e k hk=>(List.flatMap_eq_nil_iff.mp e) k (mem_range.mpr hk)
 have lt:∀ {α:Type}{l:List α}{k:Nat}{x:α},l[k]? = some x->k < l.length:=fun e=>(gQ0 e)
 refine⟨fun k ln hk=>?_,fun k m c ln t hk hq ht=>?_,fun k m c ln hk hq l hl=>?_,fun m t ht hg l hl=>?_⟩
 ·have e:=part h1.2 k (lt hk)
  unfold cM at e
  rw[hk]at e
  dsimp only at e
  by_cases h0:0 < ln.b
  ·rw[if_pos h0]at e;cases e
  ·omega
 ·have e:=part h2.2 k (lt hk)
  unfold dS aT at e
  rw[hk]at e
  dsimp only at e
  rw[hq]at e
  dsimp only at e
  rw[toNat_natCast,ht]at e
  dsimp only at e
  intro he
  rw[if_pos (show t.goal=(a.ps.getD k (0,0)).2 from he)]at e;cases e
 ·have e:=part h3.2 k (lt hk)
  unfold gQ aT at e
  rw[hk]at e
  dsimp only at e
  rw[hq]at e
  dsimp only at e
  have e:=map_eq_nil_iff.mp e
  have:=filter_eq_nil_iff.mp e l hl
  simpa using this
 ·have e:=part h3.1 m (lt ht)
  unfold gf at e
  rw[ht]at e
  dsimp only at e
  rw[if_neg hg]at e
  have e:=map_eq_nil_iff.mp e
  have:=filter_eq_nil_iff.mp e l hl
  simpa using this
theorem lO {m:Nat}:∀ {qs:List (Int × Int)}{x:Int}{r:List Int},cnt m qs=x :: r->∃ i:Nat,qs[i]? = some ((m:Int),x)/\∀ j:Nat,j < i->∀ q:Int × Int,qs[j]? = some q->q.1 ≠ (m:Int)
 | [],x,r,h=>by cases h
 | q :: qs,x,r,h=>by
  obtain⟨q1,q2⟩:=q
  by_cases e:q1=(m:Int)
  ·subst e
   rw[show((m:Int),q2) :: qs=[((m:Int),q2)] ++ qs from rfl,cR,dN,if_pos rfl]at h
   have h:q2 :: cnt m qs=x :: r:=h
   exact⟨0,by rw[(List.cons.inj h).1];rfl,fun j hj=>absurd hj (not_lt_zero _)⟩
  ·have h:cnt m qs=x :: r:=by
    unfold cnt at h ⊢
    rw[filter_cons_of_neg (by simpa using e)]at h
    exact h
   obtain⟨i,h1,h2⟩:=lO h
   refine⟨i + 1,h1,fun j hj q hq=>?_⟩
   cases j with
   | zero=>cases hq;exact e
   | succ j=>exact h2 j (by omega) q hq
theorem kH {m:Nat}{qs:List (Int × Int)}{c:Int}(h:((m:Int),c) ∈ qs):c ∈ cnt m qs:=by
 unfold cnt
 exact mem_map.mpr ⟨_,mem_filter.mpr ⟨h,by simp⟩,rfl⟩
theorem uA {x y:Nat}{c:Int}(h:c ∈ fW x y):(x:Int) <= c/\c < y:=by
 unfold fW at h
 obtain⟨z,hz,rfl⟩:=mem_map.mp h
 have:=List.mem_range'_1.mp hz
 exact⟨by omega,by omega⟩
section
variable {a:YA}{s:YS}{N:Nat->Nat->Nat}
theorem Ca.right (S:Ca a s)(G:zW a s N zr)(hr:∀ (k:Nat) (ln:bC),s.lanes[k]? = some ln->1 <= ln.r + ln.b + ln.qs.length){k:Nat}{ln:bC}(hk:s.lanes[k]? = some ln)(he:ln.qs=[]):ln.r ≠ 0:=by
 have h1:=hr k ln hk
 have h2:=S.b0 k ln hk
 rw[he]at h1
 have h1:1 <= ln.r + ln.b + 0:=h1
 omega
theorem Ca.held (S:Ca a s)(G:zW a s N zr)(J:zC a s)(hr:∀ (k:Nat) (ln:bC),s.lanes[k]? = some ln->1 <= ln.r + ln.b + ln.qs.length){m:Nat}{t:aS}(ht:s.U[m]? = some t) :
  ∀ (j k:Nat)(ln:bC),t.way[j]? = some k->s.lanes[k]? = some ln->cnt m ln.qs=[]->(N m j:Int) < t.len->False:=by
 intro j
 induction j with
 | zero =>
  intro k ln hw hk hc hN
  have hh:ln.h=some (m:Int):=(G.hold k ln hk m t ht).mpr ⟨0,hw,hN⟩
  have hq:ln.qs=[]:=by
   cases hl:ln.qs.getLast? with
   | none=>exact List.getLast?_eq_none_iff.mp hl
   | some q =>
    rcases G.lst k ln hk q hl with z | ⟨z,_⟩
    ·rw[hh]at z
     have e:q.1=(m:Int):=(Option.some.inj z).symm
     have:=kH (m:=m) (c:=q.2) (show((m:Int),q.2) ∈ ln.qs from e ▸ mem_of_getLast? hl)
     rw[hc]at this;cases this
    ·rw[hh]at z;cases z
  have BW:=S.right G hr hk hq
  have BD:=(gQ0 hw)
  have Ex:=(G.dn m t ht 0 BD).2.1
  have g0:((N m 0 + 0:Nat):Int)=t.gone:=G.g0 m t ht
  have zy:=S.UJ m t ht (by omega) k (by
   unfold bS
   rw[if_neg (by omega)]
   cases hx:t.way with
   | nil=>rw[hx]at hw;cases hw
   | cons x xs=>rw[hx]at hw;cases hw;exact mem_cons_self)
  unfold c5 at zy
  rw[hk]at zy
  dsimp only at zy
  unfold bT at zy
  rw[if_neg BW,if_neg (by omega),hh]at zy
  simp at zy
 | succ j ih =>
  intro k ln hw hk hc hN
  have BD:=(gQ0 hw)
  have hh:ln.h=some (m:Int):=(G.hold k ln hk m t ht).mpr ⟨j + 1,hw,hN⟩
  have hq:ln.qs=[]:=by
   cases hl:ln.qs.getLast? with
   | none=>exact List.getLast?_eq_none_iff.mp hl
   | some q =>
    rcases G.lst k ln hk q hl with z | ⟨z,_⟩
    ·rw[hh]at z
     have e:q.1=(m:Int):=(Option.some.inj z).symm
     have:=kH (m:=m) (c:=q.2) (show((m:Int),q.2) ∈ ln.qs from e ▸ mem_of_getLast? hl)
     rw[hc]at this;cases this
    ·rw[hh]at z;cases z
  have BW:=S.right G hr hk hq
  have Ex:=(G.dn m t ht (j + 1) BD).2.1
  have hw1:t.way[j]? = some t.way[j]:=getElem?_eq_getElem (by omega)
  generalize t.way[j]'(by omega)=k1 at hw1
  have Qi:k1 < s.lanes.length:=by rw[J.lanes];exact(J.zu m t ht).1 k1 (mem_of_getElem? hw1)
  have HE:=getElem?_eq_getElem Qi
  generalize s.lanes[k1]=l1 at HE
  have Hj:cnt m l1.qs=fW (N m (j + 1) + 0) (N m j):=G.q m t ht j k1 l1 hw1 HE
  rw[add_zero]at Hj
  have AO:N m (j + 1) + 0 <= N m j:=(G.dn m t ht j (by omega)).1
  rcases lt_or_ge (N m (j + 1)) (N m j) with zb | FC
  ·rw[lu zb]at Hj
   obtain⟨i,hi,Qj⟩:=lO Hj
   have hi0:i=0:=by
    cases i with
    | zero=>rfl
    | succ i =>
     exfalso
     have Ew:=(gQ0 hi)
     have hp:l1.qs[i]? = some l1.qs[i]:=getElem?_eq_getElem (by omega)
     rcases G.DR k1 l1 HE i _ _ hp hi with ⟨z,_⟩ | ⟨z,_⟩
     ·exact Qj i (lt_succ_self _) _ hp z.symm
     ·have z:(N m (j + 1):Int)=0:=z
      omega
   subst hi0
   have UK:l1.qs.head? = some ((m:Int),(N m (j + 1):Int)):=by rw[List.head?_eq_getElem?];exact hi
   have zy:=S.UI k1 m _ l1 HE UK k (by
    unfold bO aT
    rw[HE]
    dsimp only
    rw[UK]
    dsimp only
    rw[toNat_natCast,ht]
    dsimp only
    rw[if_neg (by omega),ja (G.nd m t ht) hw1]
    have:(t.way.drop (j + 1))[0]? = some k:=by rw[List.getElem?_drop];exact hw
    cases hx:t.way.drop (j + 1) with
    | nil=>rw[hx]at this;cases this
    | cons x xs=>rw[hx]at this;cases this;exact mem_cons_self)
   unfold c5 at zy
   rw[hk]at zy
   dsimp only at zy
   unfold bT at zy
   rw[if_neg BW,if_neg (by omega),hh]at zy
   simp at zy
  ·exact ih k1 l1 hw1 HE (by rw[Hj];exact fV FC) (by omega)
theorem Ca.free (S:Ca a s)(G:zW a s N zr)(J:zC a s)(hr:∀ (k:Nat) (ln:bC),s.lanes[k]? = some ln->1 <= ln.r + ln.b + ln.qs.length){k:Nat}{ln:bC}(hk:s.lanes[k]? = some ln)(he:ln.qs=[]):ln.h=none:=by
 cases hh:ln.h with
 | none=>rfl
 | some z =>
  obtain⟨m,t,rfl,ht⟩:=G.AX k ln hk z hh
  obtain⟨j,hw,hN⟩:=(G.hold k ln hk m t ht).mp hh
  exact(S.held G J hr ht j k ln hw hk (by rw[he];rfl) hN).elim
theorem Ca.wants (S:Ca a s)(G:zW a s N zr)(J:zC a s)(hr:∀ (k:Nat) (ln:bC),s.lanes[k]? = some ln->1 <= ln.r + ln.b + ln.qs.length){k m:Nat}{c:Int}{ln:bC}{t:aS}(hk:s.lanes[k]? = some ln)(hq:ln.qs.head? = some ((m:Int),c))(ht:s.U[m]? = some t){l:Nat}{lo:bC}(hl:l ∈ bO a s k)(Bk:s.lanes[l]? = some lo):lo.qs ≠ []:=fun he=>by
 have hf:=S.free G J hr Bk he
 have BW:=S.right G hr Bk he
 have zy:=S.UI k m c ln hk hq l hl
 have hw:=jA hk hq ht hl
 unfold c5 at zy
 rw[Bk]at zy
 dsimp only at zy
 unfold bT at zy
 rw[if_neg BW]at zy
 by_cases h0:c=0
 ·rw[if_pos h0,hf]at zy;simp at zy
 ·rw[if_neg h0]at hw
  obtain⟨i,hi,BK,zb,_⟩:=G.pull hk hq ht
  rw[ja (G.nd m t ht) hi]at hw
  have hw:=du hw
  have Ew:=(gQ0 hi)
  have h3:=(G.dn m t ht i Ew).2.2
  have hh:lo.h=some (m:Int):=(G.hold l lo Bk m t ht).mpr ⟨i + 1,hw,by omega⟩
  rw[hf]at hh;cases hh
theorem Ca.head (S:Ca a s)(G:zW a s N zr)(J:zC a s){k m:Nat}{c:Int}{ln:bC}{t:aS}(hk:s.lanes[k]? = some ln)(hq:ln.qs.head? = some ((m:Int),c))(ht:s.U[m]? = some t)(he:bO a s k=[]):c=0:=by
 by_cases h0:c=0
 ·exact h0
 exfalso
 obtain⟨i,hi,BK,zb,_⟩:=G.pull hk hq ht
 have Ew:=(gQ0 hi)
 unfold bO aT at he
 rw[hk]at he
 dsimp only at he
 rw[hq]at he
 dsimp only at he
 rw[toNat_natCast,ht]at he
 dsimp only at he
 rw[if_neg h0,ja (G.nd m t ht) hi]at he
 have hlen:t.way.length <= i + 1:=by
  rcases lt_or_ge (i + 1) t.way.length with h | h
  ·have:(t.way.drop (i + 1)).length=t.way.length - (i + 1):=length_drop ..
   cases hx:t.way.drop (i + 1) with
   | nil=>rw[hx]at this;have:0=t.way.length - (i + 1):=this;omega
   | cons x xs=>rw[hx]at he;cases he
  ·exact h
 have Ct:t.way.getLast? = some k:=by
  rw[List.getLast?_eq_getElem?,show t.way.length - 1=i by omega];exact hi
 rcases J.head m t ht k ln Ct hk with z | z
 ·have h1:=kH z
  have hqq:cnt m ln.qs=fW (N m (i + 1) + 0) (N m i):=G.q m t ht i k ln hi hk
  rw[hqq]at h1
  have:=uA h1
  omega
 ·exact S.Kt k m c ln t hk hq ht z.symm
theorem Ca.starts (S:Ca a s)(G:zW a s N zr)(J:zC a s)(hr:∀ (k:Nat) (ln:bC),s.lanes[k]? = some ln->1 <= ln.r + ln.b + ln.qs.length){m:Nat}{t:aS}(ht:s.U[m]? = some t)(hg:t.gone ≠ t.len){l:Nat}{lo:bC}(hl:l ∈ bS a t)(Bk:s.lanes[l]? = some lo):lo.qs ≠ []:=fun he=>by
 have hf:=S.free G J hr Bk he
 have BW:=S.right G hr Bk he
 have zy:=S.UJ m t ht hg l hl
 unfold c5 at zy
 rw[Bk]at zy
 dsimp only at zy
 unfold bT at zy
 rw[if_neg BW]at zy
 by_cases h0:t.gone=0
 ·rw[if_pos h0,hf]at zy;simp at zy
 ·unfold bS at hl
  rw[if_neg h0]at hl
  have hw:=du (j:=0) hl
  have g0:((N m 0 + 0:Nat):Int)=t.gone:=G.g0 m t ht
  have gl:=G.gl m t ht
  have hh:lo.h=some (m:Int):=(G.hold l lo Bk m t ht).mpr ⟨0,hw,by omega⟩
  rw[hf]at hh;cases hh
end
noncomputable def ud:Option Nat->Nat
 | none=>0
 | some k=>k + 1
noncomputable def rP (r:Rw):Nat:=(r.p.toNat * 100 + r.g.toNat) * 100 + ud r.c
theorem xV {a b:Rw}(h:aN a=aN b):rP a=rP b:=by
 unfold aN at h
 injection h with h1 h2
 injection h2 with h2 h3
 injection h3 with h3 _
 injection h1 with h1
 injection h2 with h2
 have h4:a.c=b.c:=by
  cases ha:a.c with
  | none=>cases hb:b.c with
   | none=>rfl
   | some k=>rw[ha,hb]at h3;cases h3
  | some k=>cases hb:b.c with
   | none=>rw[ha,hb]at h3;cases h3
   | some k' =>
    rw[ha,hb]at h3
    have h3:some (k:Int)=some (k':Int):=h3
    injection h3 with h3
    rw[show k=k' by omega]
 unfold rP
 rw[h1,h2,h4]
structure Cw (n:Nat)(ps:List (Int × Int))(B:Nat)(rs:List Rw):Prop where
 sort:(rs.map rP).Pairwise (· < ·)
 low:∀ r ∈ rs,rP r < B
 fit:∀ r ∈ rs,dM n ps r=true
 zD:∀ r ∈ rs,r.s.length <= 40
theorem Cw.up {n:Nat}{ps:List (Int × Int)}{B B':Nat}{rs:List Rw}(h:Cw n ps B rs)(l:B <= B'):Cw n ps B' rs:=⟨h.sort,fun r hr=>lt_of_lt_of_le (h.low r hr) l,h.fit,h.zD⟩
theorem Cw.snoc {n:Nat}{ps:List (Int × Int)}{B:Nat}{rs:List Rw}{r:Rw}(h:Cw n ps B rs)(hr:B <= rP r)(hf:dM n ps r=true)(hl:r.s.length <= 40):Cw n ps (rP r + 1) (rs ++ [r]):=by
 refine⟨?_,fun x hx=>?_,fun x hx=>?_,fun x hx=>?_⟩
 ·rw[map_append,pairwise_append]
  refine⟨h.sort,by simp,fun x hx y hy=>?_⟩
  obtain⟨r',Ef,rfl⟩:=mem_map.mp hx
  have hy:y=rP r:=by simpa using hy
  rw[hy]
  exact lt_of_lt_of_le (h.low r' Ef) hr
 ·rcases mem_append.mp hx with hx | hx
  ·have:=h.low x hx;omega
  ·rw[mem_singleton.mp hx];omega
 ·rcases mem_append.mp hx with hx | hx
  ·exact h.fit x hx
  ·rw[mem_singleton.mp hx];exact hf
 ·rcases mem_append.mp hx with hx | hx
  ·exact h.zD x hx
  ·rw[mem_singleton.mp hx];exact hl
theorem Cw.good {n:Nat}{ps:List (Int × Int)}{B:Nat}{rs:List Rw}(h:Cw n ps B rs):cN n ps rs rs.length=none:=by
 refine fv fun k hk=>?_
 have hr:rs[k]? = some rs[k]:=getElem?_eq_getElem hk
 have Mj:rs.getD k ⟨0,0,none,[]⟩ = rs[k]:=by rw[getD_eq_getElem?_getD,hr];rfl
 rw[Mj,gy,h.fit _ (getElem_mem hk)]
 have Qk:((rs.take k).any fun a=>decide (aN a=aN rs[k]))=false:=by
  rw[List.any_eq_false]
  intro a ha hd
  have e:=xV (of_decide_eq_true hd)
  obtain⟨j,hj,ea⟩:=mem_take_iff_getElem.mp ha
  have HC:j < k:=by omega
  have:=pairwise_iff_getElem.mp h.sort j k (by rw[length_map];omega) (by rw[length_map];exact hk) HC
  rw[getElem_map,getElem_map,ea]at this
  omega
 rw[Qk];rfl
theorem j1 {n:Int}{ps:List (Int × Int)}{r:Rw}(h:dM n ps r=true):∀ k ∈ r.s,k < ps.length:=by
 unfold dM at h
 simp only[Bool.and_eq_true,all_eq_true,decide_eq_true_eq]at h
 intro k hk
 exact mem_range.mp (mem_filter.mp (h.2.2 k hk)).1
noncomputable def ie (rs:List Rw)(k:fB):Nat:=match cn rs k with
 | some r=>Yd.zE r.s 0
 | none=>0
theorem eG {rs:List Rw}{k:fB}{r:Rw}(h:cn rs k=some r):r ∈ rs:=mem_reverse.mp (List.mem_of_find?_eq_some h)
noncomputable def ou (rs:List Rw):Wf:=fun p g k=>mN (ie rs (aN ⟨(p:Int),(g:Int),k,[]⟩))
noncomputable def yZ (P:Program)(w:World)(ts:Ts):TJ:=fun H x n wy=>∃ (dx de:Addr)(lv:V)(yJ:List gB)(rs:List Rw),H x=some (.ins ts.told dx [("land",lv),("entries", .ref de)])/\zA P w H de yJ/\(∀ k,cF yJ k=(cn rs k).map rn)/\(∀ r ∈ rs,∀ k ∈ r.s,k < 40)/\wy=ou rs
theorem yZ.keep {P:Program}{w:World}{ts:Ts}{H H':Hp}{x:Addr}{n:Nat}{wy:Wf}(h:yZ P w ts H x n wy)(k:zj H H'):yZ P w ts H' x n wy:=by
 obtain⟨dx,de,lv,yJ,rs,h1,⟨h2,h3⟩,h4⟩:=h
 exact⟨dx,de,lv,yJ,rs,k _ _ h1 True.intro,⟨k _ _ h2 True.intro,fun y hy=>k _ _ (h3 y hy) True.intro⟩,h4⟩
theorem sU {ks:List Nat}{z:Nat}(h:z ∈ mN (Yd.zE ks 0)):z ∈ ks:=by
 have:=(mem_filter.mp h).2
 have h2:(Yd.zE ks 0).testBit z=true:=this
 rw[pF,decide_eq_true_eq]at h2
 obtain⟨n,hn,e⟩:=Ao.mp h2
 have:n=z:=by omega
 exact this ▸ hn
theorem sY (m:Nat):(mN m).Nodup:=List.nodup_range.filter _
theorem qx {rs:List Rw}{n:Nat}(h:∀ r ∈ rs,∀ k ∈ r.s,k < n)(p g:Nat)(k:Option Nat):(∀ z ∈ ou rs p g k,z < n)/\(ou rs p g k).length <= n:=by
 have h1:∀ z ∈ ou rs p g k,z < n:=fun z hz=>by
  unfold ou ie at hz
  cases hl:cn rs (aN ⟨(p:Int),(g:Int),k,[]⟩) with
  | none=>rw[hl]at hz;exact absurd hz (by show z ∉ mN 0;intro h;cases h)
  | some r=>rw[hl]at hz;exact h r (eG hl) z (sU hz)
 exact⟨h1,cZ n _ (sY _) h1⟩
theorem mP {ts:Ts}{f:Addr}{fd:FuncData}(G:y9 P w K mg base aC 3 f fd ["self", "place", "goal", "came"] (oA P w ts)):y9 P w K mg base aC 3 f fd ["self", "place", "goal", "came"] (dD (yZ P w ts)) :=
 G.imp fun vs H Q E yD=>by
 obtain⟨x,n,wy,p,g,k,e,⟨dx,de,lv,yJ,rs,h1,h2,h3,h4,h5⟩,hp,hg,q⟩:=yD
 exact⟨x,dx,de,lv,yJ,⟨(p:Int),(g:Int),k,[]⟩,ie rs (aN ⟨(p:Int),(g:Int),k,[]⟩),e,h1,h2,by
  rw[h3]
  unfold ie
  cases cn rs (aN ⟨(p:Int),(g:Int),k,[]⟩)<;>rfl,by
  unfold ie
  cases hl:cn rs (aN ⟨(p:Int),(g:Int),k,[]⟩) with
  | none=>exact Nat.two_pow_pos _
  | some r=>exact lt_of_lt_of_le (wH (h4 r (eG hl))) (pow_le_pow_right (by decide) (by decide)),fun H' D s' hD=>q D _ (s'.new hD) (s'.free hD) (by rw[ad,h5];rfl)⟩
theorem vB {sel:Int × Int->Int}{ps:List (Int × Int)}{pl:Int}{g:TG}{tt:TT}{te:TE}{σ0:St}{H:Hp}{Q:VK}(hn:ps.length < sizeLine)
  (hs:∀ (i:Nat)(acc:List V)(N:List V->Hp->Prop)(pr:Int × Int),ps[i]? = some pr->N (if decide (sel pr=pl)=true then acc ++ [V.int i] else acc) H->g (.int i) σ0 H fun σ2 H2=>tt σ2 H2 fun b H3=>if b=true then te σ2 H3 fun y H4=>N (acc ++ [y]) H4 else N acc H3)
  (hq:∀ D,H D=none->Q (.ref D) (upd H D (.lst (bP (fu sel ps pl))))):cO (ug 0 ps.length) g tt te σ0 Q H:=by
 refine lU (lo:=0) (fun k=>decide (sel (ps.getD k (0,0))=pl)) (fun k=>V.int k) hn (fun i acc N hi h=>?_) hq
 obtain⟨pr,hpr⟩:∃ pr,ps[i]? = some pr:=⟨ps[i],getElem?_eq_getElem hi⟩
 have eg:ps.getD i (0,0)=pr:=by rw[getD_eq_getElem?_getD,hpr];rfl
 rw[zero_add]
 rw[eg]at h
 exact hs i acc N pr hpr h
noncomputable def Ql (x:Addr)(H:Hp)(v:V)(r:Rw):Prop:=∃ t l,v = .ref t/\FE H t l r/\l ≠ x
abbrev AY (x:Addr)(H:Hp):List V->List Rw->Prop:=Paired (Ql x H)
theorem AY.imp {x:Addr}{H H':Hp}{G:V->Rw->Prop}(h:∀ v r,Ql x H v r->G v r):∀ {vs:List V}{rs:List Rw},AY x H vs rs->Paired G vs rs:=fun yD=>by
 induction yD with
 | nil=>exact .nil
 | cons z r ih=>exact .cons (h _ _ z) ih
theorem AY.rws {x:Addr}{H:Hp}{vs:List V}{rs:List Rw}(h:AY x H vs rs):BV H vs rs:=AY.imp (H':=H) (fun _ _ ⟨t,l,e,z,_⟩=>⟨t,l,e,z⟩) h
theorem AY.same {x:Addr}{H H':Hp}(s:y8 H H'){vs:List V}{rs:List Rw}(h:AY x H vs rs):AY x H' vs rs:=AY.imp (H':=H) (fun _ _ ⟨t,l,e,z,n⟩=>⟨t,l,e,z.same s,n⟩) h
theorem AY.off {x:Addr}{H:Hp}{xs:List V}{o:HO}(hx:H x=some (.lst xs)){vs:List V}{rs:List Rw}(h:AY x H vs rs):AY x (upd H x o) vs rs :=
 AY.imp (H':=H) (fun _ _ yD=>by obtain⟨t,l,e,z,n⟩:=yD;exact⟨t,l,e,⟨by rw[af (aX z.1 hx (by intro z;cases z))];exact z.1,by rw[af n];exact z.2⟩,n⟩) h
theorem AY.snoc {x:Addr}{H:Hp}{v:V}{r:Rw}(h:Ql x H v r):∀ {vs:List V}{rs:List Rw},AY x H vs rs->AY x H (vs ++ [v]) (rs ++ [r]):=fun yD=>by
 induction yD with
 | nil=>exact .cons h .nil
 | cons z t ih=>exact .cons z ih
theorem pY (us:List Nat)(k:Nat):bP us ++ [V.int (k:Int)]=bP (us ++ [k]):=by unfold bP;rw[map_append];rfl
theorem Ku (m k:Nat):decide (V.int (Builtin.bitAnd ((m:Int) / 2 ^ (k:Int).toNat) 1)=V.int 1)=m.testBit k:=by
 rw[fK,toNat_natCast,← Yd.Ck m k]
theorem qo {K:Frag}{a:Addr}{xs:List Nat}{g:TG}{tt:TT}{te:TE}{σ0:St}{H:Hp}{Q:VK}(q:Nat->Bool)(hn:xs.length < sizeLine)(ha:yC K H a (bP xs))
  (hs:∀ (k:Nat)(acc:List V)(N:List V->Hp->Prop),k ∈ xs->N (if q k then acc ++ [V.int (k:Int)] else acc) H->g (.int (k:Int)) σ0 H fun σ2 H2=>tt σ2 H2 fun b H3=>if b=true then te σ2 H3 fun y H4=>N (acc ++ [y]) H4 else N acc H3)
  (hq:∀ D,H D=none->Q (.ref D) (upd H D (.lst (bP (xs.filter q))))):cO (tZ K a) g tt te σ0 Q H:=by
 refine gj (xs:=bP xs) (fun v=>match v with | .int k=>q k.toNat | _=>false) (fun v=>v) (by unfold bP;rw[length_map];exact hn) ha (fun x acc N hx h=>?_) fun D hD=>?_
 ·obtain⟨k,hk,rfl⟩:=mem_map.mp hx
  exact hs k acc N hk h
 ·have e:((bP xs).filter (fun v=>match v with | .int k=>q k.toNat | _=>false)).map (fun v=>v)=bP (xs.filter q):=by
   unfold bP
   rw[List.map_id'',List.filter_map]
   ·congr 1
   ·intro _;rfl
  rw[e]
  exact hq D hD
theorem Cw.len {n:Nat}{ps:List (Int × Int)}{B:Nat}{rs:List Rw}(h:Cw n ps B rs):rs.length <= B:=by
 have:=cZ B (rs.map rP) (h.sort.imp fun h=>ne_of_lt h) fun x hx=>by
  obtain⟨r,hr,rfl⟩:=mem_map.mp hx
  exact h.low r hr
 rw[length_map]at this
 exact this
theorem tH {n:Nat}{ps:List (Int × Int)}(h1:1 <= n)(h2:n <= 12)(h3:ps.length <= 40)(h:∀ p ∈ ps,fM n p=true):eI n ps = .good:=by
 unfold eI
 rw[decide_eq_true (show (1:Int) <= (n:Int)/\(n:Int) <= 12 by omega),if_neg (by decide),if_neg (by omega),jf h]
noncomputable def tT (s:Stmt):Scope:=match s with
 | .Assign _ (.ListComp _ _ sc _) _=>sc
 | _=>zQ0
noncomputable def gc (b:List Stmt)(i:Nat):Stmt:=b.getD i (.Pass ⟨0,0,0,0⟩)
noncomputable def nZ (s:Stmt):List Stmt:=match s with
 | .For _ _ b _ _=>b
 | _=>[]
noncomputable def lim (xs:List Nat)(t:Nat):Nat:=if t=0 then 0 else xs.getD (t - 1) 0 + 1
theorem xP {xs:List Nat}(hs:xs.Pairwise (· < ·)){t p:Nat}(h:xs[t]? = some p):lim xs t <= p:=by
 unfold lim
 by_cases h0:t=0
 ·rw[if_pos h0];omega
 ·rw[if_neg h0]
  obtain⟨ht,e⟩:=List.getElem?_eq_some_iff.mp h
  have h1:=pairwise_iff_getElem.mp hs (t - 1) t (by omega) ht (by omega)
  rw[getD_eq_getElem?_getD,getElem?_eq_getElem (by omega)]
  rw[e]at h1
  exact h1
theorem sZ {xs:List Nat}{t p:Nat}(h:xs[t]? = some p):lim xs (t + 1)=p + 1:=by
 unfold lim
 rw[if_neg (by omega),Nat.add_sub_cancel,getD_eq_getElem?_getD,h];rfl
theorem vp {xs:List Nat}(h:∀ p ∈ xs,p < 100):lim xs xs.length <= 100:=by
 unfold lim
 by_cases h0:xs.length=0
 ·rw[if_pos h0];omega
 ·rw[if_neg h0,getD_eq_getElem?_getD,getElem?_eq_getElem (show xs.length - 1 < xs.length by omega)]
  exact h _ (getElem_mem _)
noncomputable def aU (ps:List (Int × Int))(p:Nat):List (Option Nat):=none :: (fu Prod.snd ps (p:Int)).map some
theorem vD (ps:List (Int × Int))(p:Nat):[V.yQ] ++ bP (fu Prod.snd ps (p:Int))=(aU ps p).map cV:=by
 unfold aU bP
 rw[map_cons,map_map];rfl
theorem oh (ps:List (Int × Int))(p:Nat):((aU ps p).map ud).Pairwise (· < ·):=by
 unfold aU
 rw[map_cons,map_map,List.pairwise_cons]
 refine⟨fun x hx=>?_,?_⟩
 ·obtain⟨k,_,rfl⟩:=mem_map.mp hx
  show 0 < k + 1
  omega
 ·refine List.Pairwise.map _ (fun a b h=>?_) (List.Pairwise.filter _ List.pairwise_lt_range)
  show a + 1 < b + 1
  omega
theorem j5 {ps:List (Int × Int)}{p:Nat}{cc:Option Nat}(h:cc ∈ aU ps p):ud cc <= ps.length/\∀ k,cc=some k->k ∈ fu Prod.snd ps (p:Int):=by
 rcases mem_cons.mp h with rfl | h
 ·exact⟨zero_le _,fun k e=>by cases e⟩
 ·obtain⟨k,hk,rfl⟩:=mem_map.mp h
  refine⟨?_,fun k' e=>by cases e;exact hk⟩
  have:=mem_range.mp (mem_filter.mp hk).1
  show k + 1 <= _
  omega
noncomputable def tS (s:Stmt):Scope:=match s with
 | .Assign _ (.BinOp _ _ (.ListComp _ _ sc _) _) _=>sc
 | _=>zQ0
theorem m9 {H H2:Hp}{D t1:Addr}{yM:List V}{ps:List (Int × Int)}{x y:Int}(hD:H D=none)(s2:y8 H H2)(gD:H2 D=some (.lst yM))(HF:yU H2 yM ps)(h1:H2 t1=none) :
  (upd H2 t1 (.tup [.int x, .int y])) D=some (.lst yM)/\y8 H (upd (upd H2 t1 (.tup [.int x, .int y])) D (.lst (yM ++ [.ref t1])))/\yU (upd (upd H2 t1 (.tup [.int x, .int y])) D (.lst (yM ++ [.ref t1]))) (yM ++ [.ref t1]) (ps ++ [(x,y)]):=by
 have u1:=(y8.refl H2).new (o := .tup [.int x, .int y]) h1
 have v1:(upd H2 t1 (.tup [.int x, .int y])) t1=some (.tup [.int x, .int y]):=ad
 generalize upd H2 t1 (.tup [.int x, .int y])=H3 at u1 v1 ⊢
 have CO:=u1 _ _ gD
 have kk:zj H3 (upd H3 D (.lst (yM ++ [.ref t1]))):=lG CO
 exact⟨CO,fun b o e=>by rw[af (ai e hD)];exact u1 _ _ (s2 _ _ e),yU.snoc (p:=(x,y)) ⟨t1,rfl,kk _ _ v1 True.intro⟩ (kk.C7 (yU.same u1 HF))⟩
theorem xJ {n x y:Int}(h1:0 <= x)(h2:x < n)(h3:0 <= y)(h4:y < n)(h5:x ≠ y):fM n (x,y)=true:=by
 unfold fM
 simp only[Bool.and_eq_true,decide_eq_true_eq,Bool.not_eq_true',decide_eq_false_iff_not]
 exact⟨⟨by omega,by omega⟩,⟨by omega,by omega⟩,h5⟩
theorem uz {n x o:Int}(h1:0 <= x)(h2:x < n)(h3:0 <= o)(h4:o < n - 1):0 <= (x + 1 + o) % n/\(x + 1 + o) % n < n/\x ≠ (x + 1 + o) % n:=by
 have HG:0 < n:=by omega
 refine⟨emod_nonneg _ (by omega),emod_lt_of_pos _ HG,fun z=>?_⟩
 rcases Int.lt_or_le (x + 1 + o) n with h | h
 ·rw[Int.emod_eq_of_lt (by omega) h]at z;omega
 ·rw[show x + 1 + o=(x + 1 + o - n) + n by omega,Int.add_emod_right,Int.emod_eq_of_lt (by omega) (by omega)]at z;omega
noncomputable def wo (s:YS)(m:Nat):List Nat:=(List.range m).filter fun k=>(aT s k).isSome
theorem k9 {s:YS}{k:Nat}{ln:bC}(h:s.lanes[k]? = some ln):(aT s k).isSome = !ln.qs.isEmpty:=by
 unfold aT
 rw[h]
 cases hq:ln.qs<;>simp[hq]
theorem lE {s:YS}{m k:Nat}{ln:bC}(hk:k < m)(h:s.lanes[k]? = some ln)(hq:ln.qs ≠ []):k ∈ wo s m :=
 mem_filter.mpr ⟨mem_range.mpr hk,by rw[k9 h];cases hh:ln.qs with
  | nil=>exact absurd hh hq
  | cons _ _=>rfl⟩
noncomputable def mZ (t:aS):Int × Int:=(t.start,t.goal)
noncomputable def DS (a:YA)(s:YS):Prop:=∀ p ∈ s.U.map mZ,a.wy p.1.toNat p.2.toNat none ≠ []
theorem iW {l:List aS}{k:Nat}{x y:aS}(h:l[k]? = some x)(e:mZ y=mZ x):(l.set k y).map mZ=l.map mZ:=by
 refine ext_getElem? fun i=>?_
 rw[getElem?_map,getElem?_map,List.getElem?_set]
 by_cases hi:k=i
 ·subst hi
  rw[if_pos rfl,if_pos (gQ0 h),h]
  show some (mZ y)=some (mZ x)
  rw[e]
 ·rw[if_neg hi]
theorem AF.sgs {a:YA}{s s':YS}{m:Mv}(h:AF a s m s'):s'.U.map mZ=s.U.map mZ:=by
 cases h with
 | @Ab k l t ln ht hg hl yX ho =>
  have e1:(bV s k t).U.map mZ=s.U.map mZ:=iW ht rfl
  have CM:(bV s k t).U[k]? = some { t with gone:=t.gone + 1 }:=cv ht
  show(if t.gone=0 then (bV s k t).U.set k _ else (bV s k t).U).map mZ=_
  split
  ·exact(iW (y:={ ({ t with gone:=t.gone + 1 }:aS) with way:=t.way ++ [l] }) CM rfl).trans e1
  ·exact e1
 | @on k l m c lk ln t hk hq ht hl yX ho =>
  show(if c=0 then s.U.set m _ else s.U).map mZ=_
  split
  ·exact iW (y:={ t with way:=t.way ++ [l] }) ht rfl
  ·rfl
 | zZ=>rfl
 | back=>rfl
theorem DS.post {a:YA}{s:YS}(W:DS a s){x y:Nat}{l u:Int}(h:a.wy x y none ≠ []):DS a (cP s x y l u):=fun p hp=>by
 have hp:p ∈ (s.U ++ [(⟨(x:Int),(y:Int),l,u,0,[]⟩:aS)]).map mZ:=hp
 rw[map_append]at hp
 rcases mem_append.mp hp with hp | hp
 ·exact W p hp
 ·rw[mem_singleton.mp hp];exact h
theorem Cu.cnt {a:YA}{s s':YS}(h:Cu a s s'):s'.done.length + s.U.length=s.done.length + s'.U.length:=by
 induction h with
 | nil=>rfl
 | @snoc s x y l u h hl ih =>
  show(s.done ++ [_]).length + _=_ + (s.U ++ [(⟨x,y,l,u,0,[]⟩:aS)]).length
  rw[length_append,length_append,length_singleton,length_singleton];omega
theorem Cu.rooms {a:YA}{s s':YS}(h:Cu a s s'):s'.rooms=s.rooms:=by
 induction h with
 | nil=>rfl
 | snoc _ _ ih=>exact ih
theorem jE:∀ {l:List aS},(∀ t ∈ l,t.gone <= t.len)->(l.map (·.gone)).sum <= (l.map (·.len)).sum
 | [],_=>Int.le_refl _
 | x :: l,h=>by
  have h1:=h x mem_cons_self
  have h2:=jE fun y hy=>h y (mem_cons_of_mem _ hy)
  rw[map_cons,map_cons,sum_cons,sum_cons];omega
theorem oz:∀ {l:List aS},(∀ t ∈ l,t.gone=t.len)->(l.map (·.gone)).sum=(l.map (·.len)).sum
 | [],_=>rfl
 | x :: l,h=>by
  have h1:=h x mem_cons_self
  have h2:=oz fun y hy=>h y (mem_cons_of_mem _ hy)
  rw[map_cons,map_cons,sum_cons,sum_cons];omega
theorem fP:∀ l:List (List (Int × Int)),(l.map fun q=>(q.length:Int)).sum=(((l.map fun q=>q.length).sum:Nat):Int)
 | []=>rfl
 | x :: l=>by rw[map_cons,map_cons,sum_cons,sum_cons,fP l,Int.natCast_add]
theorem pf:∀ {l:List aS},(∀ t ∈ l,0 <= t.len/\t.len <= 4)->0 <= (l.map (·.len)).sum/\(l.map (·.len)).sum <= 4 * l.length
 | [],_=>⟨Int.le_refl _,Int.le_refl _⟩
 | x :: l,h=>by
  have h1:=h x mem_cons_self
  have h2:=pf fun y hy=>h y (mem_cons_of_mem _ hy)
  rw[map_cons,sum_cons,length_cons]
  exact⟨by omega,by omega⟩
theorem qj {a:YA}{s:YS}(J:zC a s)(h:kE s=true):∀ (k:Nat)(ln:bC),s.lanes[k]? = some ln->ln.qs=[]:=fun k ln hk=>by
 unfold kE at h
 have h:=of_decide_eq_true h
 rw[fP]at h
 have h1:=J.sum
 have h2:dX s <= (s.U.map (·.len)).sum:=jE fun t ht=>by
  obtain⟨m,hm⟩:=List.getElem?_of_mem ht
  exact(J.Ai m t hm).2.1
 have h3:=eC (fun ln:bC=>ln.qs.length) hk
 have h3:ln.qs.length <= fO s:=h3
 have h4:((eX s:Nat):Int)=(s.U.map (·.len)).sum:=h.symm
 exact List.length_eq_zero_iff.mp (by omega)
theorem v6 {a:YA}{s:YS}{N:Nat->Nat->Nat}(G:zW a s N zr)(J:zC a s)(S:Ca a s)(hr:∀ (k:Nat) (ln:bC),s.lanes[k]? = some ln->1 <= ln.r + ln.b + ln.qs.length)(W:DS a s)(yL:∀ p g k,p < a.n->g < a.n->∀ z ∈ a.wy p g k,z < a.ps.length)(h:kE s=false):wo s a.ps.length ≠ []:=fun he=>by
 have h0:∀ (k:Nat)(ln:bC),s.lanes[k]? = some ln->ln.qs=[]:=fun k ln hk=>by
  cases hq:ln.qs with
  | nil=>rfl
  | cons _ _ =>
   have:=lE (m:=a.ps.length) (by rw[← J.lanes];exact(gQ0 hk)) hk (by rw[hq];intro z;cases z)
   rw[he]at this;cases this
 have h1:fO s=0:=qJ _ fun k ln hk=>by rw[h0 k ln hk];rfl
 have h2:∀ t ∈ s.U,t.gone=t.len:=fun t ht=>by
  obtain⟨m,hm⟩:=List.getElem?_of_mem ht
  apply Classical.byContradiction
  intro hg
  obtain⟨x,y,ex,ey,hx,hy⟩:=J.lets m t hm
  obtain⟨l,hl,zV⟩:∃ l,l ∈ bS a t/\l < a.ps.length:=by
   unfold bS
   by_cases hz:t.gone=0
   ·rw[if_pos hz]
    have hw:=W (mZ t) (mem_map_of_mem ht)
    have hw:a.wy t.start.toNat t.goal.toNat none ≠ []:=hw
    cases hc:a.wy t.start.toNat t.goal.toNat none with
    | nil=>exact absurd hc hw
    | cons l r =>
     refine⟨l,mem_cons_self,?_⟩
     rw[ex,ey,toNat_natCast,toNat_natCast]at hc
     exact yL x y none hx hy l (by rw[hc];exact mem_cons_self)
   ·rw[if_neg hz]
    cases hc:t.way with
    | nil =>
     have g0:((N m 0 + 0:Nat):Int)=t.gone:=G.g0 m t hm
     have:=G.top m t hm hc
     omega
    | cons l r=>exact⟨l,mem_cons_self,(J.zu m t hm).1 l (by rw[hc];exact mem_cons_self)⟩
  have Bk:=getElem?_eq_getElem (show l < s.lanes.length by rw[J.lanes];exact zV)
  exact S.starts G J hr hm hg hl Bk (h0 l _ Bk)
 have h3:=J.sum
 have h4:dX s=(s.U.map (·.len)).sum:=oz h2
 unfold kE at h
 have h:=of_decide_eq_false h
 rw[fP]at h
 have h5:¬ (s.U.map (·.len)).sum=((eX s:Nat):Int):=h
 omega
theorem tP (m:Nat)(qs:List (Int × Int))(l c:Int):cnt m (qs ++ [(l,c)])=if l=(m:Int) then cnt m qs ++ [c] else cnt m qs:=by
 rw[cR]
 unfold cnt
 by_cases h:l=(m:Int)
 ·rw[if_pos h,filter_cons_of_pos (by simpa using h)];rfl
 ·rw[if_neg h,filter_cons_of_neg (by simpa using h)];simp
theorem vC (m:Nat)(qs:List (Int × Int)):(cnt m qs).length <= qs.length:=by
 unfold cnt;rw[length_map];exact length_filter_le _ _
theorem tN {K:Frag}{a:Addr}{vs:List V}{qs:List (Int × Int)}{m:Nat}{g:TG}{tt:TT}{te:TE}{σ0:St}{H:Hp}{Q:VK}(ha:H a=some (.lst vs))(hL:yU H vs qs)(hn:qs.length < sizeLine)
  (hs:∀ (x:Addr)(l c:Int)(acc:List V)(N:List V->Hp->Prop),H x=some (.tup [.int l, .int c])->N (if l=(m:Int) then acc ++ [.int c] else acc) H->g (.ref x) σ0 H fun σ2 H2=>tt σ2 H2 fun b H3=>if b=true then te σ2 H3 fun y H4=>N (acc ++ [y]) H4 else N acc H3)
  (hq:∀ D,H D=none->Q (.ref D) (upd H D (.lst ((cnt m qs).map V.int)))):cO (tZ K a) g tt te σ0 Q H:=by
 have hl:vs.length=qs.length:=Paired.length hL
 refine bu qs.length hn (fun i acc H'=>H' = H/\acc=(cnt m (qs.take i)).map V.int) ⟨rfl,rfl⟩ (fun i acc H' h=>by rw[h.2,length_map];exact le_trans (vC _ _) (length_take_le _ _)) (fun i acc H' hi h=>?_) (fun acc H' h=>?_)
 ·obtain⟨rfl,rfl⟩:=h
  have hx:vs[i]? = some (vs[i]'(by omega)):=getElem?_eq_getElem (by omega)
  refine⟨⟨vs,_,yC.of ha,hx⟩,fun v H2 y=>?_⟩
  obtain⟨rfl,y⟩:=y
  have hv:=y vs (yC.of ha)
  obtain⟨pr,hpr,x,rfl,gx⟩:=Paired.at hL hv
  obtain⟨l,c⟩:=pr
  refine hs x l c _ (fun zo H3=>H3=H2/\zo = (cnt m (qs.take (i + 1))).map V.int) gx ⟨rfl,?_⟩
  rw[take_succ,hpr]
  show _=(cnt m (qs.take i ++ [(l,c)])).map V.int
  rw[tP]
  split
  ·rw[map_append];rfl
  ·rfl
 ·obtain⟨rfl,rfl⟩:=h
  rw[take_of_length_le (Nat.le_refl _)]
  exact⟨⟨vs,yC.of ha,by omega⟩,fun D hD=>hq D hD⟩
noncomputable def mV (K:Frag)(c:Cs)(TC:Addr)(J:TJ)(ys:Ys):Sp:=fun vs H Q _=>∃ (a:YA)(s:YS),vs=[.ref a.y]/\D1 K c TC J ys H a s/\s.U.length <= 900/\∀ H',y8 H H'->Q (.int (kd s * ((2 * a.ps.length + 1:Nat):Int))) H'
noncomputable def Kv (s:Stmt):Scope:=match s with
 | .Assign _ (.Call _ (.ListComp _ _ sc _ :: _) _ _) _=>sc
 | _=>zQ0
theorem Fp:ap ["yard", "pieces"] ["yard"] (ah lg):=L2.ze
theorem Kw:zF ["yard", "pieces"] (ah lg) (Kv ((aF lg).getD 0 (.Pass ⟨0,0,0,0⟩))) ["yard"] [0]:=L2.Ah
theorem Kx:(["number", "yard"]:List Str).Nodup:=by decide +kernel
theorem k4 {H:Hp}:∀ {vs:List V}{l:List aS},Paired (fun (v:V)(t:aS)=>v = .int t.len) vs l->vs=(l.map (·.len)).map V.int
 | _,_, .nil=>rfl
 | _,_, .cons h r=>by rw[h,k4 (H:=H) r];rfl
theorem uZ {c:Cs}{ys:Ys}{J:TJ}{TC f fw fp fl:Addr}{fd dw dp dl:FuncData}(F:yY K "most_moves" "most_moves" lg f fd)(T:dP mg)(L:mG K c)(Y:gE K ys)(W:Wy K TC fw dw J)
  (mp:bM K ys.yB "posted" fp) (bp:Binds K dp ["self"] []) (Gp:y9 P w K mg base aC 1 fp dp ["self"] (iJ K ys))
  (ml:bM K ys.yB "letter_told" fl) (bl:Binds K dl ["self", "number"] []) (Gl:y9 P w K mg base aC 1 fl dl ["self", "number"] (mW K ys)) :
  y9 P w K mg base aC 2 f fd ["yard"] (mV K c TC J ys):=by
 refine F.ok Fp (fun _ _ _ _ h=>?_) (fun _ _ _ s H _ Q E hr h=>?_)
 ·obtain⟨a,s,rfl,_⟩:=h
  rfl
 ·obtain⟨a,st,rfl,hI,hl9,q⟩:=h
  refine⟨_,ae (aE (i:=1) Fp.nd rfl (Or.inl rfl) (aw (eJ rfl) rfl T.sum PyProof.Rows.boot_sum (aa (aQ (own:=["number"]) (capN:=["yard"]) (cap:=[0]) Kw rfl (aJ rfl T.range (aa (bD (pv 0) Y.cl mp Gp hr bp .nil ao) ac)) (fun C s' H' fp=>⟨av (i:=0) Kx rfl (Or.inl rfl),b9,az (show AL _ (iQ K) from yE) (aG (pv 1) Y.cl ml Gl hr bl .nil ao (aa (pv 0) ac)) aj (fun _ _=>rfl)⟩)) ac)))
   (ag (ar (aD gN (pv 1) (aD ca (aD gN aj (aw aq rfl T.len PySem.boot_len (aa (am (am (am (pv 0) rfl) rfl) rfl) ac))) aj)))),?_⟩
  have hY:=hI.Y
  refine⟨_,rfl,a.y,a.dy,_,rfl,hY.ins,rfl,a.y,a.dy,a.tb,a.ro,a.la,a.le,a.li,a.dn,st,rfl,hY,(st.U.length:Int),rfl,by omega,by omega,?_⟩
  rw[toNat_natCast]
  refine gi (R:=fun _ (v:V) (t:aS)=>v = .int t.len) (fun _ v t h=>h) st.U (by rw[sizeLine_eq];omega) (fun i t H1 N ht s1 hN=>?_) (fun D vs H1 s1 hD pD=>?_)
  ·have zM:=yH.same hY s1
   exact⟨_,rfl,a.y,a.dy,_,rfl,zM.ins,rfl,_,rfl,a.y,a.dy,a.tb,a.ro,a.la,a.le,a.li,a.dn,st,i,t,rfl,zM,ht,fun tp H2 s2 Ky=>⟨tp,_,2,_,rfl,rfl,yN.of Ky,ak (j:=2) rfl,hN _ H2 s2 rfl⟩⟩
  have s2:=s1.new (o := .lst vs) hD
  have gD:(upd H1 D (.lst vs)) D=some (.lst vs):=ad
  generalize upd H1 D (.lst vs)=H2 at s2 gD ⊢
  rw[k4 (H:=H) pD]at gD
  have AE:=hI.same W s2
  obtain⟨BY,fst,Bs,zB,Au⟩:=AE.T.i
  have UL:a.yO.length=a.ps.length:=Paired.length AE.T.l.2.2
  refine⟨D,_,rfl,yC.of gD,?_⟩
  refine⟨_,rfl,_,rfl,a.y,ys.yB,a.dy,_,_,rfl,AE.Y.ins,Y.cl,Y.n1,rfl,a.tb,TC,BY,fst,_,rfl,Bs,W.cl,W.nl,zB,a.lx,c.land,a.zq,_,_,rfl,AE.T.l.1,L.cl,L.nl,rfl,a.lt,_,rfl, .inr (yN.of AE.T.l.2.1),_,_,rfl,rfl, .inl ⟨by decide,by decide⟩,_,_,rfl,rfl,_,_,rfl,rfl, .inr ?_,?_⟩
  ·have:=AE.T.zD
   rw[UL]
   exact⟨by show -(2 ^ 64) < 2 * ((a.ps.length:Nat):Int) + 1;omega,by show 2 * ((a.ps.length:Nat):Int) + 1 < 2 ^ 64;omega⟩
  ·rw[UL]
   show Q (.int ((st.U.map (·.len)).sum * (2 * ((a.ps.length:Nat):Int) + 1))) H2
   rw[show(2 * ((a.ps.length:Nat):Int) + 1)=((2 * a.ps.length + 1:Nat):Int) by omega]
   exact q H2 s2
noncomputable def cr (S:List Nat)(l g:Nat):Bool:=(S.getD l 0).testBit g
structure yz (n:Nat)(ps:List (Int × Int))(wy:Wf)(nums:List Int)(S:List Nat):Prop where
 nl:nums.length=ps.length
 sl:S.length=ps.length
 lt:∀ z ∈ S,z < 2 ^ n
 st:∀ p g,p < n->g < n->∀ l ∈ wy p g none,cr S l g=true
 on:∀ l g e:Nat,l < ps.length->g < n->cr S l g=true->(ps.getD l (0,0)).2=(e:Int)->e ≠ g->wy e g (some l) ≠ []/\∀ w ∈ wy e g (some l),cr S w g=true/\nums.getD l 0 < nums.getD w 0
noncomputable def Cb (nums:List Int)(S:List Nat)(s:YS):Prop:=∀ (m:Nat)(t:aS),s.U[m]? = some t->(∀ l ∈ t.way,cr S l t.goal.toNat=true)/\(t.way.map fun l=>nums.getD l 0).Pairwise (· < ·)
theorem je {a:YA}(O:qw a){l:Nat}(hl:l < a.ps.length):∃ e:Nat,(a.ps.getD l (0,0)).2=(e:Int)/\e < a.n:=by
 obtain⟨e,h1,h2⟩:=O.ends l _ (getElem?_eq_getElem hl)
 exact⟨e,by rw[getD_eq_getElem?_getD,getElem?_eq_getElem hl];exact h1,h2⟩
theorem nI {a:YA}{nums:List Int}{S:List Nat}(B:yz a.n a.ps a.wy nums S)(O:qw a){k g:Nat}(hk:k < a.ps.length)(hg:g < a.n)(hb:cr S k g=true)(he:(a.ps.getD k (0,0)).2 ≠ (g:Int)) :
  il a k g ≠ []/\∀ w ∈ il a k g,cr S w g=true/\nums.getD k 0 < nums.getD w 0:=by
 obtain⟨e,h1,h2⟩:=je O hk
 unfold il
 rw[if_neg he,h1,toNat_natCast]
 exact B.on k g e hk hg hb h1 (fun z=>he (by rw[h1,z]))
theorem jp {a:YA}{s:YS}{k m:Nat}{lk:bC}{t:aS}(hk:s.lanes[k]? = some lk)(hq:lk.qs.head? = some ((m:Int),0))(ht:s.U[m]? = some t):bO a s k=(il a k t.goal.toNat).filter fun l=>!decide (l ∈ t.way):=by
 have ef:aT s k=some ((m:Int),0):=by unfold aT;rw[hk];exact hq
 unfold bO
 rw[ef]
 show(match s.U[(m:Int).toNat]? with | none=>[] | some t=>if (0:Int)=0 then (il a k t.goal.toNat).filter fun l=>!decide (l ∈ t.way) else (t.way.drop (t.way.idxOf k + 1)).take 1)=_
 rw[toNat_natCast,ht]
 exact if_pos rfl
theorem Cb.step {a:YA}{s s':YS}{nums:List Int}{S:List Nat}{mv:Mv}(B:yz a.n a.ps a.wy nums S)(O:qw a)(R:Cb nums S s)(J:zC a s)(h:AF a s mv s'):Cb nums S s':=by
 cases h with
 | @Ab k l t ln ht hg hl yX ho =>
  intro m t2 h2
  have CM:(bV s k t).U[k]? = some { t with gone:=t.gone + 1 }:=cv ht
  have R1:Cb nums S (bV s k t):=fun m t2 h2=>by
   rcases aY h2 with ⟨rfl,rfl⟩ | ⟨_,h2⟩
   ·exact R m t ht
   ·exact R m t2 h2
  have h2:(if t.gone=0 then (bV s k t).U.set k { ({ t with gone:=t.gone + 1 }:aS) with way:=t.way ++ [l] } else (bV s k t).U)[m]? = some t2:=h2
  by_cases h0:t.gone=0
  ·rw[if_pos h0]at h2
   rcases aY h2 with ⟨rfl,rfl⟩ | ⟨_,h2⟩
   ·have hw:=J.zH m t ht h0
    obtain⟨x,y,ex,ey,hx,hy⟩:=J.lets m t ht
    unfold bS at hl
    rw[if_pos h0,ex,ey,toNat_natCast,toNat_natCast]at hl
    refine⟨fun z hz=>?_,?_⟩
    ·have hz:z ∈ t.way ++ [l]:=hz
     rw[hw,List.nil_append]at hz
     rw[mem_singleton.mp hz]
     show cr S l t.goal.toNat=true
     rw[ey,toNat_natCast]
     exact B.st x y hx hy l hl
    ·show((t.way ++ [l]).map fun l=>nums.getD l 0).Pairwise (· < ·)
     rw[hw]
     simp
   ·exact R1 m t2 h2
  ·rw[if_neg h0]at h2
   exact R1 m t2 h2
 | @on k l m c lk ln t hk hq ht hl yX ho =>
  intro m2 t2 h2
  have h2:(if c=0 then s.U.set m { t with way:=t.way ++ [l] } else s.U)[m2]? = some t2:=h2
  by_cases h0:c=0
  ·rw[if_pos h0]at h2
   rcases aY h2 with ⟨rfl,rfl⟩ | ⟨_,h2⟩
   ·subst h0
    rw[jp hk hq ht]at hl
    have hl:=(mem_filter.mp hl).1
    obtain⟨hb,hp⟩:=R m2 t ht
    have hla:=J.Cq k lk hk m2 t (mem_of_mem_head? hq) ht
    obtain⟨x,y,ex,ey,hx,hy⟩:=J.lets m2 t ht
    rw[ey,toNat_natCast]at hl hb
    have BZ:k ∈ t.way:=mem_of_getLast? hla
    have zK:=(J.zu m2 t ht).1 k BZ
    have zc:(a.ps.getD k (0,0)).2 ≠ (y:Int):=fun z=>by unfold il at hl;rw[if_pos z]at hl;cases hl
    obtain⟨h1,h3⟩:=(nI B O zK hy (hb k BZ) zc).2 l hl
    refine⟨fun z hz=>?_,?_⟩
    ·show cr S z t.goal.toNat=true
     rw[ey,toNat_natCast]
     rcases mem_append.mp (show z ∈ t.way ++ [l] from hz) with hz | hz
     ·exact hb z hz
     ·rw[mem_singleton.mp hz];exact h1
    ·show((t.way ++ [l]).map fun l=>nums.getD l 0).Pairwise (· < ·)
     rw[map_append,pairwise_append]
     refine⟨hp,by simp,fun u hu v hv=>?_⟩
     have hv:v=nums.getD l 0:=by simpa using hv
     rw[hv]
     have hle:u <= nums.getD k 0:=by
      obtain⟨w',e⟩:∃ w',t.way=w' ++ [k]:=List.getLast?_eq_some_iff.mp hla
      rw[e,map_append]at hu hp
      rcases mem_append.mp hu with hu | hu
      ·exact Int.le_of_lt ((pairwise_append.mp hp).2.2 u hu _ (mem_singleton.mpr rfl))
      ·have:u=nums.getD k 0:=by simpa using hu
       omega
     omega
   ·exact R m2 t2 h2
  ·rw[if_neg h0]at h2
   exact R m2 t2 h2
 | zZ=>exact R
 | back=>exact R
theorem Cb.post {nums:List Int}{S:List Nat}{s:YS}(R:Cb nums S s){x y l u:Int}:Cb nums S (cP s x y l u):=fun m t h=>by
 have h:(s.U ++ [(⟨x,y,l,u,0,[]⟩:aS)])[m]? = some t:=h
 rw[List.getElem?_append]at h
 split at h
 ·exact R m t h
 ·have:t = ⟨x,y,l,u,0,[]⟩:=by
   have:=mem_of_getElem? h
   simpa using this
  subst this
  exact⟨fun l hl=>(by cases hl),List.Pairwise.nil⟩
theorem Cb.dn {nums:List Int}{S:List Nat}{s:YS}(R:Cb nums S s)(d:List (List V)):Cb nums S { s with done:=d }:=R
theorem sW (f:Nat->Int):∀ (l:List Nat),l ≠ []->∃ k ∈ l,∀ j ∈ l,f j <= f k
 | [],h=>absurd rfl h
 | [x],_=>⟨x,mem_cons_self,fun j hj=>by rw[mem_singleton.mp hj];exact Int.le_refl _⟩
 | x :: y :: r,_=>by
  obtain⟨k,hk,h⟩:=sW f (y :: r) (by simp)
  by_cases hx:f k <= f x
  ·refine⟨x,mem_cons_self,fun j hj=>?_⟩
   rcases mem_cons.mp hj with rfl | hj
   ·exact Int.le_refl _
   ·exact Int.le_trans (h j hj) hx
  ·refine⟨k,mem_cons_of_mem _ hk,fun j hj=>?_⟩
   rcases mem_cons.mp hj with rfl | hj
   ·omega
   ·exact h j hj
theorem never {a:YA}{s:YS}{nums:List Int}{S:List Nat}{N:Nat->Nat->Nat}(B:yz a.n a.ps a.wy nums S)(O:qw a)(R:Cb nums S s)(G:zW a s N zr)(J:zC a s)(Z:Ca a s)(hr:∀ (k:Nat) (ln:bC),s.lanes[k]? = some ln->1 <= ln.r + ln.b + ln.qs.length)(W:DS a s)(yL:∀ p g k,p < a.n->g < a.n->∀ z ∈ a.wy p g k,z < a.ps.length):kE s=true:=by
 cases he:kE s with
 | true=>rfl
 | false =>
  exfalso
  obtain⟨k,hk,hm⟩:=sW (fun l=>nums.getD l 0) _ (v6 G J Z hr W yL he)
  obtain⟨zK,hf⟩:=mem_filter.mp hk
  have zK:=mem_range.mp zK
  have Qm:k < s.lanes.length:=by rw[J.lanes];exact zK
  have yX:=getElem?_eq_getElem Qm
  generalize s.lanes[k]=ln at yX
  obtain⟨q,hq⟩:∃ q,ln.qs.head? = some q:=by
   have hf:(aT s k).isSome=true:=hf
   unfold aT at hf
   rw[yX]at hf
   exact Option.isSome_iff_exists.mp hf
  obtain⟨z,c⟩:=q
  obtain⟨m,t,hz,ht,BZ⟩:=J.zL k ln yX _ (mem_of_mem_head? hq)
  have hz:z=(m:Int):=hz
  subst hz
  obtain⟨x,y,ex,ey,hx,hy⟩:=J.lets m t ht
  obtain⟨hb,hp⟩:=R m t ht
  have up:∃ l,l ∈ bO a s k/\l < a.ps.length/\nums.getD k 0 < nums.getD l 0:=by
   by_cases hc:c=0
   ·subst hc
    have zc:(a.ps.getD k (0,0)).2 ≠ (y:Int):=fun e=>Z.Kt k m 0 ln t yX hq ht (by rw[ey];exact e.symm)
    rw[ey,toNat_natCast]at hb
    obtain⟨h1,h2⟩:=nI B O zK hy (hb k BZ) zc
    obtain⟨l,hl⟩:∃ l,l ∈ il a k y:=by
     cases hw:il a k y with
     | nil=>exact absurd hw h1
     | cons l r=>exact⟨l,mem_cons_self⟩
    have zb:=(h2 l hl).2
    have hla:=J.Cq k ln yX m t (mem_of_mem_head? hq) ht
    refine⟨l,?_,?_,zb⟩
    ·rw[jp yX hq ht,ey,toNat_natCast]
     refine mem_filter.mpr ⟨hl,?_⟩
     rw[decide_eq_false fun UM=>?_];rfl
     have hle:nums.getD l 0 <= nums.getD k 0:=by
      obtain⟨w',e⟩:∃ w',t.way=w' ++ [k]:=List.getLast?_eq_some_iff.mp hla
      rw[e]at UM hp
      rw[map_append]at hp
      rcases mem_append.mp UM with hu | hu
      ·exact Int.le_of_lt ((pairwise_append.mp hp).2.2 _ (mem_map_of_mem hu) _ (mem_singleton.mpr rfl))
      ·rw[mem_singleton.mp hu];exact Int.le_refl _
     omega
    ·unfold il at hl
     rw[if_neg zc]at hl
     obtain⟨e,h1,h2⟩:=je O zK
     rw[h1,toNat_natCast]at hl
     exact yL e y _ h2 hy l hl
   ·have hwn:bO a s k ≠ []:=fun e=>hc (Z.head G J yX hq ht e)
    obtain⟨l,hl⟩:∃ l,l ∈ bO a s k:=by
     cases hw:bO a s k with
     | nil=>exact absurd hw hwn
     | cons l r=>exact⟨l,mem_cons_self⟩
    have h1:=jA yX hq ht hl
    rw[if_neg hc]at h1
    have h2:=du h1
    obtain⟨i,hi⟩:=List.getElem?_of_mem BZ
    rw[ja (J.zu m t ht).2 hi]at h2
    refine⟨l,hl,(J.zu m t ht).1 l (mem_of_getElem? h2),?_⟩
    obtain⟨b1,e1⟩:=List.getElem?_eq_some_iff.mp hi
    obtain⟨b2,e2⟩:=List.getElem?_eq_some_iff.mp h2
    have:=pairwise_iff_getElem.mp hp i (i + 1) (by rw[length_map];exact b1) (by rw[length_map];exact b2) (by omega)
    rw[getElem_map,getElem_map,e1,e2]at this
    exact this
  obtain⟨l,hl,zV,zb⟩:=up
  have Bk:=getElem?_eq_getElem (show l < s.lanes.length by rw[J.lanes];exact zV)
  have:=hm l (lE zV Bk (Z.wants G J hr yX hq ht hl Bk))
  omega
structure Kz (ps:List (Int × Int))(nums:List Int)(al:List Nat)(l:Nat):Prop where
 iff:∀ g:Nat,cr al l g=true↔((g:Int)=(ps.getD l (0,0)).2∨∃ o,o < ps.length/\(ps.getD o (0,0)).1=(ps.getD l (0,0)).2/\nums.getD l 0 < nums.getD o 0/\cr al o g=true)
theorem gw {al:List Nat}{l o v g:Nat}(h:o ≠ l):cr (al.set l v) o g=cr al o g:=by
 unfold cr
 rw[getD_eq_getElem?_getD,getD_eq_getElem?_getD,getElem?_set_ne (Ne.symm h)]
theorem vE {al:List Nat}{l v g:Nat}(h:l < al.length):cr (al.set l v) l g=v.testBit g:=by
 unfold cr
 rw[getD_eq_getElem?_getD,List.getElem?_set_self h];rfl
theorem tU {ps:List (Int × Int)}{nums:List Int}{al:List Nat}{ns:List Nat}{i l v:Nat}(DT:al.length=ps.length)(pm:ns.Perm (List.range ps.length))(so:ns.Pairwise fun x y=>nums.getD y 0 <= nums.getD x 0)(hi:ns[i]? = some l)
  (h:∀ x ∈ ns.take i,Kz ps nums al x) (hv:∀ g:Nat,v.testBit g=true↔((g:Int)=(ps.getD l (0,0)).2∨∃ o,o < ps.length/\(ps.getD o (0,0)).1=(ps.getD l (0,0)).2/\nums.getD l 0 < nums.getD o 0/\cr al o g=true)):∀ x ∈ ns.take (i + 1),Kz ps nums (al.set l v) x:=by
 have nd:ns.Nodup:=pm.nodup_iff.mpr List.nodup_range
 have zV:l < ps.length:=mem_range.mp (pm.mem_iff.mp (mem_of_getElem? hi))
 obtain⟨bi,ei⟩:=List.getElem?_eq_some_iff.mp hi
 have early:∀ (j x o:Nat),ns[j]? = some x->o < ps.length->nums.getD x 0 < nums.getD o 0->∃ j',j' < j/\ns[j']? = some o:=fun j x o hj ho zb=>by
  obtain⟨j',HC⟩:=List.getElem?_of_mem (pm.mem_iff.mpr (mem_range.mpr ho))
  refine⟨j',?_,HC⟩
  apply Classical.byContradiction
  intro hn
  obtain⟨b1,e1⟩:=List.getElem?_eq_some_iff.mp hj
  obtain⟨b2,e2⟩:=List.getElem?_eq_some_iff.mp HC
  rcases lt_or_ge j j' with hh | hh
  ·have:=pairwise_iff_getElem.mp so j j' b1 b2 hh
   rw[e1,e2]at this;omega
  ·have:j=j':=by omega
   subst this
   rw[e1]at e2;subst e2;omega
 intro x hx
 rw[take_succ,hi,Option.toList_some]at hx
 rcases mem_append.mp hx with hx | hx
 ·obtain⟨j,hj,ex⟩:=mem_take_iff_getElem.mp hx
  have HD:j < i:=by omega
  have UN:ns[j]? = some x:=by rw[getElem?_eq_getElem (by omega),ex]
  have xl:x ≠ l:=fun z=>by
   have:=ck nd UN (z ▸ hi)
   omega
  refine⟨fun g=>?_⟩
  rw[gw xl,(h x hx).iff g]
  refine or_congr Iff.rfl ⟨fun⟨o,h1,h2,h3,h4⟩=>?_,fun⟨o,h1,h2,h3,h4⟩=>?_⟩ <;>
  ·obtain⟨j',hj1,OC⟩:=early j x o UN h1 h3
   have ol:o ≠ l:=fun z=>by
    have:=ck nd OC (z ▸ hi)
    omega
   first
    | exact⟨o,h1,h2,h3,by rw[gw ol];exact h4⟩
    | exact⟨o,h1,h2,h3,by rw[gw ol]at h4;exact h4⟩
 ·rw[mem_singleton.mp hx]
  refine⟨fun g=>?_⟩
  rw[vE (by rw[DT];exact zV),hv g]
  refine or_congr Iff.rfl ⟨fun⟨o,h1,h2,h3,h4⟩=>?_,fun⟨o,h1,h2,h3,h4⟩=>?_⟩ <;>
  ·have ol:o ≠ l:=fun z=>by subst z;omega
   first
    | exact⟨o,h1,h2,h3,by rw[gw ol];exact h4⟩
    | exact⟨o,h1,h2,h3,by rw[gw ol]at h4;exact h4⟩
structure wr (ps:List (Int × Int))(nums:List Int)(al:List Nat)(r:Rw):Prop where
 ok:∀ l ∈ r.s,l < ps.length/\(ps.getD l (0,0)).1=r.p/\cr al l r.g.toNat=true/\∀ k,r.c=some k->nums.getD k 0 < nums.getD l 0
 all:r.s=[]->∀ l,l < ps.length->(ps.getD l (0,0)).1=r.p->cr al l r.g.toNat=true->∃ k,r.c=some k/\nums.getD l 0 <= nums.getD k 0
noncomputable def D6 (rs:List Rw)(p g:Nat)(c:Option Nat):Prop:=∃ r ∈ rs,r.p=(p:Int)/\r.g=(g:Int)/\r.c=c
theorem D6.app {rs:List Rw}{p g:Nat}{c:Option Nat}(h:D6 rs p g c)(xs:List Rw):D6 (rs ++ xs) p g c:=let ⟨r,h1,h2⟩:=h; ⟨r,mem_append_left _ h1,h2⟩
theorem kq {r:Rw}{p g:Nat}{c:Option Nat}(h:aN r=aN ⟨(p:Int),(g:Int),c,[]⟩):r.p=(p:Int)/\r.g=(g:Int)/\r.c=c:=by
 unfold aN at h
 injection h with h1 h2
 injection h2 with h2 h3
 injection h3 with h3 _
 injection h1 with h1
 injection h2 with h2
 refine⟨h1,h2,?_⟩
 dsimp only at h3
 cases ha:r.c with
 | none=>cases c with
  | none=>rfl
  | some k=>rw[ha]at h3;cases h3
 | some k=>cases c with
  | none=>rw[ha]at h3;cases h3
  | some k' =>
   rw[ha]at h3
   have h3:some (k:Int)=some (k':Int):=h3
   injection h3 with h3
   rw[show k=k' by omega]
theorem iX {rs:List Rw}{k:fB}{r:Rw}(h:cn rs k=some r):aN r=k:=by
 have:=List.find?_some h
 simpa using this
theorem xj {n:Nat}{ps:List (Int × Int)}{nums:List Int}{al:List Nat}{rs:List Rw}(h1:nums.length=ps.length)(h2:al.length=ps.length)(h3:∀ z ∈ al,z < 2 ^ n)(hA:∀ l,l < ps.length->Kz ps nums al l)(hR:∀ r ∈ rs,wr ps nums al r)
  (hC:∀ p g c,p < n->g < n->p ≠ g->c ∈ aU ps p->D6 rs p g c) (hE:∀ l,l < ps.length->∀ e:Nat,(ps.getD l (0,0)).2=(e:Int)->e < n):yz n ps (ou rs) nums al:=by
 have mem:∀ {p g:Nat}{c:Option Nat}{l:Nat},l ∈ ou rs p g c->∃ r ∈ rs,r.p=(p:Int)/\r.g=(g:Int)/\r.c=c/\l ∈ r.s:=fun {p g c l} h=>by
  unfold ou ie at h
  cases hl:cn rs (aN ⟨(p:Int),(g:Int),c,[]⟩) with
  | none=>rw[hl]at h;exact absurd h (by show l ∉ mN 0;intro h;cases h)
  | some r =>
   rw[hl]at h
   obtain⟨e1,e2,e3⟩:=kq (iX hl)
   exact⟨r,eG hl,e1,e2,e3,sU h⟩
 refine⟨h1,h2,h3,fun p g hp hg l hl=>?_,fun l g e hl hg hb he zc=>⟨fun hn=>?_,fun w hw=>?_⟩⟩
 ·obtain⟨r,hr,e1,e2,e3,hs⟩:=mem hl
  have:=((hR r hr).ok l hs).2.2.1
  rw[e2,toNat_natCast]at this
  exact this
 ·obtain⟨r0,BW,e1,e2,e3⟩:=hC e g (some l) (hE l hl e he) hg zc (mem_cons_of_mem _ (mem_map_of_mem (mem_filter.mpr ⟨mem_range.mpr hl,decide_eq_true he⟩)))
  obtain⟨r,Dk⟩:∃ r,cn rs (aN ⟨(e:Int),(g:Int),some l,[]⟩)=some r:=by
   cases hx:cn rs (aN ⟨(e:Int),(g:Int),some l,[]⟩) with
   | some r=>exact⟨r,rfl⟩
   | none =>
    have:=List.find?_eq_none.mp hx r0 (mem_reverse.mpr BW)
    exact absurd (show aN r0=aN ⟨(e:Int),(g:Int),some l,[]⟩ by unfold aN;rw[e1,e2,e3]) (by simpa using this)
  obtain⟨f1,f2,f3⟩:=kq (iX Dk)
  unfold ou ie at hn
  rw[Dk]at hn
  have hs0:r.s=[]:=by
   cases hx:r.s with
   | nil=>rfl
   | cons z zs =>
    have:z ∈ mN (Yd.zE r.s 0):=by
     show z ∈ Yd.Dc _ _
     rw[Yd.B3 (Yd.Cj _),Yd.Ag,hx]
     simp
    rw[show mN (Yd.zE r.s 0)=[] from hn]at this
    cases this
  rcases ((hA l hl).iff g).mp hb with h | ⟨o,ho,hs,zb,hbo⟩
  ·rw[he]at h;omega
  ·obtain⟨k,hk,hle⟩:=(hR r (eG Dk)).all hs0 o ho (by rw[f1,hs,he]) (by rw[f2,toNat_natCast];exact hbo)
   rw[f3]at hk
   cases hk
   omega
 ·obtain⟨r,hr,e1,e2,e3,hs⟩:=mem hw
  obtain⟨_,_,g1,g2⟩:=(hR r hr).ok w hs
  rw[e2,toNat_natCast]at g1
  exact⟨g1,g2 l e3⟩
end K90
namespace L2
open PySem
theorem y8.Qn {K:Frag}{H H':Hp}{a:Addr}{xs:List V}(e:y8 H H')(h:yN K H a xs):yN K H' a xs:=by
 rcases h with h | h
 ·refine .inl ?_
  rcases h with h | ⟨o,h⟩
  ·exact .inl (e _ _ h)
  ·exact .inr ⟨o,e _ _ h⟩
 ·exact .inr h
end L2
namespace K90
open PySem L2
variable {P:Program}{w:World}{K:Frag}{mg:Str->Option Value}{base:Heap}
theorem Sq.same {K:Frag}{H H':Hp}{a:Addr}{xs:List V}(h:Sq K H a xs)(s:y8 H H'):Sq K H' a xs:=h.elim (fun z => .inl (s.seq z)) (fun z => .inr (y8.Qn s z))
theorem Sq.ix {K:Frag}{H:Hp}{a:Addr}{xs:List V}{i:Int}{v:V}{Q:VK}(h:Sq K H a xs)(e:ue xs i=some v)(q:Q v H):T3 K (.ref a) (.int i) H Q :=
 h.elim (fun z => .inl ⟨a,xs,i,v,rfl,rfl,z,e,q⟩) (fun z => .inr (.inl ⟨a,xs,i,v,rfl,rfl,z,e,q⟩))
theorem yt {ms:List Int}{z:Nat}(h:z < ms.length):ue (ms.map V.int) (z:Int)=some (.int (ms.getD z 0)):=ak (by simp[h])
theorem atS {S:List Nat}{z:Nat}(h:z < S.length):ue (nV S) (z:Int)=some (.int ((S.getD z 0:Nat):Int)):=ak (iA h)
noncomputable def K0 (s:Stmt):Scope:=match s with
 | .Return (some (.Call _ [.ListComp _ _ sc _] _ _)) _=>sc
 | _=>zQ0
structure G8 (K:Frag)(c:Cs)(C:Addr)(J:TJ)(H:Hp)(a:YA)(na sa:Addr)(nums:List Int)(S:List Nat):Prop where
 T:uf c C J H a
 O:qw a
 n:Sq K H na (nums.map V.int)
 s:Sq K H sa (nV S)
 p:yz a.n a.ps a.wy nums S
theorem G8.same {K:Frag}{c:Cs}{C fw:Addr}{dw:FuncData}{J:TJ}{H H':Hp}{a:YA}{na sa:Addr}{nums:List Int}{S:List Nat}(W:Wy K C fw dw J)(h:G8 K c C J H a na sa nums S)(e:y8 H H'):G8 K c C J H' a na sa nums S:=⟨zG.keep W h.T (y8.yT e),h.O,h.n.same e,h.s.same e,h.p⟩
structure y3 (P:Program)(w:World)(K:Frag)(mg:Str->Option Value)(base:Heap)(fx:Addr)(dx:FuncData):Prop where
 m:mg "has" = some (.ref fx)
 k:keepIn K (.ref fx)=true
 b:Binds K dx ["some", "number"] []
 G:y9 P w K mg base aC 1 fx dx ["some", "number"] rh
noncomputable def kU (c:Cs)(C:Addr)(J:TJ):Sp:=fun vs H Q _=>∃ (a:YA),vs=[.ref a.tb]/\uf c C J H a /\
 ∀ (D:Addr)(us:List V)(zs:List (Int × Int))(H':Hp),y8 H H'->H D=none->H' D=some (.lst us)->yU H' us zs->(∀ z ∈ zs,∃ p g:Nat,z=((p:Int),(g:Int))/\p < a.n/\g < a.n)->Q (.ref D) H'
noncomputable def qS (K:Frag)(c:Cs):Sp:=fun vs H Q _=>∃ (x dx lt na sa:Addr)(n:Nat)(yO:List V)(ps:List (Int × Int))(nums:List Int)(S:List Nat),vs=[.ref x, .ref na, .ref sa]/\cW H c x dx lt (n:Int) yO ps/\n <= 12/\ps.length <= 40/\Sq K H na (nums.map V.int)/\Sq K H sa (nV S)/\nums.length=ps.length/\S.length=ps.length/\(∀ z ∈ S,z < 2 ^ n)/\∀ H',y8 H H'->Q (.bl true) H'
noncomputable def vS (K:Frag)(c:Cs)(C:Addr)(J:TJ):Sp:=fun vs H Q _=>∃ (a:YA)(na sa:Addr)(nums:List Int)(S:List Nat),vs=[.ref a.tb, .ref sa]/\G8 K c C J H a na sa nums S/\∀ H',y8 H H'->Q .yQ H'
noncomputable def qP (K:Frag):Sp:=fun vs H Q _=>∃ (na sa:Addr)(nums:List Int)(S:List Nat)(l g w:Nat),vs=[.ref na, .ref sa, .int l, .int g, .int w]/\Sq K H na (nums.map V.int)/\Sq K H sa (nV S)/\l < nums.length/\w < nums.length/\w < S.length/\cr S w g=true/\nums.getD l 0 < nums.getD w 0/\Q .yQ H
noncomputable def oC (K:Frag)(c:Cs)(C:Addr)(J:TJ):Sp:=fun vs H Q _=>∃ (a:YA)(na sa:Addr)(nums:List Int)(S:List Nat)(l g:Nat),vs=[.ref a.tb, .ref na, .ref sa, .int l, .int g]/\G8 K c C J H a na sa nums S/\l < a.ps.length/\g < a.n/\cr S l g=true/\(a.ps.getD l (0,0)).2 ≠ (g:Int)/\∀ H',y8 H H'->Q .yQ H'
noncomputable def oK (K:Frag)(c:Cs)(C:Addr)(J:TJ):Sp:=fun vs H Q _=>∃ (a:YA)(na sa:Addr)(nums:List Int)(S:List Nat)(l:Nat),vs=[.ref a.tb, .ref na, .ref sa, .int l]/\G8 K c C J H a na sa nums S/\l < a.ps.length/\∀ H',y8 H H'->Q .yQ H'
noncomputable def oM (K:Frag)(c:Cs)(C:Addr)(J:TJ):Sp:=fun vs H Q _=>∃ (a:YA)(pa na sa:Addr)(nums:List Int)(S:List Nat),vs=[.ref a.tb, .ref pa]/\H pa=some (.tup [.ref na, .ref sa])/\G8 K c C J H a na sa nums S/\∀ H',y8 H H'->Q .yQ H'
abbrev NSt:List Str:=["table", "found", "place", "goal"]
abbrev UO:List Str:=["land", "numbers", "sets", "lanes"]
abbrev NFa:List Str:=["table", "paper", "numbers", "sets", "found", "lane"]
theorem tI:decide (V.yQ=V.yQ)=true:=decide_eq_true rfl
theorem Ey:ap NSt ["table"] (ah jN):=L2.ze
theorem pU {c:Cs}{J:TJ}{C f fw:Addr}{fd dw:FuncData}(F:yY K "starts" "starts" jN f fd)(T:dP mg)(L:mG K c)(W:Wy K C fw dw J)(Gw:y9 P w K mg base aC 3 fw dw ["self", "place", "goal", "came"] (dD J)) :
  y9 P w K mg base aC 4 f fd ["table"] (kU c C J):=by
 refine F.ok Ey (fun _ _ _ _ h=>?_) (fun _ _ _ s H _ Q E hr h=>?_)
 ·obtain⟨a,rfl,_⟩:=h
  rfl
 ·obtain⟨a,rfl,hT,q⟩:=h
  refine⟨_,ae (aE (i:=1) Ey.nd rfl (Or.inl rfl) (aR ac))
   (ae (bB PassesOwn.never rfl (aJ rfl T.range (aa (am (am (pv 0) rfl) rfl) ac)) (av (i:=2) Ey.nd rfl (Or.inl rfl))
    (ag (bB PassesOwn.never rfl (aJ rfl T.range (aa (am (am (pv 0) rfl) rfl) ac)) (av (i:=3) Ey.nd rfl (Or.inl rfl))
     (ag (aL (e8 (aG (pv 0) W.cl W.m Gw hr W.b .nil ao (aa (pv 2) (aa (pv 3) (aa b8 ac)))) (fun _=>rfl))
      (ag (aO (cz plainAttrs_list PySem.F.slot_list_append PySem.F.type_list_append bQ (pv 1) (aa (bj (aa (pv 2) (aa (pv 3) ac))) ac)))) aB)))))
   (ag (ar (pv 1)))),?_⟩
  obtain⟨dx,fs,hx,hf,CK⟩:=hT.i
  have hn:=hT.FH
  refine⟨zero_le _,fun D hD=>?_⟩
  have s0:=(y8.refl H).new (o := .lst []) hD
  refine⟨_,rfl,a.tb,C,dx,fs,_,rfl,s0 _ _ hx,W.cl,W.nl,hf,a.lx,c.land,a.zq,_,_,rfl,s0 _ _ hT.l.1,L.cl,L.np,rfl,(a.n:Int),rfl,by omega,by omega,?_⟩
  rw[toNat_natCast]
  refine b7 (n:=a.n) (fun i σ H2=>∃ (a2 a3:Option V)(us:List V)(zs:List (Int × Int)),y8 H H2/\H2 D=some (.lst us)/\yU H2 us zs/\(∀ z ∈ zs,∃ p g:Nat,z=((p:Int),(g:Int))/\p < a.n/\g < a.n)/\us.length <= 12 * i/\σ=[some (.ref a.tb),some (.ref D),a2,a3])
   ⟨none,none,[],[],s0,ad, .nil,(fun z hz=>by cases hz),zero_le _,rfl⟩ ?_ ?_
  ·rintro i σ H2 hi ⟨a2,a3,us,zs,s2,gD,hU,hz,Hz,rfl⟩
   rw[zero_add]
   refine⟨_,rfl,a.tb,C,dx,fs,_,rfl,s2 _ _ hx,W.cl,W.nl,hf,a.lx,c.land,a.zq,_,_,rfl,s2 _ _ hT.l.1,L.cl,L.np,rfl,(a.n:Int),rfl,by omega,by omega,?_⟩
   rw[toNat_natCast]
   refine b7 (n:=a.n) (fun j σ H3=>∃ (a3:Option V)(us:List V)(zs:List (Int × Int)),y8 H H3/\H3 D=some (.lst us)/\yU H3 us zs/\(∀ z ∈ zs,∃ p g:Nat,z=((p:Int),(g:Int))/\p < a.n/\g < a.n)/\us.length <= 12 * i + j/\σ=[some (.ref a.tb),some (.ref D),some (.int i),a3])
    ⟨_,us,zs,s2,gD,hU,hz,by omega,rfl⟩ ?_ ?_
   ·rintro j σ H3 hj ⟨a3,us,zs,s3,CO,M5,hz,Hz,rfl⟩
    rw[zero_add]
    refine⟨_,rfl,a.tb,dx,fs,rfl,s3 _ _ hx,CK,_,rfl,_,rfl,a.tb,a.n,a.wy,i,j,none,rfl,W.zX _ _ _ _ _ hT.j (y8.yT s3),hi,hj,fun D4 H5 CP hD4 g4=>?_⟩
    refine⟨_, .inl ⟨_,yC.of g4,rfl⟩,?_⟩
    refine IB (fun _=>?_) fun _=>⟨_,us,zs,s3.trans CP,CP _ _ CO,yU.same CP M5,hz,by omega,rfl⟩
    refine⟨_,rfl, .inl ⟨rfl,_,yC.of (CP _ _ CO)⟩,_,rfl,_,rfl,by show 2 <= sizeLine;decide,fun t ht=>?_⟩
    obtain⟨e1,e2,e3⟩:=m9 (x:=(i:Int)) (y:=(j:Int)) hD (s3.trans CP) (CP _ _ CO) (yU.same CP M5) ht
    refine⟨D,us,_,rfl,rfl,e1,by rw[sizeLine_eq];omega,_,_,_,e2,ad,e3,fun z Ee=>?_,by rw[length_append,length_singleton];omega,rfl⟩
    rcases mem_append.mp Ee with Ee | Ee
    ·exact hz z Ee
    ·rw[mem_singleton.mp Ee];exact⟨i,j,rfl,hi,hj⟩
   ·rintro σ H3 ⟨a3,us,zs,s3,CO,M5,hz,Hz,rfl⟩
    exact⟨_,_,us,zs,s3,CO,M5,hz,by omega,rfl⟩
  ·rintro σ H2 ⟨a2,a3,us,zs,s2,gD,hU,hz,_,rfl⟩
   exact⟨_,rfl,q D us zs H2 s2 hD gD hU hz⟩
theorem K1:ap UO ["land", "numbers", "sets"] (ah kZ):=L2.ze
theorem Qo:zF UO (ah kZ) (K0 ((aF kZ).getD 2 (.Pass ⟨0,0,0,0⟩))) ["land"] [0]:=L2.Ah
theorem Qp:(["goals", "land"]:List Str).Nodup:=by decide +kernel
theorem uQ {c:Cs}{f fw:Addr}{fd dw:FuncData}(F:yY K "has_size" "has_size" kZ f fd)(T:dP mg)(L:mG K c)(mw:mg "is_within" = some (.ref fw))(kw:keepIn K (.ref fw)=true)(bw:Binds K dw ["value", "least", "most"] [])(Gw:y9 P w K mg base aC 2 fw dw ["value", "least", "most"] fQ) :
  y9 P w K mg base aC 3 f fd ["land", "numbers", "sets"] (qS K c):=by
 refine F.ok K1 (fun _ _ _ _ h=>?_) (fun _ _ _ s H _ Q E hr h=>?_)
 ·obtain⟨x,dx,lt,na,sa,n,yO,ps,nums,ss,rfl,_⟩:=h
  rfl
 ·obtain⟨x,dx,lt,na,sa,n,yO,ps,nums,S,rfl,hL,hn,h40,hN,hS,h1,h2,zb,q⟩:=h
  refine⟨_,ae (aE (i:=3) K1.nd rfl (Or.inl rfl) (aw aq rfl T.len PySem.boot_len (aa (am (pv 0) rfl) ac)))
   (ae (aL (PW.pt (eu (ax ik (aw aq rfl T.len PySem.boot_len (aa (pv 1) ac)) (pv 3) (aA _)) (cG (ax ik (aw aq rfl T.len PySem.boot_len (aa (pv 2) ac)) (pv 3) (aA _))))) (ag (ar fq)) aB)
   (ag (ar (aw (gs rfl) rfl T.all PyProof.Rows.boot_all (aa (aQ (own:=["goals"]) (capN:=["land"]) (cap:=[0]) Qo rfl (we (aV (pv 2)) (iR (pv 2)))
    (fun C s' H' fp=>⟨av (i:=0) Qp rfl (Or.inl rfl),b9,au Gw hr rfl mw kw bw .nil ao (aa (pv 0) (aa aj (aa (aD dH (aD nE aj (show PE _ _ (kQ K (jC 1) "places") from am (pv 1) rfl)) aj) ac)))⟩)) ac))))),?_⟩
  have zV:yO.length=ps.length:=Paired.length hL.2.2
  refine⟨_,rfl,x,c.land,dx,_,_,rfl,hL.1,L.cl,L.nl,rfl,lt,_,rfl, .inr (yN.of hL.2.1),?_⟩
  refine⟨_,rfl,na,_,rfl,hN,_,rfl,rfl,_,rfl,?_⟩
  rw[bE,length_map,decide_eq_true (show((nums.length:Nat):Int)=(yO.length:Nat) by omega)]
  refine aH ⟨_,rfl,sa,_,rfl,hS,_,rfl,rfl,_,rfl,?_⟩
  rw[bE,cp,decide_eq_true (show((S.length:Nat):Int)=(yO.length:Nat) by omega)]
  refine aH ?_
  have fin:∀ (m:Nat)(D:Addr),H D=none->∃ (p:Addr)(bs:List Bool),[V.ref D]=[.ref p]/\yC K (upd H D (.lst (List.replicate m (V.bl true)))) p (bs.map V.bl)/\Q (.bl (bs.all id)) (upd H D (.lst (List.replicate m (V.bl true)))):=fun m D hD =>
   ⟨D,List.replicate m true,rfl,yC.of (by rw[ad,List.map_replicate]),by
    rw[show(List.replicate m true).all id=true from all_eq_true.mpr fun b hb=>(List.mem_replicate.mp hb).2]
    exact q _ ((y8.refl H).new hD)⟩
  have val:∀ (z:Nat),z ∈ S->decide ((0:Int) <= (z:Int)/\(z:Int) <= 1 * 2 ^ (n:Int).toNat - 1)=true:=fun z hz=>by
   refine decide_eq_true ⟨by omega,?_⟩
   have:=zb z hz
   rw[toNat_natCast,one_mul,show (2:Int) ^ n=((2 ^ n:Nat):Int) by rw[natCast_pow];rfl]
   omega
  have body:∀ (i:Nat)(acc:List V)(v:V)(N:List V->Hp->Prop),(nV S)[i]? = some v->acc=List.replicate i (V.bl true)->(∀ z:Nat,v = .int (z:Int)->z ∈ S->N (List.replicate (i + 1) (V.bl true)) H)->∃ z:Nat,v = .int (z:Int)/\z ∈ S/\N (acc ++ [.bl (decide ((0:Int) <= (z:Int)/\(z:Int) <= 1 * 2 ^ (n:Int).toNat - 1))]) H:=fun i acc v N hv e hN=>by
   obtain⟨z,hz,rfl⟩:=iU (mem_of_getElem? hv)
   refine⟨z,rfl,hz,?_⟩
   rw[val z hz,e,show List.replicate i (V.bl true) ++ [V.bl true]=List.replicate (i + 1) (V.bl true) from (replicate_succ' ..).symm]
   exact hN z rfl hz
  rcases hS with hS | hS
  ·refine .inl ⟨_,rfl,sa,rfl,⟨_,hS⟩,?_⟩
   refine bu S.length (by rw[sizeLine_eq];omega) (fun i acc H'=>H' = H/\acc=List.replicate i (V.bl true)) ⟨rfl,rfl⟩ (fun i acc H' h=>by rw[h.2,length_replicate];exact Nat.le_refl _) (fun i acc H' hi h=>?_) (fun acc H' h=>?_)
   ·obtain⟨rfl,De⟩:=h
    refine⟨⟨_,_,hS,getElem?_eq_getElem (by rw[cp];exact hi)⟩,fun v H2 y=>?_⟩
    obtain⟨e,y⟩:=y
    subst e
    obtain⟨z,rfl,hz,hN⟩:=body i acc v (fun zo H4=>H4=H2/\zo = List.replicate (i + 1) (V.bl true)) (y _ hS) De (fun _ _ _=>⟨rfl,rfl⟩)
    exact⟨_,rfl,_,rfl,x,c.land,dx,_,_,rfl,hL.1,L.cl,L.np,rfl,_,_,rfl,rfl,⟨by omega,by omega,by decide⟩,_,_,rfl,rfl,(z:Int),0,_,rfl,hN⟩
   ·obtain⟨rfl,rfl⟩:=h
    exact⟨⟨_,hS,by rw[cp];exact Nat.le_refl _⟩,fun D hD=>fin _ D hD⟩
  ·refine .inr ⟨_,rfl,sa,rfl,⟨_,hS⟩,?_⟩
   refine bu S.length (by rw[sizeLine_eq];omega) (fun i acc H'=>H' = H/\acc=List.replicate i (V.bl true)) ⟨rfl,rfl⟩ (fun i acc H' h=>by rw[h.2,length_replicate];exact Nat.le_refl _) (fun i acc H' hi h=>?_) (fun acc H' h=>?_)
   ·obtain⟨rfl,De⟩:=h
    refine⟨⟨_,_,hS,getElem?_eq_getElem (by rw[cp];exact hi)⟩,fun v H2 y=>?_⟩
    obtain⟨e,y⟩:=y
    subst e
    obtain⟨z,rfl,hz,hN⟩:=body i acc v (fun zo H4=>H4=H2/\zo = List.replicate (i + 1) (V.bl true)) (y _ hS) De (fun _ _ _=>⟨rfl,rfl⟩)
    exact⟨_,rfl,_,rfl,x,c.land,dx,_,_,rfl,hL.1,L.cl,L.np,rfl,_,_,rfl,rfl,⟨by omega,by omega,by decide⟩,_,_,rfl,rfl,(z:Int),0,_,rfl,hN⟩
   ·obtain⟨rfl,rfl⟩:=h
    exact⟨⟨_,hS,by rw[cp];exact Nat.le_refl _⟩,fun D hD=>fin _ D hD⟩
theorem Qq:ap ["numbers", "sets", "lane", "goal", "way"] ["numbers", "sets", "lane", "goal", "way"] (ah rq):=L2.ze
theorem uO {f fx:Addr}{fd dx:FuncData}(F:yY K "way_fault" "way_fault" rq f fd)(X:y3 P w K mg base fx dx):y9 P w K mg base aC 2 f fd ["numbers", "sets", "lane", "goal", "way"] (qP K):=by
 refine F.ok Qq (fun _ _ _ _ h=>?_) (fun _ _ _ s H _ Q E hr h=>?_)
 ·obtain⟨na,sa,nums,S,l,g,w',rfl,_⟩:=h
  rfl
 ·obtain⟨na,sa,nums,S,l,g,w',rfl,hN,hS,hl,hw,DO,hb,zb,q⟩:=h
  refine⟨_,ae (aL (bF (bA (au X.G hr rfl X.m X.k X.b .nil ao (aa (az iY (pv 1) (pv 4) (fun _ _=>rfl)) (aa (pv 3) ac))))) (ag (ar (bj (aa bW (aa (pv 2) (aa (pv 3) (aa (pv 4) ac))))))) aB)
   (ae (aL (ax l8 (az iY (pv 0) (pv 4) (fun _ _=>rfl)) (az iY (pv 0) (pv 2) (fun _ _=>rfl)) (aA _)) (ag (ar (bj (aa bW (aa (pv 2) (aa (pv 3) (aa (pv 4) ac))))))) aB)
   (ag (ar b8))),?_⟩
  refine⟨_,rfl,_,rfl,hS.ix (atS DO) ⟨_,rfl,S.getD w' 0,g,rfl,_,rfl,?_⟩⟩
  have hb:(S.getD w' 0).testBit g=true:=hb
  rw[hb]
  refine aH ⟨_,rfl,_,rfl,hN.ix (yt hw) ⟨_,rfl,_,rfl,hN.ix (yt hl) ⟨_,_,rfl,rfl,_,rfl,?_⟩⟩⟩
  rw[decide_eq_false (show ¬ nums.getD w' 0 <= nums.getD l 0 by omega)]
  exact aH q
theorem Ez:ap ["table", "numbers", "sets", "lane", "goal", "ways", "way", "found"] ["table", "numbers", "sets", "lane", "goal"] (ah ng):=L2.ze
theorem sh {c:Cs}{J:TJ}{C f fw fo fy:Addr}{fd dw AW dy:FuncData}(F:yY K "pair_fault" "pair_fault" ng f fd)(W:Wy K C fw dw J)(mo:mg "onward" = some (.ref fo))(ko:keepIn K (.ref fo)=true)(bo:Binds K AW ["table", "lane", "goal"] [])(Go:y9 P w K mg base aC 4 fo AW ["table", "lane", "goal"] (qV c C J))
  (my:mg "way_fault" = some (.ref fy)) (ky:keepIn K (.ref fy)=true) (Et:Binds K dy ["numbers", "sets", "lane", "goal", "way"] []) (Gy:y9 P w K mg base aC 2 fy dy ["numbers", "sets", "lane", "goal", "way"] (qP K)):y9 P w K mg base aC 5 f fd ["table", "numbers", "sets", "lane", "goal"] (oC K c C J):=by
 refine F.ok Ez (fun _ _ _ _ h=>?_) (fun _ _ _ s H _ Q E hr h=>?_)
 ·obtain⟨a,na,sa,nums,S,l,g,rfl,_⟩:=h
  rfl
 ·obtain⟨a,na,sa,nums,S,l,g,rfl,hP,hl,hg,hb,he,q⟩:=h
  have zT:yK 2 _:=hr.mono (by decide)
  refine⟨_,ae (aE (i:=5) Ez.nd rfl (Or.inl rfl) (au Go hr rfl mo ko bo .nil ao (aa (pv 0) (aa (pv 3) (aa (pv 4) ac)))))
   (ae (aL (bF (e8 (pv 5) (fun _=>rfl))) (ag (ar (bj (aa bW (aa (pv 3) (aa (pv 4) ac)))))) aB)
   (ae (bB PassesOwn.never rfl (aV (pv 5)) (av (i:=6) Ez.nd rfl (Or.inl rfl))
    (ae (aE (i:=7) Ez.nd rfl (Or.inl rfl) (au Gy zT rfl my ky Et .nil ao (aa (pv 1) (aa (pv 2) (aa (pv 3) (aa (pv 4) (aa (pv 6) ac)))))))
    (ag (aL (ax ga (pv 7) b8 (aA _)) (ag (ar (pv 7))) aB))))
   (ag (ar b8)))),?_⟩
  refine⟨_,rfl,_,rfl,_,rfl,a,l,g,rfl,hP.T,hP.O,hl,hg,fun D H1 s1 hD gD=>?_⟩
  obtain⟨zc,D7⟩:=nI hP.p hP.O hl hg hb he
  have zb:∀ z ∈ il a l g,z < a.ps.length:=fun z hz=>by
   unfold il at hz
   rw[if_neg he]at hz
   obtain⟨e,h1,h2⟩:=je hP.O hl
   rw[h1,toNat_natCast]at hz
   exact hP.T.ok e g _ h2 hg z hz
  generalize il a l g=us at zb gD zc D7
  refine⟨_,rfl,_, .inl ⟨_,yC.of gD,rfl⟩,?_⟩
  cases us with
  | nil=>exact absurd rfl zc
  | cons u0 Pf =>
   refine aH ?_
   generalize u0 :: Pf=us at zb gD D7
   refine⟨_,rfl,D,rfl,⟨_,yC.of gD⟩,?_⟩
   refine c4 (K:=K) (a:=D) (xs:=nV us) (fun i σ H2=>∃ a6 a7:Option V,y8 H1 H2/\σ=[some (.ref a.tb),some (.ref na),some (.ref sa),some (.int l),some (.int g),some (.ref D),a6,a7])
    ⟨none,none,y8.refl _,rfl⟩ (fun i σ H2 _ yD=>by obtain⟨_,_,s2,_⟩:=yD;exact yC.of (s2 _ _ gD)) ?_ ?_
   ·rintro i v σ H2 hv ⟨a6,a7,s2,rfl⟩
    obtain⟨z,hz,rfl⟩:=iU (mem_of_getElem? hv)
    obtain⟨Qr,hnz⟩:=D7 z hz
    have M6:=zb z hz
    have BG:=s1.trans s2
    refine⟨_,rfl,_,rfl,_,rfl,_,rfl,_,rfl,na,sa,nums,S,l,g,z,rfl,hP.n.same BG,hP.s.same BG,by rw[hP.p.nl];exact hl,by rw[hP.p.nl];exact M6,by rw[hP.p.sl];exact M6,Qr,hnz,?_⟩
    refine⟨_,rfl,rfl,_,rfl,?_⟩
    rw[tI]
    exact aH ⟨_,_,s2,rfl⟩
   ·rintro σ H2 ⟨a6,a7,s2,rfl⟩
    exact q _ (s1.trans s2)
theorem E2:ap ["table", "numbers", "sets", "lane", "end", "goal", "found"] ["table", "numbers", "sets", "lane"] (ah n0):=L2.ze
theorem sw {c:Cs}{J:TJ}{C f fw fe fm fy:Addr}{fd dw de dm dy:FuncData}(F:yY K "lane_fault" "lane_fault" n0 f fd)(L:mG K c)(W:Wy K C fw dw J)(M:ua K c fe de)(Ge:y9 P w K mg base aC 1 fe de ["self", "lane"] (rm c Prod.snd))
  (mm:mg "members" = some (.ref fm)) (km:keepIn K (.ref fm)=true) (bm:Binds K dm ["some"] []) (Gm:y9 P w K mg base aC 2 fm dm ["some"] qX)
  (my:mg "pair_fault" = some (.ref fy)) (ky:keepIn K (.ref fy)=true) (Et:Binds K dy ["table", "numbers", "sets", "lane", "goal"] []) (Gy:y9 P w K mg base aC 5 fy dy ["table", "numbers", "sets", "lane", "goal"] (oC K c C J)):y9 P w K mg base aC 6 f fd ["table", "numbers", "sets", "lane"] (oK K c C J):=by
 refine F.ok E2 (fun _ _ _ _ h=>?_) (fun _ _ _ s H _ Q E hr h=>?_)
 ·obtain⟨a,na,sa,nums,S,l,rfl,_⟩:=h
  rfl
 ·obtain⟨a,na,sa,nums,S,l,rfl,hP,hl,q⟩:=h
  have zp:yK 1 _:=hr.mono (by decide)
  have zT:yK 2 _:=hr.mono (by decide)
  refine⟨_,ae (aE (i:=4) E2.nd rfl (Or.inl rfl) (aG (am (pv 0) rfl) L.cl M.m Ge zp M.b .nil ao (aa (pv 3) ac)))
   (ae (bB PassesOwn.never rfl (aV (au Gm zT rfl mm km bm .nil ao (aa (az iY (pv 2) (pv 3) (fun _ _=>rfl)) ac))) (av (i:=5) E2.nd rfl (Or.inl rfl))
    (ag (aL (ax ik (pv 5) (pv 4) (aA _))
     (ae (aE (i:=6) E2.nd rfl (Or.inl rfl) (au Gy hr rfl my ky Et .nil ao (aa (pv 0) (aa (pv 1) (aa (pv 2) (aa (pv 3) (aa (pv 5) ac)))))))
     (ag (aL (ax ga (pv 6) b8 (aA _)) (ag (ar (pv 6))) aB))) aB)))
   (ag (ar b8))),?_⟩
  obtain⟨dx,fs,hx,hf,_⟩:=hP.T.i
  have he:=getElem?_eq_getElem hl
  have DP:a.ps.getD l (0,0)=a.ps[l]:=by rw[getD_eq_getElem?_getD,he];rfl
  refine⟨_,rfl,a.tb,C,dx,fs,_,rfl,hx,W.cl,W.nl,hf,a.lx,a.zq,_,rfl,hP.T.l.1,rfl,_,rfl,a.lx,a.zq,a.lt,(a.n:Int),a.yO,a.ps,l,a.ps[l],rfl,hP.T.l,he,?_⟩
  have Qs:l < S.length:=by rw[hP.p.sl];exact hl
  have hn:=hP.T.FH
  have M7:S.getD l 0 < 2 ^ a.n:=hP.p.lt _ (by rw[getD_eq_getElem?_getD,getElem?_eq_getElem Qs];exact getElem_mem Qs)
  have Qt:S.getD l 0 < 2 ^ 400:=lt_of_lt_of_le M7 (pow_le_pow_right (by decide) (by omega))
  refine⟨_,rfl,_,rfl,hP.s.ix (atS Qs) ⟨S.getD l 0,rfl,Qt,fun D hD=>⟨D,rfl,⟨_,yC.of ad⟩,?_⟩⟩⟩
  have e1:xO (S.getD l 0)=nV (mN (S.getD l 0)):=rfl
  rw[e1]
  have CD:∀ z ∈ mN (S.getD l 0),cr S l z=true/\z < a.n:=fun z hz=>by
   have hb:(S.getD l 0).testBit z=true:=(Yd.B3 (Yd.Cj _)).mp hz
   refine⟨hb,Classical.byContradiction fun hn=>?_⟩
   rw[testBit_lt_two_pow (lt_of_lt_of_le M7 (pow_le_pow_right (by decide) (by omega)))]at hb
   cases hb
  generalize mN (S.getD l 0)=us at CD ⊢
  have s1:=(y8.refl H).new (o := .lst (nV us)) hD
  have gD:(upd H D (.lst (nV us))) D=some (.lst (nV us)):=ad
  generalize upd H D (.lst (nV us))=H1 at s1 gD ⊢
  refine c4 (K:=K) (a:=D) (xs:=nV us) (fun i σ H2=>∃ a5 a6:Option V,y8 H1 H2/\σ=[some (.ref a.tb),some (.ref na),some (.ref sa),some (.int l),some (.int (a.ps[l]).2),a5,a6])
   ⟨none,none,y8.refl _,rfl⟩ (fun i σ H2 _ yD=>by obtain⟨_,_,s2,_⟩:=yD;exact yC.of (s2 _ _ gD)) ?_ ?_
  ·rintro i v σ H2 hv ⟨a5,a6,s2,rfl⟩
   obtain⟨z,hz,rfl⟩:=iU (mem_of_getElem? hv)
   obtain⟨Qr,M7⟩:=CD z hz
   refine⟨_,rfl,_,rfl,rfl,_,rfl,?_⟩
   rw[bE]
   by_cases Qu:(z:Int)=(a.ps[l]).2
   ·rw[decide_eq_true Qu]
    exact aH ⟨_,_,s2,rfl⟩
   rw[decide_eq_false Qu]
   refine aK ⟨_,rfl,_,rfl,_,rfl,_,rfl,_,rfl,a,na,sa,nums,S,l,z,rfl,hP.same W (s1.trans s2),hl,M7,Qr,by rw[DP];exact Ne.symm Qu,fun H3 s3=>?_⟩
   refine⟨_,rfl,rfl,_,rfl,?_⟩
   rw[tI]
   exact aH ⟨_,_,s2.trans s3,rfl⟩
  ·rintro σ H2 ⟨a5,a6,s2,rfl⟩
   exact q _ (s1.trans s2)
theorem E3:ap ["table", "sets", "place", "goal", "lane"] ["table", "sets"] (ah wR):=L2.ze
theorem xt {c:Cs}{J:TJ}{C f fw Cg fx:Addr}{fd dw ds dx0:FuncData}(F:yY K "start_fault" "start_fault" wR f fd)(W:Wy K C fw dw J)(Gw:y9 P w K mg base aC 3 fw dw ["self", "place", "goal", "came"] (dD J))(X:y3 P w K mg base fx dx0)
  (ms:mg "starts" = some (.ref Cg)) (ks:keepIn K (.ref Cg)=true) (bs:Binds K ds ["table"] []) (Gs:y9 P w K mg base aC 4 Cg ds ["table"] (kU c C J)):y9 P w K mg base aC 5 f fd ["table", "sets"] (vS K c C J):=by
 refine F.ok E3 (fun _ _ _ _ h=>?_) (fun _ _ _ s H _ Q E hr h=>?_)
 ·obtain⟨a,na,sa,nums,S,rfl,_⟩:=h
  rfl
 ·obtain⟨a,na,sa,nums,S,rfl,hP,q⟩:=h
  have zp:yK 1 _:=hr.mono (by decide)
  have G9:yK 3 _:=hr.mono (by decide)
  refine⟨_,ae (bB PassesOwn.never rfl (aV (au Gs hr rfl ms ks bs .nil ao (aa (pv 0) ac))) (e9 rfl (aW (av (i:=2) E3.nd rfl (Or.inl rfl)) (aW (av (i:=3) E3.nd rfl (Or.inl rfl)) cQ)))
    (ag (bB PassesOwn.never rfl (aV (aG (pv 0) W.cl W.m Gw G9 W.b .nil ao (aa (pv 2) (aa (pv 3) (aa b8 ac))))) (av (i:=4) E3.nd rfl (Or.inl rfl))
     (ag (aL (bF (bA (au X.G zp rfl X.m X.k X.b .nil ao (aa (az iY (pv 1) (pv 4) (fun _ _=>rfl)) (aa (pv 3) ac))))) (ag (ar (bj (aa bW (aa (pv 2) (aa (pv 3) (aa (pv 4) ac))))))) aB)))))
   (ag (ar b8)),?_⟩
  obtain⟨dx,fs,hx,hf,CK⟩:=hP.T.i
  refine⟨_,rfl,a,rfl,hP.T,fun D us zs H1 s1 hD gD hU CD=>⟨D,rfl,⟨_,yC.of gD⟩,?_⟩⟩
  refine c4 (K:=K) (a:=D) (xs:=us) (fun i σ H2=>∃ a2 a3 a4:Option V,y8 H1 H2/\σ=[some (.ref a.tb),some (.ref sa),a2,a3,a4])
   ⟨none,none,none,y8.refl _,rfl⟩ (fun i σ H2 _ yD=>by obtain⟨_,_,_,s2,_⟩:=yD;exact yC.of (s2 _ _ gD)) ?_ ?_
  ·rintro i v σ H2 hv ⟨a2,a3,a4,s2,rfl⟩
   obtain⟨z,hz,t,rfl,gt⟩:=yU.get hU hv
   obtain⟨p,g,rfl,hp,hg⟩:=CD z (mem_of_getElem? hz)
   refine⟨t,_,rfl,yN.of (s2 _ _ gt),rfl,_,_,rfl,_,_,rfl,rfl,?_⟩
   have BG:=s1.trans s2
   refine⟨_,rfl,a.tb,dx,fs,rfl,BG _ _ hx,CK,_,rfl,_,rfl,a.tb,a.n,a.wy,p,g,none,rfl,W.zX _ _ _ _ _ hP.T.j (y8.yT BG),hp,hg,fun D3 H4 s4 hD3 g4=>⟨D3,rfl,⟨_,yC.of g4⟩,?_⟩⟩
   have zb:=hP.T.ok p g none hp hg
   have UP:=hP.p.st p g hp hg
   generalize a.wy p g none=ws at zb UP g4 ⊢
   refine c4 (K:=K) (a:=D3) (xs:=nV ws) (fun j σ H5=>∃ a4:Option V,y8 H4 H5/\σ=[some (.ref a.tb),some (.ref sa),some (.int p),some (.int g),a4])
    ⟨_,y8.refl _,rfl⟩ (fun j σ H5 _ yD=>by obtain⟨_,s5,_⟩:=yD;exact yC.of (s5 _ _ g4)) ?_ ?_
   ·rintro j v σ H5 hv5 ⟨a4,s5,rfl⟩
    obtain⟨l,hl,rfl⟩:=iU (mem_of_getElem? hv5)
    have K2:=BG.trans (s4.trans s5)
    refine⟨_,rfl,_,rfl,(hP.s.same K2).ix (atS (by rw[hP.p.sl];exact zb l hl)) ⟨_,rfl,S.getD l 0,g,rfl,_,rfl,?_⟩⟩
    have hb:(S.getD l 0).testBit g=true:=UP l hl
    rw[hb]
    exact aH ⟨_,s5,rfl⟩
   ·rintro σ H5 ⟨a4,s5,rfl⟩
    exact⟨_,_,_,s2.trans (s4.trans s5),rfl⟩
  ·rintro σ H2 ⟨a2,a3,a4,s2,rfl⟩
   exact q _ (s1.trans s2)
theorem Cc:ap NFa ["table", "paper"] (ah n9):=L2.ze
theorem sF {c:Cs}{J:TJ}{C f fw fz Cg fy:Addr}{fd dw dz ds dy:FuncData}(F:yY K "fault" "fault" n9 f fd)(T:dP mg)(W:Wy K C fw dw J)
  (mz:mg "has_size" = some (.ref fz)) (kz:keepIn K (.ref fz)=true) (bz:Binds K dz ["land", "numbers", "sets"] []) (Gz:y9 P w K mg base aC 3 fz dz ["land", "numbers", "sets"] (qS K c))
  (ms:mg "start_fault" = some (.ref Cg)) (ks:keepIn K (.ref Cg)=true) (bs:Binds K ds ["table", "sets"] []) (Gs:y9 P w K mg base aC 5 Cg ds ["table", "sets"] (vS K c C J))
  (my:mg "lane_fault" = some (.ref fy)) (ky:keepIn K (.ref fy)=true) (Et:Binds K dy ["table", "numbers", "sets", "lane"] []) (Gy:y9 P w K mg base aC 6 fy dy ["table", "numbers", "sets", "lane"] (oK K c C J)):y9 P w K mg base aC 7 f fd ["table", "paper"] (oM K c C J):=by
 refine F.ok Cc (fun _ _ _ _ h=>?_) (fun _ _ _ s H _ Q E hr h=>?_)
 ·obtain⟨a,pa,na,sa,nums,S,rfl,_⟩:=h
  rfl
 ·obtain⟨a,pa,na,sa,nums,S,rfl,gp,hP,q⟩:=h
  have G9:yK 3 _:=hr.mono (by decide)
  have Fl:yK 5 _:=hr.mono (by decide)
  refine⟨_,ae (aE (i:=2) Cc.nd rfl (Or.inl rfl) (az yE (pv 1) aj (fun _ _=>rfl)))
   (ae (aE (i:=3) Cc.nd rfl (Or.inl rfl) (az yE (pv 1) aj (fun _ _=>rfl)))
   (ae (aL (bF (bA (au Gz G9 rfl mz kz bz .nil ao (aa (am (pv 0) rfl) (aa (pv 2) (aa (pv 3) ac)))))) (ag (ar (bj (aa bW ac)))) aB)
   (ae (aE (i:=4) Cc.nd rfl (Or.inl rfl) (au Gs Fl rfl ms ks bs .nil ao (aa (pv 0) (aa (pv 3) ac))))
   (ae (aE (i:=5) Cc.nd rfl (Or.inl rfl) aj)
   (ae (ly PassesOwn.never (PW.pt (jR (ax gO (pv 4) b8 (aA _)) (i7 (ax l7 (pv 5) (aw aq rfl T.len PySem.boot_len (aa (pv 3) ac)) (aA _)))))
    (ae (aE (i:=4) Cc.nd rfl (Or.inl rfl) (au Gy hr rfl my ky Et .nil ao (aa (pv 0) (aa (pv 2) (aa (pv 3) (aa (pv 5) ac))))))
    (ag (xi (i:=5) Cc.nd rfl (Or.inl rfl) aj xZ))))
   (ag (ar (pv 4)))))))),?_⟩
  obtain⟨dx,fs,hx,hf,_⟩:=hP.T.i
  have UQ:yN K H pa [.ref na, .ref sa]:=yN.of gp
  have hn:=hP.T.FH
  have h40:=hP.T.zD
  have nl:=hP.p.nl
  have sl:=hP.p.sl
  refine⟨_,rfl,pa,_,0,_,rfl,rfl,UQ,ak (j:=0) rfl,?_⟩
  refine⟨_,rfl,pa,_,1,_,rfl,rfl,UQ,ak (j:=1) rfl,?_⟩
  refine⟨_,rfl,a.tb,C,dx,fs,_,rfl,hx,W.cl,W.nl,hf,_,rfl,_,rfl,a.lx,a.zq,a.lt,na,sa,a.n,a.yO,a.ps,nums,S,rfl,hP.T.l,hn,h40,hP.n,hP.s,nl,sl,hP.p.lt,fun H1 s1=>⟨_,rfl,?_⟩⟩
  refine aH ⟨_,rfl,_,rfl,a,na,sa,nums,S,rfl,hP.same W s1,fun H2 s2=>?_⟩
  have BG:=s1.trans s2
  refine⟨fun m σ H'=>∃ (i:Nat),m=a.ps.length - i/\i <= a.ps.length/\y8 H H'/\σ=[some (.ref a.tb),some (.ref pa),some (.ref na),some (.ref sa),some .yQ,some (.int (i:Int))],⟨a.ps.length,0,rfl,zero_le _,BG,rfl⟩,?_⟩
  rintro m σ H' ⟨i,rfl,hi,s',rfl⟩
  refine⟨_,rfl,rfl,_,rfl,?_⟩
  rw[tI]
  refine aK ⟨_,rfl,_,rfl,sa,_,rfl,hP.s.same s',_,_,rfl,rfl,_,rfl,?_⟩
  rw[cp,sl]
  by_cases K3:i < a.ps.length
  rotate_left
  ·rw[decide_eq_false (show ¬ (i:Int) < (a.ps.length:Nat) by omega)]
   exact aH ⟨_,rfl,q _ s'⟩
  rw[decide_eq_true (show (i:Int) < (a.ps.length:Nat) by omega)]
  refine aK ⟨fun σ' H3=>y8 H H3/\σ' = [some (.ref a.tb),some (.ref pa),some (.ref na),some (.ref sa),some .yQ,some (.int ((i:Int) + 1))],?_,?_⟩
  ·rintro σ' H3 ⟨s3,rfl⟩
   exact⟨a.ps.length - (i + 1),by omega,i + 1,rfl,K3,s3,rfl⟩
  exact⟨_,rfl,_,rfl,_,rfl,_,rfl,a,na,sa,nums,S,i,rfl,hP.same W s',K3,fun H3 s3=>⟨_,rfl,_,_,rfl,rfl,s'.trans s3,rfl⟩⟩
noncomputable def oI:Sp:=fun vs H Q _=>∃ (n m:Nat)(c:Int),vs=[.int n, .int m, .int c]/\2 <= n/\n <= 12/\m <= 100/\∀ (D:Addr)(yM:List V)(ps:List (Int × Int))(H':Hp),y8 H H'->H D=none->H' D=some (.lst yM)->yU H' yM ps->(∀ p ∈ ps,fM n p=true)->ps.length=m->Q (.ref D) H'
noncomputable def qW:Sp:=fun vs H Q _=>∃ (m:Nat)(c:Int),vs=[.int m, .int c]/\m <= 100/\∀ (D:Addr)(nums:List Int)(H':Hp),y8 H H'->H D=none->H' D=some (.lst (nums.map V.int))->nums.length=m->Q (.ref D) H'
abbrev NLn:List Str:=["_law_places", "_law_amount", "_law_cell", "_law_lanes_here", "_law_k", "_law_draw", "_law_start"]
abbrev NNu:List Str:=["_law_amount", "_law_cell", "_law_found", "_law_k", "_law_draw"]
theorem D8:ap NLn ["_law_places", "_law_amount", "_law_cell"] (ah nr):=L2.ze
theorem sr {f fm:Addr}{fd dm:FuncData}(F:yY K "_law_lanes" "_law_lanes" nr f fd)(T:dP mg)(mm:mg "_law_mixed" = some (.ref fm))(km:keepIn K (.ref fm)=true)(bm:Binds K dm ["_law_cell", "_law_k"] [])
  (Gm:y9 P w K mg base aC 1 fm dm ["_law_cell", "_law_k"] jt):y9 P w K mg base aC 2 f fd ["_law_places", "_law_amount", "_law_cell"] oI:=by
 refine F.ok D8 (fun _ _ _ _ h=>?_) (fun _ _ _ s H _ Q E hr h=>?_)
 ·obtain⟨n,m,c,rfl,_⟩:=h
  rfl
 ·obtain⟨n,m,c,rfl,CV,Ek,hm,q⟩:=h
  refine⟨_,ae (aE (i:=3) D8.nd rfl (Or.inl rfl) (aR ac))
   (ae (bB PassesOwn.never rfl (aJ rfl T.range (aa (pv 1) ac)) (av (i:=4) D8.nd rfl (Or.inl rfl))
    (ae (aE (i:=5) D8.nd rfl (Or.inl rfl) (au Gm hr rfl mm km bm .nil ao (aa (pv 2) (aa (pv 4) ac))))
    (ae (aE (i:=6) D8.nd rfl (Or.inl rfl) (aD bG (pv 5) (pv 0)))
    (ag (aO (cz plainAttrs_list PySem.F.slot_list_append PySem.F.type_list_append bQ (pv 3) (aa (bj (aa (pv 6) (aa (aD bG (aD ca (aD ca (pv 6) aj) (aD bG (aD cj (pv 5) aj) (aD dH (pv 0) aj))) (pv 0)) ac))) ac)))))))
   (ag (ar (pv 3)))),?_⟩
  have two:(2:Nat) <= sizeLine:=by decide
  refine⟨zero_le _,fun D hD=>?_⟩
  have s0:=(y8.refl H).new (o := .lst []) hD
  refine⟨_,rfl,(m:Int),rfl,by omega,by omega,?_⟩
  rw[toNat_natCast]
  refine b7 (n:=m) (fun i σ H2=>∃ (a3 a4 a5:Option V)(yM:List V)(ps:List (Int × Int)),y8 H H2/\H2 D=some (.lst yM)/\yU H2 yM ps/\(∀ p ∈ ps,fM n p=true)/\ps.length=i/\σ=[some (.int n),some (.int m),some (.int c),some (.ref D),a3,a4,a5])
   ⟨none,none,none,[],[],s0,ad, .nil,(fun e he=>by cases he),rfl,rfl⟩ ?_ ?_
  ·rintro i σ H2 hi ⟨a3,a4,a5,yM,ps,s2,gD,HF,yL,hl,rfl⟩
   have HG:(0:Int) < (n:Int):=by omega
   have UR:(0:Int) < (n:Int) - 1:=by omega
   rw[zero_add]
   have zV:yM.length=ps.length:=Paired.length HF
   refine⟨_,rfl,_,rfl,c,i,rfl,by omega,fun d hd=>?_⟩
   refine⟨_,rfl,_,rfl,_,_,rfl,rfl,HG,?_⟩
   refine⟨_,rfl, .inl ⟨rfl,_,yC.of gD⟩,_,rfl,_,rfl,_,_,rfl,rfl,_,rfl,_,_,rfl,rfl,⟨by decide,by decide⟩,_,rfl,_,_,rfl,rfl,_,_,rfl,rfl,UR,_,_,rfl,rfl,_,rfl,_,_,rfl,rfl,HG,two,fun t1 h1=>?_⟩
   have r:=uz (emod_nonneg d (show (n:Int) ≠ 0 by omega)) (emod_lt_of_pos d HG) (emod_nonneg (d / 16) (show (n:Int) - 1 ≠ 0 by omega)) (emod_lt_of_pos (d / 16) UR)
   obtain⟨e1,e2,e3⟩:=m9 (x:=d % (n:Int)) (y:=(d % (n:Int) + 1 + d / 16 % ((n:Int) - 1)) % (n:Int)) hD s2 gD HF h1
   refine⟨D,yM,_,rfl,rfl,e1,by rw[sizeLine_eq];omega,_,_,_,_,_,e2,ad,e3,fun p hp=>?_,by rw[length_append,hl];rfl,rfl⟩
   rcases mem_append.mp hp with hp | hp
   ·exact yL p hp
   ·rw[mem_singleton.mp hp]
    exact xJ (emod_nonneg d (by omega)) (emod_lt_of_pos d HG) r.1 r.2.1 r.2.2
  ·rintro σ H2 ⟨a3,a4,a5,yM,ps,s2,gD,HF,yL,hl,rfl⟩
   exact⟨_,rfl,q D yM ps H2 s2 hD gD HF yL hl⟩
theorem E4:ap NNu ["_law_amount", "_law_cell"] (ah rD):=L2.ze
theorem uW {f fm:Addr}{fd dm:FuncData}(F:yY K "_law_numbers" "_law_numbers" rD f fd)(T:dP mg)(mm:mg "_law_mixed" = some (.ref fm))(km:keepIn K (.ref fm)=true)(bm:Binds K dm ["_law_cell", "_law_k"] [])
  (Gm:y9 P w K mg base aC 1 fm dm ["_law_cell", "_law_k"] jt):y9 P w K mg base aC 2 f fd ["_law_amount", "_law_cell"] qW:=by
 refine F.ok E4 (fun _ _ _ _ h=>?_) (fun _ _ _ s H _ Q E hr h=>?_)
 ·obtain⟨m,c,rfl,_⟩:=h
  rfl
 ·obtain⟨m,c,rfl,hm,q⟩:=h
  refine⟨_,ae (aE (i:=2) E4.nd rfl (Or.inl rfl) (aR ac))
   (ae (bB PassesOwn.never rfl (aJ rfl T.range (aa (pv 0) ac)) (av (i:=3) E4.nd rfl (Or.inl rfl))
    (ae (aE (i:=4) E4.nd rfl (Or.inl rfl) (au Gm hr rfl mm km bm .nil ao (aa (pv 1) (aa (pv 3) ac))))
    (ag (aO (cz plainAttrs_list PySem.F.slot_list_append PySem.F.type_list_append bQ (pv 2) (aa (az yG (aR (aa (aD bG (pv 4) aj) (aa (aD bG (aD cj (pv 1) (aD ca (pv 3) aj)) (aD jW aj aj)) (aa (wf qB (pv 4)) (aa (aD cj (pv 4) aj) ac))))) (aD bG (aD cj (pv 4) aj) aj) (fun _ _=>rfl)) ac))))))
   (ag (ar (pv 2)))),?_⟩
  refine⟨zero_le _,fun D hD=>?_⟩
  have s0:=(y8.refl H).new (o := .lst []) hD
  refine⟨_,rfl,(m:Int),rfl,by omega,by omega,?_⟩
  rw[toNat_natCast]
  refine b7 (n:=m) (fun i σ H2=>∃ (a3 a4:Option V)(nums:List Int),y8 H H2/\H2 D=some (.lst (nums.map V.int))/\nums.length=i/\σ=[some (.int m),some (.int c),some (.ref D),a3,a4])
   ⟨none,none,[],s0,ad,rfl,rfl⟩ ?_ ?_
  ·rintro i σ H2 hi ⟨a3,a4,nums,s2,gD,hl,rfl⟩
   rw[zero_add]
   refine⟨_,rfl,_,rfl,c,i,rfl,by omega,fun d hd=>?_⟩
   refine⟨_,rfl, .inl ⟨rfl,_,yC.of gD⟩,_,rfl,_,_,rfl,rfl,(by show (0:Int) < 5;decide),_,rfl,_,rfl,_,_,rfl,rfl,_,_,rfl,rfl,⟨by omega,by omega⟩,_,_,rfl,rfl,⟨by decide,by decide,by decide⟩,_,_,rfl,rfl,(by show (0:Int) < 10 ^ (40:Int).toNat;decide +kernel),_,rfl,_,rfl,_,rfl,_,_,rfl,rfl,⟨by decide,by decide⟩,by show 4 <= sizeLine;decide,fun o ho=>?_⟩
   have e1:=emod_nonneg (d / 16) (show (4:Int) ≠ 0 by decide)
   have e2:=emod_lt_of_pos (d / 16) (show (0:Int) < 4 by decide)
   obtain⟨j,hj,hj4⟩:∃ j:Nat,d / 16 % 4=(j:Int)/\j < 4:=⟨(d / 16 % 4).toNat,by omega,by omega⟩
   dsimp only
   obtain⟨z,hz⟩:∃ z:Int,([V.int (d % 5),V.int (c / ((i:Int) + 1) % 10 ^ (40:Int).toNat),V.int (-d),V.int (d / 8)]:List V)[j]? = some (V.int z):=by
    match j,hj4 with
    | 0,_=>exact⟨_,rfl⟩
    | 1,_=>exact⟨_,rfl⟩
    | 2,_=>exact⟨_,rfl⟩
    | 3,_=>exact⟨_,rfl⟩
   have u1:=(y8.refl H2).new (o := .lst [V.int (d % 5),V.int (c / ((i:Int) + 1) % 10 ^ (40:Int).toNat),V.int (-d),V.int (d / 8)]) ho
   refine⟨_,rfl,_,_,rfl,rfl,⟨by decide,by decide⟩,_,_,rfl,rfl,(by show (0:Int) < 4;decide),o,_,(j:Int), .int z,rfl,congrArg V.int hj,yC.of ad,ak hz,?_⟩
   generalize upd H2 o (.lst [V.int (d % 5),V.int (c / ((i:Int) + 1) % 10 ^ (40:Int).toNat),V.int (-d),V.int (d / 8)])=H3 at u1 ⊢
   refine⟨D,_,_,rfl,rfl,u1 _ _ gD,by rw[length_map,sizeLine_eq];omega,_,_,nums ++ [z],fun b u e=>by rw[af (ai e hD)];exact u1 _ _ (s2 _ _ e),by rw[ad,map_append];rfl,by rw[length_append,hl];rfl,rfl⟩
  ·rintro σ H2 ⟨a3,a4,nums,s2,gD,hl,rfl⟩
   exact⟨_,rfl,q D nums H2 s2 hD gD hl⟩
abbrev jj:Stmt:=(aF dE).getD 1 (.Pass ⟨0,0,0,0⟩)
noncomputable def xS (s:Stmt):Arguments:=match s with
 | .For _ (.Call _ _ [⟨_, .Lambda a _ _ _,_⟩] _) _ _ _=>a
 | _=>{ posonlyargs:=[],args:=[],vararg:=none,kwonlyargs:=[],kw_defaults:=[],kwarg:=none,defaults:=[] }
noncomputable def xR (s:Stmt):Expr:=match s with
 | .For _ (.Call _ _ [⟨_, .Lambda _ b _ _,_⟩] _) _ _ _=>b
 | _ => .Name "" ⟨0,0,0,0⟩
noncomputable def vq (s:Stmt):Scope:=match s with
 | .For _ (.Call _ _ [⟨_, .Lambda _ _ sc _,_⟩] _) _ _ _=>sc
 | _=>zQ0
noncomputable def wc (K:Frag)(zt:List V):Sp:=fun vs H Q _=>∃ (nu:Addr)(nums:List Int)(i:Nat),zt=[.ref nu]/\vs=[.int (i:Int)]/\yC K H nu (nums.map V.int)/\i < nums.length/\Q (.int (-(nums.getD i 0))) H
noncomputable def oP (K:Frag)(Tb:Addr):Sp:=fun vs H Q _=>∃ (l nu:Addr)(yM:List V)(ps:List (Int × Int))(nums:List Int)(n:Nat),vs=[.ref l, .ref nu]/\H l=some (.lst yM)/\yU H yM ps/\ps.length <= 40/\(∀ p ∈ ps,fM n p=true)/\n <= 12/\H nu=some (.lst (nums.map V.int))/\nums.length=ps.length/\H Tb=some (.zI #[]) /\
 ∀ (D:Addr)(al:List Nat)(H':Hp),yI [Tb] H H'->H D=none->H' D=some (.lst (nV al))->al.length=ps.length->(∀ z ∈ al,z < 2 ^ n)->(∀ l,l < ps.length->Kz ps nums al l)->Q (.ref D) H'
abbrev US:List Str:=["_law_lanes_here", "_law_numbers_here", "_law_alive_here", "_law_lane", "_law_end", "_law_other"]
theorem oV {n:Nat}{ps:List (Int × Int)}(yL:∀ p ∈ ps,fM n p=true){i:Nat}(hi:i < ps.length):∃ a b:Nat,ps.getD i (0,0)=((a:Int),(b:Int))/\a < n/\b < n:=by
 have B9:=yL _ (getElem_mem hi)
 unfold fM at B9
 simp only[Bool.and_eq_true,decide_eq_true_eq,Bool.not_eq_true',decide_eq_false_iff_not]at B9
 refine⟨(ps[i]).1.toNat,(ps[i]).2.toNat,?_,by omega,by omega⟩
 rw[getD_eq_getElem?_getD,getElem?_eq_getElem hi]
 refine Prod.ext ?_ ?_<;>show _=_<;>simp<;>omega
theorem kC {H:Hp}{yM:List V}{n:Nat}{ps:List (Int × Int)}(yL:∀ p ∈ ps,fM n p=true)(hL:yU H yM ps){i:Nat}(hi:i < ps.length):∃ (a b:Nat)(u:Addr),ps.getD i (0,0)=((a:Int),(b:Int))/\a < n/\b < n/\yM[i]? = some (.ref u)/\H u=some (.tup [.int (a:Int), .int (b:Int)]):=by
 obtain⟨a,b,e,ha,hb⟩:=oV yL hi
 obtain⟨v,hv,u,rfl,gu⟩:=yU.FD hL (getElem?_eq_getElem hi)
 have e2:ps[i]=((a:Int),(b:Int)):=by rw[← e,getD_eq_getElem?_getD,getElem?_eq_getElem hi];rfl
 rw[e2]at gu
 exact⟨a,b,u,e,ha,hb,hv,gu⟩
theorem Qv:mB ["_law_one", "_law_numbers_here"] ["_law_one"] ["_law_numbers_here"] (vq jj):=⟨rfl,rfl,rfl,by decide +kernel,rfl,by decide +kernel,by decide +kernel,by decide +kernel,by decide +kernel⟩
theorem xG {f c':Addr}{qual:Str}{clos:List (Str × Addr)}{pm Be:Value}{oc:Obj}{zt:List V}(lk:base.get? f=some (PySem.W.kla_obj "<lambda>" qual (xS jj) (xR jj) (vq jj) clos pm c' Be))(DF:base.get? c' = some oc)(AS:ot oc qual)(C:O6 base clos ["_law_numbers_here"] zt) :
  y9 P w K mg base aC 1 f (PySem.W.kla_fn "<lambda>" qual (xS jj) (xR jj) (vq jj) clos pm (.ref c') Be) ["_law_one"] (wc K zt):=by
 refine xQ lk DF AS Qv C (fun vs H Q E h=>?_) (fun A outer s H vs Q E hr h=>?_)
 ·obtain⟨nu,nums,i,_,rfl,_⟩:=h
  rfl
 ·obtain⟨nu,nums,i,rfl,rfl,hN,hi,q⟩:=h
  exact⟨_,wf qB (az (show AL _ (pJ K) from yG) (pv 1) (pv 0) (fun _ _=>rfl)),_,rfl,_,rfl,nu,_,_,_,rfl,rfl,hN,yt hi,_,rfl,q⟩
theorem yo {qual:Str}{clos:List (Str × Addr)}{pm Be:Value}{c':Addr}:Binds K (PySem.W.kla_fn "<lambda>" qual (xS jj) (xR jj) (vq jj) clos pm (.ref c') Be) ["_law_one"] [] :=
 .all fun us hl=>by cases us with | nil=>cases hl | cons a t=>cases t with
  | nil=>rfl | cons=>cases hl
theorem D9:ap US ["_law_lanes_here", "_law_numbers_here"] (ah dE):=L2.ze
theorem Qw:zF US (ah dE) (tT ((aF dE).getD 0 (.Pass ⟨0,0,0,0⟩))) [] []:=L2.Ah
theorem Qx:(["_law_lane"]:List Str).Nodup:=by decide +kernel
theorem sK {f cc Tb:Addr}{df:FuncData}(F:yY K "_law_alive" "_law_alive" dE f df)(AS:df.code = .ref cc)(NS:DI mg base cc Tb)(T:dP mg):y9 P w K mg base aC 4 f df ["_law_lanes_here", "_law_numbers_here"] (oP K Tb):=by
 refine F.okC D9 (fun vs H Q E h=>?_) (fun cdv A0 outer s H vs Q E UT hr h=>?_)
 ·obtain⟨l,nu,yM,ps,nums,n,rfl,_⟩:=h
  rfl
 ·obtain⟨l,nu,yM,ps,nums,n,rfl,gl,ER,Bj,yL,Ek,gn,UU,B6,q⟩:=h
  rw[AS]at UT
  have zp:yK 1 (Around.in1 (Around.in1 _)):=hr.in1.in1.mono (by decide)
  refine⟨_,ae (cI (i:=2) (own:=["_law_lane"]) (capN:=[]) (cap:=[]) Qw rfl D9.nd rfl rfl (aV (pv 0)) (fun C s' H' fp=>⟨av (i:=0) Qx rfl (Or.inl rfl),b9,aj⟩))
   (ae (bB PassesOwn.never rfl (aV (rR (clos:=[("_law_numbers_here",s.heap.objs.size + 1)]) (cs:=[(1, "_law_numbers_here")]) (sps:=wc K) (E:=fun _ _ _=>False) rfl NS rfl T.sorted (aa (bI lZ rfl T.range PyProof.Rows.boot_range (aa (aw aq rfl T.len PySem.boot_len (aa (pv 0) ac)) ac)) ac) UT.symm rfl rfl zp (List.forall_mem_cons.mpr ⟨⟨rfl,rfl,rfl⟩,fun _ h=>nomatch h⟩)
     (fun f c' oc pm Be hco zt zh B=>xG (B.pn _ (mem_cons_self ..)) (B.pn _ (mem_cons_of_mem _ (mem_cons_self ..))) hco (B.cap rfl (List.forall_mem_cons.mpr ⟨rfl,fun _ h=>nomatch h⟩))) (fun _ _ _=>yo))) (av (i:=3) D9.nd rfl (Or.inl rfl))
    (ae (aE (i:=4) D9.nd rfl (Or.inl rfl) (az yE (az yG (pv 0) (pv 3) (fun _ _=>rfl)) aj (fun _ _=>rfl)))
    (ae (fI (aD nE aj (pv 4)) (iS (pv 2) (pv 3) dZ))
    (ag (bB PassesOwn.never rfl (aJ rfl T.range (aa (aw aq rfl T.len PySem.boot_len (aa (pv 0) ac)) ac)) (av (i:=5) D9.nd rfl (Or.inl rfl))
     (ag (aL (PW.pt (jR (ax bK (az yE (az yG (pv 0) (pv 5) (fun _ _=>rfl)) aj (fun _ _=>rfl)) (pv 4) (aA _)) (i7 (ax l9 (az yG (pv 1) (pv 5) (fun _ _=>rfl)) (az yG (pv 1) (pv 3) (fun _ _=>rfl)) (aA _)))))
      (ag (fI (aD wg (az yG (pv 2) (pv 3) (fun _ _=>rfl)) (az yG (pv 2) (pv 5) (fun _ _=>rfl))) (iS (pv 2) (pv 3) dZ))) aB)))))))
   (ag (ar (pv 2)))),?_⟩
  have zV:yM.length=ps.length:=Paired.length ER
  refine⟨_,rfl,l,rfl,⟨_,yC.of gl⟩,?_⟩
  refine eV (K:=K) (a:=l) (xs:=yM) (fun _=>V.int 0) (by rw[sizeLine_eq];omega) (yC.of gl) (fun i x N hx h=>h) (fun D hD=>?_)
  have eA:((List.range yM.length).map fun _=>V.int 0)=nV (List.replicate ps.length 0):=by
   unfold nV
   rw[List.map_replicate,zV]
   exact List.map_const' .. |>.trans (by rw[length_range];rfl)
  rw[eA]
  show dv 2 (V.ref D) _ (upd H D (.lst (nV (List.replicate ps.length 0)))) _
  have s0:=(y8.refl H).new (o := .lst (nV (List.replicate ps.length 0))) hD
  have g0:(upd H D (.lst (nV (List.replicate ps.length 0)))) D=some (.lst (nV (List.replicate ps.length 0))):=ad
  generalize upd H D (.lst (nV (List.replicate ps.length 0)))=H1 at s0 g0 ⊢
  refine⟨_,rfl,l,_,rfl, .inl (yC.of (s0 _ _ gl)),_,rfl,fun p hp=>?_⟩
  rw[zV]
  have s1:=s0.new (o:=eY p ((ps.length:Nat):Int)) hp
  have M8:(upd H1 p (eY p ((ps.length:Nat):Int))) D=some (.lst (nV (List.replicate ps.length 0))):=by rw[af (ai g0 hp)];exact g0
  have gp:(upd H1 p (eY p ((ps.length:Nat):Int))) p=some (eY p ((ps.length:Nat):Int)):=ad
  generalize upd H1 p (eY p ((ps.length:Nat):Int))=H2 at s1 M8 gp ⊢
  have M9:=s1 _ _ B6
  refine⟨p,ps.length,#[],[.ref nu],fun i=>-(nums.getD i.toNat 0),rfl,gp,by omega,M9,True.intro,rfl, .cons rfl .nil,fun C6=>⟨fun i hi=>?_,fun R ns hR CH Qy=>?_⟩⟩
  ·refine⟨nu,nums,i,rfl,rfl,yC.of ?_,by omega,?_,rfl⟩
   ·rw[af (aX (s1 _ _ gn) M9 (by intro z;cases z))];exact s1 _ _ gn
   ·show V.int (-(nums.getD i 0))=V.int (-(nums.getD ((i:Int)).toNat 0))
    rw[toNat_natCast]
  have keep:∀ b o,H2 b=some o->(∀ qs,o ≠ .zI qs)->(upd (upd H2 Tb (.zI C6)) R (.lst (ns.map V.int))) b=some o:=fun b o e nt=>by
   have nb:b ≠ Tb:=fun z=>by rw[z,M9]at e;cases e;exact nt _ rfl
   have e1:(upd H2 Tb (.zI C6)) b=some o:=by rw[af nb];exact e
   rw[af (ai e1 hR)];exact e1
  have CO:=keep _ _ M8 (by intro _ z;cases z)
  have DQ:=keep _ _ (s1 _ _ gl) (by intro _ z;cases z)
  have UW:=keep _ _ (s1 _ _ gn) (by intro _ z;cases z)
  have Bu:yU (upd (upd H2 Tb (.zI C6)) R (.lst (ns.map V.int))) yM ps:=yU.imp (fun _ _ yD=>by obtain⟨t,e,g⟩:=yD;exact⟨t,e,keep _ _ (s1 _ _ g) (by intro _ z;cases z)⟩) ER
  have o3:yI [Tb] H (upd (upd H2 Tb (.zI C6)) R (.lst (ns.map V.int))):=fun b o hb e=>by
   have nb:b ≠ Tb:=fun z=>hb (by rw[z];exact mem_cons_self)
   have e1:(upd H2 Tb (.zI C6)) b=some o:=by rw[af nb];exact s1 _ _ e
   rw[af (ai e1 hR)];exact e1
  have gR:(upd (upd H2 Tb (.zI C6)) R (.lst (ns.map V.int))) R=some (.lst (ns.map V.int)):=ad
  have nDR:D ≠ R:=ai (show(upd H2 Tb (.zI C6)) D=some (.lst (nV (List.replicate ps.length 0))) by rw[af (aX M8 M9 (by intro z;cases z))];exact M8) hR
  generalize upd (upd H2 Tb (.zI C6)) R (.lst (ns.map V.int))=H3 at CO DQ UW Bu o3 gR ⊢
  obtain⟨ms,rfl⟩:∃ ms:List Nat,ns=iz ms:=⟨ns.map Int.toNat,by
   unfold iz
   rw[map_map]
   conv=>lhs;rw[← List.map_id ns]
   refine map_congr_left fun x hx=>?_
   obtain⟨k,_,rfl⟩:=mem_map.mp (CH.mem_iff.mp hx)
   rfl⟩
  have pm:ms.Perm (List.range ps.length):=by
   have:=CH.map Int.toNat
   unfold iz at this
   have UX:∀ l:List Nat,l.map (Int.toNat ∘ fun k:Nat=>(k:Int))=l:=fun l=>(map_congr_left fun x _=>rfl).trans (List.map_id l)
   rw[map_map,map_map,UX,UX]at this
   exact this
  have so:ms.Pairwise fun x y=>nums.getD y 0 <= nums.getD x 0:=by
   unfold iz at Qy
   rw[pairwise_map]at Qy
   refine Qy.imp fun {x y} h=>?_
   have h:-(nums.getD ((x:Int)).toNat 0) <= -(nums.getD ((y:Int)).toNat 0):=h
   rw[toNat_natCast,toNat_natCast]at h
   omega
  have CD:∀ x ∈ ms,x < ps.length:=fun x hx=>mem_range.mp (pm.mem_iff.mp hx)
  rw[vt]at gR
  refine⟨R,rfl,⟨_,yC.of gR⟩,?_⟩
  have nl:l ≠ D:=ai gl hD
  have nn:nu ≠ D:=ai gn hD
  have GA:∀ {H4:Hp}{xs:List V},yI [D] H3 H4->yI [D] H3 (upd H4 D (.lst xs)):=fun o b u hb e=>by
   rw[af (fun z=>hb (by rw[z];exact mem_cons_self))];exact o b u hb e
  have ones:∀ z:Addr,z ≠ D->z ∉ [D]:=fun z h m=>h (mem_singleton.mp m)
  refine c4 (K:=K) (a:=R) (xs:=nV ms) (fun i σ H4=>∃ (a3 a4 a5:Option V)(al:List Nat),yI [D] H3 H4/\H4 D=some (.lst (nV al))/\al.length=ps.length/\(∀ z ∈ al,z < 2 ^ n)/\(∀ x ∈ ms.take i,Kz ps nums al x)/\σ=[some (.ref l),some (.ref nu),some (.ref D),a3,a4,a5])
   ⟨none,none,none,_,(fun b o _ e=>e),CO,length_replicate ..,(fun z hz=>by rw[(List.mem_replicate.mp hz).2];exact Nat.two_pow_pos _),(fun x hx=>by cases hx),rfl⟩ (fun i σ H4 _ yD=>by obtain⟨_,_,_,_,o,_⟩:=yD;exact yC.of (o _ _ (ones R (Ne.symm nDR)) gR)) ?_ ?_
  rotate_left
  ·rintro σ H4 ⟨a3,a4,a5,al,o4,g4,DT,zb,hA,rfl⟩
   rw[cp,take_length]at hA
   exact⟨_,rfl,q D al H4 (fun b o hb e=>o4 b o (ones b (ai e hD)) (o3 b o hb e)) hD g4 DT zb fun x hx=>hA x (pm.mem_iff.mpr (mem_range.mpr hx))⟩
  rintro i v σ H4 hv ⟨a3,a4,a5,al,o4,g4,DT,zb,hA,rfl⟩
  obtain⟨x,hx,rfl⟩:∃ x,ms[i]? = some x/\v = .int (x:Int):=by
   unfold nV at hv
   rw[getElem?_map]at hv
   cases hx:ms[i]? with
   | none=>rw[hx]at hv;cases hv
   | some x=>rw[hx]at hv;exact⟨x,rfl,(Option.some.inj hv).symm⟩
  have hxl:=CD x (mem_of_getElem? hx)
  obtain⟨sx,ex,ux,Qz,hsx,hex,hvx,UY⟩:=kC yL Bu hxl
  have K4:∀ {u:Addr}{xs:List V},H3 u=some (.tup xs)->u ≠ D:=fun e=>aX e CO (by intro z;cases z)
  refine⟨_,rfl,_,rfl,l,_,(x:Int),_,rfl,rfl,yC.of (o4 _ _ (ones l nl) DQ),ak hvx,ux,_,1,_,rfl,rfl,yN.of (o4 _ _ (ones ux (K4 UY)) UY),ak (j:=1) rfl,?_⟩
  refine⟨_,rfl,_,_,rfl,rfl,⟨by omega,by omega,by decide⟩,?_⟩
  dsimp only
  rw[one_mul,toNat_natCast,show (2:Int) ^ ex=((2 ^ ex:Nat):Int) by rw[natCast_pow];rfl]
  refine⟨_,rfl,_,rfl,D,_,(x:Int),x,rfl,rfl,g4,eU (by rw[cp];omega),?_⟩
  rw[sO]
  refine⟨_,rfl,l,_,rfl, .inl (yC.of (GA o4 _ _ (ones l nl) DQ)),(yM.length:Int),rfl,by omega,by omega,?_⟩
  rw[toNat_natCast,zV]
  refine b7 (n:=ps.length) (fun k σ H5=>∃ (a5:Option V)(v:Nat),yI [D] H3 H5/\H5 D=some (.lst (nV (al.set x v)))/\v < 2 ^ n/\(∀ g:Nat,v.testBit g=true↔((g:Int)=(ps.getD x (0,0)).2∨∃ o,o < k/\(ps.getD o (0,0)).1=(ps.getD x (0,0)).2/\nums.getD x 0 < nums.getD o 0/\cr al o g=true))/\σ=[some (.ref l),some (.ref nu),some (.ref D),some (.int (x:Int)),some (.int (ex:Int)),a5])
   ⟨_,2 ^ ex,GA o4,ad,Nat.pow_lt_pow_right (by decide) hex,fun g=>?_,rfl⟩ ?_ ?_
  ·rw[Qz,Nat.testBit_two_pow,decide_eq_true_eq]
   constructor
   ·intro h;left;show (g:Int)=(ex:Int);omega
   ·rintro (h | ⟨o,h,_⟩)
    ·have h:(g:Int)=(ex:Int):=h;omega
    ·omega
  ·rintro k σ H5 hk ⟨a5,v,o5,g5,K5,K6,rfl⟩
   rw[zero_add]
   obtain⟨sk,ek,uk,UZ,hsk,hek,E5,Va⟩:=kC yL Bu hk
   refine⟨_,rfl,_,rfl,l,_,(k:Int),_,rfl,rfl,yC.of (o5 _ _ (ones l nl) DQ),ak E5,uk,_,0,_,rfl,rfl,yN.of (o5 _ _ (ones uk (K4 Va)) Va),ak (j:=0) rfl,_,rfl,rfl,_,rfl,?_⟩
   rw[fK]
   have next:((ps.getD k (0,0)).1=(ps.getD x (0,0)).2/\nums.getD x 0 < nums.getD k 0->False)->∀ g:Nat,(((g:Int)=(ps.getD x (0,0)).2∨∃ o,o < k/\(ps.getD o (0,0)).1=(ps.getD x (0,0)).2/\nums.getD x 0 < nums.getD o 0/\cr al o g=true)↔((g:Int)=(ps.getD x (0,0)).2∨∃ o,o < k + 1/\(ps.getD o (0,0)).1=(ps.getD x (0,0)).2/\nums.getD x 0 < nums.getD o 0/\cr al o g=true)):=fun DJ g =>
    or_congr Iff.rfl ⟨fun yD=>by obtain⟨o,h1,h2⟩:=yD;exact⟨o,by omega,h2⟩,fun⟨o,h1,h2,h3,h4⟩=>by
     by_cases z:o=k
     ·subst z;exact absurd ⟨h2,h3⟩ (fun h=>DJ h)
     ·exact⟨o,by omega,h2,h3,h4⟩⟩
   by_cases he:(sk:Int)=(ex:Int)
   rotate_left
   ·rw[decide_eq_false he]
    refine aH (aH ⟨_,v,o5,g5,K5,fun g=>(K6 g).trans (next (fun h=>he ?_) g),rfl⟩)
    have:=h.1;rw[UZ,Qz]at this;exact this
   rw[decide_eq_true he]
   have Vb:yC K H5 nu (nums.map V.int):=yC.of (o5 _ _ (ones nu nn) UW)
   refine aK ⟨_,rfl,_,rfl,nu,_,_,_,rfl,rfl,Vb,yt (by omega),_,rfl,_,rfl,nu,_,_,_,rfl,rfl,Vb,yt (by omega),_,_,rfl,rfl,_,rfl,?_⟩
   by_cases D7:nums.getD x 0 < nums.getD k 0
   rotate_left
   ·rw[decide_eq_false D7]
    exact aH ⟨_,v,o5,g5,K5,fun g=>(K6 g).trans (next (fun h=>D7 h.2) g),rfl⟩
   rw[decide_eq_true D7]
   have hkx:k ≠ x:=fun z=>by subst z;omega
   have OH:(al.set x v).length=ps.length:=by rw[length_set];exact DT
   have gk:(al.set x v).getD k 0=al.getD k 0:=by rw[getD_eq_getElem?_getD,getD_eq_getElem?_getD,getElem?_set_ne (Ne.symm hkx)]
   have gx:(al.set x v).getD x 0=v:=by rw[getD_eq_getElem?_getD,List.getElem?_set_self (by omega)];rfl
   have a1:=iA (F:=al.set x v) (p:=x) (by omega)
   have a2:=iA (F:=al.set x v) (p:=k) (by omega)
   rw[gx]at a1
   rw[gk]at a2
   refine aK ⟨_,rfl,_,rfl,D,_,_,_,rfl,rfl,yC.of g5,ak a1,_,rfl,_,rfl,D,_,_,_,rfl,rfl,yC.of g5,ak a2,_,_,rfl,rfl,?_⟩
   dsimp only
   rw[Yd.Bd]
   refine⟨_,rfl,_,rfl,D,_,(x:Int),x,rfl,rfl,g5,eU (by rw[cp];omega),?_⟩
   rw[sO,List.set_set]
   have Qm:al.getD k 0 < 2 ^ n:=by
    have h0:k < al.length:=by omega
    rw[getD_eq_getElem?_getD,getElem?_eq_getElem h0]
    exact zb _ (getElem_mem h0)
   refine⟨_,v ||| al.getD k 0,GA o5,ad,Nat.or_lt_two_pow K5 Qm,fun g=>?_,rfl⟩
   rw[Nat.testBit_or,Bool.or_eq_true,K6 g]
   constructor
   ·rintro ((h | ⟨o,h1,h2⟩) | h)
    ·exact .inl h
    ·exact .inr ⟨o,by omega,h2⟩
    ·exact .inr ⟨k,by omega,by rw[UZ,Qz];exact he,D7,h⟩
   ·rintro (h | ⟨o,h1,h2,h3,h4⟩)
    ·exact .inl (.inl h)
    ·by_cases z:o=k
     ·subst z;exact .inr h4
     ·exact .inl (.inr ⟨o,by omega,h2,h3,h4⟩)
  ·rintro σ H5 ⟨a5,v,o5,g5,K5,K6,rfl⟩
   refine⟨_,_,_,al.set x v,o5,g5,by rw[length_set];exact DT,fun z hz=>?_,tU DT pm so hx hA K6,rfl⟩
   rcases List.mem_or_eq_of_mem_set hz with hz | hz
   ·exact zb z hz
   ·rw[hz];exact K5
structure K7 (H:Hp)(l nu la:Addr)(yM:List V)(ps:List (Int × Int))(nums:List Int)(al:List Nat)(n:Nat):Prop where
 l:H l=some (.lst yM)
 L:yU H yM ps
 u:H nu=some (.lst (nums.map V.int))
 a:H la=some (.lst (nV al))
 ok:∀ p ∈ ps,fM n p=true
 zD:ps.length <= 10
 nl:nums.length=ps.length
 sl:al.length=ps.length
theorem K7.same {H H':Hp}{l nu la:Addr}{yM:List V}{ps:List (Int × Int)}{nums:List Int}{al:List Nat}{n:Nat}(h:K7 H l nu la yM ps nums al n)(s:y8 H H'):K7 H' l nu la yM ps nums al n:=⟨s _ _ h.l,yU.same s h.L,s _ _ h.u,s _ _ h.a,h.ok,h.zD,h.nl,h.sl⟩
noncomputable def MA (nums:List Int)(cc:Option Nat)(z:Nat):Bool:=match cc with
 | none=>true
 | some k=>decide (nums.getD k 0 < nums.getD z 0)
noncomputable def lN (ps:List (Int × Int))(nums:List Int)(al:List Nat)(p g:Nat)(cc:Option Nat)(z:Nat):Bool:=decide ((ps.getD z (0,0)).1=(p:Int)) && (cr al z g && MA nums cc z)
noncomputable def j0 (ps:List (Int × Int))(nums:List Int)(al:List Nat)(p g:Nat)(cc:Option Nat)(m:Nat):List Nat:=(List.range m).filter (lN ps nums al p g cc)
theorem tD {ps:List (Int × Int)}{nums:List Int}{al:List Nat}{p g:Nat}{cc:Option Nat}{i:Nat}:j0 ps nums al p g cc (i + 1)=if lN ps nums al p g cc i then j0 ps nums al p g cc i ++ [i] else j0 ps nums al p g cc i:=by
 unfold j0
 rw[range_succ,filter_append]
 cases h:lN ps nums al p g cc i with
 | true=>rw[if_pos rfl,filter_cons_of_pos h];rfl
 | false=>rw[if_neg (by decide),filter_cons_of_neg (by rw[h];decide)];simp
theorem xb {ps:List (Int × Int)}{nums:List Int}{al:List Nat}{p g:Nat}{cc:Option Nat}{us:List Nat}(h1:∀ z ∈ us,z ∈ j0 ps nums al p g cc ps.length)(h2:us=[]->j0 ps nums al p g cc ps.length=[]):wr ps nums al ⟨(p:Int),(g:Int),cc,us⟩:=by
 refine⟨fun l hl=>?_,fun he l hl hs hb=>?_⟩
 ·obtain⟨a,b⟩:=mem_filter.mp (h1 l hl)
  unfold lN at b
  simp only[Bool.and_eq_true,decide_eq_true_eq]at b
  refine⟨mem_range.mp a,b.1,by rw[toNat_natCast];exact b.2.1,fun k hk=>?_⟩
  have hk:cc=some k:=hk
  have:=b.2.2
  rw[hk]at this
  exact of_decide_eq_true this
 ·have hn:=h2 he
  have hb:cr al l g=true:=by have:=hb;rw[toNat_natCast]at this;exact this
  cases hc:MA nums cc l with
  | true =>
   have:l ∈ j0 ps nums al p g cc ps.length:=mem_filter.mpr ⟨mem_range.mpr hl,by unfold lN;rw[decide_eq_true hs,hb,hc];rfl⟩
   rw[hn]at this;cases this
  | false =>
   cases cc with
   | none=>cases hc
   | some k=>exact⟨k,rfl,by have:=of_decide_eq_false hc;omega⟩
noncomputable def oN:Sp:=fun vs H Q _=>∃ (l nu la:Addr)(yM:List V)(ps:List (Int × Int))(nums:List Int)(al:List Nat)(n p g d:Nat)(cc:Option Nat),vs=[.ref l, .ref nu, .ref la, .int (p:Int), .int (g:Int),cV cc, .int (d:Int)]/\K7 H l nu la yM ps nums al n/\(∀ k,cc=some k->k < ps.length) /\
 ∀ (D:Addr)(us:List Nat)(H':Hp),y8 H H'->H D=none->H' D=some (.lst (bP us))->us.length <= 10->(∀ z ∈ us,z ∈ fu Prod.fst ps (p:Int))->wr ps nums al ⟨(p:Int),(g:Int),cc,us⟩->Q (.ref D) H'
noncomputable def qY:Sp:=fun vs H Q _=>∃ (l nu la:Addr)(yM:List V)(ps:List (Int × Int))(nums:List Int)(al:List Nat)(n:Nat)(cl:Int),vs=[.int n, .ref l, .ref nu, .ref la, .int cl]/\K7 H l nu la yM ps nums al n/\2 <= n/\n <= 5 /\
 ∀ (D:Addr)(yR:List V)(rs:List Rw)(H':Hp),y8 H H'->H D=none->H' D=some (.lst yR)->BV H' yR rs->Cw n ps 50000 rs->(∀ r ∈ rs,wr ps nums al r)->(∀ p g c,p < n->g < n->p ≠ g->c ∈ aU ps p->D6 rs p g c)->Q (.ref D) H'
abbrev Vc:List Str:=["_law_lanes_here", "_law_numbers_here", "_law_alive_here", "_law_place", "_law_goal", "_law_came", "_law_draw", "_law_found", "_law_lane", "_law_some"]
abbrev MB:List Str:=["_law_lanes_here", "_law_numbers_here", "_law_alive_here", "_law_place", "_law_goal", "_law_came", "_law_draw"]
abbrev Vd:List Str:=["_law_places", "_law_lanes_here", "_law_numbers_here", "_law_alive_here", "_law_cell", "_law_rows", "_law_place", "_law_cames", "_law_goal", "_law_came", "_law_draw", "_law_entry_here"]
abbrev MC:List Str:=["_law_places", "_law_lanes_here", "_law_numbers_here", "_law_alive_here", "_law_cell"]
theorem E6:ap Vc MB (ah iN):=L2.ze
theorem Q0:zF Vc (ah iN) (tT (gc (aF iN) 2)) ["_law_draw"] [6]:=L2.Ah
theorem Q3:(["_law_lane", "_law_draw"]:List Str).Nodup:=by decide +kernel
theorem sG {f:Addr}{fd:FuncData}(F:yY K "_law_entry" "_law_entry" iN f fd)(T:dP mg):y9 P w K mg base aC 1 f fd MB oN:=by
 refine F.ok E6 (fun _ _ _ _ h=>?_) (fun _ _ _ s H _ Q E hr h=>?_)
 ·obtain⟨l,nu,la,yM,ps,nums,al,n,p,g,d,cc,rfl,_⟩:=h
  rfl
 ·obtain⟨l,nu,la,yM,ps,nums,al,n,p,g,d,cc,rfl,hA,BK,q⟩:=h
  have hu:=hr.units
  refine⟨_,ae (aE (i:=7) E6.nd rfl (Or.inl rfl) (aR ac))
   (ae (bB PassesOwn.never rfl (aJ rfl T.range (aa (aw aq rfl T.len PySem.boot_len (aa (pv 0) ac)) ac)) (av (i:=8) E6.nd rfl (Or.inl rfl))
    (ag (aL (PW.pt (jR (ax bK (az yE (az yG (pv 0) (pv 8) (fun _ _=>rfl)) aj (fun _ _=>rfl)) (pv 3) (aA _)) (i7 (ax bK (aD nH (aD jV (az yG (pv 2) (pv 8) (fun _ _=>rfl)) (pv 4)) aj) aj (aA _)))))
     (ag (aL (PW.pt (eu (ax gO (pv 5) b8 (aA _)) (cG (ax l9 (az yG (pv 1) (pv 8) (fun _ _=>rfl)) (az yG (pv 1) (pv 5) (fun _ _=>rfl)) (aA _)))))
      (ag (aO (cz plainAttrs_list PySem.F.slot_list_append PySem.F.type_list_append bQ (pv 7) (aa (pv 8) ac)))) aB)) aB)))
   (ae (cI (i:=9) (own:=["_law_lane"]) (capN:=["_law_draw"]) (cap:=[6]) Q0 rfl E6.nd rfl rfl (aV (pv 7)) (fun C s' H' fp=>⟨av (i:=0) Q3 rfl (Or.inl rfl),cx (ax bK (aD nH (aD jV (pv 1) (pv 0)) aj) aj (aA _)),pv 0⟩))
   (ae (aL (ax (nG hu) (pv 9) (aR ac) (aA _)) (ag (ar (pv 9))) aB)
   (ag (ar (pv 7)))))),?_⟩
  have zV:yM.length=ps.length:=Paired.length hA.L
  have Bj:=hA.zD
  have nl:=hA.nl
  have sl:=hA.sl
  refine⟨zero_le _,fun D hD=>?_⟩
  have s0:=(y8.refl H).new (o := .lst []) hD
  have g0:(upd H D (.lst [])) D=some (.lst (bP [])):=ad
  show dv 7 (V.ref D) _ _ _
  generalize upd H D (.lst [])=H0 at s0 g0 ⊢
  refine⟨_,rfl,l,_,rfl, .inl (yC.of (s0 _ _ hA.l)),(yM.length:Int),rfl,by omega,by omega,?_⟩
  rw[toNat_natCast,zV]
  have fl:∀ i,(j0 ps nums al p g cc i).length <= i:=fun i=>by
   have:=length_filter_le (lN ps nums al p g cc) (List.range i)
   rw[length_range]at this;exact this
  refine b7 (n:=ps.length) (fun i σ H2=>∃ (a8:Option V),y8 H H2/\H2 D=some (.lst (bP (j0 ps nums al p g cc i)))/\σ=[some (.ref l),some (.ref nu),some (.ref la),some (.int (p:Int)),some (.int (g:Int)),some (cV cc),some (.int (d:Int)),some (.ref D),a8,none])
   ⟨none,s0,g0,rfl⟩ ?_ ?_
  ·rintro i σ H2 hi ⟨a8,s2,g2,rfl⟩
   rw[zero_add]
   obtain⟨a,b,u,e,ha,hb,hv,gu⟩:=kC hA.ok hA.L hi
   rw[tD]
   unfold lN
   rw[e]
   refine⟨_,rfl,_,rfl,l,_,(i:Int),_,rfl,rfl,yC.of (s2 _ _ hA.l),ak hv,u,_,0,_,rfl,rfl,yN.of (s2 _ _ gu),ak (j:=0) rfl,_,rfl,rfl,_,rfl,?_⟩
   rw[fK]
   dsimp only
   cases BF:decide ((a:Int)=(p:Int)) with
   | false =>
    exact aH (aH ⟨_,s2,g2,rfl⟩)
   | true =>
   rw[Bool.true_and]
   refine aK ⟨_,rfl,_,rfl,la,_,_,_,rfl,rfl,yC.of (s2 _ _ hA.a),ak (iA (p:=i) (by omega)),_,rfl,_,_,rfl,rfl,(show (0:Int) <= (g:Int) by omega),_,_,rfl,rfl,rfl,_,rfl,?_⟩
   rw[Ku]
   unfold cr
   cases hbg:(al.getD i 0).testBit g with
   | false =>
    exact aH ⟨_,s2,g2,rfl⟩
   | true =>
   rw[Bool.true_and]
   have more:y8 H (upd H2 D (.lst (bP (j0 ps nums al p g cc i) ++ [.int (i:Int)])))/\(upd H2 D (.lst (bP (j0 ps nums al p g cc i) ++ [.int (i:Int)]))) D=some (.lst (bP (j0 ps nums al p g cc i ++ [i]))) :=
    ⟨fun b o e=>by rw[af (ai e hD)];exact s2 _ _ e,by rw[ad,pY]⟩
   have add:(if true=true then j0 ps nums al p g cc i ++ [i] else j0 ps nums al p g cc i)=j0 ps nums al p g cc i ++ [i]:=if_pos rfl
   have IX:=fl i
   have hz:(bP (j0 ps nums al p g cc i)).length < sizeLine:=by unfold bP;rw[length_map,sizeLine_eq];omega
   refine aK ⟨_,rfl,rfl,_,rfl,?_⟩
   cases cc with
   | none =>
    rw[show decide (cV none=V.yQ)=true from decide_eq_true rfl]
    refine aK (aK ⟨_,rfl, .inl ⟨rfl,_,yC.of g2⟩,_,rfl,D,_,_,rfl,rfl,g2,hz,_,more.1,?_,rfl⟩)
    exact more.2
   | some k =>
    have zK:=BK k rfl
    rw[show decide (cV (some k)=V.yQ)=false from decide_eq_false fun z=>by cases z]
    refine aH ⟨_,rfl,_,rfl,nu,_,_,_,rfl,rfl,yC.of (s2 _ _ hA.u),yt (by omega),_,rfl,_,rfl,nu,_,(k:Int),_,rfl,rfl,yC.of (s2 _ _ hA.u),yt (by omega),_,_,rfl,rfl,_,rfl,?_⟩
    show if decide (nums.getD k 0 < nums.getD i 0)=true then _ else _
    cases D7:decide (nums.getD k 0 < nums.getD i 0) with
    | true =>
     refine aK ⟨_,rfl, .inl ⟨rfl,_,yC.of g2⟩,_,rfl,D,_,_,rfl,rfl,g2,hz,_,more.1,?_,rfl⟩
     rw[show MA nums (some k) i=true from D7]
     exact more.2
    | false =>
     refine aH ⟨_,s2,?_,rfl⟩
     rw[show MA nums (some k) i=false from D7]
     exact g2
  ·rintro σ H2 ⟨a8,s2,g2,rfl⟩
   have IX:=fl ps.length
   have Q4:∀ z ∈ j0 ps nums al p g cc ps.length,z ∈ fu Prod.fst ps (p:Int):=fun z hz=>by
    obtain⟨h1,h2⟩:=mem_filter.mp hz
    unfold lN at h2
    exact mem_filter.mpr ⟨h1,(Bool.and_eq_true _ _ ▸ h2).1⟩
   have Q5:∀ us:List Nat,(∀ z ∈ us,z ∈ j0 ps nums al p g cc ps.length)->(us=[]->j0 ps nums al p g cc ps.length=[])->wr ps nums al ⟨(p:Int),(g:Int),cc,us⟩:=fun us=>xb
   generalize j0 ps nums al p g cc ps.length=fs at g2 IX Q4 Q5
   refine⟨_,rfl,D,rfl,⟨_,yC.of g2⟩,?_⟩
   refine qo (fun k=>d.testBit k) (by rw[sizeLine_eq];omega) (yC.of g2) (fun k acc N hk h=>?_) (fun So Ve=>?_)
   ·refine⟨_,rfl,_,rfl,_,_,rfl,rfl,(show (0:Int) <= (k:Int) by omega),_,_,rfl,rfl,rfl,_,rfl,?_⟩
    rw[Ku]
    cases hb:d.testBit k with
    | true=>rw[hb]at h;exact aK ⟨_,rfl,h⟩
    | false=>rw[hb]at h;exact aH h
   have u1:=(y8.refl H2).new (o := .lst (bP (fs.filter fun k=>d.testBit k))) Ve
   have gS:(upd H2 So (.lst (bP (fs.filter fun k=>d.testBit k)))) So=some (.lst (bP (fs.filter fun k=>d.testBit k))):=ad
   show dv 9 (V.ref So) _ (upd H2 So (.lst (bP (fs.filter fun k=>d.testBit k)))) _
   generalize upd H2 So (.lst (bP (fs.filter fun k=>d.testBit k)))=H3 at u1 gS ⊢
   have K8:=length_filter_le (fun k=>d.testBit k) fs
   have DA:∀ z ∈ fs.filter (fun k=>d.testBit k),z ∈ fs:=fun z hz=>(mem_filter.mp hz).1
   generalize fs.filter (fun k=>d.testBit k)=us at gS K8 DA
   refine⟨_,rfl,zero_le _,fun o7 GB=>?_⟩
   have u2:=u1.new (o := .lst []) GB
   have Q6:(upd H3 o7 (.lst [])) So=some (.lst (bP us)):=by rw[af (ai gS GB)];exact gS
   have g7:(upd H3 o7 (.lst [])) o7=some (.lst (([]:List Int).map V.int)):=ad
   generalize upd H3 o7 (.lst [])=H4 at u2 Q6 g7 ⊢
   have s4:=s2.trans u2
   refine⟨So,o7,iz us,[],rfl,rfl,by rw[vt];exact yC.of Q6,yC.of g7,_,rfl,?_⟩
   by_cases hn:us=[]
   ·rw[decide_eq_true (show iz us=[] by rw[hn];rfl)]
    exact aH ⟨_,rfl,q D fs H4 s4 hD (u2 _ _ g2) (by omega) Q4 (Q5 fs (fun z hz=>hz) (fun h=>h))⟩
   ·rw[decide_eq_false (show ¬ iz us=[] from fun z=>hn (by unfold iz at z;exact map_eq_nil_iff.mp z))]
    exact aK ⟨_,rfl,q So us H4 s4 (s2.free Ve) Q6 (by omega) (fun z hz=>Q4 z (DA z hz)) (Q5 us DA (fun h=>absurd h hn))⟩
noncomputable def uI:List Stmt:=nZ (gc (aF lj) 1)
theorem BA:ap Vd MC (ah lj):=L2.ze
theorem Q7:zF Vd (ah lj) (tS (gc uI 0)) ["_law_lanes_here", "_law_place"] [1,6]:=L2.Ah
theorem Q8:(["_law_lane", "_law_lanes_here", "_law_place"]:List Str).Nodup:=by decide +kernel
theorem va {f fm fe:Addr}{fd dm de:FuncData}(F:yY K "_law_made" "_law_made" lj f fd)(T:dP mg)(mm:mg "_law_mixed" = some (.ref fm))(km:keepIn K (.ref fm)=true)(bm:Binds K dm ["_law_cell", "_law_k"] [])(Gm:y9 P w K mg base aC 1 fm dm ["_law_cell", "_law_k"] jt)
  (me:mg "_law_entry" = some (.ref fe)) (ke:keepIn K (.ref fe)=true) (be:Binds K de MB []) (Ge:y9 P w K mg base aC 1 fe de MB oN) :
  y9 P w K mg base aC 2 f fd MC qY:=by
 refine F.ok BA (fun _ _ _ _ h=>?_) (fun _ _ _ s H _ Q E hr h=>?_)
 ·obtain⟨l,nu,la,yM,ps,nums,al,n,cl,rfl,_⟩:=h
  rfl
 ·obtain⟨l,nu,la,yM,ps,nums,al,n,cl,rfl,hA,CV,KA,q⟩:=h
  refine⟨_,ae (aE (i:=5) BA.nd rfl (Or.inl rfl) (aR ac))
   (ae (bB PassesOwn.never rfl (aJ rfl T.range (aa (pv 0) ac)) (av (i:=6) BA.nd rfl (Or.inr rfl))
    (ae (aE (i:=7) BA.nd rfl (Or.inl rfl) (aD rZ (aR (aa b8 ac)) (aQ (own:=["_law_lane"]) (capN:=["_law_lanes_here", "_law_place"]) (cap:=[1,6]) Q7 rfl (aJ rfl T.range (aa (aw aq rfl T.len PySem.boot_len (aa (pv 1) ac)) ac))
     (fun C s' H' fp=>⟨av (i:=0) Q8 rfl (Or.inl rfl),cx (ax bK (az (show AL _ (iQ K) from yE) (az (show AL _ (pJ K) from yG) (pv 1) (pv 0) (fun _ _=>rfl)) aj (fun _ _=>rfl)) (pv 2) (aA _)),pv 0⟩))))
    (ag (bB PassesOwn.never rfl (aJ rfl T.range (aa (pv 0) ac)) (av (i:=8) BA.nd rfl (Or.inl rfl))
     (ag (bB PassesOwn.never rfl (aV (pv 7)) (av (i:=9) BA.nd rfl (Or.inl rfl))
      (ae (aE (i:=10) BA.nd rfl (Or.inl rfl) (au Gm hr rfl mm km bm .nil ao (aa (pv 4) (aa (aw aq rfl T.len PySem.boot_len (aa (pv 5) ac)) ac))))
      (ag (aL (ax ik (pv 6) (pv 8) (aA _))
       (ae (aE (i:=11) BA.nd rfl (Or.inl rfl) (au Ge hr rfl me ke be .nil ao (aa (pv 1) (aa (pv 2) (aa (pv 3) (aa (pv 6) (aa (pv 8) (aa (pv 9) (aa (aD cj (pv 10) aj) ac)))))))))
       (ag (aO (cz plainAttrs_list PySem.F.slot_list_append PySem.F.type_list_append bQ (pv 5) (aa (bj (aa (pv 6) (aa (pv 8) (aa (pv 9) (aa (pv 11) ac))))) ac))))) aB)))))))))
   (ag (ar (pv 5)))),?_⟩
  have zV:yM.length=ps.length:=Paired.length hA.L
  have Bj:=hA.zD
  refine⟨zero_le _,fun D hD=>?_⟩
  have s0:=(y8.refl H).new (o := .lst []) hD
  have g0:(upd H D (.lst [])) D=some (.lst []):=ad
  show dv 5 (V.ref D) _ _ _
  generalize upd H D (.lst [])=H0 at s0 g0 ⊢
  refine⟨_,rfl,(n:Int),rfl,by omega,by omega,?_⟩
  rw[toNat_natCast]
  refine b7 (n:=n) (fun i σ H2=>∃ (a4 a5 a6 a7 a8 a9:Option V)(yR:List V)(rs:List Rw),y8 H H2/\H2 D=some (.lst yR)/\AY D H2 yR rs/\Cw n ps (i * 10000) rs/\(∀ r ∈ rs,wr ps nums al r)/\(∀ p g c,p < i->g < n->p ≠ g->c ∈ aU ps p->D6 rs p g c)/\σ=[some (.int n),some (.ref l),some (.ref nu),some (.ref la),some (.int cl),some (.ref D),a4,a5,a6,a7,a8,a9])
   ⟨none,none,none,none,none,none,[],[],s0,g0, .nil,⟨List.Pairwise.nil,(fun r hr=>by cases hr),(fun r hr=>by cases hr),(fun r hr=>by cases hr)⟩,(fun r hr=>by cases hr),(fun p g c hp=>absurd hp (not_lt_zero _)),rfl⟩ ?_ ?_
  rotate_left
  ·rintro σ H2 ⟨a4,a5,a6,a7,a8,a9,yR,rs,s2,g2,hR,hO,hG,hC,rfl⟩
   exact⟨_,rfl,q D yR rs H2 s2 hD g2 hR.rws (hO.up (by omega)) hG hC⟩
  rintro p σ H2 hpn ⟨a4,a5,a6,a7,a8,a9,yR,rs,s2,g2,hR,hO,hG,hC,rfl⟩
  rw[zero_add]
  refine⟨by show 1 <= sizeLine;decide,fun o1 EJ=>?_⟩
  have u2:=(y8.refl H2).new (o := .lst [.yQ]) EJ
  have HH:(upd H2 o1 (.lst [.yQ])) o1=some (.lst [.yQ]):=ad
  generalize upd H2 o1 (.lst [.yQ])=H4 at u2 HH ⊢
  have s4:=s2.trans u2
  refine⟨_,rfl,l,_,rfl, .inl (yC.of (s4 _ _ hA.l)),(yM.length:Int),rfl,by omega,by omega,?_⟩
  rw[toNat_natCast,zV]
  refine vB (sel:=Prod.snd) (ps:=ps) (pl:=(p:Int)) (by rw[sizeLine_eq];omega) (fun z acc N pr hpr h=>?_) (fun o2 Aj=>?_)
  ·obtain⟨v,hv,u,rfl,gu⟩:=yU.FD hA.L hpr
   refine⟨_,rfl,_,rfl,l,yM,_,_,rfl,rfl,yC.of (s4 _ _ hA.l),ak hv,u,_,1,_,rfl,rfl,yN.of (s4 _ _ gu),ak (j:=1) rfl,_,rfl,rfl,_,rfl,?_⟩
   rw[fK]
   cases hb:decide (pr.2=(p:Int)) with
   | true =>
    have B4:decide (Prod.snd pr=(p:Int))=true:=hb
    rw[B4]at h
    exact aK ⟨_,rfl,h⟩
   | false =>
    have B4:decide (Prod.snd pr=(p:Int))=false:=hb
    rw[B4]at h
    exact aH h
  have u3:=(y8.refl H4).new (o := .lst (bP (fu Prod.snd ps (p:Int)))) Aj
  have go2:(upd H4 o2 (.lst (bP (fu Prod.snd ps (p:Int))))) o2=some (.lst (bP (fu Prod.snd ps (p:Int)))):=ad
  have KC:(upd H4 o2 (.lst (bP (fu Prod.snd ps (p:Int))))) o1=some (.lst [.yQ]):=by rw[af (ai HH Aj)];exact HH
  generalize upd H4 o2 (.lst (bP (fu Prod.snd ps (p:Int))))=H5 at u3 go2 KC ⊢
  have OH:(fu Prod.snd ps (p:Int)).length <= 10:=by
   have:=length_filter_le (fun k=>decide (Prod.snd (ps.getD k (0,0))=(p:Int))) (List.range ps.length)
   rw[length_range]at this
   unfold fu
   omega
  refine⟨o1,o2,_,_,rfl,rfl,KC,go2,by unfold bP;rw[length_map,sizeLine_eq];simp only[length_singleton];omega,fun C MD=>?_⟩
  rw[vD]
  have u4:=(y8.refl H5).new (o := .lst ((aU ps p).map cV)) MD
  have gC:(upd H5 C (.lst ((aU ps p).map cV))) C=some (.lst ((aU ps p).map cV)):=ad
  have Vf:y8 H2 H5:=u2.trans u3
  have nC:C ≠ D:=Ne.symm (ai (Vf _ _ g2) MD)
  show dv 7 (V.ref C) _ (upd H5 C (.lst ((aU ps p).map cV))) _
  generalize upd H5 C (.lst ((aU ps p).map cV))=H6 at u4 gC ⊢
  have Q9:=Vf.trans u4
  refine⟨_,rfl,(n:Int),rfl,by omega,by omega,?_⟩
  rw[toNat_natCast]
  refine b7 (n:=n) (fun i σ H7=>∃ (a7 a8 a9 GC:Option V)(yR:List V)(rs:List Rw),y8 H H7/\H7 D=some (.lst yR)/\H7 C=some (.lst ((aU ps p).map cV))/\AY D H7 yR rs/\Cw n ps ((p * 100 + i) * 100) rs/\(∀ r ∈ rs,wr ps nums al r)/\(∀ p' g c,p' < p->g < n->p' ≠ g->c ∈ aU ps p'->D6 rs p' g c)/\(∀ g c,g < i->p ≠ g->c ∈ aU ps p->D6 rs p g c)/\σ=[some (.int n),some (.ref l),some (.ref nu),some (.ref la),some (.int cl),some (.ref D),some (.int (p:Int)),some (.ref C),a7,a8,a9,GC])
   ⟨_,_,_,_,yR,rs,s2.trans Q9,Q9 _ _ g2,gC,hR.same Q9,hO.up (by omega),hG,hC,(fun g c hg=>absurd hg (not_lt_zero _)),rfl⟩ ?_ ?_
  rotate_left
  ·rintro σ H7 ⟨a7,a8,a9,GC,yR,rs,s7,g7,_,KD,QA,QB,QC,QD,rfl⟩
   refine⟨_,_,_,_,_,_,yR,rs,s7,g7,KD,QA.up (by omega),QB,fun p' g c AM hg zc hc=>?_,rfl⟩
   by_cases z:p' = p
   ·subst z;exact QD g c hg zc hc
   ·exact QC p' g c (by omega) hg zc hc
  rintro i σ H7 hi ⟨a7,a8,a9,GC,yR,rs,s7,g7,Vg,KD,QA,QB,QC,QD,rfl⟩
  rw[zero_add]
  refine⟨_,rfl,C,rfl,⟨_,yC.of Vg⟩,?_⟩
  have BE:((aU ps p).map cV).length=(aU ps p).length:=length_map ..
  refine c4 (K:=K) (a:=C) (xs:=(aU ps p).map cV) (fun j σ Hb=>∃ (a8 a9 GC:Option V)(yR:List V)(rs:List Rw),y8 H Hb/\Hb D=some (.lst yR)/\Hb C=some (.lst ((aU ps p).map cV))/\AY D Hb yR rs/\Cw n ps ((p * 100 + i) * 100 + lim ((aU ps p).map ud) j) rs/\(∀ r ∈ rs,wr ps nums al r)/\(∀ p' g c,p' < p->g < n->p' ≠ g->c ∈ aU ps p'->D6 rs p' g c)/\(∀ g c,g < i->p ≠ g->c ∈ aU ps p->D6 rs p g c)/\(∀ c ∈ (aU ps p).take j,p ≠ i->D6 rs p i c)/\σ=[some (.int n),some (.ref l),some (.ref nu),some (.ref la),some (.int cl),some (.ref D),some (.int (p:Int)),some (.ref C),some (.int (i:Int)),a8,a9,GC])
   ⟨_,_,_,yR,rs,s7,g7,Vg,KD,QA.up (by omega),QB,QC,QD,(fun c hc=>by cases hc),rfl⟩ (fun j σ Hb _ yD=>by obtain⟨_,_,_,_,_,_,_,g,_⟩:=yD;exact yC.of g) ?_ ?_
  rotate_left
  ·rintro σ Hb ⟨a8,a9,GC,yR,rs,sb,gb,MF,GF,HI,MG,MH,MI,MJ,rfl⟩
   rw[BE,← length_map (f:=ud) (as:=aU ps p)]at HI
   have:=vp (xs:=(aU ps p).map ud) fun x hx=>by
    obtain⟨cc,BK,rfl⟩:=mem_map.mp hx
    have:=(j5 BK).1
    omega
   rw[BE,take_length]at MJ
   refine⟨_,_,_,_,yR,rs,sb,gb,MF,GF,HI.up (by omega),MG,MH,fun g c hg zc hc=>?_,rfl⟩
   by_cases z:g=i
   ·subst z;exact MJ c hc zc
   ·exact MI g c (by omega) zc hc
  rintro j v σ Hb hv ⟨a8,a9,GC,yR,rs,sb,gb,MF,GF,HI,MG,MH,MI,MJ,rfl⟩
  obtain⟨cc,hcj,rfl⟩:∃ cc,(aU ps p)[j]? = some cc/\cV cc=v:=by
   rw[getElem?_map]at hv
   cases hx:(aU ps p)[j]? with
   | none=>rw[hx]at hv;cases hv
   | some cc=>rw[hx]at hv;exact⟨cc,rfl,Option.some.inj hv⟩
  obtain⟨hcl2,KG⟩:=j5 (mem_of_getElem? hcj)
  have KH:((aU ps p).map ud)[j]? = some (ud cc):=by rw[getElem?_map,hcj];rfl
  have hlp:=xP (oh ps p) KH
  have hls:=sZ KH
  have BX:yR.length=rs.length:=Paired.length GF
  have hrm:=HI.len
  refine⟨_,rfl,_,rfl,D,_,rfl, .inl (yC.of gb),cl,yR.length,rfl,by omega,fun d hd=>?_⟩
  refine⟨_,rfl,_,rfl,rfl,_,rfl,?_⟩
  rw[fK]
  by_cases QE:(p:Int)=(i:Int)
  ·rw[decide_eq_true QE]
   exact aH ⟨_,_,_,yR,rs,sb,gb,MF,GF,HI.up (by omega),MG,MH,MI,(fun c _ zc=>absurd (by omega) zc),rfl⟩
  rw[decide_eq_false QE]
  obtain⟨m,hm⟩:∃ m:Nat,d / 64=(m:Int):=⟨(d / 64).toNat,by have:=Int.ediv_nonneg hd (show (0:Int) <= 64 by decide);omega⟩
  refine aK ⟨_,rfl,_,rfl,_,rfl,_,rfl,_,rfl,_,rfl,_,rfl,_,_,rfl,rfl,⟨by decide,by decide⟩,?_⟩
  dsimp only
  rw[hm]
  refine⟨l,nu,la,yM,ps,nums,al,n,p,i,m,cc,rfl,hA.same sb,fun k hk=>?_,fun Wa us Hc u5 hWa gW K8 DA hrw=>?_⟩
  ·have:=KG k hk
   exact mem_range.mp (mem_filter.mp this).1
  have nW:Wa ≠ D:=Ne.symm (ai gb hWa)
  refine⟨_,rfl, .inl ⟨rfl,_,yC.of (u5 _ _ gb)⟩,_,rfl,_,rfl,_,rfl,_,rfl,by show 4 <= sizeLine;decide,fun tt DH=>?_⟩
  have u6:=u5.new (o := .tup [.int (p:Int), .int (i:Int),cV cc, .ref Wa]) DH
  have gT:(upd Hc tt (.tup [.int (p:Int), .int (i:Int),cV cc, .ref Wa])) tt=some (.tup [.int (p:Int), .int (i:Int),cV cc, .ref Wa]):=ad
  have Vh:(upd Hc tt (.tup [.int (p:Int), .int (i:Int),cV cc, .ref Wa])) Wa=some (.lst (bP us)):=by rw[af (ai gW DH)];exact gW
  generalize upd Hc tt (.tup [.int (p:Int), .int (i:Int),cV cc, .ref Wa])=Hf at u6 gT Vh ⊢
  have Vi:=u6 _ _ gb
  refine⟨D,yR,_,rfl,rfl,Vi,by rw[sizeLine_eq];omega,?_⟩
  have QF:dM n ps ⟨(p:Int),(i:Int),cc,us⟩ = true:=by
   unfold dM
   have ho:fM n ((p:Int),(i:Int))=true:=by
    unfold fM
    simp only[Bool.and_eq_true,decide_eq_true_eq,Bool.not_eq_true',decide_eq_false_iff_not]
    exact⟨⟨by omega,by omega⟩,⟨by omega,by omega⟩,QE⟩
   rw[ho,Bool.true_and]
   have hs:(us.all fun z=>decide (z ∈ fu Prod.fst ps (p:Int)))=true:=by
    rw[all_eq_true]
    exact fun z hz=>decide_eq_true (DA z hz)
   dsimp only
   rw[hs,Bool.and_true]
   cases cc with
   | none=>rfl
   | some k=>exact decide_eq_true (KG k rfl)
  have Vj:rP ⟨(p:Int),(i:Int),cc,us⟩ = (p * 100 + i) * 100 + ud cc:=by
   unfold rP
   show(((p:Int)).toNat * 100 + ((i:Int)).toNat) * 100 + ud cc=_
   rw[toNat_natCast,toNat_natCast]
  have hOn:=HI.snoc (r:=⟨(p:Int),(i:Int),cc,us⟩) (by rw[Vj];omega) QF (by show us.length <= 40;omega)
  refine⟨_,_,_,yR ++ [.ref tt],rs ++ [⟨(p:Int),(i:Int),cc,us⟩],fun b o e=>by rw[af (ai e hD)];exact u6 _ _ (sb _ _ e),ad,?_,?_,hOn.up (by rw[Vj,hls];omega),fun r hr=>?_,fun p' g c h1 h2 h3 h4=>(MH p' g c h1 h2 h3 h4).app _,fun g c h1 h2 h3=>(MI g c h1 h2 h3).app _,fun c hc zc=>?_,rfl⟩
  ·rw[af nC];exact u6 _ _ MF
  ·have hRf:=AY.snoc (r:=⟨(p:Int),(i:Int),cc,us⟩) ⟨tt,Wa,rfl,⟨gT,Vh⟩,nW⟩ (GF.same u6)
   exact AY.off Vi hRf
  ·rcases mem_append.mp hr with hr | hr
   ·exact MG r hr
   ·rw[mem_singleton.mp hr];exact hrw
  ·rw[take_succ,hcj,Option.toList_some]at hc
   rcases mem_append.mp hc with hc | hc
   ·exact(MJ c hc zc).app _
   ·rw[mem_singleton.mp hc]
    exact⟨_,mem_append_right _ mem_cons_self,rfl,rfl,rfl⟩
noncomputable def oU (a:YA)(ps:List (Int × Int)):Prop:=∀ p ∈ ps,∃ x y:Nat,p=((x:Int),(y:Int))/\x < a.n/\y < a.n/\x ≠ y/\a.wy x y none ≠ []
noncomputable def jG (K:Frag)(c:Cs)(TC:Addr)(J:TJ)(ys:Ys):Sp:=fun vs H Q _=>∃ (a:YA)(s:YS)(cs:Addr)(ns:List Int),vs=[.ref a.y, .int a.n, .ref cs]/\zx K ys H a s/\uf c TC J H a/\zC a s/\DS a s/\(∀ x y,x < a.n->y < a.n->a.wy x y none ≠ []->x ≠ y)/\H cs=some (.lst (ns.map V.int))/\cs ∉ a.four/\ns.length <= 10/\s.U.length <= 40/\s.done.length <= 9000 /\
 ∀ (H':Hp)(s':YS),yI [a.le,a.dn] H H'->zx K ys H' a s'->zC a s'->DS a s'->Cu a s s'->s'.U.length <= s.U.length + ns.length->s'.done.length <= s.done.length + ns.length->Q .yQ H'
abbrev Vk:List Str:=["_law_yard", "_law_places", "_law_cells", "_law_begins", "_law_place", "_law_cell", "_law_begin", "_law_goal"]
theorem Cd:ap Vk ["_law_yard", "_law_places", "_law_cells"] (ah fU):=L2.ze
theorem QG:zF Vk (ah fU) (tS (gc (nZ (gc (aF fU) 1)) 0)) ["_law_yard", "_law_place"] [0,4]:=L2.Ah
theorem QH:(["_law_goal", "_law_yard", "_law_place"]:List Str).Nodup:=by decide +kernel
theorem sg {c:Cs}{ys:Ys}{J:TJ}{TC f fw fp:Addr}{fd dw dp:FuncData}(F:yY K "_law_posts" "_law_posts" fU f fd)(T:dP mg)(Y:gE K ys)(W:Wy K TC fw dw J)(Gw:y9 P w K mg base aC 3 fw dw ["self", "place", "goal", "came"] (dD J))
  (mp:bM K ys.yB "post" fp) (bp:Binds K dp JO []) (Gp:y9 P w K mg base aC 4 fp dp JO (mS K c TC J ys)) :
  y9 P w K mg base aC 5 f fd ["_law_yard", "_law_places", "_law_cells"] (jG K c TC J ys):=by
 refine F.ok Cd (fun _ _ _ _ h=>?_) (fun _ _ _ s H _ Q E hr h=>?_)
 ·obtain⟨a,s,cs,ns,rfl,_⟩:=h
  rfl
 ·obtain⟨a,st,cs,ns,rfl,hY,hT,hJ,hW,QI,KI,QJ,UU,OH,hdl0,q⟩:=h
  have hu:=hr.units
  have G9:yK 3 _:=hr.mono (by decide)
  refine⟨_,ae (aE (i:=3) Cd.nd rfl (Or.inl rfl) (aR ac))
   (ae (bB PassesOwn.never rfl (aJ rfl T.range (aa (pv 1) ac)) (av (i:=4) Cd.nd rfl (Or.inr rfl))
    (ag (aE (i:=3) Cd.nd rfl (Or.inl rfl) (aD rZ (pv 3) (aQ (own:=["_law_goal"]) (capN:=["_law_yard", "_law_place"]) (cap:=[0,4]) QG rfl (aJ rfl T.range (aa (pv 1) ac))
     (fun C s' H' fp=>⟨av (i:=0) QH rfl (Or.inl rfl),cx (ax (show dQ _ (compareOp .NotEq) (IL K) from nG hu) (aG (show PE _ _ (kQ K (jC 1) "table") from am (pv 1) rfl) W.cl W.m Gw G9 W.b .nil ao (aa (pv 2) (aa (pv 0) (aa b8 ac)))) (aR ac) (aA _)),bj (aa (pv 2) (aa (pv 0) ac))⟩))))))
   (ag (bB PassesOwn.never rfl (aV (pv 2)) (av (i:=5) Cd.nd rfl (Or.inl rfl))
   (ag (aL (ax (rX hu) (pv 3) (aR ac) (aA _))
    (ae (fI (az yG (pv 3) (aD bG (aD cj (pv 5) aj) (aw aq rfl T.len PySem.boot_len (aa (pv 3) ac))) (fun _ _=>rfl)) (e9 rfl (aW (av (i:=6) Cd.nd rfl (Or.inl rfl)) (aW (av (i:=7) Cd.nd rfl (Or.inl rfl)) cQ))))
    (ag (aO (aG (pv 0) Y.cl mp Gp hr bp .nil ao (aa (pv 6) (aa (pv 7) (aa (aD ca aj (aD bG (pv 5) aj)) (aa (aD bG (aD cj (pv 5) aj) (aD jW aj aj)) ac)))))))) aB))))),?_⟩
  have Ek:=hT.FH
  obtain⟨BY,fst,Bs,zB,Au⟩:=hT.i
  refine⟨zero_le _,fun B0 Vl=>?_⟩
  have s0:=(y8.refl H).new (o := .lst []) Vl
  have g0:(upd H B0 (.lst [])) B0=some (.lst []):=ad
  generalize upd H B0 (.lst [])=H0 at s0 g0 ⊢
  refine⟨_,rfl,(a.n:Int),rfl,by omega,by omega,?_⟩
  rw[toNat_natCast]
  have fr4:∀ {b:Addr},H b=none->b ∉ a.four:=fun {b} hb z=>by obtain⟨xs,e⟩:=hY.Bp b z;rw[hb]at e;cases e
  refine b7 (n:=a.n) (fun i σ H2=>∃ (a4:Option V)(bg:Addr)(BB:List V)(bs:List (Int × Int)),y8 H H2/\H bg=none/\H2 bg=some (.lst BB)/\yU H2 BB bs/\oU a bs/\bs.length <= 12 * i/\σ=[some (.ref a.y),some (.int a.n),some (.ref cs),some (.ref bg),a4,none,none,none])
   ⟨none,B0,[],[],s0,Vl,g0, .nil,(fun p hp=>by cases hp),zero_le _,rfl⟩ ?_ ?_
  ·rintro i σ H2 hi ⟨a4,bg,BB,bs,s2,Vm,QK,KJ,QL,hbl,rfl⟩
   rw[zero_add]
   have Vn:BB.length=bs.length:=Paired.length KJ
   refine⟨_,rfl,_,rfl,(a.n:Int),rfl,by omega,by omega,?_⟩
   rw[toNat_natCast]
   refine bu a.n (by rw[sizeLine_eq];omega) (fun j acc H'=>y8 H2 H'/\∃ zs,yU H' acc zs/\oU a zs/\zs.length <= j) ⟨y8.refl _,[], .nil,(fun p hp=>by cases hp),zero_le _⟩ (fun j acc H' h=>by obtain⟨_,zs,hL,_,hl⟩:=h;rw[Paired.length hL];exact hl) (fun j acc H' hj h=>?_) (fun acc H' h=>?_)
   ·obtain⟨s3,zs,hL,hz,M6⟩:=h
    refine⟨hj,fun v H3 y=>?_⟩
    obtain⟨rfl,rfl⟩:=y
    rw[zero_add]
    have QM:=s2.trans s3
    refine⟨_,rfl,a.y,ys.yB,a.dy,_,_,rfl,QM _ _ hY.ins,Y.cl,Y.n1,rfl,a.tb,BY,fst,rfl,QM _ _ Bs,Au,_,rfl,_,rfl,a.tb,a.n,a.wy,i,j,none,rfl,W.zX _ _ _ _ _ hT.j (y8.yT QM),hi,hj,fun D H4 s4 hD gD=>⟨zero_le _,fun o7 GB=>?_⟩⟩
    have s5:=s4.new (o := .lst []) GB
    have Vo:(upd H4 o7 (.lst [])) D=some (.lst (nV (a.wy i j none))):=by rw[af (ai gD GB)];exact gD
    have g7:(upd H4 o7 (.lst [])) o7=some (.lst (([]:List Int).map V.int)):=ad
    generalize upd H4 o7 (.lst [])=H5 at s5 Vo g7 ⊢
    refine⟨D,o7,iz (a.wy i j none),[],rfl,rfl,by rw[← oY];exact yC.of Vo,yC.of g7,_,rfl,?_⟩
    by_cases hw:a.wy i j none=[]
    ·rw[decide_eq_true (show iz (a.wy i j none)=[] by rw[hw];rfl)]
     exact aH ⟨s3.trans s5,zs,yU.same s5 hL,hz,by omega⟩
    rw[decide_eq_false (show ¬ iz (a.wy i j none)=[] from fun z=>hw (by unfold iz at z;exact map_eq_nil_iff.mp z))]
    refine aK ⟨_,rfl,_,rfl,by show 2 <= sizeLine;decide,fun t ht=>?_⟩
    have s6:=s5.new (o := .tup [.int (i:Int), .int (j:Int)]) ht
    refine⟨s3.trans s6,zs ++ [((i:Int),(j:Int))],yU.snoc (p:=((i:Int),(j:Int))) ⟨t,rfl,ad⟩ (yU.same s6 hL),fun p hp=>?_,by rw[length_append,length_singleton];omega⟩
    rcases mem_append.mp hp with hp | hp
    ·exact hz p hp
    ·rw[mem_singleton.mp hp];exact⟨i,j,rfl,hi,hj,QI i j hi hj hw,hw⟩
   ·obtain⟨s3,zs,hL,hz,M6⟩:=h
    refine⟨Nat.le_refl _,fun o2 Aj=>?_⟩
    have u1:=s3.new (o := .lst acc) Aj
    have g2:(upd H' o2 (.lst acc)) o2=some (.lst acc):=ad
    have Ax:yU (upd H' o2 (.lst acc)) acc zs:=yU.same ((y8.refl H').new Aj) hL
    generalize upd H' o2 (.lst acc)=H5 at u1 g2 Ax ⊢
    have DT:acc.length=zs.length:=Paired.length hL
    refine⟨bg,o2,_,_,rfl,rfl,u1 _ _ QK,g2,by rw[sizeLine_eq];omega,fun C hC=>?_⟩
    have u2:=u1.new (o := .lst (BB ++ acc)) hC
    refine⟨_,C,BB ++ acc,bs ++ zs,s2.trans u2,(s2.trans u1).free hC,ad,?_,fun p hp=>?_,by rw[length_append];omega,rfl⟩
    ·exact Paired.app (yU.same ((y8.refl H5).new hC) Ax) (yU.same u2 KJ)
    ·rcases mem_append.mp hp with hp | hp
     ·exact QL p hp
     ·exact hz p hp
  rintro σ H1 ⟨a4,bg,BB,bs,s1,QN,QK,KJ,QL,hbl,rfl⟩
  have Vm:=fr4 QN
  have OS:uf c TC J H1 a:=zG.keep W hT (y8.yT s1)
  have zM:zx K ys H1 a st:=yH.same hY s1
  have KL:=s1 _ _ KI
  refine⟨_,rfl,cs,rfl,⟨_,yC.of KL⟩,?_⟩
  refine c4 (K:=K) (a:=cs) (xs:=ns.map V.int) (fun i σ H2=>∃ (a4 a5 a6 a7:Option V)(s2:YS),yI [a.le,a.dn] H1 H2/\H2 cs=some (.lst (ns.map V.int))/\H2 bg=some (.lst BB)/\zx K ys H2 a s2/\zC a s2/\DS a s2/\Cu a st s2/\s2.U.length <= st.U.length + i/\s2.done.length <= st.done.length + i/\σ=[some (.ref a.y),some (.int a.n),some (.ref cs),some (.ref bg),a4,a5,a6,a7])
   ⟨_,none,none,none,st,y8.zg (y8.refl H1),KL,QK,zM,hJ,hW, .nil,by omega,by omega,rfl⟩ (fun i σ H2 _ yD=>by obtain⟨_,_,_,_,_,_,g,_⟩:=yD;exact yC.of g) ?_ ?_
  rotate_left
  ·rintro σ H2 ⟨a4,a5,a6,a7,s2,o2,_,_,Av,MK,ML,Ap,h1,h2,rfl⟩
   rw[length_map]at h1 h2
   exact q H2 s2 ((y8.zg s1).trans o2) Av MK ML Ap h1 h2
  rintro i v σ H2 hv ⟨a4,a5,a6,a7,s2,o2,g2,KN,Av,MK,ML,Ap,h1,h2,rfl⟩
  have hi:i < ns.length:=by have:=(gQ0 hv);rw[length_map]at this;exact this
  obtain⟨d,rfl⟩:∃ d,v=V.int d:=by
   rw[getElem?_map,getElem?_eq_getElem hi]at hv
   exact⟨_,(Option.some.inj hv).symm⟩
  have KO:∀ b ∈ [a.le,a.dn],∃ xs,H1 b=some (.lst xs):=fun b hb=>by
   simp only[mem_cons,not_mem_nil,or_false]at hb
   rcases hb with rfl | rfl
   ·exact zM.Bp _ (by simp)
   ·exact zM.Bp _ (by simp)
  have hT2:uf c TC J H2 a:=zG.keep W OS (yI.yT KO o2)
  have QO:yU H2 BB bs:=(yI.yT KO o2).C7 KJ
  have Vn:BB.length=bs.length:=Paired.length KJ
  have in4:∀ z:Addr,z ∉ a.four->z ∉ [a.le,a.dn]:=fun z hz h=>hz (by simp only[mem_cons,not_mem_nil,or_false]at h ⊢;rcases h with h | h<;>simp[h])
  refine⟨_,rfl,zero_le _,fun o7 GB=>?_⟩
  have s4:=(y8.refl H2).new (o := .lst []) GB
  have g7:(upd H2 o7 (.lst [])) o7=some (.lst []):=ad
  generalize upd H2 o7 (.lst [])=H4 at s4 g7 ⊢
  have JR:=yH.same Av s4
  have o4:yI [a.le,a.dn] H1 H4:=o2.trans (y8.zg s4)
  have KP:=yU.same s4 QO
  refine neN (f:=rW) (l:=bs) (.lst (yC.of (s4 _ _ KN)) (tK KP)) (.lst (yC.of g7) .nil) (pG _) ⟨_,rfl,?_⟩
  cases CF:bs.isEmpty with
  | true=>exact aH ⟨_,_,_,_,s2,o4,s4 _ _ g2,s4 _ _ KN,JR,MK,ML,Ap,by omega,by omega,rfl⟩
  | false =>
  have Ex:0 < BB.length:=by
   rw[Vn]
   cases bs with
   | nil=>cases CF
   | cons _ _=>exact succ_pos _
  have np:(0:Int) < ((BB.length:Nat):Int):=by omega
  have z1:=emod_nonneg (d / 4) (show((BB.length:Nat):Int) ≠ 0 by omega)
  have z2:=emod_lt_of_pos (d / 4) np
  obtain⟨k,hk,QP⟩:∃ k:Nat,d / 4 % ((BB.length:Nat):Int)=(k:Int)/\k < BB.length:=⟨(d / 4 % ((BB.length:Nat):Int)).toNat,by omega,by omega⟩
  have E5:=getElem?_eq_getElem QP
  obtain⟨pr,hpr,pt,QQ,B8⟩:=Paired.at KP E5
  rw[QQ]at E5
  obtain⟨a',b',rfl,Fq,Vp,FR,hw⟩:=QL pr (mem_of_getElem? hpr)
  refine aK ⟨_,rfl,_,rfl,_,_,rfl,rfl,⟨by decide,by decide⟩,_,rfl,bg,_,rfl, .inl (yC.of (s4 _ _ KN)),_,_,rfl,rfl,np,bg,BB,(k:Int), .ref pt,rfl,congrArg V.int hk,yC.of (s4 _ _ KN),ak E5,pt,_,rfl,yN.of B8,rfl,_,_,rfl,_,_,rfl,rfl,?_⟩
  refine⟨_,rfl,a.y,a.dy,_,rfl,JR.ins,rfl,_,rfl,_,rfl,_,rfl,_,_,rfl,rfl,(by show (0:Int) < 4;decide),_,_,rfl,rfl,_,rfl,_,_,rfl,rfl,⟨by decide,by decide⟩,_,_,rfl,rfl,⟨by decide,by decide,by decide⟩,_,_,rfl,rfl,(by show (0:Int) < 10 ^ (60:Int).toNat;decide +kernel),?_⟩
  have w1:=emod_nonneg (d / 4) (show(10 ^ (60:Int).toNat:Int) ≠ 0 by decide +kernel)
  have w2:=emod_lt_of_pos (d / 4) (show (0:Int) < 10 ^ (60:Int).toNat by decide +kernel)
  have l1:=emod_nonneg d (show (4:Int) ≠ 0 by decide)
  have l2:=emod_lt_of_pos d (show (0:Int) < 4 by decide)
  dsimp only
  generalize d / 4 % 10 ^ (60:Int).toNat=wd at w1 w2 ⊢
  have hwd:Ht (.int wd)=true:=by
   unfold Ht
   exact decide_eq_true (by rw[if_neg (by omega)];exact w2)
  obtain⟨len,hlen,Dk⟩:∃ len:Int,1 + d % 4=len/\1 <= len/\len <= 4:=⟨_,rfl,by omega,by omega⟩
  rw[hlen]
  have gd:=pN (n:=a.n) (wy:=a.wy) (m:=s2.U.length) Fq Vp ⟨Dk.1,by omega⟩ hwd FR hw (by omega)
  have Jm:uf c TC J H4 a:=zG.keep W hT2 (y8.yT s4)
  have F6:s2.done.length <= 10000:=by omega
  refine⟨a.y,a.dy,a.tb,a.ro,a.la,a.le,a.li,a.dn,a.lx,a.zq,a.lt,a.n,a.yO,a.ps,a.wy,s2, .int a', .int b', .int len, .int wd,rfl,JR,Jm, .int _, .int _, .int _, .int _,by omega,F6,(fun h=>by rw[gd]at h;cases h),(fun h=>by rw[gd]at h;cases h),(fun h=>by rw[gd]at h;cases h),(fun h=>by rw[gd]at h;cases h),(fun h=>by rw[gd]at h;cases h),fun _ H5 o5 Hx=>?_⟩
  refine⟨_,_,_,_,cP s2 a' b' len wd,o4.trans o5,o5 _ _ (in4 _ QJ) (s4 _ _ g2),o5 _ _ (in4 _ Vm) (s4 _ _ KN),Hx,MK.post Fq Vp ⟨by omega,by omega⟩ (by omega),ML.post hw, .snoc Ap (x:=a') (y:=b') (l:=len) (u:=wd) ⟨by omega,by omega⟩,?_,?_,rfl⟩
  ·show(s2.U ++ [_]).length <= _
   rw[length_append,length_singleton];omega
  ·show(s2.done ++ [_]).length <= _
   rw[length_append,length_singleton];omega
end K90
namespace L2
open PySem PySem.Spec PyProof.Rows
theorem y9.ex {P:Program}{w:World}{K:Frag}{mg:Str->Option Value}{base:Heap}{CX:mE}{k:Nat}{f:Addr}{fd:FuncData}{ps:List Str} {ι:Type} {sp:ι->Sp} (h:∀ i,y9 P w K mg base CX k f fd ps (sp i)):y9 P w K mg base CX k f fd ps (fun vs H Q E=>∃ i,sp i vs H Q E) :=
 ⟨fun vs H Q E yD=>by obtain⟨i,q⟩:=yD;exact(h i).len vs H Q E q,fun A outer s H args us vs Q E hr he hb hv yD=>by obtain⟨i,hs⟩:=yD;exact(h i).run A outer s H args us vs Q E hr he hb hv hs⟩
end L2
namespace K90
open PySem L2
variable {P:Program}{w:World}{K:Frag}{mg:Str->Option Value}{base:Heap}
structure Rv (K:Frag)(c:Cs)(TC:Addr)(J:TJ)(ys:Ys)(md:Addr)(H0 H:Hp)(a:YA)(s:YS)(N:Nat->Nat->Nat)(nums:List Int)(S:List Nat)(rs:List Int):Prop where
 e:y8 H0 H
 I:D1 K c TC J (yx ys [md]) H a s
 J:zC a s
 C:Cv a s N
 R:Cb nums S s
 W:DS a s
 ro:s.rooms=rs.map V.int
 l4:∀ t ∈ s.U,0 <= t.len/\t.len <= 4
 md:∃ za,H md=some (.lst za)/\za.length + s.U.length=s.done.length
structure Rc (md:Addr)(H0:Hp)(a:YA)(nums:List Int)(S:List Nat)(rs:List Int):Prop where
 P:yz a.n a.ps a.wy nums S
 fr:∀ z ∈ md :: a.four,H0 z=none
 n4:md ∉ a.four
 rr:∀ r ∈ rs,1 <= r/\r <= 60
theorem Rv.same {K:Frag}{c:Cs}{TC fw md:Addr}{dw:FuncData}{J:TJ}{ys:Ys}{H0 H H2:Hp}{a:YA}{s:YS}{N:Nat->Nat->Nat}{nums:List Int}{S:List Nat}{rs:List Int}(W:Wy K TC fw dw J)(h:Rv K c TC J ys md H0 H a s N nums S rs)(e:y8 H H2):Rv K c TC J ys md H0 H2 a s N nums S rs :=
 ⟨h.e.trans e,h.I.same W e,h.J,h.C,h.R,h.W,h.ro,h.l4,let ⟨za,g,l⟩:=h.md; ⟨za,e _ _ g,l⟩⟩
theorem Rv.room {K:Frag}{c:Cs}{TC md:Addr}{J:TJ}{ys:Ys}{H0 H:Hp}{a:YA}{s:YS}{N:Nat->Nat->Nat}{nums:List Int}{S:List Nat}{rs:List Int}(h:Rv K c TC J ys md H0 H a s N nums S rs){k:Nat}{ln:bC}(hk:s.lanes[k]? = some ln):rs[k]? = some (ln.r + ln.b + ln.qs.length):=by
 have h1:=(h.C.G.room k ln hk).1
 rw[h.ro,getElem?_map]at h1
 cases hx:rs[k]? with
 | none=>rw[hx]at h1;cases h1
 | some r=>rw[hx]at h1;have h1:=Option.some.inj h1;injection h1 with h1;rw[h1]
theorem Rv.never {K:Frag}{c:Cs}{TC md:Addr}{J:TJ}{ys:Ys}{H0 H:Hp}{a:YA}{s:YS}{N:Nat->Nat->Nat}{nums:List Int}{S:List Nat}{rs:List Int}(h:Rv K c TC J ys md H0 H a s N nums S rs)(r:Rc md H0 a nums S rs)(hm:bX a s=[]):kE s=true :=
 K90.never r.P h.I.O h.R h.C.G h.J (qK hm) (fun k ln hk=>(r.rr _ (mem_of_getElem? (h.room hk))).1) h.W h.I.T.ok
theorem Rv.move {K:Frag}{c:Cs}{TC fw md:Addr}{dw:FuncData}{J:TJ}{ys:Ys}{H0 H H2:Hp}{a:YA}{s s':YS}{N:Nat->Nat->Nat}{nums:List Int}{S:List Nat}{rs:List Int}{m:Mv}{v:V}{za:List V}(W:Wy K TC fw dw J)(h:Rv K c TC J ys md H0 H a s N nums S rs)(r:Rc md H0 a nums S rs)(HJ:H md=some (.lst za))(Bc:AF a s m s')(o:yI a.four H H2)(hY:zx K (yx ys [md]) H2 a { s' with done:=s.done ++ [dU m] }) :
  H2 md=some (.lst za)/\∃ N',Rv K c TC J ys md H0 (upd H2 md (.lst (za ++ [v]))) a { s' with done:=s.done ++ [dU m] } N' nums S rs:=by
 have n4:=r.n4
 have g2:=o _ _ n4 HJ
 obtain⟨N',MD⟩:=h.C.step h.J Bc
 have Vq:zC a { s' with done:=s.done ++ [dU m] }:=(h.J.step Bc).done _
 have k1:=yI.yT (fun z hz=>h.I.Y.Bp z hz) o
 have o2:yI [md] H2 (upd H2 md (.lst (za ++ [v]))):=fun b u hb e=>by rw[af (fun z=>hb (by rw[z];exact mem_cons_self))];exact e
 have k2:=yI.yT (fun z hz=>by rw[mem_singleton.mp hz];exact⟨_,g2⟩) o2
 have Av:zx K (yx ys [md]) (upd H2 md (.lst (za ++ [v]))) a { s' with done:=s.done ++ [dU m] }:=zx.PN hY o2 (fun b hb=>hb) (fun b hb z=>n4 (by rw[← mem_singleton.mp z];exact hb)) fun b hb=>⟨za ++ [v],by rw[mem_singleton.mp hb];exact ad⟩
 obtain⟨mvs',e1,e2⟩:=h.md
 rw[HJ]at e1
 cases e1
 refine⟨g2,N',⟨?_,⟨Av,zG.keep W (zG.keep W h.I.T k1) k2,h.I.O,Vq.ok⟩,Vq,MD,(h.R.step r.P h.I.O h.J Bc).dn _,fun p hp=>h.W p (Bc.sgs ▸ hp),Bc.rooms.trans h.ro,fun t ht=>?_,⟨_,ad,?_⟩⟩⟩
 ·exact kY h.e ((o.mono fun b hb=>mem_cons_of_mem _ hb).trans (o2.mono fun b hb=>by rw[mem_singleton.mp hb];exact mem_cons_self)) r.fr
 ·have:t.len ∈ s.U.map (·.len):=by rw[← Bc.Ks];exact mem_map_of_mem ht
  obtain⟨t',G6,e⟩:=mem_map.mp this
  have:=h.l4 t' G6
  have e:t'.len=t.len:=e
  omega
 ·show(za ++ [v]).length + s'.U.length=(s.done ++ [dU m]).length
  rw[Bc.len,length_append,length_append,length_singleton,length_singleton];omega
noncomputable def rj (K:Frag)(c:Cs)(TC:Addr)(J:TJ)(ys:Ys):Sp:=fun vs H Q _=>∃ (a:YA)(s:YS)(N:Nat->Nat->Nat)(nums:List Int)(S:List Nat)(rs ns:List Int)(md sc:Addr)(H0:Hp)(most:Nat),vs=[.ref a.y, .ref sc, .ref md, .int (most:Int)]/\Rv K c TC J ys md H0 H a s N nums S rs/\Rc md H0 a nums S rs/\yC K H0 sc (ns.map V.int)/\most <= 10000/\s.done.length <= 10000 /\
 ∀ (H':Hp)(s':YS)(N':Nat->Nat->Nat),Rv K c TC J ys md H0 H' a s' N' nums S rs->s'.U.map (·.len)=s.U.map (·.len)->s'.done.length <= s.done.length + most->(bX a s' = []∨most + s'.U.length <= s'.done.length)->Q (.bl true) H'
abbrev NGo:List Str:=["_law_yard", "_law_script", "_law_made_here", "_law_most", "_law_moves", "_law_cell", "_law_move"]
theorem E7:ap NGo ["_law_yard", "_law_script", "_law_made_here", "_law_most"] (ah rK):=L2.ze
theorem vg {c:Cs}{ys:Ys}{J:TJ}{TC f fw fm Vr fc fx fe:Addr}{fd dw dm dd dc dx de:FuncData}(F:yY K "_law_goes_on" "_law_goes_on" rK f fd)(T:dP mg)(Y:gE K ys)(W:Wy K TC fw dw J)
  (mm:bM K ys.yB "moves" fm) (bm:Binds K dm ["self"] []) (Gm:∀ ex,y9 P w K mg base aC 7 fm dm ["self"] (jI K c TC J (yx ys ex)))
  (md:bM K ys.yB "do" Vr) (bd:Binds K dd ["self", "move"] []) (Gd:∀ ex,y9 P w K mg base aC 8 Vr dd ["self", "move"] (wG K c TC J (yx ys ex)))
  (me:bM K ys.yB "ended" fe) (be:Binds K de ["self"] []) (Ge:∀ ex,y9 P w K mg base aC 1 fe de ["self"] (i3 K (yx ys ex)))
  (mc:mg "_law_cell_at" = some (.ref fc)) (kc:keepIn K (.ref fc)=true) (bc:Binds K dc ["_law_script", "_law_k"] []) (Gc:y9 P w K mg base aC 1 fc dc ["_law_script", "_law_k"] (mX K))
  (mx:mg "_law_mixed" = some (.ref fx)) (kx:keepIn K (.ref fx)=true) (bx:Binds K dx ["_law_cell", "_law_k"] []) (Gx:y9 P w K mg base aC 1 fx dx ["_law_cell", "_law_k"] jt) :
  y9 P w K mg base aC 9 f fd ["_law_yard", "_law_script", "_law_made_here", "_law_most"] (rj K c TC J ys):=by
 refine F.ok E7 (fun _ _ _ _ h=>?_) (fun _ _ _ s H _ Q E hr h=>?_)
 ·obtain⟨a,s,N,nums,S,rs,ns,md,sc,H0,most,rfl,_⟩:=h
  rfl
 ·obtain⟨a,st,N,nums,S,rs,ns,la,sc,H0,most,rfl,hR,hc,hS,Vs,AO,q⟩:=h
  have hu:=hr.units
  have zp:yK 1 _:=hr.mono (by decide)
  have MN:yK 7 _:=hr.mono (by decide)
  have hr8:yK 8 _:=hr.mono (by decide)
  have GM:=y9.ex Gm
  have GD:=y9.ex Gd
  have GE:=y9.ex Ge
  refine⟨_,ae (ly PassesOwn.never (ax l7 (aw aq rfl T.len PySem.boot_len (aa (pv 2) ac)) (pv 3) (aA _))
    (ae (aE (i:=4) E7.nd rfl (Or.inl rfl) (bD (pv 0) Y.cl mm GM MN bm .nil ao))
    (ae (aL (ax (rY hu) (pv 4) (aR ac) (aA _)) (ag (ar (bD (pv 0) Y.cl me GE zp be .nil ao))) aB)
    (ae (aE (i:=5) E7.nd rfl (Or.inl rfl) (au Gc zp rfl mc kc bc .nil ao (aa (pv 1) (aa (aD bG (aw aq rfl T.len PySem.boot_len (aa (pv 2) ac)) (aw (qt rfl) rfl T.max PyProof.Rows.boot_max (aa aj (aa (aw aq rfl T.len PySem.boot_len (aa (pv 1) ac)) ac)))) ac))))
    (ae (aE (i:=6) E7.nd rfl (Or.inl rfl) (az yG (pv 4) (aD bG (au Gx zp rfl mx kx bx .nil ao (aa (pv 5) (aa (aw aq rfl T.len PySem.boot_len (aa (pv 2) ac)) ac))) (aw aq rfl T.len PySem.boot_len (aa (pv 4) ac))) (fun _ _=>rfl)))
    (ae (aO (aG (pv 0) Y.cl md GD hr8 bd .nil ao (aa (pv 6) ac)))
    (ag (aO (cz plainAttrs_list PySem.F.slot_list_append PySem.F.type_list_append bQ (pv 2) (aa (pv 6) ac))))))))))
   (ag (ar fq)),?_⟩
  refine qy (fun σ H2=>∃ (a4 a5 a6:Option V)(s2:YS)(N2:Nat->Nat->Nat),Rv K c TC J ys la H0 H2 a s2 N2 nums S rs/\s2.U.map (·.len)=st.U.map (·.len)/\st.done.length <= s2.done.length/\(s2.done.length=st.done.length∨s2.done.length <= most + s2.U.length)/\σ=[some (.ref a.y),some (.ref sc),some (.ref la),some (.int (most:Int)),a4,a5,a6])
   (fun _ H2=>match H2 la with | some (.lst za)=>most - za.length | _=>0) ⟨none,none,none,st,N,hR,rfl,Nat.le_refl _, .inl rfl,rfl⟩ ?_ ?_
  ·rintro σ H2 ⟨a4,a5,a6,s2,N2,CQ,CG,hd2,hd3,rfl⟩
   obtain⟨GG,E8,Kc⟩:=CQ.md
   have zV:s2.U.length=st.U.length:=by have:=congrArg List.length CG;rw[length_map,length_map]at this;exact this
   have QR:s2.done.length <= st.done.length + most:=by
    obtain⟨_,_,h0⟩:=hR.md
    omega
   refine⟨_,rfl,la,_,rfl, .inl (yC.of E8),_,rfl,_,_,rfl,rfl,_,rfl,?_⟩
   by_cases zb:((GG.length:Nat):Int) < (most:Int)
   ·rw[decide_eq_true zb]
    have h60:=CQ.J.zD
    refine aK ⟨_,rfl,a.y,a.dy,_,rfl,CQ.I.Y.ins,rfl,[la],a,s2,rfl,CQ.I,fun Dm za Hb sb hDm gDm CH=>?_⟩
    have GF:=CQ.same W sb
    refine⟨_,rfl,zero_le _,fun o1 EJ=>?_⟩
    have u1:=(y8.refl Hb).new (o := .lst []) EJ
    have HH:(upd Hb o1 (.lst [])) o1=some (.lst []):=ad
    generalize upd Hb o1 (.lst [])=Hc at u1 HH ⊢
    have CS:=GF.same W u1
    have QS:=u1 _ _ gDm
    have QT:=u1 _ _ (sb _ _ E8)
    have QU:=Paired.mono (fun _ _ z=>Ar.keep (y8.yT u1) z) CH
    refine eqN (f:=uc) (l:=bX a s2) (.lst (yC.of QS) (kF QU)) (.lst (yC.of HH) .nil) (uq _) ⟨_,rfl,?_⟩
    cases QV:(bX a s2).isEmpty with
    | true =>
     have MO:bX a s2=[]:=List.isEmpty_iff.mp QV
     refine aK ⟨_,rfl,a.y,a.dy,_,rfl,CS.I.Y.ins,rfl,[la],a.y,a.dy,a.tb,a.ro,a.la,a.le,a.li,a.dn,s2,rfl,CS.I.Y,by omega,by rw[CS.J.lies];have:=CS.I.T.FH;omega,fun Hd sd=>?_⟩
     rw[CS.never hc MO]
     exact q Hd s2 N2 (CS.same W sd) CG QR (.inl MO)
    | false =>
    have QW:za.length=(bX a s2).length:=by rw[Paired.length QU,length_map]
    have Ex:0 < za.length:=by
     rw[QW]
     cases hx:bX a s2 with
     | nil=>rw[hx]at QV;cases QV
     | cons _ _=>exact succ_pos _
    have np:(0:Int) < ((za.length:Nat):Int):=by omega
    obtain⟨L,hL,Dv⟩:∃ L:Nat,(if ((ns.length:Nat):Int) > 1 then ((ns.length:Nat):Int) else 1)=(L:Int)/\0 < L:=by
     by_cases h:((ns.length:Nat):Int) > 1
     ·exact⟨ns.length,if_pos h,by omega⟩
     ·exact⟨1,if_neg h,by omega⟩
    refine aH ⟨_,rfl,_,rfl,la,_,rfl, .inl (yC.of QT),_,rfl,sc,_,rfl, .inl (CS.e.seq hS),_,_,rfl,?_⟩
    rw[length_map,hL]
    refine⟨_,_,rfl,rfl,by show (0:Int) < (L:Int);omega,sc,ns,GG.length % L,?_,CS.e.seq hS,fun d5=>?_⟩
    ·show [V.ref sc,V.int (((GG.length:Nat):Int) % (L:Int))] ++ []=_
     rw[← Int.natCast_emod];rfl
    refine⟨_,rfl,_,rfl,_,rfl,la,_,rfl, .inl (yC.of QT),d5,GG.length,rfl,by omega,fun dd QR=>?_⟩
    have z1:=emod_nonneg dd (show((za.length:Nat):Int) ≠ 0 by omega)
    have z2:=emod_lt_of_pos dd np
    obtain⟨k,hk,QP⟩:∃ k:Nat,dd % ((za.length:Nat):Int)=(k:Int)/\k < za.length:=⟨(dd % ((za.length:Nat):Int)).toNat,by omega,by omega⟩
    have E5:=getElem?_eq_getElem QP
    obtain⟨mv,KQ,p,QQ,hp⟩:=Paired.at QU E5
    obtain⟨m,hmm,rfl⟩:∃ m,m ∈ bX a s2/\dU m=mv:=by
     rw[getElem?_map]at KQ
     cases hx:(bX a s2)[k]? with
     | none=>rw[hx]at KQ;cases KQ
     | some m=>rw[hx]at KQ;exact⟨m,mem_of_getElem? hx,Option.some.inj KQ⟩
    rw[QQ]at E5
    refine⟨_,rfl,Dm,_,rfl, .inl (yC.of QS),_,_,rfl,rfl,np,Dm,za,(k:Int), .ref p,rfl,congrArg V.int hk,yC.of QS,ak E5,?_⟩
    refine⟨_,rfl,a.y,a.dy,_,rfl,CS.I.Y.ins,rfl,_,rfl,[la],a,s2,p,m,rfl,CS.I,hp,hmm,CS.J.sml (by omega),fun Hf s' Bc of' hYf=>?_⟩
    obtain⟨g2,N',hR'⟩:=CS.move (v := .ref p) W hc QT Bc of' hYf
    refine⟨_,rfl, .inl ⟨rfl,_,yC.of g2⟩,_,rfl,la,GG,_,rfl,rfl,g2,by rw[sizeLine_eq];omega,⟨_,_,_,_,N',hR',Bc.Ks.trans CG,?_, .inr ?_,rfl⟩,?_⟩
    ·show st.done.length <= (s2.done ++ [_]).length
     rw[length_append];omega
    ·show(s2.done ++ [_]).length <= most + s'.U.length
     rw[length_append,length_singleton,Bc.len];omega
    ·rw[E8,ad]
     show most - (GG ++ [_]).length < most - GG.length
     rw[length_append,length_singleton];omega
   ·rw[decide_eq_false zb]
    exact aH (q H2 s2 N2 CQ CG QR (.inr (by omega)))
  ·intro σ H1 Q1 Q2 hm h
   obtain⟨x,e1,p,ys',e2,e3,y,e4,i,j,e5,e6,b,e7,h⟩:=h
   exact⟨x,e1,p,ys',e2,e3,y,e4,i,j,e5,e6,b,e7,hm _ _ h⟩
theorem m8:∀ {l:List aS},(∀ t ∈ l,t.gone <= t.len)->(l.map (·.gone)).sum=(l.map (·.len)).sum->∀ t ∈ l,t.gone=t.len
 | [],_,_,t,ht=>by cases ht
 | x :: l,h,e,t,ht=>by
  have h1:=h x mem_cons_self
  have h2:=jE fun y hy=>h y (mem_cons_of_mem _ hy)
  rw[map_cons,map_cons,sum_cons,sum_cons]at e
  rcases mem_cons.mp ht with rfl | ht
  ·omega
  ·exact m8 (fun y hy=>h y (mem_cons_of_mem _ hy)) (by omega) t ht
structure Fin (a:YA)(s:YS)(rs:List Int):Prop where
 heap:∀ (m:Nat)(t:aS),s.U[m]? = some t->∃ (p n:Nat)(qs:List (Int × Int)),t.goal=(p:Int)/\t.len=(n:Int)/\n <= 60/\s.lies[p]? = some qs/\qs.length <= 3600/\cnt m qs=fW 0 n
 sum:(s.U.map (·.len)).sum=(s.lies.map fun q=>(q.length:Int)).sum
 fin:kE s=true
 yW:∀ (k:Nat)(r:Int),rs[k]? = some r->s.lanes[k]? = some ⟨r,0,none,[]⟩
 len:rs.length=a.ps.length
theorem yg {K:Frag}{c:Cs}{TC md:Addr}{J:TJ}{ys:Ys}{H0 H:Hp}{a:YA}{s:YS}{N:Nat->Nat->Nat}{nums:List Int}{S:List Nat}{rs:List Int}(h:Rv K c TC J ys md H0 H a s N nums S rs)(r:Rc md H0 a nums S rs)(hl:rs.length=a.ps.length)(hm:bX a s=[]):Fin a s rs:=by
 have he:=h.never r hm
 have Z:=qK hm
 have h0:=qj h.J he
 have hs:(s.U.map (·.len)).sum=(s.lies.map fun q=>(q.length:Int)).sum:=of_decide_eq_true he
 have hr:∀ (k:Nat)(ln:bC),s.lanes[k]? = some ln->1 <= ln.r + ln.b + ln.qs.length:=fun k ln hk=>(r.rr _ (mem_of_getElem? (h.room hk))).1
 have hg:∀ t ∈ s.U,t.gone=t.len:=by
  refine m8 (fun t ht=>?_) ?_
  ·obtain⟨m,hm⟩:=List.getElem?_of_mem ht
   exact(h.J.Ai m t hm).2.1
  ·have h1:fO s=0:=qJ _ fun k ln hk=>by rw[h0 k ln hk];rfl
   have h3:=h.J.sum
   have h3:((fO s:Nat):Int) + (eX s:Nat)=(s.U.map (·.gone)).sum:=h3
   rw[hs,fP]
   have h4:(eX s:Nat)=(s.lies.map fun q=>q.length).sum:=rfl
   omega
 refine⟨fun m t ht=>?_,hs,he,fun k r' hk=>?_,hl⟩
 ·obtain⟨x,y,ex,ey,hx,hy⟩:=h.J.lets m t ht
  have hgl:=h.J.Ai m t ht
  have hq:=getElem?_eq_getElem (show y < s.lies.length by rw[h.J.lies];exact hy)
  generalize s.lies[y]'(by rw[h.J.lies];exact hy)=qs at hq
  have hN:∀ i,i <= t.way.length->N m i=N m 0:=fun i=>by
   induction i with
   | zero=>intro _;rfl
   | succ i ih =>
    intro hi
    have Hl:i < t.way.length:=by omega
    have d1:=h.C.G.dn m t ht i Hl
    have hw:=getElem?_eq_getElem Hl
    have BD:=(h.J.zu m t ht).1 _ (getElem_mem Hl)
    have Bk:=getElem?_eq_getElem (show t.way[i] < s.lanes.length by rw[h.J.lanes];exact BD)
    have e1:=h.C.G.q m t ht i _ _ hw Bk
    rw[h0 _ _ Bk]at e1
    have e2:(fW (N m (i + 1) + zr m (i + 1)) (N m i)).length=0:=by rw[← e1];rfl
    rw[uB]at e2
    have:=ih (by omega)
    have z0:zr m (i + 1)=0:=rfl
    omega
  have M0:qs.length <= 3600:=by
   have e1:=eC (fun q:List (Int × Int)=>q.length) hq
   have e2:=h.J.Fm.2
   have e1:qs.length <= eX s:=e1
   omega
  have FC:=hg t (mem_of_getElem? ht)
  have g0:((N m 0 + 0:Nat):Int)=t.gone:=h.C.G.g0 m t ht
  refine⟨y,N m 0,qs,ey,by omega,by omega,hq,M0,?_⟩
  rw[h.C.G.zZ m t ht y qs hq,if_pos ey.symm,hN _ (Nat.le_refl _)]
 ·have zK:k < s.lanes.length:=by rw[h.J.lanes,← hl];exact(gQ0 hk)
  have yX:=getElem?_eq_getElem zK
  generalize s.lanes[k]=ln at yX
  have e1:=h.room yX
  rw[hk]at e1
  have e2:r' = ln.r + ln.b + ln.qs.length:=Option.some.inj e1
  clear e1
  have q0:=h0 k ln yX
  have b0:=Z.b0 k ln yX
  have b1:=(h.C.G.room k ln yX).2.2
  have f0:=Z.free h.C.G h.J hr yX q0
  rw[yX]
  obtain⟨lr,lb,lh,lq⟩:=ln
  dsimp only at q0 b0 b1 f0 e2
  subst q0 f0
  have hb:lb=0:=by omega
  subst hb
  rw[show r' = lr by rw[e2];simp]
noncomputable def kW (K:Frag)(ys:Ys):Sp:=fun vs H Q _=>∃ (a:YA)(s:YS)(ro:Addr)(rs:List Int),vs=[.ref a.y, .int (a.ps.length:Nat), .int a.n, .ref ro]/\zx K ys H a s/\zC a s/\a.n <= 12/\Fin a s rs/\H ro=some (.lst (rs.map V.int))/\∀ H',Q (.bl true) H'
noncomputable def GH (H:Hp)(v:V)(qs:List (Int × Int)):Prop:=∃ D yS,v = .ref D/\H D=some (.lst yS)/\yU H yS qs
noncomputable def DB (H:Hp)(v:V)(r:Int):Prop:=∃ t ql,v = .ref t/\H t=some (.tup [.int r, .int 0, .yQ, .ref ql])/\H ql=some (.lst [])
theorem GH.same {H H':Hp}(s:y8 H H')(v:V)(qs:List (Int × Int)):GH H v qs->GH H' v qs:=fun yD=>by obtain⟨D,yS,e,g,l⟩:=yD;exact⟨D,yS,e,s _ _ g,yU.same s l⟩
theorem DB.same {H H':Hp}(s:y8 H H')(v:V)(r:Int):DB H v r->DB H' v r:=fun yD=>by obtain⟨t,ql,e,g,l⟩:=yD;exact⟨t,ql,e,s _ _ g,s _ _ l⟩
noncomputable def MP (r:Int):PyData := .tuple [.int r, .int 0, .none, .list []]
theorem p6 {K:Frag}{H:Hp}:∀ {vs:List V}{rs:List Int},Paired (DB H) vs rs->jh K H vs (rs.map MP):=fun yD=>by
 induction yD with
 | nil=>exact .nil
 | cons zz r ih=>obtain⟨t,ql,e,g,l⟩:=zz;exact .cons (e ▸ .tup (yN.of g) (.cons (.int _) (.cons (.int _) (.cons .yQ (.cons (.lst (yC.of l) .nil) .nil))))) ih
theorem mY (rs:List Int):AN (.list (rs.map MP)) 64:=(dY (m:=2) fun z hz=>by
 obtain⟨r,_,rfl⟩:=mem_map.mp hz
 refine gH (m:=1) fun y hy=>?_
 simp only[mem_cons,not_mem_nil,or_false]at hy
 rcases hy with rfl | rfl | rfl | rfl
 ·exact(c7 _).le (by decide)
 ·exact(c7 _).le (by decide)
 ·exact Dg.le (by decide)
 ·exact dY (m:=0) fun y hy=>by cases hy).le (by decide)
abbrev y1:List Str:=["_law_yard", "_law_lanes_here", "_law_places", "_law_rooms", "_law_heaps", "_law_number", "_law_begin", "_law_goal", "_law_length", "_law_word", "_law_total"]
noncomputable def vm:Scope:=zQ0
noncomputable def yd (s:Stmt):Scope:=match s with
 | .If (.Compare (.ListComp _ _ sc _) _ _ _) _ _ _=>sc
 | _=>vm
noncomputable def ya (s:Stmt):Scope:=match s with
 | .If (.BoolOp _ [.Compare (.Call _ [.ListComp _ _ sc _] _ _) _ _ _,_] _) _ _ _=>sc
 | _=>vm
noncomputable def QX (s:Stmt):Scope:=match s with
 | .Return (some (.Compare (.ListComp _ _ sc _) _ _ _)) _=>sc
 | _=>vm
noncomputable def QY (s:Stmt):Scope:=match s with
 | .Return (some (.Compare _ _ [.ListComp _ _ sc _] _)) _=>sc
 | _=>vm
theorem BC:ap y1 ["_law_yard", "_law_lanes_here", "_law_places", "_law_rooms"] (ah bR):=L2.ze
theorem QZ:zF y1 (ah bR) (tT (gc (aF bR) 0)) ["_law_yard"] [0]:=L2.Ah
theorem Ra:zF y1 (ah bR) (yd (gc (nZ (gc (aF bR) 1)) 1)) ["_law_number"] [5]:=L2.Ah
theorem Rb:zF y1 (ah bR) (Kv (gc (aF bR) 2)) ["_law_yard"] [0]:=L2.Ah
theorem Rf:zF y1 (ah bR) (ya (gc (aF bR) 3)) [] []:=L2.Ah
theorem Rg:zF y1 (ah bR) (QX (gc (aF bR) 4)) ["_law_yard"] [0]:=L2.Ah
theorem Rh:zF y1 (ah bR) (QY (gc (aF bR) 4)) [] []:=L2.Ah
theorem Ri:(["_law_place", "_law_yard"]:List Str).Nodup:=by decide +kernel
theorem KR:(["_law_letter", "_law_count", "_law_number"]:List Str).Nodup:=by decide +kernel
theorem Rj:(["_law_number", "_law_yard"]:List Str).Nodup:=by decide +kernel
theorem Rk:(["_law_heap"]:List Str).Nodup:=by decide +kernel
theorem Rl:(["_law_lane", "_law_yard"]:List Str).Nodup:=by decide +kernel
theorem Rm:(["_law_room"]:List Str).Nodup:=by decide +kernel
theorem pX {ys:Ys}{f fp fl fy ft fe:Addr}{fd dp dl dy dt de:FuncData}(F:yY K "_law_at_last" "_law_at_last" bR f fd)(T:dP mg)(Y:gE K ys)
  (mp:bM K ys.yB "posted" fp) (bp:Binds K dp ["self"] []) (Gp:y9 P w K mg base aC 1 fp dp ["self"] (iJ K ys))
  (ml:bM K ys.yB "letter_told" fl) (bl:Binds K dl ["self", "number"] []) (Gl:y9 P w K mg base aC 1 fl dl ["self", "number"] (mW K ys))
  (my:bM K ys.yB "lying" fy) (Et:Binds K dy ["self", "place"] []) (Gy:y9 P w K mg base aC 1 fy dy ["self", "place"] (oG K ys))
  (mt:bM K ys.yB "lane_told" ft) (bt:Binds K dt ["self", "lane"] []) (Gt:y9 P w K mg base aC 2 ft dt ["self", "lane"] (oJ K ys))
  (me:bM K ys.yB "ended" fe) (be:Binds K de ["self"] []) (Ge:y9 P w K mg base aC 1 fe de ["self"] (i3 K ys)) :
  y9 P w K mg base aC 3 f fd ["_law_yard", "_law_lanes_here", "_law_places", "_law_rooms"] (kW K ys):=by
 refine F.ok BC (fun _ _ _ _ h=>?_) (fun _ _ _ s H _ Q E hr h=>?_)
 ·obtain⟨a,s,ro,rs,rfl,_⟩:=h
  rfl
 ·obtain⟨a,st,ro,rs,rfl,hY,hJ,Ek,hF,KS,q⟩:=h
  have hu:=hr.units
  have zp:yK 1 _:=hr.mono (by decide)
  have zT:yK 2 _:=hr.mono (by decide)
  refine⟨_,ae (cI (i:=4) (own:=["_law_place"]) (capN:=["_law_yard"]) (cap:=[0]) QZ rfl BC.nd rfl rfl (aJ rfl T.range (aa (pv 2) ac))
    (fun C s' H' fp=>⟨av (i:=0) Ri rfl (Or.inl rfl),b9,aG (pv 1) Y.cl my Gy zp Et .nil ao (aa (pv 0) ac)⟩))
   (ae (bB PassesOwn.never rfl (aJ rfl T.range (aa (bD (pv 0) Y.cl mp Gp zp bp .nil ao) ac)) (av (i:=5) BC.nd rfl (Or.inr rfl))
    (ae (fI (aG (pv 0) Y.cl ml Gl zp bl .nil ao (aa (pv 5) ac)) (e9 rfl (aW (av (i:=6) BC.nd rfl (Or.inl rfl)) (aW (av (i:=7) BC.nd rfl (Or.inl rfl)) (aW (av (i:=8) BC.nd rfl (Or.inl rfl)) (aW (av (i:=9) BC.nd rfl (Or.inl rfl)) cQ))))))
    (ag (aL (ax (nG hu) (aQ (own:=["_law_letter", "_law_count"]) (capN:=["_law_number"]) (cap:=[5]) Ra rfl (aV (az yG (pv 4) (pv 7) (fun _ _=>rfl)))
      (fun C s' H' fp=>⟨(show PG _ _ (v5 K 2 _) from e9 rfl (aW (av (i:=0) KR rfl (Or.inl rfl)) (aW (av (i:=1) KR rfl (Or.inl rfl)) cQ))),cx (ax bK (pv 0) (pv 2) (aA _)),pv 1⟩))
     (bI (jn rfl) rfl T.list PySem.Pv.boot_list (aa (bI lZ rfl T.range PyProof.Rows.boot_range (aa (pv 8) ac)) ac)) (aA _)) (ag (ar fq)) aB))))
   (ae (aE (i:=10) BC.nd rfl (Or.inl rfl) (aw (eJ rfl) rfl T.sum PyProof.Rows.boot_sum (aa (aQ (own:=["_law_number"]) (capN:=["_law_yard"]) (cap:=[0]) Rb rfl (aJ rfl T.range (aa (bD (pv 0) Y.cl mp Gp zp bp .nil ao) ac)) (fun C s' H' fp=>⟨av (i:=0) Rj rfl (Or.inl rfl),b9,az (show AL _ (iQ K) from yE) (aG (pv 1) Y.cl ml Gl zp bl .nil ao (aa (pv 0) ac)) aj (fun _ _=>rfl)⟩)) ac)))
   (ae (aL (PW.pt (eu (ax ik (aw (eJ rfl) rfl T.sum PyProof.Rows.boot_sum (aa (aQ (own:=["_law_heap"]) (capN:=[]) (cap:=[]) Rf rfl (aV (pv 4)) (fun C s' H' fp=>⟨av (i:=0) Rk rfl (Or.inl rfl),b9,aw (show c6 _ (.builtin "len") (JT K) from aq) rfl T.len PySem.boot_len (aa (pv 0) ac)⟩)) ac)) (pv 10) (aA _)) (cG (bF (bA (bD (pv 0) Y.cl me Ge zp be .nil ao)))))) (ag (ar fq)) aB)
   (ag (ar (cy (rY hu) (aQ (own:=["_law_lane"]) (capN:=["_law_yard"]) (cap:=[0]) Rg rfl (aJ rfl T.range (aa (pv 1) ac)) (fun C s' H' fp=>⟨av (i:=0) Rl rfl (Or.inl rfl),b9,aG (pv 1) Y.cl mt Gt zT bt .nil ao (aa (pv 0) ac)⟩))
    (aQ (own:=["_law_room"]) (capN:=[]) (cap:=[]) Rh rfl (aV (pv 3)) (fun C s' H' fp=>⟨av (i:=0) Rm rfl (Or.inl rfl),b9,bj (aa (pv 0) (aa aj (aa b8 (aa (aR ac) ac))))⟩)) (aA _))))))),?_⟩
  have zV:st.lies.length=a.n:=hJ.lies
  refine⟨_,rfl,(a.n:Int),rfl,by omega,by omega,?_⟩
  rw[toNat_natCast,← zV]
  refine gi (R:=GH) (fun s v a h=>GH.same s v a h) st.lies (by rw[sizeLine_eq];omega) (fun i qs H1 N hq s1 hN=>?_) (fun D AI H1 s1 hD pD=>?_)
  ·have zM:=yH.same hY s1
   exact⟨_,rfl,a.y,a.dy,_,rfl,zM.ins,rfl,_,rfl,a,st,i,qs,rfl,zM,hq,fun D yS H2 s2 hD gD hL=>hN _ H2 s2 ⟨D,yS,rfl,gD,hL⟩⟩
  have s2:=s1.new (o := .lst AI) hD
  have gD:(upd H1 D (.lst AI)) D=some (.lst AI):=ad
  have Rn:=Paired.mono (fun v qs=>GH.same ((y8.refl H1).new (o := .lst AI) hD) v qs) pD
  show dv 4 (V.ref D) _ (upd H1 D (.lst AI)) _
  generalize upd H1 D (.lst AI)=H2 at s2 gD Rn ⊢
  have Av:=yH.same hY s2
  refine⟨_,rfl,a.y,a.dy,_,rfl,Av.ins,rfl,a.y,a.dy,a.tb,a.ro,a.la,a.le,a.li,a.dn,st,rfl,Av,(st.U.length:Int),rfl,by omega,by have:=hJ.zD;omega,?_⟩
  rw[toNat_natCast]
  refine b7 (n:=st.U.length) (fun i σ H3=>∃ a5 a6 a7 a8 a9:Option V,y8 H2 H3/\σ=[some (.ref a.y),some (.int (a.ps.length:Nat)),some (.int st.lies.length),some (.ref ro),some (.ref D),a5,a6,a7,a8,a9,none]) ⟨none,none,none,none,none,y8.refl _,rfl⟩ ?_ ?_
  ·rintro m σ H3 hm ⟨a5,a6,a7,a8,a9,s3,rfl⟩
   rw[zero_add]
   have Aw:=yH.same Av s3
   have ht:=getElem?_eq_getElem hm
   generalize st.U[m]=t at ht
   obtain⟨p,n,qs,eg,el,hn60,hq,M0,Ro⟩:=hF.heap m t ht
   refine⟨_,rfl,a.y,a.dy,_,rfl,Aw.ins,rfl,_,rfl,a.y,a.dy,a.tb,a.ro,a.la,a.le,a.li,a.dn,st,m,t,rfl,Aw,ht,fun tp H4 s4 Ky=>⟨tp,_,rfl,yN.of Ky,rfl,_,_,rfl,_,_,rfl,_,_,rfl,_,_,rfl,rfl,?_⟩⟩
   rw[eg,el]
   have MQ:=s3.trans s4
   obtain⟨v,hv,Dp,yS,rfl,gDp,hLp⟩:=Paired.at2 Rn hq
   have KU:=MQ _ _ gDp
   have Rp:=yU.same MQ hLp
   refine⟨_,rfl,_,rfl,D,_,(p:Int),_,rfl,rfl,yC.of (MQ _ _ gD),ak hv,Dp,rfl,⟨_,yC.of KU⟩,?_⟩
   refine tN (m:=m) KU Rp (by rw[sizeLine_eq];omega) (fun x l c acc N hx h=>?_) (fun Pc hPc=>?_)
   ·refine⟨x,_,rfl,yN.of hx,rfl,_,_,rfl,_,_,rfl,rfl,_,rfl,_,rfl,rfl,_,rfl,?_⟩
    by_cases e1:l=(m:Int)
    ·rw[if_pos e1]at h
     rw[decide_eq_true (show V.int l=V.int m by rw[e1])]
     exact aK ⟨_,rfl,h⟩
    ·rw[if_neg e1]at h
     rw[decide_eq_false (show ¬ V.int l=V.int m from fun z=>e1 (V.int.inj z))]
     exact aH h
   have u5:=MQ.new (o := .lst ((cnt m qs).map V.int)) hPc
   have Rq:(upd H4 Pc (.lst ((cnt m qs).map V.int))) Pc=some (.lst ((cnt m qs).map V.int)):=ad
   generalize upd H4 Pc (.lst ((cnt m qs).map V.int))=H5 at u5 Rq ⊢
   refine⟨_,rfl,(n:Int),rfl,fun rg Vt=>?_⟩
   have u6:=u5.new (o:=eY rg (n:Int)) Vt
   have GI:(upd H5 rg (eY rg (n:Int))) Pc=some (.lst ((cnt m qs).map V.int)):=by rw[af (ai Rq Vt)];exact Rq
   have Vu:(upd H5 rg (eY rg (n:Int))) rg=some (eY rg (n:Int)):=ad
   generalize upd H5 rg (eY rg (n:Int))=H6 at u6 GI Vu ⊢
   refine⟨rg,n,rfl,Vu,by omega,fun L hL=>?_⟩
   have u7:=u6.new (o := .lst ((List.range n).map fun k:Nat=>V.int (k:Int))) hL
   have Rr:(upd H6 L (.lst ((List.range n).map fun k:Nat=>V.int (k:Int)))) Pc=some (.lst ((cnt m qs).map V.int)):=by rw[af (ai GI hL)];exact GI
   refine⟨Pc,L,cnt m qs,(List.range n).map fun k:Nat=>(k:Int),rfl,rfl,yC.of Rr,yC.of (by rw[ad,map_map];rfl),_,rfl,?_⟩
   rw[decide_eq_true (show cnt m qs=(List.range n).map fun k:Nat=>(k:Int) by rw[Ro];unfold fW;rw[sub_zero,← List.range_eq_range'])]
   exact aH ⟨_,_,_,_,_,u7,rfl⟩
  rintro σ H3 ⟨a5,a6,a7,a8,a9,s3,rfl⟩
  have Aw:=yH.same Av s3
  refine⟨_,rfl,a.y,a.dy,_,rfl,Aw.ins,rfl,a.y,a.dy,a.tb,a.ro,a.la,a.le,a.li,a.dn,st,rfl,Aw,(st.U.length:Int),rfl,by omega,by have:=hJ.zD;omega,?_⟩
  rw[toNat_natCast]
  refine gi (R:=fun _ (v:V) (t:aS)=>v = .int t.len) (fun _ v t h=>h) st.U (by have:=hJ.zD;rw[sizeLine_eq];omega) (fun i t H1 N ht s1 hN=>?_) (fun Dt yO H4 s4 hDt pDt=>?_)
  ·have zM:=yH.same Aw s1
   exact⟨_,rfl,a.y,a.dy,_,rfl,zM.ins,rfl,_,rfl,a.y,a.dy,a.tb,a.ro,a.la,a.le,a.li,a.dn,st,i,t,rfl,zM,ht,fun tp H2 s2 Ky=>⟨tp,_,2,_,rfl,rfl,yN.of Ky,ak (j:=2) rfl,hN _ H2 s2 rfl⟩⟩
  have s5:=s4.new (o := .lst yO) hDt
  have Rt:(upd H4 Dt (.lst yO)) Dt=some (.lst yO):=ad
  generalize upd H4 Dt (.lst yO)=H5 at s5 Rt ⊢
  rw[k4 (H:=H) pDt]at Rt
  refine⟨Dt,_,rfl,yC.of Rt,?_⟩
  have CP:=s3.trans s5
  have Vv:=Paired.mono (fun v qs=>GH.same CP v qs) Rn
  have Bf:AI.length=st.lies.length:=Paired.length Vv
  refine⟨_,rfl,D,rfl,⟨_,yC.of (CP _ _ gD)⟩,?_⟩
  refine eV (fun i => .int ((st.lies.getD i []).length:Nat)) (by rw[sizeLine_eq];omega) (yC.of (CP _ _ gD)) (fun i x N hx h=>?_) (fun D2 Ap=>?_)
  ·obtain⟨qs,AK,t,vs,rfl,ht,hL⟩:=Paired.at Vv hx
   rw[getD_eq_getElem?_getD,AK]at h
   have Bf:vs.length=qs.length:=Paired.length hL
   refine⟨_,rfl,t,vs,rfl, .inl (yC.of ht),?_⟩
   rw[Bf]
   exact h
  have e2:(List.range AI.length).map (fun i=>V.int ((st.lies.getD i []).length:Nat))=(st.lies.map fun q=>(q.length:Int)).map V.int:=by
   rw[Bf,map_map]
   exact fH st.lies _ fun q=>V.int (q.length:Nat)
  rw[e2]
  have s6:=CP.new (o := .lst ((st.lies.map fun q=>(q.length:Int)).map V.int)) Ap
  have g6:(upd H5 D2 (.lst ((st.lies.map fun q=>(q.length:Int)).map V.int))) D2=some (.lst ((st.lies.map fun q=>(q.length:Int)).map V.int)):=ad
  generalize upd H5 D2 (.lst ((st.lies.map fun q=>(q.length:Int)).map V.int))=H6 at s6 g6 ⊢
  refine⟨D2,_,rfl,yC.of g6,_,rfl,rfl,_,rfl,?_⟩
  rw[bE,decide_eq_true hF.sum.symm]
  have MR:=yH.same Av s6
  refine aH ⟨_,rfl,a.y,a.dy,_,rfl,MR.ins,rfl,a.y,a.dy,a.tb,a.ro,a.la,a.le,a.li,a.dn,st,rfl,MR,by have:=hJ.zD;omega,by omega,fun H7 s7=>⟨_,rfl,?_⟩⟩
  rw[hF.fin]
  refine aH ?_
  have Vw:=(s2.trans s6).trans s7
  have hY7:=yH.same hY Vw
  have E9:=Vw _ _ KS
  refine⟨_,rfl,((a.ps.length:Nat):Int),rfl,by omega,by have:=hJ.CC;omega,?_⟩
  rw[toNat_natCast,← hF.len]
  have BX:rs.length <= 40:=by rw[hF.len];exact hJ.CC
  refine gi (R:=DB) (fun s v a h=>DB.same s v a h) rs (by rw[sizeLine_eq];omega) (fun i r H1 N hq s1 hN=>?_) (fun L1 yO H8 s8 Dv pL1=>?_)
  ·have zM:=yH.same hY7 s1
   refine⟨_,rfl,a.y,a.dy,_,rfl,zM.ins,rfl,_,rfl,a.y,a.dy,a.tb,a.ro,a.la,a.le,a.li,a.dn,st,i,_,rfl,zM,hF.yW i r hq,fun t ql yS H2 s2 DN gt Mu hL=>hN _ H2 s2 ⟨t,ql,rfl,gt,?_⟩⟩
   have:yS=[]:=List.length_eq_zero_iff.mp (Paired.length hL)
   rw[this]at Mu
   exact Mu
  have u8:=s8.new (o := .lst yO) Dv
  have g8:(upd H8 L1 (.lst yO)) L1=some (.lst yO):=ad
  have p8:=Paired.mono (fun v r=>DB.same ((y8.refl H8).new (o := .lst yO) Dv) v r) pL1
  generalize upd H8 L1 (.lst yO)=H9 at u8 g8 p8 ⊢
  refine⟨_,rfl,ro,rfl,⟨_,yC.of (u8 _ _ E9)⟩,?_⟩
  refine bu rs.length (by rw[sizeLine_eq];omega) (fun i acc H'=>y8 H9 H'/\Paired (DB H') acc (rs.take i)) ⟨y8.refl _, .nil⟩ (fun i acc H' h=>by rw[Paired.length h.2];exact length_take_le _ _) (fun i acc H' hi h=>?_) (fun acc H' h=>?_)
  ·obtain⟨sx,hx⟩:=h
   have hri:=getElem?_eq_getElem hi
   refine⟨⟨_,_,yC.of (sx _ _ (u8 _ _ E9)),by rw[getElem?_map,hri];rfl⟩,fun v H2 y=>?_⟩
   obtain⟨rfl,y⟩:=y
   have hv:=y _ (yC.of (sx _ _ (u8 _ _ E9)))
   rw[getElem?_map,hri]at hv
   have hv:=Option.some.inj hv
   subst hv
   refine⟨_,rfl,zero_le _,fun ql DN=>⟨by show 4 <= sizeLine;decide,fun t ht=>?_⟩⟩
   have z1:=(y8.refl H2).new (o := .lst []) DN
   have gq:(upd H2 ql (.lst [])) ql=some (.lst []):=ad
   have z2:=z1.new (o := .tup [.int rs[i], .int 0, .yQ, .ref ql]) ht
   refine⟨sx.trans z2,?_⟩
   rw[take_succ,hri]
   exact Paired.snoc ⟨t,ql,rfl,ad,by rw[af (ai gq ht)];exact gq⟩ (Paired.mono (fun v r=>DB.same z2 v r) hx)
  ·obtain⟨sx,hx⟩:=h
   rw[take_length]at hx
   refine⟨⟨_,yC.of (sx _ _ (u8 _ _ E9)),by rw[length_map];exact Nat.le_refl _⟩,fun L2' Ax=>?_⟩
   have z3:=(y8.refl H').new (o := .lst acc) Ax
   refine⟨.list (rs.map MP), .list (rs.map MP), .lst (yC.of (z3 _ _ (sx _ _ g8))) (p6 (Paired.mono (fun v r=>DB.same (sx.trans z3) v r) p8)), .lst (yC.of ad) (p6 (Paired.mono (fun v r=>DB.same z3 v r) hx)),(mY rs).shaped (Nat.le_refl _),(mY rs).shaped (Nat.le_refl _),?_⟩
   rw[SeqAt.eqv_refl _ (mY rs).1]
   exact q _
theorem v9 (xs:List V)(k:Nat):fL xs none (some (k:Int))=xs.take k:=by
 unfold fL
 have e0:HT.AA xs.length 0 none=0:=rfl
 rw[e0,show HT.AA xs.length xs.length (some (k:Int))=min k xs.length from HT.Af _ _ k,List.drop_zero,sub_zero]
 rcases Nat.le_total k xs.length with h | h
 ·rw[min_eq_left h]
 ·rw[min_eq_right h,take_of_length_le h,take_of_length_le (Nat.le_refl _)]
theorem qm (xs:List V)(k:Nat):fL xs (some (k:Int)) none=xs.drop k:=by
 unfold fL
 have e1:HT.AA xs.length xs.length none=xs.length:=rfl
 rw[e1,show HT.AA xs.length 0 (some (k:Int))=min k xs.length from HT.Af _ _ k]
 rcases Nat.le_total k xs.length with h | h
 ·rw[min_eq_left h,take_of_length_le (by rw[length_drop];omega)]
 ·rw[min_eq_right h,drop_eq_nil_of_le (Nat.le_refl _),drop_eq_nil_of_le h,List.take_nil]
theorem uh {K:Frag}{c:Cs}{TC:Addr}{J:TJ}{ys:Ys}{vs:List V}{H:Hp}{Q Q':VK}{E:XK}(h:kT K c TC J ys vs H Q E)(k:∀ v H',Q v H'->Q' v H'):kT K c TC J ys vs H Q' E:=by
 obtain⟨y,dy,tb,lx,zq,lt,n,yO,ps,wy,rv,yR,e1,e2,e3,e4,e5,e6⟩:=h
 exact⟨y,dy,tb,lx,zq,lt,n,yO,ps,wy,rv,yR,e1,e2,e3,e4,e5,fun h ro la le li dn H' a1 a2 a3 a4 a5 a6=>k _ _ (e6 h ro la le li dn H' a1 a2 a3 a4 a5 a6)⟩
theorem qN {K:Frag}{H H':Hp}{Tb a:Addr}{ps:Array Value}{xs:List V}(g:H Tb=some (.zI ps))(o:yI [Tb] H H')(h:yC K H a xs):yC K H' a xs:=by
 have k:∀ b u,H b=some u->(∀ qs,u ≠ .zI qs)->H' b=some u:=fun b u e n=>o b u (fun z=>by rw[mem_singleton.mp z,g]at e;cases e;exact n _ rfl) e
 rcases h with (e | ⟨o,e⟩) | e
 ·exact .inl (.inl (k _ _ e (by intro _ z;cases z)))
 ·exact .inl (.inr ⟨o,k _ _ e (by intro _ z;cases z)⟩)
 ·exact .inr e
theorem Cb.Qg {a:YA}{nums:List Int}{S:List Nat}{s s':YS}(h:Cu a s s')(R:Cb nums S s):Cb nums S s':=by
 induction h with
 | nil=>exact R
 | snoc _ _ ih=>exact ih.post
theorem Rv.DC {K:Frag}{c:Cs}{TC fw md:Addr}{dw:FuncData}{J:TJ}{ys:Ys}{H0 H H2:Hp}{a:YA}{s s':YS}{N:Nat->Nat->Nat}{nums:List Int}{S:List Nat}{rs:List Int}(W:Wy K TC fw dw J)(h:Rv K c TC J ys md H0 H a s N nums S rs)(r:Rc md H0 a nums S rs)(o:yI [a.le,a.dn] H H2)(hY:zx K (yx ys [md]) H2 a s')(hJ:zC a s')(hW:DS a s')(hP:Cu a s s'):∃ N',Rv K c TC J ys md H0 H2 a s' N' nums S rs:=by
 have two:∀ z:Addr,z ∈ [a.le,a.dn]->z ∈ a.four:=fun z hz=>by simp only[mem_cons,not_mem_nil,or_false]at hz ⊢;rcases hz with rfl | rfl<;>simp
 obtain⟨N',C'⟩:=h.C.Qg hP
 obtain⟨za,g,l⟩:=h.md
 exact⟨N',kY h.e o fun b hb=>r.fr b (mem_cons_of_mem _ (two b hb)),⟨hY,zG.keep W h.I.T (yI.yT (fun b hb=>h.I.Y.Bp b (two b hb)) o),h.I.O,hJ.ok⟩,hJ,C',h.R.Qg hP,hW,hP.rooms.trans h.ro,hP.zD h.l4,za,o _ _ (fun z=>r.n4 (two _ z)) g,by have:=hP.cnt;omega⟩
noncomputable def oH (K:Frag)(Tb:Addr):Sp:=fun vs H Q _=>∃ (a:Addr)(ns:List Int),vs=[.ref a]/\yC K H a (ns.map V.int)/\ns.length <= 63/\H Tb=some (.zI #[])/\∀ H',Q (.bl true) H'
abbrev Ru:List Str:=["_law_script", "_law_places", "_law_lanes_here", "_law_numbers_here", "_law_alive_here", "_law_table", "_law_rooms", "_law_yard", "_law_cells", "_law_made_here"]
structure Fns (P:Program)(w:World)(K:Frag)(mg:Str->Option Value)(base:Heap)(c:Cs)(ts:Ts)(ys:Ys)(Tb:Addr)(fc fx fl fn fa fi ft fr ff fy fp fg fo fe:Addr)(dc dx dl dn da di dt dr df dy dp dg MS de:FuncData):Prop where
 mc:mg "_law_cell_at" = some (.ref fc)
 kc:keepIn K (.ref fc)=true
 bc:Binds K dc ["_law_script", "_law_k"] []
 Gc:y9 P w K mg base aC 1 fc dc ["_law_script", "_law_k"] (mX K)
 mx:mg "_law_mixed" = some (.ref fx)
 kx:keepIn K (.ref fx)=true
 bx:Binds K dx ["_law_cell", "_law_k"] []
 Gx:y9 P w K mg base aC 1 fx dx ["_law_cell", "_law_k"] jt
 ml:mg "_law_lanes" = some (.ref fl)
 kl:keepIn K (.ref fl)=true
 bl:Binds K dl ["_law_places", "_law_amount", "_law_cell"] []
 Gl:y9 P w K mg base aC 2 fl dl ["_law_places", "_law_amount", "_law_cell"] oI
 mn:mg "_law_numbers" = some (.ref fn)
 kn:keepIn K (.ref fn)=true
 bn:Binds K dn ["_law_amount", "_law_cell"] []
 Gn:y9 P w K mg base aC 2 fn dn ["_law_amount", "_law_cell"] qW
 ma:mg "_law_alive" = some (.ref fa)
 ka:keepIn K (.ref fa)=true
 ba:Binds K da ["_law_lanes_here", "_law_numbers_here"] []
 Ga:y9 P w K mg base aC 4 fa da ["_law_lanes_here", "_law_numbers_here"] (oP K Tb)
 mi:mg "Land" = some (.ref c.land)
 Mi:Mk K c.land fi
 bi:Binds K di ["self", "places", "lanes"] []
 Gi:y9 P w K mg base aC 4 fi di ["self", "places", "lanes"] (rf K c)
 mt:mg "Told" = some (.ref ts.told)
 Mt:Mk K ts.told ft
 bt:Binds K dt ["self", "land", "rows"] []
 Gt:y9 P w K mg base aC 5 ft dt ["self", "land", "rows"] (qR P w K c ts)
 mr:mg "_law_made" = some (.ref fr)
 kr:keepIn K (.ref fr)=true
 br:Binds K dr MC []
 Gr:y9 P w K mg base aC 2 fr dr MC qY
 mf:mg "fault" = some (.ref ff)
 kf:keepIn K (.ref ff)=true
 bf:Binds K df ["table", "paper"] []
 Gf:y9 P w K mg base aC 7 ff df ["table", "paper"] (oM K c ts.told (yZ P w ts))
 my:mg "Yard" = some (.ref ys.yB)
 My:Mk K ys.yB fy
 Rx:Binds K dy ["self", "table", "rooms"] []
 Gy:y9 P w K mg base aC 4 fy dy ["self", "table", "rooms"] (kT K c ts.told (yZ P w ts) (yx ys []))
 mp:mg "_law_posts" = some (.ref fp)
 kp:keepIn K (.ref fp)=true
 bp:Binds K dp ["_law_yard", "_law_places", "_law_cells"] []
 Gp:∀ ex,y9 P w K mg base aC 5 fp dp ["_law_yard", "_law_places", "_law_cells"] (jG K c ts.told (yZ P w ts) (yx ys ex))
 M1:mg "_law_goes_on" = some (.ref fg)
 kg:keepIn K (.ref fg)=true
 bg:Binds K dg ["_law_yard", "_law_script", "_law_made_here", "_law_most"] []
 Gg:y9 P w K mg base aC 9 fg dg ["_law_yard", "_law_script", "_law_made_here", "_law_most"] (rj K c ts.told (yZ P w ts) ys)
 mo:mg "most_moves" = some (.ref fo)
 ko:keepIn K (.ref fo)=true
 bo:Binds K MS ["yard"] []
 Go:∀ ex,y9 P w K mg base aC 2 fo MS ["yard"] (mV K c ts.told (yZ P w ts) (yx ys ex))
 me:mg "_law_at_last" = some (.ref fe)
 ke:keepIn K (.ref fe)=true
 be:Binds K de ["_law_yard", "_law_lanes_here", "_law_places", "_law_rooms"] []
 Ge:y9 P w K mg base aC 3 fe de ["_law_yard", "_law_lanes_here", "_law_places", "_law_rooms"] (kW K (yx ys []))
abbrev P1 (P:Program)(w:World)(K:Frag)(c:Cs)(ts:Ts)(Tb:Addr)(H:Hp)(sc:Addr):St->Hp->Prop:=fun σ Hc=>∃ (a:YA)(l nu la:Addr)(yM:List V)(nums:List Int)(al:List Nat),yI [Tb] H Hc/\uf c ts.told (yZ P w ts) Hc a/\qw a/\yz a.n a.ps a.wy nums al/\Hc l=some (.lst yM)/\yM.length=a.ps.length/\Hc nu=some (.lst (nums.map V.int))/\Hc la=some (.lst (nV al))/\(∀ p ∈ a.ps,fM a.n p=true)/\(∀ x y,x < a.n->y < a.n->a.wy x y none ≠ []->x ≠ y)/\a.ps.length <= 9/\2 <= a.n/\a.n <= 5 /\
 σ=[some (.ref sc),some (.int a.n),some (.ref l),some (.ref nu),some (.ref la),some (.ref a.tb),none,none,none,none]
abbrev P2 (P:Program)(w:World)(K:Frag)(c:Cs)(ts:Ts)(ys:Ys)(sc:Addr)(ns:List Int):St->Hp->Prop:=fun σ Hc=>∃ (a:YA)(l nu la ro cs md:Addr)(yM:List V)(nums:List Int)(al:List Nat)(rs ks:List Int)(N:Nat->Nat->Nat)(H0:Hp),Rv K c ts.told (yZ P w ts) ys md H0 Hc a (Y0 (rs.map V.int) a.n) N nums al rs/\Rc md H0 a nums al rs/\yC K H0 sc (ns.map V.int)/\H0 l=some (.lst yM)/\yM.length=a.ps.length/\H0 ro=some (.lst (rs.map V.int))/\rs.length=a.ps.length/\H0 cs=some (.lst (ks.map V.int))/\ks.length <= 4/\(∀ x y,x < a.n->y < a.n->a.wy x y none ≠ []->x ≠ y)/\a.ps.length <= 9/\a.n <= 5 /\
 σ=[some (.ref sc),some (.int a.n),some (.ref l),some (.ref nu),some (.ref la),some (.ref a.tb),some (.ref ro),some (.ref a.y),some (.ref cs),some (.ref md)]
theorem AZ:ap Ru ["_law_script"] (ah gJ):=L2.ze
theorem Ry:zF Ru (ah gJ) (tT (gc (aF gJ) 6)) ["_law_script"] [0]:=L2.Ah
theorem Rz:zF Ru (ah gJ) (tT (gc (aF gJ) 8)) ["_law_script"] [0]:=L2.Ah
theorem R0:(["_law_lane", "_law_script"]:List Str).Nodup:=by decide +kernel
theorem R3:(["_law_k", "_law_script"]:List Str).Nodup:=by decide +kernel
theorem xF {c:Cs}{ts:Ts}{ys:Ys}{Tb f fw fc fx fl fn fa fi ft fr ff fy fp fg fo fe:Addr}{fd dw dc dx dl dn da di dt dr df dy dp dg MS de:FuncData}(F:yY K "law" "law" gJ f fd)(T:dP mg)(Y:gE K ys)(W:Wy K ts.told fw dw (yZ P w ts))
  (D:Fns P w K mg base c ts ys Tb fc fx fl fn fa fi ft fr ff fy fp fg fo fe dc dx dl dn da di dt dr df dy dp dg MS de):y9 P w K mg base aC 11 f fd ["_law_script"] (oH K Tb):=by
 refine F.ok AZ (fun _ _ _ _ h=>?_) (fun _ _ _ s H _ Q E hr h=>?_)
 ·obtain⟨a,ns,rfl,_⟩:=h
  rfl
 ·obtain⟨sc,ns,rfl,hS,hlen,B6,q⟩:=h
  have zp:yK 1 _:=hr.mono (by decide)
  have zT:yK 2 _:=hr.mono (by decide)
  have G9:yK 3 _:=hr.mono (by decide)
  have BU:yK 4 _:=hr.mono (by decide)
  have Fl:yK 5 _:=hr.mono (by decide)
  have PJ:yK 6 _:=hr.mono (by decide)
  have MN:yK 7 _:=hr.mono (by decide)
  have Vx:yK 9 _:=hr.mono (by decide)
  have GP:=y9.ex D.Gp
  have GO:=y9.ex D.Go
  refine⟨_,lw 5 (ae (aE (i:=1) AZ.nd rfl (Or.inl rfl) (aD ca aj (aD bG (au D.Gc zp rfl D.mc D.kc D.bc .nil ao (aa (pv 0) (aa aj ac))) aj)))
   (ae (aE (i:=2) AZ.nd rfl (Or.inl rfl) (au D.Gl zT rfl D.ml D.kl D.bl .nil ao (aa (pv 1) (aa (aD bG (aD cj (au D.Gc zp rfl D.mc D.kc D.bc .nil ao (aa (pv 0) (aa aj ac))) aj) aj) (aa (au D.Gc zp rfl D.mc D.kc D.bc .nil ao (aa (pv 0) (aa aj ac))) ac)))))
   (ae (aE (i:=3) AZ.nd rfl (Or.inl rfl) (au D.Gn zT rfl D.mn D.kn D.bn .nil ao (aa (aw aq rfl T.len PySem.boot_len (aa (pv 2) ac)) (aa (au D.Gc zp rfl D.mc D.kc D.bc .nil ao (aa (pv 0) (aa aj ac))) ac))))
   (ae (aE (i:=4) AZ.nd rfl (Or.inl rfl) (au D.Ga BU rfl D.ma D.ka D.ba .nil ao (aa (pv 2) (aa (pv 3) ac))))
   (ag (aE (i:=5) AZ.nd rfl (Or.inl rfl) (dG D.Mt D.Gt PJ rfl D.mt D.bt .nil ao (aa (dG D.Mi D.Gi Fl rfl D.mi D.bi .nil ao (aa (pv 1) (aa (pv 2) ac))) (aa (au D.Gr zT rfl D.mr D.kr D.br .nil ao (aa (pv 1) (aa (pv 2) (aa (pv 3) (aa (pv 4) (aa (au D.Gc zp rfl D.mc D.kc D.bc .nil ao (aa (pv 0) (aa aj ac))) ac)))))) ac)))))))))
   (lw 5 (ae (aL (PW.pt (eu (ax ga (au D.Gf MN rfl D.mf D.kf D.bf .nil ao (aa (pv 5) (aa (bj (aa (pv 3) (aa (bI cf rfl T.tuple PySem.Pv.boot_tuple (aa (pv 4) ac)) ac))) ac))) b8 (aA _)) (cG (ax ga (au D.Gf MN rfl D.mf D.kf D.bf .nil ao (aa (pv 5) (aa (bj (aa (bI cf rfl T.tuple PySem.Pv.boot_tuple (aa (pv 3) ac)) (aa (pv 4) ac))) ac))) b8 (aA _))))) (ag (ar fq)) aB)
   (ae (cI (i:=6) (own:=["_law_lane"]) (capN:=["_law_script"]) (cap:=[0]) Ry rfl AZ.nd rfl rfl (aJ rfl T.range (aa (aw aq rfl T.len PySem.boot_len (aa (pv 2) ac)) ac)) (fun C s' H' fp=>⟨av (i:=0) R0 rfl (Or.inl rfl),b9,aD ca aj (aD bG (au D.Gx zp rfl D.mx D.kx D.bx .nil ao (aa (au D.Gc zp rfl D.mc D.kc D.bc .nil ao (aa (pv 1) (aa aj ac))) (aa (aD ca aj (pv 0)) ac))) aj)⟩))
   (ae (aE (i:=7) AZ.nd rfl (Or.inl rfl) (dG D.My D.Gy Fl rfl D.my D.Rx .nil ao (aa (pv 5) (aa (pv 6) ac))))
   (ae (cI (i:=8) (own:=["_law_k"]) (capN:=["_law_script"]) (cap:=[0]) Rz rfl AZ.nd rfl rfl (aJ rfl T.range (aa (aD ca aj (aD bG (au D.Gc zp rfl D.mc D.kc D.bc .nil ao (aa (pv 0) (aa aj ac))) aj)) ac)) (fun C s' H' fp=>⟨av (i:=0) R3 rfl (Or.inl rfl),b9,au D.Gx zp rfl D.mx D.kx D.bx .nil ao (aa (au D.Gc zp rfl D.mc D.kc D.bc .nil ao (aa (pv 1) (aa aj ac))) (aa (pv 0) ac))⟩))
   (ag (aE (i:=9) AZ.nd rfl (Or.inl rfl) (aR ac)))))))
   (ae (aO (au GP Fl rfl D.mp D.kp D.bp .nil ao (aa (pv 7) (aa (pv 1) (aa (fZ i4 (pv 8) jT (fY aj)) ac)))))
   (ae (aL (bF (bA (au D.Gg Vx rfl D.M1 D.kg D.bg .nil ao (aa (pv 7) (aa (pv 0) (aa (pv 9) (aa (aD bG (aD cj (au D.Gc zp rfl D.mc D.kc D.bc .nil ao (aa (pv 0) (aa aj ac))) aj) aj) ac))))))) (ag (ar fq)) aB)
   (ae (aO (au GP Fl rfl D.mp D.kp D.bp .nil ao (aa (pv 7) (aa (pv 1) (aa (fZ i4 (pv 8) (fY aj) jT) ac)))))
   (ae (aL (PW.pt (eu (bF (bA (au D.Gg Vx rfl D.M1 D.kg D.bg .nil ao (aa (pv 7) (aa (pv 0) (aa (pv 9) (aa (aD ca (au GO zT rfl D.mo D.ko D.bo .nil ao (aa (pv 7) ac)) aj) ac))))))) (cG (ax l9 (aw aq rfl T.len PySem.boot_len (aa (pv 9) ac)) (au GO zT rfl D.mo D.ko D.bo .nil ao (aa (pv 7) ac)) (aA _))))) (ag (ar fq)) aB)
   (ag (ar (au D.Ge G9 rfl D.me D.ke D.be .nil ao (aa (pv 7) (aa (aw aq rfl T.len PySem.boot_len (aa (pv 2) ac)) (aa (pv 1) (aa (pv 6) ac)))))))))))),?_⟩
  refine⟨P1 P w K c ts Tb H sc,?_,?_⟩
  ·refine⟨_,rfl,sc,ns,0,rfl,hS,fun d0=>⟨_,_,rfl,rfl,(by show (0:Int) < 4;decide),_,_,rfl,rfl,?_⟩⟩
   obtain⟨n,hn,CV,KA⟩:∃ n:Nat,(2:Int) + d0 % 4=(n:Int)/\2 <= n/\n <= 5:=⟨(2 + d0 % 4).toNat,by omega,by omega,by omega⟩
   dsimp only
   rw[hn]
   refine⟨_,rfl,_,rfl,sc,ns,0,rfl,hS,fun d1=>⟨_,_,rfl,rfl,⟨by decide,by decide⟩,_,_,rfl,rfl,(by show (0:Int) < 10;decide),_,rfl,sc,ns,1,rfl,hS,fun d2=>?_⟩⟩
   obtain⟨m,hm,hm9⟩:∃ m:Nat,d1 / 4 % 10=(m:Int)/\m < 10:=⟨(d1 / 4 % 10).toNat,by omega,by omega⟩
   refine⟨n,m,d2,by rw[← hm];rfl,CV,by omega,by omega,fun l yM ps H1 s1 nl gl ER yL CH=>?_⟩
   have zV:yM.length=ps.length:=Paired.length ER
   refine⟨_,rfl,l,_,rfl, .inl (yC.of gl),_,rfl,sc,ns,2,rfl,s1.seq hS,fun d3=>⟨yM.length,d3,rfl,by omega,fun nu nums H2 s2 nnu KW UU=>?_⟩⟩
   have BG:=s1.trans s2
   refine⟨_,rfl,_,rfl,l,nu,yM,ps,nums,n,rfl,s2 _ _ gl,yU.same s2 ER,by omega,yL,by omega,KW,by omega,BG _ _ B6,fun la al H3 o3 Em zw DT R4 R5=>?_⟩
   have R6:=BG _ _ B6
   have k3:∀ b u,H2 b=some u->(∀ qs,u ≠ .zI qs)->H3 b=some u:=fun b u e nt=>o3 b u (fun z=>by rw[mem_singleton.mp z,R6]at e;cases e;exact nt _ rfl) e
   have Vy:yI [Tb] H H3:=(y8.zg BG).trans o3
   have DQ:=k3 _ _ (s2 _ _ gl) (by intro _ z;cases z)
   have KY:=k3 _ _ KW (by intro _ z;cases z)
   have Bu:yU H3 yM ps:=yU.imp (fun _ _ yD=>by obtain⟨t,e,g⟩:=yD;exact⟨t,e,k3 _ _ g (by intro _ z;cases z)⟩) (yU.same s2 ER)
   have hS3:yC K H3 sc (ns.map V.int):=qN B6 Vy hS
   have gd:=tH (ps:=ps) (n:=n) (by omega) (by omega) (by omega) yL
   refine⟨_,rfl,_,rfl,fun xl AD nx J6 EO=>?_⟩
   have s4:y8 H3 (upd (upd H3 AD (.own xl)) xl (.ins c.land AD [])):=y8.new (y8.new (y8.refl H3) J6) (by rw[af (Ne.symm EO)];exact nx)
   refine⟨xl,AD,(n:Int),l,yM,ps,rfl,ad,yC.of (s4 _ _ DQ),yU.same s4 Bu,by omega,(fun h=>by rw[gd]at h;cases h),(fun k h=>by rw[gd]at h;cases h),(fun k h=>by rw[gd]at h;cases h),fun _ H4 lt yO off hL=>⟨rfl,?_⟩⟩
   have Du:y8 H3 H4:=fun b o e=>off b o (ai e nx) (s4 _ _ e)
   refine⟨_,rfl,_,rfl,_,rfl,_,rfl,_,rfl,sc,ns,3,rfl,Du.seq hS3,fun d4=>?_⟩
   refine⟨l,nu,la,yM,ps,nums,al,n,d4,rfl,⟨Du _ _ DQ,yU.same Du Bu,Du _ _ KY,Du _ _ zw,yL,by omega,by omega,by omega⟩,CV,KA,fun Dr yR rs H5 s5 hDr gDr hR hO hG hC=>?_⟩
   have BX:yR.length=rs.length:=Paired.length hR
   have hrm:=hO.len
   refine fun tb KZ nt ndt net=>?_
   have s6:y8 H5 (upd (upd H5 KZ (.own tb)) tb (.ins ts.told KZ [])):=y8.new (y8.new (y8.refl H5) ndt) (by rw[af (Ne.symm net)];exact nt)
   have Hr:=s5.trans s6
   refine⟨tb,KZ,xl,AD,lt,Dr,(n:Int),yO,yR,ps,rs,rfl,ad,⟨Hr _ _ hL.1,Hr _ _ hL.2.1,yU.same Hr hL.2.2⟩,yC.of (s6 _ _ gDr),BV.same s6 hR,by omega,by omega,fun r hr=>⟨fun k hk=>by have:=j1 (hO.fit r hr) k hk;omega,by have:=hO.zD r hr;omega⟩,(fun i e=>by rw[hO.good]at e;cases e),fun _ H7 de yJ R7 Vz hd7 hv7=>⟨rfl,?_⟩⟩
   have s7:y8 H5 H7:=fun b o e=>R7 b o (ai e nt) (s6 _ _ e)
   have MT:=s5.trans s7
   have MU:=Du.trans MT
   have Es:∀ r ∈ rs,∀ k ∈ r.s,k < ps.length:=fun r hr=>j1 (hO.fit r hr)
   have La:∀ l,l < ps.length->∀ e:Nat,(ps.getD l (0,0)).2=(e:Int)->e < n:=fun l hl e he=>by
    obtain⟨a,b,e1,_,hb⟩:=oV yL hl
    rw[e1]at he
    have he:(b:Int)=(e:Int):=he
    omega
   have hO':qw ⟨0,0,tb,0,0,0,0,0,xl,AD,lt,n,yO,ps,ou rs⟩:=by
    refine⟨fun l pr hl=>?_,fun p g k=>by have:=(qx Es p g k).2;show(ou rs p g k).length <= 400;omega⟩
    have B9:=yL pr (mem_of_getElem? hl)
    unfold fM at B9
    simp only[Bool.and_eq_true,decide_eq_true_eq,Bool.not_eq_true',decide_eq_false_iff_not]at B9
    exact⟨pr.2.toNat,by omega,by show pr.2.toNat < n;omega⟩
   refine⟨⟨0,0,tb,0,0,0,0,0,xl,AD,lt,n,yO,ps,ou rs⟩,l,nu,la,yM,nums,al,Vy.trans (y8.zg MU),⟨⟨KZ,de,_,yJ,rs,Vz,hd7,hv7,(fun r hr k hk=>by have:=Es r hr k hk;omega),rfl⟩,⟨KZ,_,Vz,rfl,rfl⟩,⟨MT _ _ hL.1,MT _ _ hL.2.1,yU.same MT hL.2.2⟩,by show n <= 12;omega,by show ps.length <= 40;omega,fun p g k _ _ z hz=>(qx Es p g k).1 z hz⟩,hO',xj (show nums.length=ps.length by omega) DT R4 R5 hG hC La,MU _ _ DQ,zV,MU _ _ KY,MU _ _ zw,yL,fun x y _ _ hw Fo=>?_,by show ps.length <= 9;omega,CV,KA,rfl⟩
   subst Fo
   refine hw ?_
   show ou rs x x none=[]
   unfold ou ie
   cases Dk:cn rs (aN ⟨(x:Int),(x:Int),none,[]⟩) with
   | none=>rfl
   | some r =>
    exfalso
    obtain⟨e1,e2,_⟩:=kq (iX Dk)
    have hf:=hO.fit r (eG Dk)
    unfold dM at hf
    have ho:=(Bool.and_eq_true _ _ ▸ hf).1
    unfold fM at ho
    simp only[Bool.and_eq_true,decide_eq_true_eq,Bool.not_eq_true',decide_eq_false_iff_not]at ho
    exact ho.2.2 (e1.trans e2.symm)
  rintro σ Hc ⟨a0,l,nu,la,yM,nums,al,oHc,hT,hO,hP,gl,zV,KW,zw,yL,QI,hp9,CV,KA,rfl⟩
  have R8:yC K Hc sc (ns.map V.int):=qN B6 oHc hS
  refine⟨P2 P w K c ts ys sc ns,?_,?_⟩
  ·
   refine⟨_,rfl,_,rfl,_,rfl,la,_,rfl, .inl ⟨yC.of zw,fun ta hta=>?_⟩⟩
   have s1:=(y8.refl Hc).new (o := .tup (nV al)) hta
   have V0:(upd Hc ta (.tup (nV al))) ta=some (.tup (nV al)):=ad
   generalize upd Hc ta (.tup (nV al))=H1 at s1 V0 ⊢
   refine⟨by show 2 <= sizeLine;decide,fun pa BF=>?_⟩
   have u2:=(y8.refl H1).new (o := .tup [.ref nu, .ref ta]) BF
   have s2:=s1.trans u2
   refine⟨a0,pa,nu,ta,nums,al,rfl,ad,⟨zG.keep W hT (y8.yT s2),hO, .inl (yC.of (s2 _ _ KW)), .inr (yN.of (u2 _ _ V0)),hP⟩,fun H3 s3=>⟨rfl,_,rfl,?_⟩⟩
   generalize upd H1 pa (.tup [.ref nu, .ref ta])=H2 at s2 s3
   have V1:=s2.trans s3
   rw[tI]
   refine aH ⟨_,rfl,_,rfl,nu,_,rfl, .inl ⟨yC.of (V1 _ _ KW),fun tn htn=>⟨_,rfl,by show 2 <= sizeLine;decide,fun pb V2=>?_⟩⟩⟩
   have u4:=(y8.refl H3).new (o := .tup (nums.map V.int)) htn
   have V3:(upd H3 tn (.tup (nums.map V.int))) tn=some (.tup (nums.map V.int)):=ad
   generalize upd H3 tn (.tup (nums.map V.int))=H4 at u4 V3 V2 ⊢
   have u5:=(y8.refl H4).new (o := .tup [.ref tn, .ref la]) V2
   have K2:=V1.trans (u4.trans u5)
   refine⟨a0,pb,tn,la,nums,al,rfl,ad,⟨zG.keep W hT (y8.yT K2),hO, .inr (yN.of (u5 _ _ V3)), .inl (yC.of (K2 _ _ zw)),hP⟩,fun H6 s6=>⟨rfl,_,rfl,?_⟩⟩
   have R9:=K2.trans s6
   rw[tI]
   refine aH ?_
   have gl6:=R9 _ _ gl
   have hS6:=R9.seq R8
   refine⟨_,rfl,l,_,rfl, .inl (yC.of gl6),(yM.length:Int),rfl,by omega,by omega,?_⟩
   rw[toNat_natCast,zV]
   refine bu a0.ps.length (by rw[sizeLine_eq];omega) (fun i acc H'=>H' = H6/\∃ ks:List Int,acc=ks.map V.int/\ks.length=i/\∀ r ∈ ks,1 <= r/\r <= 60) ⟨rfl,[],rfl,rfl,fun r hr=>by cases hr⟩ (fun i acc H' h=>by obtain⟨_,ks,rfl,e,_⟩:=h;rw[length_map];omega) (fun i acc H' hi h=>?_) (fun acc H' h=>?_)
   ·obtain⟨rfl,ks,rfl,e,hks⟩:=h
    refine⟨hi,fun v H2 y=>?_⟩
    obtain⟨rfl,rfl⟩:=y
    rw[zero_add]
    refine⟨_,rfl,sc,ns,3,rfl,hS6,fun d=>⟨_,rfl,_,_,rfl,rfl,d,99 + i,rfl,by omega,fun z hz=>⟨_,_,rfl,rfl,(by show (0:Int) < 3;decide),_,_,rfl,rfl,rfl,ks ++ [1 + z % 3],by rw[map_append];rfl,by rw[length_append,e];rfl,fun r hr=>?_⟩⟩⟩
    rcases mem_append.mp hr with hr | hr
    ·exact hks r hr
    ·rw[mem_singleton.mp hr];exact⟨by omega,by omega⟩
   obtain⟨rfl,rs,rfl,BX,Fn⟩:=h
   refine⟨Nat.le_refl _,fun ro FI=>?_⟩
   have u7:=R9.new (o := .lst (rs.map V.int)) FI
   have KS:(upd H' ro (.lst (rs.map V.int))) ro=some (.lst (rs.map V.int)):=ad
   show dv 6 (V.ref ro) _ (upd H' ro (.lst (rs.map V.int))) _
   generalize upd H' ro (.lst (rs.map V.int))=H7 at u7 KS ⊢
   have hT7:=zG.keep W hT (y8.yT u7)
   refine⟨_,rfl,_,rfl,fun y dy ny PQ PR=>uh (ui (P:=P) (w:=w) (ys:=ys) (ex:=[]) W hT7 hO.zD yL (yC.of KS) BX Fn (by omega) (fun z hz=>by cases hz) y dy ny PQ PR) fun v H8 h=>⟨h.1,?_⟩⟩
   obtain⟨_,a,ea,e1,e2,e3,e4,s8,fr,hI,hJ⟩:=h
   obtain⟨ay,ady,atb,aro,ala,ale,ali,adn,alx,RA,alt,an,RB,aps,awy⟩:=a
   dsimp only at e1 e2 e3 e4
   subst e1 e2 e3 e4
   injection ea with ea
   subst ea
   generalize hA:(⟨y,ady,a0.tb,aro,ala,ale,ali,adn,alx,RA,alt,a0.n,RB,a0.ps,a0.wy⟩:YA)=a at fr hI hJ
   have hay:a.y=y:=by rw[← hA]
   have Fq:a.n=a0.n:=by rw[← hA]
   have Hn:a.tb=a0.tb:=by rw[← hA]
   have EA:a.ps=a0.ps:=by rw[← hA]
   have Lb:a.wy=a0.wy:=by rw[← hA]
   rw[← Fq]at hI hJ
   have V4:=(u7.trans s8).seq R8
   refine⟨_,rfl,sc,ns,4,rfl,V4,fun d1=>⟨_,_,rfl,rfl,(by show (0:Int) < 4;decide),_,_,rfl,rfl,?_⟩⟩
   obtain⟨m,hm,hm4⟩:∃ m:Nat,(1:Int) + d1 % 4=(m:Int)/\m <= 4:=⟨(1 + d1 % 4).toNat,by omega,by omega⟩
   refine⟨(m:Int),by rw[← hm],by omega,by omega,?_⟩
   rw[toNat_natCast]
   refine bu m (by rw[sizeLine_eq];omega) (fun i acc H'=>H' = H8/\∃ ks:List Int,acc=ks.map V.int/\ks.length=i) ⟨rfl,[],rfl,rfl⟩ (fun i acc H' h=>by obtain⟨_,ks,rfl,e⟩:=h;rw[length_map];omega) (fun i acc H' hi h=>?_) (fun acc H' h=>?_)
   ·obtain⟨rfl,ks,rfl,e⟩:=h
    refine⟨hi,fun v H2 y=>?_⟩
    obtain⟨rfl,rfl⟩:=y
    rw[zero_add]
    exact⟨_,rfl,sc,ns,4,rfl,V4,fun d=>⟨_,rfl,d,i,rfl,by omega,fun z hz=>⟨rfl,ks ++ [z],by rw[map_append];rfl,by rw[length_append,e];rfl⟩⟩⟩
   obtain⟨rfl,ks,rfl,zK⟩:=h
   refine⟨Nat.le_refl _,fun cs EH=>?_⟩
   have u9:=(y8.refl H').new (o := .lst (ks.map V.int)) EH
   have KI:(upd H' cs (.lst (ks.map V.int))) cs=some (.lst (ks.map V.int)):=ad
   have QJ:cs ∉ a.four:=ge hI.Y EH
   have RC:H7 cs=none:=s8.free EH
   show dv 8 (V.ref cs) _ (upd H' cs (.lst (ks.map V.int))) _
   generalize upd H' cs (.lst (ks.map V.int))=H9 at u9 KI ⊢
   refine⟨zero_le _,fun md HJ=>?_⟩
   have MV:=u9.new (o := .lst []) HJ
   have E8:(upd H9 md (.lst [])) md=some (.lst []):=ad
   have GJ:H' md=none:=u9.free HJ
   have V5:cs ≠ md:=ai KI HJ
   have nm4:md ∉ a.four:=ge hI.Y GJ
   have FO:(upd H9 md (.lst [])) cs=some (.lst (ks.map V.int)):=by rw[af V5];exact KI
   generalize upd H9 md (.lst [])=Df at MV E8 FO ⊢
   have k0:y8 (upd H7 cs (.lst (ks.map V.int))) Df:=fun b o e=>by
    by_cases z:b=cs
    ·subst z;rw[ad]at e;cases e;exact FO
    ·rw[af z]at e;exact MV _ _ (s8 _ _ e)
   have nz:∀ z:Addr,z ≠ cs->H7 z=none->upd H7 cs (.lst (ks.map V.int)) z=none:=fun z h1 h2=>by rw[af h1];exact h2
   have RD:∀ {b:Addr}{o:HO},H7 b=some o->upd H7 cs (.lst (ks.map V.int)) b=some o:=fun e=>by rw[af (ai e RC)];exact e
   refine⟨a,l,nu,la,ro,cs,md,yM,nums,al,rs,ks,zr,upd H7 cs (.lst (ks.map V.int)),⟨k0,⟨zx.UD (e:=[]) hI.Y MV fun z hz=>by rw[mem_singleton.mp hz];exact .inr ⟨GJ,_,E8⟩,zG.keep W hI.T (y8.yT MV),hI.O,?_⟩,?_,?_,(fun m t h=>by cases h),(fun p hp=>by cases hp),rfl,(fun t ht=>by cases ht),⟨[],E8,rfl⟩⟩,⟨?_,fun z hz=>?_,nm4,Fn⟩,?_,RD (u7 _ _ gl),?_,RD KS,?_,ad,by omega,?_,?_,?_,?_⟩
   ·exact hI.G
   ·exact hJ
   ·exact Qh Fn
   ·rw[Fq,EA,Lb];exact hP
   ·rcases mem_cons.mp hz with rfl | hz
    ·exact nz _ (Ne.symm V5) (s8.free GJ)
    ·exact nz _ (fun e=>QJ (e ▸ hz)) (fr z hz)
   ·exact(show y8 H7 (upd H7 cs (.lst (ks.map V.int))) from fun b o e=>RD e).seq (u7.seq R8)
   ·rw[EA];exact zV
   ·rw[EA];exact BX
   ·rw[Fq,Lb];exact QI
   ·rw[EA];exact hp9
   ·rw[Fq];exact KA
   ·rw[hay,Fq,Hn];rfl
  rintro σ H1 ⟨a,l,nu',la',ro,cs,md,Ph,Ft,V6,rs,ks,N,H0,hR,hc,RE,Pz,RF,RG,BX,Lc,zK,Ld,hp9',hn5',rfl⟩
  have two:∀ z:Addr,z ∈ [a.le,a.dn]->z ∈ a.four:=fun z hz=>by simp only[mem_cons,not_mem_nil,or_false]at hz ⊢;rcases hz with rfl | rfl<;>simp
  refine⟨_,rfl,_,rfl,_,rfl,_,rfl,cs,_,rfl,yC.of (hR.e _ _ Lc),fun c1 Jo=>?_⟩
  rw[show fL (ks.map V.int) none (some (2:Int))=(ks.take 2).map V.int by rw[show (2:Int)=((2:Nat):Int) from rfl,v9,map_take]]
  have u1:=(y8.refl H1).new (o := .lst ((ks.take 2).map V.int)) Jo
  have g1:(upd H1 c1 (.lst ((ks.take 2).map V.int))) c1=some (.lst ((ks.take 2).map V.int)):=ad
  have nc1:c1 ∉ a.four:=ge hR.I.Y Jo
  generalize upd H1 c1 (.lst ((ks.take 2).map V.int))=H2 at u1 g1 ⊢
  have CQ:=hR.same W u1
  have PK:(ks.take 2).length <= 2:=length_take_le _ _
  refine⟨[md],a,_,c1,ks.take 2,rfl,CQ.I.Y,CQ.I.T,CQ.J,CQ.W,Ld,g1,nc1,by omega,zero_le _,zero_le _,fun H3 sA o3 Aw hJA hWA hPA V7 V8=>?_⟩
  obtain⟨NA,V9⟩:=CQ.DC W hc o3 Aw hJA hWA hPA
  have V7:sA.U.length <= 0 + (ks.take 2).length:=V7
  have V8:sA.done.length <= 0 + (ks.take 2).length:=V8
  refine⟨_,rfl,_,rfl,_,rfl,_,rfl,sc,ns,4,rfl,V9.e.seq RE,fun d1=>⟨_,_,rfl,rfl,⟨by decide,by decide⟩,_,_,rfl,rfl,(by show (0:Int) < 20;decide),?_⟩⟩
  obtain⟨m,hm,hm20⟩:∃ m:Nat,d1 / 4 % 20=(m:Int)/\m <= 20:=⟨(d1 / 4 % 20).toNat,by omega,by omega⟩
  refine⟨a,sA,NA,Ft,V6,rs,ns,md,sc,H0,m,by rw[← hm];rfl,V9,hc,RE,by omega,by omega,fun H4 sB NB RH hlB hdB _=>⟨_,rfl,aH ?_⟩⟩
  have hlBl:sB.U.length=sA.U.length:=by have:=congrArg List.length hlB;rw[length_map,length_map]at this;exact this
  refine⟨_,rfl,_,rfl,_,rfl,_,rfl,cs,_,rfl,yC.of (RH.e _ _ Lc),fun c2 Az=>?_⟩
  rw[show fL (ks.map V.int) (some (2:Int)) none=(ks.drop 2).map V.int by rw[show (2:Int)=((2:Nat):Int) from rfl,qm,List.map_drop]]
  have u5:=(y8.refl H4).new (o := .lst ((ks.drop 2).map V.int)) Az
  have g5:(upd H4 c2 (.lst ((ks.drop 2).map V.int))) c2=some (.lst ((ks.drop 2).map V.int)):=ad
  have nc2:c2 ∉ a.four:=ge RH.I.Y Az
  generalize upd H4 c2 (.lst ((ks.drop 2).map V.int))=H5 at u5 g5 ⊢
  have Le:=RH.same W u5
  have hk3:(ks.drop 2).length <= 4:=by rw[length_drop];omega
  refine⟨[md],a,sB,c2,ks.drop 2,rfl,Le.I.Y,Le.I.T,Le.J,Le.W,Ld,g5,nc2,by omega,by omega,by omega,fun H6 sC o6 MR hJC hWC hPC hlC hdC=>?_⟩
  obtain⟨NC,RI⟩:=Le.DC W hc o6 MR hJC hWC hPC
  have Mx:=pf RI.l4
  obtain⟨x,hx⟩:∃ x:Nat,kd sC=(x:Int):=⟨(kd sC).toNat,by have:0 <= kd sC:=Mx.1;omega⟩
  have RJ:x <= 40:=by have:kd sC <= 4 * sC.U.length:=Mx.2;omega
  have hM:x * (2 * a.ps.length + 1) <= 40 * 19:=Nat.mul_le_mul RJ (by omega)
  have eM:kd sC * ((2 * a.ps.length + 1:Nat):Int)=((x * (2 * a.ps.length + 1):Nat):Int):=by rw[hx];exact(Int.natCast_mul _ _).symm
  refine⟨_,rfl,_,rfl,_,rfl,_,rfl,[md],a,sC,rfl,RI.I,by omega,fun H7 s7=>⟨_,_,rfl,rfl,?_⟩⟩
  dsimp only
  rw[eM]
  have KD:=RI.same W s7
  refine⟨a,sC,NC,Ft,V6,rs,ns,md,sc,H0,x * (2 * a.ps.length + 1) + 1,rfl,KD,hc,RE,by omega,by omega,fun H8 sD ND HK hlD Tw hmD=>⟨_,rfl,?_⟩⟩
  have eD:kd sD * ((2 * a.ps.length + 1:Nat):Int)=((x * (2 * a.ps.length + 1):Nat):Int):=by
   rw[← eM]
   show(sD.U.map (·.len)).sum * _=(sC.U.map (·.len)).sum * _
   rw[hlD]
  have mo:=HK.C.most HK.J
  rw[eD]at mo
  obtain⟨za,E8,Kc⟩:=HK.md
  have h60:=HK.J.zD
  refine aH ⟨_,rfl,md,_,rfl, .inl (yC.of E8),_,rfl,[md],a,sD,rfl,HK.I,by omega,fun H9 s9=>⟨_,_,rfl,rfl,_,rfl,?_⟩⟩
  rw[eD,decide_eq_false (show ¬ ((x * (2 * a.ps.length + 1):Nat):Int) < ((za.length:Nat):Int) by omega)]
  have MO:bX a sD=[]:=hmD.elim id fun h=>by omega
  have Lf:=HK.same W s9
  have hF:=yg Lf hc BX MO
  refine aH ⟨_,rfl,_,rfl,l,_,rfl, .inl (yC.of (Lf.e _ _ Pz)),_,rfl,_,rfl,a,sD,ro,rs,?_,zx.UD (e:=[md]) (e':=[]) Lf.I.Y (y8.refl _) (fun b hb=>by cases hb),Lf.J,by omega,hF,Lf.e _ _ RG,q⟩
  rw[RF];rfl
theorem len_of1 {α:Type}{P:List α->Prop}(h:∀ a0,P [a0]):∀ us:List α,us.length=1->P us
 | [a0],_=>h a0
theorem len_of2 {α:Type}{P:List α->Prop}(h:∀ a0 a1,P [a0,a1]):∀ us:List α,us.length=2->P us
 | [a0,a1],_=>h a0 a1
theorem len_of3 {α:Type}{P:List α->Prop}(h:∀ a0 a1 a2,P [a0,a1,a2]):∀ us:List α,us.length=3->P us
 | [a0,a1,a2],_=>h a0 a1 a2
theorem len_of4 {α:Type}{P:List α->Prop}(h:∀ a0 a1 a2 a3,P [a0,a1,a2,a3]):∀ us:List α,us.length=4->P us
 | [a0,a1,a2,a3],_=>h a0 a1 a2 a3
theorem len_of5 {α:Type}{P:List α->Prop}(h:∀ a0 a1 a2 a3 a4,P [a0,a1,a2,a3,a4]):∀ us:List α,us.length=5->P us
 | [a0,a1,a2,a3,a4],_=>h a0 a1 a2 a3 a4
theorem len_of7 {α:Type}{P:List α->Prop}(h:∀ a0 a1 a2 a3 a4 a5 a6,P [a0,a1,a2,a3,a4,a5,a6]):∀ us:List α,us.length=7->P us
 | [a0,a1,a2,a3,a4,a5,a6],_=>h a0 a1 a2 a3 a4 a5 a6
structure FT (K:Frag)(mg:Str->Option Value)(n:Str)(st:Stmt)(ps:List Str)(f:Addr)(fd:FuncData):Prop where
 F:yY K n n st f fd
 m:mg n=some (.ref f)
 k:keepIn K (.ref f)=true
 b:Binds K fd ps []
structure FM (K:Frag)(C:Addr)(n q:Str)(st:Stmt)(ps:List Str)(f:Addr)(fd:FuncData):Prop where
 F:yY K n q st f fd
 m:bM K C n f
 b:Binds K fd ps []
section
variable {K:Frag}{mg:Str->Option Value}{C f:Addr}{n q:Str}{st:Stmt}{ps:List Str}{h:Heap}{oc:Value}{od an:Option Addr}{By:Array (Option Value)}{kV doc pm cdv ct:Value}
theorem mkT (X:K.In h)(G:h.Ns mainGlobals mg)(hb:∀ (kV doc pm:Value) (an:Option Addr) (cdv ct:Value) (us:List Value),us.length=ps.length->bindArgs (fnOf n n (bN st) (aF st) (ah st) .none kV doc pm an cdv ct) ⟨us,[]⟩ = pure (ps.zip us))
  (a:nsIn K mainGlobals n=some (some (.ref f))) (l:K.lookup f=some ⟨oc,od, .func (fnOf n n (bN st) (aF st) (ah st) .none kV doc pm an cdv ct),By⟩) (c:codeIn K cdv n=true) (k:keepIn K (.ref f)=true):∃ fd,FT K mg n st ps f fd :=
 ⟨_,gY l c k,mg_of X G a,k,(gY l c k).binds hb⟩
theorem mkM (hb:∀ (kV doc pm:Value) (an:Option Addr) (cdv ct:Value) (us:List Value),us.length=ps.length->bindArgs (fnOf n q (bN st) (aF st) (ah st) .none kV doc pm an cdv ct) ⟨us,[]⟩ = pure (ps.zip us))
  (a:findIn K (.ref C) n=some (some (.ref f))) (l:K.lookup f=some ⟨oc,od, .func (fnOf n q (bN st) (aF st) (ah st) .none kV doc pm an cdv ct),By⟩) (c:codeIn K cdv q=true) (k:keepIn K (.ref f)=true) (i:isFn K (.ref f)=true):∃ fd,FM K C n q st ps f fd :=
 ⟨_,gY l c k,⟨a,i,k⟩,(gY l c k).binds hb⟩
end
section
variable {l:PySem.W.OpenLaw}{w:World}{K:Frag}{h:Heap}{mg:Str->Option Value}{fa cL cB cD cA cH cJ f1 f2 f3 f4 f5 f6 f7 f8 f9 VA LU VB VC VD VE VF VG VH VI VJ VL VM VN VO MW VP VQ VR VS VT RK RL RM VU VV MX RN RO RP VW RQ VX RS RT VY VZ RU Wb GK HL Wc RV RW RX RY Wd RZ We Sa Sb Sd Se Sf Wg Wh Wi Wj Wk:Addr}{t1 t2 t3 t4 t5:Tok}
theorem all_mk (X:K.In h)(G:h.Ns mainGlobals mg)(hfa:mg "law" = some (.ref fa))
  {Sg Sh Si Lg Sj Lh Sk Li:Option Addr} {Sl Sm Sn Sr:Array (Option Value)} {Ss Su Sv Sw GL Sy Sz Lj Lk Ll GN Lm S0 Ln Lo Lp GQ Lq S1 Lr Ls Lu GR Lv oTb:Value} {cc Tb:Addr} {dTb:Option Addr} {Wl:Array Value} {sTb:Array (Option Value)}
  {Lw Lx:Addr} {S2 S3:Value} {S4 S5:Option Addr} {S6 S7:Nat} {S8:Tok}  {S9 SA:Array (Option Value)}
  (gcL:nsIn K mainGlobals "Land" = some (some (.ref cL)))
  (gcB:nsIn K mainGlobals "Table" = some (some (.ref cB)))
  (gcD:nsIn K mainGlobals "Told" = some (some (.ref cD)))
  (gcA:nsIn K mainGlobals "Lane" = some (some (.ref cA)))
  (gcH:nsIn K mainGlobals "Letter" = some (some (.ref cH)))
  (gcJ:nsIn K mainGlobals "Yard" = some (some (.ref cJ)))
  (h1:∃ d,FT K mg "has" uw ["some", "number"] f1 d)
  (h2:∃ d,FT K mg "members" rE ["some"] f2 d)
  (h3:∃ d,FT K mg "set_of" wS ["numbers"] f3 d)
  (h4:∃ d,FT K mg "is_whole" fE ["value"] f4 d)
  (h5:∃ d,FT K mg "is_within" i6 ["value", "least", "most"] f5 d)
  (h6:∃ d,FT K mg "is_one_of" wU ["value", "numbers"] f6 d)
  (h7:∃ d,FT K mg "are_two_places" wP ["places", "one", "other"] f7 d)
  (h8:∃ d,FT K mg "row_fits" ls ["land", "row"] f8 d)
  (h9:∃ d,FT K mg "onward" OF ["table", "lane", "goal"] f9 d)
  (h10:∃ d,FT K mg "starts" jN ["table"] VA d)
  (h11:∃ d,FT K mg "has_size" kZ ["land", "numbers", "sets"] LU d)
  (h12:∃ d,FT K mg "start_fault" wR ["table", "sets"] VB d)
  (h13:∃ d,FT K mg "way_fault" rq ["numbers", "sets", "lane", "goal", "way"] VC d)
  (h14:∃ d,FT K mg "pair_fault" ng ["table", "numbers", "sets", "lane", "goal"] VD d)
  (h15:∃ d,FT K mg "lane_fault" n0 ["table", "numbers", "sets", "lane"] VE d)
  (h16:∃ d,FT K mg "fault" n9 ["table", "paper"] VF d)
  (h17:∃ d,FT K mg "most_moves" lg ["yard"] VG d)
  (h18:∃ d,FT K mg "rooms_of" fF ["land", "rooms"] VH d)
  (h19:∃ d,FT K mg "is_word" rp ["word"] VI d)
  (h20:∃ d,FT K mg "is_move" ll ["move"] VJ d)
  (h21:∃ d,FT K mg "_law_cell_at" rM ["_law_script", "_law_k"] VL d)
  (h22:∃ d,FT K mg "_law_mixed" wV ["_law_cell", "_law_k"] VM d)
  (h23:∃ d,FT K mg "_law_lanes" nr ["_law_places", "_law_amount", "_law_cell"] VN d)
  (h24:∃ d,FT K mg "_law_numbers" rD ["_law_amount", "_law_cell"] VO d)
  (a25:nsIn K mainGlobals "_law_alive" = some (some (.ref MW)))
  (l25:K.lookup MW=some ⟨Ss,Sg, .func (fnOf "_law_alive" "_law_alive" (bN dE) (aF dE) (ah dE) .none Su Sv Sw Sh GL Sy),Sl⟩)
  (c25:codeIn K GL "_law_alive" = true)
  (k25:keepIn K (.ref MW)=true)
  (h26:∃ d,FT K mg "_law_entry" iN ["_law_lanes_here", "_law_numbers_here", "_law_alive_here", "_law_place", "_law_goal", "_law_came", "_law_draw"] VP d)
  (h27:∃ d,FT K mg "_law_made" lj ["_law_places", "_law_lanes_here", "_law_numbers_here", "_law_alive_here", "_law_cell"] VQ d)
  (h28:∃ d,FT K mg "_law_posts" fU ["_law_yard", "_law_places", "_law_cells"] VR d)
  (h29:∃ d,FT K mg "_law_goes_on" rK ["_law_yard", "_law_script", "_law_made_here", "_law_most"] VS d)
  (h30:∃ d,FT K mg "_law_at_last" bR ["_law_yard", "_law_lanes_here", "_law_places", "_law_rooms"] VT d)
  (a31:nsIn K mainGlobals "law" = some (some (.ref RK)))
  (l31:K.lookup RK=some ⟨Sz,Si, .func (fnOf "law" "law" (bN gJ) (aF gJ) (ah gJ) .none Lj Lk Ll Lg GN Lm),Sm⟩)
  (c31:codeIn K GN "law" = true)
  (k31:keepIn K (.ref RK)=true)
  (h32:∃ d,FM K cL "__init__" "Land.__init__" lp ["self", "places", "lanes"] RL d)
  (h33:∃ d,FM K cL "end_of" "Land.end_of" xa ["self", "lane"] RM d)
  (h34:∃ d,FM K cL "out_of" "Land.out_of" rB ["self", "place"] VU d)
  (h35:∃ d,FM K cL "into" "Land.into" lm ["self", "place"] VV d)
  (h36:∃ d,FM K cB "__init__" "Table.__init__" wQ ["self", "land"] MX d)
  (h37:∃ d,FM K cD "__init__" "Told.__init__" r6 ["self", "land", "rows"] RN d)
  (h38:∃ d,FM K cD "ways" "Told.ways" nc ["self", "place", "goal", "came"] RO d)
  (h39:∃ d,FM K cA "__init__" "Lane.__init__" wY ["self", "room"] RP d)
  (h40:∃ d,FM K cA "open_to" "Lane.open_to" rC ["self", "letter", "count"] VW d)
  (h41:∃ d,FM K cA "put" "Lane.put" wT ["self", "letter", "count", "last"] RQ d)
  (h42:∃ d,FM K cA "front" "Lane.front" n8 ["self"] VX d)
  (h43:∃ d,FM K cA "pull" "Lane.pull" r8 ["self"] RS d)
  (h44:∃ d,FM K cA "bring" "Lane.bring" nB ["self"] RT d)
  (h45:∃ d,FM K cA "told" "Lane.told" wX ["self"] VY d)
  (h46:∃ d,FM K cA "twin" "Lane.twin" wW ["self"] VZ d)
  (h47:∃ d,FM K cH "__init__" "Letter.__init__" rJ ["self", "start", "goal", "length", "word"] RU d)
  (h48:∃ d,FM K cH "twin" "Letter.twin" rG ["self"] Wb d)
  (a49:findIn K (.ref cJ) "__init__" = some (some (.ref GK)))
  (l49:K.lookup GK=some ⟨S0,Sj, .func (fnOf "__init__" "Yard.__init__" (bN gI) (aF gI) (ah gI) (.ref Lw) Ln Lo Lp Lh GQ Lq),Sn⟩)
  (d49:K.lookup Lw=some ⟨S2,S4, .seq #[Value.none] S6,S9⟩)
  (c49:codeIn K GQ "Yard.__init__" = true)
  (k49:keepIn K (.ref GK)=true)
  (i49:isFn K (.ref GK)=true)
  (a50:findIn K (.ref cJ) "post" = some (some (.ref HL)))
  (l50:K.lookup HL=some ⟨S1,Sk, .func (fnOf "post" "Yard.post" (bN fT) (aF fT) (ah fT) (.ref Lx) Lr Ls Lu Li GR Lv),Sr⟩)
  (d50:K.lookup Lx=some ⟨S3,S5, .seq #[Value.int 0 S8] S7,SA⟩)
  (c50:codeIn K GR "Yard.post" = true)
  (k50:keepIn K (.ref HL)=true)
  (i50:isFn K (.ref HL)=true)
  (h51:∃ d,FM K cJ "moves" "Yard.moves" nj ["self"] Wc d)
  (h52:∃ d,FM K cJ "moves_in" "Yard.moves_in" lf ["self", "number"] RV d)
  (h53:∃ d,FM K cJ "moves_on" "Yard.moves_on" ld ["self", "lane"] RW d)
  (h54:∃ d,FM K cJ "moves_lie" "Yard.moves_lie" nh ["self", "lane"] RX d)
  (h55:∃ d,FM K cJ "moves_back" "Yard.moves_back" jP ["self", "lane"] RY d)
  (h56:∃ d,FM K cJ "wanted" "Yard.wanted" fS ["self", "lane"] Wd d)
  (h57:∃ d,FM K cJ "moves_like" "Yard.moves_like" rF ["self", "move"] RZ d)
  (h58:∃ d,FM K cJ "do" "Yard.do" OG ["self", "move"] We d)
  (h59:∃ d,FM K cJ "go_in" "Yard.go_in" rL ["self", "number", "lane"] Sa d)
  (h60:∃ d,FM K cJ "enter" "Yard.enter" nA ["self", "piece", "lane"] Sb d)
  (h61:∃ d,FM K cJ "lay" "Yard.lay" wZ ["self", "piece", "place"] Sd d)
  (h62:∃ d,FM K cJ "own_lane" "Yard.own_lane" rA ["self", "lane"] Se d)
  (h63:∃ d,FM K cJ "own_letter" "Yard.own_letter" r9 ["self", "number"] Sf d)
  (h64:∃ d,FM K cJ "ended" "Yard.ended" fG ["self"] Wg d)
  (h65:∃ d,FM K cJ "lane_told" "Yard.lane_told" nv ["self", "lane"] Wh d)
  (h66:∃ d,FM K cJ "letter_told" "Yard.letter_told" rH ["self", "number"] Wi d)
  (h67:∃ d,FM K cJ "lying" "Yard.lying" nq ["self", "place"] Wj d)
  (h68:∃ d,FM K cJ "posted" "Yard.posted" jO ["self"] Wk d)
  (mp:nsIn K mainGlobals "MOST_PLACES" = some (some (.int 12 t1)))
  (ml:nsIn K mainGlobals "MOST_LANES" = some (some (.int 40 t2)))
  (mr:nsIn K mainGlobals "MOST_ROOM" = some (some (.int 60 t3)))
  (mh:nsIn K mainGlobals "MOST_LENGTH" = some (some (.int 60 t4)))
  (mk:nsIn K mainGlobals "MOST_LETTERS" = some (some (.int 60 t5)))
  (p1cL:plainGet K cL Str.empty=true)
  (p2cL:hasDictIn K cL=true)
  (p3cL:plainOver K cL=true)
  (p4cL:findIn K (.ref cL) "__setattr__" = some (some (.builtin "object.__setattr__")))
  (p5cL:makesIn K cL=true)
  (p6cL:keepIn K (.ref cL)=true)
  (ncLplaces:findIn K (.ref cL) "places" = some none)
  (ncLlanes:findIn K (.ref cL) "lanes" = some none)
  (p1cB:plainGet K cB Str.empty=true)
  (p2cB:hasDictIn K cB=true)
  (p3cB:plainOver K cB=true)
  (p4cB:findIn K (.ref cB) "__setattr__" = some (some (.builtin "object.__setattr__")))
  (p5cB:makesIn K cB=true)
  (p6cB:keepIn K (.ref cB)=true)
  (ncBland:findIn K (.ref cB) "land" = some none)
  (p1cD:plainGet K cD Str.empty=true)
  (p2cD:hasDictIn K cD=true)
  (p3cD:plainOver K cD=true)
  (p4cD:findIn K (.ref cD) "__setattr__" = some (some (.builtin "object.__setattr__")))
  (p5cD:makesIn K cD=true)
  (p6cD:keepIn K (.ref cD)=true)
  (ncDland:findIn K (.ref cD) "land" = some none)
  (ncDentries:findIn K (.ref cD) "entries" = some none)
  (p1cA:plainGet K cA Str.empty=true)
  (p2cA:hasDictIn K cA=true)
  (p3cA:plainOver K cA=true)
  (p4cA:findIn K (.ref cA) "__setattr__" = some (some (.builtin "object.__setattr__")))
  (p5cA:makesIn K cA=true)
  (p6cA:keepIn K (.ref cA)=true)
  (ncArights:findIn K (.ref cA) "rights" = some none)
  (ncAreturning:findIn K (.ref cA) "returning" = some none)
  (ncAholder:findIn K (.ref cA) "holder" = some none)
  (ncApieces:findIn K (.ref cA) "pieces" = some none)
  (p1cH:plainGet K cH Str.empty=true)
  (p2cH:hasDictIn K cH=true)
  (p3cH:plainOver K cH=true)
  (p4cH:findIn K (.ref cH) "__setattr__" = some (some (.builtin "object.__setattr__")))
  (p5cH:makesIn K cH=true)
  (p6cH:keepIn K (.ref cH)=true)
  (ncHstart:findIn K (.ref cH) "start" = some none)
  (ncHgoal:findIn K (.ref cH) "goal" = some none)
  (ncHlength:findIn K (.ref cH) "length" = some none)
  (ncHword:findIn K (.ref cH) "word" = some none)
  (ncHgone:findIn K (.ref cH) "gone" = some none)
  (ncHway:findIn K (.ref cH) "way" = some none)
  (p1cJ:plainGet K cJ Str.empty=true)
  (p2cJ:hasDictIn K cJ=true)
  (p3cJ:plainOver K cJ=true)
  (p4cJ:findIn K (.ref cJ) "__setattr__" = some (some (.builtin "object.__setattr__")))
  (p5cJ:makesIn K cJ=true)
  (p6cJ:keepIn K (.ref cJ)=true)
  (ncJtable:findIn K (.ref cJ) "table" = some none)
  (ncJrooms:findIn K (.ref cJ) "rooms" = some none)
  (ncJlanes:findIn K (.ref cJ) "lanes" = some none)
  (ncJletters:findIn K (.ref cJ) "letters" = some none)
  (ncJlies:findIn K (.ref cJ) "lies" = some none)
  (ncJdone:findIn K (.ref cJ) "done" = some none)
  (w1cB:PySem.W.readsIn K cB (.type "type")=true)
  (w2cB:PySem.W.findCls K (.ref cB) (.type "type") "__init__" = some (.val (.ref MX)))
  (w3cB:PySem.W.specialIn K (.ref cB) "__getattribute__" = some (some (.builtin "type.__getattribute__")))
  (kk1:kitOne K (.type "int") (.type "int")=some true)
  (kk2:kitOne K (.type "int") (.type "bool")=some false)
  (kk3:kitOne K (.type "bool") (.type "int")=some true)
  (kk4:kitOne K (.type "bool") (.type "bool")=some true)
  (kk5:kitOne K (.type "NoneType") (.type "int")=some false)
  (kk6:kitOne K (.type "str") (.type "str")=some true)
  (kk7:kitOne K (.type "int") (.type "str")=some false)
  (kk8:kitOne K (.type "tuple") (.type "tuple")=some true)
  (kk9:kitOne K (.type "list") (.type "list")=some true)
  (z0:nsIn K mainGlobals "isinstance" = some none)
  (z1:nsIn K mainGlobals "int" = some none)
  (z2:nsIn K mainGlobals "bool" = some none)
  (z3:nsIn K mainGlobals "len" = some none)
  (z4:nsIn K mainGlobals "enumerate" = some none)
  (z5:nsIn K mainGlobals "tuple" = some none)
  (z6:nsIn K mainGlobals "range" = some none)
  (z7:nsIn K mainGlobals "list" = some none)
  (z8:nsIn K mainGlobals "all" = some none)
  (z9:nsIn K mainGlobals "sum" = some none)
  (z10:nsIn K mainGlobals "abs" = some none)
  (z11:nsIn K mainGlobals "str" = some none)
  (z12:nsIn K mainGlobals "max" = some none)
  (z13:nsIn K mainGlobals "sorted" = some none)
  (hc0:GL=Value.ref cc)
  (lc0:K.lookup cc=some ⟨oTb,dTb, .fields Wl,sTb⟩)
  (hv0:Wl[11]? = some (Value.ref Tb))
  : ∃ (fd:FuncData)(c Tb:Addr),PySem.W.tabIn K "_law_alive" = some (c,Tb)/\(∀ (s:Shared)(v:Value),BindsTo s fd ⟨[v],[]⟩ [("_law_script",v)])/\∀ base:Heap,K.In base->base.Ns mainGlobals mg->DI mg base c Tb->y9 l.prog w K mg base aC 11 fa fd ["_law_script"] (oH K Tb):=by
 have e:=hfa.symm.trans (mg_of X G a31)
 cases e
 have T:dP mg:=⟨mg_none_of X G z0,mg_none_of X G z1,mg_none_of X G z2,mg_none_of X G z3,mg_none_of X G z4,mg_none_of X G z5,mg_none_of X G z6,mg_none_of X G z7,mg_none_of X G z8,mg_none_of X G z9,mg_none_of X G z10,mg_none_of X G z11,mg_none_of X G z12,mg_none_of X G z13⟩
 obtain⟨d1,H1⟩:=h1
 obtain⟨d2,H2⟩:=h2
 obtain⟨d3,H3⟩:=h3
 obtain⟨d4,H4⟩:=h4
 obtain⟨d5,H5⟩:=h5
 obtain⟨d6,H6⟩:=h6
 obtain⟨d7,H7⟩:=h7
 obtain⟨d8,H8⟩:=h8
 obtain⟨d9,H9⟩:=h9
 obtain⟨d10,Df⟩:=h10
 obtain⟨d11,MY⟩:=h11
 obtain⟨d12,MZ⟩:=h12
 obtain⟨d13,Na⟩:=h13
 obtain⟨d14,Nb⟩:=h14
 obtain⟨d15,Nc⟩:=h15
 obtain⟨d16,Nd⟩:=h16
 obtain⟨d17,Nf⟩:=h17
 obtain⟨d18,Ng⟩:=h18
 obtain⟨d19,Nh⟩:=h19
 obtain⟨d20,Ni⟩:=h20
 obtain⟨d21,GS⟩:=h21
 obtain⟨d22,BH⟩:=h22
 obtain⟨d23,Nj⟩:=h23
 obtain⟨d24,Nk⟩:=h24
 obtain⟨d26,Nl⟩:=h26
 obtain⟨d27,Nm⟩:=h27
 obtain⟨d28,Nn⟩:=h28
 obtain⟨d29,Np⟩:=h29
 obtain⟨d30,Nq⟩:=h30
 obtain⟨d32,Nr⟩:=h32
 obtain⟨d33,SD⟩:=h33
 obtain⟨d34,SE⟩:=h34
 obtain⟨d35,SF⟩:=h35
 obtain⟨d36,SG⟩:=h36
 obtain⟨d37,Nt⟩:=h37
 obtain⟨d38,SH⟩:=h38
 obtain⟨d39,Ly⟩:=h39
 obtain⟨d40,GU⟩:=h40
 obtain⟨d41,SI⟩:=h41
 obtain⟨d42,GV⟩:=h42
 obtain⟨d43,SJ⟩:=h43
 obtain⟨d44,SK⟩:=h44
 obtain⟨d45,SM⟩:=h45
 obtain⟨d46,SN⟩:=h46
 obtain⟨d47,Lz⟩:=h47
 obtain⟨d48,SO⟩:=h48
 obtain⟨d51,SQ⟩:=h51
 obtain⟨d52,SR⟩:=h52
 obtain⟨d53,SS⟩:=h53
 obtain⟨d54,SU⟩:=h54
 obtain⟨d55,SV⟩:=h55
 obtain⟨d56,SW⟩:=h56
 obtain⟨d57,SX⟩:=h57
 obtain⟨d58,SY⟩:=h58
 obtain⟨d59,Ta⟩:=h59
 obtain⟨d60,L0⟩:=h60
 obtain⟨d61,Tc⟩:=h61
 obtain⟨d62,Td⟩:=h62
 obtain⟨d63,Te⟩:=h63
 obtain⟨d64,L3⟩:=h64
 obtain⟨d65,Tf⟩:=h65
 obtain⟨d66,L4⟩:=h66
 obtain⟨d67,Tg⟩:=h67
 obtain⟨d68,L5⟩:=h68
 have Wm:=gY (st:=dE) l25 c25 k25
 have F31:=gY (st:=gJ) l31 c31 k31
 have F49:C5 K "__init__" "Yard.__init__" gI GK _:=⟨⟨_,_,_,_,_,_,_,_,_,_,rfl,l49,c49⟩,k49⟩
 have F50:C5 K "post" "Yard.post" fT HL _:=⟨⟨_,_,_,_,_,_,_,_,_,_,rfl,l50,c50⟩,k50⟩
 have L:mG K ⟨cL⟩:=⟨⟨p1cL,p2cL,p3cL,p4cL⟩,ncLplaces,ncLlanes⟩
 have Z:tY K:=⟨kk1,kk2,kk3,kk4,kk5⟩
 have ZS:Ki K:=⟨kk6,kk7,kk8⟩
 have B:OJ K mg ⟨cB,cD⟩ MX _:=⟨⟨p1cB,p2cB,p3cB,p4cB⟩,ncBland,⟨p1cD,p2cD,p3cD,p4cD⟩,ncDland,ncDentries,(mg_of X G gcB),⟨w1cB,w2cB,w3cB,SG.m.kp⟩,SG.b⟩
 have M:Jh K ⟨cL⟩ VU VV _ _:=⟨SE.m,SF.m,SE.b,SF.b⟩
 have ME:ua K ⟨cL⟩ RM _:=⟨SD.m,SD.b⟩
 have Y:∀ ex:List Addr,gE K ⟨cJ,cA,cH,ex⟩:=fun _=>⟨⟨p1cJ,p2cJ,p3cJ,p4cJ⟩,ncJtable,ncJrooms,ncJlanes,ncJletters,ncJlies,ncJdone,⟨p1cH,p2cH,p3cH,p4cH⟩,ncHstart,ncHgoal,ncHlength,ncHword,ncHgone,ncHway,⟨⟨p1cA,p2cA,p3cA,p4cA⟩,ncArights,ncAreturning,ncAholder,ncApieces⟩⟩
 have Rx:=oj (kV:=Ln) (doc:=Lo) (pm:=Lp) (cdv:=GQ) (ct:=Lq) (an:=Lh) d49 rfl
 have bp0:=m5 (kV:=Lr) (doc:=Ls) (pm:=Lu) (cdv:=GR) (ct:=Lv) (an:=Li) d50 rfl
 have Mi:Mk K cL RL:=⟨p5cL,Nr.m.at_,Nr.m.fn,p6cL⟩
 have Mt:Mk K cD RN:=⟨p5cD,Nt.m.at_,Nt.m.fn,p6cD⟩
 have My:Mk K cJ GK:=⟨p5cJ,a49,i49,p6cJ⟩
 have Ma:Mk K cA RP:=⟨p5cA,Ly.m.at_,Ly.m.fn,p6cA⟩
 have Mh:Mk K cH RU:=⟨p5cH,Lz.m.at_,Lz.m.fn,p6cH⟩
 refine⟨fnOf "law" "law" (bN gJ) (aF gJ) (ah gJ) .none Lj Lk Ll Lg GN Lm,cc,Tb,wx a25 l25 hc0 lc0 hv0,fun s v => .of_eq rfl,fun base _ _ NS=>?_⟩
 have BK:=hc0
 have Wn:Wy K cD RO _ (yZ l.prog w ⟨cB,cD⟩):=⟨⟨p1cD,p2cD,p3cD,p4cD⟩,ncDland,SH.m,SH.b,fun H H' x n wy h k=>yZ.keep (n:=n) (wy:=wy) h k⟩
 have Gm:y9 l.prog w K mg base aC 2 f2 _ _ _:=x8 H2.F T H1.m H1.F H1.b
 have Gb:y9 l.prog w K mg base aC 3 RO _ _ _:=mP (se (ts:=⟨cB,cD⟩) SH.F B H2.m H2.k H2.b Gm)
 have Gw:y9 l.prog w K mg base aC 2 f5 _ _ _:=pR H5.F T H4.m H4.F H4.b
 have Th:y9 l.prog w K mg base aC 2 f5 _ _ _:=nJ H5.F T Z H4.m H4.F H4.b
 have GW:y9 l.prog w K mg base aC 1 f4 _ _ _:=jv H4.F T Z
 have G2:y9 l.prog w K mg base aC 3 f7 _ _ _:=xq H7.F H5.m H5.k H5.b Gw
 have Gi:y9 l.prog w K mg base aC 4 RL _ _ _:=vf Nr.F T L H5.m H5.k H5.b Gw H7.m H7.k H7.b G2 (mg_of X G mp) (mg_of X G ml)
 have Go:y9 l.prog w K mg base aC 2 f6 _ _ _:=xy H6.F T H4.m H4.F H4.b
 have Gf:y9 l.prog w K mg base aC 4 f8 _ _ _:=vi H8.F T L M H7.m H7.k H7.b G2 H6.m H6.k H6.b Go (xx SE.F T L) (ve SF.F T L)
 have G1:y9 l.prog w K mg base aC 1 MX _ _ _:=xr SG.F
 have Gse:y9 l.prog w K mg base aC 1 f3 _ _ _:=xv H3.F
 have Gt:y9 l.prog w K mg base aC 5 RN _ _ _:=uP Nt.F T B G1 H8.m H8.k H8.b Gf H3.m H3.k H3.b Gse
 have Ge:y9 l.prog w K mg base aC 1 RM _ _ _:=xH SD.F L
 have Gro:y9 l.prog w K mg base aC 3 VH _ _ _:=sf Ng.F T L H5.m H5.k H5.b Th (mg_of X G mr)
 have OY:y9 l.prog w K mg base aC 2 VI _ _ _:=uN Nh.F T H4.m H4.k H4.b GW
 have Wo:y9 l.prog w K mg base aC 1 RP _ _ _:=xD Ly.F (Y []).L
 have Glt:y9 l.prog w K mg base aC 1 VY _ _ _:=xC SM.F T (Y []).L
 have Ti:y9 l.prog w K mg base aC 1 VW _ _ _:=uV GU.F (Y []).L
 have Tj:y9 l.prog w K mg base aC 1 VX _ _ _:=sE GV.F (Y []).L
 have Gpu:y9 l.prog w K mg base aC 2 RQ _ _ _:=xw SI.F (Y []).L GU.m GU.b Ti
 have Gpl:y9 l.prog w K mg base aC 1 RS _ _ _:=uR SJ.F (Y []).L
 have Gbr:y9 l.prog w K mg base aC 1 RT _ _ _:=sJ SK.F (Y []).L
 have Gtw:y9 l.prog w K mg base aC 3 VZ _ _ _:=xB SN.F T (Y []).L (mg_of X G gcA) Ma Ly.b Wo
 have Wq:y9 l.prog w K mg base aC 1 RU _ _ _:=xA Lz.F (Y [])
 have Gtx:y9 l.prog w K mg base aC 3 Wb _ _ _:=x9 SO.F T (Y []) (mg_of X G gcH) Mh Lz.b Wq
 have Gy:y9 l.prog w K mg base aC 4 GK _ _ _:=xp F49 T L (Y []) Wn Ng.m Ng.k Ng.b Gro (mg_of X G gcA) Ma Ly.b Wo
 have Gp:∀ ex:List Addr,y9 l.prog w K mg base aC 4 HL _ _ (mS K ⟨cL⟩ cD (yZ l.prog w ⟨cB,cD⟩) ⟨cJ,cA,cH,ex⟩):=fun ex=>uS F50 T L (Y ex) Wn Gb H5.m H5.k H5.b Th Nh.m Nh.k Nh.b OY (mg_of X G gcH) Mh Lz.b Wq (mg_of X G mh) (mg_of X G mk)
 have Gol:∀ ex:List Addr,y9 l.prog w K mg base aC 4 Se _ _ _:=fun ex=>uU Td.F (Y ex) SN.m SN.b Gtw
 have Got:∀ ex:List Addr,y9 l.prog w K mg base aC 4 Sf _ _ _:=fun ex=>uT Te.F (Y ex) SO.m SO.b Gtx
 have O:∀ ex:List Addr,Own l.prog w K mg base ⟨cJ,cA,cH,ex⟩ Se Sf RQ _ _ _:=fun ex=>⟨Td.m,Td.b,Gol ex,Te.m,Te.b,Got ex,SI.m,SI.b,Gpu⟩
 have Gly:∀ ex:List Addr,y9 l.prog w K mg base aC 1 Sd _ _ _:=fun ex=>xE Tc.F (Y ex)
 have Glg:y9 l.prog w K mg base aC 1 Wj _ _ _:=sm Tg.F T (Y [])
 have Gen:∀ ex:List Addr,y9 l.prog w K mg base aC 5 Sb _ _ _:=fun ex=>sH L0.F (Y ex) (O ex)
 have Ggi:∀ ex:List Addr,y9 l.prog w K mg base aC 6 Sa _ _ _:=fun ex=>vh Ta.F (Y ex) (O ex) L0.m L0.b (Gen ex)
 have Wr:y9 l.prog w K mg base aC 4 f9 _ _ _:=xz H9.F L Wn Gb ME Ge
 have Gmi:∀ ex:List Addr,y9 l.prog w K mg base aC 4 RV _ _ (mU K ⟨cL⟩ cD (yZ l.prog w ⟨cB,cD⟩) ⟨cJ,cA,cH,ex⟩):=fun ex=>uY SR.F (Y ex) Wn Gb GU.m GU.b Ti
 have Gwa:∀ ex:List Addr,y9 l.prog w K mg base aC 5 Wd _ _ (iI K ⟨cL⟩ cD (yZ l.prog w ⟨cB,cD⟩) ⟨cJ,cA,cH,ex⟩):=fun ex=>pS SW.F (Y ex) Wn GV.m GV.b Tj H9.m H9.k H9.b Wr
 have Gmo:∀ ex:List Addr,y9 l.prog w K mg base aC 6 RW _ _ (mT K ⟨cL⟩ cD (yZ l.prog w ⟨cB,cD⟩) ⟨cJ,cA,cH,ex⟩):=fun ex=>uX SS.F (Y ex) Wn GV.m GV.b Tj SW.m SW.b (Gwa ex) GU.m GU.b Ti
 have Gml:∀ ex:List Addr,y9 l.prog w K mg base aC 2 RX _ _ _:=fun ex=>si SU.F (Y ex) L Wn GV.m GV.b Tj ME Ge
 have Gmb:∀ ex:List Addr,y9 l.prog w K mg base aC 1 RY _ _ (iK K ⟨cL⟩ cD (yZ l.prog w ⟨cB,cD⟩) ⟨cJ,cA,cH,ex⟩):=fun ex=>pW SV.F (Y ex)
 have MM:∀ ex:List Addr,Px l.prog w K mg base ⟨cL⟩ cD (yZ l.prog w ⟨cB,cD⟩) ⟨cJ,cA,cH,ex⟩ RV RW RX RY _ _ _ _:=fun ex=>⟨SR.m,SR.b,Gmi ex,SS.m,SS.b,Gmo ex,SU.m,SU.b,Gml ex,SV.m,SV.b,Gmb ex⟩
 have Gms:∀ ex:List Addr,y9 l.prog w K mg base aC 7 Wc _ _ (jI K ⟨cL⟩ cD (yZ l.prog w ⟨cB,cD⟩) ⟨cJ,cA,cH,ex⟩):=fun ex=>sj SQ.F T (Y ex) Wn (MM ex)
 have Gim:y9 l.prog w K mg base aC 2 VJ _ _ _:=vd Ni.F T ZS H4.m H4.k H4.b GW
 have Glk:∀ ex:List Addr,y9 l.prog w K mg base aC 7 RZ _ _ _:=fun ex=>vb SX.F T (Y ex) Wn (MM ex) Ni.m Ni.k Ni.b Gim H5.m H5.k H5.b Th
 have DM:∀ ex:List Addr,UA l.prog w K mg base ⟨cL⟩ cD (yZ l.prog w ⟨cB,cD⟩) ⟨cJ,cA,cH,ex⟩ RZ Sa Sb RS RT Sd _ _ _ _ _ _:=fun ex=>⟨SX.m,SX.b,Glk ex,Ta.m,Ta.b,Ggi ex,L0.m,L0.b,Gen ex,SJ.m,SJ.b,Gpl,SK.m,SK.b,Gbr,Tc.m,Tc.b,Gly ex⟩
 have Gdo:∀ ex:List Addr,y9 l.prog w K mg base aC 8 We _ _ (wG K ⟨cL⟩ cD (yZ l.prog w ⟨cB,cD⟩) ⟨cJ,cA,cH,ex⟩):=fun ex=>Kj SY.F (Y ex) L Wn (O ex) (DM ex) ME Ge
 have Ws:∀ ex:List Addr,y9 l.prog w K mg base aC 1 Wg _ _ (i3 K ⟨cJ,cA,cH,ex⟩):=fun ex=>sI L3.F T (Y ex)
 have Tn:y9 l.prog w K mg base aC 2 Wh _ _ _:=su Tf.F (Y []) SM.m SM.b Glt
 have L6:∀ ex:List Addr,y9 l.prog w K mg base aC 1 Wi _ _ _:=fun ex=>vc L4.F (Y ex)
 have Wt:∀ ex:List Addr,y9 l.prog w K mg base aC 1 Wk _ _ _:=fun ex=>pV L5.F T (Y ex)
 have Gmm:∀ ex:List Addr,y9 l.prog w K mg base aC 2 VG _ _ (mV K ⟨cL⟩ cD (yZ l.prog w ⟨cB,cD⟩) ⟨cJ,cA,cH,ex⟩):=fun ex=>uZ Nf.F T L (Y ex) Wn L5.m L5.b (Wt ex) L4.m L4.b (L6 ex)
 have Gc:y9 l.prog w K mg base aC 1 VL _ _ _:=vj GS.F T
 have L7:y9 l.prog w K mg base aC 1 VM _ _ _:=x5 BH.F
 have Gln:y9 l.prog w K mg base aC 2 VN _ _ _:=sr Nj.F T BH.m BH.k BH.b L7
 have Gnu:y9 l.prog w K mg base aC 2 VO _ _ _:=uW Nk.F T BH.m BH.k BH.b L7
 have Gal:y9 l.prog w K mg base aC 4 MW _ _ _:=sK Wm BK NS T
 have Gey:y9 l.prog w K mg base aC 1 VP _ _ _:=sG Nl.F T
 have Gmd:y9 l.prog w K mg base aC 2 VQ _ _ _:=va Nm.F T BH.m BH.k BH.b L7 Nl.m Nl.k Nl.b Gey
 have Gha:y9 l.prog w K mg base aC 1 f1 _ _ _:=sy H1.F
 have HM:y3 l.prog w K mg base f1 _:=⟨H1.m,H1.k,H1.b,Gha⟩
 have Gss:y9 l.prog w K mg base aC 4 VA _ _ _:=pU Df.F T L Wn Gb
 have Gsz:y9 l.prog w K mg base aC 3 LU _ _ _:=uQ MY.F T L H5.m H5.k H5.b Gw
 have Gsf:y9 l.prog w K mg base aC 5 VB _ _ _:=xt MZ.F Wn Gb HM Df.m Df.k Df.b Gss
 have Gwf:y9 l.prog w K mg base aC 2 VC _ _ _:=uO Na.F HM
 have Gpf:y9 l.prog w K mg base aC 5 VD _ _ _:=sh Nb.F Wn H9.m H9.k H9.b Wr Na.m Na.k Na.b Gwf
 have Glf:y9 l.prog w K mg base aC 6 VE _ _ _:=sw Nc.F L Wn ME Ge H2.m H2.k H2.b Gm Nb.m Nb.k Nb.b Gpf
 have Gfa:y9 l.prog w K mg base aC 7 VF _ _ _:=sF Nd.F T Wn MY.m MY.k MY.b Gsz MZ.m MZ.k MZ.b Gsf Nc.m Nc.k Nc.b Glf
 have Glp:∀ ex:List Addr,y9 l.prog w K mg base aC 5 VR _ _ (jG K ⟨cL⟩ cD (yZ l.prog w ⟨cB,cD⟩) ⟨cJ,cA,cH,ex⟩):=fun ex=>sg Nn.F T (Y ex) Wn Gb ⟨a50,i50,k50⟩ bp0 (Gp ex)
 have Ggo:y9 l.prog w K mg base aC 9 VS _ _ _:=vg Np.F T (Y []) Wn SQ.m SQ.b Gms SY.m SY.b Gdo L3.m L3.b Ws GS.m GS.k GS.b Gc BH.m BH.k BH.b L7
 have Gat:y9 l.prog w K mg base aC 3 VT _ _ _:=pX Nq.F T (Y []) L5.m L5.b (Wt []) L4.m L4.b (L6 []) Tg.m Tg.b Glg Tf.m Tf.b Tn L3.m L3.b (Ws [])
 exact xF (c:=⟨cL⟩) (ts:=⟨cB,cD⟩) (ys:=⟨cJ,cA,cH,[]⟩) (Tb:=Tb) F31 T (Y []) Wn ⟨GS.m,GS.k,GS.b,Gc,BH.m,BH.k,BH.b,L7,Nj.m,Nj.k,Nj.b,Gln,Nk.m,Nk.k,Nk.b,Gnu,mg_of X G a25,k25,(Wm.binds fun _ _ _ _ _ _=>len_of2 fun _ _=>rfl),Gal,(mg_of X G gcL),Mi,Nr.b,Gi,(mg_of X G gcD),Mt,Nt.b,Gt,Nm.m,Nm.k,Nm.b,Gmd,Nd.m,Nd.k,Nd.b,Gfa,(mg_of X G gcJ),My,Rx,Gy,Nn.m,Nn.k,Nn.b,Glp,Np.m,Np.k,Np.b,Ggo,Nf.m,Nf.k,Nf.b,Gmm,Nq.m,Nq.k,Nq.b,Gat⟩
end
theorem walk {l:PySem.W.OpenLaw}{q:Program}{loose:List Str}{XP:(Str->Option Value)->Heap->Prop}{YP:World->Heap->Prop}{d:DefRec}{K:Params->Frag}(hn:l.most=some 63)(IA:d.params.defaults=[])
  (hY:∀ (w:World)(h:Heap),YP w h->(K w.params).In h) {dd:DefRec} (Dj:(PyProof.Rows.recsOf q).find? (fun e=>e.name == ("_law_alive":Str))=some dd) (DJ:∀ p,PySem.W.noTabs (K p)=true)
  (F:∀ (w:World)(mg:Str->Option Value)(fa:Addr)(h:Heap),(K w.params).In h->h.Ns mainGlobals mg->mg d.name=some (.ref fa) ->
   ∃ (fd:FuncData)(c Tb:Addr),PySem.W.tabIn (K w.params) "_law_alive" = some (c,Tb)/\(∀ (s:Shared)(u:Value),BindsTo s fd ⟨[u],[]⟩ [("_law_script",u)])/\∀ base:Heap,(K w.params).In base->base.Ns mainGlobals mg->DI mg base c Tb->y9 l.prog w (K w.params) mg base aC 11 fa fd ["_law_script"] (oH (K w.params) Tb)) :
  PySem.W.WalkO q loose XP YP l.row.toRowW d [] (fun f vs=>PySem.call f vs) :=
 L2.Di (n:=63) (k:=11) (x := "_law_script") (CX:=fun _=>aC) (sp:=fun w Tb=>oH (K w.params) Tb) hn (by decide) IA ⟨rfl,by decide,by decide⟩ hY Dj DJ F (fun _ _ a ns Tb hl hT hS=>⟨a,ns,rfl,hS,hl,hT,fun _=>rfl⟩) fun _ _ _ _ _ z=>z
end K90
structure PySem.W.Fast:Prop where
 (tw28248245411909534 tw8212191692908304407 tw7211160799575248327 tw14373447678637416049 tw14451002953419828310 tw17221816700114209079 tw1418761429795415002 tw2120461574689258124 tw17098714715513859350 tw15732825899581117170 tw8018649930974053315 tw2635205382188792797 tw8417475950841561665 tw621593695488881461 tw14693301749633721202 tw9370399739290175756 tw8191299340953820409 tw11945130912015338673 tw6131411229536511042 tw12231665888212684971 tw14487744544947295491 tw12977834231347928901 tw7498062341737301513 tw7345084193832160900 tw12026013061133843974 tw463826095706809756 tw13618074096184233034 tw8721963447000722415 tw13866234725027667624 tw1692775569532645050 tw1860293866579433093 tw15259154521480733462 tw11766084885193963375 tw15148833064887024819 tw15690964425984258538 tw15026818317987985933 tw12528917033850325187 tw14557524090320538889 tw6475791866872752237 tw7573025214203140066 tw15377413549973028065 tw14845552248346854624 tw7793476104149614833 tw12604765981996259166 tw10392815044497677912 tw15164809539190168140 tw6180685792814170626 tw15292494192612766486 tw4070964700593011779 tw356286524576279403 tw4189285162772326981 tw7991244860580944727 tw15528267289796716625 tw5300988058422541186 tw18281039019781098900 tw13014931177572298071 tw4740440154763029585 tw13725640605762837110 tw777539295910036418 tw16558928337575577921 tw6036265356687243554 tw18123352094021413258 tw17042117002401445354 tw15928487537631571542 tw5666649111905628819 tw2808446803000091765 tw16531668563319163636 tw6626068423947110190 tw4883984755153559793 tw8503031347100927507 tw17051657981360763752 tw6339751559435201404 tw3380235696015868875 tw11657772945518650498 tw3054285076850758126 tw13876113018497904608 tw15030068746258123399 tw17373933393209716324 tw12652226045172679158 tw11309949784667078219 tw6789809598822096974 tw10509202943368683629 tw949166012520479224 tw5245634061728452513 tw854121543832772332 tw10147477082414750509 tw16661136961310386279 tw7138594607242769688 tw7507982094403168346 tw6067628881558265425 tw7351148315486054619 tw16288719342319201980 tw1472238010589524100 tw3589658163564088669 tw14795129997647761649 tw4200677653615656975 tw3132591872076993700 tw8634487344210300292 tw4394949646420205448 tw2392318360469149989 tw6285400977219083446 tw9922269188192239476 tw3941680161312279515 tw13174308336918415264 tw11438855670813681714 tw9320109966200872343 tw2106357385499776079 tw18323311422170207289 tw14093564059104970624 tw16499056167903917722 tw8845671306721723492 tw1948232529811045104 tw13299029213499759430 tw13361845043183678809 tw3119933556512235228 tw9982166264049413830 tw1212054393037917650 tw2577520152941691823 tw6423434532734128305 tw5642656717225306418 tw3794213968297565972 tw17350708394740024308 tw1573906029357598690 tw2923037247396003797 tw2753972308722015610 tw11275916379744870467 tw5971630037376823811 tw11916836594607964927 tw4114443798602890370 tw5517308562966417805 tw7812993005554036225 tw14350253053910079427 tw1040621392989658223 tw13246074321743105539 tw18433977369103644851 tw8434623542552564199 tw16672977881893781493 tw13717451095970776009 tw6131718195958430377 tw14196454007256096931 tw9238464331478715869 tw14190354348078043839 tw15666985875087972175 tw13323578282216215789 tw18341850445524225390 tw10937050823135519833 tw8063397988634366551 tw10211465884601777719 tw11438653460983465122 tw13079703154578143216 tw11140890964241967424 tw8715629966409113862 tw14149064747529054379 tw4462416922550388137 tw3771076577761993688 tw9535119379321917136 tw11900029369440858364 tw3830745211605306716 tw14452934385812965421 tw16179266081102893349 tw6458612688920188331 tw2935857137420921636 tw12328006630191745915 tw8141854336976002364 tw2092069322080659217 tw11505623951655799727 tw4893210254296396538 tw14467142989758087304 tw953510345655499352 tw126849362291849522 tw3433592731218290261 tw4282906309837858524 tw4814947429873229862 tw4441855036987339774 tw11901488682534301664 tw3377096738221259599 tw16597570351583210397 tw16628238617040478197 tw16579110222510432963 tw8110978909580226493 tw7107877991798331756 tw4205045265358878189 tw11738260121450422139 tw2475448335461845272 tw7403416780632460734 tw10048693889017293301 tw11744097368960630929 tw8375840120399545844 tw18204473555081664556 tw9410832461836758179 tw448099870858917680 tw16216394160626067828 tw6790836559820217153 tw3649458032499133732 tw8864142122467039654 tw13476271113677888214 tw2943289472656472890 tw5722863962055810321 tw668300890615549214 tw6845955609813421575 tw296395512359792388 tw16014191707318062781 tw12071510048370125232 tw12099375051176226141 tw10386096190480836835 tw5626502069270254658 tw1675902505338197235 tw5976808983873211328 tw16595844513607585728 tw15987416260542191320 tw15869178825331522652 tw8526063172882745672 tw883512751060454449 tw3117499055457382140 tw4558764960244549843 tw17252354923159875011 tw3414469294037052738 tw1396316256153319496 tw9523661067487788390 tw3823797510267721608 tw9497328266842609316 tw2576444556548582446 tw1536641364345879816 tw6589509758337307557 tw17687139966854499854 tw258265263184244605 tw14816793062025347240 tw6546690799661097801 tw3042965087647775307 tw7439770207801646070 tw3552266454518995004 tw1708037123327885321 tw5858298201943428741 tw18334975656791060147 tw16842667494321924423 tw2888567515380161217 tw435917568492236466 tw12559842305752203668 tw9027819916195168901 tw5592856236569111831 tw5177087398988178806 tw549221522362582692 tw13759868806038707198 tw2520712098473615628 tw8491117335667819231 tw8252734277482609112 tw15979393057607147099 tw15093574806507574210 tw626378011001994773 tw14376013854703013259 tw10106330260779303122 tw814025282660731650 tw11933435992890255111 tw12098351575170833098 tw8997983265460499864 tw8022377969047360417 tw10848833220155498955 tw12172798723182995745 tw6366395894174656765 tw9478160941034822291 tw17606092175261351791 tw15372312407917654748 tw13624267528737402492 tw6848760482708617344 tw9620580291426751734 tw4461148932035069350 tw10975853538424153546 tw729211278534159869 tw1661396466342295612 tw16555071331688336659 tw1984684545423255446 tw14085790424367038924 tw1822064727006744870 tw7770039313339558613 tw6196109170234108506 tw6433550277181192857 tw6028479510463881648 tw2500311945997250475 tw18433433113403260767 tw15562017110704472835 tw14651055775939316118 tw7415952172437424674 tw8482057663215236748 tw15507422889815906791 tw3791073113505425543 tw324319330771370837 tw1921555751691993022 tw6917089049825690277 tw17871077437497040087 tw416047182478547546 tw3338224544761251632 tw10873041938199111316 tw17243832202765682919 tw14919505584492558468 tw13478268409050034262 tw9910685982851213112 tw15422186312334226677 tw13483507575378954350 tw3685576631737577309 tw3679766128193813289 tw10466047624832139855 tw6746685685780209350 tw13933250266148525916 tw7819639817534747795 tw18348833803177999407 tw11856141862460697761 tw11091384710360503915 tw7637787724931312939 tw4131219970767593156 tw18150800246932037645 tw17042927018737751705 tw3651509725588954672 tw2232010493006598816 tw5478796979046568230 tw10389953941356492814 tw16280687298010860812 tw9143135608857937486 tw4754917416062071194 tw10514610751607095514 tw18439354899362727809 tw14821942578324751456 tw7978723793680928068 tw5777050044060020390 tw6351932169798008009 tw4403988337136998688 tw12337129566849893557 tw985257000385693938 tw8532009489643841995 tw3287323410870970824 tw13752962357970069335 tw8889544410416437340 tw8113114197054885264 tw6183613357744844329 tw8268285587631731865 tw2091988885516861495 tw4102820224380247322 tw6909322544114113414 tw4128452128211189356 tw13641519080371710428 tw7605666758830774943 tw7012188391096402738 tw16892808851066735922 tw6074764621419359825 tw16798442240720393763 tw12324604765262675338 tw10929568870442944024 tw9213447668711884487 tw7228524329196876550 tw13974474962366316309 tw571241366518818579 tw9076820165978321803 tw8122454452572958270 tw6083425179008388928 tw4980487932831132654 tw2071334950546730249 tw13815332413641946261 tw7977752765819236430 tw5579843720922430383 tw12181372795155247317 tw10476977755065583704 tw3075666274191948001 tw15570171786680549646 tw7720377817908973681 tw707129545242721763 tw10893754426697904083 tw17450846820083714749 tw15560990584838121431 tw1320032876052117603 tw13786231141209381785 tw10139064094986908482 tw7098275884180789581 tw11806101993892024008 tw6353574435197637603 tw12270273584056011580 tw10535422647138088663 tw3282406279214347228 tw11935741517827597153 tw2732580758967606301 tw16527993613899040796 tw9632088029475220645 tw3208284037084563663 tw17014210088956201706 tw10883497820789533755 tw5362238778374071080 tw5848341316216049346 tw5303335253326375360 tw2421629668319315854 tw17491101339947384710 tw13961463920539578571 tw1341985852923129263 tw2281406979262223735 tw13908921096252895123 tw4116776581057010407 tw11187630921291560005 tw6282381387629376089 tw14446825465851196828 tw2301461819509035806 tw1040946353235631283 tw12722334561192869011 tw11926456800420599071 tw8932183394541762520 tw10549931483792665243 tw989220864201894443 tw14774942111813758348 tw16887787976597799405 tw7329932543954220062 tw12875232462007020686 tw14739438402141095083 tw1183212329531122179 tw1428699452953424402 tw9847719296816457870 tw488613285406977853 tw8521810864965066704 tw8167426366863473777 tw3252594888530850066 tw27515645699450265 tw10027163164568664253 tw12202438619852705504 tw1094226712635296894 tw9296150324660213627 tw4567821000784387304 tw15380005817046662865 tw622745907802273644 tw2148648363786668577 tw16202339875140782621 tw7429918440678243960 tw428844043404062468 tw13512076870798433523 tw11337910972672761649 tw6885124136325109190 tw16260972485460855183 tw14461904857333552875 tw6893323691787383719 tw3760734216693601285 tw2971763563015733554 tw2510686062888875260 tw2029805820931026928 tw14025932231880045963 tw8796698277561907880 tw14798886528093894715 tw319588945231651791 tw1571720010543557186 tw10149528084969869140 tw16023736150385841340 tw8409945882697517449 tw2649808901347217373 tw13615451090683584641 tw945178234933203685 tw6460683674350520318 tw1715216453734995929 tw16361957078632184542 tw647814321224214746 tw18045236444923618734 tw12897361304403663162 tw1458480617746754202 tw13253853146898599206 tw16222082771310243662 tw9097523101687447828 tw8387117163696974525 tw6593045978889938559 tw13391741815038946890 tw1115327444761811274 tw8937818258859406813 tw15892418122149146431 tw1939362066271401170 tw10258199013884230092 tw11015505485449770517 tw10781105171201613645 tw9974264479522919144 tw11216004537177533073 tw62947596478712932 tw15788557926911227750 tw14851940999548051144 tw13883497650826262990 tw13603135163265040694 tw10752007225249423415 tw15025081104278751924 tw1807147107508540493 tw10598971047515129463 tw10110887272951493413 tw18126294447339256690 tw9539193836517726371 tw6522580493688668156 tw4034247727845535286 tw17705597181680926925 tw15851795400521002068 tw15588172542862915343 tw14274178971258999523 tw13693347546607453563 tw12332883675115175137 tw12170143306246198588 tw7584526271797175470 tw6414684668620040353 tw3008904720181782578 tw16671207819853709315 tw18395788041580435991 tw12933735466349630007 tw13993615912686333503 tw6687931255278112429 tw16826718767312745948 tw14458865154952674221 tw8456969674321522016 tw6876381794296698977 tw3866595302934806288 tw859751722245233023 tw3324911545998080325 tw16476710424248900621 tw15605931018105681307 tw15298489751731393708 tw1122078864232812191 tw9221870696330690997 tw7871645393804037395 tw7343851148029645993 tw5391066773351076355 tw2655577720518238023 tw15557210785106374307 tw1358029294793493168 tw13517412138333954435 tw5038335746591461489 tw10076947664502728763 tw5520571477144131869 tw11617083776741203844 tw13364276194955069730 tw8157018916314942158 tw7628323339954435364 tw4890964499451121360 tw224736808357843792 tw2064306640070254315 tw14465399549725302777 tw13680999480748734841 tw1337521838540054769 tw12332010114307151694 tw10867219759286144628 tw15963708998883154124 tw354764604516063645 tw527890763340486399 tw9745321325912966260 tw8965029022769534675 tw8259741614731927714 tw6239234746862902012 tw5547632547495714822 tw4551008354514330215 tw3898163939313276427 tw2515794340190240563 tw2418877824411346558 tw167882726611940270 tw16318857019414918888 tw16278590074592286830 tw16196715715967733966 tw15713759221150890597 tw14737685263877054198 tw12977642021839976795 tw127457014777693108 tw11595225663793284512 tw11356091889383345905 tw7641635683167341219 tw7379583301120206753 tw6868897071555959747 tw6070667832406585327 tw5916681806084532610 tw5403439316489612290 tw3330312470918098472 tw3143287592139530874 tw2847787546077956239 tw2585431433754960617 tw18397779114172936229 tw18092484103587792180 tw16337899385075308762 tw14224104795917163208 tw12753012871945788622 tw12155864928278182597 tw10626651070222770626 tw10539858896173890979 tw2290377343639600439 tw18222663570779327281 tw1192398758614835046 tw18201714874008311702 tw1739150254606926716 tw16736010757239308988 tw14880845013200903741 tw13374231016046624674 tw12968073628844639679 tw11789867596330192729 tw11727814350783846531 tw11068037701000958814 tw10870476850297806642 tw10298511324278891922 tw10217095267665411665 tw975937151802828552 tw9650808609656305217 tw9039623274424320978 tw7107546743194031194 tw2871439633376138847 tw1845990508478596225 tw18080841481273049321 tw17449624712626243562 tw1611129336637762971 tw1559076005627841533 tw15083690545451968814 tw14614700872419658396 tw13918948611254552825 tw13168273276259641509 tw11631902831974455289 tw11257989178836461347 tw10907681241819786334 tw10328312779725091594 tw8520598628757501925 tw15356651559815217118 tw9861706273997147720 tw9771864827032464061 tw9667185691024786102 tw9657360003611639468 tw9594487277980929552 tw9536607406020961574 tw9482950674528649480 tw9415121922917477288 tw9278175405032985107 tw9230623657298948559 tw909635304230857500 tw9084187630102862960 tw9028843045745672664 tw9010424584622939637 tw9003515082449211630 tw8972080652417416412 tw8880458002495554731 tw8710805816239590283 tw8647635304253831290 tw8543951799931231411 tw8490706699974848786 tw8428249773817022075 tw8308463317357514094 tw8251924608631062841 tw8198674682904309214 tw7950522957875693727 tw791435361038390671 tw7832514271505521616 tw7820251235278297044 tw7721303106000431514 tw7630056821977692199 tw7465388252602416132 tw7385069573697843101 tw7294734157396463513 tw7222250016944717041 tw7058324713856558405 tw6942649774014574474 tw6884239974763457219 tw66105802986278156 tw656682029917315691 tw6476199218966282173 tw6448533252446007888 tw6364288627027920912 tw6363088844384018940 tw628693356247485269 tw6247541410775306024 tw6100428409612508533 tw6070732818036502161 tw6033551342484393284 tw6005023556198944468 tw5987027811142199038 tw5705973478739749157 tw5617142591026198492 tw5616095514954175111 tw5564750967395171986 tw5328462232528700279 tw5306784766559229442 tw5070915892635542693 tw5032157551779203749 tw4943853100482167281 tw4884837980781023751 tw4877852151685408445 tw4643798776219665477 tw4623318930705978898 tw4614542366531228214 tw456770757804280388 tw4528844922654573865 tw447609352262799462 tw4276219164053460828 tw4174933143671000864 tw4117546930828707274 tw4063747503506733890 tw4015341461846607981 tw3878506366962744585 tw3712605446594377139 tw3537268231086209779 tw353639540792102654 tw345516832342129758 tw3390241686061445759 tw3089495499038010922 tw307465528531908734 tw3068188422722207690 tw2895731330510075854 tw2817810682502932576 tw2788206582062851723 tw2593135275004730936 tw2542172417656133894 tw238873592659146020 tw2298293644303016513 tw2228106054901384368 tw2193507667505786756 tw2160164824212867532 tw2119745307029196193 tw2060685314009245414 tw2003734446424348333 tw1919254823283052839 tw1888091663175948410 tw18238842346503401032 tw18072816897032422834 tw18006661732515234722 tw176913143585385404 tw17592121573444040798 tw17398320948237555709 tw17343596089340108341 tw17339246464392989808 tw17282075154469067322 tw17201117619686919538 tw17120236283104798743 tw1700454415153642636 tw16934962875340967651 tw16818977996435647155 tw16655960628560915558 tw16532513846218974694 tw16406812199323718665 tw16387699960294265633 tw16312469907752383903 tw16189311322150584509 tw1615208354687513866 tw16037945604707041873 tw16020074783075783479 tw15949067540212363409 tw15922789729210550153 tw1591289641203539210 tw1588514350071107161 tw15754479470194494300 tw15548871613225742791 tw15525902849169413850 tw15422873545585195366 tw15358409191933330973 tw15310460460767721325 tw15171383472921829943 tw15133772213042237775 tw15122158374633625875 tw15109231947728501685 tw15070531333461151062 tw14883440180153183997 tw14863158165200378068 tw14807727057276612680 tw14798626211528844895 tw14739849470219886364 tw14691801567406382293 tw14624288430512939974 tw14576304589556728519 tw14462362672944718423 tw14451627648197431336 tw14444230601173974652 tw14363032773839274871 tw14359687109671886762 tw14353818777535339298 tw14180878644471856132 tw14179575198283494727 tw13920557550409370075 tw13705473109707857415 tw1369815833140270158 tw135938903864935329 tw13549289844316564455 tw1353599635791620690 tw13336001243981466873 tw13280548535603050236 tw13200258366942888945 tw13160764529822861540 tw13019216103476654097 tw12932389569130454243 tw12918781910450868410 tw12880229127684368203 tw12755504311796756076 tw12652458161914845922 tw12556594109606084960 tw12491352936664134922 tw12153055528958541625 tw12057075781660336468 tw12038299564252471106 tw11983317225797798098 tw11916799190265857492 tw11752395347573865649 tw11575955210236176631 tw11492802225767413762 tw11466011131650417007 tw11336563786992925783 tw11256094854408916945 tw1084898851442984179 tw10759577105407571430 tw10743309569368581953 tw10726070546102389238 tw10652441620364962898 tw10532092789110325674 tw10480788121941586067 tw10373053709855627750 tw10311783156284315039 tw10233103523488885940 tw10019942750406307948:True)
open PySem PySem.W PyProof.Rows
set_option maxRecDepth 100000 in
set_option maxHeartbeats 0 in
theorem PySem.Challenge.cw_wormyard_k90_whole_never_stands_holds : PySem.Challenge.rw_wormyard_k90_whole_never_stands.Holds := by
 w_on;o_law;k_head; (case hw=>w_witness2)
 k_fill
 refine K90.walk (l:=PySem.Challenge.rw_wormyard_k90_whole_never_stands) rfl rfl (fun w h Y=>PySem.W.km_in_of Y) rfl (fun _=>by kernel_rfl) ?F
 case F =>
  intro w mg fa h KX G hmg
  refine' K90.all_mk KX G hmg ?Aa ?Ab ?Ac ?Ad ?Ae ?Af ?Ag ?Ah ?Ai ?Aj ?Ak ?Al ?Am ?An ?Ao ?Ap ?Aq ?Ar ?As ?At ?Au ?Av ?Aw ?Ax ?Ay ?Az ?Ba ?Bb ?Bc ?Bd ?Be ?Bf ?Bg ?Bh ?Bi ?Bj ?Bk ?Bl ?Bm ?Bn ?Bo ?Bp ?Bq ?Br ?Bs ?Bt ?Bu ?Bv ?Bw ?Bx ?By ?Bz ?Ca ?Cb ?Cc ?Cd ?Ce ?Cf ?Cg ?Ch ?Ci ?Cj ?Ck ?Cl ?Cm ?Cn ?Co ?Cp ?Cq ?Cr ?Cs ?Ct ?Cu ?Cv ?Cw ?Cx ?Cy ?Cz ?Da ?Db ?Dc ?Dd ?De ?Df ?Dg ?Dh ?Di ?Dj ?Dk ?Dl ?Dm ?Dn ?Do ?Dp ?Dq ?Dr ?Ds ?Dt ?Du ?Dv ?Dw ?Dx ?Dy ?Dz ?Ea ?Eb ?Ec ?Ed ?Ee ?Ef ?Eg ?Eh ?Ei ?Ej ?Ek ?El ?Em ?En ?Eo ?Ep ?Eq ?Er ?Es ?Et ?Eu ?Ev ?Ew ?Ex ?Ey ?Ez ?Fa ?Fb ?Fc ?Fd ?Fe ?Ff ?Fg ?Fh ?Fi ?Fj ?Fk ?Fl ?Fm ?Fn ?Fo ?Fp ?Fq ?Fr ?Fs ?Ft ?Fu ?Fv ?Fw ?Fx ?Fy ?Fz ?Ga ?Gb ?Gc ?Gd ?Ge ?Gf ?Gg ?Gh ?Gi ?Gj ?Gk ?Gl ?Gm ?Gn ?Go ?Gp ?Gq ?Gr ?Gs ?Gt ?Gu ?Gv ?Gw ?Gx ?Gy
  case Aa|Ab|Ac|Ad|Ae|Af=>k_is
  case Ag|Ah|Ai|Aj|Ak|Al|Am|An|Ao|Ap|Aq|Ar|As|At|Au|Av|Aw|Ax|Ay|Az|Ba|Bb|Bc|Bd|Be|Bf|Bg|Bh|Bi|Bj|Bk|Bl|Bm|Bn|Bo|Bp|Bq|Br|Bs|Bt|Bu|Bv|Bw|Bx|By|Bz|Ca|Cb|Cc|Cd|Ce|Cf|Cg|Ch|Ci|Cj|Ck|Cl|Cm|Cn|Co|Cp|Cq|Cr|Cs|Ct|Cu|Cv|Cw|Cx|Cy|Cz|Da|Db|Dc|Dd|De|Df|Dg|Dh|Di|Dj|Dk|Dl=>first |(refine' K90.mkT (by assumption) (by assumption) ?b ?a ?l ?c ?k;(case b=>first|exact fun _ _ _ _ _ _=>K90.len_of1 (fun _=>rfl)|exact fun _ _ _ _ _ _=>K90.len_of2 (fun _ _=>rfl)|exact fun _ _ _ _ _ _=>K90.len_of3 (fun _ _ _=>rfl)|exact fun _ _ _ _ _ _=>K90.len_of4 (fun _ _ _ _=>rfl)|exact fun _ _ _ _ _ _=>K90.len_of5 (fun _ _ _ _ _=>rfl)|exact fun _ _ _ _ _ _=>K90.len_of7 (fun _ _ _ _ _ _ _=>rfl));(case a=>k_is);(case l=>k_is);(case c=>k_is);(case k=>k_is))|(refine' K90.mkM ?b ?a ?l ?c ?k ?i;(case b=>first|exact fun _ _ _ _ _ _=>K90.len_of1 (fun _=>rfl)|exact fun _ _ _ _ _ _=>K90.len_of2 (fun _ _=>rfl)|exact fun _ _ _ _ _ _=>K90.len_of3 (fun _ _ _=>rfl)|exact fun _ _ _ _ _ _=>K90.len_of4 (fun _ _ _ _=>rfl)|exact fun _ _ _ _ _ _=>K90.len_of5 (fun _ _ _ _ _=>rfl)|exact fun _ _ _ _ _ _=>K90.len_of7 (fun _ _ _ _ _ _ _=>rfl));(case a=>k_is);(case l=>k_is);(case c=>k_is);(case k=>k_is);(case i=>k_is))|k_is
  case Dm|Dn|Do|Dp|Dq|Dr|Ds|Dt|Du|Dv|Dw|Dx|Dy|Dz|Ea|Eb|Ec|Ed|Ee|Ef|Eg|Eh|Ei|Ej|Ek|El|Em|En|Eo|Ep|Eq|Er|Es|Et|Eu|Ev|Ew|Ex|Ey|Ez|Fa|Fb|Fc|Fd|Fe|Ff|Fg|Fh|Fi|Fj|Fk|Fl|Fm|Fn|Fo|Fp|Fq|Fr|Fs|Ft|Fu|Fv=>k_is
  case Fw|Fx|Fy=>first | k_is | kernel_rfl
  case Fz|Ga|Gb|Gc|Gd|Ge|Gf|Gg|Gh=>kit_is
  case Gi|Gj|Gk|Gl|Gm|Gn|Go|Gp|Gq|Gr|Gs|Gt|Gu|Gv=>k_is
  case Gw=>exact rfl
  case Gx=>k_is
  case Gy=>exact rfl
