import PyProof.Rows.All
import Wide.All
import OpenK.AllK
import Wide.FinOn
import Lean
import PyProof.EqAt
import PyProof.EqKinds
import PyProof.TupleCall
import PyProof.ExcBaseAll.ValueError
import PyProof.EnumMake
import PyProof.Rows.EnumRows
import PyProof.TupleIter
import PyProof.DictValues
import PyProof.CollectStr
import PySem.Builtin.Int.W1All
import PyProof.DictRoadsH
import PyProof.DictKinds
import PyProof.FactsAll.NoneType
import KE.KRevIter
import PyProof.FactsAll.list_3
import KE.KDictList
import PyProof.DictIter
import PyProof.DictWalks
import PyProof.ListRange
import PyProof.Rows.SumAny
import PyProof.Rows.SeqCalls
import PyProof.P3In
import PyProof.DictItems
import KE.KPairComp
import PyProof.FactsAll.dict_3
import PyProof.CollectIter
import PyProof.TupleOfGen
import PyProof.TupleOfSeq
import PyProof.FactsAll.subtypes_4
import PyProof.ZipIter
import KE.KDictLaws
import PyProof.Rows.StrJoin2
import PyProof.StrBlockH
import KE.KIntText
import PyProof.StrWalks
import PyProof.CallStr
import PyProof.StrLawsChain
import PyProof.FitsInt
import PyProof.Rows.StrClose3
import PySem.Challenge.RW_wormyard_k82_whole_yards_shown
set_option compiler.extract_closed false
set_option Elab.async false
set_option linter.all false
set_option maxRecDepth 100000
set_option maxHeartbeats 4000000
theorem η0(h:1=1:=by rfl):1=1:=h
def η:=η0._auto_1
theorem θ0(h:1=1:=by decide):1=1:=h
def θ:=θ0._auto_1
theorem ζ0(h:1=1:=by first | exact .inl rfl | exact .inr rfl | assumption):1=1:=h
def ζ:=ζ0._auto_1
theorem ξ0(h:1=1:=by decide +kernel):1=1:=h
def ξ:=ξ0._auto_1
theorem ψ0(h:1=1:=by intro _;rfl):1=1:=h
def ψ:=ψ0._auto_1
open PySem.W (Frag keepIn findIn fnOf codeIn nsIn mg_of isFn kitOne hasDictIn mg_none_of plainGet plainOver makesIn)
open List (getElem?_eq_getElem getElem?_map getElem?_append_left find?_cons getElem?_set_ne getElem?_concat_length getElem?_append_right all_cons all_eq_true all_map any_cons any_eq_true append_assoc append_nil cons_ne_nil drop_eq_nil_of_le drop_zero eq_nil_iff_forall_not_mem eq_nil_of_length_eq_zero eq_of_mem_replicate filterMap_cons filter_append filter_cons filter_eq_self flatMap_append flatMap_cons flatten_cons forIn_cons getD_eq_getElem?_getD getElem_map getElem_mem getElem_of_mem length_append length_cons length_filter_le length_map length_pos_iff length_range length_replicate length_set length_singleton length_take length_take_le lookup_cons map_append map_cons map_eq_nil_iff map_map map_nil map_replicate map_take mem_append mem_append_left mem_append_right mem_cons mem_cons_of_mem mem_cons_self mem_filter mem_flatMap mem_map mem_of_getElem? mem_of_head? mem_of_mem_take mem_range mem_reverse mem_singleton nil_append nodup_cons nodup_nil not_mem_nil of_mem_zip pairwise_iff_getElem pairwise_lt_range range_succ replicate_succ replicate_succ' size_toArray sum_append sum_cons take_length take_of_length_le take_succ)
open Nat (le_of_eq le_of_lt le_refl le_succ le_trans lt_irrefl lt_of_le_of_lt lt_of_lt_of_le lt_trans min_eq_left min_eq_right mul_le_mul mul_le_mul_right mul_one ne_of_gt ne_of_lt pow_le_pow_right succ_mul testBit_lt_two_pow zero_le)
open Int (emod_lt_of_pos emod_nonneg eq_ofNat_of_zero_le natAbs_natCast toNat_natCast zero_add)
open PySem.F (args_tuple_add_2 entry_tuple_add plainAttrs_list plainAttrs_str slot_list_extend slot_str_join slot_tuple_add type_list_extend type_str_join)
open PySem.Heap (lt_size size_push)
noncomputable section
abbrev L2.zQ0:PySem.Scope:={kind:=.function,names:=[],isGenerator:=false,isCoroutine:=false}
theorem L2.gQ0 {α:Type}{l:List α}{i:Nat}{a:α}(h:l[i]?=some a):i<l.length:=(List.getElem?_eq_some_iff.mp h).1
namespace L2
theorem FC {α:Type}{n:Nat}{l:List α}(h:l.length=n + 1):∃ a t,l=a :: t/\t.length=n:=by
 cases l with
 | nil=>cases h
 | cons a t=>exact⟨a,t,rfl,Nat.succ.inj h⟩
open PySem PySem.Spec PyProof.Rows
abbrev gh:=Sum Int Str
noncomputable def yj:gh->Value->Bool
 | .inl k,v=>Value.isInt k v
 | .inr x,v=>Value.isStrOf x v
noncomputable def PQ (w:World):gh->Int
 | .inl k=>hashInt k
 | .inr x=>hashStr w x
theorem bK:∀ {k:gh}{v:Value},yj k v=true->(∃ i t,k=Sum.inl i/\v=Value.int i t)∨(∃ x t,k=Sum.inr x/\v=Value.str x t)
 | .inl i,v,h=>by
  obtain⟨t,e⟩:=Value.isInt_shape (k:=i) (v:=v) h
  exact .inl ⟨i,t,rfl,e⟩
 | .inr x,v,h=>by
  obtain⟨t,e⟩:=Value.isStrOf_shape (x:=x) (v:=v) h
  exact .inr ⟨x,t,rfl,e⟩
theorem zM (a b:Int):decide ((Sum.inl a:gh)=Sum.inl b)=(a == b):=by
 by_cases e:a=b
 ·subst e;simp
 ·have h:¬ (Sum.inl a:gh)=Sum.inl b:=fun q=>e (Sum.inl.inj q)
  rw[decide_eq_false h]
  exact(beq_eq_false_iff_ne.mpr e).symm
theorem zJ (a b:Str):decide ((Sum.inr a:gh)=Sum.inr b)=decide (a=b):=by
 by_cases e:a=b
 ·subst e;simp
 ·have h:¬ (Sum.inr a:gh)=Sum.inr b:=fun q=>e (Sum.inr.inj q)
  rw[decide_eq_false h,decide_eq_false e]
theorem zL (a:Int)(b:Str):decide ((Sum.inl a:gh)=Sum.inr b)=false:=decide_eq_false (fun q=>nomatch q)
theorem zK (a:Str)(b:Int):decide ((Sum.inr a:gh)=Sum.inl b)=false:=decide_eq_false (fun q=>nomatch q)
noncomputable def m9 (prog:Program)(w:World):PySem.KeyKind prog w gh where
 is:=yj
 hash:=PQ w
 inj:=fun v a b ha hb=>by
  rcases bK ha with ⟨i,t,rfl,rfl⟩ | ⟨x,t,rfl,rfl⟩
  ·rcases bK hb with ⟨j,u,rfl,e⟩ | ⟨y,u,rfl,e⟩
   ·injection e with e1 _;rw[e1]
   ·exact nomatch e
  ·rcases bK hb with ⟨j,u,rfl,e⟩ | ⟨y,u,rfl,e⟩
   ·exact nomatch e
   ·injection e with e1 _;rw[e1]
 byValue:=fun k v h=>by
  rcases bK h with ⟨i,t,rfl,rfl⟩ | ⟨x,t,rfl,rfl⟩<;>rfl
 pyHash:=fun hv h=>by
  rcases bK hv with ⟨i,t,rfl,rfl⟩ | ⟨x,t,rfl,rfl⟩
  ·exact wpAny_pyHash_int h
  ·exact wpAny_pyHash_str h
 eqBool:=fun hu hv h=>by
  rcases bK hu with ⟨i,t,rfl,rfl⟩ | ⟨x,t,rfl,rfl⟩
  ·rcases bK hv with ⟨j,u,rfl,rfl⟩ | ⟨y,u,rfl,rfl⟩
   ·rw[zM]at h;exact wpAny_eqBool_int h
   ·rw[zL]at h;exact SeqAt.EqAt.int_str i t y u _ _ _ _ h
  ·rcases bK hv with ⟨j,u,rfl,rfl⟩ | ⟨y,u,rfl,rfl⟩
   ·rw[zK]at h;exact SeqAt.EqAt.str_int x t j u _ _ _ _ h
   ·rw[zJ]at h;exact wpAny_eqBool_str h
 «strs»:=fun k x t v h=>by
  rcases bK h with ⟨i,u,rfl,e⟩ | ⟨y,u,rfl,e⟩
  ·exact nomatch e
  ·injection e with e1 _
   subst e1
   cases v<;>rfl
open PySem.Spec PyProof.Rows
inductive V where
 | AG | bl (b:Bool) | int (i:Int) | str (x:Str) | Eb (b:Array UInt8) | Ie (b:UInt64) | ref (a:Addr) | ty (n:String)
 deriving DecidableEq
noncomputable def RelV:V->Value->Prop
 | .AG,u=>u=Value.none
 | .bl b,u=>u=Value.bool b
 | .int i,u=>∃ t,u=Value.int i t
 | .str x,u=>∃ t,u=Value.str x t
 | .Eb b,u=>∃ t,u=Value.bytes b t
 | .Ie b,u=>∃ t,u=Value.float b t
 | .ref a,u=>u=Value.ref a
 | .ty n,u=>u=Value.type n
abbrev Vals:List V->List Value->Prop:=Paired RelV
theorem Vals.length {xs:List V}{us:List Value}(r:Vals xs us):xs.length=us.length:=Paired.length r
theorem Vals.get:∀ {xs:List V}{us:List Value}{i:Nat}{x:V},Vals xs us->xs[i]? = some x->∃ u,us[i]? = some u/\RelV x u
 | _,_,_,_, .nil,e=>by simp at e
 | _,_,0,_, .cons r _,e=>by simp at e;subst e;exact⟨_,rfl,r⟩
 | _,_,i + 1,x, .cons _ t,e=>by
  obtain⟨u,h1,h2⟩:=Vals.get (i:=i) (x:=x) t (by simpa using e)
  exact⟨u,by simpa using h1,h2⟩
theorem Vals.set {x:V}{u:Value}(r:RelV x u):∀ {xs:List V}{us:List Value}(i:Nat),Vals xs us->Vals (xs.set i x) (us.set i u)
 | _,_,_, .nil => .nil
 | _,_,0, .cons _ t => .cons r t
 | _,_,i + 1, .cons q t => .cons q (Vals.set r i t)
theorem Vals.append:∀ {xs ys:List V}{us ws:List Value},Vals xs us->Vals ys ws->Vals (xs ++ ys) (us ++ ws)
 | _,_,_,_, .nil,s=>s
 | _,_,_,_, .cons r t,s => .cons r (Vals.append t s)
theorem Vals.take:∀ {xs:List V}{us:List Value}(n:Nat),Vals xs us->Vals (xs.take n) (us.take n)
 | _,_,0,_ => .nil
 | _,_,_ + 1, .nil => .nil
 | _,_,n + 1, .cons r t => .cons r (Vals.take n t)
theorem Vals.drop:∀ {xs:List V}{us:List Value}(n:Nat),Vals xs us->Vals (xs.drop n) (us.drop n)
 | _,_,0,r=>r
 | _,_,_ + 1, .nil => .nil
 | _,_,n + 1, .cons _ t=>Vals.drop n t
noncomputable def BV:Option V->Option Value->Prop
 | some v,some u=>RelV v u
 | none,none=>True
 | _,_=>False
noncomputable def KV {κ:Type}:List (κ × V)->List (κ × Value)->Prop:=Paired fun (p:κ × V)(q:κ × Value)=>p.1=q.1/\RelV p.2 q.2
noncomputable def kV:gh->V
 | .inl i => .int i
 | .inr x => .str x
inductive HO where
  | lst (xs:List V)
  | tup (xs:List V)
  | dK (Aw:List (gh × V)) | dT (Aw:List (List gh × V))
  | set (S:Int->Bool) (n:Nat)
  | ins (C dx:Addr) (fs:List (Str × V))
  | own (x:Addr)
  | xd (fs:List (Str × V))
  | met (f x:Addr)
  | PR (lo hi:Int)
  | Ec (o:Obj) (u:HO)
  | Hh (ps:Array Value)
  | ext (φ:Heap->Prop)
abbrev Hp:=Addr->Option HO
noncomputable def upd (H:Hp)(a:Addr)(o:HO):Hp:=fun b=>if b=a then some o else H b
theorem ac {H:Hp}{a:Addr}{o:HO}:upd H a o a=some o:=by unfold upd;rw[if_pos rfl]
theorem ai {H:Hp}{a b:Addr}{o:HO}(h:b ≠ a):upd H a o b=H b:=by unfold upd;rw[if_neg h]
theorem bz {H:Hp}{a b:Addr}{o u:HO}(h:H a=some o)(h':H b=some u)(d:o ≠ u):a ≠ b:=by
 intro e;subst e;rw[h]at h';exact d (Option.some.inj h')
theorem aj {H:Hp}{a b:Addr}{o:HO}(h:H a=some o)(h':H b=none):a ≠ b:=by
 intro e;subst e;rw[h]at h';cases h'
noncomputable def B1 (h:Heap)(a:Addr)(items:Array Value):Prop:=∃ o,h.get? a=some o/\(o.cls = .type "tuple"/\∃ n,o.data = .seq items n)/\o.dict=none
theorem B1.isTup {h:Heap}{a:Addr}{items:Array Value}:B1 h a items->IsTup h a items:=fun Au=>by obtain⟨o,e,c,_⟩:=Au;exact⟨o,e,c⟩
theorem B1.new (h:Heap)(items:Array Value):B1 (h.push { cls := .type "tuple",data := .seq items }) h.objs.size items:=⟨_,Heap.get?_push_size _ rfl,⟨rfl,_,rfl⟩,rfl⟩
section
variable (P:Program)(w:World)
noncomputable def AR (H:Hp)(h:Heap)(a:Addr):HO->Prop
 | .lst xs=>xs.length <= sizeLine/\∃ (As:List Value)(n:Nat),Vals xs As/\h.get? a=some { cls := .type "list",data := .seq As.toArray n }
 | .tup xs=>xs.length <= sizeLine/\∃ As:List Value,Vals xs As/\B1 h a As.toArray
 | .dK Aw=>Aw.length <= sizeLine/\(a == sysModules)=false/\∃ vs,KV Aw vs/\h.DictOf (m9 P w) a vs
 | .dT Aw=>Aw.length <= sizeLine/\(a == sysModules)=false/\∃ xs:List (List gh × Addr × Value),
   Paired (fun (p:List gh × V)(q:List gh × Addr × Value)=>p.1=q.1/\H q.2.1=some (.tup (p.1.map kV))/\RelV p.2 q.2.2) Aw xs /\
   ∃ o es ep,h.get? a=some o/\o.ExactDict/\o.data = .dict es ep/\es.toList=xs.map (entryOfKey (tupleKind (m9 P w)))/\(xs.map (·.1)).Nodup
 | .set S n=>h.SetOf (intKind P w) a S n
 | .ins C dx fs=>H dx=some (.own a)/\fs.length <= 1000/\dx ≠ a/\h.get? a=some (PySem.W.instObj C dx) /\
   ∃ mA,h.Ns1 dx mA/\(∀ f,BV (fs.lookup f) (mA f))/\PySem.Within mA (fs.map (·.1))
 | .own _=>∃ o,h.get? a=some o
 | .xd fs=>∃ mA,h.Ns1 a mA/\∀ f,BV (fs.lookup f) (mA f)
 | .PR lo hi=>∃ t u v,h.get? a=some { cls := .type "range",data := .fields #[.int lo t, .int hi u, .int 1 v] }
 | .Ec o u=>h.get? a=some o/\AR H h a u
 | .Hh ps=>h.get? a=some { cls := .none,data := .fields ps }
 | .met f x=>h.get? a=some (PySem.W.methodObj (.ref f) (.ref x))
 | .ext φ=>φ h/\(∃ o,h.get? a=some o)/\∀ h1 h2:Heap,φ h1->(∀ o,h1.get? a=some o->h2.get? a=some o)->φ h2
noncomputable def Cc (H:Hp)(h:Heap):Prop:=∀ a o,H a=some o->AR P w H h a o
end
section
variable {P:Program}{w:World}{H H':Hp}{h h':Heap}{a:Addr}{o:HO}
theorem AR.lt (x:AR P w H h a o):a < h.objs.size:=by
 cases o with
 | lst xs=>obtain⟨_,_,_,_,e⟩:=x;exact lt_size e
 | tup xs=>obtain⟨_,_,_,p⟩:=x;exact p.isTup.lt
 | dK Aw=>obtain⟨_,_,_,_,o,_,_,e,_⟩:=x;exact lt_size e
 | dT Aw=>obtain⟨_,_,_,_,o,_,_,e,_⟩:=x;exact lt_size e
 | set S n=>obtain⟨o,_,_,_,e,_⟩:=x;exact lt_size e
 | ins C dx fs=>obtain⟨_,_,_,e,_⟩:=x;exact lt_size e
 | own y=>obtain⟨_,e⟩:=x;exact lt_size e
 | xd fs=>obtain⟨_,⟨_,_,_,e,_⟩,_⟩:=x;exact lt_size e
 | PR lo hi=>obtain⟨_,_,_,e⟩:=x;exact lt_size e
 | Ec ob u=>obtain⟨e,_⟩:=x;exact lt_size e
 | Hh ps=>exact lt_size (show h.get? a=some _ from x)
 | met f y=>exact lt_size (show h.get? a=some _ from x)
 | ext φ=>obtain⟨_,⟨_,e⟩,_⟩:=x;exact lt_size e
theorem Paired.Km {α β:Type}{F G:α->β->Prop}:∀ {l₁:List α}{l₂:List β},Paired F l₁ l₂->(∀ a b,F a b->G a b)->Paired G l₁ l₂
 | _,_, .nil,_ => .nil
 | _,_, .cons r t,f => .cons (f _ _ r) (Paired.Km t f)
theorem AR.BW (x:AR P w H h a o)(k:∀ b u,(b=a∨H b=some (.own a))->h.get? b=some u->h'.get? b=some u)
  (ho:∀ b,H b=some (.own a)->H' b=some (.own a)) (ht:∀ b xs,H b=some (.tup xs)->H' b=some (.tup xs)):AR P w H' h' a o:=by
 induction o with
 | lst xs=>obtain⟨z,As,n,r,e⟩:=x;exact⟨z,As,n,r,k _ _ (.inl rfl) e⟩
 | tup xs=>obtain⟨z,As,r,ob,e,c⟩:=x;exact⟨z,As,r,ob,k _ _ (.inl rfl) e,c⟩
 | dK Aw=>obtain⟨z,y,vs,r,ob,es,ep,e,c⟩:=x;exact⟨z,y,vs,r,ob,es,ep,k _ _ (.inl rfl) e,c⟩
 | dT Aw =>
  obtain⟨z,y,xs,r,ob,es,ep,e,c⟩:=x
  exact⟨z,y,xs,Paired.Km r fun p q z=>⟨z.1,ht _ _ z.2.1,z.2.2⟩,ob,es,ep,k _ _ (.inl rfl) e,c⟩
 | set S n=>obtain⟨ob,es,ep,t,e,c⟩:=x;exact⟨ob,es,ep,t,k _ _ (.inl rfl) e,c⟩
 | ins C dx fs =>
  obtain⟨d,z,ne,e,mA,⟨od,es,ep,e2,c⟩,r⟩:=x
  exact⟨ho _ d,z,ne,k _ _ (.inl rfl) e,mA,⟨od,es,ep,k _ _ (.inr d) e2,c⟩,r⟩
 | own y=>obtain⟨ob,e⟩:=x;exact⟨ob,k _ _ (.inl rfl) e⟩
 | xd fs=>obtain⟨mA,⟨od,es,ep,e,c⟩,r⟩:=x;exact⟨mA,⟨od,es,ep,k _ _ (.inl rfl) e,c⟩,r⟩
 | PR lo hi=>obtain⟨t,u,v,e⟩:=x;exact⟨t,u,v,k _ _ (.inl rfl) e⟩
 | Ec ob u ih=>obtain⟨e,q⟩:=x;exact⟨k _ _ (.inl rfl) e,ih q⟩
 | Hh ps =>
  have e:h.get? a=some { cls := .none,data := .fields ps }:=x
  show h'.get? a=some { cls := .none,data := .fields ps }
  exact k a _ (.inl rfl) e
 | met f y =>
  have e:h.get? a=some (PySem.W.methodObj (.ref f) (.ref y)):=x
  show h'.get? a=some (PySem.W.methodObj (.ref f) (.ref y))
  exact k a _ (.inl rfl) e
 | ext φ=>obtain⟨p,⟨o,e⟩,st⟩:=x;exact⟨st _ _ p fun o q=>k _ _ (.inl rfl) q,⟨o,k _ _ (.inl rfl) e⟩,st⟩
theorem Cc.lt (x:Cc P w H h)(e:H a=some o):a < h.objs.size:=(x a o e).lt
theorem Cc.fresh (x:Cc P w H h)(e:h.objs.size <= a):H a=none:=by
 cases q:H a with
 | none=>rfl
 | some u=>exact absurd (lt_of_lt_of_le (x.lt q) e) (lt_irrefl _)
theorem Cc.kept (x:Cc P w H h)(k:∀ b u,h.get? b=some u->h'.get? b=some u):Cc P w H h':=fun a o e =>
 (x a o e).BW (fun b u _ q=>k b u q) (fun _ q=>q) fun _ _ q=>q
theorem Cc.laid (x:Cc P w H h)(k:∀ b u,h.get? b=some u->h'.get? b=some u)(hp:h.objs.size <= a)(new:AR P w (upd H a o) h' a o):Cc P w (upd H a o) h':=fun b u e=>by
 have hn:=x.fresh hp
 by_cases hb:b=a
 ·subst hb;rw[ac]at e;cases e;exact new
 ·rw[ai hb]at e
  exact(x b u e).BW (fun c v _ q=>k c v q) (fun c q=>by rw[ai (aj q hn)];exact q) fun c xs q=>by rw[ai (aj q hn)];exact q
end
noncomputable def Rd (H:Hp)(a:Addr)(u:HO):Prop:=H a=some u∨∃ o,H a=some (.Ec o u)
theorem Rd.ok {P:Program}{w:World}{H:Hp}{h:Heap}{a:Addr}{u:HO}(r:Rd H a u)(x:Cc P w H h):AR P w H h a u:=by
 rcases r with r | ⟨o,r⟩
 ·exact x a u r
 ·obtain⟨_,q⟩:=x a _ r
  exact q
noncomputable def Ol:Option HO->Prop
 | some (.lst _)=>True
 | some (.dK _)=>True
 | some (.dT _)=>True
 | some (.set _ _)=>True
 | some (.ins _ _ _)=>True
 | some (.ext _)=>True
 | _=>False
section
variable {P:Program}{w:World}{H:Hp}{h h':Heap}{x e:Addr}{o':HO}
theorem Cc.write (ok:Cc P w H h)(mu:Ol (H x))(he:e=x∨H e=some (.own x))(k:∀ b u,b ≠ e->h.get? b=some u->h'.get? b=some u)(JB:∃ u,h'.get? e=some u)
  (new:AR P w (upd H x o') h' x o'):Cc P w (upd H x o') h':=fun b u q=>by
 have Kn:∀ c y,H c=some (.own y)->c ≠ x:=fun c y r z=>by subst z;rw[r]at mu;exact mu
 have PU:∀ c xs,H c=some (.tup xs)->c ≠ x:=fun c xs r z=>by subst z;rw[r]at mu;exact mu
 by_cases hb:b=x
 ·subst hb;rw[ac]at q;cases q;exact new
 ·rw[ai hb]at q
  by_cases Et:b=e
  ·have q':H b=some (.own x):=by
    rcases he with z | z
    ·exact absurd (Et.trans z) hb
    ·rw[Et];exact z
   rw[q]at q';cases q'
   obtain⟨v,hv⟩:=JB
   exact⟨v,by rw[Et];exact hv⟩
  ·refine(ok b u q).BW (fun c v hc r=>k c v ?_ r) (fun c r=>by rw[ai (Kn c b r)];exact r) fun c xs r=>by rw[ai (PU c xs r)];exact r
   rcases hc with rfl | hc
   ·exact Et
   ·rintro rfl
    rcases he with z | z
    ·exact Kn c b hc z
    ·rw[hc]at z;cases z;exact hb rfl
end
structure Un (fs ex:List Addr)(H H':Hp)(h h':Heap):Prop where
 keep:∀ b o,h.get? b=some o->H b=none->b ∉ fs->b ∉ ex->h'.get? b=some o
 slot:∀ b o,h.get? b=some o->H b=none->b ∈ fs->b ∉ ex->∃ sl,h'.get? b=some { o with slots:=sl }
 free:∀ b o,h.get? b=some o->H b=none->b ∉ ex->H' b=none
 there:∀ b o,h.get? b=some o->b ∉ ex->∃ o',h'.get? b=some o'
 CL:∀ b xs,H b=some (.tup xs)->H' b=some (.tup xs)
 C6:∀ b o u,H b=some (.Ec o u)->H' b=some (.Ec o u)
 CM:∀ b ps,H b=some (.Hh ps)->∃ more,H' b=some (.Hh (ps ++ more))
section
variable {fs Ig ex JC:List Addr}{H H1 H2:Hp}{h h1 h2 h':Heap}{a x e:Addr}{o:HO}
theorem Un.any (u:Un fs ex H H1 h h1){b:Addr}{ob:Obj}(q:h.get? b=some ob)(n:H b=none)(hx:b ∉ ex):∃ sl,h1.get? b=some { ob with slots:=sl }:=by
 by_cases hb:b ∈ fs
 ·exact u.slot b ob q n hb hx
 ·exact⟨ob.slots,u.keep b ob q n hb hx⟩
theorem Un.kept (k:∀ b u,h.get? b=some u->h'.get? b=some u):Un fs ex H H h h' :=
 ⟨fun b ob q _ _ _=>k b ob q,fun b ob q _ _ _=>⟨ob.slots,k b ob q⟩,fun _ _ _ n _=>n,fun b ob q _=>⟨ob,k b ob q⟩,fun _ _ q=>q,fun _ _ _ q=>q,fun _ ps q=>⟨#[],by rw[q];simp⟩⟩
theorem Un.refl:Un fs ex H H h h:=Un.kept fun _ _ q=>q
theorem Un.laid (k:∀ b u,h.get? b=some u->h'.get? b=some u)(hp:h.objs.size <= a)(hn:H a=none):Un fs ex H (upd H a o) h h' where
 keep:=fun b u q _ _ _=>k b u q
 slot:=fun b u q _ _ _=>⟨u.slots,k b u q⟩
 free:=fun b u q n _=>by rw[ai (ne_of_lt (lt_of_lt_of_le (lt_size q) hp))];exact n
 there:=fun b u q _=>⟨u,k b u q⟩
 CL:=fun b xs q=>by rw[ai (aj q hn)];exact q
 C6:=fun b u xs q=>by rw[ai (aj q hn)];exact q
 CM:=fun b ps q=>⟨#[],by rw[ai (aj q hn),q];simp⟩
theorem Un.write (mu:Ol (H x))(he:e=x∨H e=some (.own x))(k:∀ b u,b ≠ e->h.get? b=some u->h'.get? b=some u)(JB:∃ u,h'.get? e=some u):Un fs ex H (upd H x o) h h':=by
 have hx:∀ b,H b=none->b ≠ x:=fun b n z=>by subst z;rw[n]at mu;exact mu
 have hb:∀ b,H b=none->b ≠ e:=fun b n z=>by
  subst z
  rcases he with r | r
  ·exact hx b n r
  ·rw[n]at r;cases r
 have hm:∀ b u,H b=some u->¬ Ol (some u)->b ≠ x:=fun b u q nm z=>by subst z;rw[q]at mu;exact nm mu
 refine⟨fun b u q n _ _=>k b u (hb b n) q,fun b u q n _ _=>⟨u.slots,k b u (hb b n) q⟩,fun b u q n _=>by rw[ai (hx b n)];exact n,fun b u q _=>?_,
  fun b xs q=>by rw[ai (hm b _ q fun z=>z)];exact q,fun b u xs q=>by rw[ai (hm b _ q fun z=>z)];exact q,fun b ps q=>⟨#[],by rw[ai (hm b _ q fun z=>z),q];simp⟩⟩
 by_cases Et:b=e
 ·subst Et;exact JB
 ·exact⟨u,k b u Et q⟩
end
noncomputable def Om (h:Heap)(H:Hp):List Addr:=(List.range h.objs.size).filter fun a=>(H a).isSome
noncomputable def mH (h:Heap)(H:Hp):Heap:=PySem.W.hideAll h (Om h H)
theorem sS (h:Heap)(H:Hp):(mH h H).objs.size=h.objs.size:=PySem.W.hideAll_size _ _
theorem v9 {h:Heap}{H:Hp}{b:Addr}{o:Obj}(e:h.get? b=some o)(n:H b=none):(mH h H).get? b=some o :=
 PySem.W.hideAll_get _ e fun hm=>by
  have q:(H b).isSome=true:=(mem_filter.mp hm).2
  rw[n]at q;simp at q
theorem xp {h:Heap}{H:Hp}{b:Addr}{o:Obj}(e:(mH h H).get? b=some o):h.get? b=some o/\H b=none:=by
 have e':h.get? b=some o:=PySem.W.of_hideAll (Om h H) e
 refine⟨e',?_⟩
 cases q:H b with
 | none=>rfl
 | some x =>
  have hm:b ∈ Om h H:=mem_filter.mpr ⟨mem_range.mpr (lt_size e'),by simp[q]⟩
  have z:(mH h H).get? b=none:=PySem.W.hideAll_none (Om h H) hm
  rw[z]at e;cases e
structure Mod (K:Frag)(mg:Str->Option Value)(base:Heap):Prop where
 ED:K.In base
 glob:base.Ns mainGlobals mg
 blt:∃ mb,base.Ns builtinsNs mb/\∀ x:Str,x ≠ "__name__"->mb x=bootBuiltins x
 nolimit:base.NoLimit
structure Cx where
 prog:Program
 w:World
 K:Frag
 mg:Str->Option Value
 base:Heap
 A:Around
 N:List Str
 s₀:Shared
 H₀:Hp
 env:Env
 outer:List Env
 stack:List Env
 ex:List Addr
 fn:Str->Bool
 calm:Bool
 pn:List (Addr × Obj)
 xe:Value->Shared->Prop
noncomputable def rH (l:List Env):List Addr:=l.filterMap (·.frame)
abbrev Cx.fs (X:Cx):List Addr:=rH X.outer
noncomputable def PV (sc:Scope)(x:Str):Prop:=sc.names.lookup x=some .local∨sc.names.lookup x=some .cell∨sc.names.lookup x=some .free
noncomputable def Loc (sc:Scope)(x:Str):Prop:=sc.names.lookup x=some .local∨sc.names.lookup x=some .cell
noncomputable def Look (env:Env)(h:Heap)(m:Str->Option Value)(x:Str)(u:Value):Prop :=
 (env.kindOf x=some .local/\m x=some u)∨((env.kindOf x=some .cell∨env.kindOf x=some .free)/\∃ c,env.cells.lookup x=some c/\h.IsCell c (some u))
structure Cx.Ok (X:Cx):Prop where
 mod:Mod X.K X.mg X.base
 kind:X.env.scope.kind = .function
 glob:X.env.globals=mainGlobals
 blt:X.env.builtins=builtinsNs
 above:X.s₀.heap.objs.size <= X.env.locals
 inj:∀ x y c,X.env.cells.lookup x=some c->X.env.cells.lookup y=some c->x=y
 has:∀ x,(X.env.kindOf x=some .cell∨X.env.kindOf x=some .free)->∃ c,X.env.cells.lookup x=some c
 Ko:∀ x c,X.fn x=true->X.env.cells.lookup x=some c->X.s₀.heap.objs.size <= c
 hd:X.calm=true->X.A.handled=none
 frames:X.A.frames=some X.stack
 Oo:X.stack=X.outer∨(X.stack=X.env :: X.outer/\X.env.frame=some X.env.locals)
 V1:∀ b ∈ X.ex,b ≠ X.env.locals/\∀ x c,X.env.cells.lookup x=some c->c ≠ b
 bs:∀ b o,X.base.get? b=some o->X.s₀.heap.get? b=some o/\X.H₀ b=none
 FV:X.base.objs.size <= X.s₀.heap.objs.size
 ET:∀ b o,X.base.get? b=some o->b ∉ X.ex
 FW:∀ b ∈ X.ex,b ∉ X.fs
 Cf:X.s₀.heap.FunFrames X.base X.outer
 Ih:∀ b ∈ X.fs,X.H₀ b=none
structure Inv (X:Cx)(pins:List (Addr × Obj))(σ:List (Option V))(H:Hp)(s:Shared):Prop where
 ok:X.Ok
 os:s.os=X.s₀.os
 bare:AllBare s.gens
 base:Un X.fs X.ex X.H₀ H X.s₀.heap s.heap
 loc:∃ m,s.heap.Ns X.env.locals m/\∀ (i:Nat)(x:Str)(v:V),X.N[i]? = some x->σ[i]? = some (some v)->PV X.env.scope x->∃ u,RelV v u/\Look X.env s.heap m x u
 cell:∀ x c,X.env.cells.lookup x=some c->∃ v,s.heap.IsCell c v
 free:H X.env.locals=none
 Bo:∀ x c,X.env.cells.lookup x=some c->H c=none
 pin:∀ p ∈ X.pn ++ pins,s.heap.get? p.1=some p.2/\H p.1=none/\p.1 ≠ X.env.locals/\p.1 ∉ X.fs/\∀ v,p.2.data ≠ .cell v
 AD:Cc X.prog X.w H s.heap
 len:σ.length=X.N.length
section
variable {X:Cx}{pins:List (Addr × Obj)}{σ:List (Option V)}{H H':Hp}{s:Shared}{h':Heap}
theorem Cx.Ok.PX (ok:X.Ok){b:Addr}{o:Obj}(e:X.base.get? b=some o):b ∉ X.fs:=fun hb=>by
 have:=(ok.Cf.mem hb).1
 rw[e]at this;cases this
theorem Inv.bs (I:Inv X pins σ H s):∀ b o,X.base.get? b=some o->s.heap.get? b=some o/\H b=none:=fun b o e =>
 ⟨I.base.keep b o (I.ok.bs b o e).1 (I.ok.bs b o e).2 (I.ok.PX e) (I.ok.ET b o e),I.base.free b o (I.ok.bs b o e).1 (I.ok.bs b o e).2 (I.ok.ET b o e)⟩
theorem Inv.bk (I:Inv X pins σ H s):∀ b o,X.base.get? b=some o->s.heap.get? b=some o:=fun b o e=>(I.bs b o e).1
theorem Inv.mod (I:Inv X pins σ H s):Mod X.K X.mg X.base:=I.ok.mod
theorem Inv.BR (I:Inv X pins σ H s):X.K.In s.heap:=I.ok.mod.ED.keeps I.bk
theorem Inv.lt (I:Inv X pins σ H s):X.env.locals < s.heap.objs.size:=let ⟨_,hn,_⟩:=I.loc;hn.lt
theorem Inv.sz (I:Inv X pins σ H s):X.s₀.heap.objs.size <= s.heap.objs.size:=le_trans I.ok.above (le_of_lt I.lt)
theorem Inv.PY (I:Inv X pins σ H s){a:Addr}(h:s.heap.objs.size <= a):a ∉ X.fs:=fun hb=>by
 obtain⟨_,o,ho,_⟩:=I.ok.Cf.mem hb
 exact absurd (lt_of_lt_of_le (lt_size ho) (le_trans I.sz h)) (lt_irrefl _)
theorem Inv.Ii (I:Inv X pins σ H s):∀ x c,X.env.cells.lookup x=some c->c ≠ X.env.locals:=fun x c e z=>by
 obtain⟨v,o,ho,hd⟩:=I.cell x c e
 obtain⟨m,⟨o',es,ep,EU,PZ,_⟩,_⟩:=I.loc
 rw[z,EU]at ho;cases ho;rw[PZ]at hd;cases hd
theorem Inv.Cf (I:Inv X pins σ H s):s.heap.FunFrames X.base X.outer:=by
 have all:∀ (l:List Env),(∀ b ∈ rH l,b ∈ X.fs)->X.s₀.heap.FunFrames X.base l->s.heap.FunFrames X.base l:=by
  intro l
  induction l with
  | nil=>intro _ _;trivial
  | cons env r ih =>
   intro hs hl
   obtain⟨hk,⟨L,o,hf,hn,ho,hd⟩,hr⟩:=hl
   have hL:L ∈ X.fs:=hs L (by unfold rH;rw[filterMap_cons,hf];exact mem_cons_self)
   obtain⟨sl,e⟩:=I.base.slot L o ho (I.ok.Ih L hL) hL fun z=>I.ok.FW L z hL
   exact⟨hk,⟨L,_,hf,hn,e,hd⟩,ih (fun b hb=>hs b (by unfold rH;rw[filterMap_cons,hf];exact mem_cons_of_mem _ hb)) hr⟩
 exact all X.outer (fun _ hb=>hb) I.ok.Cf
theorem Inv.stack (I:Inv X pins σ H s):s.heap.FunFrames X.base X.stack:=by
 rcases I.ok.Oo with e | ⟨e,hf⟩
 ·rw[e];exact I.Cf
 ·rw[e]
  obtain⟨m,hn,_⟩:=I.loc
  refine .cons (by rw[I.ok.kind];decide) hf hn ?_ I.Cf
  exact Heap.get?_none_of_le (le_trans I.ok.FV I.ok.above)
theorem Inv.CN (I:Inv X pins σ H s):∀ b ∈ rH X.stack,b ∈ X.env.locals :: X.fs:=fun b hb=>by
 rcases I.ok.Oo with e | ⟨e,hf⟩
 ·rw[e]at hb;exact mem_cons_of_mem _ hb
 ·rw[e]at hb
  unfold rH at hb
  rw[filterMap_cons,hf]at hb
  exact hb
theorem Inv.Ed (I:Inv X pins σ H s):∀ b ∈ rH X.stack,H b=none:=fun b hb=>by
 rcases mem_cons.mp (I.CN b hb) with e | hb
 ·rw[e];exact I.free
 ·obtain⟨_,o,ho,_⟩:=I.ok.Cf.mem hb
  exact I.base.free b o ho (I.ok.Ih b hb) fun z=>I.ok.FW b z hb
theorem Inv.step {g':Array GenState}{t':Nat}{d':Drawn}{ch:List Addr}(I:Inv X pins σ H s)
  (EE:∀ b ∈ ch,(b ∈ X.ex∨X.s₀.heap.objs.size <= b)/\b ≠ X.env.locals/\(∀ x c,X.env.cells.lookup x=some c->c ≠ b)/\∀ p ∈ X.pn ++ pins,p.1 ≠ b)
  (keep:∀ b o,b ≠ X.env.locals->b ∉ X.fs->b ∉ ch->s.heap.get? b=some o->H b=none->h'.get? b=some o)
  (slot:∀ b o,b ≠ X.env.locals->b ∈ X.fs->b ∉ ch->s.heap.get? b=some o->H b=none->∃ sl,h'.get? b=some { o with slots:=sl }) (free:∀ b o,b ∉ ch->s.heap.get? b=some o->H b=none->H' b=none)
  (there:∀ b o,b ∉ ch->s.heap.get? b=some o->∃ o',h'.get? b=some o')
  (CL:∀ b xs,H b=some (.tup xs)->H' b=some (.tup xs)) (C6:∀ b o u,H b=some (.Ec o u)->H' b=some (.Ec o u)) (CM:∀ b ps,H b=some (.Hh ps)->∃ more,H' b=some (.Hh (ps ++ more)))
  (ns:∀ m,s.heap.Ns X.env.locals m->h'.Ns X.env.locals m) (AD:Cc X.prog X.w H' h') (hg:AllBare g') :
  Inv X pins σ H' { s with heap:=h',gens:=g',drawn:=d',toks:=t' }:=by
 have V2:∀ b o,X.s₀.heap.get? b=some o->b ≠ X.env.locals:=fun b o e=>ne_of_lt (lt_of_lt_of_le (lt_size e) I.ok.above)
 have Oq:∀ b o,X.s₀.heap.get? b=some o->b ∉ X.ex->b ∉ ch:=fun b o e hx hb=>by
  rcases (EE b hb).1 with z | z
  ·exact hx z
  ·exact absurd (lt_of_lt_of_le (lt_size e) z) (lt_irrefl _)
 have cellK:∀ x c,X.env.cells.lookup x=some c->∀ v,s.heap.IsCell c v->h'.IsCell c v:=fun x c e v ⟨o,ho,hd⟩=>by
  have Kp:c ∉ ch:=fun z=>(EE c z).2.2.1 x c e rfl
  by_cases hc:c ∈ X.fs
  ·obtain⟨sl,q⟩:=slot c o (I.Ii x c e) hc Kp ho (I.Bo x c e)
   exact⟨_,q,hd⟩
  ·exact⟨o,keep c o (I.Ii x c e) hc Kp ho (I.Bo x c e),hd⟩
 refine⟨I.ok,I.os,hg,⟨fun b o e n hb hx=>?_,fun b o e n hb hx=>?_,fun b o e n hx=>?_,fun b o e hx=>?_,fun b xs e=>CL b xs (I.base.CL b xs e),fun b o xs e=>C6 b o xs (I.base.C6 b o xs e),fun b ps e=>?_⟩,?_,fun x c e=>?_,?_,fun x c e=>?_,fun p hp=>?_,AD,I.len⟩
 ·exact keep b o (V2 b o e) hb (Oq b o e hx) (I.base.keep b o e n hb hx) (I.base.free b o e n hx)
 ·obtain⟨sl,e1⟩:=I.base.slot b o e n hb hx
  obtain⟨sl',e2⟩:=slot b _ (V2 b o e) hb (Oq b o e hx) e1 (I.base.free b o e n hx)
  exact⟨sl',e2⟩
 ·obtain⟨o',e1⟩:=I.base.there b o e hx
  exact free b o' (Oq b o e hx) e1 (I.base.free b o e n hx)
 ·obtain⟨o',e1⟩:=I.base.there b o e hx
  exact there b o' (Oq b o e hx) e1
 ·obtain⟨m1,e1⟩:=I.base.CM b ps e
  obtain⟨m2,e2⟩:=CM b _ e1
  exact⟨m1 ++ m2,by rw[e2,Array.append_assoc]⟩
 ·obtain⟨m,hn,hl⟩:=I.loc
  refine⟨m,ns m hn,fun i x v e1 e2 e3=>?_⟩
  obtain⟨u,r,l⟩:=hl i x v e1 e2 e3
  refine⟨u,r,?_⟩
  rcases l with l | ⟨k,c,e,z⟩
  ·exact .inl l
  ·exact .inr ⟨k,c,e,cellK x c e _ z⟩
 ·obtain⟨v,z⟩:=I.cell x c e
  exact⟨v,cellK x c e v z⟩
 ·obtain⟨m,⟨o,_,_,ho,_⟩,_⟩:=I.loc
  exact free _ o (fun z=>(EE _ z).2.1 rfl) ho I.free
 ·obtain⟨v,o,ho,hd⟩:=I.cell x c e
  exact free c o (fun z=>(EE c z).2.2.1 x c e rfl) ho (I.Bo x c e)
 ·obtain⟨e,n,ne,nf,d⟩:=I.pin p hp
  have Kp:p.1 ∉ ch:=fun z=>(EE p.1 z).2.2.2 p hp rfl
  exact⟨keep p.1 p.2 ne nf Kp e n,free p.1 p.2 Kp e n,ne,nf,d⟩
theorem Inv.un {t':Nat}(I:Inv X pins σ H s)(u:Un X.fs [] H H' s.heap h')(AD:Cc X.prog X.w H' h'):Inv X pins σ H' { s with heap:=h',toks:=t' }:=by
 obtain⟨m,⟨o,es,ep,ho,r⟩,_⟩:=id I.loc
 obtain⟨sl,hL⟩:=u.any ho I.free (by simp)
 exact I.step (g':=s.gens) (d':=s.drawn) (ch:=[]) (fun _ z=>nomatch z) (fun b o _ hb _ e n=>u.keep b o e n hb (by simp)) (fun b o _ hb _ e n=>u.slot b o e n hb (by simp)) (fun b o _ e n=>u.free b o e n (by simp)) (fun b o _ e=>u.there b o e (by simp)) u.CL u.C6 u.CM (fun m' hm=>by
  obtain⟨o',Qa,Qb,EU,r'⟩:=hm
  rw[ho]at EU;cases EU
  exact⟨_,Qa,Qb,hL,r'⟩) AD I.bare
theorem Inv.call {g':Array GenState}{t':Nat}{d':Drawn}{ch:List Addr}(I:Inv X pins σ H s)(u:Un (rH X.stack) ch H H' s.heap h')(AD:Cc X.prog X.w H' h')(hg:AllBare g')
  (EE:∀ b ∈ ch,(b ∈ X.ex∨X.s₀.heap.objs.size <= b)/\b ≠ X.env.locals/\(∀ x c,X.env.cells.lookup x=some c->c ≠ b)/\∀ p ∈ X.pn ++ pins,p.1 ≠ b) :
  Inv X pins σ H' { s with heap:=h',gens:=g',drawn:=d',toks:=t' }:=by
 obtain⟨m,⟨o,es,ep,ho,r⟩,_⟩:=id I.loc
 obtain⟨sl,hL⟩:=u.any ho I.free fun z=>(EE _ z).2.1 rfl
 exact I.step (ch:=ch) EE (fun b o hL hb hc e n=>u.keep b o e n (fun z=>(mem_cons.mp (I.CN b z)).elim hL hb) hc) (fun b o _ _ hc e n=>u.any e n hc) (fun b o hc e n=>u.free b o e n hc) (fun b o hc e=>u.there b o e hc) u.CL u.C6 u.CM (fun m' hm=>by
  obtain⟨o',Qa,Qb,EU,r'⟩:=hm
  rw[ho]at EU;cases EU
  exact⟨_,Qa,Qb,hL,r'⟩) AD hg
theorem Inv.turned {t':Nat}{it:Addr}(I:Inv X pins σ H s)(k:∀ b o,b ≠ it->s.heap.get? b=some o->h'.get? b=some o)(hn:H it=none)(hL:it ≠ X.env.locals)
  (h1:it ∈ X.ex∨X.s₀.heap.objs.size <= it) (h2:∀ x c,X.env.cells.lookup x=some c->c ≠ it) (h3:∀ p ∈ X.pn ++ pins,p.1 ≠ it):Inv X pins σ H { s with heap:=h',toks:=t' }:=by
 have V3:∀ b u,H b=some u->b ≠ it:=fun b u e z=>by rw[z,hn]at e;cases e
 refine I.step (g':=s.gens) (d':=s.drawn) (ch:=[it]) (fun b hb=>?_) (fun b o _ _ hc e _=>k b o (fun z=>hc (by simp[z])) e) (fun b o _ _ hc e _=>⟨o.slots,k b o (fun z=>hc (by simp[z])) e⟩) (fun _ _ _ _ n=>n)
  (fun b o hc e=>⟨o,k b o (fun z=>hc (by simp[z])) e⟩) (fun _ _ e=>e) (fun _ _ _ e=>e) (fun b ps e=>⟨#[],by rw[e];simp⟩) (fun m hm=>?_) (fun b u e=>?_) I.bare
 ·have e:b=it:=by simpa using hb
  subst e
  exact⟨h1,hL,h2,h3⟩
 ·obtain⟨o,es,ep,ho,r⟩:=hm
  exact⟨o,es,ep,k _ o (Ne.symm hL) ho,r⟩
 ·refine(I.AD b u e).BW (fun c v hc q=>k c v ?_ q) (fun _ q=>q) fun _ _ q=>q
  rcases hc with z | z
  ·rw[z];exact V3 b u e
  ·exact V3 c _ z
theorem Inv.tok (I:Inv X pins σ H s)(t:Nat):Inv X pins σ H { s with toks:=t }:=I.un (h':=s.heap) (t':=t) Un.refl I.AD
theorem Inv.kept {t':Nat}(I:Inv X pins σ H s)(k:∀ b u,s.heap.get? b=some u->h'.get? b=some u):Inv X pins σ H { s with heap:=h',toks:=t' }:=I.un (Un.kept k) (I.AD.kept k)
theorem Inv.laid {a:Addr}{o:HO}{t':Nat}(I:Inv X pins σ H s)(k:∀ b u,s.heap.get? b=some u->h'.get? b=some u)(hp:s.heap.objs.size <= a)(new:AR X.prog X.w (upd H a o) h' a o) :
  Inv X pins σ (upd H a o) { s with heap:=h',toks:=t' }:=I.un (Un.laid k hp (I.AD.fresh hp)) (I.AD.laid k hp new)
theorem Inv.write {x e:Addr}{o:HO}{t':Nat}(I:Inv X pins σ H s)(mu:Ol (H x))(he:e=x∨H e=some (.own x))(k:∀ b u,b ≠ e->s.heap.get? b=some u->h'.get? b=some u)(JB:∃ u,h'.get? e=some u)
  (new:AR X.prog X.w (upd H x o) h' x o):Inv X pins σ (upd H x o) { s with heap:=h',toks:=t' }:=I.un (Un.write mu he k JB) (I.AD.write mu he k JB new)
theorem Inv.B8 {Dk:List (Addr × Obj)}(I:Inv X pins σ H s)(h:∀ p ∈ Dk,s.heap.get? p.1=some p.2/\H p.1=none/\p.1 ≠ X.env.locals/\p.1 ∉ X.fs/\∀ v,p.2.data ≠ .cell v):Inv X Dk σ H s :=
 ⟨I.ok,I.os,I.bare,I.base,I.loc,I.cell,I.free,I.Bo,fun p hp=>(mem_append.mp hp).elim (fun z=>I.pin p (mem_append_left _ z)) (h p),I.AD,I.len⟩
theorem nM {N:List Str}(hN:N.Nodup){i j:Nat}{x:Str}(a:N[i]? = some x)(b:N[j]? = some x):i=j:=by
 obtain⟨h1,e1⟩:=List.getElem?_eq_some_iff.mp a
 obtain⟨h2,e2⟩:=List.getElem?_eq_some_iff.mp b
 exact(List.getElem_inj hN).mp (e1.trans e2.symm)
theorem kP {M:Model}{A:Around}{E:Value->Shared->Prop}{i:Nat}{x:Str}{v:V}{u:Value}{Q:Unit->Shared->Prop}(I:Inv X pins σ H s)(hN:X.N.Nodup)(hi:X.N[i]? = some x)(hx:Loc X.env.scope x)(r:RelV v u)
  (h:∀ s',Inv X pins (σ.set i (some v)) H s'->(∃ a,Heap.SameBut a s.heap s'.heap/\(a=X.env.locals∨X.env.cells.lookup x=some a))->Q () s') (hf:autoParam (X.fn x=true∨X.env.scope.names.lookup x=some .local) ζ):wpAny M A (storeName X.env x u) Q E s:=by
 obtain⟨m,hn,hl⟩:=id I.loc
 have Qc:(X.env.scope.kind == .class || (X.env.scope.kind == .module && X.env.locals != X.env.globals))=false:=by rw[I.ok.kind];rfl
 have Kq:i < σ.length:=by rw[I.len];exact(gQ0 hi)
 have Ii:=I.Ii
 have tracked:∀ {a:Addr}{h':Heap},(∃ o,s.heap.get? a=some o/\H a=none)->Heap.SameBut a s.heap h'->Cc X.prog X.w H h':=fun {a h'} ha hs b ob e=>by
  obtain⟨_,_,Hi⟩:=ha
  refine(I.AD b ob e).BW (fun c w' hc q=>(hs.2 c ?_).trans q) (fun _ q=>q) fun _ _ q=>q
  rintro rfl
  rcases hc with rfl | hc
  ·rw[Hi]at e;cases e
  ·rw[Hi]at hc;cases hc
 rcases hx with hk | hk
 ·refine wpAny_storeName_local hk hn (fun h' hn' hs=>?_) Qc
  obtain⟨oL,_,_,hoL,_⟩:=id hn
  refine h _ ⟨I.ok,I.os,I.bare,⟨fun b o e n hb hx=>?_,fun b o e n hb hx=>?_,I.base.free,fun b o e hx=>?_,I.base.CL,I.base.C6,I.base.CM⟩,⟨_,hn',fun j y v' e1 e2 e3=>?_⟩,fun y c e=>?_,I.free,I.Bo,fun p hp=>?_,tracked ⟨oL,hoL,I.free⟩ hs,by simpa using I.len⟩ ⟨_,hs, .inl rfl⟩
  ·exact(hs.2 b (ne_of_lt (lt_of_lt_of_le (lt_size e) I.ok.above))).trans (I.base.keep b o e n hb hx)
  ·obtain⟨sl,e1⟩:=I.base.slot b o e n hb hx
   exact⟨sl,(hs.2 b (ne_of_lt (lt_of_lt_of_le (lt_size e) I.ok.above))).trans e1⟩
  ·obtain⟨o',e1⟩:=I.base.there b o e hx
   exact⟨o',(hs.2 b (ne_of_lt (lt_of_lt_of_le (lt_size e) I.ok.above))).trans e1⟩
  ·by_cases hj:j=i
   ·subst hj
    rw[hi]at e1;cases e1
    rw[List.getElem?_set_self Kq]at e2
    cases e2
    exact⟨u,r, .inl ⟨hk,by simp⟩⟩
   ·rw[getElem?_set_ne (Ne.symm hj)]at e2
    obtain⟨u',r',q⟩:=hl j y v' e1 e2 e3
    refine⟨u',r',?_⟩
    rcases q with ⟨k,e⟩ | ⟨k,c,e,z⟩
    ·refine .inl ⟨k,?_⟩
     have:y ≠ x:=fun e=>hj (nM hN e1 (e ▸ hi))
     simp[this,e]
    ·exact .inr ⟨k,c,e,z.sameBut hs (Ii y c e)⟩
  ·obtain⟨w',z⟩:=I.cell y c e
   exact⟨w',z.sameBut hs (Ii y c e)⟩
  ·obtain⟨e,n,ne,nf,d⟩:=I.pin p hp
   exact⟨(hs.2 p.1 ne).trans e,n,ne,nf,d⟩
 ·have Qd:X.fn x=true:=by
   rcases hf with z | z
   ·exact z
   ·rw[z]at hk;cases hk
  obtain⟨c,hc⟩:=I.ok.has x (.inl hk)
  obtain⟨w',z⟩:=I.cell x c hc
  refine wpAny_storeName_cell I.ok.kind hk hc z (fun h' JD hs=>?_)
  obtain⟨oc,V4,Qe⟩:=id z
  refine h { s with heap:=h' } ⟨I.ok,I.os,I.bare,⟨fun b o e n hb hx=>?_,fun b o e n hb hx=>?_,I.base.free,fun b o e hx=>?_,I.base.CL,I.base.C6,I.base.CM⟩,⟨m,hn.sameBut hs (Ne.symm (Ii x c hc)),fun j y v' e1 e2 e3=>?_⟩,fun y c' e=>?_,I.free,I.Bo,fun p hp=>?_,tracked ⟨oc,V4,I.Bo x c hc⟩ hs,by simpa using I.len⟩ ⟨c,hs, .inr hc⟩
  ·exact(hs.2 b (ne_of_lt (lt_of_lt_of_le (lt_size e) (I.ok.Ko x c Qd hc)))).trans (I.base.keep b o e n hb hx)
  ·obtain⟨sl,e1⟩:=I.base.slot b o e n hb hx
   exact⟨sl,(hs.2 b (ne_of_lt (lt_of_lt_of_le (lt_size e) (I.ok.Ko x c Qd hc)))).trans e1⟩
  ·obtain⟨o',e1⟩:=I.base.there b o e hx
   exact⟨o',(hs.2 b (ne_of_lt (lt_of_lt_of_le (lt_size e) (I.ok.Ko x c Qd hc)))).trans e1⟩
  ·by_cases hj:j=i
   ·subst hj
    rw[hi]at e1;cases e1
    rw[List.getElem?_set_self Kq]at e2
    cases e2
    exact⟨u,r, .inr ⟨.inl hk,c,hc,JD⟩⟩
   ·rw[getElem?_set_ne (Ne.symm hj)]at e2
    obtain⟨u',r',q⟩:=hl j y v' e1 e2 e3
    refine⟨u',r',?_⟩
    rcases q with q | ⟨k,c',e,z'⟩
    ·exact .inl q
    ·refine .inr ⟨k,c',e,z'.sameBut hs ?_⟩
     rintro rfl
     exact hj (nM hN e1 (I.ok.inj _ _ _ e hc ▸ hi))
  ·by_cases Hj:c' = c
   ·subst Hj;exact⟨_,JD⟩
   ·obtain⟨w2,z2⟩:=I.cell y c' e
    exact⟨w2,z2.sameBut hs Hj⟩
  ·obtain⟨e,n,ne,nf,d⟩:=I.pin p hp
   refine⟨(hs.2 p.1 ?_).trans e,n,ne,nf,d⟩
   intro q
   rw[q,V4]at e
   have q':oc=p.2:=Option.some.inj e
   exact d w' (by rw[← q'];exact Qe)
theorem mZ {M:Model}{A:Around}{E:Value->Shared->Prop}{i:Nat}{x:Str}{v:V}{u:Value}{Q:Unit->Shared->Prop}(I:Inv X pins σ H s)(hN:X.N.Nodup)(hi:X.N[i]? = some x)(hx:Loc X.env.scope x)(r:RelV v u)
  (h:∀ s',Inv X pins (σ.set i (some v)) H s'->Q () s') (hf:autoParam (X.fn x=true∨X.env.scope.names.lookup x=some .local) ζ):wpAny M A (storeName X.env x u) Q E s :=
 kP I hN hi hx r (fun s' I' _=>h s' I') hf
theorem Inv.Kr {s':Shared}{ch:List Addr}(I:Inv X pins σ H s)(ho:s'.os=s.os)(u:Un (rH X.stack) ch H H' s.heap s'.heap)(AD:Cc X.prog X.w H' s'.heap)(hg:AllBare s'.gens)
  (EE:∀ b ∈ ch,(b ∈ X.ex∨X.s₀.heap.objs.size <= b)/\b ≠ X.env.locals/\(∀ x c,X.env.cells.lookup x=some c->c ≠ b)/\∀ p ∈ X.pn ++ pins,p.1 ≠ b):Inv X pins σ H' s':=by
 obtain⟨h',g',d',t',o'⟩:=s'
 have e:o' = s.os:=ho
 subst e
 exact I.call (g':=g') (t':=t') (d':=d') u AD hg EE
end
abbrev XK:=Value->Option Addr->Hp->Prop
abbrev St:=List (Option V)
abbrev VK:=V->Hp->Prop
abbrev TE:=St->Hp->VK->Prop
abbrev TT:=St->Hp->(Bool->Hp->Prop)->Prop
abbrev TA:=St->Hp->(List V->Hp->Prop)->Prop
structure oR where
 nx:St->Hp->Prop
 rt:VK
 bk:St->Hp->Prop:=fun _ _=>False
 ct:St->Hp->Prop:=fun _ _=>False
abbrev TS:=oR->St->Hp->Prop
noncomputable def EP (X:Cx)(pins:List (Addr × Obj))(σ:St)(Q:VK)(u:Value)(s':Shared):Prop:=∃ v H',Inv X pins σ H' s'/\RelV v u/\Q v H'
noncomputable def TP (X:Cx)(pins:List (Addr × Obj))(σ:St)(Q:Bool->Hp->Prop)(b:Bool)(s':Shared):Prop:=∃ H',Inv X pins σ H' s'/\Q b H'
noncomputable def AP (X:Cx)(pins:List (Addr × Obj))(σ:St)(Q:List V->Hp->Prop)(us:List Value)(s':Shared):Prop:=∃ vs H',Inv X pins σ H' s'/\Vals vs us/\Q vs H'
noncomputable def SP (X:Cx)(pins:List (Addr × Obj))(D:oR)(f:Flow)(s':Shared):Prop :=
 match f with
 | .next=>∃ σ' H',Inv X pins σ' H' s'/\D.nx σ' H'
 | .brk=>∃ σ' H',Inv X pins σ' H' s'/\D.bk σ' H'
 | .cont=>∃ σ' H',Inv X pins σ' H' s'/\D.ct σ' H'
 | .ret u=>∃ v σ' H',Inv X pins σ' H' s'/\RelV v u/\D.rt v H'
noncomputable def PE (X:Cx)(e:Expr)(t:TE):Prop :=
 ∀ (pins:List (Addr × Obj))(s:Shared)(σ:St)(H:Hp)(Q:VK),Inv X pins σ H s->t σ H Q->wpAny (model X.prog X.w) X.A (eval e X.env) (EP X pins σ Q) X.xe s
noncomputable def PT (X:Cx)(e:Expr)(t:TT):Prop :=
 ∀ (pins:List (Addr × Obj))(s:Shared)(σ:St)(H:Hp)(Q:Bool->Hp->Prop),Inv X pins σ H s->t σ H Q->wpAny (model X.prog X.w) X.A (isTrue e X.env (eval e X.env)) (TP X pins σ Q) X.xe s
noncomputable def PW (X:Cx)(e:Expr)(t:TT):Prop :=
 ∀ (whole:Sem Value)(pins:List (Addr × Obj))(s:Shared)(σ:St)(H:Hp)(Q:Bool->Hp->Prop),Inv X pins σ H s->t σ H Q->wpAny (model X.prog X.w) X.A (isTrue e X.env whole) (TP X pins σ Q) X.xe s
theorem PW.pt {X:Cx}{e:Expr}{t:TT}(h:PW X e t):PT X e t:=h _
noncomputable def PA (X:Cx)(es:List Expr)(t:TA):Prop :=
 ∀ (pos:Pos)(pins:List (Addr × Obj))(s:Shared)(σ:St)(H:Hp)(Q:List V->Hp->Prop),Inv X pins σ H s->t σ H Q->wpAny (model X.prog X.w) X.A (spliced (backTo pos (starEach es X.env))) (AP X pins σ Q) X.xe s
noncomputable def PS (X:Cx)(st:Stmt)(t:TS):Prop :=
 ∀ (pins:List (Addr × Obj))(s:Shared)(σ:St)(H:Hp)(D:oR),Inv X pins σ H s->t D σ H->wpAny (model X.prog X.w) X.A (exec st X.env) (SP X pins D) X.xe s
noncomputable def Ee (X:Cx)(st:List Stmt)(t:TS):Prop :=
 ∀ (pins:List (Addr × Obj))(s:Shared)(σ:St)(H:Hp)(D:oR),Inv X pins σ H s->t D σ H->wpAny (model X.prog X.w) X.A (execs st X.env) (SP X pins D) X.xe s
theorem bD {α:Type}{t:Sem α}{Q Q':α->Shared->Prop}{M:Model}{A:Around}{E:Value->Shared->Prop}{s:Shared}(h:wpAny M A t Q E s)(hQ:∀ a s,Q a s->Q' a s):wpAny M A t Q' E s:=wpAny_mono h hQ fun _ _ x=>x
section
variable {X:Cx}
noncomputable def pe (i:Nat):TE:=fun σ H Q=>∃ v,σ[i]? = some (some v)/\Q v H
noncomputable def tC (v:V):TE:=fun _ H Q=>Q v H
theorem zc {i:Nat}{x:Str}{pos:Pos}(hN:X.N[i]? = some x)(hv:PV X.env.scope x)(hd:autoParam ((x == ("__debug__":Str))=false) θ)(DE:autoParam ((x == ("__classdict__":Str))=false) θ):PE X (.Name x pos) (pe i):=by
 intro pins s σ H Q I h
 obtain⟨v,e,h⟩:=h
 obtain⟨m,hn,hl⟩:=I.loc
 obtain⟨u,r,l⟩:=hl i x v hN e hv
 have fin:EP X pins σ Q u s:=⟨v,H,I,r,h⟩
 rcases l with ⟨hk,hm⟩ | ⟨hk,c,hc,Hk⟩
 ·exact wpAny_Name (wpAny_loadName_local I.ok.kind hk hn hm fin) hd
 ·rcases hk with hk | hk
  ·exact wpAny_Name (wpAny_loadName_cell I.ok.kind hk hc Hk fin) hd
  ·exact wpAny_Name (wpAny_loadName_free I.ok.kind hk hc Hk fin DE) hd
theorem ag {i j pos}:PE X (.Constant (.int i) j pos) (tC (.int i)):=fun _ _ _ H _ I h=>wpAny_Constant_int ⟨.int i,H,I.tok _,⟨_,rfl⟩,h⟩
theorem kW {b j pos}:PE X (.Constant (.bool b) j pos) (tC (.bl b)):=fun _ _ _ H _ I h=>Constant_bool ⟨.bl b,H,I,rfl,h⟩
theorem bQ {j pos}:PE X (.Constant .none j pos) (tC .AG):=fun _ _ _ H _ I h=>Constant_none ⟨.AG,H,I,rfl,h⟩
theorem aV {x j pos}:PE X (.Constant (.str x) j pos) (tC (.str x)):=fun _ _ _ H _ I h=>Calls.Constant_str ⟨.str x,H,I.tok _,⟨_,rfl⟩,h⟩
noncomputable def Gl (X:Cx)(x:Str):Prop:=X.env.kindOf x=some .globalImplicit
theorem mD {E:Value->Shared->Prop}{pins:List (Addr × Obj)}{s:Shared}{σ:St}{H:Hp}{x:Str}{u:Value}{pos:Pos}{Q:Value->Shared->Prop}(I:Inv X pins σ H s)(hg:Gl X x)(hm:X.mg x=some u)(h:Q u s)
  (hd:autoParam ((x == ("__debug__":Str))=false) θ):wpAny (model X.prog X.w) X.A (eval (.Name x pos) X.env) Q E s :=
 Calls.Name_function_global I.ok.kind hg (Calls.loadGlobal_global (by rw[I.ok.glob];exact I.mod.glob.keeps I.bk) hm h) hd
theorem iK {E:Value->Shared->Prop}{pins:List (Addr × Obj)}{s:Shared}{σ:St}{H:Hp}{x:Str}{u:Value}{pos:Pos}{Q:Value->Shared->Prop}(I:Inv X pins σ H s)(hg:Gl X x)(hm:X.mg x=none)(hv:bootBuiltins x=some u)(h:Q u s)
  (hn:autoParam (x ≠ "__name__") θ) (hd:autoParam ((x == ("__debug__":Str))=false) θ):wpAny (model X.prog X.w) X.A (eval (.Name x pos) X.env) Q E s:=by
 obtain⟨mb,h1,h2⟩:=I.mod.blt
 exact Calls.Name_function_global I.ok.kind hg (Calls.loadGlobal_builtin (by rw[I.ok.glob];exact I.mod.glob.keeps I.bk) hm (by rw[I.ok.blt];exact h1.keeps I.bk) ((h2 x hn).trans hv) h) hd
theorem dS {x:Str}{v:V}{u:Value}{pos:Pos}(hg:Gl X x)(hm:X.mg x=some u)(r:RelV v u)(hd:autoParam ((x == ("__debug__":Str))=false) θ):PE X (.Name x pos) (tC v) :=
 fun _ _ _ H _ I h=>mD I hg hm ⟨v,H,I,r,h⟩ hd
theorem dU {x:Str}{v:V}{u:Value}{pos:Pos}(hg:Gl X x)(hm:X.mg x=none)(hv:bootBuiltins x=some u)(r:RelV v u)(hn:autoParam (x ≠ "__name__") θ)(hd:autoParam ((x == ("__debug__":Str))=false) θ):PE X (.Name x pos) (tC v) :=
 fun _ _ _ H _ I h=>iK I hg hm hv ⟨v,H,I,r,h⟩ hn hd
variable {a b:Expr}{ta tb:TE}{pos:Pos}
noncomputable def PC (X:Cx)(op:CmpOp)(a b:Expr)(t:TE):Prop :=
 ∀ (pins:List (Addr × Obj))(s:Shared)(σ:St)(H:Hp)(Q:VK),Inv X pins σ H s->t σ H Q ->
  wpAny (model X.prog X.w) X.A (eval a X.env) (fun v s₁=>wpAny (model X.prog X.w) X.A (eval b X.env) (fun u s₂=>wpAny (model X.prog X.w) X.A (compareOp op v u) (EP X pins σ Q) X.xe s₂) X.xe s₁) X.xe s
noncomputable def tB (t:TE):TT:=fun σ H Q=>t σ H fun x H1=>∃ c,x = .bl c/\Q c H1
theorem za {op:CmpOp}{t:TE}(h:PC X op a b t)(h1:behindInMarks op b=false:=by first | exact Ks _ (by decide) (by decide) | rfl):PT X (.Compare a [op] [b] pos) (tB t):=by
 intro pins s σ H Q I hw
 refine wpAny_isTrue_Compare1 (bD (h pins s σ H _ I hw) fun v s1 h1=>bD h1 fun u s2 h2=>bD h2 fun c s3 Au=>?_) h1
 obtain⟨x,H1,I1,r1,q1⟩:=Au
 obtain⟨d,rfl,q⟩:=q1
 cases r1
 exact wpAny_truthy_bool ⟨H1,I1,q⟩
theorem bF {e:Expr}{t:TE}(h:PE X e t)(he:autoParam (∀ whole,isTrue e X.env whole=(do let v ← whole;standAt e.pos;holding [v] (truthy v))) ψ):PT X e (tB t):=by
 intro pins s σ H Q I hw
 refine isTrue_plain (bD (h pins s σ H _ I hw) fun v s1 Au=>?_) (he _)
 obtain⟨x,H1,I1,r1,q1⟩:=Au
 obtain⟨d,rfl,q⟩:=q1
 cases r1
 exact wpAny_truthy_bool ⟨H1,I1,q⟩
variable {tA Ot:TT}{rest:List Expr}
noncomputable def Qf (t u:TT):TT:=fun σ H Q=>t σ H fun c H1=>if c=true then u σ H1 Q else Q false H1
noncomputable def tOr (t u:TT):TT:=fun σ H Q=>t σ H fun c H1=>if c=true then Q true H1 else u σ H1 Q
noncomputable def Qg (t:TT):TT:=fun σ H Q=>t σ H fun c H1=>Q (!c) H1
theorem dC (ha:PT X a tA):PW X (.BoolOp .And [a] pos) tA:=by
 intro wh pins s σ H Q I h
 refine isTrue_and (bD (ha pins s σ H Q I h) fun c s1 e=>?_)
 cases c with
 | true=>exact isTrue_and_nil e
 | false=>exact e
theorem dc (ha:PT X a tA):PW X (.BoolOp .Or [a] pos) tA:=by
 intro wh pins s σ H Q I h
 refine isTrue_or (bD (ha pins s σ H Q I h) fun c s1 e=>?_)
 cases c with
 | false=>exact isTrue_or_nil e
 | true=>exact e
theorem dY (ha:PT X a tA)(hb:PW X (.BoolOp .And (b :: rest) pos) Ot):PW X (.BoolOp .And (a :: b :: rest) pos) (Qf tA Ot):=by
 intro wh pins s σ H Q I h
 refine isTrue_and (bD (ha pins s σ H _ I h) fun c s1 Au=>?_)
 obtain⟨H1,I1,q1⟩:=Au
 cases c with
 | true=>exact hb wh pins s1 σ H1 Q I1 q1
 | false=>exact⟨H1,I1,q1⟩
theorem eG (ha:PT X a tA)(hb:PW X (.BoolOp .Or (b :: rest) pos) Ot):PW X (.BoolOp .Or (a :: b :: rest) pos) (tOr tA Ot):=by
 intro wh pins s σ H Q I h
 refine isTrue_or (bD (ha pins s σ H _ I h) fun c s1 Au=>?_)
 obtain⟨H1,I1,q1⟩:=Au
 cases c with
 | true=>exact⟨H1,I1,q1⟩
 | false=>exact hb wh pins s1 σ H1 Q I1 q1
theorem bM (ha:PT X a tA):PT X (.UnaryOp .Not a pos) (Qg tA):=by
 intro pins s σ H Q I h
 exact isTrue_not (ha pins s σ H (fun c H1=>Q (!c) H1) I h)
noncomputable def Kt (ta tb:TE):TE:=fun σ H Q=>ta σ H fun x H1=>∃ c,x = .bl c/\if c=true then tb σ H1 Q else Q (.bl false) H1
noncomputable def Qh (ta tb:TE):TE:=fun σ H Q=>ta σ H fun x H1=>∃ c,x = .bl c/\if c=true then Q (.bl true) H1 else tb σ H1 Q
noncomputable def Ku (ta:TE):TE:=fun σ H Q=>ta σ H fun x H1=>∃ c,x = .bl c/\Q (.bl (!c)) H1
theorem dZ {op} {t:TE} (h:PE X a t):PE X (.BoolOp op [a] pos) t:=fun pins s σ H Q I hw=>BoolOp_one (h pins s σ H Q I hw)
theorem eu (ha:PE X a ta)(hb:PE X (.BoolOp .And (b :: rest) pos) tb):PE X (.BoolOp .And (a :: b :: rest) pos) (Kt ta tb):=by
 intro pins s σ H Q I h
 refine BoolOp_and (bD (ha pins s σ H _ I h) fun v s1 Au=>?_)
 obtain⟨x,H1,I1,r1,q1⟩:=Au
 obtain⟨c,rfl,q1⟩:=q1
 cases r1
 refine wpAny_truthy_bool ?_
 cases c with
 | true=>exact hb pins s1 σ H1 Q I1 q1
 | false=>exact⟨.bl false,H1,I1,rfl,q1⟩
theorem Kv (ha:PE X a ta)(hb:PE X (.BoolOp .Or (b :: rest) pos) tb):PE X (.BoolOp .Or (a :: b :: rest) pos) (Qh ta tb):=by
 intro pins s σ H Q I h
 refine BoolOp_or (bD (ha pins s σ H _ I h) fun v s1 Au=>?_)
 obtain⟨x,H1,I1,r1,q1⟩:=Au
 obtain⟨c,rfl,q1⟩:=q1
 cases r1
 refine wpAny_truthy_bool ?_
 cases c with
 | false=>exact hb pins s1 σ H1 Q I1 q1
 | true=>exact⟨.bl true,H1,I1,rfl,q1⟩
theorem uD (ha:PE X a ta):PE X (.UnaryOp .Not a pos) (Ku ta):=by
 intro pins s σ H Q I h
 refine UnaryOp_ (bD (ha pins s σ H _ I h) fun v s1 Au=>?_)
 obtain⟨x,H1,I1,r1,q1⟩:=Au
 obtain⟨c,rfl,q1⟩:=q1
 cases r1
 exact not_of (wpAny_truthy_bool ⟨.bl (!c),H1,I1,rfl,q1⟩)
noncomputable def tIf (t:TT)(ta tb:TE):TE:=fun σ H Q=>t σ H fun c H1=>if c=true then ta σ H1 Q else tb σ H1 Q
theorem ca {c:Expr}(hc:PT X c tA)(ha:PE X a ta)(hb:PE X b tb):PE X (.IfExp c a b pos) (tIf tA ta tb):=by
 intro pins s σ H Q I h
 refine wpAny_IfExp (bD (hc pins s σ H _ I h) fun d s1 Au=>?_)
 obtain⟨H1,I1,q1⟩:=Au
 cases d with
 | true=>exact ha pins s1 σ H1 Q I1 q1
 | false=>exact hb pins s1 σ H1 Q I1 q1
end
noncomputable def Ap (K:Frag)(H:Hp)(a:Addr)(xs:List V):Prop :=
 Rd H a (.lst xs) ∨
  ∃ (o:Obj)(As:Array Value)(n:Nat),K.lookup a=some o/\o.cls = .type "list"/\o.dict=none/\o.data = .seq As n/\As.size <= sizeLine/\Vals xs As.toList
noncomputable def Ay (K:Frag)(H:Hp)(a:Addr)(xs:List V):Prop :=
 Rd H a (.tup xs) ∨
  ∃ (o:Obj)(As:Array Value)(n:Nat),K.lookup a=some o/\o.cls = .type "tuple"/\o.data = .seq As n/\As.size <= sizeLine/\Vals xs As.toList
noncomputable def Qi:Value->Option V
 | .none=>some .AG
 | .bool b=>some (.bl b)
 | .int i _=>some (.int i)
 | .str x _=>some (.str x)
 | .bytes b _=>some (.Eb b)
 | .float b _=>some (.Ie b)
 | .ref a=>some (.ref a)
 | .type n=>some (.ty n)
 | _=>none
theorem RelV.abs {x:V}{u:Value}(r:RelV x u):Qi u=some x:=by
 cases x with
 | AG=>cases r;rfl
 | bl _=>cases r;rfl
 | int _=>obtain⟨t,rfl⟩:=r;rfl
 | str _=>obtain⟨t,rfl⟩:=r;rfl
 | Eb _=>obtain⟨t,rfl⟩:=r;rfl
 | Ie _=>obtain⟨t,rfl⟩:=r;rfl
 | ref _=>cases r;rfl
 | ty _=>cases r;rfl
theorem RelV.inj {x y:V}{u:Value}(r:RelV x u)(q:RelV y u):x=y:=Option.some.inj (r.abs.symm.trans q.abs)
theorem Vals.inj:∀ {xs ys:List V}{us:List Value},Vals xs us->Vals ys us->xs=ys
 | _,_,_, .nil, .nil=>rfl
 | _,_,_, .cons r t, .cons r' t'=>by rw[r.inj r',Vals.inj t t']
section
variable {X:Cx}{pins:List (Addr × Obj)}{σ:St}{H:Hp}{s:Shared}{a:Addr}{xs ys:List V}
theorem Ap.of {K:Frag}(h:H a=some (.lst xs)):Ap K H a xs := .inl (.inl h)
theorem Ay.of {K:Frag}(h:H a=some (.tup xs)):Ay K H a xs := .inl (.inl h)
theorem Inv.list (I:Inv X pins σ H s)(h:Ap X.K H a xs):∃ As:List Value,Vals xs As/\PlainL s.heap a As.toArray/\xs.length <= sizeLine:=by
 rcases h with h | ⟨o,As,n,hk,hc,hd,hs,hz,r⟩
 ·obtain⟨z,As,n,r,e⟩:=h.ok I.AD
  exact⟨As,r,⟨_,n,e,rfl,rfl,rfl⟩,z⟩
 ·refine⟨As.toList,r,⟨o,n,I.BR a o hk,hc,hd,by simpa using hs⟩,?_⟩
  have e:=r.length
  simp only[Array.length_toList]at e
  omega
theorem Inv.tuple (I:Inv X pins σ H s)(h:Ay X.K H a xs):∃ As:List Value,Vals xs As/\IsTup s.heap a As.toArray/\xs.length <= sizeLine:=by
 rcases h with h | ⟨o,As,n,hk,hc,hs,hz,r⟩
 ·obtain⟨z,As,r,p⟩:=h.ok I.AD
  exact⟨As,r,p.isTup,z⟩
 ·refine⟨As.toList,r,⟨o,I.BR a o hk,hc,n,by simpa using hs⟩,?_⟩
  have e:=r.length
  simp only[Array.length_toList]at e
  omega
theorem Inv.Dm (I:Inv X pins σ H s)(h:Ap X.K H a xs)(h':Ap X.K H a ys):xs=ys:=by
 obtain⟨As,r,⟨o,n,e,_,_,d⟩,_⟩:=I.list h
 obtain⟨its',r',⟨o',n',e',_,_,d'⟩,_⟩:=I.list h'
 rw[e]at e';cases e'
 rw[d]at d'
 injection d' with d1 _
 have:As=its':=by simpa using congrArg Array.toList d1
 subst this
 exact r.inj r'
theorem Inv.CF (I:Inv X pins σ H s)(h:Ay X.K H a xs)(h':Ay X.K H a ys):xs=ys:=by
 obtain⟨As,r,⟨o,e,_,n,d⟩,_⟩:=I.tuple h
 obtain⟨its',r',⟨o',e',_,n',d'⟩,_⟩:=I.tuple h'
 rw[e]at e';cases e'
 rw[d]at d'
 injection d' with d1 _
 have:As=its':=by simpa using congrArg Array.toList d1
 subst this
 exact r.inj r'
end
abbrev Cx.C7 (X:Cx)(E:Value->Shared->Prop):Cx:={ X with xe:=E }
abbrev Cx.JE (X:Cx):Cx:=X.C7 fun _ _=>False
theorem Cx.Ok.C7 {X:Cx}(ok:X.Ok)(E:Value->Shared->Prop):(X.C7 E).Ok :=
 ⟨ok.mod,ok.kind,ok.glob,ok.blt,ok.above,ok.inj,ok.has,ok.Ko,ok.hd,ok.frames,ok.Oo,ok.V1,ok.bs,ok.FV,ok.ET,ok.FW,ok.Cf,ok.Ih⟩
theorem Cx.Ok.B3 {X:Cx}{E:Value->Shared->Prop}(ok:(X.C7 E).Ok):X.Ok :=
 ⟨ok.mod,ok.kind,ok.glob,ok.blt,ok.above,ok.inj,ok.has,ok.Ko,ok.hd,ok.frames,ok.Oo,ok.V1,ok.bs,ok.FV,ok.ET,ok.FW,ok.Cf,ok.Ih⟩
section
variable {X:Cx}{pins:List (Addr × Obj)}{σ:St}{H:Hp}{s:Shared}{E:Value->Shared->Prop}
theorem Inv.C7 (I:Inv X pins σ H s)(E:Value->Shared->Prop):Inv (X.C7 E) pins σ H s:=⟨I.ok.C7 E,I.os,I.bare,I.base,I.loc,I.cell,I.free,I.Bo,I.pin,I.AD,I.len⟩
theorem Inv.B3 (I:Inv (X.C7 E) pins σ H s):Inv X pins σ H s:=⟨I.ok.B3,I.os,I.bare,I.base,I.loc,I.cell,I.free,I.Bo,I.pin,I.AD,I.len⟩
theorem SP.B3 {D:oR}{f:Flow}{s':Shared}(h:SP (X.C7 E) pins D f s'):SP X pins D f s':=by
 cases f with
 | next=>obtain⟨σ',H',I,q⟩:=h;exact⟨σ',H',I.B3,q⟩
 | brk=>obtain⟨σ',H',I,q⟩:=h;exact⟨σ',H',I.B3,q⟩
 | cont=>obtain⟨σ',H',I,q⟩:=h;exact⟨σ',H',I.B3,q⟩
 | ret u=>obtain⟨v,σ',H',I,r,q⟩:=h;exact⟨v,σ',H',I.B3,r,q⟩
theorem Ee.JE {st:List Stmt}{t:TS}(h:Ee X.JE st t):Ee X st t:=fun pins s σ H D I hw =>
 wpAny_mono (h pins s σ H D (I.C7 _) hw) (fun _ _ q=>q.B3) fun _ _ z=>False.elim z
end
section
variable {X:Cx}{st:Stmt}{rest:List Stmt}{t u:TS}{e:Expr}{te:TE}{pos:Pos}
noncomputable def Kw:TS:=fun D σ H=>D.nx σ H
noncomputable def Kx (t u:TS):TS:=fun D σ H=>t { D with nx:=u D } σ H
theorem aD:Ee X [] Kw:=fun _ _ σ H _ I h=>wpAny_execs_nil ⟨σ,H,I,h⟩
theorem ae (h1:PS X st t)(h2:Ee X rest u):Ee X (st :: rest) (Kx t u):=by
 intro pins s σ H D I h
 refine wpAny_execs_cons (bD (h1 pins s σ H { D with nx:=u D } I h) fun f s1 q=>?_)
 cases f with
 | next =>
  obtain⟨σ',H',I',q⟩:=q
  exact h2 pins s1 σ' H' D I' q
 | ret v=>exact q
 | brk=>exact q
 | cont=>exact q
theorem ah (h1:PS X st t):Ee X [st] t:=by
 intro pins s σ H D I h
 refine wpAny_execs_cons (bD (h1 pins s σ H D I h) fun f s1 q=>?_)
 cases f with
 | next=>exact wpAny_execs_nil q
 | ret v=>exact q
 | brk=>exact q
 | cont=>exact q
theorem Inv.quiet {pins:List (Addr × Obj)}{σ:St}{H:Hp}{s:Shared}(I:Inv X pins σ H s):interactive X.env=false:=by simp[interactive,I.ok.kind]
noncomputable def Ky (te:TE):TS:=fun D σ H=>te σ H fun _ H1=>D.nx σ H1
theorem aN (he:PE X e te)(hs:autoParam (swapsWith e none pos.line X.env=pure false) η):PS X (.Expr e pos) (Ky te):=by
 intro pins s σ H D I h
 exact wpAny_Expr_any (bD (he pins s σ H _ I h) fun v s1 Au=>by obtain⟨x,H1,I1,r1,q1⟩:=Au;exact⟨σ,H1,I1,q1⟩) I.quiet hs
noncomputable def Qj (te:TE):TS:=fun D σ H=>te σ H D.rt
theorem aq (he:PE X e te):PS X (.Return (some e) pos) (Qj te):=by
 intro pins s σ H D I h
 exact wpAny_Return_some (bD (he pins s σ H _ I h) fun v s1 Au=>by obtain⟨x,H1,I1,r1,q1⟩:=Au;exact⟨x,σ,H1,I1,r1,q1⟩)
noncomputable def Qk (c:TT)(t u:TS):TS:=fun D σ H=>c σ H fun b H1=>if b=true then t D σ H1 else u D σ H1
theorem aP {c:Expr}{a b:List Stmt}{tc:TT}(hc:PT X c tc)(ha:Ee X a t)(hb:Ee X b u):PS X (.If c a b pos) (Qk tc t u):=by
 intro pins s σ H D I h
 refine wpAny_If (bD (hc pins s σ H _ I h) fun d s1 Au=>?_)
 obtain⟨H1,I1,q1⟩:=Au
 cases d with
 | true=>exact ha pins s1 σ H1 D I1 q1
 | false=>exact hb pins s1 σ H1 D I1 q1
noncomputable def y1:TS:=fun _ _ _=>False
theorem b5:PS X st y1:=fun _ _ _ _ _ _ h=>h.elim
end
abbrev TG:=V->St->Hp->(St->Hp->Prop)->Prop
abbrev Ag:=List V->St->Hp->(St->Hp->Prop)->Prop
noncomputable def PG (X:Cx)(target:Expr)(t:TG):Prop :=
 ∀ (pins:List (Addr × Obj))(s:Shared)(σ:St)(H:Hp)(v:V)(u:Value)(Q:St->Hp->Prop),Inv X pins σ H s->RelV v u->t v σ H Q ->
  wpAny (model X.prog X.w) X.A (assign target X.env u) (fun _ s'=>∃ σ' H',Inv X pins σ' H' s'/\Q σ' H') X.xe s
noncomputable def Ou (X:Cx)(ts:List Expr)(t:Ag):Prop :=
 ∀ (pins:List (Addr × Obj))(s:Shared)(σ:St)(H:Hp)(vs:List V)(us:List Value)(Q:St->Hp->Prop),Inv X pins σ H s->Vals vs us->t vs σ H Q ->
  wpAny (model X.prog X.w) X.A (assignInOrder ((assignEach ts X.env).map (·.2)) us) (fun _ s'=>∃ σ' H',Inv X pins σ' H' s'/\Q σ' H') X.xe s
abbrev Af:=V->V->V->Hp->(Hp->Prop)->Prop
noncomputable def Kz (X:Cx)(t:Af):Prop :=
 ∀ (pins:List (Addr × Obj))(s:Shared)(σ:St)(H:Hp)(o i v:V)(ov iv u:Value)(Q:Hp->Prop),Inv X pins σ H s->RelV o ov->RelV i iv->RelV v u->t o i v H Q ->
  wpAny (model X.prog X.w) X.A (setItem ov iv u) (fun _ s'=>∃ H',Inv X pins σ H' s'/\Q H') X.xe s
section
variable {X:Cx}{pos:Pos}
noncomputable def cz (i:Nat):TG:=fun v σ H Q=>Q (σ.set i (some v)) H
theorem av {i:Nat}{x:Str}(hN:X.N.Nodup)(hi:X.N[i]? = some x)(hx:Loc X.env.scope x)(hf:autoParam (X.fn x=true∨X.env.scope.names.lookup x=some .local) ζ):PG X (.Name x pos) (cz i):=by
 intro pins s σ H v u Q I r h
 exact wpAny_assign_Name (mZ I hN hi hx r (fun s' I'=>⟨_,H,I',h⟩) hf)
noncomputable def Ql:Ag:=fun vs σ H Q=>vs=[]/\Q σ H
noncomputable def K0 (t:TG)(u:Ag):Ag:=fun vs σ H Q=>∃ v r,vs=v :: r/\t v σ H fun σ' H'=>u r σ' H' Q
theorem eV:Ou X [] Ql:=by
 intro pins s σ H vs us Q I r h
 obtain⟨e,h⟩:=h
 subst e
 cases r
 exact assignInOrder_nil ⟨σ,H,I,h⟩
theorem bC {e:Expr}{es:List Expr}{t:TG}{u:Ag}(h1:PG X e t)(h2:Ou X es u)
  (hs:autoParam ((assignEach (e :: es) X.env).map (·.2)=assign e X.env :: (assignEach es X.env).map (·.2)) η):Ou X (e :: es) (K0 t u):=by
 intro pins s σ H vs us Q I r h
 obtain⟨v,vr,e1,h⟩:=h
 subst e1
 cases r with
 | cons r rr =>
  rw[hs]
  refine assignInOrder_cons (bD (h1 pins s σ H _ _ _ I r h) fun _ s1 Au=>?_)
  obtain⟨σ1,H1,I1,q1⟩:=Au
  exact h2 pins s1 σ1 H1 _ _ Q I1 rr q1
noncomputable def zT (K:Frag)(n:Nat)(t:Ag):TG:=fun v σ H Q=>∃ a xs,v = .ref a/\Ay K H a xs/\xs.length=n/\t xs σ H Q
theorem gK {es:List Expr}{k:Nat}{t:Ag}{n:Nat}(hc:X.calm=true)(h:Ou X es t)
  (hn:autoParam ((assignEach es X.env).length=n) η) (Hl:autoParam ((assignEach es X.env).findIdx? (·.1)=none) η):PG X (.Tuple es k pos) (zT X.K n t):=by
 intro pins s σ H v u Q I r hw
 obtain⟨a,xs,e1,hq,hl,hw⟩:=hw
 subst e1
 cases r
 obtain⟨As,rv,ht,hz⟩:=I.tuple hq
 refine assign_Tuple_tuple (I.ok.hd hc) ht (by simp[hn,← hl,rv.length]) Hl fun h' hx=>?_
 have I1:Inv X pins σ H { s with heap:=h' }:=I.kept (t':=s.toks) fun b o e=>hx b o (ne_of_lt (lt_size e)) e
 exact h pins _ σ H xs _ Q I1 (by simpa using rv) hw
noncomputable def Qm (to ti:TE)(t:Af):TG:=fun v σ H Q=>to σ H fun o H1=>ti σ H1 fun i H2=>t o i v H2 fun H3=>Q σ H3
theorem pK {o i:Expr}{to ti:TE}{t:Af}(ho:PE X o to)(hi:PE X i ti)(hs:Kz X t)
  (ha:∀ v,assign (.Subscript o i pos) X.env v=(do
   let ov ← holding [v] (eval o X.env)
   let iv ← holding [v,ov] (eval i X.env)
   standAt pos
   holding [v,ov,iv] (setItem ov iv v)
   release [v,ov,iv] []):=by intro _;rfl):PG X (.Subscript o i pos) (Qm to ti t):=by
 intro pins s σ H v u Q I r h
 rw[ha]
 refine wpAny_bind (wpAny_holding (bD (ho pins s σ H _ I h) fun ov s1 Au=>?_))
 obtain⟨x,H1,I1,r1,q1⟩:=Au
 refine wpAny_bind (wpAny_holding (bD (hi pins s1 σ H1 _ I1 q1) fun iv s2 Au=>?_))
 obtain⟨y,H2,I2,r2,q2⟩:=Au
 refine wpAny_bind (wpAny_standAt (wpAny_bind (wpAny_holding (bD (hs pins s2 σ H2 x y v ov iv u _ I2 r1 r2 r q2) fun _ s3 Au=>?_))))
 obtain⟨H3,I3,q3⟩:=Au
 exact wpAny_release ⟨σ,H3,I3,q3⟩
noncomputable def y4 (te:TE)(g:TG):TS:=fun D σ H=>te σ H fun x H1=>g x σ H1 D.nx
theorem jM {tg e:Expr}{te:TE}{g:TG}(he:PE X e te)(hg:PG X tg g)(hs:autoParam (swapsWithSole [tg] e pos.line X.env=pure false) η)(hw:autoParam (swappedStores [tg] e X.env=pure none) η)
  (h1:autoParam ((assignEach [tg] X.env).map (·.2)=[assign tg X.env]) η):PS X (.Assign [tg] e pos) (y4 te g):=by
 intro pins s σ H D I h
 refine wpAny_Assign_stores (bD (he pins s σ H _ I h) fun v s1 Au=>?_) hs hw
 obtain⟨x,H1,I1,r1,q1⟩:=Au
 rw[h1]
 exact bD (hg pins s1 σ H1 x v _ I1 r1 q1) fun _ s2 q=>q
theorem aC {i:Nat}{x:Str}{e:Expr}{te:TE}{pos':Pos}(hN:X.N.Nodup)(hi:X.N[i]? = some x)(hx:Loc X.env.scope x)(he:PE X e te)(hs:autoParam (swapsWith e (some (.Name x pos')) pos.line X.env=pure false) η)(hf:autoParam (X.fn x=true∨X.env.scope.names.lookup x=some .local) ζ) :
  PS X (.Assign [.Name x pos'] e pos) (y4 te (cz i)):=by
 intro pins s σ H D I h
 refine wpAny_Assign_Name (bD (he pins s σ H _ I h) fun v s1 Au=>?_) hs
 obtain⟨y,H1,I1,r1,q1⟩:=Au
 exact mZ I1 hN hi hx r1 (fun s2 I2=>⟨_,H1,I2,q1⟩) hf
end
section
variable {X:Cx}{pos:Pos}
end
structure It where
 go:Nat->Hp->Prop
 FD:Nat->Hp->V->Hp->Prop
 stop:Nat->Hp->Prop
noncomputable def gi (X:Cx)(pins:List (Addr × Obj))(H:Hp)(b:Addr):Prop :=
 H b=none/\b ≠ X.env.locals/\b ∉ X.fs/\(b ∈ X.ex∨X.s₀.heap.objs.size <= b)/\(∀ x c,X.env.cells.lookup x=some c->c ≠ b)/\∀ p ∈ X.pn ++ pins,p.1 ≠ b
theorem Inv.Eu {X:Cx}{pins:List (Addr × Obj)}{σ:St}{H H':Hp}{s:Shared}{b:Addr}(I:Inv X pins σ H s)(hb:s.heap.objs.size <= b)(hn:H' b=none):gi X pins H' b:=by
 refine⟨hn,ne_of_gt (lt_of_lt_of_le I.lt hb),I.PY hb, .inr (le_trans I.sz hb),fun x c e z=>?_,fun p hp z=>?_⟩
 ·obtain⟨v,q⟩:=I.cell x c e
  exact absurd (lt_of_lt_of_le q.lt (by rw[z];exact hb)) (lt_irrefl _)
 ·exact absurd (lt_of_lt_of_le (lt_size (I.pin p hp).1) (by rw[z];exact hb)) (lt_irrefl _)
structure oP (P:Program)(w:World)(K:Frag)(tg:Expr)(J:It)(fp:List Addr)(it:Addr)(tn:Nat->Heap->Prop):Prop where
 mem:it ∈ fp
 obj:∀ i h,tn i h->∀ b ∈ fp,∃ o,h.get? b=some o/\∀ v,o.data ≠ .cell v
 keep:∀ i h h',tn i h->(∀ b ∈ fp,∀ o,h.get? b=some o->h'.get? b=some o)->tn i h'
 item:∀ (X:Cx),X.prog=P->X.w=w->X.K=K->X.calm=true->∀ (i:Nat)(pins:List (Addr × Obj))(s:Shared)(σ:St)(H:Hp)(E:Value->Shared->Prop),Inv X pins σ H s->(∀ b ∈ fp,gi X pins H b)->tn i s.heap->J.go i H ->
  wpAny (model P w) X.A (pyNext (.ref it)) (fun r s1=>∃ u,r=some u /\
   wpAny (model P w) X.A (letOwnedTupleGo tg (.ref it) u) (fun _ s2=>∃ x H',Inv X pins σ H' s2/\RelV x u/\J.FD i H x H'/\tn (i + 1) s2.heap/\∀ b ∈ fp,H' b=none) E s1) E s
 done:∀ (X:Cx),X.prog=P->X.w=w->X.K=K->X.calm=true->∀ (i:Nat)(pins:List (Addr × Obj))(s:Shared)(σ:St)(H:Hp)(E:Value->Shared->Prop),Inv X pins σ H s->(∀ b ∈ fp,gi X pins H b)->tn i s.heap->J.stop i H ->
  wpAny (model P w) X.A (pyNext (.ref it)) (fun r s1=>r=none/\Inv X pins σ H s1) E s
 self:∀ (A:Around)(i:Nat)(s:Shared)(Q:Value->Shared->Prop)(E:Value->Shared->Prop),tn i s.heap->Q (.ref it) s->wpAny (model P w) A (pyIter (.ref it)) Q E s
abbrev TI:=St->Hp->(It->Hp->Prop)->Prop
noncomputable def V5 (X:Cx)(pins:List (Addr × Obj))(σ:St)(tg:Expr)(R:It->Hp->Prop)(Ov:Value)(s2:Shared):Prop :=
 ∃ (it:Addr)(fp:List Addr)(tn:Nat->Heap->Prop)(J:It)(H':Hp),Ov = .ref it/\Inv X pins σ H' s2/\oP X.prog X.w X.K tg J fp it tn/\tn 0 s2.heap/\(∀ b ∈ fp,gi X pins H' b)/\R J H'
noncomputable def PI (X:Cx)(tg iter:Expr)(wi:TI):Prop :=
 ∀ (pins:List (Addr × Obj))(s:Shared)(σ:St)(H:Hp)(R:It->Hp->Prop),Inv X pins σ H s->wi σ H R ->
  wpAny (model X.prog X.w) X.A (eval iter X.env) (fun v s1=>wpAny (model X.prog X.w) X.A (pyIter v) (V5 X pins σ tg R) X.xe s1) X.xe s
theorem rF {M:Model}{A:Around}{E:Value->Shared->Prop}{s:Shared}{tg:Expr}{it:Addr}{u:Value}{o:Obj}{n:String}{vs:Array Value}{Q:Unit->Shared->Prop}(ho:s.heap.get? it=some o)(hc:o.cls = .type n)(hd:o.data = .fields vs)
  (hn:["enumerate", "zip", "dict_itemiterator", "dict_reverseitemiterator", "odict_iterator", "itertools.zip_longest", "itertools.pairwise"].contains n=false) (hQ:Q () s):wpAny M A (letOwnedTupleGo tg (.ref it) u) Q E s:=by
 unfold letOwnedTupleGo
 cases tg<;>first
  | exact wpAny_pure hQ
  | (cases u<;>first
    | exact wpAny_pure hQ
    | (refine wpAny_bind (wpAny_load ho ?_)
       rw[hc,hd]
       show wpAny M A (if (["enumerate", "zip", "dict_itemiterator", "dict_reverseitemiterator", "odict_iterator", "itertools.zip_longest", "itertools.pairwise"].contains n && vs[0]? == some (rawInt _))=true then _ else _) Q E s
       rw[if_neg (by intro h;rw[hn,Bool.false_and]at h;cases h)]
       exact wpAny_pure hQ))
noncomputable def vV (K:Frag)(a:Addr):It :=
 ⟨fun i H=>∃ xs x,Ap K H a xs/\xs[i]? = some x,fun i H x H'=>H' = H/\∀ xs,Ap K H a xs->xs[i]? = some x,fun i H=>∃ xs,Ap K H a xs/\xs.length <= i⟩
noncomputable def Ow (K:Frag)(a:Addr):It :=
 ⟨fun i H=>∃ xs x,Ay K H a xs/\xs[i]? = some x,fun i H x H'=>H' = H/\∀ xs,Ay K H a xs->xs[i]? = some x,fun i H=>∃ xs,Ay K H a xs/\xs.length <= i⟩
noncomputable def wc (lo:Int)(n:Nat):It:=⟨fun i _=>i < n,fun i H x H'=>H' = H/\x = .int (lo + i),fun i _=>n <= i⟩
theorem rY {P:Program}{w:World}{K:Frag}{tg:Expr}(a it:Addr):oP P w K tg (vV K a) [it] it (fun i h=>h.IsListIter it a i) where
 mem:=by simp
 obj:=fun i h st b hb=>by
  have e:b=it:=by simpa using hb
  subst e
  obtain⟨o,e,c,d⟩:=st
  exact⟨o,e,fun v z=>by rw[d]at z;cases z⟩
 keep:=fun i h h' st k=>st.at fun o e=>k it (by simp) o e
 item:=by
  intro X hP hw hK hc i pins s σ H E I hf st hg
  subst hP hw hK
  obtain⟨xs,x,hq,hx⟩:=hg
  obtain⟨As,rv,p,hz⟩:=I.list hq
  obtain⟨u,hu,ru⟩:=rv.get hx
  obtain⟨f0,f1,f2,f3,f4,f5⟩:=hf it (by simp)
  refine wpAny_pyNext_list_item st p.isList (x:=u) (by simpa using hu) fun h' Dp sb=>?_
  have I1:Inv X pins σ H { s with heap:=h' }:=I.turned (t':=s.toks) (fun b o hb e=>(sb.2 b hb).trans e) f0 f1 f3 f4 f5
  obtain⟨o,e,c,d⟩:=id Dp
  exact⟨u,rfl,rF (s:={ s with heap:=h' }) e c d (by decide) ⟨x,H,I1,ru,⟨rfl,fun ys hy=>by rw[I.Dm hy hq];exact hx⟩,Dp,fun b hb=>(hf b hb).1⟩⟩
 done:=by
  intro X hP hw hK hc i pins s σ H E I hf st hg
  subst hP hw hK
  obtain⟨xs,hq,hx⟩:=hg
  obtain⟨As,rv,p,hz⟩:=I.list hq
  obtain⟨f0,f1,f2,f3,f4,f5⟩:=hf it (by simp)
  have hl:=rv.length
  exact wpAny_pyNext_list_end (I.ok.hd hc) st p.isList (by simp;omega) fun h' eb=>⟨rfl,I.turned (t':=s.toks) (fun b o hb e=>eb b o hb e) f0 f1 f3 f4 f5⟩
 self:=fun _ _ _ _ _ st h=>wpAny_pyIter_listiter st h
theorem oV {P:Program}{w:World}{K:Frag}{tg:Expr}(a it:Addr):oP P w K tg (Ow K a) [it] it (fun i h=>h.IsTupleIter it a i) where
 mem:=by simp
 obj:=fun i h st b hb=>by
  have e:b=it:=by simpa using hb
  subst e
  obtain⟨o,e,c,d⟩:=st
  exact⟨o,e,fun v z=>by rw[d]at z;cases z⟩
 keep:=fun i h h' st k=>st.at fun o e=>k it (by simp) o e
 item:=by
  intro X hP hw hK hc i pins s σ H E I hf st hg
  subst hP hw hK
  obtain⟨xs,x,hq,hx⟩:=hg
  obtain⟨As,rv,p,hz⟩:=I.tuple hq
  obtain⟨u,hu,ru⟩:=rv.get hx
  obtain⟨f0,f1,f2,f3,f4,f5⟩:=hf it (by simp)
  refine wpAny_pyNext_tuple_item st (show s.heap.IsTuple a As.toArray from p) (x:=u) (by simpa using hu) fun h' Dp sb=>?_
  have I1:Inv X pins σ H { s with heap:=h' }:=I.turned (t':=s.toks) (fun b o hb e=>(sb.2 b hb).trans e) f0 f1 f3 f4 f5
  obtain⟨o,e,c,d⟩:=id Dp
  exact⟨u,rfl,rF (s:={ s with heap:=h' }) e c d (by decide) ⟨x,H,I1,ru,⟨rfl,fun ys hy=>by rw[I.CF hy hq];exact hx⟩,Dp,fun b hb=>(hf b hb).1⟩⟩
 done:=by
  intro X hP hw hK hc i pins s σ H E I hf st hg
  subst hP hw hK
  obtain⟨xs,hq,hx⟩:=hg
  obtain⟨As,rv,p,hz⟩:=I.tuple hq
  obtain⟨f0,f1,f2,f3,f4,f5⟩:=hf it (by simp)
  have hl:=rv.length
  exact wpAny_pyNext_tuple_end (I.ok.hd hc) st (show s.heap.IsTuple a As.toArray from p) (by simp;omega) fun h' eb=>⟨rfl,I.turned (t':=s.toks) (fun b o hb e=>eb b o hb e) f0 f1 f3 f4 f5⟩
 self:=fun _ _ _ _ _ st h=>wpAny_pyIter_tupleiter st h
theorem oW {P:Program}{w:World}{K:Frag}{tg:Expr}(it:Addr)(lo:Int)(n:Nat):oP P w K tg (wc lo n) [it] it (fun i h=>IsRangeIter h it (lo + (i:Nat) * 1) ((n:Int) - (i:Nat)) 1) where
 mem:=by simp
 obj:=fun i h st b hb=>by
  have e:b=it:=by simpa using hb
  subst e
  exact⟨_,st,fun v z=>by
   have z':Data.fields _=Data.cell v:=z
   cases z'⟩
 keep:=fun i h h' st k=>k it (by simp) _ st
 item:=by
  intro X hP hw hK hc i pins s σ H E I hf st hg
  subst hP hw hK
  obtain⟨f0,f1,f2,f3,f4,f5⟩:=hf it (by simp)
  have W:=Walks.range (prog:=X.prog) (w:=X.w) (I.ok.hd hc) it lo 1 n
  refine W.item i s _ _ hg st fun v h' tk hv Dp kk=>?_
  obtain⟨t,rfl⟩:=hv
  have I1:Inv X pins σ H { s with heap:=h',toks:=tk }:=I.turned (fun b o hb e=>kk b o (by simpa using hb) e) f0 f1 f3 f4 f5
  refine⟨_,rfl,rF (s:={ s with heap:=h',toks:=tk }) (n := "range_iterator") Dp rfl rfl (by decide) ⟨.int (lo + i),H,I1,⟨t,?_⟩,⟨rfl,rfl⟩,Dp,fun b hb=>(hf b hb).1⟩⟩
  rw[Int.mul_one]
 done:=by
  intro X hP hw hK hc i pins s σ H E I hf st hg
  subst hP hw hK
  obtain⟨f0,f1,f2,f3,f4,f5⟩:=hf it (by simp)
  exact wpAny_pyNext_range_end (I.ok.hd hc) st (by have:n <= i:=hg;omega) fun h' eb=>⟨rfl,I.turned (t':=s.toks) (fun b o hb e=>eb b o hb e) f0 f1 f3 f4 f5⟩
 self:=fun _ _ _ _ _ st h=>wpAny_pyIter_rangeiter st h
section
variable {X:Cx}{tg:Expr}
noncomputable def K1 (K:Frag)(tl:TE):TI:=fun σ H R=>tl σ H fun x H1=>∃ a,x = .ref a/\(∃ xs,Ap K H1 a xs)/\R (vV K a) H1
noncomputable def Qn (K:Frag)(tl:TE):TI:=fun σ H R=>tl σ H fun x H1=>∃ a,x = .ref a/\(∃ xs,Ay K H1 a xs)/\R (Ow K a) H1
theorem aR {l:Expr}{tl:TE}(hl:PE X l tl):PI X tg l (K1 X.K tl):=by
 intro pins s σ H R I h
 refine bD (hl pins s σ H _ I h) fun v s1 Au=>?_
 obtain⟨x,H1,I1,r1,q1⟩:=Au
 obtain⟨a,e,⟨xs,hq⟩,q⟩:=q1
 subst e
 cases r1
 obtain⟨As,rv,p,hz⟩:=I1.list hq
 refine wpAny_pyIter_list p.isList ?_
 refine⟨s1.heap.objs.size,[s1.heap.objs.size],_,_,H1,rfl,I1.kept (t':=s1.toks) fun b o e=>Heap.get?_push_of_some _ e,rY a _,⟨_,Heap.get?_push_size _ rfl,rfl,rfl⟩,fun b hb=>?_,q⟩
 have e:b=s1.heap.objs.size:=by simpa using hb
 subst e
 exact I1.Eu (le_refl _) (I1.AD.fresh (le_refl _))
theorem iE {l:Expr}{tl:TE}(hl:PE X l tl):PI X tg l (Qn X.K tl):=by
 intro pins s σ H R I h
 refine bD (hl pins s σ H _ I h) fun v s1 Au=>?_
 obtain⟨x,H1,I1,r1,q1⟩:=Au
 obtain⟨a,e,⟨xs,hq⟩,q⟩:=q1
 subst e
 cases r1
 obtain⟨As,rv,p,hz⟩:=I1.tuple hq
 refine wpAny_pyIter_tuple (show s1.heap.IsTuple a As.toArray from p) ?_
 refine⟨s1.heap.objs.size,[s1.heap.objs.size],_,_,H1,rfl,I1.kept (t':=s1.toks) fun b o e=>Heap.get?_push_of_some _ e,oV a _,⟨_,Heap.get?_push_size _ rfl,rfl,rfl⟩,fun b hb=>?_,q⟩
 have e:b=s1.heap.objs.size:=by simpa using hb
 subst e
 exact I1.Eu (le_refl _) (I1.AD.fresh (le_refl _))
theorem uA {pins:List (Addr × Obj)}{σ:St}{H:Hp}{s:Shared}{R:It->Hp->Prop}{E:Value->Shared->Prop}{lo hi:Int}{t u v:Tok}{tk:Nat}(I:Inv X pins σ H s)(h1:-(2 ^ 62) <= lo)(h2:lo < 2 ^ 62)(h3:-(2 ^ 62) <= hi)(h4:hi < 2 ^ 62)
  (q:R (wc lo (hi - lo).toNat) H):wpAny (model X.prog X.w) X.A (pyIter (.ref s.heap.objs.size)) (V5 X pins σ tg R) E { s with heap:=s.heap.push { cls := .type "range",data := .fields #[.int lo t, .int hi u, .int 1 v] },toks:=tk }:=by
 refine wpAny_pyIter_range (IsRange.new ..) (small_one h1 h2 h3 h4) ?_
 have I1:Inv X pins σ H { s with heap:=s.heap.push { cls := .type "range",data := .fields #[.int lo t, .int hi u, .int 1 v] },toks:=tk }:=I.kept fun b o e=>Heap.get?_push_of_some _ e
 refine⟨(s.heap.push { cls := .type "range",data := .fields #[.int lo t, .int hi u, .int 1 v] }).objs.size,[(s.heap.push { cls := .type "range",data := .fields #[.int lo t, .int hi u, .int 1 v] }).objs.size],_,_,H,rfl,
  I1.kept (t':=tk) fun b o e=>Heap.get?_push_of_some _ e,oW _ lo (hi - lo).toNat,?_,fun b hb=>?_,q⟩
 ·have e1:lo + ((0:Nat):Int) * 1=lo:=by simp
  have e2:(((hi - lo).toNat:Nat):Int) - ((0:Nat):Int)=Builtin.Range.rangeSize lo hi 1:=by rw[rangeSize_one];split<;>omega
  show IsRangeIter _ _ (lo + ((0:Nat):Int) * 1) ((((hi - lo).toNat:Nat):Int) - ((0:Nat):Int)) 1
  rw[e1,e2]
  exact Heap.get?_push_size _ rfl
 ·have e:b=(s.heap.push { cls := .type "range",data := .fields #[.int lo t, .int hi u, .int 1 v] }).objs.size:=by simpa using hb
  subst e
  exact I1.Eu (le_refl _) (I1.AD.fresh (le_refl _))
noncomputable def K2 (ta:TA):TI:=fun σ H R=>ta σ H fun vs H1=>∃ j:Int,vs=[.int j]/\-(2 ^ 62) <= j/\j < 2 ^ 62/\R (wc 0 j.toNat) H1
theorem aT {a:Expr}{ta:TA}{p pos:Pos}(hg:Gl X "range")(hm:X.mg "range" = none)(ha:PA X [a] ta)(hs:autoParam (starEach [a] X.env=[(false,eval a X.env)]) η):PI X tg (.Call (.Name "range" p) [a] [] pos) (K2 ta):=by
 intro pins s σ H R I h
 refine Call_ (iK I hg hm boot_range (PyProof.Rows.callWith_type1 (bD (ha pos pins s σ H _ I h) fun us s1 Au=>?_) hs rfl))
 obtain⟨vs,H1,I1,r1,q1⟩:=Au
 obtain⟨j,e,q1,q2,q⟩:=q1
 subst e
 cases r1 with
 | cons r rr =>
  cases rr
  obtain⟨t,rfl⟩:=r
  exact call_range_1 (uA I1 (by omega) (by omega) q1 q2 (by simpa using q))
noncomputable def Qo (wi:TI)(g:TG)(tb:TS):TS:=fun D σ H=>wi σ H fun J H1=>∃ W:Nat->Nat->St->Hp->Prop,(∃ m,W 0 m σ H1)/\∀ i m σ H,W i m σ H ->
 (J.stop i H/\D.nx σ H)∨(J.go i H/\∃ N:St->Hp->Prop,(∀ σ' H',N σ' H'->∃ m',m' < m/\W (i + 1) m' σ' H')/\∀ x H',J.FD i H x H'->g x σ H' fun σ2 H2=>tb { D with nx:=N,ct:=N,bk:=D.nx } σ2 H2)
noncomputable def eU (fp:List Addr)(h:Heap):List (Addr × Obj):=fp.filterMap fun b=>(h.get? b).map fun o=>(b,o)
theorem eX {fp:List Addr}{h:Heap}{b:Addr}{o:Obj}(hb:b ∈ fp)(e:h.get? b=some o):(b,o) ∈ eU fp h:=List.mem_filterMap.mpr ⟨b,hb,by rw[e];rfl⟩
theorem lb {fp:List Addr}{h:Heap}{p:Addr × Obj}(hp:p ∈ eU fp h):p.1 ∈ fp/\h.get? p.1=some p.2:=by
 obtain⟨b,hb,e⟩:=List.mem_filterMap.mp hp
 cases q:h.get? b with
 | none=>rw[q]at e;cases e
 | some o =>
  rw[q]at e
  have e':(b,o)=p:=Option.some.inj e
  subst e'
  exact⟨hb,q⟩
theorem Inv.pinned {pins:List (Addr × Obj)}{σ:St}{H:Hp}{s:Shared}{fp:List Addr}(I:Inv X pins σ H s)(hf:∀ b ∈ fp,gi X pins H b)(ho:∀ b ∈ fp,∃ o,s.heap.get? b=some o/\∀ v,o.data ≠ .cell v):Inv X (pins ++ eU fp s.heap) σ H s :=
 I.B8 fun p hp=>(mem_append.mp hp).elim (fun z=>I.pin p (mem_append_right _ z)) fun z=>by
  obtain⟨hb,e⟩:=lb z
  obtain⟨f0,f1,f2,_⟩:=hf p.1 hb
  obtain⟨o,e',d⟩:=ho p.1 hb
  rw[e]at e';cases e'
  exact⟨e,f0,f1,f2,d⟩
theorem Inv.BM {pins pl:List (Addr × Obj)}{σ:St}{H:Hp}{s:Shared}(I:Inv X (pins ++ pl) σ H s):Inv X pins σ H s:=I.B8 fun p hp=>I.pin p (mem_append_right _ (mem_append_left _ hp))
theorem bN {iter:Expr}{body:List Stmt}{wi:TI}{g:TG}{tb:TS}{pos:Pos}(hp:PassesOwn (model X.prog X.w) X.A X.env X.xe)(hc:X.calm=true)(hi:PI X tg iter wi)(hg:PG X tg g)(hb:Ee X body tb)
  (hs:autoParam (∀ x,foldedSetIterable iter X.env x=pure x) ψ):PS X (.For tg iter body [] pos) (Qo wi g tb):=by
 intro pins s σ H D I h
 refine wpAny_For (bD (hi pins s σ H _ I h) fun v s1 h1=>bD h1 fun Ov s2 h2=>?_) hs
 obtain⟨it,fp,tn,J,H2,e,I2,T,Hm,f2,W,⟨m0,w0⟩,turn⟩:=h2
 subst e
 have stat:∀ {H':Hp},(∀ b ∈ fp,H' b=none)->∀ b ∈ fp,gi X pins H' b:=fun hn b hb=>⟨hn b hb,(f2 b hb).2⟩
 refine codeAny_forLoop_any (fun n s'=>∃ i σ' H',Inv X pins σ' H' s'/\tn i s'.heap/\(∀ b ∈ fp,H' b=none)/\W i n σ' H') ?_ m0 ⟨0,σ,H2,I2,Hm,fun b hb=>(f2 b hb).1,w0⟩
 rintro n s3 ⟨i,σ3,H3,I3,V6,V7,w3⟩
 rcases turn i n σ3 H3 w3 with ⟨stop,qn⟩ | ⟨go,N,hN,step⟩
 ·refine wpAny_passesOwn hp (bD (T.done X rfl rfl rfl hc i pins s3 σ3 H3 X.xe I3 (stat V7) V6 stop) fun r s4 Au=>?_)
  obtain⟨hr,I4⟩:=Au
  subst hr
  exact wpAny_execs_nil ⟨σ3,H3,I4,qn⟩
 ·refine wpAny_passesOwn hp (bD (T.item X rfl rfl rfl hc i pins s3 σ3 H3 X.xe I3 (stat V7) V6 go) fun r s4 Au=>?_)
  obtain⟨u,hr,h4⟩:=Au
  subst hr
  refine wpAny_passesOwn hp (bD h4 fun _ s5 Au=>?_)
  obtain⟨x,H5,I5,r5,y5,JF,Ox⟩:=Au
  have I5':=I5.pinned (stat Ox) (T.obj _ _ JF)
  refine wpAny_passesOwn hp (bD (hg _ s5 σ3 H5 x u _ I5' r5 (step x H5 y5)) fun _ s6 Au=>?_)
  obtain⟨σ6,H6,I6,q6⟩:=Au
  refine wpAny_passesOwn hp (bD (hb _ s6 σ6 H6 _ I6 q6) fun f s7 q7=>?_)
  have again:∀ {σ7:St}{H7:Hp},Inv X (pins ++ eU fp s5.heap) σ7 H7 s7->N σ7 H7->∃ m,m < n/\∃ i σ' H',Inv X pins σ' H' s7/\tn i s7.heap/\(∀ b ∈ fp,H' b=none)/\W i m σ' H':=fun {σ7 H7} I7 n7=>by
   obtain⟨m',hm,w7⟩:=hN σ7 H7 n7
   refine⟨m',hm,i + 1,σ7,H7,I7.BM,T.keep _ _ _ JF fun b hb o e=>(I7.pin (b,o) (mem_append_right _ (mem_append_right _ (eX hb e)))).1,fun b hb=>?_,w7⟩
   obtain⟨o,e,d⟩:=T.obj _ _ JF b hb
   exact(I7.pin (b,o) (mem_append_right _ (mem_append_right _ (eX hb e)))).2.1
  cases f with
  | next=>obtain⟨σ7,H7,I7,n7⟩:=q7;exact again I7 n7
  | cont=>obtain⟨σ7,H7,I7,n7⟩:=q7;exact again I7 n7
  | brk=>obtain⟨σ7,H7,I7,q7⟩:=q7;exact⟨σ7,H7,I7.BM,q7⟩
  | ret v=>obtain⟨x7,σ7,H7,I7,r7,q7⟩:=q7;exact⟨x7,σ7,H7,I7.BM,r7,q7⟩
end
theorem fN {K:Frag}{a:Addr}{xs:List V}{g:TG}{tb:TS}{D:oR}{σ:St}{H:Hp}(Pv:Nat->St->Hp->Prop)(h0:Pv 0 σ H)(hl:∀ i σ H,i <= xs.length->Pv i σ H->Ap K H a xs)
  (hs:∀ i x σ H,xs[i]? = some x->Pv i σ H->g x σ H fun σ2 H2=>tb { D with nx:=Pv (i + 1),ct:=Pv (i + 1),bk:=D.nx } σ2 H2) (hd:∀ σ H,Pv xs.length σ H->D.nx σ H) :
  ∃ W:Nat->Nat->St->Hp->Prop,(∃ m,W 0 m σ H)/\∀ i m σ H,W i m σ H ->
   ((vV K a).stop i H/\D.nx σ H)∨((vV K a).go i H/\∃ N:St->Hp->Prop,(∀ σ' H',N σ' H'->∃ m',m' < m/\W (i + 1) m' σ' H')/\∀ x H',(vV K a).FD i H x H'->g x σ H' fun σ2 H2=>tb { D with nx:=N,ct:=N,bk:=D.nx } σ2 H2):=by
 refine⟨fun i m σ H=>m=xs.length - i/\i <= xs.length/\Pv i σ H,⟨xs.length,by simp,zero_le _,h0⟩,?_⟩
 rintro i m σ H ⟨rfl,hi,p⟩
 have q:=hl i σ H hi p
 by_cases Bg:i < xs.length
 ·refine .inr ⟨⟨xs,xs[i],q,by simp[Bg]⟩,Pv (i + 1),fun σ' H' p'=>⟨xs.length - (i + 1),by omega,rfl,Bg,p'⟩,fun x H' y=>?_⟩
  obtain⟨e,y⟩:=y
  subst e
  exact hs i x σ _ (y xs q) p
 ·have e:i=xs.length:=by omega
  subst e
  exact .inl ⟨⟨xs,q,le_refl _⟩,hd σ H p⟩
theorem bH {lo:Int}{n:Nat}{g:TG}{tb:TS}{D:oR}{σ:St}{H:Hp}(Pv:Nat->St->Hp->Prop)(h0:Pv 0 σ H)
  (hs:∀ i σ H,i < n->Pv i σ H->g (.int (lo + i)) σ H fun σ2 H2=>tb { D with nx:=Pv (i + 1),ct:=Pv (i + 1),bk:=D.nx } σ2 H2) (hd:∀ σ H,Pv n σ H->D.nx σ H) :
  ∃ W:Nat->Nat->St->Hp->Prop,(∃ m,W 0 m σ H)/\∀ i m σ H,W i m σ H ->
   ((wc lo n).stop i H/\D.nx σ H)∨((wc lo n).go i H/\∃ N:St->Hp->Prop,(∀ σ' H',N σ' H'->∃ m',m' < m/\W (i + 1) m' σ' H')/\∀ x H',(wc lo n).FD i H x H'->g x σ H' fun σ2 H2=>tb { D with nx:=N,ct:=N,bk:=D.nx } σ2 H2):=by
 refine⟨fun i m σ H=>m=n - i/\i <= n/\Pv i σ H,⟨n,by simp,zero_le _,h0⟩,?_⟩
 rintro i m σ H ⟨rfl,hi,p⟩
 by_cases Bg:i < n
 ·refine .inr ⟨Bg,Pv (i + 1),fun σ' H' p'=>⟨n - (i + 1),by omega,rfl,Bg,p'⟩,fun x H' y=>?_⟩
  obtain⟨e,y⟩:=y
  subst e y
  exact hs i σ _ Bg p
 ·have e:i=n:=by omega
  subst e
  exact .inl ⟨le_refl _,hd σ H p⟩
abbrev R2:=V->V->Hp->VK->Prop
noncomputable def eD (X:Cx)(f:Value->Value->Sem Value)(r:R2):Prop :=
 ∀ (pins:List (Addr × Obj))(s:Shared)(σ:St)(H:Hp)(x y:V)(v u:Value)(Q:VK),Inv X pins σ H s->RelV x v->RelV y u->r x y H Q ->
  wpAny (model X.prog X.w) X.A (f v u) (EP X pins σ Q) X.xe s
noncomputable def Qp (X:Cx)(f:Value->Sem Value)(r:V->Hp->VK->Prop):Prop :=
 ∀ (pins:List (Addr × Obj))(s:Shared)(σ:St)(H:Hp)(x:V)(v:Value)(Q:VK),Inv X pins σ H s->RelV x v->r x H Q ->
  wpAny (model X.prog X.w) X.A (f v) (EP X pins σ Q) X.xe s
noncomputable def AS (X:Cx)(f:Value)(r:List V->Hp->VK->Prop):Prop :=
 ∀ (pins:List (Addr × Obj))(s:Shared)(σ:St)(H:Hp)(xs:List V)(us:List Value)(Q:VK),Inv X pins σ H s->Vals xs us->r xs H Q ->
  wpAny (model X.prog X.w) X.A (call f us) (EP X pins σ Q) X.xe s
noncomputable def Qq (X:Cx)(r:V->Hp->(Bool->Hp->Prop)->Prop):Prop :=
 ∀ (pins:List (Addr × Obj))(s:Shared)(σ:St)(H:Hp)(x:V)(v:Value)(Q:Bool->Hp->Prop),Inv X pins σ H s->RelV x v->r x H Q ->
  wpAny (model X.prog X.w) X.A (truthy v) (TP X pins σ Q) X.xe s
noncomputable def Oy (r:R2)(ta tb:TE):TE:=fun σ H Q=>ta σ H fun x H1=>tb σ H1 fun y H2=>r x y H2 Q
noncomputable def tUn (r:V->Hp->VK->Prop)(ta:TE):TE:=fun σ H Q=>ta σ H fun x H1=>r x H1 Q
noncomputable def rI (C:Int->Int->Prop)(g:Int->Int->V):R2:=fun x y H Q=>∃ i j,x = .int i/\y = .int j/\C i j/\Q (g i j) H
noncomputable def tp (g:Int->Int->V):R2:=fun x y H Q=>∃ i j,x = .int i/\y = .int j/\Q (g i j) H
noncomputable def rU (g:Int->V):V->Hp->VK->Prop:=fun x H Q=>∃ i,x = .int i/\Q (g i) H
section
variable {X:Cx}{a b c:Expr}{ta tb tc:TE}{pos:Pos}
theorem Ac (ha:PE X a ta)(hb:PE X b tb){pins:List (Addr × Obj)}{s:Shared}{σ:St}{H:Hp}{R:V->V->Hp->Prop}(I:Inv X pins σ H s)
  (h:ta σ H fun x H1=>tb σ H1 fun y H2=>R x y H2) {Q:Value->Shared->Prop} {f:Value->Value->Sem Value}
  (hf:∀ v u s2 x y H2,Inv X pins σ H2 s2->RelV x v->RelV y u->R x y H2->wpAny (model X.prog X.w) X.A (f v u) Q X.xe s2) :
  wpAny (model X.prog X.w) X.A (eval a X.env) (fun v s₁=>wpAny (model X.prog X.w) X.A (eval b X.env) (fun u s₂=>wpAny (model X.prog X.w) X.A (f v u) Q X.xe s₂) X.xe s₁) X.xe s:=by
 refine bD (ha pins s σ H _ I h) fun v s1 Au=>?_
 obtain⟨x,H1,I1,r1,q1⟩:=Au
 refine bD (hb pins s1 σ H1 _ I1 q1) fun u s2 Au=>?_
 obtain⟨y,H2,I2,r2,q2⟩:=Au
 exact hf v u s2 x y H2 I2 r1 r2 q2
theorem aB {op:Operator}{r:R2}(ho:eD X (binaryOp op) r)(ha:PE X a ta)(hb:PE X b tb):PE X (.BinOp a op b pos) (Oy r ta tb):=by
 intro pins s σ H Q I h
 exact wpAny_BinOp (Ac ha hb I h fun v u s2 x y H2 I2 rx ry q=>ho pins s2 σ H2 x y v u Q I2 rx ry q)
theorem yg {op:UnaryOp}{r:V->Hp->VK->Prop}(ho:Qp X (unaryOp op) r)(ha:PE X a ta):PE X (.UnaryOp op a pos) (tUn r ta):=by
 intro pins s σ H Q I h
 exact UnaryOp_ (bD (ha pins s σ H _ I h) fun v s1 Au=>by obtain⟨x,H1,I1,r1,q1⟩:=Au;exact ho pins s1 σ H1 x v Q I1 r1 q1)
theorem JG {f:Value->Value->Sem Value}{C:Int->Int->Prop}{g:Int->Int->Int}
  (rule:∀ (i j:Int)(t u:Tok)(s:Shared)(Q:Value->Shared->Prop)(E:Value->Shared->Prop),C i j->Q (.int (g i j) s.toks) { s with toks:=s.toks + 1 }->wpAny (model X.prog X.w) X.A (f (.int i t) (.int j u)) Q E s) :
  eD X f (rI C fun i j => .int (g i j)):=by
 intro pins s σ H x y v u Q I rx ry h
 obtain⟨i,j,rfl,rfl,hc,q⟩:=h
 obtain⟨t,rfl⟩:=rx
 obtain⟨t',rfl⟩:=ry
 exact rule i j t t' s _ _ hc ⟨.int (g i j),H,I.tok _,⟨_,rfl⟩,q⟩
theorem sx {f:Value->Value->Sem Value}{g:Int->Int->Int}
  (rule:∀ (i j:Int)(t u:Tok)(s:Shared)(Q:Value->Shared->Prop)(E:Value->Shared->Prop),Q (.int (g i j) s.toks) { s with toks:=s.toks + 1 }->wpAny (model X.prog X.w) X.A (f (.int i t) (.int j u)) Q E s) :
  eD X f (tp fun i j => .int (g i j)):=by
 intro pins s σ H x y v u Q I rx ry h
 obtain⟨i,j,rfl,rfl,q⟩:=h
 obtain⟨t,rfl⟩:=rx
 obtain⟨t',rfl⟩:=ry
 exact rule i j t t' s _ _ ⟨.int (g i j),H,I.tok _,⟨_,rfl⟩,q⟩
theorem wO {f:Value->Value->Sem Value}{g:Int->Int->Bool}
  (rule:∀ (i j:Int)(t u:Tok)(s:Shared)(Q:Value->Shared->Prop)(E:Value->Shared->Prop),Q (.bool (g i j)) s->wpAny (model X.prog X.w) X.A (f (.int i t) (.int j u)) Q E s) :
  eD X f (tp fun i j => .bl (g i j)):=by
 intro pins s σ H x y v u Q I rx ry h
 obtain⟨i,j,rfl,rfl,q⟩:=h
 obtain⟨t,rfl⟩:=rx
 obtain⟨t',rfl⟩:=ry
 exact rule i j t t' s _ _ ⟨.bl (g i j),H,I,rfl,q⟩
noncomputable def Qr (i j:Int):Prop:=0 < j/\j < 1073741824
noncomputable def K3 (i j:Int):Prop:=0 <= j/\j <= 1000000/\i.natAbs < 2 ^ 64
noncomputable def Ij (i j:Int):Prop:=(-(2 ^ 64) < i/\i < 2 ^ 64)∨(-(2 ^ 64) < j/\j < 2 ^ 64)
theorem Ij.ok {i j:Int}(h:Ij i j):IntMulOk i j:=by
 rcases h with ⟨h1,h2⟩ | ⟨h1,h2⟩
 ·exact .of_left (intBits_le_64 h1 h2)
 ·exact .of_right (intBits_le_64 h1 h2)
theorem oU (k:Nat):(0:Int) <= 2 ^ k:=by
 rw[two_pow_cast]
 exact Int.natCast_nonneg _
theorem bR:eD X (binaryOp .Add) (tp fun i j => .int (i + j)):=sx fun _ _ _ _ _ _ _ q=>add_int q
theorem e6:eD X (binaryOp .Sub) (tp fun i j => .int (i - j)):=sx fun _ _ _ _ _ _ _ q=>sub_int q
theorem fI:eD X (binaryOp .Mult) (rI Ij fun i j => .int (i * j)):=JG fun _ _ _ _ _ _ _ hc q=>mul_int q hc.ok
theorem dE:eD X (binaryOp .FloorDiv) (rI Qr fun i j => .int (i / j)):=JG fun i j _ _ _ _ _ hc q=>by
 have h1:(0:Int) < j:=hc.1
 have h2:j < 1073741824:=hc.2
 exact floordiv_int (by omega) (by rw[Int.fdiv_eq_ediv_of_nonneg i (by omega)];exact q) (.inl (PyProof.noPylong_small (by omega)))
theorem bA:eD X (binaryOp .Mod) (rI (fun _ j=>0 < j) fun i j => .int (i % j)):=JG fun i j _ _ _ _ _ hc q=>by
 have h1:(0:Int) < j:=hc
 exact mod_int' (by omega) (by rw[Int.fmod_eq_emod_of_nonneg i (by omega)];exact q)
theorem mj:eD X (binaryOp .Pow) (rI K3 fun i j => .int (i ^ j.toNat)):=JG fun _ _ _ _ _ _ _ hc q=>pow_int_small hc.1 hc.2.1 hc.2.2 q
theorem zh:eD X (binaryOp .LShift) (rI K3 fun i j => .int (i * 2 ^ j.toNat)):=JG fun _ _ _ _ _ _ _ hc q=>lshift_int_small hc.1 hc.2.1 hc.2.2 q
theorem pN:eD X (binaryOp .RShift) (rI (fun _ j=>0 <= j) fun i j => .int (i / 2 ^ j.toNat)):=JG fun i j _ _ _ _ _ hc q =>
 rshift_int hc (by rw[Int.fdiv_eq_ediv_of_nonneg i (oU _)];exact q)
theorem uG:eD X (binaryOp .BitAnd) (tp fun i j => .int (Builtin.bitAnd i j)):=sx fun _ _ _ _ _ _ _ q=>and_int q
theorem K4:eD X (binaryOp .BitOr) (tp fun i j => .int (Builtin.bitOr i j)):=sx fun _ _ _ _ _ _ _ q=>or_int q
theorem mE:eD X (inplaceOp .Add) (tp fun i j => .int (i + j)):=sx fun _ _ _ _ _ _ _ q=>iadd_int q
theorem rD:eD X (inplaceOp .Sub) (tp fun i j => .int (i - j)):=sx fun _ _ _ _ _ _ _ q=>isub_int q
theorem unI {f:Value->Sem Value}{g:Int->Int}
  (rule:∀ (i:Int)(t:Tok)(s:Shared)(Q:Value->Shared->Prop)(E:Value->Shared->Prop),Q (.int (g i) s.toks) { s with toks:=s.toks + 1 }->wpAny (model X.prog X.w) X.A (f (.int i t)) Q E s) :
  Qp X f (rU fun i => .int (g i)):=by
 intro pins s σ H x v Q I rx h
 obtain⟨i,rfl,q⟩:=h
 obtain⟨t,rfl⟩:=rx
 exact rule i t s _ _ ⟨.int (g i),H,I.tok _,⟨_,rfl⟩,q⟩
theorem tG:Qp X (unaryOp .USub) (rU fun i => .int (-i)):=unI fun _ _ _ _ _ q=>neg_int q
end
noncomputable def yB:V->V->Bool
 | .AG, .AG=>true | .AG, .int _=>true | .int _, .AG=>true | .AG, .bl _=>true | .bl _, .AG=>true | .AG, .str _=>true | .str _, .AG=>true
 | .int _, .int _=>true | .bl _, .bl _=>true | .str _, .str _=>true | .Eb _, .Eb _=>true
 | .int _, .str _=>true | .str _, .int _=>true | .bl _, .str _=>true | .str _, .bl _=>true
 | _,_=>false
noncomputable def rEq:R2:=fun x y H Q=>yB x y=true/\Q (.bl (decide (x=y))) H
noncomputable def rNe:R2:=fun x y H Q=>yB x y=true/\Q (.bl (!decide (x=y))) H
theorem rM {i j:Int}:decide (V.int i=V.int j)=(i == j):=by
 rw[Bool.eq_iff_iff]
 simp
theorem vK {i j:Bool}:decide (V.bl i=V.bl j)=(i == j):=by
 rw[Bool.eq_iff_iff]
 simp
theorem rL {i j:Str}:decide (V.str i=V.str j)=(i == j):=by
 rw[Bool.eq_iff_iff]
 simp
theorem rN {i j:Array UInt8}:decide (V.Eb i=V.Eb j)=(i.toList == j.toList):=by
 rw[Bool.eq_iff_iff]
 cases i
 cases j
 simp
section
variable {X:Cx}{a b c:Expr}{ta tb tc:TE}{pos:Pos}
theorem aW {pins:List (Addr × Obj)}{σ:St}{H:Hp}{s:Shared}{Q:VK}{k k':Bool}(I:Inv X pins σ H s)(q:Q (.bl k) H)(e:k=k'):EP X pins σ Q (.bool k') s:=by
 subst e
 exact⟨.bl k,H,I,rfl,q⟩
theorem bj:eD X (compareOp .Eq) rEq:=by
 intro pins s σ H x y v u Q I rx ry h
 obtain⟨hs,q⟩:=h
 cases x with
 | AG =>
  cases rx
  cases y with
  | AG=>cases ry;exact PySem.EqNone.eq_none_none (aW I q (by simp))
  | bl j=>cases ry;exact PySem.EqNone.eq_none_bool (aW I q (by simp))
  | int j=>obtain⟨t',rfl⟩:=ry;exact PySem.EqNone.eq_none_int (aW I q (by simp))
  | str j=>obtain⟨t',rfl⟩:=ry;exact PySem.EqNone.eq_none_str (aW I q (by simp))
  | _=>exact absurd (show false=true from hs) Bool.false_ne_true
 | bl i =>
  cases rx
  cases y with
  | AG=>cases ry;exact PySem.EqNone.eq_bool_none (aW I q (by simp))
  | bl j=>cases ry;exact eq_bool (aW I q vK)
  | str j=>obtain⟨t',rfl⟩:=ry;exact PySem.EqMixed.eq_bool_str (aW I q (by simp))
  | _=>exact absurd (show false=true from hs) Bool.false_ne_true
 | int i =>
  obtain⟨t,rfl⟩:=rx
  cases y with
  | AG=>cases ry;exact PySem.EqNone.eq_int_none (aW I q (by simp))
  | int j=>obtain⟨t',rfl⟩:=ry;exact eq_int (aW I q rM)
  | str j=>obtain⟨t',rfl⟩:=ry;exact PySem.EqMixed.eq_int_str (aW I q (by simp))
  | _=>exact absurd (show false=true from hs) Bool.false_ne_true
 | str i =>
  obtain⟨t,rfl⟩:=rx
  cases y with
  | AG=>cases ry;exact PySem.EqNone.eq_str_none (aW I q (by simp))
  | bl j=>cases ry;exact PySem.EqMixed.eq_str_bool (aW I q (by simp))
  | int j=>obtain⟨t',rfl⟩:=ry;exact PySem.EqMixed.eq_str_int (aW I q (by simp))
  | str j=>obtain⟨t',rfl⟩:=ry;exact eq_str (aW I q rL)
  | _=>exact absurd (show false=true from hs) Bool.false_ne_true
 | Eb i =>
  obtain⟨t,rfl⟩:=rx
  cases y with
  | Eb j=>obtain⟨t',rfl⟩:=ry;exact PySem.W.eq_bytes (aW I q rN)
  | _=>exact absurd (show false=true from hs) Bool.false_ne_true
 | _=>cases y<;>exact absurd (show false=true from hs) Bool.false_ne_true
theorem jQ:eD X (compareOp .NotEq) rNe:=by
 intro pins s σ H x y v u Q I rx ry h
 obtain⟨hs,q⟩:=h
 cases x with
 | AG =>
  cases rx
  cases y with
  | AG=>cases ry;exact PySem.EqNone.ne_none_none (aW I q (by simp))
  | bl j=>cases ry;exact PySem.EqNone.ne_none_bool (aW I q (by simp))
  | int j=>obtain⟨t',rfl⟩:=ry;exact PySem.EqNone.ne_none_int (aW I q (by simp))
  | str j=>obtain⟨t',rfl⟩:=ry;exact PySem.EqNone.ne_none_str (aW I q (by simp))
  | _=>exact absurd (show false=true from hs) Bool.false_ne_true
 | bl i =>
  cases rx
  cases y with
  | AG=>cases ry;exact PySem.EqNone.ne_bool_none (aW I q (by simp))
  | bl j=>cases ry;exact ne_bool (aW I q (congrArg not vK))
  | str j=>obtain⟨t',rfl⟩:=ry;exact PySem.EqMixed.ne_bool_str (aW I q (by simp))
  | _=>exact absurd (show false=true from hs) Bool.false_ne_true
 | int i =>
  obtain⟨t,rfl⟩:=rx
  cases y with
  | AG=>cases ry;exact PySem.EqNone.ne_int_none (aW I q (by simp))
  | int j=>obtain⟨t',rfl⟩:=ry;exact ne_int (aW I q (congrArg not rM))
  | str j=>obtain⟨t',rfl⟩:=ry;exact PySem.EqMixed.ne_int_str (aW I q (by simp))
  | _=>exact absurd (show false=true from hs) Bool.false_ne_true
 | str i =>
  obtain⟨t,rfl⟩:=rx
  cases y with
  | AG=>cases ry;exact PySem.EqNone.ne_str_none (aW I q (by simp))
  | bl j=>cases ry;exact PySem.EqMixed.ne_str_bool (aW I q (by simp))
  | int j=>obtain⟨t',rfl⟩:=ry;exact PySem.EqMixed.ne_str_int (aW I q (by simp))
  | str j=>obtain⟨t',rfl⟩:=ry;exact ne_str (aW I q (congrArg not rL))
  | _=>exact absurd (show false=true from hs) Bool.false_ne_true
 | Eb i =>
  obtain⟨t,rfl⟩:=rx
  cases y with
  | Eb j=>obtain⟨t',rfl⟩:=ry;exact PySem.W.ne_bytes (aW I q (congrArg not rN))
  | _=>exact absurd (show false=true from hs) Bool.false_ne_true
 | _=>cases y<;>exact absurd (show false=true from hs) Bool.false_ne_true
theorem qV:eD X (compareOp .Lt) (tp fun i j => .bl (decide (i < j))):=wO fun _ _ _ _ _ _ _ q=>lt_int q
theorem qW:eD X (compareOp .LtE) (tp fun i j => .bl (decide (i <= j))):=wO fun _ _ _ _ _ _ _ q=>le_int q
theorem iV:eD X (compareOp .Gt) (tp fun i j => .bl (decide (j < i))):=wO fun _ _ _ _ _ _ _ q=>gt_int q
theorem yh:eD X (compareOp .GtE) (tp fun i j => .bl (decide (j <= i))):=wO fun _ _ _ _ _ _ _ q=>ge_int q
theorem su:eD X (compareOp .In) (fun x y H Q=>∃ i j,x = .str i/\y = .str j/\Q (.bl (!(Builtin.Str.occurrences j i 0 j.length 1).isEmpty)) H):=by
 intro pins s σ H x y v u Q I rx ry h
 obtain⟨i,j,rfl,rfl,q⟩:=h
 obtain⟨t,rfl⟩:=rx
 obtain⟨t',rfl⟩:=ry
 exact in_str (aW I q rfl)
theorem gL:eD X (compareOp .Is) (fun x y H Q=>y = .AG/\Q (.bl (decide (x = .AG))) H):=by
 intro pins s σ H x y v u Q I rx ry h
 obtain⟨rfl,q⟩:=h
 cases ry
 refine is_none_gen (aW I q ?_)
 cases x<;>first
  | (cases rx;rfl)
  | (obtain⟨t,rfl⟩:=rx;rfl)
theorem qU:eD X (compareOp .IsNot) (fun x y H Q=>y = .AG/\Q (.bl (!decide (x = .AG))) H):=by
 intro pins s σ H x y v u Q I rx ry h
 obtain⟨rfl,q⟩:=h
 cases ry
 refine isnot_none_gen (aW I q ?_)
 cases x<;>first
  | (cases rx;rfl)
  | (obtain⟨t,rfl⟩:=rx;rfl)
theorem aw (b:Expr){op:CmpOp}(h:autoParam (op ≠ .In) θ)(h2:autoParam (op ≠ .NotIn) θ):behindInMarks op b=false:=by
 have e1:(op == CmpOp.In)=false:=by cases op<;>first | rfl | exact absurd rfl h
 have e2:(op == CmpOp.NotIn)=false:=by cases op<;>first | rfl | exact absurd rfl h2
 cases b<;>simp[behindInMarks,e1,e2]
theorem cj {op:CmpOp}{r:R2}(ho:eD X (compareOp op) r)(ha:PE X a ta)(hb:PE X b tb)(hm:behindInMarks op b=false):PE X (.Compare a [op] [b] pos) (Oy r ta tb):=by
 intro pins s σ H Q I h
 exact wpAny_Compare1 (Ac ha hb I h fun v u s2 x y H2 I2 rx ry q=>ho pins s2 σ H2 x y v u Q I2 rx ry q) hm
noncomputable def K5 (t:TE):TT:=fun σ H Q=>t σ H fun x H'=>∃ k,x = .bl k/\Q k H'
theorem au {op:CmpOp}{r:R2}(ho:eD X (compareOp op) r)(ha:PE X a ta)(hb:PE X b tb)(hm:behindInMarks op b=false):PT X (.Compare a [op] [b] pos) (K5 (Oy r ta tb)):=by
 intro pins s σ H Q I h
 refine wpAny_isTrue_Compare1 (bD (ha pins s σ H _ I h) fun v s1 ⟨x,H1,I1,r1,q1⟩=>bD (hb pins s1 σ H1 _ I1 q1) fun u s2 ⟨y,H2,I2,r2,q2⟩ =>
  bD (ho pins s2 σ H2 x y v u _ I2 r1 r2 q2) fun c s3 ⟨z,H3,I3,r3,k,e,q3⟩=>?_) hm
 subst e
 cases r3
 exact wpAny_truthy_bool ⟨H3,I3,q3⟩
noncomputable def y2 (r r':R2)(ta tb tc:TE):TE:=fun σ H Q=>ta σ H fun x H1=>tb σ H1 fun y H2=>r x y H2 fun z H3=>∃ k,z = .bl k /\
 (if k=true then tc σ H3 fun w' H4=>r' y w' H4 Q else Q (.bl false) H3)
theorem nE {op Qs:CmpOp}{r r':R2}(ho:eD X (compareOp op) r)(EU:eD X (compareOp Qs) r')(ha:PE X a ta)(hb:PE X b tb)(hc:PE X c tc)
  (hm:lastMarks [op,Qs] [b,c]=false:=by with_unfolding_all rfl):PE X (.Compare a [op,Qs] [b,c] pos) (y2 r r' ta tb tc):=by
 intro pins s σ H Q I h
 refine Compare_chain (bD (ha pins s σ H _ I h) fun v s1 ⟨x,H1,I1,r1,q1⟩=>chain_link (bD (hb pins s1 σ H1 _ I1 q1) fun u s2 ⟨y,H2,I2,r2,q2⟩ =>
  bD (ho pins s2 σ H2 x y v u _ I2 r1 r2 q2) fun d s3 ⟨z,H3,I3,r3,k,e,q3⟩=>?_)) hm
 subst e
 cases r3
 refine wpAny_truthy_bool ?_
 cases k with
 | false=>exact ite_ff ⟨.bl false,H3,I3,rfl,q3⟩
 | true=>exact ite_tt (chain_last (bD (hc pins s3 σ H3 _ I3 q3) fun w' s4 Au=>by obtain⟨z',H4,I4,r4,q4⟩:=Au;exact EU pins s4 σ H4 y z' u w' Q I4 r2 r4 q4))
noncomputable def K6 (K:Frag)(x:V)(H:Hp)(k:Bool):Prop :=
 match x with
 | .AG=>k=false
 | .bl b=>k=b
 | .int i=>k=(i != 0)
 | .str y=>y.length <= sizeLine/\k=((y.length:Int) != 0)
 | .Eb y=>y.size <= sizeLine/\k=((y.size:Int) != 0)
 | .ref p=>(∃ xs,Ap K H p xs/\k = !xs.isEmpty)∨(∃ xs,Ay K H p xs/\k = !xs.isEmpty)∨∃ Aw,H p=some (.dK Aw)/\k = !Aw.isEmpty
 | _=>False
theorem qj {κ:Type} {Aw:List (κ × V)} {vs:List (κ × Value)} (r:KV Aw vs):(!vs.isEmpty) = !Aw.isEmpty:=by
 cases r<;>rfl
theorem jZ {xs:List V}{As:List Value}(r:Vals xs As):(!As.toArray.isEmpty) = !xs.isEmpty:=by
 cases r<;>simp
theorem iJ:(sizeLine:Nat) < 2 ^ 63:=by rw[sizeLine_eq];decide
theorem yu:Qq X (fun x H Q=>∃ k,K6 X.K x H k/\Q k H):=by
 intro pins s σ H x v Q I rx h
 obtain⟨k,e,q⟩:=h
 have hl:=iJ
 have hs:sizeLine=16777216:=sizeLine_eq
 cases x with
 | AG =>
  cases rx
  have e':k=false:=e
  subst e'
  exact truthy_none ⟨H,I,q⟩
 | bl b =>
  cases rx
  have e':k=b:=e
  subst e'
  exact wpAny_truthy_bool ⟨H,I,q⟩
 | int i =>
  obtain⟨t,rfl⟩:=rx
  have e':k=(i != 0):=e
  subst e'
  exact PySem.P.truthy_int ⟨H,I,q⟩
 | str y =>
  obtain⟨t,rfl⟩:=rx
  obtain⟨hy,e'⟩:y.length <= sizeLine/\k=((y.length:Int) != 0):=e
  subst e'
  exact PySem.P.truthy_str (by omega) ⟨H,I.tok _,q⟩
 | Eb y =>
  obtain⟨t,rfl⟩:=rx
  obtain⟨hy,e'⟩:y.size <= sizeLine/\k=((y.size:Int) != 0):=e
  subst e'
  exact PySem.W.truthy_bytes (by omega) ⟨H,I.tok _,q⟩
 | ref p =>
  cases rx
  have e':(∃ xs,Ap X.K H p xs/\k = !xs.isEmpty)∨(∃ xs,Ay X.K H p xs/\k = !xs.isEmpty)∨∃ Aw,H p=some (.dK Aw)/\k = !Aw.isEmpty:=e
  rcases e' with ⟨xs,hx,e'⟩ | ⟨xs,hx,e'⟩ | ⟨Aw,hx,e'⟩
  ·subst e'
   obtain⟨As,r,pl,hz⟩:=I.list hx
   have hlen:=r.length
   exact wpAny_truthy_list pl.isList (by simp only[size_toArray];omega) ⟨H,I.tok _,by rw[jZ r];exact q⟩
  ·subst e'
   obtain⟨As,r,pl,hz⟩:=I.tuple hx
   have hlen:=r.length
   exact truthy_tuple pl (by simp only[size_toArray];omega) ⟨H,I.tok _,by rw[jZ r];exact q⟩
  ·subst e'
   obtain⟨hz,hS,vs,r,m⟩:Aw.length <= sizeLine/\(p == sysModules)=false/\∃ vs,KV Aw vs/\s.heap.DictOf (m9 X.prog X.w) p vs:=I.AD p _ hx
   have hlen:Aw.length=vs.length:=Paired.length r
   exact wpAny_truthy_dict hS m (by omega) ⟨H,I.tok _,by rw[qj r];exact q⟩
 | _=>exact(show False from e).elim
theorem fH (ha:PE X a ta)(he:∀ whole,isTrue a X.env whole=(do let v ← whole;standAt a.pos;holding [v] (truthy v))) :
  PT X a (fun σ H Q=>ta σ H fun x H'=>∃ k,K6 X.K x H' k/\Q k H'):=by
 intro pins s σ H Q I h
 exact isTrue_plain (bD (ha pins s σ H _ I h) fun v s1 Au=>by obtain⟨x,H1,I1,r1,q1⟩:=Au;exact yu pins s1 σ H1 x v Q I1 r1 q1) (he _)
theorem gk {x:V}{us:List Value}(r:Vals [x] us):∃ u,us=[u]/\RelV x u:=by
 cases r with
 | cons r1 r2=>cases r2;exact⟨_,rfl,r1⟩
theorem vals2 {x y:V}{us:List Value}(r:Vals [x,y] us):∃ u w',us=[u,w']/\RelV x u/\RelV y w':=by
 cases r with
 | cons r1 r2 =>
  cases r2 with
  | cons r3 r4=>cases r4;exact⟨_,_,rfl,r1,r3⟩
theorem vP:AS X (.builtin "abs") (fun xs H Q=>∃ i,xs=[.int i]/\Q (.int (if i < 0 then -i else i)) H):=by
 intro pins s σ H xs us Q I r h
 obtain⟨i,rfl,q⟩:=h
 obtain⟨u,rfl,t,rfl⟩:=gk r
 exact call_abs_int fun u tk=>⟨.int (if i < 0 then -i else i),H,I.tok _,⟨_,rfl⟩,q⟩
theorem tf (hc:X.calm=true):AS X (.builtin "min") (fun xs H Q=>∃ i j,xs=[.int i, .int j]/\Q (.int (if j < i then j else i)) H):=by
 intro pins s σ H xs us Q I r h
 obtain⟨i,j,rfl,q⟩:=h
 obtain⟨u,w',rfl,⟨t,rfl⟩,⟨t',rfl⟩⟩:=vals2 r
 refine min_two_ints (I.ok.hd hc) fun h' tk k=>⟨_,H,I.kept k,?_,q⟩
 by_cases hj:j < i
 ·rw[if_pos hj,if_pos hj];exact⟨_,rfl⟩
 ·rw[if_neg hj,if_neg hj];exact⟨_,rfl⟩
theorem Bh:AS X (.type "str") (fun xs H Q=>∃ i,xs=[.int i]/\i.natAbs.log2 < 1920/\Q (.str (toString i)) H):=by
 intro pins s σ H xs us Q I r h
 obtain⟨i,rfl,hz,q⟩:=h
 obtain⟨u,rfl,t,rfl⟩:=gk r
 exact PySem.P.str_of_int hz ⟨.str _,H,I.tok _,⟨_,rfl⟩,q⟩
end
structure DP (h:Heap)(x dx C:Addr)(mA:Str->Option Value):Prop where
 obj:h.get? x=some (PySem.W.instObj C dx)
 ns:h.Ns1 dx mA
 ne:dx ≠ x
theorem sN {h:Heap}{dx:Addr}{mA:Str->Option Value}(n:h.Ns1 dx mA):∃ od,h.get? dx=some od/\∀ name,PySem.W.lookIn name od=some (mA name):=by
 obtain⟨o,es,ep,ho,hd,hk,_,hm⟩:=n
 refine⟨o,ho,fun name=>?_⟩
 have e:=hm name
 unfold nsFind findBy at e
 rw[← Array.find?_toList]at e
 unfold PySem.W.lookIn
 rw[hd]
 dsimp only
 split
 ·rename_i y q
  rw[q]at e
  exact congrArg some e
 ·rename_i q
  rw[q]at e
  have a:es.toList.any (·.refKey)=false:=by
   rw[List.any_eq_false]
   intro y hy
   obtain⟨z,t,Ik⟩:=hk y (Array.mem_toList_iff.mp hy)
   simp[DictEntry.refKey,Ik]
  have a':¬ es.toList.any (·.refKey)=true:=by rw[a];exact Bool.false_ne_true
  rw[if_neg a']
  exact congrArg some e
theorem DP.look {h:Heap}{x dx C:Addr}{mA:Str->Option Value}(I:DP h x dx C mA):∃ od,PySem.W.InstAt h x (PySem.W.instObj C dx) C (some od)/\∀ name,PySem.W.lookIn name od=some (mA name) :=
 let ⟨od,ho,hl⟩:=sN I.ns
 ⟨od,⟨I.obj,rfl,rfl,ho⟩,hl⟩
section
variable {prog:Program}{w:World}{A:Around}{E:Value->Shared->Prop}{s:Shared}{K:Frag}{x dx C f:Addr}{mA:Str->Option Value}{name:Str}{v:Value}
theorem x9 {expr:Bool}{Q:Value->Shared->Prop}(X:K.In s.heap)(I:DP s.heap x dx C mA)(hg:plainGet K C name=true)(hh:hasDictIn K C=true)
  (ha:findIn K (.ref C) name=some none) (hv:mA name=some v) (BJ:PySem.W.handedIn v=true) (h:Q v { s with toks:=s.toks + 1 }) :
  wpAny (model prog w) A (getAttr (.ref x) name expr) Q E s:=by
 obtain⟨od,J,hl⟩:=I.look
 exact PySem.W.get_value X J (PySem.W.plainGet_of hg).1 (PySem.W.findObj_own hh ha rfl (by rw[hl,hv])) BJ h
theorem vB {pl:Sem Bool}{Q:Value × List Value->Shared->Prop}(X:K.In s.heap)(I:DP s.heap x dx C mA)(hg:plainGet K C name=true)
  (hf:findIn K (.ref C) name=some (some (.ref f))) (ht:isFn K (.ref f)=true) (hv:mA name=none) (h:Q (.ref f,[.ref x]) s) :
  wpAny (model prog w) A (getMethod (.ref x) name pl) Q E s:=by
 obtain⟨od,J,hl⟩:=I.look
 exact PySem.W.method_fn X J (PySem.W.plainGet_of hg).1 (PySem.W.plainGet_of hg).2 hf (beq_iff_eq.mp ht) (by show(PySem.W.lookIn name od).map (·.isSome)=some false;rw[hl,hv];rfl) h
theorem wx {ns:List Str}{Q:Unit->Shared->Prop}(X:K.In s.heap)(I:DP s.heap x dx C mA)
  (hs:findIn K (.ref C) "__setattr__" = some (some (.builtin "object.__setattr__"))) (hp:plainOver K C=true) (ht:PySem.W.takerIn K C name=some none) (hh:hasDictIn K C=true)
  (hw:PySem.Within mA ns) (hsz:ns.length <= sizeLine)
  (h:∀ h',DP h' x dx C (fun y=>if y=name then some v else mA y)->Heap.SameBut dx s.heap h'->Q () { s with heap:=h',toks:=s.toks + 2 }) :
  wpAny (model prog w) A (setAttr (.ref x) name v) Q E s:=by
 obtain⟨od,J,hl⟩:=I.look
 refine PySem.W.set_plain X J hs (PySem.W.osa_open (s:={ s with toks:=s.toks + 1 }) (r:=none) X J hp ht fun b=>?_)
 obtain⟨cd,hc,PZ⟩:=PySem.W.any_some hh
 have hx:s.heap.get? x=some ⟨.ref C,some dx, .plain,#[]⟩:=I.obj
 refine wpAny_bind (wpAny_pure (wpAny_bind (wpAny_bind (wpAny_loadPart hx (wpAny_bind (PySem.W.Looks.here (s:={ s with toks:=s.toks + 1 }) (PySem.W.looks_clsIn X hc) ?_))))))
 rw[PZ]
 refine wpAny_pure (a:=some dx) (wpAny_bind (wpAny_pure (wpAny_bind ?_)))
 refine wpAny_nsSet1 (s:={ s with toks:=s.toks + 1 }) I.ns fun h' Il EF=>?_
 obtain⟨oD,esD,epD,hoD,hdD,hcD⟩:=Il.count (PySem.Within.cons name v hw)
 refine wpAny_bind (wpAny_lookBehind hoD (by rw[hdD];exact pastItsLine_dict (le_trans hcD (by rw[length_cons];omega))) ?_)
 exact wpAny_pure (h _ ⟨(EF.2 _ (Ne.symm I.ne)).trans I.obj,Il,I.ne⟩ EF)
theorem vq {R:Result->Shared->Prop}{vs:List Value}{kw:List (Str × Value)}(X:K.In s.heap)(hm:makesIn K C=true)
  (hi:findIn K (.ref C) "__init__" = some (some (.ref f))) (hf:PySem.W.typeIn K (.ref f)=some (.type "function"))
  (h:codeAny (model prog w) (A.under (.builtin "type.__call__" ⟨.ref C :: vs,kw⟩)) (.call (.ref f) ⟨.ref (s.heap.objs.size + 1) :: vs,kw⟩) (PySem.W.InitBack (s.heap.objs.size + 1) R)
   { s with heap:=(s.heap.push PySem.W.emptyDict).push (PySem.W.instObj C s.heap.objs.size) }) :
  codeAny (model prog w) A (.call (.ref C) ⟨vs,kw⟩) R s:=by
 obtain⟨hh,g,d,t,os⟩:=s
 exact PySem.W.make_core (PySem.W.makes_of X hm) (PySem.W.looks_findIn X hi) (fun self=>PySem.W.bind_fn X self hf) (.inl rfl) h
end
noncomputable def aQ (f:Str)(v:V):List (Str × V)->List (Str × V)
 | []=>[(f,v)]
 | (g,x) :: r=>if g=f then (g,v) :: r else (g,x) :: aQ f v r
theorem iW (f g:Str)(v:V):∀ fs:List (Str × V),(aQ f v fs).lookup g=if g=f then some v else fs.lookup g
 | []=>by
  show List.lookup g [(f,v)]=_
  by_cases h:g=f
  ·have hb:(g == f)=true:=beq_iff_eq.mpr h
   simp only[List.lookup,hb,if_pos h]
  ·have hb:(g == f)=false:=beq_eq_false_iff_ne.mpr h
   simp only[List.lookup,hb,if_neg h]
 | (k,x) :: r=>by
  have ih:=iW f g v r
  rw[show aQ f v ((k,x) :: r)=(if k=f then (k,v) :: r else (k,x) :: aQ f v r) from rfl]
  by_cases hk:k=f
  ·rw[if_pos hk]
   by_cases h:g=k
   ·have hb:(g == k)=true:=beq_iff_eq.mpr h
    simp only[List.lookup,hb,if_pos (h.trans hk)]
   ·have hb:(g == k)=false:=beq_eq_false_iff_ne.mpr h
    simp only[List.lookup,hb,if_neg (fun e:g=f=>h (e.trans hk.symm))]
  ·rw[if_neg hk]
   by_cases h:g=k
   ·have hb:(g == k)=true:=beq_iff_eq.mpr h
    simp only[List.lookup,hb,if_neg (fun e:g=f=>hk (h.symm.trans e))]
   ·have hb:(g == k)=false:=beq_eq_false_iff_ne.mpr h
    simp only[List.lookup,hb]
    exact ih
theorem iL (f:Str)(v:V):∀ fs:List (Str × V),f ∈ (aQ f v fs).map (·.1)/\∀ g,g ∈ fs.map (·.1)->g ∈ (aQ f v fs).map (·.1)
 | []=>⟨by simp[aQ],fun g h=>by simp at h⟩
 | (k,x) :: r=>by
  obtain⟨i1,i2⟩:=iL f v r
  rw[show aQ f v ((k,x) :: r)=(if k=f then (k,v) :: r else (k,x) :: aQ f v r) from rfl]
  by_cases hk:k=f
  ·rw[if_pos hk]
   subst hk
   exact⟨by simp,fun g h=>by simpa using h⟩
  ·rw[if_neg hk]
   refine⟨?_,fun g h=>?_⟩
   ·rw[map_cons]
    exact mem_cons_of_mem _ i1
   ·rw[map_cons]at h ⊢
    rcases mem_cons.mp h with e | e
    ·exact mem_cons.mpr (.inl e)
    ·exact mem_cons_of_mem _ (i2 g e)
theorem iX (f:Str)(v:V):∀ fs:List (Str × V),(aQ f v fs).length <= fs.length + 1
 | []=>by simp[aQ]
 | (k,x) :: r=>by
  have ih:=iX f v r
  rw[show aQ f v ((k,x) :: r)=(if k=f then (k,v) :: r else (k,x) :: aQ f v r) from rfl]
  by_cases hk:k=f
  ·rw[if_pos hk,length_cons,length_cons];omega
  ·rw[if_neg hk,length_cons,length_cons];omega
theorem BV.some_of {v:V}{o:Option Value}(r:BV (some v) o):∃ u,o=some u/\RelV v u:=by
 cases o with
 | none=>exact(show False from r).elim
 | some u=>exact⟨u,rfl,r⟩
theorem BV.none_of {o:Option Value}(r:BV none o):o=none:=by
 cases o with
 | none=>rfl
 | some u=>exact(show False from r).elim
theorem sU {v:V}{u:Value}(r:RelV v u):PySem.W.handedIn u=true:=by
 cases v with
 | AG=>cases (show u=Value.none from r);rfl
 | bl b=>cases (show u=Value.bool b from r);rfl
 | int i=>obtain⟨t,e⟩:=(show ∃ t,u=Value.int i t from r);cases e;rfl
 | str x=>obtain⟨t,e⟩:=(show ∃ t,u=Value.str x t from r);cases e;rfl
 | Eb b=>obtain⟨t,e⟩:=(show ∃ t,u=Value.bytes b t from r);cases e;rfl
 | Ie b=>obtain⟨t,e⟩:=(show ∃ t,u=Value.float b t from r);cases e;rfl
 | ref a=>cases (show u=Value.ref a from r);rfl
 | ty n=>cases (show u=Value.type n from r);rfl
section
variable {P:Program}{w:World}{H H':Hp}{h h':Heap}{a C dx:Addr}{fs Ig:List (Str × V)}
theorem jp (AD:Cc P w H h)(e:H a=some (.ins C dx fs)):∃ mA,DP h a dx C mA/\(∀ f,BV (fs.lookup f) (mA f))/\PySem.Within mA (fs.map (·.1))/\fs.length <= 1000/\H dx=some (.own a):=by
 obtain⟨d,z,ne,ob,mA,n,r,q⟩:=(show AR P w H h a (.ins C dx fs) from AD a _ e)
 exact⟨mA,⟨ob,n,ne⟩,r,q,z,d⟩
end
structure CG (K:Frag)(C:Addr):Prop where
 pg:plainGet K C Str.empty=true
 hd:hasDictIn K C=true
 po:plainOver K C=true
 sa:findIn K (.ref C) "__setattr__" = some (some (.builtin "object.__setattr__"))
theorem CG.get {K:Frag}{C:Addr}(c:CG K C)(f:Str):plainGet K C f=true:=c.pg
noncomputable def AE (K:Frag)(C:Addr)(f:Str):Prop:=findIn K (.ref C) f=some none
theorem AE.K7 {K:Frag}{C:Addr}{f:Str}(n:AE K C f):PySem.W.takerIn K C f=some none:=by
 unfold PySem.W.takerIn
 rw[show findIn K (.ref C) f=some none from n]
 rfl
structure bB (K:Frag)(C:Addr)(m:Str)(f:Addr):Prop where
 at_:findIn K (.ref C) m=some (some (.ref f))
 fn:isFn K (.ref f)=true
 kp:keepIn K (.ref f)=true
section
variable {X:Cx}{pins:List (Addr × Obj)}{σ:St}{H:Hp}{s:Shared}{a C dx:Addr}{fs:List (Str × V)}{f:Str}{v:V}{A:Around}{E:Value->Shared->Prop}
theorem ki {b:Bool}{Q:Value->Shared->Prop}(I:Inv X pins σ H s)(e:H a=some (.ins C dx fs))(c:CG X.K C)(n:AE X.K C f)(l:fs.lookup f=some v)
  (h:∀ u s',Inv X pins σ H s'->RelV v u->Q u s'):wpAny (model X.prog X.w) A (getAttr (.ref a) f b) Q E s:=by
 obtain⟨mA,O,r,_,_,_⟩:=jp I.AD e
 obtain⟨u,hu,ru⟩:=BV.some_of (v:=v) (o:=mA f) (by rw[← l];exact r f)
 exact x9 I.BR O (c.get f) c.hd n hu (sU ru) (h u _ (I.tok _) ru)
theorem kg {m:Str}{g:Addr}{pl:Sem Bool}{Q:Value × List Value->Shared->Prop}(I:Inv X pins σ H s)(e:H a=some (.ins C dx fs))(c:CG X.K C)(k:bB X.K C m g)(l:fs.lookup m=none)
  (h:Q (.ref g,[.ref a]) s):wpAny (model X.prog X.w) A (getMethod (.ref a) m pl) Q E s:=by
 obtain⟨mA,O,r,_,_,_⟩:=jp I.AD e
 have hn:mA m=none:=BV.none_of (by rw[← l];exact r m)
 exact vB I.BR O (c.get m) k.at_ k.fn hn h
theorem j8 {y:V}{u:Value}{Q:Unit->Shared->Prop}(I:Inv X pins σ H s)(e:H a=some (.ins C dx fs))(c:CG X.K C)(n:AE X.K C f)(hl:fs.length < 1000)(ry:RelV y u)
  (h:∀ s',Inv X pins σ (upd H a (.ins C dx (aQ f y fs))) s'->Q () s'):wpAny (model X.prog X.w) A (setAttr (.ref a) f u) Q E s:=by
 obtain⟨mA,O,r,wi,_,ho⟩:=jp I.AD e
 have hz:(fs.map (·.1)).length <= sizeLine:=by rw[length_map,sizeLine_eq];omega
 refine wx I.BR O c.sa c.po n.K7 c.hd wi hz fun h' O' sb=>h _ ?_
 have hd:∃ o,h'.get? dx=some o:=let ⟨o,_,_,e',_⟩:=O'.ns; ⟨o,e'⟩
 refine I.write (x:=a) (e:=dx) (by rw[e];exact True.intro) (.inr ho) (fun b q hb z=>(sb.2 b hb).trans z) hd ?_
 refine⟨by rw[ai O.ne];exact ho,?_,O.ne,O'.obj,_,O'.ns,fun g=>?_,fun g hg=>?_⟩
 ·have:=iX f y fs;omega
 ·show BV ((aQ f y fs).lookup g) (if g=f then some u else mA g)
  rw[iW]
  by_cases q:g=f
  ·rw[if_pos q,if_pos q];exact ry
  ·rw[if_neg q,if_neg q];exact r g
 ·by_cases q:g=f
  ·rw[q];exact(iL f y fs).1
  ·refine(iL f y fs).2 g (wi g fun z=>hg ?_)
   show(if g=f then some u else mA g)=none
   rw[if_neg q];exact z
theorem Inv.made (I:Inv X pins σ H s):Inv X pins σ (upd (upd H s.heap.objs.size (.own (s.heap.objs.size + 1))) (s.heap.objs.size + 1) (.ins C s.heap.objs.size []))
  { s with heap:=(s.heap.push PySem.W.emptyDict).push (PySem.W.instObj C s.heap.objs.size) }:=by
 have e1:(s.heap.push PySem.W.emptyDict).get? s.heap.objs.size=some PySem.W.emptyDict:=Heap.get?_push_size s.heap rfl
 have e2:((s.heap.push PySem.W.emptyDict).push (PySem.W.instObj C s.heap.objs.size)).get? (s.heap.objs.size + 1)=some (PySem.W.instObj C s.heap.objs.size):=by
  have:=Heap.get?_push_size (s.heap.push PySem.W.emptyDict) (o:=PySem.W.instObj C s.heap.objs.size) rfl
  rwa [size_push]at this
 have e3:(s.heap.push PySem.W.emptyDict).Ns s.heap.objs.size (fun _=>none):=⟨PySem.W.emptyDict,#[],_,e1,rfl,(fun e he=>absurd he (by simp)),fun _=>rfl⟩
 have I1:=I.laid (a:=s.heap.objs.size) (o := .own (s.heap.objs.size + 1)) (h':=s.heap.push PySem.W.emptyDict) (t':=s.toks) (fun b u q=>Heap.get?_push_of_some _ q) (le_refl _) ⟨_,e1⟩
 refine I1.laid (a:=s.heap.objs.size + 1) (o := .ins C s.heap.objs.size []) (t':=s.toks) (fun b u q=>Heap.get?_push_of_some _ q) (le_of_eq (size_push _ _)) ?_
 have ne:s.heap.objs.size ≠ s.heap.objs.size + 1:=ne_of_lt (Nat.lt_succ_self _)
 refine⟨by rw[ai ne,ac],zero_le _,ne,e2,fun _=>none,(Heap.Ns1.of_empty e3).at fun o q=>Heap.get?_push_of_some _ q,fun _=>True.intro,fun y hy=>absurd rfl hy⟩
theorem xG {prog:Program}{w:World}{env:Env}{e:Expr}{f:Str}{pos:Pos}{s:Shared}{Q:Value->Shared->Prop}(hb:attributeBase e f env (eval e env)=eval e env)
  (h:wpAny (model prog w) A (eval e env) (fun o s₁=>wpAny (model prog w) A (getAttr o f true) Q E s₁) E s):wpAny (model prog w) A (eval (.Attribute e f pos) env) Q E s :=
 Attribute_any_ h (by rw[arm_eval_Attribute,hb])
end
noncomputable def se (K:Frag)(ta:TE)(f:Str):TE:=fun σ H Q=>ta σ H fun x H1=>∃ a C dx fs v,x = .ref a/\H1 a=some (.ins C dx fs)/\CG K C/\AE K C f/\fs.lookup f=some v/\Q v H1
noncomputable def Qt (K:Frag)(ta tv:TE)(f:Str):TS:=fun D σ H=>tv σ H fun y H1=>ta σ H1 fun x H2=>∃ a C dx fs,x = .ref a/\H2 a=some (.ins C dx fs)/\CG K C/\AE K C f/\fs.length < 1000 /\
 D.nx σ (upd H2 a (.ins C dx (aQ f y fs)))
noncomputable def Qu (X:Cx)(op:Operator)(rd:V->V->Hp->VK->Prop):Prop :=
 ∀ (pins:List (Addr × Obj))(s:Shared)(σ:St)(H:Hp)(x y:V)(u v:Value)(Q:VK),Inv X pins σ H s->RelV x u->RelV y v->rd x y H Q->wpAny (model X.prog X.w) X.A (inplaceOp op u v) (EP X pins σ Q) X.xe s
noncomputable def wC (K:Frag)(ta tv:TE)(rd:V->V->Hp->VK->Prop)(f:Str):TS:=fun D σ H=>ta σ H fun x H1=>∃ a C dx fs v,x = .ref a/\H1 a=some (.ins C dx fs)/\CG K C/\AE K C f/\fs.lookup f=some v /\
 tv σ H1 fun y H2=>rd v y H2 fun z H3=>∃ Ef Ig,H3 a=some (.ins C Ef Ig)/\Ig.length < 1000/\D.nx σ (upd H3 a (.ins C Ef (aQ f z Ig)))
section
variable {X:Cx}{o e value:Expr}{f:Str}{pos pos' Dq:Pos}{ta tv:TE}
theorem am (he:PE X e ta)(hb:attributeBase e f X.env (eval e X.env)=eval e X.env):PE X (.Attribute e f pos) (se X.K ta f):=by
 intro pins s σ H Q I h
 refine xG hb (bD (he pins s σ H _ I h) fun u s1 Au=>?_)
 obtain⟨x,H1,I1,rx,a,C,dx,fs,v,ex,ea,c,n,l,q⟩:=Au
 subst ex
 obtain rfl:u=Value.ref a:=rx
 exact ki I1 ea c n l fun u' s2 I2 ru=>⟨v,H1,I2,ru,q⟩
theorem b6 (ha:PE X o ta)(hv:PE X value tv)(hs:swapsWith value (some (.Attribute o f pos')) pos.line X.env=pure false):PS X (.Assign [.Attribute o f pos'] value pos) (Qt X.K ta tv f):=by
 intro pins s σ H D I h
 refine plainObj_wpAny_Assign_Attribute (bD (hv pins s σ H _ I h) fun u s1 ⟨y,H1,I1,ry,q⟩=>bD (ha pins s1 σ H1 _ I1 q) fun ov s2 Au=>?_) hs
 obtain⟨x,H2,I2,rx,a,C,dx,fs,ex,ea,c,n,l,q2⟩:=Au
 subst ex
 obtain rfl:ov=Value.ref a:=rx
 exact j8 I2 ea c n l ry fun s3 I3=>⟨σ,_,I3,q2⟩
theorem eH {op:Operator}{rd:V->V->Hp->VK->Prop}(ha:PE X o ta)(hv:PE X value tv)(K8:Qu X op rd):PS X (.AugAssign (.Attribute o f Dq) op value pos) (wC X.K ta tv rd f):=by
 intro pins s σ H D I h
 refine wpAny_AugAssign_AttributeAny (bD (ha pins s σ H _ I h) fun ov s1 Au=>?_)
 obtain⟨x,H1,I1,rx,a,C,dx,fs,v,ex,ea,c,n,l,q⟩:=Au
 subst ex
 obtain rfl:ov=Value.ref a:=rx
 refine ki I1 ea c n l fun u s2 I2 ru=>bD (hv pins s2 σ H1 _ I2 q) fun w3 s3 ⟨y,H2,I3,ry,q3⟩=>bD (K8 pins s3 σ H2 v y u w3 _ I3 ru ry q3) fun w4 s4 Au=>?_
 obtain⟨z,H3,I4,rz,Ef,Ig,ea',l',q4⟩:=Au
 exact j8 I4 ea' c n l' rz fun s5 I5=>⟨σ,_,I5,q4⟩
end
section
variable {X:Cx}{pins:List (Addr × Obj)}{σ:St}{H:Hp}{s:Shared}{A:Around}{E:Value->Shared->Prop}{Q:Value->Shared->Prop}{c:Value}{b:Bool}
inductive iQ (K:Frag)(H:Hp):V->Value->Prop where
 | AG:iQ K H .AG (.type "NoneType")
 | bl (x:Bool):iQ K H (.bl x) (.type "bool")
 | int (i:Int):iQ K H (.int i) (.type "int")
 | str (x:Str):iQ K H (.str x) (.type "str")
 | Ie (x:UInt64):iQ K H (.Ie x) (.type "float")
 | lst {a:Addr} {xs:List V} (e:H a=some (.lst xs)):iQ K H (.ref a) (.type "list")
 | Ec {a:Addr} {o:Obj} {xs:List V} (e:H a=some (.Ec o (.lst xs))):iQ K H (.ref a) (.type "list")
 | tup {a:Addr} {xs:List V} (e:H a=some (.tup xs)):iQ K H (.ref a) (.type "tuple")
 | dK {a:Addr} {Aw:List (gh × V)} (e:H a=some (.dK Aw)):iQ K H (.ref a) (.type "dict")
 | dT {a:Addr} {Aw:List (List gh × V)} (e:H a=some (.dT Aw)):iQ K H (.ref a) (.type "dict")
 | ins {a C dx:Addr} {fs:List (Str × V)} (e:H a=some (.ins C dx fs)) (cl:CG K C) (ha:findIn K (.ref C) "__class__" = some (some (.builtin "object.__class__")))
   (hn:PySem.W.specialIn K (.builtin "object.__class__") "__get__" = some (some (.builtin "getset_descriptor.__get__"))) (BS:PySem.W.takesIn K (.builtin "object.__class__")=some true)
   (hm:PySem.W.mroIn K C (.type "object")=some true):iQ K H (.ref a) (.ref C)
theorem sQ {x:V}{u t:Value}(I:Inv X pins σ H s)(rx:RelV x u)(ty:iQ X.K H x t)(e:kitOne X.K t c=some b)(h:∀ tk,Q (.bool b) { s with toks:=tk }) :
  wpAny (model X.prog X.w) A (call (.builtin "isinstance") [u,c]) Q E s:=by
 cases ty with
 | AG=>cases (show u=Value.none from rx);exact PySem.W.kia_one PySem.W.kitx_none I.BR True.intro e (fun z=>nomatch z) h
 | bl y=>cases (show u=Value.bool y from rx);exact PySem.W.kia_one PySem.W.kitx_bool I.BR True.intro e (fun z=>nomatch z) h
 | int i=>obtain⟨t,q⟩:=(show ∃ t,u=Value.int i t from rx);cases q;exact PySem.W.kia_one PySem.W.kitx_int I.BR True.intro e (fun z=>nomatch z) h
 | str y=>obtain⟨t,q⟩:=(show ∃ t,u=Value.str y t from rx);cases q;exact PySem.W.kia_one PySem.W.kitx_str I.BR True.intro e (fun z=>nomatch z) h
 | Ie y=>obtain⟨t,q⟩:=(show ∃ t,u=Value.float y t from rx);cases q;exact PySem.W.kia_one PySem.W.kitx_float I.BR True.intro e (fun z=>nomatch z) h
 | @lst a xs ea =>
  cases (show u=Value.ref a from rx)
  obtain⟨_,_,n,_,h1⟩:=(show AR X.prog X.w H s.heap a (.lst xs) from I.AD a _ ea)
  exact PySem.W.kia_one PySem.W.kitx_list I.BR ⟨_,h1,rfl⟩ e (fun z=>nomatch z) h
 | @Ec a ob xs ea =>
  cases (show u=Value.ref a from rx)
  obtain⟨_,_,_,n,_,h1⟩:=(show AR X.prog X.w H s.heap a (.Ec ob (.lst xs)) from I.AD a _ ea)
  exact PySem.W.kia_one PySem.W.kitx_list I.BR ⟨_,h1,rfl⟩ e (fun z=>nomatch z) h
 | @tup a xs ea =>
  cases (show u=Value.ref a from rx)
  obtain⟨_,_,_,p⟩:=(show AR X.prog X.w H s.heap a (.tup xs) from I.AD a _ ea)
  obtain⟨o,h1,⟨h2,_⟩,_⟩:=p
  exact PySem.W.kia_one PySem.W.kitx_tuple I.BR ⟨o,h1,h2⟩ e (fun z=>nomatch z) h
 | @dK a Aw ea =>
  cases (show u=Value.ref a from rx)
  obtain⟨_,_,vs,_,p⟩:=(show AR X.prog X.w H s.heap a (.dK Aw) from I.AD a _ ea)
  obtain⟨o,es,ep,h1,h2,_⟩:=p
  exact PySem.W.kia_one PySem.W.kitx_dict I.BR ⟨o,h1,h2.1⟩ e (fun z=>nomatch z) h
 | @dT a Aw ea =>
  cases (show u=Value.ref a from rx)
  obtain⟨_,_,xs,_,o,es,ep,h1,h2,_⟩:=(show AR X.prog X.w H s.heap a (.dT Aw) from I.AD a _ ea)
  exact PySem.W.kia_one PySem.W.kitx_dict I.BR ⟨o,h1,h2.1⟩ e (fun z=>nomatch z) h
 | @ins a C dx fs ea cl ha hn BS hm =>
  cases (show u=Value.ref a from rx)
  obtain⟨mA,O,_⟩:=jp I.AD ea
  obtain⟨od,J,_⟩:=O.look
  exact PySem.W.kia_one (PySem.W.kitx_own (cl.get _) cl.hd ha hn BS hm) I.BR J e (fun z=>nomatch z) h
end
structure Ax (k:Nat)(A:Around):Prop where
 hd:A.handled=none
 dp:A.depth + 3 * k + 5 < recursionLimit
 un:A.units + 16 * k + 200 < cLine
theorem Ax.mono {j k:Nat}{A:Around}(r:Ax k A)(h:j <= k):Ax j A:=⟨r.hd,by have:=r.dp;omega,by have:=r.un;omega⟩
theorem Ax.deeper {k:Nat}{A:Around}(r:Ax (k + 1) A)(env:Env):Ax k (A.deeper env) :=
 ⟨r.hd,by have:=r.dp;show A.depth + 1 + 3 * k + 5 < _;omega,by have:=r.un;show A.units + 3 + 16 * k + 200 < _;omega⟩
theorem qe {A:Around}{C:Addr}{us:List Value}{kw:List (Str × Value)}:(A.under (.builtin "type.__call__" ⟨.ref C :: us,kw⟩)).depth=A.depth + 1:=by
 first | rfl | simp[Around.under,Code.weight,Code.isCreation,Code.isGuard,Code.isCaller,Code.frames,Code.isFrame,guardIds]
theorem qd {A:Around}{C:Addr}{us:List Value}{kw:List (Str × Value)}:(A.under (.builtin "type.__call__" ⟨.ref C :: us,kw⟩)).units=A.units + 1:=by
 first | rfl | simp[Around.under,Code.cUnits,Code.frames,Code.isFrame]
theorem Ax.make {k:Nat}{A:Around}(r:Ax (k + 1) A)(C:Addr)(us:List Value)(kw:List (Str × Value)):Ax k (A.under (.builtin "type.__call__" ⟨.ref C :: us,kw⟩)) :=
 ⟨r.hd,by have:=r.dp;rw[qe];omega,by have:=r.un;rw[qd];omega⟩
theorem Ax.depth {k:Nat}{A:Around}(r:Ax k A):A.depth < recursionLimit:=by have:=r.dp;omega
theorem Ax.units {k:Nat}{A:Around}(r:Ax k A):A.units + 64 < cLine:=by have:=r.un;omega
noncomputable def KA:TA:=fun _ H Q=>Q [] H
noncomputable def KC (ta:TE)(tr:TA):TA:=fun σ H Q=>ta σ H fun x H1=>tr σ H1 fun xs H2=>Q (x :: xs) H2
section
variable {X:Cx}{e:Expr}{es:List Expr}{te:TE}{t:TA}{pos:Pos}
theorem ad:PA X [] KA:=fun _ _ _ _ H Q I h=>Calls.spliced_nil ⟨[],H,I, .nil,h⟩
theorem aa (ha:PE X e te)(hr:PA X es t)(hs:autoParam (starEach (e :: es) X.env=(false,eval e X.env) :: starEach es X.env) η):PA X (e :: es) (KC te t):=by
 intro pos pins s σ H Q I h
 rw[hs]
 show wpAny _ _ (spliced ((false,eval e X.env) :: backTo pos (starEach es X.env))) _ _ s
 refine Calls.spliced_cons (bD (ha pins s σ H _ I h) fun u s1 Au=>?_)
 obtain⟨x,H1,I1,r1,q1⟩:=Au
 exact bD (hr pos pins s1 σ H1 _ I1 q1) fun us s2 Au=>by obtain⟨xs,H2,I2,r2,q2⟩:=Au;exact⟨x :: xs,H2,I2, .cons r1 r2,q2⟩
noncomputable def Qv (t:TA):TE:=fun σ H Q=>t σ H fun xs H1=>xs.length <= sizeLine/\∀ p,H1 p=none->Q (.ref p) (upd H1 p (.tup xs))
noncomputable def Qw (t:TA):TE:=fun σ H Q=>t σ H fun xs H1=>xs.length <= sizeLine/\∀ p,H1 p=none->Q (.ref p) (upd H1 p (.lst xs))
theorem bI {x1} (h:PA X es t):PE X (.Tuple es x1 pos) (Qv t):=by
 intro pins s σ H Q I hq
 refine wpAny_Tuple_spliced (bD (h pos pins s σ H _ I hq) fun us s1 ⟨xs,H1,I1,r,z,q⟩=>⟨by rw[← r.length];exact z,?_⟩)
 have hf:H1 s1.heap.objs.size=none:=I1.AD.fresh (le_refl _)
 refine⟨.ref s1.heap.objs.size,upd H1 s1.heap.objs.size (.tup xs),I1.laid (t':=s1.toks) (fun b u e=>Heap.get?_push_of_some _ e) (le_refl _) ?_,rfl,q _ hf⟩
 exact⟨z,us,r,⟨_,Heap.get?_push_size _ rfl,⟨rfl,_,rfl⟩,rfl⟩⟩
theorem aO (h:PA X es t):PE X (.List es pos) (Qw t):=by
 intro pins s σ H Q I hq
 refine wpAny_List_spliced (bD (h pos pins s σ H _ I hq) fun us s1 ⟨xs,H1,I1,r,z,q⟩=>⟨by rw[← r.length];exact z,?_⟩)
 have hf:H1 s1.heap.objs.size=none:=I1.AD.fresh (le_refl _)
 refine⟨.ref s1.heap.objs.size,upd H1 s1.heap.objs.size (.lst xs),I1.laid (t':=s1.toks) (fun b u e=>Heap.get?_push_of_some _ e) (le_refl _) ?_,rfl,q _ hf⟩
 exact⟨z,us,0,r,Heap.get?_push_size _ rfl⟩
end
abbrev Sp:=List V->Hp->VK->XK->Prop
abbrev rX:=List Env->Hp->Shared->XK->Value->Shared->Prop
structure DQ (P:Program)(w:World)(K:Frag)(mg:Str->Option Value)(base:Heap)(A:Around)(outer:List Env)(s:Shared)(H:Hp):Prop where
 frames:A.frames=some outer
 mod:Mod K mg base
 bs:∀ b o,base.get? b=some o->s.heap.get? b=some o/\H b=none
 FV:base.objs.size <= s.heap.objs.size
 Cf:s.heap.FunFrames base outer
 Ih:∀ b ∈ rH outer,H b=none
 AD:Cc P w H s.heap
 bare:AllBare s.gens
noncomputable def CE (outer:List Env)(P:Program)(w:World)(H:Hp)(s:Shared)(Q:VK)(u:Value)(s':Shared):Prop :=
 ∃ v H',s'.os=s.os/\AllBare s'.gens/\Un (rH outer) [] H H' s.heap s'.heap/\Cc P w H' s'.heap/\RelV v u/\Q v H'
noncomputable def CR (CX:rX)(outer:List Env)(P:Program)(w:World)(H:Hp)(s:Shared)(Q:VK)(E:XK)(r:Result)(s':Shared):Prop :=
 match r with
 | .ok (.ret u)=>CE outer P w H s Q u s'
 | .ok _=>False
 | .error e=>CX outer H s E e s'
structure Ao (P:Program)(w:World)(K:Frag)(mg:Str->Option Value)(base:Heap)(CX:rX)(k:Nat)(f:Addr)(fd:FuncData)(ps:List Str)(sp:Sp):Prop where
 len:∀ vs H Q E,sp vs H Q E->vs.length=ps.length
 run:∀ (A:Around)(outer:List Env)(s:Shared)(H:Hp)(args:Args)(us:List Value)(vs:List V)(Q:VK)(E:XK),Ax k A->DQ P w K mg base A outer s H->BindsTo s fd args (ps.zip us)->Vals vs us->sp vs H Q E ->
  codeAny (model P w) A (.call (.ref f) args) (CR CX outer P w H s Q E) s
theorem Ao.imp {P:Program}{w:World}{K:Frag}{mg:Str->Option Value}{base:Heap}{CX:rX}{k:Nat}{f:Addr}{fd:FuncData}{ps:List Str}{sp V8:Sp}(F:Ao P w K mg base CX k f fd ps sp)
  (h:∀ vs H Q E,V8 vs H Q E->sp vs H Q E):Ao P w K mg base CX k f fd ps V8 :=
 ⟨fun vs H Q E q=>F.len vs H Q E (h _ _ _ _ q),fun A outer s H args us vs Q E hr he hb hv hs=>F.run A outer s H args us vs Q E hr he hb hv (h _ _ _ _ hs)⟩
theorem DQ.make {P:Program}{w:World}{K:Frag}{mg:Str->Option Value}{base:Heap}{A:Around}{outer:List Env}{s:Shared}{H:Hp}(e:DQ P w K mg base A outer s H)(C:Addr)(us:List Value)(kw:List (Str × Value)) :
  DQ P w K mg base (A.under (.builtin "type.__call__" ⟨.ref C :: us,kw⟩)) outer s H:=⟨by first | exact e.frames | (simpa [Around.under,Code.envs,Code.isFrame,pushEnvs] using e.frames),e.mod,e.bs,e.FV,e.Cf,e.Ih,e.AD,e.bare⟩
section
variable {X:Cx}{pins:List (Addr × Obj)}{σ:St}{H:Hp}{s s':Shared}
theorem Inv.KD (I:Inv X pins σ H s):DQ X.prog X.w X.K X.mg X.base X.A X.stack s H :=
 ⟨I.ok.frames,I.ok.mod,I.bs,le_trans I.ok.FV I.sz,I.stack,I.Ed,I.AD,I.bare⟩
theorem Inv.after {Q:VK}{u:Value}(I:Inv X pins σ H s)(h:CE X.stack X.prog X.w H s Q u s'):EP X pins σ Q u s':=by
 obtain⟨v,H',os,bare,un,AD,r,q⟩:=h
 obtain⟨hh,g,d,t,os'⟩:=s'
 obtain rfl:os' = s.os:=os
 exact⟨v,H',I.call (h':=hh) (g':=g) (d':=d) (t':=t) (ch:=[]) un AD bare (fun b z=>absurd z (by simp)),r,q⟩
end
noncomputable def KG (sp:Sp)(dvs:List V)(E:XK)(t:TA):TE:=fun σ H Q=>t σ H fun vs H1=>sp (vs ++ dvs) H1 Q E
noncomputable def xQ (C:Addr)(m:Str)(sp:Sp)(dvs:List V)(E:XK)(ta:TE)(t:TA):TE:=fun σ H Q=>ta σ H fun x H1=>∃ a dx fs,x = .ref a/\H1 a=some (.ins C dx fs)/\fs.lookup m=none /\
 t σ H1 fun vs H2=>sp (x :: (vs ++ dvs)) H2 Q E
noncomputable def KH (C:Addr)(sp:Sp)(dvs:List V)(E:XK)(t:TA):TE:=fun σ H Q=>t σ H fun vs H1=>∀ x dx,H1 x=none->H1 dx=none->dx ≠ x ->
 sp (.ref x :: (vs ++ dvs)) (upd (upd H1 dx (.own x)) x (.ins C dx [])) (fun v H2=>v = .AG/\Q (.ref x) H2) E
noncomputable def Binds (K:Frag)(fd:FuncData)(ps:List Str)(ds:List Value):Prop :=
 ∀ (s:Shared)(us:List Value),K.In s.heap->(us ++ ds).length=ps.length->BindsTo s fd ⟨us,[]⟩ (ps.zip (us ++ ds))
theorem Binds.all {K:Frag}{fd:FuncData}{ps:List Str}(h:∀ us:List Value,us.length=ps.length->bindArgs fd ⟨us,[]⟩ = pure (ps.zip us)):Binds K fd ps []:=fun s us _ hl=>by
 rw[append_nil]at hl ⊢
 exact .of_eq (h us hl)
noncomputable def fQ (CX:rX)(X:Cx)(E:XK):Prop:=∀ (pins:List (Addr × Obj))(σ:St)(H:Hp)(s:Shared)(e:Value)(s':Shared),Inv X pins σ H s->CX X.stack H s E e s'->X.xe e s'
section
variable {X:Cx}{CX:rX}{k:Nat}{f C:Addr}{fd:FuncData}{ps:List Str}{sp:Sp}{dvs:List V}{ds:List Value}{E:XK}{x m:Str}{p pos apos:Pos}{e o:Expr}{es:List Expr}{ta:TE}{t:TA}
theorem lW {pins:List (Addr × Obj)}{σ:St}{H:Hp}{s:Shared}{Q:VK}{us:List Value}{vs:List V}(F:Ao X.prog X.w X.K X.mg X.base CX k f fd ps sp)(hr:Ax k X.A)(hb:Binds X.K fd ps ds)(hd:Vals dvs ds)(hx:fQ CX X E)
  (I:Inv X pins σ H s) (r:Vals vs us) (h:sp (vs ++ dvs) H Q E):wpAny (model X.prog X.w) X.A (call (.ref f) us) (EP X pins σ Q) X.xe s:=by
 have r2:Vals (vs ++ dvs) (us ++ ds):=r.append hd
 have hl:(us ++ ds).length=ps.length:=by rw[← r2.length];exact F.len _ _ _ _ h
 refine wpAny_call (codeAny_mono (F.run X.A X.stack s H ⟨us,[]⟩ (us ++ ds) (vs ++ dvs) Q E hr I.KD (hb s us I.BR hl) r2 h) fun r s' hq=>?_)
 cases r with
 | error e=>exact hx pins σ H s e s' I hq
 | ok fl =>
  cases fl with
  | ret u=>exact I.after hq
  | next=>exact False.elim hq
  | brk=>exact False.elim hq
  | cont=>exact False.elim hq
theorem ap (F:Ao X.prog X.w X.K X.mg X.base CX k f fd ps sp)(hr:Ax k X.A)(hg:Gl X x)(hm:X.mg x=some (.ref f))(hk:keepIn X.K (.ref f)=true)(hb:Binds X.K fd ps ds)(hd:Vals dvs ds)(hx:fQ CX X E)
  (ha:PA X (e :: es) t) (Im:autoParam ((x == ("__debug__":Str))=false) θ) (he:autoParam (starEach (e :: es) X.env=(false,eval e X.env) :: starEach es X.env) η) (Be:autoParam ((backTo pos (starEach es X.env)).any (·.1)=false) η) :
  PE X (.Call (.Name x p) (e :: es) [] pos) (KG sp dvs E t):=by
 intro pins s σ H Q I h
 refine wpAny_Call_Name_kw (mD I hg hm ?_ Im)
 refine PySem.W.callWith_K (h₀:=X.base) I.ok.mod.ED hk (bD (ha pos pins s σ H _ I h) fun us s1 ⟨vs,H1,I1,r,q⟩=>⟨I1.BR,?_⟩) he Be
 exact lW F hr hb hd hx I1 r q
theorem aH {pl:Sem Bool}(he:PE X o ta)(c:CG X.K C)(hm:bB X.K C m f)(F:Ao X.prog X.w X.K X.mg X.base CX k f fd ps sp)(hr:Ax k X.A)(hb:Binds X.K fd ps ds)(hd:Vals dvs ds)(hx:fQ CX X E)(ha:PA X (e :: es) t)
  (Hl:autoParam (starEach (e :: es) X.env=(false,eval e X.env) :: starEach es X.env) η) (Be:autoParam ((backTo pos (starEach es X.env)).any (·.1)=false) η)
  (ht:eval (.Call (.Attribute o m apos) (e :: es) [] pos) X.env=(do
   let ov ← eval o X.env
   standAt apos.atName
   let (f,first) ← holding [ov] (getMethod ov m pl)
   callWith pos f first (backTo pos (starEach (e :: es) X.env)) (backToKw pos (keywordEach [] X.env))):=by rfl) :
  PE X (.Call (.Attribute o m apos) (e :: es) [] pos) (xQ C m sp dvs E ta t):=by
 intro pins s σ H Q I h
 refine PySem.W.methodCall_KW (pl:=pl) (bD (he pins s σ H _ I h) fun u s1 Au=>?_) ht
 obtain⟨x,H1,I1,rx,a,dx,fs,ex,ea,l,q⟩:=Au
 subst ex
 obtain rfl:u=Value.ref a:=rx
 refine kg I1 ea c hm l ?_
 refine PySem.W.callWith_K (first:=[.ref a]) (h₀:=X.base) I.ok.mod.ED hm.kp (bD (ha pos pins s1 σ H1 _ I1 q) fun us s2 ⟨vs,H2,I2,r,q2⟩=>⟨I2.BR,?_⟩) Hl Be
 exact lW (us := .ref a :: us) (vs := .ref a :: vs) F hr hb hd hx I2 (.cons rfl r) q2
theorem bu {pl:Sem Bool}(he:PE X o ta)(c:CG X.K C)(hm:bB X.K C m f)(F:Ao X.prog X.w X.K X.mg X.base CX k f fd ps sp)(hr:Ax k X.A)(hb:Binds X.K fd ps ds)(hd:Vals dvs ds)(hx:fQ CX X E)
  (ht:eval (.Call (.Attribute o m apos) [] [] pos) X.env=(do
   let ov ← eval o X.env
   standAt apos.atName
   let (f,first) ← holding [ov] (getMethod ov m pl)
   callWith pos f first (backTo pos (starEach [] X.env)) (backToKw pos (keywordEach [] X.env))):=by rfl) :
  PE X (.Call (.Attribute o m apos) [] [] pos) (xQ C m sp dvs E ta KA):=by
 intro pins s σ H Q I h
 refine PySem.W.methodCall_KW (pl:=pl) (bD (he pins s σ H _ I h) fun u s1 Au=>?_) ht
 obtain⟨x,H1,I1,rx,a,dx,fs,ex,ea,l,q⟩:=Au
 subst ex
 obtain rfl:u=Value.ref a:=rx
 refine kg I1 ea c hm l ?_
 exact PySem.W.callWith_K0 (first:=[.ref a]) I1.BR hm.kp (lW (us:=[.ref a]) (vs:=[.ref a]) F hr hb hd hx I1 (.cons rfl .nil) q)
structure Mk (K:Frag)(C f:Addr):Prop where
 makes:makesIn K C=true
 init:findIn K (.ref C) "__init__" = some (some (.ref f))
 fn:isFn K (.ref f)=true
 kp:keepIn K (.ref C)=true
theorem u7 {pins:List (Addr × Obj)}{σ:St}{H:Hp}{s:Shared}{Q:VK}{us:List Value}{vs:List V}(M:Mk X.K C f)(F:Ao X.prog X.w X.K X.mg X.base CX k f fd ps sp)(hr:Ax (k + 1) X.A)(hb:Binds X.K fd ps ds)(hd:Vals dvs ds)
  (hx:fQ CX X E) (I:Inv X pins σ H s) (r:Vals vs us)
  (h:∀ x dx,H x=none->H dx=none->dx ≠ x->sp (.ref x :: (vs ++ dvs)) (upd (upd H dx (.own x)) x (.ins C dx [])) (fun v H2=>v = .AG/\Q (.ref x) H2) E) :
  wpAny (model X.prog X.w) X.A (call (.ref C) us) (EP X pins σ Q) X.xe s:=by
 have hq:=h (s.heap.objs.size + 1) s.heap.objs.size (I.AD.fresh (le_succ _)) (I.AD.fresh (le_refl _)) (ne_of_lt (Nat.lt_succ_self _))
 have I2:=Inv.made (C:=C) I
 have r2:Vals (V.ref (s.heap.objs.size + 1) :: (vs ++ dvs)) (Value.ref (s.heap.objs.size + 1) :: (us ++ ds)) := .cons rfl (r.append hd)
 have hl:(Value.ref (s.heap.objs.size + 1) :: us ++ ds).length=ps.length:=by
  have e:=r2.length
  rw[F.len _ _ _ _ hq]at e
  exact e.symm
 refine wpAny_call (vq (f:=f) I.BR M.makes M.init (beq_iff_eq.mp M.fn) (codeAny_mono (F.run _ X.stack _ _ ⟨Value.ref (s.heap.objs.size + 1) :: us,[]⟩ (Value.ref (s.heap.objs.size + 1) :: (us ++ ds)) _ _ E (hr.make C us [])
  (I2.KD.make C us []) (hb _ (Value.ref (s.heap.objs.size + 1) :: us) I2.BR hl) r2 hq) fun r s' Cj=>?_))
 cases r with
 | error e=>exact hx pins σ _ _ e s' I2 Cj
 | ok fl =>
  cases fl with
  | ret u =>
   obtain⟨v,H',I3,rv,ev,q3⟩:=I2.after Cj
   subst ev
   exact⟨rv,⟨V.ref (s.heap.objs.size + 1),H',I3,rfl,q3⟩⟩
  | next=>exact False.elim Cj
  | brk=>exact False.elim Cj
  | cont=>exact False.elim Cj
theorem c7 (M:Mk X.K C f)(F:Ao X.prog X.w X.K X.mg X.base CX k f fd ps sp)(hr:Ax (k + 1) X.A)(hg:Gl X x)(hm:X.mg x=some (.ref C))(hb:Binds X.K fd ps ds)(hd:Vals dvs ds)(hx:fQ CX X E)
  (ha:PA X (e :: es) t) (Im:autoParam ((x == ("__debug__":Str))=false) θ) (he:autoParam (starEach (e :: es) X.env=(false,eval e X.env) :: starEach es X.env) η) (Be:autoParam ((backTo pos (starEach es X.env)).any (·.1)=false) η) :
  PE X (.Call (.Name x p) (e :: es) [] pos) (KH C sp dvs E t):=by
 intro pins s σ H Q I h
 refine wpAny_Call_Name_kw (mD I hg hm ?_ Im)
 refine PySem.W.callWith_K (h₀:=X.base) I.ok.mod.ED M.kp (bD (ha pos pins s σ H _ I h) fun us s1 ⟨vs,H1,I1,r,q⟩=>⟨I1.BR,?_⟩) he Be
 exact u7 M F hr hb hd hx I1 r q
end
section
variable {X:Cx}{CX:rX}{k:Nat}{f C:Addr}{fd:FuncData}{ps ks:List Str}{sp:Sp}{E:XK}{x m:Str}{p pos apos kpos:Pos}{e o:Expr}{es:List Expr}{kws:List Keyword}{te ta:TE}{t tk:TA}{nm:Option Str}
variable {g:List Value->List Value->List Value}{gV:List V->List V->List V}
end
structure ao (N P:List Str)(sc:Scope):Prop where
 kind:sc.kind = .function
 co:sc.isCoroutine=false
 gen:sc.isGenerator=false
 nd:N.Nodup
 pre:N.take P.length=P
 par:∀ x ∈ P,sc.names.lookup x=some .local∨sc.names.lookup x=some .cell
 Io:∀ y ∈ sc.names,y.2 ≠ .free
theorem l4 {kindOf:Str->Option NameKind}{x:Str}:∀ {binds:List (Str × Value)}{m:Str->Option Value},(∀ v,(x,v) ∉ binds)->bindL kindOf binds m x=m x
 | [],_,_=>rfl
 | (n,v) :: r,m,h=>by
  unfold bindL
  rw[l4 fun w hw=>h w (mem_cons_of_mem _ hw)]
  split
  ·have:x ≠ n:=by rintro rfl;exact h v mem_cons_self
   simp[this]
  ·rfl
theorem l9 {kindOf:Str->Option NameKind}{x:Str}:∀ {binds:List (Str × Value)}{m:Str->Option Value},(∀ v,(x,v) ∉ binds)->bindC kindOf binds m x=m x
 | [],_,_=>rfl
 | (n,v) :: r,m,h=>by
  unfold bindC
  rw[l9 fun w hw=>h w (mem_cons_of_mem _ hw)]
  split
  ·rfl
  ·have:x ≠ n:=by rintro rfl;exact h v mem_cons_self
   simp[this]
theorem l5 {kindOf:Str->Option NameKind}{x:Str}{v:Value}:∀ {P:List Str}{vs:List Value}{i:Nat}{m:Str->Option Value},P.Nodup->P[i]? = some x->vs[i]? = some v->kindOf x=some .local ->
  bindL kindOf (P.zip vs) m x=some v
 | [],_,_,_,_,h,_,_=>by simp at h
 | _ :: _,[],_,_,_,_,h,_=>by simp at h
 | p :: P,w :: vs,0,m,nd,h1,h2,hk=>by
  simp at h1 h2;subst h1;subst h2
  show bindL kindOf ((p,w) :: P.zip vs) m p=_
  unfold bindL
  rw[l4 fun v hv=>(nodup_cons.mp nd).1 (of_mem_zip hv).1,if_pos hk]
  simp
 | p :: P,w :: vs,i + 1,m,nd,h1,h2,hk=>by
  show bindL kindOf ((p,w) :: P.zip vs) m x=_
  unfold bindL
  exact l5 (i:=i) (nodup_cons.mp nd).2 (by simpa using h1) (by simpa using h2) hk
theorem lA {kindOf:Str->Option NameKind}{x:Str}{v:Value}:∀ {P:List Str}{vs:List Value}{i:Nat}{m:Str->Option Value},P.Nodup->P[i]? = some x->vs[i]? = some v->kindOf x ≠ some .local ->
  bindC kindOf (P.zip vs) m x=some v
 | [],_,_,_,_,h,_,_=>by simp at h
 | _ :: _,[],_,_,_,_,h,_=>by simp at h
 | p :: P,w :: vs,0,m,nd,h1,h2,hk=>by
  simp at h1 h2;subst h1;subst h2
  show bindC kindOf ((p,w) :: P.zip vs) m p=_
  unfold bindC
  rw[l9 fun v hv=>(nodup_cons.mp nd).1 (of_mem_zip hv).1,if_neg hk]
  simp
 | p :: P,w :: vs,i + 1,m,nd,h1,h2,hk=>by
  show bindC kindOf ((p,w) :: P.zip vs) m x=_
  unfold bindC
  exact lA (i:=i) (nodup_cons.mp nd).2 (by simpa using h1) (by simpa using h2) hk
noncomputable def start (N:List Str)(vs:List V):St:=vs.map some ++ List.replicate (N.length - vs.length) none
noncomputable def qq (CX:rX)(P:Program)(w:World)(K:Frag)(mg:Str->Option Value)(base:Heap)(N:List Str)(qual:Str)(scope:Scope)(f:Addr)(cd:Value)(A:Around)(outer:List Env)(s:Shared)(H:Hp)(E:XK):Cx where
 prog:=P
 w:=w
 K:=K
 mg:=mg
 base:=base
 A:=A.deeper (envOfC qual scope s.heap.objs.size f cd)
 N:=N
 s₀:=s
 H₀:=H
 env:=envOfC qual scope s.heap.objs.size f cd
 outer:=outer
 stack:=envOfC qual scope s.heap.objs.size f cd :: outer
 ex:=[]
 calm:=true
 fn:=fun _=>true
 pn:=[]
 xe:=fun e s'=>wpAny (model P w) (A.deeper (envOfC qual scope s.heap.objs.size f cd)) (leaving (envOfC qual scope s.heap.objs.size f cd) e) (fun _ KI=>CX outer H s E e KI) (fun e' KI=>CX outer H s E e' KI) s'
theorem oF {sc:Scope}{n:Nat}{x:Str}(h:sc.names.lookup x=some .cell):∃ c,(cellsFrom n sc.names []).lookup x=some c:=by
 have q:=PySem.W.cellsFrom_some sc.names n [] (.inl h)
 exact Option.isSome_iff_exists.mp q
theorem sR {CX:rX}{P:Program}{w:World}{K:Frag}{mg:Str->Option Value}{base:Heap}{N ps:List Str}{qual:Str}{scope:Scope}{f:Addr}{cd:Value}{A:Around}{outer:List Env}{s s1:Shared}{H:Hp}{E:XK}{us:List Value}{vs:List V}
  (S:ao N ps scope) (hd:A.handled=none) (e0:DQ P w K mg base A outer s H) (hl:vs.length=ps.length) (r:Vals vs us)
  (x:InCallC s s.heap.objs.size (bindL (envOfC qual scope s.heap.objs.size f cd).kindOf (ps.zip us) fun _=>none) (cellsFrom (s.heap.objs.size + 1) scope.names []) (bindC (envOfC qual scope s.heap.objs.size f cd).kindOf (ps.zip us) fun _=>none) s1) :
  Inv (qq CX P w K mg base N qual scope f cd A outer s H E) [] (start N vs) H s1:=by
 have Be:ps.length <= N.length:=by have:=congrArg List.length S.pre;rw[length_take]at this;omega
 obtain⟨h1,tk,rfl,hk⟩:=x.done
 have KJ:∀ b:Addr,b ∉ (qq CX P w K mg base N qual scope f cd A outer s H E).ex:=fun b z=>absurd (show b ∈ ([]:List Addr) from z) (by simp)
 refine⟨⟨e0.mod,S.kind,rfl,rfl,le_refl _,fun y z c h1 h2=>?_,fun y hy=>?_,fun y c _ h=>?_,fun _=>hd,Around.frames_deeper e0.frames, .inr ⟨rfl,rfl⟩,fun b z=>absurd z (KJ b),e0.bs,e0.FV,fun b _ _=>KJ b,fun b z=>absurd z (KJ b),e0.Cf,e0.Ih⟩,
  rfl,e0.bare,Un.kept hk,⟨_,x.toInCall.ns,fun i y v h1 h2 h3=>?_⟩,fun y c h=>⟨_,x.cell y c h⟩,e0.AD.fresh (le_refl _),fun y c h=>?_,fun p hp=>absurd (show p ∈ ([]:List (Addr × Obj)) from hp) (by simp),e0.AD.kept hk,?_⟩
 ·exact name_of_addr x.apart (PySem.mem_of_lookup h1) (PySem.mem_of_lookup h2)
 ·have hy:scope.names.lookup y=some .cell∨scope.names.lookup y=some .free:=hy
  rcases hy with hy | hy
  ·exact oF hy
  ·exact absurd rfl (S.Io _ (PySem.mem_of_lookup hy))
 ·exact le_of_lt (x.above y c (PySem.mem_of_lookup h))
 ·have hi:i < vs.length:=by
   unfold start at h2
   by_cases hi:i < vs.length
   ·exact hi
   ·rw[getElem?_append_right (by simpa using hi)]at h2
    rw[List.getElem?_replicate]at h2
    split at h2<;>cases h2
  have ha:vs[i]? = some v:=by
   unfold start at h2
   rw[getElem?_append_left (by simpa using hi),getElem?_map]at h2
   cases e:vs[i]? with
   | none=>rw[e]at h2;cases h2
   | some a=>rw[e]at h2;cases h2;rfl
  obtain⟨u,hu,rv⟩:=r.get ha
  have hp:ps[i]? = some y:=by
   rw[← S.pre,List.getElem?_take_of_lt (by omega)];exact h1
  have V9:ps.Nodup:=by rw[← S.pre];exact S.nd.sublist (List.take_sublist _ _)
  refine⟨u,rv,?_⟩
  rcases S.par y (mem_of_getElem? hp) with k | k
  ·exact .inl ⟨k,l5 V9 hp hu k⟩
  ·obtain⟨c,e⟩:=oF (n:=s.heap.objs.size + 1) k
   refine .inr ⟨.inl k,c,e,?_⟩
   have q:=x.cell y c e
   rw[lA V9 hp hu (by show scope.names.lookup y ≠ _;rw[k];decide)]at q
   exact q
 ·exact e0.AD.fresh (le_of_lt (x.above y c (PySem.mem_of_lookup h)))
 ·unfold start
  show _=N.length
  rw[length_append,length_map,length_replicate]
  omega
theorem ym {CX:rX}{P:Program}{w:World}{K:Frag}{mg:Str->Option Value}{base:Heap}{k:Nat}{f:Addr}{name qual:Str}{params:Arguments}{body:List Stmt}{scope:Scope}{dV kV doc pm cdv ct oc:Value}{an od:Option Addr}
  {Eg:Array (Option Value)} {N ps:List Str} {sp:Sp} (lk:K.lookup f=some ⟨oc,od, .func (fnOf name qual params body scope dV kV doc pm an cdv ct),Eg⟩) (DE:codeIn K cdv qual=true) (S:ao N ps scope)
  (len:∀ vs H Q E,sp vs H Q E->vs.length=ps.length)
  (Dr:∀ (A:Around)(outer:List Env)(s:Shared)(H:Hp)(vs:List V)(Q:VK)(E:XK),Ax k (A.deeper (envOfC qual scope s.heap.objs.size f cdv))->sp vs H Q E ->
   ∃ t,Ee (qq CX P w K mg base N qual scope f cdv A outer s H E) body t/\t { nx:=fun _ H'=>Q .AG H',rt:=Q } (start N vs) H) :
  Ao P w K mg base CX (k + 1) f (fnOf name qual params body scope dV kV doc pm an cdv ct) ps sp:=by
 refine⟨len,fun A outer s H args us vs Q E hr e0 hb r FE=>?_⟩
 have hl:=len _ _ _ _ FE
 have KX:K.In s.heap:=e0.mod.ED.keeps fun b o e=>(e0.bs b o e).1
 have lim:s.heap.NoLimit:=e0.mod.nolimit.keeps fun b o e=>(e0.bs b o e).1
 have KL:∀ y ∈ ps.zip us,scope.names.lookup y.1=some .local∨(scope.names.lookup y.1=some .cell/\((cellsFrom (s.heap.objs.size + 1) scope.names []).lookup y.1).isSome=true):=fun⟨n,v⟩ hy=>by
  rcases S.par n (of_mem_zip hy).1 with q | q
  ·exact .inl q
  ·exact .inr ⟨q,PySem.W.cellsFrom_some _ _ _ (.inl q)⟩
 refine codeAny_call_function hr.depth (KX _ _ lk) rfl S.co S.gen rfl (PySem.W.codeRec_of KX DE) (hb _ _ _ _ ?_)
 refine wpAny_newFunctionEnv_cells S.kind KL fun env he s1 x=>?_
 subst he
 refine⟨lim.keeps x.toInCall.keep,codeAny_func ?_⟩
 obtain⟨t,ht,hq⟩:=Dr A outer s H vs Q E (hr.deeper _) FE
 have I:Inv (qq CX P w K mg base N qual scope f cdv A outer s H E) [] (start N vs) H s1:=sR S hr.hd e0 hl r x
 refine wpAny_mono (ht [] s1 (start N vs) H _ I hq) (fun fl s' hs=>?_) fun e s' hs=>hs
 have fin:∀ {σ':St}{H':Hp}{v:V}{u:Value},Inv (qq CX P w K mg base N qual scope f cdv A outer s H E) [] σ' H' s'->RelV v u->Q v H'->CE outer P w H s Q u s' :=
  fun {σ' H' v u} J rv q=>⟨v,H',J.os,J.bare,J.base,J.AD,rv,q⟩
 cases fl with
 | ret u =>
  obtain⟨v,σ',H',J,rv,q⟩:=hs
  exact fin J rv q
 | next =>
  obtain⟨σ',H',J,q⟩:=hs
  exact fin (v:=V.AG) (u:=Value.none) J rfl q
 | brk =>
  obtain⟨_,_,_,q⟩:=hs
  exact False.elim q
 | cont =>
  obtain⟨_,_,_,q⟩:=hs
  exact False.elim q
section
variable {X:Cx}{x:Str}{p pos:Pos}{e:Expr}{es:List Expr}{t:TA}{id T:String}{r:List V->Hp->VK->Prop}
noncomputable def VA (r:List V->Hp->VK->Prop)(t:TA):TE:=fun σ H Q=>t σ H fun vs H1=>r vs H1 Q
theorem az (hc:AS X (.builtin id) r)(hg:Gl X x)(hm:X.mg x=none)(hv:bootBuiltins x=some (.builtin id))(ha:PA X (e :: es) t)(hn:autoParam (x ≠ "__name__") θ)(Im:autoParam ((x == ("__debug__":Str))=false) θ)
  (he:autoParam (starEach (e :: es) X.env=(false,eval e X.env) :: starEach es X.env) η) (Be:autoParam ((backTo pos (starEach es X.env)).any (·.1)=false) η):PE X (.Call (.Name x p) (e :: es) [] pos) (VA r t):=by
 intro pins s σ H Q I h
 refine wpAny_Call_Name_kw (iK I hg hm hv ?_ hn Im)
 exact PyProof.Rows.callWith_builtin1 (bD (ha pos pins s σ H _ I h) fun us s1 Au=>by obtain⟨vs,H1,I1,r1,q1⟩:=Au;exact hc pins s1 σ H1 vs us Q I1 r1 q1) he Be
theorem aY (hc:AS X (.type T) r)(hg:Gl X x)(hm:X.mg x=none)(hv:bootBuiltins x=some (.type T))(ha:PA X (e :: es) t)(hn:autoParam (x ≠ "__name__") θ)(Im:autoParam ((x == ("__debug__":Str))=false) θ)
  (he:autoParam (starEach (e :: es) X.env=(false,eval e X.env) :: starEach es X.env) η) (Be:autoParam ((backTo pos (starEach es X.env)).any (·.1)=false) η):PE X (.Call (.Name x p) (e :: es) [] pos) (VA r t):=by
 intro pins s σ H Q I h
 refine wpAny_Call_Name_kw (iK I hg hm hv ?_ hn Im)
 exact PyProof.Rows.callWith_type1 (bD (ha pos pins s σ H _ I h) fun us s1 Au=>by obtain⟨vs,H1,I1,r1,q1⟩:=Au;exact hc pins s1 σ H1 vs us Q I1 r1 q1) he Be
end
end L2
namespace HT
open PySem PyProof.Rows
section
open PySem.SeqAt
open PySem.AutoSeq1 (wpAny_loadPart')
open PySem.MeetsSeq PySem.MeetsSeq2 PySem.MeetsSeq3
end
section
variable {prog:Program}{w:World}{A:Around}{E:Value->Shared->Prop}{s:Shared}
theorem FX {t b:Addr}{vs ws:List Value}{Q:Value->Shared->Prop}(ht:IsTup s.heap t vs.toArray)(hb:IsTup s.heap b ws.toArray)(hv:vs ≠ [])
  (h1:ws=[]->Q (.ref t) s) (h2:ws ≠ []->Q (.ref s.heap.objs.size) { s with heap:=s.heap.push { cls := .type "tuple",data := .seq (vs ++ ws).toArray } })
  (hsz:vs.length + ws.length <= sizeLine):wpAny (model prog w) A (binaryOp .Add (.ref t) (.ref b)) Q E s:=by
 obtain⟨⟨cls,dd,data,sl⟩,ho,hc,n,hd⟩:=id ht
 obtain⟨⟨Qx,Oz,data2,O0⟩,B9,Ds,n2,hd2⟩:=id hb
 simp only at hc hd Ds hd2
 subst hc hd Ds hd2
 have e:vs.toArray ++ ws.toArray=(vs ++ ws).toArray:=by simp
 by_cases hw:ws=[]
 ·exact concat_meets ⟨_,ho,rfl⟩ ⟨_,B9,rfl⟩ noFill_tuple_add seq_tuple_add slot_tuple_add entry_tuple_add (args_tuple_add_2 _ _)
   (tuple_addW1 t b vs.toArray ws.toArray n n2 dd Oz sl O0 (by simpa using hv) (by simp[hw])) ⟨ho,B9,h1 hw⟩
 ·refine concat_meets ⟨_,ho,rfl⟩ ⟨_,B9,rfl⟩ noFill_tuple_add seq_tuple_add slot_tuple_add entry_tuple_add (args_tuple_add_2 _ _)
   (tuple_addW2 t b vs.toArray ws.toArray n n2 dd Oz sl O0 (by simpa using hv) (by simpa using hw) (by rw[size_toArray,size_toArray];exact hsz)) ⟨ho,B9,?_⟩
  rw[e]
  exact h2 hw
noncomputable def BK (n d:Nat):Option Int->Nat
 | none=>d
 | some v=>if v < 0 then (v + (n:Int)).toNat else min v.toNat n
theorem Dt (n d:Nat):BK n d none=d:=rfl
theorem BN (n d k:Nat):BK n d (some (k:Int))=min k n:=by
 show(if (k:Int) < 0 then ((k:Int) + (n:Int)).toNat else min (k:Int).toNat n)=min k n
 rw[if_neg (by omega),toNat_natCast]
end
end HT
namespace L2
open PySem PySem.Spec PyProof.Rows
abbrev TO:=St->Hp->(Option Int->Hp->Prop)->Prop
noncomputable def PO (X:Cx)(e:Option Expr)(t:TO):Prop :=
 ∀ (pins:List (Addr × Obj))(s:Shared)(σ:St)(H:Hp)(Q:Option Int->Hp->Prop),Inv X pins σ H s->t σ H Q ->
  wpAny (model X.prog X.w) X.A (evalPart e X.env) (fun u s'=>∃ o H',Inv X pins σ H' s'/\IsPart u o/\Q o H') X.xe s
noncomputable def wo:TO:=fun _ H Q=>Q none H
noncomputable def KN (t:TE):TO:=fun σ H Q=>t σ H fun x H1=>∃ i,x = .int i/\Q (some i) H1
theorem qk {ns:List Int}:∀ {us:List Value},Vals (ns.map V.int) us->IntsAre us ns:=by
 induction ns with
 | nil=>intro us r;rw[map_nil]at r;cases r;exact .nil
 | cons n ns ih =>
  intro us r
  rw[map_cons]at r
  cases r with
  | cons r1 r2 =>
   obtain⟨t,e⟩:=r1
   subst e
   exact .cons n t (ih r2)
section
variable {X:Cx}{e:Expr}{te:TE}{lo hi:Option Expr}{tl th:TO}{pos p2:Pos}
theorem dD:PO X none wo:=by
 intro pins s σ H Q I h
 rw[evalPart_none]
 exact wpAny_pure ⟨none,H,I, .none,h⟩
theorem c6 (h:PE X e te):PO X (some e) (KN te):=by
 intro pins s σ H Q I hw
 rw[evalPart_some]
 refine bD (h pins s σ H _ I hw) fun u s1 Au=>?_
 obtain⟨x,H1,I1,r1,q1⟩:=Au
 obtain⟨i,rfl,q⟩:=q1
 obtain⟨t,rfl⟩:=r1
 exact⟨some i,H1,I1, .int i t,q⟩
noncomputable def O1 (X:Cx)(r:V->Option Int->Option Int->Hp->VK->Prop):Prop :=
 ∀ (pins:List (Addr × Obj))(s:Shared)(σ:St)(H:Hp)(x:V)(v vl vu:Value)(lo hi:Option Int)(sl:Addr)(Q:VK),Inv X pins σ H s->RelV x v->s.heap.IsSliceOf sl vl vu .none->IsPart vl lo->IsPart vu hi->r x lo hi H Q ->
  ∃ T id,typeLookup (.type T) "__getitem__" = pure (some (.builtin id))/\s.TypeIs v T/\wpAny (model X.prog X.w) X.A (getItem v (.ref sl)) (EP X pins σ Q) X.xe s
noncomputable def tSl (r:V->Option Int->Option Int->Hp->VK->Prop)(te:TE)(tl th:TO):TE:=fun σ H Q=>te σ H fun x H1=>tl σ H1 fun l H2=>th σ H2 fun u H3=>r x l u H3 Q
theorem cx {r:V->Option Int->Option Int->Hp->VK->Prop}(hr:O1 X r)(he:PE X e te)(hl:PO X lo tl)(hu:PO X hi th):PE X (.Subscript e (.Slice lo hi none p2) pos) (tSl r te tl th):=by
 intro pins s σ H Q I h
 refine Subscript_ (bD (he pins s σ H _ I h) fun v s1 Au=>?_)
 obtain⟨x,H1,I1,r1,q1⟩:=Au
 refine wpAny_Slice (bD (hl pins s1 σ H1 _ I1 q1) fun vl s2 ⟨l,H2,I2,pl,q2⟩=>bD (hu pins s2 σ H2 _ I2 q2) fun vu s3 Au=>?_)
 obtain⟨u,H3,I3,pu,q3⟩:=Au
 rw[evalPart_none]
 refine wpAny_pure ?_
 have I4:Inv X pins σ H3 { s3 with heap:=s3.heap.push { cls := .type "slice",data := .fields #[vl,vu, .none] } }:=I3.kept (t':=s3.toks) fun b ob q=>Heap.get?_push_of_some _ q
 obtain⟨T,id,hT,ht,hg⟩:=hr pins { s3 with heap:=s3.heap.push { cls := .type "slice",data := .fields #[vl,vu, .none] } } σ H3 x v vl vu l u s3.heap.objs.size Q I4 r1 (Heap.IsSliceOf.new ..) pl pu q3
 show wpAny (model X.prog X.w) X.A (subscriptTail e (.Slice lo hi none p2) v (.ref s3.heap.objs.size)) (EP X pins σ Q) X.xe { s3 with heap:=s3.heap.push { cls := .type "slice",data := .fields #[vl,vu, .none] } }
 exact tail_any (ops:=[.ref s3.heap.objs.size,v]) ht hT hg (by with_unfolding_all rfl)
noncomputable def eA (xs:List V)(lo hi:Option Int):List V:=(xs.drop (HT.BK xs.length 0 lo)).take (HT.BK xs.length xs.length hi - HT.BK xs.length 0 lo)
theorem ow (xs:List V)(lo hi:Option Int):(eA xs lo hi).length <= xs.length:=by
 unfold eA
 rw[length_take,List.length_drop]
 omega
noncomputable def KO (K:Frag):R2:=fun x y H Q=>∃ a b xs ys,x = .ref a/\y = .ref b/\Ay K H a xs/\Ay K H b ys/\xs ≠ []/\xs.length + ys.length <= sizeLine /\
 (ys=[]->Q (.ref a) H)/\(ys ≠ []->∀ p,H p=none->Q (.ref p) (upd H p (.tup (xs ++ ys))))
theorem Vals.Ci {xs:List V}{us:List Value}(r:Vals xs us):us=[]↔xs=[]:=by
 cases r with
 | nil=>simp
 | cons _ _=>simp
theorem qX:eD X (binaryOp .Add) (KO X.K):=by
 intro pins s σ H x y v u Q I rx ry h
 obtain⟨a,b,xs,ys,rfl,rfl,ha,hb,hx,hz,q1,q2⟩:=h
 cases rx
 cases ry
 obtain⟨As,r1,p1,_⟩:=I.tuple ha
 obtain⟨C8,r2,p2,_⟩:=I.tuple hb
 refine HT.FX p1 p2 (fun z=>hx (r1.Ci.mp z)) (fun z=>⟨.ref a,H,I,rfl,q1 (r2.Ci.mp z)⟩) (fun z=>?_) (by rw[← r1.length,← r2.length];exact hz)
 refine⟨.ref s.heap.objs.size,_,I.laid (t':=s.toks) (o := .tup (xs ++ ys)) (fun b ob q=>Heap.get?_push_of_some _ q) (le_refl _) ?_,rfl,q2 (fun w=>z (r2.Ci.mpr w)) _ (I.AD.fresh (le_refl _))⟩
 exact⟨by rw[length_append];exact hz,_,r1.append r2,B1.new _ _⟩
end
noncomputable def v6 (n:Nat)(i:Int):Option Nat:=if 0 <= i then (if i < n then some i.toNat else none) else if -(n:Int) <= i then some (i + n).toNat else none
noncomputable def vR {α:Type}(xs:List α)(i:Int):Option α:=(v6 xs.length i).bind fun j=>xs[j]?
theorem rA {n:Nat}{i:Int}{j:Nat}(h:v6 n i=some j):seqIndex? i n=some j/\j < n/\-(n:Int) <= i/\i < n:=by
 unfold v6 at h
 by_cases h0:0 <= i
 ·rw[if_pos h0]at h
  by_cases h1:i < n
  ·rw[if_pos h1]at h
   have e:i.toNat=j:=Option.some.inj h
   exact⟨by rw[seqIndex_of h0 h1,e],by omega,by omega,h1⟩
  ·rw[if_neg h1]at h;cases h
 ·rw[if_neg h0]at h
  by_cases h1:-(n:Int) <= i
  ·rw[if_pos h1]at h
   have e:(i + n).toNat=j:=Option.some.inj h
   exact⟨by rw[seqIndex_neg (by omega) h1,e],by omega,h1,by omega⟩
  ·rw[if_neg h1]at h;cases h
theorem rQ {α:Type}{xs:List α}{i:Int}{v:α}(h:vR xs i=some v):∃ j,seqIndex? i xs.length=some j/\xs[j]? = some v/\j < xs.length/\-(xs.length:Int) <= i/\i < xs.length:=by
 unfold vR at h
 cases e:v6 xs.length i with
 | none=>rw[e]at h;cases h
 | some j =>
  rw[e]at h
  obtain⟨h1,h2,h3,h4⟩:=rA e
  exact⟨j,h1,h,h2,h3,h4⟩
theorem ak {α:Type}{xs:List α}{j:Nat}{v:α}(h:xs[j]? = some v):vR xs (j:Int)=some v:=by
 have hj:j < xs.length:=(gQ0 h)
 have e:v6 xs.length (j:Int)=some j:=by
  unfold v6
  rw[if_pos (by omega),if_pos (by omega)];simp
 unfold vR;rw[e];exact h
theorem vQ {α:Type}(xs:List α)(v:α):vR (xs ++ [v]) (-1)=some v:=by
 have hl:(xs ++ [v]).length=xs.length + 1:=by simp
 have e:v6 (xs ++ [v]).length (-1)=some xs.length:=by
  unfold v6
  rw[hl,if_neg (by decide),if_pos (by omega)]
  congr 1
  omega
 unfold vR
 rw[e]
 show(xs ++ [v])[xs.length]? = some v
 simp
noncomputable def xL (b:Expr):Prop:=∀ o i,subscripted b false o i=operate [o,i] (getItem o i)
noncomputable def kE (X:Cx)(r:R2):Prop :=
 ∀ (value slice:Expr)(pins:List (Addr × Obj))(s:Shared)(σ:St)(H:Hp)(x y:V)(v u:Value)(Q:VK),Inv X pins σ H s->RelV x v->RelV y u->r x y H Q ->
  subscripted slice false v u=operate [v,u] (getItem v u)->wpAny (model X.prog X.w) X.A (subscriptTail value slice v u) (EP X pins σ Q) X.xe s
noncomputable def O2 (X:Cx)(id:String)(r:V->List V->Hp->VK->Prop):Prop :=
 ∀ (pins:List (Addr × Obj))(s:Shared)(σ:St)(H:Hp)(x:V)(xs:List V)(v:Value)(us:List Value)(Q:VK),Inv X pins σ H s->RelV x v->Vals xs us->r x xs H Q ->
  wpAny (model X.prog X.w) X.A (call (.builtin id) (v :: us)) (EP X pins σ Q) X.xe s
section
variable {X:Cx}{a b:Expr}{ta tb:TE}{pos:Pos}
theorem ax {r:R2}(hr:kE X r)(ha:PE X a ta)(hb:PE X b tb)(hs:xL b):PE X (.Subscript a b pos) (Oy r ta tb):=by
 intro pins s σ H Q I h
 exact Subscript_ (Ac ha hb I h fun v u s2 x y H2 I2 rx ry q=>hr a b pins s2 σ H2 x y v u Q I2 rx ry q (hs _ _))
noncomputable def lY (K:Frag):R2:=fun x y H Q=>∃ p xs i v,x = .ref p/\y = .int i/\Ap K H p xs/\vR xs i=some v/\Q v H
noncomputable def iC (K:Frag):R2:=fun x y H Q=>∃ p xs i v,x = .ref p/\y = .int i/\Ay K H p xs/\vR xs i=some v/\Q v H
theorem aJ:kE X (lY X.K):=by
 intro value slice pins s σ H x y v u Q I rx ry h hs
 obtain⟨p,xs,i,z,rfl,rfl,hq,he,q⟩:=h
 cases rx
 obtain⟨t,rfl⟩:=ry
 obtain⟨As,r,pl,hz⟩:=I.list hq
 obtain⟨j,h1,h2,h3,h4,h5⟩:=rQ he
 obtain⟨w,ew,FY⟩:=r.get h2
 have hl:=r.length
 have hn:=iJ
 have fin:EP X pins σ Q w s:=⟨z,H,I,FY,q⟩
 by_cases h0:0 <= i
 ·have hj:i.toNat=j:=by
   rw[seqIndex_of h0 h5]at h1
   exact Option.some.inj h1
  exact item_listR pl.isList h0 (by omega) (by rw[hj];simpa using ew) fin hs
 ·have hj:(i + (As.toArray.size:Int)).toNat=j:=by
   rw[seqIndex_neg (by omega) h4]at h1
   rw[size_toArray,← hl]
   exact Option.some.inj h1
  exact subscriptTail_builtinR (x:=w) pl.isList.typeIs slot_list_getitem.lookup
   (wpAny_getItem_list_neg (Q:=fun r s'=>r=w/\EP X pins σ Q r s') pl.isList (by omega) (by rw[size_toArray]<;>omega) (by omega) (by rw[hj];simpa using ew) ⟨rfl,fin⟩) hs
theorem aF:kE X (iC X.K):=by
 intro value slice pins s σ H x y v u Q I rx ry h hs
 obtain⟨p,xs,i,z,rfl,rfl,hq,he,q⟩:=h
 cases rx
 obtain⟨t,rfl⟩:=ry
 obtain⟨As,r,pl,hz⟩:=I.tuple hq
 obtain⟨j,h1,h2,h3,h4,h5⟩:=rQ he
 obtain⟨w,ew,FY⟩:=r.get h2
 have hl:=r.length
 have hn:=iJ
 have fin:EP X pins σ Q w s:=⟨z,H,I,FY,q⟩
 exact subscriptTail_builtinR (x:=w) pl.typeIs slot_tuple_getitem.lookup
  (getItem_tuple (j:=j) (Q:=fun r s'=>r=w/\EP X pins σ Q r s') pl (by omega) (by omega) (by rw[size_toArray,← hl];exact h1) (by simpa using ew) ⟨rfl,fin⟩) hs
theorem qc (As:List Value)(n j:Nat)(u:Value):Obj.mapSeq (·.setIfInBounds j u) { cls := .type "list",data := .seq As.toArray n } = { cls := .type "list",data := .seq (As.set j u).toArray n }:=by
 simp[Obj.mapSeq]
theorem Inv.lst {pins:List (Addr × Obj)}{σ:St}{H:Hp}{s:Shared}{p:Addr}{xs:List V}(I:Inv X pins σ H s)(h:H p=some (.lst xs)) :
  ∃ (As:List Value)(n:Nat),Vals xs As/\s.heap.get? p=some { cls := .type "list",data := .seq As.toArray n }/\xs.length <= sizeLine:=by
 obtain⟨z,As,n,r,e⟩:=I.AD p _ h
 exact⟨As,n,r,e,z⟩
theorem Inv.Ip {pins:List (Addr × Obj)}{σ:St}{H:Hp}{s:Shared}{p:Addr}{xs ys:List V}{As its':List Value}{n n':Nat}{f:Obj->Obj}(I:Inv X pins σ H s)(h:H p=some (.lst xs))
  (ho:s.heap.get? p=some { cls := .type "list",data := .seq As.toArray n }) (hf:f { cls := .type "list",data := .seq As.toArray n } = { cls := .type "list",data := .seq its'.toArray n' }) (r:Vals ys its') (hz:ys.length <= sizeLine) (t:Nat) :
  Inv X pins σ (upd H p (.lst ys)) { s with heap:=s.heap.update p f,toks:=t }:=by
 have e:(s.heap.update p f).get? p=some { cls := .type "list",data := .seq its'.toArray n' }:=by
  rw[Heap.get?_update_self f ho (by rw[hf]<;>rfl),hf]
 refine I.write (x:=p) (e:=p) (by rw[h];trivial) (.inl rfl) (fun b u hb q=>(Heap.get?_update_other _ _ (Ne.symm hb)).trans q) ⟨_,e⟩ ?_
 exact⟨hz,its',n',r,e⟩
noncomputable def KP:V->V->V->Hp->(Hp->Prop)->Prop:=fun o i v H Q=>∃ p xs k j,o = .ref p/\i = .int k/\H p=some (.lst xs)/\v6 xs.length k=some j/\Q (upd H p (.lst (xs.set j v)))
theorem j9:Kz X KP:=by
 intro pins s σ H o i v ov iv u Q I ro ri rv h
 obtain⟨p,xs,k,j,rfl,rfl,hp,hj,q⟩:=h
 cases ro
 obtain⟨t,rfl⟩:=ri
 obtain⟨As,n,r,ho,hz⟩:=I.lst hp
 obtain⟨h1,h2,h3,h4⟩:=rA hj
 have hl:=r.length
 have hn:=iJ
 have I':Inv X pins σ (upd H p (.lst (xs.set j v))) { s with heap:=s.heap.update p (Obj.mapSeq (·.setIfInBounds j u)) } :=
  I.Ip hp ho (qc As n j u) (r.set rv j) (by rw[length_set];exact hz) s.toks
 by_cases h0:0 <= k
 ·have hk:k.toNat=j:=by
   rw[seqIndex_of h0 h4]at h1
   exact Option.some.inj h1
  exact PySem.W.ki_setAt ho h0 (by omega) (by rw[size_toArray,← hl];exact h4) (by rw[hk];exact⟨_,I',q⟩)
 ·have hk:(k + (As.toArray.size:Int)).toNat=j:=by
   rw[seqIndex_neg (by omega) h3]at h1
   rw[size_toArray,← hl]
   exact Option.some.inj h1
  exact PySem.W.ki_setBack ho (by omega) (by rw[size_toArray,← hl];exact h3) (by omega) (by rw[hk];exact⟨_,I',q⟩)
theorem lQ (lo hi:Option Int)(n:Nat):(sliceBounds lo hi none n).1=((HT.BK n 0 lo:Nat):Int)/\(sliceBounds lo hi none n).2.1=((HT.BK n n hi:Nat):Int)/\(sliceBounds lo hi none n).2.2=1:=by
 refine⟨?_,?_,rfl⟩
 ·cases lo with
  | none=>simp[sliceBounds,HT.BK]
  | some i =>
   simp only[sliceBounds,HT.BK,Option.getD_none,show (1:Int) > 0 by decide,if_true]
   by_cases h:i < 0
   ·simp only[h,if_true]<;>omega
   ·simp only[h,if_false]<;>omega
 ·cases hi with
  | none=>simp[sliceBounds,HT.BK]
  | some i =>
   simp only[sliceBounds,HT.BK,Option.getD_none,show (1:Int) > 0 by decide,if_true]
   by_cases h:i < 0
   ·simp only[h,if_true]<;>omega
   ·simp only[h,if_false]<;>omega
theorem kI (As:List Value)(lo hi:Option Int):slicePick As.toArray lo hi none=((As.drop (HT.BK As.length 0 lo)).take (HT.BK As.length As.length hi - HT.BK As.length 0 lo)).toArray:=by
 obtain⟨h1,h2,h3⟩:=lQ lo hi As.toArray.size
 unfold slicePick
 rw[h1,h2,h3]
 simp only[sliceRange_one,pick_run,size_toArray]<;>rfl
noncomputable def KQ (K:Frag):V->Option Int->Option Int->Hp->VK->Prop:=fun x lo hi H Q=>∃ a xs,x = .ref a/\Ap K H a xs/\∀ p,H p=none->Q (.ref p) (upd H p (.lst (eA xs lo hi)))
theorem dB:O1 X (KQ X.K):=by
 intro pins s σ H x v vl vu lo hi sl Q I rx hs pl pu h
 obtain⟨a,xs,rfl,hx,q⟩:=h
 cases rx
 obtain⟨As,r,ht,hz⟩:=I.list hx
 have hlen:=r.length
 refine⟨"list",_,slot_list_getitem.lookup,ht.isList.typeIs,?_⟩
 refine wpAny_getItem_list_slice ht.isList hs pl pu .none (by simp) ?_ (by rw[size_toArray]<;>omega)
 rw[kI,← hlen]
 refine⟨.ref s.heap.objs.size,_,I.laid (t':=s.toks) (o := .lst (eA xs lo hi)) (fun b ob q=>Heap.get?_push_of_some _ q) (le_refl _) ?_,rfl,q _ (I.AD.fresh (le_refl _))⟩
 exact⟨le_trans (ow xs lo hi) hz,_,0,(r.drop (HT.BK xs.length 0 lo)).take (HT.BK xs.length xs.length hi - HT.BK xs.length 0 lo),Heap.get?_push_size _ rfl⟩
noncomputable def iw:V->Bool
 | .AG=>true
 | .bl _=>true
 | .int _=>true
 | .str _=>true
 | _=>false
noncomputable def yn:V->V->Bool
 | .AG, .AG=>true
 | .bl a, .bl b=>a == b
 | .bl a, .int b=>(if a then 1 else 0) == b
 | .int a, .bl b=>a == (if b then 1 else 0)
 | .int a, .int b=>a == b
 | .str a, .str b=>a == b
 | _,_=>false
theorem zV {A:Around}{s:Shared}{y x:V}{u v:Value}(ry:RelV y u)(rx:RelV x v)(fy:iw y=true)(fx:iw x=true):SeqAt.EqAt A s u v (yn y x):=by
 cases y with
 | AG =>
  cases ry
  cases x with
  | AG=>cases rx;exact SeqAt.EqAt.same _
  | bl b=>cases rx;exact SeqAt.EqAt.none_bool b
  | int b=>obtain⟨t,rfl⟩:=rx;exact SeqAt.EqAt.none_int b t
  | str b=>obtain⟨t,rfl⟩:=rx;exact SeqAt.EqAt.none_str b t
  | _=>exact absurd (show false=true from fx) Bool.false_ne_true
 | bl a =>
  cases ry
  cases x with
  | AG=>cases rx;exact SeqAt.EqAt.bool_none a
  | bl b=>cases rx;exact SeqAt.EqAt.bool_bool a b
  | int b=>obtain⟨t,rfl⟩:=rx;exact SeqAt.EqAt.bool_int a b t
  | str b=>obtain⟨t,rfl⟩:=rx;exact SeqAt.EqAt.bool_str a b t
  | _=>exact absurd (show false=true from fx) Bool.false_ne_true
 | int a =>
  obtain⟨t',rfl⟩:=ry
  cases x with
  | AG=>cases rx;exact SeqAt.EqAt.int_none a t'
  | bl b=>cases rx;exact SeqAt.EqAt.int_bool a t' b
  | int b=>obtain⟨t,rfl⟩:=rx;exact SeqAt.EqAt.int_int a t' b t
  | str b=>obtain⟨t,rfl⟩:=rx;exact SeqAt.EqAt.int_str a t' b t
  | _=>exact absurd (show false=true from fx) Bool.false_ne_true
 | str a =>
  obtain⟨t',rfl⟩:=ry
  cases x with
  | AG=>cases rx;exact SeqAt.EqAt.str_none a t'
  | bl b=>cases rx;exact SeqAt.EqAt.str_bool a t' b
  | int b=>obtain⟨t,rfl⟩:=rx;exact SeqAt.EqAt.str_int a t' b t
  | str b=>obtain⟨t,rfl⟩:=rx;exact SeqAt.EqAt.str_str a t' b t
  | _=>exact absurd (show false=true from fx) Bool.false_ne_true
 | _=>exact absurd (show false=true from fy) Bool.false_ne_true
noncomputable def qo (x:V)(u:Value):Bool:=match u with
 | .none=>yn .AG x
 | .bool b=>yn (.bl b) x
 | .int i _=>yn (.int i) x
 | .str z _=>yn (.str z) x
 | _=>false
theorem vE {x y:V}{u:Value}(r:RelV y u)(f:iw y=true):qo x u=yn y x:=by
 cases y with
 | AG=>cases r;rfl
 | bl b=>cases r;rfl
 | int i=>obtain⟨t,rfl⟩:=r;rfl
 | str z=>obtain⟨t,rfl⟩:=r;rfl
 | _=>exact absurd (show false=true from f) Bool.false_ne_true
theorem i6 {x:V}:∀ {xs:List V}{us:List Value},Vals xs us->xs.all iw=true->us.any (qo x)=xs.any fun y=>yn y x
 | _,_, .nil,_=>rfl
 | y :: xs,u :: us, .cons r t,f=>by
  rw[all_cons,Bool.and_eq_true]at f
  rw[any_cons,any_cons,vE r f.1,i6 t f.2]
theorem fM {A:Around}{s:Shared}{x:V}{v:Value}(rx:RelV x v)(fx:iw x=true):∀ {xs:List V}{us:List Value},Vals xs us->xs.all iw=true->∀ u ∈ us,SeqAt.EqAt A s u v (qo x u)
 | _,_, .nil,_=>fun u hu=>by cases hu
 | y :: xs,u :: us, .cons r t,f=>fun u' hu=>by
  rw[all_cons,Bool.and_eq_true]at f
  rcases mem_cons.mp hu with rfl | hu
  ·rw[vE r f.1];exact zV r rx f.1 fx
  ·exact fM rx fx t f.2 u' hu
noncomputable def JH (x:V)(xs:List V):Bool:=xs.any fun y=>yn y x
noncomputable def Qy (K:Frag)(neg:Bool):R2:=fun x y H Q=>∃ p xs,y = .ref p/\(Ap K H p xs∨Ay K H p xs)/\iw x=true/\xs.all iw=true/\Q (.bl (if neg then !JH x xs else JH x xs)) H
theorem sw:eD X (compareOp .In) (Qy X.K false):=by
 intro pins s σ H x y v u Q I rx ry h
 obtain⟨p,xs,rfl,hq,fx,fs,q⟩:=h
 cases ry
 rcases hq with hq | hq
 ·obtain⟨As,r,pl,hz⟩:=I.list hq
  refine SeqAt.in_listAt (qo x) pl.isList (fun w hw=>fM rx fx r fs w (by simpa using hw)) ⟨.bl _,H,I,rfl,?_⟩
  rw[show As.toArray.any (qo x)=As.any (qo x) by simp,i6 r fs]
  exact q
 ·obtain⟨As,r,pl,hz⟩:=I.tuple hq
  refine SeqAt.in_tupleAt (qo x) pl (fun w hw=>fM rx fx r fs w (by simpa using hw)) ⟨.bl _,H,I,rfl,?_⟩
  rw[show As.toArray.any (qo x)=As.any (qo x) by simp,i6 r fs]
  exact q
theorem mz:eD X (compareOp .NotIn) (Qy X.K true):=by
 intro pins s σ H x y v u Q I rx ry h
 obtain⟨p,xs,rfl,hq,fx,fs,q⟩:=h
 cases ry
 rcases hq with hq | hq
 ·obtain⟨As,r,pl,hz⟩:=I.list hq
  refine SeqAt.notIn_listAt (qo x) pl.isList (fun w hw=>fM rx fx r fs w (by simpa using hw)) ⟨.bl _,H,I,rfl,?_⟩
  rw[show As.toArray.any (qo x)=As.any (qo x) by simp,i6 r fs]
  exact q
 ·obtain⟨As,r,pl,hz⟩:=I.tuple hq
  refine SeqAt.notIn_tupleAt (qo x) pl (fun w hw=>fM rx fx r fs w (by simpa using hw)) ⟨.bl _,H,I,rfl,?_⟩
  rw[show As.toArray.any (qo x)=As.any (qo x) by simp,i6 r fs]
  exact q
theorem ay:AS X (.builtin "len") (fun xs H Q=>∃ p ys,xs=[.ref p]/\(Ap X.K H p ys∨Ay X.K H p ys)/\Q (.int ys.length) H):=by
 intro pins s σ H xs us Q I r h
 obtain⟨p,ys,rfl,hq,q⟩:=h
 obtain⟨u,rfl,rx⟩:=gk r
 cases rx
 have hn:=iJ
 rcases hq with hq | hq
 ·obtain⟨As,r',pl,hz⟩:=I.list hq
  have hlen:=r'.length
  exact Calls.call_len_list pl.isList (by simp only[size_toArray]<;>omega) ⟨.int ys.length,H,I.tok _,⟨s.toks + 1,by rw[size_toArray,hlen]⟩,q⟩
 ·obtain⟨As,r',pl,hz⟩:=I.tuple hq
  have hlen:=r'.length
  exact len_tuple pl (by simp only[size_toArray]<;>omega) ⟨.int ys.length,H,I.tok _,⟨s.toks + 1,by rw[size_toArray,hlen]⟩,q⟩
theorem mS:AS X (.builtin "len") (fun xs H Q=>∃ z,xs=[.str z]/\z.length <= sizeLine/\Q (.int z.length) H):=by
 intro pins s σ H xs us Q I r h
 obtain⟨z,rfl,hz,q⟩:=h
 obtain⟨u,rfl,t,rfl⟩:=gk r
 have hn:=iJ
 exact len_str (by omega) ⟨.int z.length,H,I.tok _,⟨_,rfl⟩,q⟩
theorem AS.or {f:Value}{r r':List V->Hp->VK->Prop}(h:AS X f r)(h':AS X f r'):AS X f (fun xs H Q=>r xs H Q∨r' xs H Q):=by
 intro pins s σ H xs us Q I rs q
 rcases q with q | q
 ·exact h pins s σ H xs us Q I rs q
 ·exact h' pins s σ H xs us Q I rs q
theorem bL:AS X (.type "list") (fun xs H Q=>∃ p ys,xs=[.ref p]/\(Ap X.K H p ys∨Ay X.K H p ys)/\∀ l,H l=none->Q (.ref l) (upd H l (.lst ys))):=by
 intro pins s σ H xs us Q I r h
 obtain⟨p,ys,rfl,hq,q⟩:=h
 obtain⟨u,rfl,rx⟩:=gk r
 cases rx
 have fin:∀ (As:List Value),Vals ys As->ys.length <= sizeLine->∀ (h':Heap)(c':Nat),(∀ b o',s.heap.get? b=some o'->h'.get? b=some o') ->
   h'.get? s.heap.objs.size=some { cls := .type "list",dict:=none,data := .seq As.toArray c',slots:=#[] }->EP X pins σ Q (.ref s.heap.objs.size) { s with heap:=h' }:=fun As r' hz h' c' kp e =>
  ⟨.ref s.heap.objs.size,_,I.laid (t':=s.toks) kp (le_refl _) (show AR X.prog X.w _ h' _ (.lst ys) from ⟨hz,As,c',r',e⟩),rfl,q _ (I.AD.fresh (le_refl _))⟩
 rcases hq with hq | hq
 ·obtain⟨As,r',pl,hz⟩:=I.list hq
  have hlen:=r'.length
  obtain⟨o,ho,hc,n,hd⟩:=pl.isList
  exact call_list_seq p (.inl rfl) ho hc hd (fun h' c' kp e=>fin As r' hz h' c' kp e) (by simp only[size_toArray]<;>omega)
 ·obtain⟨As,r',pl,hz⟩:=I.tuple hq
  have hlen:=r'.length
  obtain⟨o,ho,hc,n,hd⟩:=pl
  exact call_list_seq p (.inr rfl) ho hc hd (fun h' c' kp e=>fin As r' hz h' c' kp e) (by simp only[size_toArray]<;>omega)
theorem cU:AS X (.type "tuple") (fun xs H Q=>∃ p ys,xs=[.ref p]/\((Ap X.K H p ys/\∀ l,H l=none->Q (.ref l) (upd H l (.tup ys)))∨(Ay X.K H p ys/\Q (.ref p) H))):=by
 intro pins s σ H xs us Q I r h
 obtain⟨p,ys,rfl,h⟩:=h
 obtain⟨u,rfl,rx⟩:=gk r
 cases rx
 rcases h with ⟨hq,q⟩ | ⟨hq,q⟩
 ·obtain⟨As,r',pl,hz⟩:=I.list hq
  have hlen:=r'.length
  refine call_tuple_list pl.isList (fun h' kp=>?_) (by simp only[size_toArray]<;>omega)
  have I1:Inv X pins σ H { s with heap:=h' }:=I.kept (t':=s.toks) kp
  have I2:Inv X pins σ (upd H h'.objs.size (.tup ys)) { s with heap:=h'.push { cls := .type "tuple",data := .seq As.toArray } } :=
   I1.laid (t':=s.toks) (fun b o e=>Heap.get?_push_of_some _ e) (le_refl _) (show AR X.prog X.w _ _ _ (.tup ys) from ⟨hz,As,r',B1.new _ _⟩)
  exact⟨.ref h'.objs.size,_,I2,rfl,q _ (I1.AD.fresh (le_refl _))⟩
 ·obtain⟨As,r',pl,hz⟩:=I.tuple hq
  exact call_tuple_same pl ⟨.ref p,H,I,rfl,q⟩
noncomputable def Qz (K:Frag)(T:String)(x:V)(H:Hp):Prop:=match x with
 | .str _=>T = "str"
 | .int _=>T = "int"
 | .ref p=>(T = "list"/\∃ xs,Ap K H p xs)∨(T = "tuple"/\∃ o,K.lookup p=some o/\o.cls = .type "tuple"/\o.dict=none) ∨
   (T = "dict"/\((∃ Aw,H p=some (.dK Aw))∨∃ Aw,H p=some (.dT Aw)))∨(T = "set"/\∃ S n,H p=some (.set S n))
 | _=>False
theorem tH {pins:List (Addr × Obj)}{σ:St}{H:Hp}{s:Shared}{T:String}{x:V}{v:Value}(I:Inv X pins σ H s)(r:RelV x v)(ty:Qz X.K T x H) :
  s.TypeIs v T/\∀ a,v = .ref a->∃ ob,s.heap.get? a=some ob/\ob.dict=none:=by
 cases x with
 | str z =>
  obtain⟨t,rfl⟩:=r
  cases (show T = "str" from ty)
  exact⟨typeIs_str s z t,fun _ e=>nomatch e⟩
 | int i =>
  obtain⟨t,rfl⟩:=r
  cases (show T = "int" from ty)
  exact⟨typeIs_int s i t,fun _ e=>nomatch e⟩
 | ref p =>
  cases r
  rcases ty with ⟨rfl,xs,hq⟩ | ⟨rfl,o,hk,hc,hd⟩ | ⟨rfl,hk⟩ | ⟨rfl,S,n,hk⟩
  ·obtain⟨As,_,pl,_⟩:=I.list hq
   refine⟨pl.isList.typeIs,fun a e=>?_⟩
   cases e
   obtain⟨o,n,e,c,hd,_⟩:=pl
   exact⟨o,e,hd⟩
  ·refine⟨⟨o,I.BR p o hk,hc⟩,fun a e=>?_⟩
   cases e
   exact⟨o,I.BR _ o hk,hd⟩
  ·have z:∃ o,s.heap.get? p=some o/\o.ExactDict:=by
    rcases hk with ⟨Aw,hk⟩ | ⟨Aw,hk⟩
    ·obtain⟨_,_,_,_,o,_,_,e,ex,_⟩:=I.AD p _ hk
     exact⟨o,e,ex⟩
    ·obtain⟨_,_,_,_,o,_,_,e,ex,_⟩:=I.AD p _ hk
     exact⟨o,e,ex⟩
   obtain⟨o,e,ex⟩:=z
   refine⟨⟨o,e,ex.1⟩,fun a e2=>?_⟩
   cases e2
   exact⟨o,e,ex.2.1⟩
  ·obtain⟨o,_,_,_,e,ex,_⟩:=I.AD p _ hk
   refine⟨⟨o,e,ex.1⟩,fun a e2=>?_⟩
   cases e2
   exact⟨o,e,ex.2.1⟩
 | _=>exact False.elim ty
noncomputable def Q0 (K:Frag)(T:String)(r:V->List V->Hp->VK->Prop)(to:TE):TE:=fun σ H Q=>to σ H fun x H1=>Qz K T x H1/\r x [] H1 Q
noncomputable def tBM (K:Frag)(T:String)(r:V->List V->Hp->VK->Prop)(to:TE)(t:TA):TE:=fun σ H Q=>to σ H fun x H1=>Qz K T x H1/\t σ H1 fun xs H2=>r x xs H2 Q
variable {o e:Expr}{es:List Expr}{to:TE}{t:TA}{name:Str}{apos Bv:Pos}{T id:String}{r:V->List V->Hp->VK->Prop}
theorem zd (pa:PlainAttrs T)(slot:Slot T name id)(Q2:typeOf (.builtin id)=pure (.type "method_descriptor"))(hm:O2 X id r)(ho:PE X o to)
  (EV:autoParam (attributeBase o name X.env (eval o X.env)=eval o X.env) η) (EW:autoParam ((apos.endLine == Bv.line)=true) η):PE X (.Call (.Attribute o name apos) [] [] Bv) (Q0 X.K T r to):=by
 intro pins s σ H Q I h
 refine wpAny_Call_method0_late EV EW (bD (ho pins s σ H _ I h) fun v s1 Au=>?_)
 obtain⟨x,H1,I1,r1,ty,q1⟩:=Au
 obtain⟨h1,h2⟩:=tH I1 r1 ty
 exact⟨T,id,pa,slot,Q2,h1,h2,Calls.callWith_builtin rfl (PySem.evalArgs_none (hm pins s1 σ H1 x [] v [] Q I1 r1 .nil q1))⟩
theorem bJ (pa:PlainAttrs T)(slot:Slot T name id)(Q2:typeOf (.builtin id)=pure (.type "method_descriptor"))(hm:O2 X id r)(ho:PE X o to)(ha:PA X (e :: es) t)
  (EV:autoParam (attributeBase o name X.env (eval o X.env)=eval o X.env) η)
  (Ck:((backTo Bv (starEach (e :: es) X.env)).all (fun x=>!x.1) && (backToKw Bv (keywordEach [] X.env)).all (fun x=>x.1.isSome)
   && decide ((e :: es).length + ([]:List Keyword).length + (if ([]:List Keyword).isEmpty then 0 else 1) < 30))=true:=by rfl)
  (EW:autoParam ((apos.endLine == Bv.line)=true) η) (hs:autoParam (starEach (e :: es) X.env=(false,eval e X.env) :: starEach es X.env) η) (Iq:autoParam ((backTo Bv (starEach es X.env)).any (·.1)=false) η) :
  PE X (.Call (.Attribute o name apos) (e :: es) [] Bv) (tBM X.K T r to t):=by
 intro pins s σ H Q I h
 refine wpAny_Call_method_late EV Ck EW rfl (bD (ho pins s σ H _ I h) fun v s1 Au=>?_)
 obtain⟨x,H1,I1,r1,ty,q1⟩:=Au
 obtain⟨h1,h2⟩:=tH I1 r1 ty
 refine⟨T,id,pa,slot,Q2,h1,h2,?_⟩
 have hA:=ha Bv pins s1 σ H1 _ I1 q1
 rw[hs]at hA ⊢
 refine Calls.callWith_builtin (by show(false || (backTo Bv (starEach es X.env)).any (·.1))=false;rw[Iq]<;>rfl) (Calls.evalArgs_plain ?_)
 exact bD hA fun us s2 Au=>by obtain⟨vs,H2,I2,r2,q2⟩:=Au;exact hm pins s2 σ H2 x vs v us Q I2 r1 r2 q2
end
noncomputable def JI (X:Cx)(id:String)(r:V->List V->Hp->VK->Prop):Prop :=
 ∀ (pins:List (Addr × Obj))(s:Shared)(σ:St)(H:Hp)(x:V)(xs:List V)(v:Value)(us:List Value)(Q:VK),Inv X pins σ H s->RelV x v->Vals xs us->r x xs H Q ->
  wpAny (model X.prog X.w) X.A (call (.builtin id) (v :: us)) (EP X pins σ Q) X.xe s
theorem Vals.one:∀ {x:V}{us:List Value},Vals [x] us->∃ u,us=[u]/\RelV x u:=by
 intro x us h
 cases h with
 | cons r t=>cases t;exact⟨_,rfl,r⟩
theorem Vals.eraseIdx:∀ {xs:List V}{us:List Value}(i:Nat),Vals xs us->Vals (xs.eraseIdx i) (us.eraseIdx i)
 | _,_,_, .nil => .nil
 | _,_,0, .cons _ t=>t
 | _,_,i + 1, .cons r t => .cons r (Vals.eraseIdx i t)
theorem Vals.rep {xs:List V}{us:List Value}(h:Vals xs us):∀ k:Nat,Vals (List.replicate k xs).flatten (List.replicate k us).flatten
 | 0 => .nil
 | k + 1=>by
  rw[replicate_succ,replicate_succ,flatten_cons,flatten_cons]
  exact Vals.append h (Vals.rep h k)
theorem lg {α:Type}:∀ (l:List α)(i:Nat),(l.eraseIdx i).length <= l.length
 | [],_=>le_refl _
 | _ :: _,0=>le_succ _
 | _ :: r,i + 1=>Nat.succ_le_succ (lg r i)
theorem lq (As:List Value):∀ (k:Nat)(acc:List Value),
  List.foldl (fun x1 x2=>x1 ++ x2) acc.toArray (List.replicate k As.toArray)=(acc ++ (List.replicate k As).flatten).toArray
 | 0,acc=>by simp
 | k + 1,acc=>by
  have e:acc.toArray ++ As.toArray=(acc ++ As).toArray:=by simp
  have e2:(acc ++ As) ++ (List.replicate k As).flatten=acc ++ (List.replicate (k + 1) As).flatten:=by
   rw[replicate_succ,flatten_cons,append_assoc]
  rw[← e2,← lq As k (acc ++ As),← e,replicate_succ,List.foldl_cons]
section
variable {X:Cx}{pins:List (Addr × Obj)}{σ:St}{H:Hp}{s:Shared}{l b:Addr}{xs ys zs:List V}
theorem Inv.Ir {As its':List Value}{n:Nat}{f:Array Value->Array Value}{t':Nat}(I:Inv X pins σ H s)(hH:H l=some (.lst xs))
  (e:s.heap.get? l=some { cls := .type "list",data := .seq As.toArray n }) (hf:f As.toArray=its'.toArray) (hv:Vals ys its') (hz:ys.length <= sizeLine) :
  Inv X pins σ (upd H l (.lst ys)) { s with heap:=s.heap.update l (Obj.mapSeq f),toks:=t' }:=by
 have q:=PySem.IsL.update e f
 rw[hf]at q
 refine I.write (x:=l) (e:=l) (by rw[hH];exact trivial) (.inl rfl) (fun b' u hb hu=>(Heap.get?_update_other s.heap (Obj.mapSeq f) (Ne.symm hb)).trans hu) ⟨_,q⟩ ?_
 exact⟨hz,its',_,hv,q⟩
theorem Inv.KR {As:List Value}{t':Nat}(I:Inv X pins σ H s)(hv:Vals ys As)(hz:ys.length <= sizeLine) :
  Inv X pins σ (upd H s.heap.objs.size (.lst ys)) { s with heap:=s.heap.push { cls := .type "list",data := .seq As.toArray },toks:=t' } :=
 I.laid (fun _ _ q=>Heap.get?_push_of_some _ q) (le_refl _) ⟨hz,As,0,hv,Heap.get?_push_size _ rfl⟩
theorem Inv.fresh (I:Inv X pins σ H s):H s.heap.objs.size=none:=I.AD.fresh (le_refl _)
theorem Inv.Du (I:Inv X pins σ H s)(hH:H l=some (.lst xs)):xs.length <= sizeLine/\∃ (As:List Value)(n:Nat),Vals xs As/\xs.length=As.length/\s.heap.get? l=some { cls := .type "list",data := .seq As.toArray n }:=by
 obtain⟨z,As,n,r,e⟩:=I.AD l _ hH
 exact⟨z,As,n,r,r.length,e⟩
theorem nL {n:Nat}(h:n <= sizeLine):Builtin.List.listTooLong n=false:=by
 unfold Builtin.List.listTooLong
 exact decide_eq_false (by omega)
end
section
variable {X:Cx}
noncomputable def wI:V->List V->Hp->VK->Prop:=fun x vs H Q=>∃ l xs y,x = .ref l/\vs=[y]/\H l=some (.lst xs)/\xs.length < sizeLine/\Q .AG (upd H l (.lst (xs ++ [y])))
theorem bG:JI X "list.append" wI:=by
 intro pins s σ H x vs v us Q I rx rv h
 obtain⟨l,xs,y,rfl,rfl,hH,hz,q⟩:=h
 cases rx
 obtain⟨u,rfl,ru⟩:=rv.one
 obtain⟨z,As,n,r,hl,e⟩:=I.Du hH
 refine call_meets F.slot_list_append ⟨_,e,rfl⟩ F.entry_list_append (F.args_list_append_2 _ _) (PySem.list_append l As.toArray n u (by rw[size_toArray];omega)) ⟨e,?_⟩
 refine⟨.AG,_,I.Ir (its':=As ++ [u]) hH e (by simp) (r.append (.cons ru .nil)) ?_,rfl,q⟩
 rw[length_append,length_singleton]
 omega
noncomputable def wH:V->List V->Hp->VK->Prop:=fun x vs H Q=>∃ l b xs zs,x = .ref l/\vs=[.ref b]/\H l=some (.lst xs)/\H b=some (.lst zs)/\xs.length + zs.length <= sizeLine/\Q .AG (upd H l (.lst (xs ++ zs)))
theorem cQ:JI X "list.extend" wH:=by
 intro pins s σ H x vs v us Q I rx rv h
 obtain⟨l,b,xs,zs,rfl,rfl,hH,hB,hz,q⟩:=h
 cases rx
 obtain⟨u,rfl,ru⟩:=rv.one
 cases ru
 obtain⟨z,As,n,r,hl,e⟩:=I.Du hH
 obtain⟨z2,C8,n2,r2,Df,e2⟩:=I.Du hB
 have hsz:As.toArray.size + C8.toArray.size <= sizeLine:=by rw[size_toArray,size_toArray];omega
 have EX:¬ (!As.toArray.isEmpty && Builtin.List.listTooLong (As.toArray.size + C8.toArray.size))=true:=by
  rw[nL hsz,Bool.and_false]
  exact Bool.false_ne_true
 refine call_meets F.slot_list_extend ⟨_,e,rfl⟩ F.entry_list_extend (F.args_list_extend_2 _ _)
  (AutoSeq1.list_extend_list_list_0 l As.toArray n b C8.toArray n2 EX (by rw[size_toArray];omega) (by omega)) ⟨e,e2,?_⟩
 refine⟨.AG,_,I.Ir (its':=As ++ C8) hH e (by simp) (r.append r2) ?_,rfl,q⟩
 rw[length_append]
 omega
noncomputable def yX:V->List V->Hp->VK->Prop:=fun x vs H Q=>∃ l xs i k y,x = .ref l/\vs=[.int i]/\H l=some (.lst xs)/\-(2 ^ 63) <= i/\i < 2 ^ 63/\seqIndex? i xs.length=some k/\xs[k]? = some y/\Q y (upd H l (.lst (xs.eraseIdx k)))
theorem vj:JI X "list.pop" yX:=by
 intro pins s σ H x vs v us Q I rx rv h
 obtain⟨l,xs,i,k,y,rfl,rfl,hH,h1,h2,hk,hy,q⟩:=h
 cases rx
 obtain⟨u,rfl,ru⟩:=rv.one
 obtain⟨t,rfl⟩:=ru
 obtain⟨z,As,n,r,hl,e⟩:=I.Du hH
 obtain⟨w,hw,FY⟩:=r.get hy
 refine call_meets F.slot_list_pop ⟨_,e,rfl⟩ F.entry_list_pop (F.args_list_pop_2 _ _)
  (MeetsSeq.list_pop_at l As.toArray n i t k w (fitsIndex_both h1 h2) (by rw[size_toArray,← hl];exact hk) (by rw[← Array.getElem?_toList];exact hw) (by rw[size_toArray];omega)) ⟨e,?_⟩
 refine⟨y,_,I.Ir (its':=As.eraseIdx k) hH e ?_ (r.eraseIdx k) ?_,FY,q⟩
 ·show As.toArray.eraseIdxIfInBounds k=(As.eraseIdx k).toArray
  rw[List.eraseIdxIfInBounds_toArray]
 ·have:=lg xs k
  omega
noncomputable def Q3:R2:=fun x y H Q=>∃ l b xs zs,x = .ref l/\y = .ref b/\H l=some (.lst xs)/\H b=some (.lst zs)/\xs.length + zs.length <= sizeLine/\∀ p,H p=none->Q (.ref p) (upd H p (.lst (xs ++ zs)))
theorem jR:eD X (binaryOp .Add) Q3:=by
 intro pins s σ H x y v u Q I rx ry h
 obtain⟨l,b,xs,zs,rfl,rfl,hH,hB,hz,q⟩:=h
 cases rx
 cases ry
 obtain⟨z,As,n,r,hl,e⟩:=I.Du hH
 obtain⟨z2,C8,n2,r2,Df,e2⟩:=I.Du hB
 refine PySem.P.add_list e e2 ?_ (by rw[size_toArray,size_toArray];omega)
 have ea:As.toArray ++ C8.toArray=(As ++ C8).toArray:=by simp
 rw[ea]
 exact⟨.ref _,_,I.KR (t':=s.toks) (r.append r2) (by rw[length_append];omega),rfl,q _ I.fresh⟩
noncomputable def Q4:R2:=fun x y H Q=>∃ l k xs,x = .ref l/\y = .int k/\H l=some (.lst xs)/\-(2 ^ 63) <= k/\k < 2 ^ 63/\xs.length * k.toNat <= sizeLine /\
 ∀ p,H p=none->Q (.ref p) (upd H p (.lst (List.replicate k.toNat xs).flatten))
theorem xy {α:Type}(xs:List α)(k:Nat):(List.replicate k xs).flatten.length=k * xs.length:=by
 induction k with
 | zero=>simp
 | succ k ih=>rw[replicate_succ,flatten_cons,length_append,ih,succ_mul,Nat.add_comm]
theorem zi:eD X (binaryOp .Mult) Q4:=by
 intro pins s σ H x y v u Q I rx ry h
 obtain⟨l,k,xs,rfl,rfl,hH,h1,h2,hz,q⟩:=h
 cases rx
 obtain⟨t,rfl⟩:=ry
 obtain⟨z,As,n,r,hl,e⟩:=I.Du hH
 have hlen:As.toArray.size * k.toNat <= sizeLine:=by rw[size_toArray,← hl];exact hz
 have Q5:¬ As.toArray.size * k.toNat > (2 ^ 63 - 1) / 8:=by
  have:(sizeLine:Nat) <= (2 ^ 63 - 1) / 8:=by decide
  omega
 have BX:¬ (!Builtin.List.listFitsIndex k)=true:=by
  rw[fitsIndex_both h1 h2]
  exact Bool.false_ne_true
 have EX:¬ Builtin.List.listTooLong (As.toArray.size * k.toNat)=true:=by
  rw[nL hlen]
  exact Bool.false_ne_true
 have Q6:List.foldl (fun x1 x2=>x1 ++ x2) #[] (List.replicate (if As.toArray.isEmpty=true then 0 else k.toNat) As.toArray)=(List.replicate k.toNat As).flatten.toArray:=by
  have f0:∀ m:Nat,List.foldl (fun x1 x2=>x1 ++ x2) #[] (List.replicate m As.toArray)=(List.replicate m As).flatten.toArray:=fun m=>by
   have:=lq As m []
   rw[nil_append]at this
   exact this
  rw[f0]
  cases As with
  | nil=>simp
  | cons a r'=>rw[if_neg (by simp)]
 refine wpAny_binaryOp_repeat_ref (T := "list") (U := "int") (by decide) ⟨_,e,rfl⟩ (fun s'=>typeIs_int s' k t) noFill_list_mul F.fills_int_mul F.slot_int_rmul repeat_list F.slot_int_index.lookup
  (call_meets F.slot_int_rmul (typeIs_int s k t) F.entry_int_rmul (F.args_int_rmul_2 _ _) (int___rmul___int_list k t l As.toArray n)
   ⟨e,rfl,⟨_,e,rfl⟩,call_meets F.slot_list_mul ⟨_,e,rfl⟩ F.entry_list_mul (F.args_list_mul_2 _ _) (AutoListH.list___mul___list_int_3 l As.toArray n k t BX Q5 EX) ⟨e,?_⟩⟩)
 rw[Q6]
 exact⟨.ref _,_,I.KR (t':=s.toks) (r.rep k.toNat) (by rw[xy,Nat.mul_comm];exact hz),rfl,q _ I.fresh⟩
end
section
variable {prog:Program}{w:World}{A:Around}{E:Value->Shared->Prop}{s:Shared}
set_option maxRecDepth 100000 in
end
section
variable {X:Cx}
end
end L2
namespace VB
open PySem PySem.W PySem.Calls PyProof.Rows
theorem jb {P:Params}{h:Heap}:∀ (ns:List Int)(vs:List Value),WellAll P h vs (ns.map WData.int)->IntsAre vs ns:=by
 intro ns
 induction ns with
 | nil =>
  intro vs w
  rw[map_nil]at w
  cases w
  exact .nil
 | cons n ns ih =>
  intro vs w
  rw[map_cons]at w
  cases w with
  | cons a b =>
   cases a
   exact .cons _ _ (ih _ b)
theorem sh {l:OpenLaw}{n:Nat}(hn:l.most=some n){P:Params}{h:Heap}{args:List WData}{vals:List Value}
  (FZ:l.row.toRowW.claim.pre args=true) (Eh:WellAll P h vals args) :
  ∃ a vs ns,vals=[Value.ref a]/\args=[WData.list (ns.map WData.int)]/\h.get? a=some { cls := .type "list",data := .seq vs.toArray }/\IntsAre vs ns/\ns.length <= n:=by
 have hsh:WShape.hasAll [] args [.list .int]=true:=(pre_splitW FZ).1
 have hc:l.pre.holds [] { args:=args } = true:=(pre_splitW FZ).2
 obtain⟨d,r,rfl,h1,h2⟩:=hasAllW_cons hsh
 obtain rfl:=hasAllW_nil h2
 obtain⟨xs,rfl,h3⟩:=hasW_list h1
 obtain⟨ns,rfl⟩:=items_int h3
 have hlen:ns.length <= n:=by
  unfold OpenLaw.pre at hc
  have h4:(WTm.not (.lt (.lit (.int (n:Int))) (.len (.arg 0)))).holds [] { args:=[.list (ns.map .int)] } = true:=by
   have h4:=(holds_andW hc).1
   rw[hn]at h4
   exact h4
  have h5:=condW_of h4 (w_not (w_lt w_lit (w_len_list (w_arg rfl))))
  rw[length_map]at h5
  refine Nat.le_of_not_lt fun q=>?_
  have q':(n:Int) < ((ns.length:Nat):Int):=by omega
  first
   | (rw[decide_eq_true q']at h5;exact absurd h5 (by decide))
   | (simp at h5;omega)
 cases Eh with
 | cons w1 w2 =>
  cases w2
  cases w1 with
  | list ho Cn=>exact⟨_,_,ns,rfl,rfl,ho,jb ns _ Cn,hlen⟩
theorem so (l:OpenLaw)(args:List WData):l.row.toRowW.claim.post args (.bool true) args=true :=
 postW_of (r:=l.row.toRowW) (X:=(true == true))
  (show WShape.has [] (.bool true) .bool=true by first | rfl | decide | simp[WShape.has,WShape.arms,WShape.armsAll])
  (show(WTm.eq .res (.lit (.bool true))).value [] { args:=args,res:=some (.bool true),after:=args } = some (.bool (true == true)) from w_eq_bool (w_res rfl) w_lit) rfl
theorem Dv {l:OpenLaw}{n:Nat}{q:Program}{loose:List Str}{XP:(Str->Option Value)->Heap->Prop}{YP:World->Heap->Prop}{d:DefRec}
  (hn:l.most=some n) (KS:d.params.defaults=[])
  (call:∀ (w:World)(s₀ s₁:Shared)(mg mb:Str->Option Value)(fa:Addr)(o:Obj)(pm cd doc:Value)(a:Addr)(vs:List Value)(ns:List Int),
   Ground q loose [] XP w s₀ mg mb s₁.heap->YP w s₁.heap ->
   s₁.heap.get? fa=some o->o.data = .func (docDef d.name d.params d.body d.scope pm cd doc)->s₁.heap.CodeRec cd d.name->mg d.name=some (.ref fa) ->
   s₁.heap.get? a=some { cls := .type "list",data := .seq vs.toArray }->IntsAre vs ns->ns.length <= n->s₁.gens = #[] ->
   codeAny (model l.prog w) callerA (.call (.ref fa) ⟨[.ref a],[]⟩) (fun r s'=>r = .ok (.ret (.bool true))/\OldK s₁.heap s'.heap/\s'.os=s₁.os/\AllBare s'.gens) s₁) :
  WalkO q loose XP YP l.row.toRowW d [] (fun f vs=>PySem.call f vs):=by
 intro w s₀ s₁ mg mb G Y fa o pm cd doc dV kV ho hd DE hD hmg hg args vals as FZ hlay hrd Eh O3
 obtain rfl:dV = .none:=Dflts.none hD KS
 obtain rfl:kV = .none:=Dflts.noKw hD
 obtain⟨a,vs,ns,rfl,rfl,Iu,hints,hlen⟩:=sh hn FZ Eh
 refine enter_call (codeAny_mono (call w s₀ s₁ mg mb fa o pm cd doc a vs ns G Y ho (fd_plain hd) DE hmg Iu hints hlen hg) fun r s' hq=>?_)
 obtain⟨rfl,h2,h3,h4⟩:=hq
 exact⟨.inl ⟨.bool true, .bool true,[],rfl,fun _=>rfl, .bool true,so l _,fun _=>⟨List.Pairwise.nil,fun _ hm=>(nomatch hm)⟩⟩,h2,h3,h4⟩
section
variable {prog:Program}{w:World}{A:Around}{E:Value->Shared->Prop}{s:Shared}{K:Frag}
end
end VB
namespace L2
open PySem PySem.Spec PyProof.Rows
theorem kN:∀ {vs:List Value}{ns:List Int},IntsAre vs ns->Vals (ns.map V.int) vs
 | _,_, .nil => .nil
 | _,_, .cons n t h => .cons ⟨t,rfl⟩ (kN h)
noncomputable def Ai (H:Hp):Prop:=∀ b,H b=none∨∃ o xs,H b=some (.Ec o (.lst xs))
theorem vv {P:Program}{w:World}{K:Frag}{mg mb:Str->Option Value}{CX:rX}{k:Nat}{fa a:Addr}{fd:FuncData}{x:Str}{sp:Sp}{s₁:Shared}{vs:List Value}{ns:List Int}
  (KX:K.In s₁.heap) (JJ:s₁.heap.Ns mainGlobals mg) (hb:s₁.heap.Ns builtinsNs mb) (hbb:∀ x:Str,x ≠ "__name__"->mb x=bootBuiltins x) (Q7:s₁.heap.NoLimit) (hg:s₁.gens = #[])
  (ha:s₁.heap.get? a=some { cls := .type "list",data := .seq vs.toArray }) (hi:IntsAre vs ns) (hl:ns.length <= sizeLine) (hr:Ax k callerA)
  (F:∀ base:Heap,K.In base->base.Ns mainGlobals mg->Ao P w K mg base CX k fa fd [x] sp) (KU:∀ (s:Shared)(u:Value),BindsTo s fd ⟨[u],[]⟩ [(x,u)])
  (FE:∀ H:Hp,Ai H->Ap K H a (ns.map V.int)->sp [.ref a] H (fun v _=>v = .bl true) fun _ _ _=>False)
  (Q8:∀ H e s',CX [] H s₁ (fun _ _ _=>False) e s'->False) :
  codeAny (model P w) callerA (.call (.ref fa) ⟨[.ref a],[]⟩) (fun r s'=>r = .ok (.ret (.bool true))/\OldK s₁.heap s'.heap/\s'.os=s₁.os/\AllBare s'.gens) s₁:=by
 have rv:=kN hi
 have Q9:=hi.length
 have core:∀ H:Hp,Ai H->Ap K H a (ns.map V.int)->Cc P w H s₁.heap->(∀ b,H b ≠ none->b=a)->(H a ≠ none->K.lookup a=none) ->
   codeAny (model P w) callerA (.call (.ref fa) ⟨[.ref a],[]⟩) (fun r s'=>r = .ok (.ret (.bool true))/\OldK s₁.heap s'.heap/\s'.os=s₁.os/\AllBare s'.gens) s₁:=by
  intro H hO hS AD hA hK
  have base_of:∀ {b:Addr}{o:Obj},s₁.heap.get? b=some o->H b=none->(mH s₁.heap H).get? b=some o:=fun e n=>v9 e n
  have KJ:∀ {b:Addr}{o:Obj}{es:Array DictEntry}{ep:Nat},s₁.heap.get? b=some o->o.data = .dict es ep->H b=none:=fun {b o es ep} e d=>by
   cases q:H b with
   | none=>rfl
   | some u =>
    have e':b=a:=hA b (by rw[q];simp)
    subst e'
    rw[ha]at e;cases e
    have d':Data.seq vs.toArray _=Data.dict es ep:=d
    cases d'
  have O4:∀ {b:Addr}{m:Str->Option Value},s₁.heap.Ns b m->(mH s₁.heap H).Ns b m:=fun {b m} ⟨o,es,ep,e,d,r⟩=>⟨o,es,ep,base_of e (KJ e d),d,r⟩
  have VC:K.In (mH s₁.heap H):=fun b o e=>base_of (KX b o e) (by
   cases q:H b with
   | none=>rfl
   | some u =>
    have e':b=a:=hA b (by rw[q];simp)
    subst e'
    rw[hK (by rw[q];simp)]at e;cases e)
  have hM:Mod K mg (mH s₁.heap H):=⟨VC,O4 JJ,⟨mb,O4 hb,hbb⟩,let ⟨mc,h1,h2⟩:=Q7; ⟨mc,O4 h1,h2⟩⟩
  have e0:DQ P w K mg (mH s₁.heap H) callerA [] s₁ H:=⟨rfl,hM,fun b o e=>xp e,le_of_eq (sS _ _),trivial,fun b hb=>absurd (show b ∈ ([]:List Addr) from hb) (by simp),AD, .of_eq hg⟩
  refine codeAny_mono ((F _ VC (O4 JJ)).run callerA [] s₁ H ⟨[.ref a],[]⟩ [.ref a] [.ref a] _ _ hr e0 (KU s₁ (.ref a)) (.cons rfl .nil) (FE H hO hS)) fun r s' h=>?_
  cases r with
  | error e=>exact(Q8 H e s' h).elim
  | ok fl =>
   cases fl with
   | next=>exact False.elim h
   | brk=>exact False.elim h
   | cont=>exact False.elim h
   | ret u =>
    obtain⟨v,H',os,bare,un,QA,r',q⟩:=h
    have q':v = .bl true:=q
    subst q'
    obtain rfl:u=Value.bool true:=r'
    refine⟨rfl,OldK.of_keep fun b o e=>?_,os,bare⟩
    cases q:H b with
    | none=>exact un.keep b o e q (by intro z;exact absurd (show b ∈ ([]:List Addr) from z) (by simp)) (by simp)
    | some u =>
     rcases hO b with z | ⟨ob,xs,z⟩
     ·rw[q]at z;cases z
     ·have z2:=un.C6 b ob _ z
      obtain⟨e1,_⟩:=AD b _ z
      obtain⟨e2,_⟩:=QA b _ z2
      rw[e]at e1;cases e1
      exact e2
 cases hk:K.lookup a with
 | some o =>
  have e:=KX a o hk
  rw[ha]at e
  cases e
  refine core (fun _=>none) (fun _ => .inl rfl) (.inr ⟨_,vs.toArray,_,hk,rfl,rfl,rfl,by rw[size_toArray,Q9];exact hl,by simpa using rv⟩) (fun b u z=>by have z':(none:Option HO)=some u:=z;cases z') (fun b z=>absurd rfl z) fun z=>absurd rfl z
 | none =>
  refine core (fun b=>if b=a then some (.Ec { cls := .type "list",data := .seq vs.toArray } (.lst (ns.map V.int))) else none) (fun b=>?_) (.inl (.inr ⟨{ cls := .type "list",data := .seq vs.toArray },if_pos rfl⟩)) (fun b u z=>?_) (fun b z=>?_) fun _=>hk
  ·by_cases hb:b=a
   ·exact .inr ⟨_,_,if_pos hb⟩
   ·exact .inl (if_neg hb)
  ·by_cases hb:b=a
   ·have z':=(if_pos hb).symm.trans z
    cases z'
    subst hb
    exact⟨ha,by rw[length_map];exact hl,vs,_,rv,ha⟩
   ·have z':=(if_neg hb).symm.trans z
    cases z'
  ·by_cases hb:b=a
   ·exact hb
   ·exact absurd (if_neg hb) z
theorem Gj {l:PySem.W.OpenLaw}{n k:Nat}{q:Program}{loose:List Str}{XP:(Str->Option Value)->Heap->Prop}{YP:World->Heap->Prop}{d:DefRec}{K:Params->Frag}{CX:World->rX}{sp:World->Sp}{x:Str}
  (hn:l.most=some n) (Il:n <= sizeLine) (KS:d.params.defaults=[]) (hr:Ax k callerA)
  (hY:∀ (w:World)(h:Heap),YP w h->(K w.params).In h)
  (F:∀ (w:World)(mg:Str->Option Value)(fa:Addr)(h:Heap),(K w.params).In h->h.Ns mainGlobals mg->mg d.name=some (.ref fa) ->
   ∃ fd:FuncData,(∀ (s:Shared)(u:Value),BindsTo s fd ⟨[u],[]⟩ [(x,u)]) /\
    ∀ base:Heap,(K w.params).In base->base.Ns mainGlobals mg->Ao l.prog w (K w.params) mg base (CX w) k fa fd [x] (sp w))
  (FE:∀ (w:World)(H:Hp)(a:Addr)(ns:List Int),ns.length <= n->Ai H->Ap (K w.params) H a (ns.map V.int)->sp w [.ref a] H (fun v _=>v = .bl true) fun _ _ _=>False)
  (Q8:∀ (w:World)(H:Hp)(s:Shared)(e:Value)(s':Shared),CX w [] H s (fun _ _ _=>False) e s'->False) :
  PySem.W.WalkO q loose XP YP l.row.toRowW d [] (fun f vs=>PySem.call f vs):=by
 refine VB.Dv hn KS fun w s₀ s₁ mg mb fa o pm cd doc a vs ns G Y ho hd DE hmg Iu hints hlen hg=>?_
 have KX:=hY w _ Y
 obtain⟨fd,hb,hF⟩:=F w mg fa _ KX G.T.g hmg
 exact vv KX G.T.g G.T.b G.T.builtins G.T.nolimit hg Iu hints (le_trans hlen Il) hr hF hb (fun H hO hS=>FE w H a ns hlen hO hS) fun H e s'=>Q8 w H s₁ e s'
noncomputable def aK (s:Stmt)(j:Nat):Stmt:=match s with
 | .ClassDef _ _ _ body _ _ _ _ _ _ _=>body.getD j (.Pass ⟨0,0,0,0⟩)
 | _ => .Pass ⟨0,0,0,0⟩
noncomputable def bP (s:Stmt):Arguments:=match s with
 | .FunctionDef _ a _ _ _ _ _ _ _ _=>a
 | _=>{ posonlyargs:=[],args:=[],vararg:=none,kwonlyargs:=[],kw_defaults:=[],kwarg:=none,defaults:=[] }
noncomputable def aG (s:Stmt):List Stmt:=match s with
 | .FunctionDef _ _ b _ _ _ _ _ _ _=>b
 | _=>[]
noncomputable def af (s:Stmt):Scope:=match s with
 | .FunctionDef _ _ _ _ _ _ sc _ _ _=>sc
 | _=>zQ0
abbrev aA:rX:=fun _ _ _ _ _ _=>False
abbrev E0:XK:=fun _ _ _=>False
theorem al {X:Cx}:fQ aA X E0:=fun _ _ _ _ _ _ _ h=>h.elim
structure AM (K:Frag)(x qual:Str)(st:Stmt)(f:Addr)(fd:FuncData):Prop where
 ex:∃ (oc:Value)(od:Option Addr)(kV doc pm:Value)(an:Option Addr)(cdv ct:Value)(Eg:Array (Option Value)),
  fd=fnOf x qual (bP st) (aG st) (af st) .none kV doc pm an cdv ct/\K.lookup f=some ⟨oc,od, .func fd,Eg⟩/\codeIn K cdv qual=true
 kp:keepIn K (.ref f)=true
section
variable {P:Program}{w:World}{K:Frag}{mg:Str->Option Value}{base:Heap}
theorem AM.ok {x qual:Str}{st:Stmt}{f:Addr}{fd:FuncData}{N ps:List Str}{k:Nat}{sp:Sp}(F:AM K x qual st f fd)(S:ao N ps (af st))(len:∀ vs H Q E,sp vs H Q E->vs.length=ps.length)
  (Dr:∀ (cdv:Value)(A:Around)(outer:List Env)(s:Shared)(H:Hp)(vs:List V)(Q:VK)(E:XK),Ax k (A.deeper (envOfC qual (af st) s.heap.objs.size f cdv))->sp vs H Q E ->
   ∃ t,Ee (qq aA P w K mg base N qual (af st) f cdv A outer s H E).JE (aG st) t/\t { nx:=fun _ H'=>Q .AG H',rt:=Q } (start N vs) H):Ao P w K mg base aA (k + 1) f fd ps sp:=by
 obtain⟨oc,od,kV,doc,pm,an,cdv,ct,Eg,rfl,lk,DE⟩:=F.ex
 refine ym lk DE S len fun A outer s H vs Q E hr FE=>?_
 obtain⟨t,h,q⟩:=Dr cdv A outer s H vs Q E hr FE
 exact⟨t,h.JE,q⟩
theorem AM.binds {x qual:Str}{st:Stmt}{f:Addr}{fd:FuncData}{ps:List Str}(F:AM K x qual st f fd)
  (h:∀ (kV doc pm:Value)(an:Option Addr)(cdv ct:Value)(us:List Value),us.length=ps.length->bindArgs (fnOf x qual (bP st) (aG st) (af st) .none kV doc pm an cdv ct) ⟨us,[]⟩ = pure (ps.zip us)):Binds K fd ps []:=by
 obtain⟨oc,od,kV,doc,pm,an,cdv,ct,Eg,rfl,lk,DE⟩:=F.ex
 exact .all (h kV doc pm an cdv ct)
theorem kj {x qual:Str}{st:Stmt}{f:Addr}{oc:Value}{od an:Option Addr}{Eg:Array (Option Value)}{kV doc pm cdv ct:Value}(l:K.lookup f=some ⟨oc,od, .func (fnOf x qual (bP st) (aG st) (af st) .none kV doc pm an cdv ct),Eg⟩)
  (c:codeIn K cdv qual=true) (k:keepIn K (.ref f)=true):AM K x qual st f (fnOf x qual (bP st) (aG st) (af st) .none kV doc pm an cdv ct):=⟨⟨oc,od,kV,doc,pm,an,cdv,ct,Eg,rfl,l,c⟩,k⟩
end
theorem yl {A:Around}{k:Nat}(hr:Ax k A):A.units + 1 < cLine:=lt_of_le_of_lt (Nat.add_le_add_left (by decide:1 <= 64) _) hr.units
section
variable {X:Cx}
theorem pv (i:Nat){x:Str}{pos:Pos}(hN:autoParam (X.N[i]? = some x) η)(hv:PV X.env.scope x:=by first | exact Or.inl rfl | exact Or.inr (Or.inl rfl) | exact Or.inr (Or.inr rfl))(hd:autoParam ((x == ("__debug__":Str))=false) θ)
  (DE:autoParam ((x == ("__classdict__":Str))=false) θ):PE X (.Name x pos) (pe i):=zc hN hv hd DE
end
theorem aE {A B:Prop}(h:B):if false=true then A else B:=by
 rw[if_neg Bool.false_ne_true]
 exact h
theorem aL {A B:Prop}(h:A):if true=true then A else B:=by
 rw[if_pos rfl]
 exact h
theorem zO {c A B:Prop} [Decidable c] (h1:c->A) (h2:¬ c->B):if c then A else B:=by
 by_cases h:c
 ·rw[if_pos h]
  exact h1 h
 ·rw[if_neg h]
  exact h2 h
theorem v7 {c A B:Prop} [Decidable c] (hc:c) (h:B):if (!decide c)=true then A else B:=by
 rw[decide_eq_true hc]
 exact aE h
noncomputable def An (H H':Hp):Prop:=∀ b o,H b=some o->H' b=some o
theorem An.refl (H:Hp):An H H:=fun _ _ h=>h
theorem An.trans {H H1 H2:Hp}(a:An H H1)(b:An H1 H2):An H H2:=fun c o h=>b c o (a c o h)
theorem An.free {H H':Hp}(e:An H H'){l:Addr}(h:H' l=Option.none):H l=Option.none:=by
 cases q:H l with
 | none=>rfl
 | some o =>
  rw[e l o q]at h
  cases h
theorem An.seq {K:Frag}{H H':Hp}{a:Addr}{xs:List V}(e:An H H')(h:Ap K H a xs):Ap K H' a xs:=by
 rcases h with (h | ⟨o,h⟩) | h
 ·exact .inl (.inl (e _ _ h))
 ·exact .inl (.inr ⟨o,e _ _ h⟩)
 ·exact .inr h
end L2
namespace Yd
open PySem
theorem qw (a b:Nat):Builtin.bitAnd (a:Int) (b:Int)=((a &&& b:Nat):Int):=by
 unfold Builtin.bitAnd
 simp
theorem dH (x:Int):Builtin.bitNot x = -x - 1:=by
 unfold Builtin.bitNot
 omega
theorem Ew (a b:Nat):Builtin.bitOr (a:Int) (b:Int)=((a ||| b:Nat):Int):=by
 unfold Builtin.bitOr
 have h1:Builtin.bitNot (a:Int) = -(a:Int) - 1:=dH _
 have h2:Builtin.bitNot (b:Int) = -(b:Int) - 1:=dH _
 unfold Builtin.bitAnd
 rw[h1,h2]
 have e1:decide (0 <= -(a:Int) - 1)=false:=decide_eq_false (by omega)
 have e2:decide (0 <= -(b:Int) - 1)=false:=decide_eq_false (by omega)
 rw[e1,e2]
 simp only[]
 have e3:Builtin.bitNot (-(a:Int) - 1)=a:=by rw[dH];omega
 have e4:Builtin.bitNot (-(b:Int) - 1)=b:=by rw[dH];omega
 rw[e3,e4]
 simp only[toNat_natCast]
 rw[dH,dH]
 omega
noncomputable def Bm:List Nat->Nat->Nat
 | [],s=>s
 | n :: r,s=>Bm r (s ||| 2 ^ n)
theorem Bt (k:Nat):∀ (l:List Nat)(s:Nat),(Bm l s).testBit k=(s.testBit k || decide (k ∈ l))
 | [],s=>by simp[Bm]
 | n :: r,s=>by
  unfold Bm
  rw[Bt k r]
  rw[Nat.testBit_or,Nat.testBit_two_pow]
  by_cases h:n=k
  ·subst h;simp
  ·have:¬ k=n:=fun z=>h z.symm
   simp[h,this]
theorem EY (l r:List Nat)(s:Nat):Bm (l ++ r) s=Bm r (Bm l s):=by
 induction l generalizing s with
 | nil=>rfl
 | cons n t ih=>exact ih _
noncomputable def kK (l:List Nat):Nat->Nat
 | 0=>0
 | n + 1=>if n ∈ l then kK l n + 2 ^ n else kK l n
theorem CO (l:List Nat):∀ n,kK l n < 2 ^ n
 | 0=>by simp[kK]
 | n + 1=>by
  have:=CO l n
  unfold kK
  rw[Nat.pow_succ]
  split<;>omega
theorem oj (l:List Nat)(k:Nat):∀ n,(kK l n).testBit k=decide (k < n/\k ∈ l)
 | 0=>by simp[kK]
 | n + 1=>by
  have ih:=oj l k n
  have Bg:=CO l n
  unfold kK
  by_cases hn:n ∈ l
  ·rw[if_pos hn,Nat.add_comm]
   rcases Nat.lt_trichotomy k n with h | h | h
   ·rw[Nat.testBit_two_pow_add_gt h,ih]
    simp[h,Nat.lt_succ_of_lt h]
   ·subst h
    rw[Nat.testBit_two_pow_add_eq,testBit_lt_two_pow Bg]
    simp[hn]
   ·have hb:2 ^ n + kK l n < 2 ^ k:=by
     have:2 ^ (n + 1) <= 2 ^ k:=pow_le_pow_right (by decide) h
     rw[Nat.pow_succ]at this
     omega
    rw[testBit_lt_two_pow hb]
    have:¬ k < n + 1:=by omega
    simp[this]
  ·rw[if_neg hn,ih]
   by_cases h:k=n
   ·subst h;simp[hn]
   ·have:k < n↔k < n + 1:=by omega
    simp[this]
theorem Gu {l:List Nat}{n:Nat}(h:∀ k ∈ l,k < n):kK l n=Bm l 0:=by
 apply Nat.eq_of_testBit_eq
 intro k
 rw[oj,Bt]
 by_cases hk:k ∈ l
 ·simp[hk,h k hk]
 ·simp[hk]
noncomputable def Dw (m b:Nat):List Nat:=(List.range b).filter fun k=>m.testBit k
theorem Co {m b k:Nat}(h:m < 2 ^ b):k ∈ Dw m b↔m.testBit k=true:=by
 unfold Dw
 rw[mem_filter,mem_range]
 constructor
 ·exact fun z=>z.2
 ·intro z
  refine⟨?_,z⟩
  by_cases hk:k < b
  ·exact hk
  ·have:m < 2 ^ k:=lt_of_lt_of_le h (pow_le_pow_right (by decide) (by omega))
   rw[testBit_lt_two_pow this]at z
   cases z
theorem CH (m b:Nat):(Dw m b).Pairwise (· < ·):=List.Pairwise.filter _ pairwise_lt_range
theorem Dx:∀ {l r:List Int},l.Pairwise (· < ·)->r.Pairwise (· < ·)->(∀ k,k ∈ l↔k ∈ r)->l=r
 | [],[],_,_,_=>rfl
 | [],y :: r,_,_,h=>by
  have:=(h y).mpr mem_cons_self
  cases this
 | x :: l,[],_,_,h=>by
  have:=(h x).mp mem_cons_self
  cases this
 | x :: l,y :: r,hl,hr,h=>by
  obtain⟨hx,C2⟩:=List.pairwise_cons.mp hl
  obtain⟨hy,Cp⟩:=List.pairwise_cons.mp hr
  have e:x=y:=by
   rcases mem_cons.mp ((h x).mp mem_cons_self) with z | z
   ·exact z
   ·rcases mem_cons.mp ((h y).mpr mem_cons_self) with z' | z'
    ·exact z'.symm
    ·have:=hx y z'
     have:=hy x z
     omega
  subst e
  congr 1
  refine Dx C2 Cp fun k=>?_
  constructor
  ·intro z
   rcases mem_cons.mp ((h k).mp (mem_cons_of_mem _ z)) with q | q
   ·have:=hx k z;omega
   ·exact q
  ·intro z
   rcases mem_cons.mp ((h k).mpr (mem_cons_of_mem _ z)) with q | q
   ·have:=hy k z;omega
   ·exact q
theorem CP (m:Nat):m < 2 ^ (Builtin.Int.intBits (m:Int)):=by
 unfold Builtin.Int.intBits
 by_cases h:m=0
 ·subst h;simp
 ·have e:((m:Int) == 0)=false:=by simp[h]
  rw[e]
  simp only[Bool.false_eq_true,if_false,natAbs_natCast]
  exact Nat.lt_log2_self
theorem bits_le {m b:Nat}(h:m < 2 ^ b):Builtin.Int.intBits (m:Int) <= b:=by
 unfold Builtin.Int.intBits
 by_cases h0:m=0
 ·subst h0;simp
 ·have e:((m:Int) == 0)=false:=by simp[h0]
  rw[e]
  simp only[Bool.false_eq_true,if_false,natAbs_natCast]
  have:=(Nat.log2_lt h0).mpr h
  omega
theorem Gz (m k:Nat):decide (Builtin.bitAnd ((m:Int) / 2 ^ k) 1=1)=m.testBit k:=by
 have e:((m:Int) / 2 ^ k)=((m / 2 ^ k:Nat):Int):=by
  rw[Int.natCast_ediv,Int.natCast_pow]
  rfl
 rw[e,show (1:Int)=((1:Nat):Int) from rfl,qw,Nat.testBit_eq_decide_div_mod_eq]
 rw[Nat.and_one_is_mod]
 congr 1
 exact propext ⟨fun z=>by exact_mod_cast z,fun z=>by exact_mod_cast z⟩
end Yd
namespace L2
open PySem PySem.Spec PyProof.Rows
noncomputable def cu (cells:List (Str × Addr)):List (Str × NameKind)->List (Str × Addr)->List (Str × Addr)
 | [],acc=>acc
 | (n,k) :: r,acc=>if k == .free then cu cells r ((n,(cells.lookup n).getD 0) :: acc) else cu cells r acc
theorem gs {scope:Scope}{env:Env}(h:∀ y ∈ scope.names,y.2 = .free->∃ c,env.cells.lookup y.1=some c) :
  closureFor scope env=pure (cu env.cells scope.names []):=by
 unfold closureFor
 have key:∀ (names:List (Str × NameKind))(acc:List (Str × Addr)),(∀ y ∈ names,y.2 = .free->∃ c,env.cells.lookup y.1=some c) ->
   (forIn names acc fun (x:Str × NameKind)(cs:List (Str × Addr))=>(match x with
    | (name,kind)=>if (kind == NameKind.free)=true then do
      let c ← cellOf env name
      pure (ForInStep.yield ((name,c) :: cs))
     else pure (ForInStep.yield cs):Sem (ForInStep (List (Str × Addr)))))=(pure (cu env.cells names acc):Sem (List (Str × Addr))):=by
  intro names
  induction names with
  | nil=>intro acc _;rfl
  | cons y r ih =>
   intro acc hy
   obtain⟨n,k⟩:=y
   rw[forIn_cons]
   by_cases hk:(k == NameKind.free)=true
   ·obtain⟨c,hc⟩:=hy (n,k) mem_cons_self (by simpa using hk)
    have e1:cellOf env n=pure c:=by
     unfold cellOf
     simp only[]at hc
     rw[hc]
    simp only[hk,if_true,e1,pure_bind]
    rw[ih _ fun z hz=>hy z (mem_cons_of_mem _ hz)]
    unfold cu
    simp only[]at hc
    rw[if_pos hk,hc]
    conv=>rhs;unfold cu
    rfl
   ·simp only[hk,Bool.false_eq_true,if_false,pure_bind]
    rw[ih _ fun z hz=>hy z (mem_cons_of_mem _ hz)]
    conv=>rhs;unfold cu
    rw[if_neg hk]
 exact(congrArg (fun (m:Sem (List (Str × Addr)))=>m >>= fun z=>pure z) (key scope.names [] h)).trans (pure_bind _ _)
theorem eB {cells:List (Str × Addr)}{x:Str}{c:Addr}:∀ (names:List (Str × NameKind))(acc:List (Str × Addr)),(∀ y ∈ names,y.2 = .free->∃ c,cells.lookup y.1=some c) ->
  (∀ c,acc.lookup x=some c->cells.lookup x=some c)->(cu cells names acc).lookup x=some c->cells.lookup x=some c
 | [],acc,_,ha,e=>ha c e
 | (n,k) :: r,acc,hn,ha,e=>by
  unfold cu at e
  have hr:=fun z hz=>hn z (mem_cons_of_mem _ hz)
  split at e
  ·rename_i hk
   refine eB r _ hr (fun c' e'=>?_) e
   rw[lookup_cons]at e'
   split at e'
   ·rename_i hx
    have CQ:x=n:=by simpa using hx
    subst CQ
    obtain⟨c0,Iv⟩:=hn (x,k) mem_cons_self (by simpa using hk)
    simp only[]at Iv
    rw[Iv]at e' ⊢
    exact e'
   ·exact ha c' e'
  ·exact eB r acc hr ha e
theorem eZ {cells:List (Str × Addr)}{x:Str}:∀ (names:List (Str × NameKind))(acc:List (Str × Addr)),((x,NameKind.free) ∈ names∨∃ c,acc.lookup x=some c) ->
  ∃ c,(cu cells names acc).lookup x=some c
 | [],acc,h=>by
  rcases h with h | h
  ·cases h
  ·exact h
 | (n,k) :: r,acc,h=>by
  unfold cu
  split
  ·rename_i hk
   refine eZ r _ ?_
   rcases h with h | ⟨c,h⟩
   ·rcases mem_cons.mp h with h | h
    ·refine .inr ⟨(cells.lookup n).getD 0,?_⟩
     injection h with h1 h2
     rw[lookup_cons,h1]
     simp
    ·exact .inl h
   ·refine .inr ?_
    rw[lookup_cons]
    split
    ·exact⟨_,rfl⟩
    ·exact⟨c,h⟩
  ·rename_i hk
   refine eZ r _ ?_
   rcases h with h | h
   ·rcases mem_cons.mp h with h | h
    ·injection h with h1 h2
     subst h2
     exact absurd rfl hk
    ·exact .inl h
   ·exact .inr h
theorem il {env:Env}{x:Str}:∀ {names:List (Str × NameKind)},names.lookup x=some .free ->
  (names.map fun (n,k)=>if (k == NameKind.free && env.scope.kind == .function && env.kindOf n == some .cell) then (n,NameKind.cell) else (n,k)).lookup x=some .cell ∨
  (names.map fun (n,k)=>if (k == NameKind.free && env.scope.kind == .function && env.kindOf n == some .cell) then (n,NameKind.cell) else (n,k)).lookup x=some .free
 | [],h=>by simp at h
 | (n,k) :: r,h=>by
  have ih:=@il env x r
  rw[map_cons]
  cases hx:x == n with
  | true =>
   rw[lookup_cons,hx]at h
   cases h
   simp only[]
   split
   ·left;rw[lookup_cons,hx]
   ·right;rw[lookup_cons,hx]
  | false =>
   rw[lookup_cons,hx]at h
   simp only[]
   split
   ·rw[lookup_cons,hx];exact ih h
   ·rw[lookup_cons,hx];exact ih h
theorem fG {env:Env}{x:Str}{k:NameKind}(hk:k = .cell∨k = .free):∀ {names:List (Str × NameKind)},(∀ y ∈ names,y.2 ≠ .cell) ->
  (names.map fun (n,k)=>if (k == NameKind.free && env.scope.kind == .function && env.kindOf n == some .cell) then (n,NameKind.cell) else (n,k)).lookup x=some k->(x,NameKind.free) ∈ names
 | [],_,h=>by simp at h
 | (n,k') :: r,hc,h=>by
  have ih:=@fG env x k hk r fun y hy=>hc y (mem_cons_of_mem _ hy)
  rw[map_cons]at h
  simp only[]at h
  cases hx:x == n with
  | true =>
   have e:x=n:=by simpa using hx
   subst e
   split at h
   ·rename_i q
    have q':k' = .free:=by
     have:=(Bool.and_eq_true _ _ ▸ q:_/\_).1
     have:=(Bool.and_eq_true _ _ ▸ this:_/\_).1
     simpa using this
    rw[q']
    exact mem_cons_self
   ·rw[lookup_cons,hx]at h
    have e2:k' = k:=Option.some.inj h
    rcases hk with z | z
    ·exact absurd (e2.trans z) (hc (x,k') mem_cons_self)
    ·rw[e2,z];exact mem_cons_self
  | false =>
   split at h
   ·rw[lookup_cons,hx]at h;exact mem_cons_of_mem _ (ih h)
   ·rw[lookup_cons,hx]at h;exact mem_cons_of_mem _ (ih h)
section
variable {prog:Program}{w:World}{A:Around}{R:Result->Shared->Prop}{s:Shared}
abbrev lF (ifs:List Expr)(env:Env):Sem Bool :=
 forIn ifs true fun c r=>if r=true then do let ok ← isTrue c env (eval c env);pure (ForInStep.yield ok) else pure (ForInStep.yield r)
theorem oE {elt tg iter:Expr}{ifs:List Expr}{scope:Scope}{pos:Pos}{it acc:Value}{env:Env}(I:Nat->Shared->Prop)
  (turn:∀ n s,I n s->wpAny (model prog w) A (pyNext it) (fun r s1=>match r with
   | none=>R (.ok .next) s1
   | some v=>wpAny (model prog w) A (letOwnedTupleGo tg it v) (fun _ s2=>wpAny (model prog w) A (assign tg env v) (fun _ s3 =>
     wpAny (model prog w) A (lF ifs env) (fun ok s4 =>
      if ok=true then wpAny (model prog w) A (eval elt env) (fun x s5 =>
       wpAny (model prog w) A (call (.builtin "list.append") [acc,x]) (fun _ s6=>∃ m,m < n/\I m s6) (fun _ _=>False) s5) (fun _ _=>False) s4
      else ∃ m,m < n/\I m s4) (fun _ _=>False) s3) (fun _ _=>False) s2) (fun _ _=>False) s1) (fun _ _=>False) s)
  (n:Nat) (h:I n s):codeAny (model prog w) A (.compLoop (.ListComp elt [⟨tg,iter,ifs,0⟩] scope pos) 0 it acc env) R s:=by
 refine codeAny_loop rfl I (fun n s hI=>?_) n h
 have no:∀ {E':Value->Shared->Prop}(e:Value)(s':Shared),False->E' e s':=fun _ _ z=>z.elim
 show wpAny _ A (Sem.onRaise (compTurn (.ListComp elt [⟨tg,iter,ifs,0⟩] scope pos) 0 it acc env) fun x=>do
  noteFrame x env
  theTreesLotGoes x) _ _ s
 refine wpAny_noted ?_
 rw[compTurn_list]
 refine wpAny_bind (wpAny_standAt (wpAny_bind (wpAny_mono (turn n s hI) (fun r s1 h1=>?_) no)))
 cases r with
 | none=>exact wpAny_pure h1
 | some v =>
  refine wpAny_bind (wpAny_mono h1 (fun _ s2 h2=>?_) no)
  refine wpAny_bind (wpAny_mono h2 (fun _ s3 h3=>?_) no)
  refine wpAny_bind (wpAny_mono h3 (fun ok s4 h4=>?_) no)
  cases ok with
  | false=>exact wpAny_pure ⟨rfl,h4⟩
  | true =>
   refine wpAny_bind (wpAny_bind (wpAny_mono h4 (fun x s5 h5=>?_) no))
   exact wpAny_bind (wpAny_mono h5 (fun _ s6 h6=>wpAny_pure (wpAny_pure ⟨rfl,h6⟩)) no)
end
noncomputable def KW (X:Cx)(ifs:List Expr)(t:TT):Prop :=
 ∀ (pins:List (Addr × Obj))(s:Shared)(σ:St)(H:Hp)(Q:Bool->Hp->Prop),Inv X pins σ H s->t σ H Q->wpAny (model X.prog X.w) X.A (lF ifs X.env) (TP X pins σ Q) X.xe s
noncomputable def mY:TT:=fun _ H Q=>Q true H
theorem bc {X:Cx}:KW X [] mY:=fun _ _ _ H _ I h=>wpAny_pure ⟨H,I,h⟩
theorem ci {X:Cx}{c:Expr}{t:TT}(h:PT X c t):KW X [c] t:=fun pins s σ H Q I hw=>by
 simp only[lF,forIn_cons,List.forIn_nil,if_true]
 exact wpAny_bind (wpAny_bind (bD (h pins s σ H Q I hw) fun b s' hb=>wpAny_pure (wpAny_pure hb)))
structure Bi (N:List Str)(sc scope:Scope)(capN:List Str)(cap:List Nat):Prop where
 kind:scope.kind = .function
 DR:∀ y ∈ scope.names,y.2 ≠ .cell
 loc:∀ y ∈ scope.names,y.2 = .local->scope.names.lookup y.1=some .local
 free:∀ y ∈ scope.names,y.2 = .free->sc.names.lookup y.1=some .cell∨sc.names.lookup y.1=some .free
 len:cap.length=capN.length
 cap:∀ p ∈ capN.zip cap,scope.names.lookup p.1=some .free/\N[p.2]? = some p.1
abbrev cf (X:Cx)(scope:Scope)(N:List Str)(C:Addr)(s:Shared)(H:Hp)(fp:List Addr):Cx :=
 { X with N:=N,s₀:=s,H₀:=H,env:=compEnvC scope (cu X.env.cells scope.names []) C X.env,outer:=X.stack,stack:=X.stack,ex:=fp,fn:=fun _=>false,pn:=[],xe:=fun _ _=>False }
noncomputable def iP (n:Nat)(cap:List Nat)(σ:St):St:=List.replicate n none ++ cap.map fun j=>(σ[j]?).join
theorem oJ (n:Nat)(cap:List Nat)(σ:St):(iP n cap σ).length=n + cap.length:=by simp[iP]
section
variable {X:Cx}{pins:List (Addr × Obj)}{σ:St}{H:Hp}{s:Shared}{scope:Scope}{own capN:List Str}{cap:List Nat}{fp:List Addr}
theorem Bi.Iw (B:Bi X.N X.env.scope scope capN cap)(ok:X.Ok):∀ y ∈ scope.names,y.2 = .free->∃ c,X.env.cells.lookup y.1=some c:=fun y hy hf=>ok.has y.1 (B.free y hy hf)
theorem Bi.cell (B:Bi X.N X.env.scope scope capN cap)(ok:X.Ok){x:Str}{c:Addr}(h:(cu X.env.cells scope.names []).lookup x=some c):X.env.cells.lookup x=some c :=
 eB scope.names [] (B.Iw ok) (fun _ e=>by cases e) h
theorem Bi.locs (I:Inv X pins σ H s)(B:Bi X.N X.env.scope scope capN cap){h':Heap}(k:∀ x c v,X.env.cells.lookup x=some c->s.heap.IsCell c v->h'.IsCell c v)(C:Addr)(m0:Str->Option Value) :
  ∀ (i:Nat)(x:Str)(v:V),(own ++ capN)[i]? = some x->(iP own.length cap σ)[i]? = some (some v)->∃ u,RelV v u/\Look (compEnvC scope (cu X.env.cells scope.names []) C X.env) h' m0 x u:=by
 intro i x v e1 e2
 have hi:own.length <= i:=by
  by_cases q:own.length <= i
  ·exact q
  ·unfold iP at e2
   rw[getElem?_append_left (by simp;omega),List.getElem?_replicate,if_pos (by omega)]at e2
   cases e2
 have e1':capN[i - own.length]? = some x:=by
  rwa [getElem?_append_right hi]at e1
 unfold iP at e2
 rw[getElem?_append_right (by simpa using hi),length_replicate,getElem?_map]at e2
 cases ej:cap[i - own.length]? with
 | none=>rw[ej]at e2;cases e2
 | some j =>
  rw[ej]at e2
  have O5:(σ[j]?).join=some v:=Option.some.inj e2
  have e3':σ[j]? = some (some v):=by
   cases q:σ[j]? with
   | none=>rw[q]at O5;cases O5
   | some u=>rw[q]at O5;exact congrArg some O5
  have hz:(x,j) ∈ capN.zip cap:=by
   refine List.mem_iff_getElem?.mpr ⟨i - own.length,?_⟩
   rw[List.getElem?_zip_eq_some]
   exact⟨e1',ej⟩
  obtain⟨c1,c2⟩:=B.cap (x,j) hz
  have VD:(x,NameKind.free) ∈ scope.names:=PySem.mem_of_lookup c1
  have hX:=B.free _ VD rfl
  obtain⟨m,hm,hl⟩:=I.loc
  obtain⟨u,ru,lk⟩:=hl j x v c2 e3' (hX.elim (fun z => .inr (.inl z)) fun z => .inr (.inr z))
  refine⟨u,ru, .inr ⟨il c1,?_⟩⟩
  rcases lk with ⟨q,_⟩ | ⟨_,c,ec,ic⟩
  ·have q':X.env.scope.names.lookup x=some .local:=q
   rcases hX with z | z
   ·rw[z]at q';cases q'
   ·rw[z]at q';cases q'
  ·obtain⟨c',VE⟩:=eZ (cells:=X.env.cells) (x:=x) scope.names [] (.inl VD)
   have:=B.cell I.ok VE
   rw[ec]at this
   cases this
   exact⟨c,VE,k x c _ ec ic⟩
theorem Inv.blk {h4:Heap}{tk:Nat}{m0:Str->Option Value}{C:Addr}(I:Inv X pins σ H s)(B:Bi X.N X.env.scope scope capN cap)(hC:s.heap.objs.size <= C)(k:∀ b o,s.heap.get? b=some o->h4.get? b=some o)
  (hn:h4.Ns C m0) (hf:∀ b ∈ fp,gi X pins H b) (Bg:∀ b ∈ fp,b < s.heap.objs.size) :
  Inv (cf X scope (own ++ capN) C s H fp) [] (iP own.length cap σ) H { s with heap:=h4,toks:=tk }:=by
 have QB:∀ b ∈ fp,b ∉ rH X.stack:=fun b hb z=>by
  obtain⟨_,f1,f2,_⟩:=hf b hb
  rcases mem_cons.mp (I.CN b z) with e | e
  ·exact f1 e
  ·exact f2 e
 have hinv:∀ x,((relabel scope X.env).names.lookup x=some .cell∨(relabel scope X.env).names.lookup x=some .free)->(x,NameKind.free) ∈ scope.names:=fun x hx=>by
  rcases hx with q | q
  ·exact fG (.inl rfl) B.DR q
  ·exact fG (.inr rfl) B.DR q
 refine⟨⟨I.ok.mod,B.kind,I.ok.glob,I.ok.blt,hC,fun x y c h1 h2=>I.ok.inj x y c (B.cell I.ok h1) (B.cell I.ok h2),fun x hx=>eZ scope.names [] (.inl (hinv x hx)),fun _ _ z=>absurd z Bool.false_ne_true,I.ok.hd,I.ok.frames, .inl rfl,
  fun b hb=>⟨ne_of_lt (lt_of_lt_of_le (Bg b hb) hC),fun x c e=>(hf b hb).2.2.2.2.1 x c (B.cell I.ok e)⟩,I.bs,le_trans I.ok.FV I.sz,fun b o e hb=>?_,fun b hb=>QB b hb,I.stack,I.Ed⟩,
  rfl,I.bare,Un.kept k,⟨m0,hn,fun i x v e1 e2 _=>B.locs I (fun _ _ _ _ q=>q.keeps k) C m0 i x v e1 e2⟩,fun x c e=>?_,I.AD.fresh hC,fun x c e=>I.Bo x c (B.cell I.ok e),fun p hp=>absurd (show p ∈ ([]:List (Addr × Obj)) from hp) (by simp),I.AD.kept k,?_⟩
 ·rcases (hf b hb).2.2.2.1 with z | z
  ·exact I.ok.ET b o e z
  ·exact absurd (lt_of_lt_of_le (lt_size e) (le_trans I.ok.FV z)) (lt_irrefl _)
 ·obtain⟨v,q⟩:=I.cell x c (B.cell I.ok e)
  exact⟨v,q.keeps k⟩
 ·show(iP own.length cap σ).length=(own ++ capN).length
  rw[oJ,length_append,B.len]
theorem Inv.reset {Dk:List (Addr × Obj)}{σ':St}{H':Hp}{s':Shared}{C:Addr}(I:Inv X pins σ H s)(B:Bi X.N X.env.scope scope capN cap)(hf:∀ b ∈ fp,gi X pins H b)(J:Inv (cf X scope (own ++ capN) C s H fp) Dk σ' H' s') :
  Inv (cf X scope (own ++ capN) C s H fp) Dk (iP own.length cap σ) H' s':=by
 obtain⟨m,hn,_⟩:=J.loc
 refine⟨J.ok,J.os,J.bare,J.base,⟨m,hn,fun i x v e1 e2 _=>?_⟩,J.cell,J.free,J.Bo,J.pin,J.AD,?_⟩
 ·refine B.locs I (fun y c v' ec ic=>?_) C m i x v e1 e2
  obtain⟨o,ho,hd⟩:=ic
  have hx:c ∉ fp:=fun z=>(hf c z).2.2.2.2.1 y c ec rfl
  obtain⟨sl,e⟩:=J.base.any ho (I.Bo y c ec) hx
  exact⟨_,e,hd⟩
 ·show(iP own.length cap σ).length=(own ++ capN).length
  rw[oJ,length_append,B.len]
theorem Inv.adopt {D:Addr}{o:HO}(I:Inv X pins σ H s)(hn:H D=none)(h0:X.s₀.heap.objs.size <= D)(hL:D ≠ X.env.locals)(hc:∀ x c,X.env.cells.lookup x=some c->c ≠ D)(hp:∀ p ∈ X.pn ++ pins,p.1 ≠ D)
  (new:AR X.prog X.w (upd H D o) s.heap D o):Inv X pins σ (upd H D o) s:=by
 have ne:∀ b u,H b=some u->b ≠ D:=fun b u e=>aj e hn
 refine⟨I.ok,I.os,I.bare,⟨I.base.keep,I.base.slot,fun b ob e n hx=>?_,I.base.there,fun b xs e=>?_,fun b ob u e=>?_,fun b ps e=>?_⟩,I.loc,I.cell,?_,fun x c e=>?_,fun p EG=>?_,fun b u e=>?_,I.len⟩
 ·rw[ai (ne_of_lt (lt_of_lt_of_le (lt_size e) h0))]
  exact I.base.free b ob e n hx
 ·have q:=I.base.CL b xs e
  rw[ai (ne b _ q)];exact q
 ·have q:=I.base.C6 b ob u e
  rw[ai (ne b _ q)];exact q
 ·obtain⟨more,q⟩:=I.base.CM b ps e
  exact⟨more,by rw[ai (ne b _ q)];exact q⟩
 ·rw[ai (Ne.symm hL)];exact I.free
 ·rw[ai (hc x c e)];exact I.Bo x c e
 ·obtain⟨e,n,r⟩:=I.pin p EG
  exact⟨e,by rw[ai (hp p EG)];exact n,r⟩
 ·by_cases hb:b=D
  ·subst hb;rw[ac]at e;cases e;exact new
  ·rw[ai hb]at e
   exact(I.AD b u e).BW (fun _ _ _ q=>q) (fun c q=>by rw[ai (ne c _ q)];exact q) fun c xs q=>by rw[ai (ne c _ q)];exact q
end
noncomputable def dQ (J:It)(g:TG)(tt:TT)(te:TE)(σ0:St)(Q:VK)(H1:Hp):Prop:=∃ W:Nat->Nat->List V->Hp->Prop,(∃ m,W 0 m [] H1)/\∀ i m acc H,W i m acc H ->
 acc.length < sizeLine/\((J.stop i H/\∀ D,H D=none->Q (.ref D) (upd H D (.lst acc)))∨(J.go i H/\∃ N:List V->Hp->Prop,(∀ Bn H',N Bn H'->∃ m',m' < m/\W (i + 1) m' Bn H') /\
  ∀ x H',J.FD i H x H'->g x σ0 H' fun σ2 H2=>tt σ2 H2 fun b H3=>if b=true then te σ2 H3 fun y H4=>N (acc ++ [y]) H4 else N acc H3))
noncomputable def xR (wi:TI)(g:TG)(tt:TT)(te:TE)(n:Nat)(cap:List Nat):TE:=fun σ H Q=>wi σ H fun J H1=>dQ J g tt te (iP n cap σ) Q H1
section
variable {X:Cx}{tg iter elt:Expr}{ifs:List Expr}{scope:Scope}{pos:Pos}{wi:TI}{g:TG}{tt:TT}{te:TE}{own capN:List Str}{cap:List Nat}
abbrev mB (As:List Value)(k:Nat):Obj:={ cls := .type "list",data := .seq As.toArray k }
theorem oz {pins:List (Addr × Obj)}{s:Shared}{σ:St}{H:Hp}{Q:VK}{it:Addr}{fp:List Addr}{tn:Nat->Heap->Prop}{J:It}(B:Bi X.N X.env.scope scope capN cap)(hc:X.calm=true)
  (hb:∀ (C:Addr)(s:Shared)(H:Hp)(fp:List Addr),PG (cf X scope (own ++ capN) C s H fp) tg g/\KW (cf X scope (own ++ capN) C s H fp) ifs tt/\PE (cf X scope (own ++ capN) C s H fp) elt te)
  (I:Inv X pins σ H s) (T:oP X.prog X.w X.K tg J fp it tn) (st:tn 0 s.heap) (hf:∀ b ∈ fp,gi X pins H b) {W:Nat->Nat->List V->Hp->Prop} {m0:Nat} (w0:W 0 m0 [] H)
  (turn:∀ i m acc H,W i m acc H->acc.length < sizeLine/\((J.stop i H/\∀ D,H D=none->Q (.ref D) (upd H D (.lst acc)))∨(J.go i H/\∃ N:List V->Hp->Prop,(∀ Bn H',N Bn H'->∃ m',m' < m/\W (i + 1) m' Bn H') /\
   ∀ x H',J.FD i H x H'->g x (iP own.length cap σ) H' fun σ2 H2=>tt σ2 H2 fun b H3=>if b=true then te σ2 H3 fun y H4=>N (acc ++ [y]) H4 else N acc H3)))
  {RR:Value->Addr->Result->Shared->Prop}
  (fin:∀ (D C:Addr)(H':Hp)(s':Shared),Q (.ref D) H'->Inv X pins σ H' s'->(∃ m,s'.heap.Ns C m)->H' C=none->C ≠ X.env.locals->X.s₀.heap.objs.size <= C->(∀ x c,X.env.cells.lookup x=some c->c ≠ C)->(∀ p ∈ X.pn ++ pins,p.1 ≠ C) ->
   RR (.ref D) C (.ok .next) s') :
  wpAny (model X.prog X.w) X.A (newList []) (fun acc s3=>wpAny (model X.prog X.w) X.A (newFunctionEnv scope X.env.globals (cu X.env.cells scope.names []) [] X.env.qual none .none (some X.env)) (fun KY s4 =>
   codeAny (model X.prog X.w) X.A (.compStart (.ListComp elt [⟨tg,iter,ifs,0⟩] scope pos) 0 (.ref it) acc { KY with scope:=relabel scope X.env }) (RR acc KY.locals) s4) X.xe s3) X.xe s:=by
 refine wpAny_newObj_type (wpAny_newFunctionEnv B.DR (by intro y hy;simp at hy) (fun h1 JJ Hn=>?_) B.kind)
 dsimp only at JJ Hn ⊢
 generalize Iy:s.heap.push { cls := .type "list",dict:=none,data := .seq ([]:List Value).toArray } = H2 at JJ Hn ⊢
 have hCs:H2.objs.size=s.heap.objs.size + 1:=by rw[← Iy,size_push]
 have DS:s.heap.objs.size <= H2.objs.size:=by omega
 have G0:∀ b ∈ fp,b < s.heap.objs.size:=fun b hb=>by
  obtain⟨o,e,_⟩:=T.obj 0 s.heap st b hb
  exact lt_size e
 have old:∀ b o,s.heap.get? b=some o->h1.get? b=some o:=fun b o e =>
  Hn.extBut b o (ne_of_lt (lt_of_lt_of_le (lt_size e) DS)) (Heap.get?_push_of_some _ (Iy ▸ Heap.get?_push_of_some _ e))
 have O6:s.heap.objs.size ≠ H2.objs.size:=by omega
 have QC:h1.get? s.heap.objs.size=some (mB [] 0):=Hn.extBut _ _ O6 (Heap.get?_push_of_some _ (Iy ▸ Heap.get?_push_size _ rfl))
 have I4:Inv (cf X scope (own ++ capN) H2.objs.size s H fp) [] (iP own.length cap σ) H { s with heap:=h1,toks:=s.toks + ([]:List (Str × Value)).length }:=I.blk (own:=own) B DS old JJ hf G0
 have QB:∀ b ∈ fp,b ∉ rH X.stack:=fun b hb z=>by
  obtain⟨_,f1,f2,_⟩:=hf b hb
  rcases mem_cons.mp (I.CN b z) with e | e
  ·exact f1 e
  ·exact f2 e
 have G5:∀ b ∈ rH X.stack,b < s.heap.objs.size:=fun b hb=>by
  obtain⟨_,o,ho,_⟩:=I.stack.mem hb
  exact lt_size ho
 have DT:∀ x c,X.env.cells.lookup x=some c->c < s.heap.objs.size:=fun x c e=>by
  obtain⟨v,q⟩:=I.cell x c e
  exact q.lt
 have Ho:∀ (H':Hp)(h':Heap)(As:List Value)(k:Nat),H' s.heap.objs.size=none->h'.get? s.heap.objs.size=some (mB As k) ->
   ∀ p ∈ [(s.heap.objs.size,mB As k)],h'.get? p.1=some p.2/\H' p.1=none/\p.1 ≠ (cf X scope (own ++ capN) H2.objs.size s H fp).env.locals/\p.1 ∉ (cf X scope (own ++ capN) H2.objs.size s H fp).fs/\∀ v,p.2.data ≠ .cell v:=fun H' h' As k hn he p hp=>by
  have e:p=(s.heap.objs.size,mB As k):=by simpa using hp
  subst e
  exact⟨he,hn,O6,fun z=>absurd (G5 _ z) (lt_irrefl _),fun v z=>by cases z⟩
 have stat:∀ (H':Hp)(As:List Value)(k:Nat),(∀ b ∈ fp,H' b=none)->∀ b ∈ fp,gi (cf X scope (own ++ capN) H2.objs.size s H fp) [(s.heap.objs.size,mB As k)] H' b:=fun H' As k hn b hb =>
  ⟨hn b hb,ne_of_lt (lt_of_lt_of_le (G0 b hb) DS),QB b hb, .inl hb,fun x c e=>(hf b hb).2.2.2.2.1 x c (B.cell I.ok e),fun p hp=>by
   have e:p=(s.heap.objs.size,mB As k):=by simpa using hp
   subst e
   exact ne_of_gt (G0 b hb)⟩
 have loop:∀ s3:Shared,s3 = { s with heap:=h1,toks:=s.toks + ([]:List (Str × Value)).length } ->
   codeAny (model X.prog X.w) X.A (.compLoop (.ListComp elt [⟨tg,iter,ifs,0⟩] scope pos) 0 (.ref it) (.ref s.heap.objs.size) (compEnvC scope (cu X.env.cells scope.names []) H2.objs.size X.env))
    (RR (.ref s.heap.objs.size) H2.objs.size) s3:=by
  rintro s3 rfl
  refine oE (fun n s'=>∃ i acc As k H',Inv (cf X scope (own ++ capN) H2.objs.size s H fp) [(s.heap.objs.size,mB As k)] (iP own.length cap σ) H' s'/\tn i s'.heap/\(∀ b ∈ fp,H' b=none)/\Vals acc As/\W i n acc H') ?_ m0
   ⟨0,[],[],0,H,I4.B8 (Ho _ _ _ _ (I.AD.fresh (le_refl _)) QC),T.keep 0 s.heap h1 st fun b _ o e=>old b o e,fun b hb=>(hf b hb).1, .nil,w0⟩
  rintro n s5 ⟨i,acc,As,k,H5,I5,JF,Ox,rv,w5⟩
  obtain⟨hsz,KZ⟩:=turn i n acc H5 w5
  obtain⟨hgt,FF,hte⟩:=hb H2.objs.size s H fp
  rcases KZ with ⟨stop,q⟩ | ⟨go,N,hN,step⟩
  ·refine bD (T.done (cf X scope (own ++ capN) H2.objs.size s H fp) rfl rfl rfl hc i _ s5 _ H5 _ I5 (stat H5 As k Ox) JF stop) fun r s6 Au=>?_
   obtain⟨hr,I6⟩:=Au
   subst hr
   obtain⟨hD,G6,_⟩:=I6.pin (s.heap.objs.size,mB As k) (by simp)
   have J1:Inv X pins σ H5 s6:=I.Kr (s':=s6) (ch:=fp) I6.os I6.base I6.AD I6.bare fun b hb=>by
    obtain⟨_,f1,_,f3,f4,f5⟩:=hf b hb
    exact⟨f3,f1,f4,f5⟩
   have J2:Inv X pins σ (upd H5 s.heap.objs.size (.lst acc)) s6:=J1.adopt G6 I.sz (ne_of_gt I.lt) (fun x c e=>ne_of_lt (DT x c e)) (fun p hp=>ne_of_lt (lt_size (I.pin p hp).1)) ⟨le_of_lt hsz,As,k,rv,hD⟩
   obtain⟨mC,La,_⟩:=I6.loc
   refine fin _ _ _ s6 (q _ G6) J2 ⟨mC,La⟩ (by rw[ai (Ne.symm O6)];exact I6.free) (ne_of_gt (lt_of_lt_of_le I.lt DS)) (le_trans I.sz DS) (fun x c e=>ne_of_lt (lt_of_lt_of_le (DT x c e) DS)) fun p hp =>
    ne_of_lt (lt_of_lt_of_le (lt_size (I.pin p hp).1) DS)
  ·refine bD (T.item (cf X scope (own ++ capN) H2.objs.size s H fp) rfl rfl rfl hc i _ s5 _ H5 _ I5 (stat H5 As k Ox) JF go) fun r s6 Au=>?_
   obtain⟨u,hr,h6⟩:=Au
   subst hr
   refine bD h6 fun _ s7 Au=>?_
   obtain⟨x,H7,I7,r7,y7,QD,fr7⟩:=Au
   have I7':=I7.pinned (stat H7 As k fr7) (T.obj _ _ QD)
   refine bD (hgt _ s7 _ H7 x u _ I7' r7 (step x H7 y7)) fun _ s8 Au=>?_
   obtain⟨σ8,H8,I8,q8⟩:=Au
   refine bD (FF _ s8 σ8 H8 _ I8 q8) fun b s9 Au=>?_
   obtain⟨H9,I9,q9⟩:=Au
   have VF:∀ {H':Hp}{s':Shared}{σ':St},Inv (cf X scope (own ++ capN) H2.objs.size s H fp) (eU fp s7.heap) σ' H' s'->tn (i + 1) s'.heap/\∀ b ∈ fp,H' b=none:=fun {H' s' σ'} K=>by
    refine⟨T.keep _ _ _ QD fun b hb o e=>(K.pin (b,o) (eX hb e)).1,fun b hb=>?_⟩
    obtain⟨o,e,_⟩:=T.obj _ _ QD b hb
    exact(K.pin (b,o) (eX hb e)).2.1
   cases b with
   | false =>
    rw[if_neg Bool.false_ne_true]
    obtain⟨m',hm,w9⟩:=hN acc H9 (by simpa using q9)
    have K9:Inv (cf X scope (own ++ capN) H2.objs.size s H fp) (eU fp s7.heap) σ8 H9 s9:=I9.B8 fun p hp=>I9.pin p (mem_append_right _ (mem_append_right _ hp))
    obtain⟨t9,f9⟩:=VF K9
    exact⟨m',hm,i + 1,acc,As,k,H9,I.reset B hf I9.BM,t9,f9,rv,w9⟩
   | true =>
    rw[if_pos rfl]
    have q9':te σ8 H9 fun y H4=>N (acc ++ [y]) H4:=by simpa using q9
    refine bD (hte _ s9 σ8 H9 _ I9 q9') fun yv BY Au=>?_
    obtain⟨y,C9,QE,r10,q10⟩:=Au
    obtain⟨hD,G6,_⟩:=QE.pin (s.heap.objs.size,mB As k) (by simp)
    have hlen:=rv.length
    refine wpAny_list_append_plain ⟨k,hD⟩ (fun h' Be Iz=>?_) (by rw[size_toArray];omega)
    obtain⟨k',O7⟩:=Be
    obtain⟨m',hm,w10⟩:=hN (acc ++ [y]) C9 q10
    have K10:Inv (cf X scope (own ++ capN) H2.objs.size s H fp) (eU fp s7.heap) σ8 C9 BY:=QE.B8 fun p hp=>QE.pin p (mem_append_right _ (mem_append_right _ hp))
    have VG:Inv (cf X scope (own ++ capN) H2.objs.size s H fp) (eU fp s7.heap) σ8 C9 { BY with heap:=h' }:=K10.turned (t':=BY.toks) (it:=s.heap.objs.size) (fun b o hb e=>(Iz.2 b hb).trans e) G6 O6 (.inr (le_refl _))
     (fun x c e=>ne_of_lt (DT x c (B.cell I.ok e))) fun p hp=>by
      obtain⟨hb,_⟩:=lb (show p ∈ eU fp s7.heap from hp)
      exact ne_of_lt (G0 p.1 hb)
    obtain⟨t11,O8⟩:=VF VG
    refine⟨m',hm,i + 1,acc ++ [y],As ++ [yv],k',C9,?_,t11,O8,rv.append (.cons r10 .nil),w10⟩
    refine I.reset B hf (VG.B8 (Ho _ _ _ _ G6 ?_))
    show h'.get? s.heap.objs.size=some { cls := .type "list",data := .seq (As ++ [yv]).toArray k' }
    rw[show(As ++ [yv]).toArray=As.toArray.push yv by simp]
    exact O7
 exact codeAny_compStart_list (loop _ rfl) (T.self X.A 0 _ _ _ (T.keep 0 s.heap h1 st fun b _ o e=>old b o e) (loop _ rfl))
theorem aS (B:Bi X.N X.env.scope scope capN cap)(hc:X.calm=true)(hi:PI X tg iter wi)
  (hb:∀ (C:Addr)(s:Shared)(H:Hp)(fp:List Addr),PG (cf X scope (own ++ capN) C s H fp) tg g/\KW (cf X scope (own ++ capN) C s H fp) ifs tt/\PE (cf X scope (own ++ capN) C s H fp) elt te)
  (hs:autoParam (∀ x,foldedSetIterable iter X.env x=pure x) ψ):PE X (.ListComp elt [⟨tg,iter,ifs,0⟩] scope pos) (xR wi g tt te own.length cap):=by
 intro pins s σ H Q I h
 rw[eval_ListComp]
 refine wpAny_comprehension_free (use:=none) rfl hs (gs (B.Iw I.ok)) B.kind B.loc (bD (hi pins s σ H _ I h) fun v s1 h1=>bD h1 fun Ov s2 h2=>?_)
 obtain⟨it,fp,tn,J,H2,e,I2,T,Hm,f2,W,⟨m0,w0⟩,turn⟩:=h2
 subst e
 refine oz (own:=own) B hc hb I2 T Hm f2 w0 turn (RR:=fun acc C=>compPost (model X.prog X.w) X.A X.xe none (EP X pins σ Q) acc C) fun D C H' s' q J2 ⟨mC,La⟩ fC n1 n2 n3 n4=>?_
 refine⟨mC,La,fun h' Hn=>⟨.ref D,H',?_,rfl,q⟩⟩
 exact J2.turned (t':=s'.toks) (it:=C) (fun b o hb e=>(Hn.2 b hb).trans e) fC n1 (.inr n2) n3 n4
theorem bZ {i:Nat}{x:Str}{px:Pos}{Lb:Pos}(B:Bi X.N X.env.scope scope capN cap)(hc:X.calm=true)(hN:X.N.Nodup)(hx:X.N[i]? = some x)(hl:X.env.scope.names.lookup x=some .local)(hi:PI X tg iter wi)
  (hb:∀ (C:Addr)(s:Shared)(H:Hp)(fp:List Addr),PG (cf X scope (own ++ capN) C s H fp) tg g/\KW (cf X scope (own ++ capN) C s H fp) ifs tt/\PE (cf X scope (own ++ capN) C s H fp) elt te)
  (hsw:autoParam (swapsWith (.ListComp elt [⟨tg,iter,ifs,0⟩] scope pos) (some (.Name x px)) Lb.line X.env=pure true) η)
  (hs:autoParam (∀ x,foldedSetIterable iter X.env x=pure x) ψ):PS X (.Assign [.Name x px] (.ListComp elt [⟨tg,iter,ifs,0⟩] scope pos) Lb) (y4 (xR wi g tt te own.length cap) (cz i)):=by
 intro pins s σ H D0 I h
 rw[exec_Assign_Name_used _ _ _ _ hsw]
 refine wpAny_bind (wpAny_standAt (wpAny_bind ?_))
 show wpAny _ X.A (do
  let _ ← comprehension (.ListComp elt [⟨tg,iter,ifs,0⟩] scope pos) scope X.env _ (newList []) false (eval iter X.env) (some (assign (.Name x px) X.env))) _ _ s
 refine wpAny_bind (wpAny_mono (wpAny_comprehension_free (use:=some (assign (.Name x px) X.env)) (Q:=fun _ s'=>SP X pins D0 .next s') rfl hs (gs (B.Iw I.ok)) B.kind B.loc
  (bD (hi pins s σ H _ I h) fun v s1 h1=>bD h1 fun Ov s2 h2=>?_)) (fun _ s' hq=>wpAny_pure (wpAny_pure hq)) fun _ _ e=>e)
 obtain⟨it,fp,tn,J,H2,e,I2,T,Hm,f2,W,⟨m0,w0⟩,turn⟩:=h2
 subst e
 refine oz (own:=own) (Q:=fun x H1=>cz i x σ H1 D0.nx) B hc hb I2 T Hm f2 w0 turn (RR:=fun acc C=>compPost (model X.prog X.w) X.A X.xe (some (assign (.Name x px) X.env)) (fun _ s'=>SP X pins D0 .next s') acc C) fun D C H' s' q J2 ⟨mC,La⟩ fC n1 n2 n3 n4=>?_
 show wpAny _ X.A (assign (.Name x px) X.env (.ref D)) _ _ s'
 refine wpAny_assign_Name (kP J2 hN hx (.inl hl) (show RelV (.ref D) (.ref D) from rfl) (fun KI J3 Au=>?_) (.inr hl))
 obtain⟨a,Hn,ha⟩:=Au
 have hCa:C ≠ a:=by
  rcases ha with z | z
  ·rw[z];exact n1
  ·exact(n3 x a z).symm
 refine⟨mC,La.sameBut Hn hCa,fun h' Iz=>⟨_,H',?_,q⟩⟩
 exact J3.turned (t':=KI.toks) (it:=C) (fun b o hb e=>(Iz.2 b hb).trans e) fC n1 (.inr n2) n3 n4
end
mutual
inductive Den (K:Frag)(H:Hp):V->PyData->Prop
 | AG:Den K H .AG .none
 | bl (b:Bool):Den K H (.bl b) (.bool b)
 | int (i:Int):Den K H (.int i) (.int i)
 | str (x:Str):Den K H (.str x) (.str x)
 | lst {a:Addr} {xs:List V} {ds:List PyData}:Ap K H a xs->AO K H xs ds->Den K H (.ref a) (.list ds)
 | tup {a:Addr} {xs:List V} {ds:List PyData}:Ay K H a xs->AO K H xs ds->Den K H (.ref a) (.tuple ds)
inductive AO (K:Frag)(H:Hp):List V->List PyData->Prop
 | nil:AO K H [] []
 | cons {x:V} {d:PyData} {xs:List V} {ds:List PyData}:Den K H x d->AO K H xs ds->AO K H (x :: xs) (d :: ds)
end
section
variable {X:Cx}{pins:List (Addr × Obj)}{σ:St}{H:Hp}{s:Shared}
mutual
theorem Inv.den (I:Inv X pins σ H s):∀ {x:V}{d:PyData}{u:Value},Den X.K H x d->RelV x u->∃ as,Reads s.heap u d as
 | _,_,_, .AG,r=>by cases r;exact⟨_, .none⟩
 | _,_,_, .bl b,r=>by cases r;exact⟨_, .bool b⟩
 | _,_,_, .int i,r=>by obtain⟨t,rfl⟩:=r;exact⟨_, .int i t⟩
 | _,_,_, .str x,r=>by obtain⟨t,rfl⟩:=r;exact⟨_, .str x t⟩
 | _,_,_, .lst hq hd,r=>by
  cases r
  obtain⟨As,rv,⟨o,n,e,hc,_,QF⟩,_⟩:=I.list hq
  obtain⟨as,q⟩:=I.I0 hd rv
  exact⟨_, .list e hc QF (by simpa using q)⟩
 | _,_,_, .tup hq hd,r=>by
  cases r
  obtain⟨As,rv,⟨o,e,hc,n,QF⟩,_⟩:=I.tuple hq
  obtain⟨as,q⟩:=I.I0 hd rv
  exact⟨_, .tuple e hc QF (by simpa using q)⟩
theorem Inv.I0 (I:Inv X pins σ H s):∀ {xs:List V}{ds:List PyData}{us:List Value},AO X.K H xs ds->Vals xs us->∃ as,ReadsAll s.heap us ds as
 | _,_,_, .nil, .nil=>⟨_, .nil⟩
 | _,_,_, .cons hd hr, .cons r rr=>by
  obtain⟨as,q⟩:=I.den hd r
  obtain⟨bs,q'⟩:=I.I0 hr rr
  exact⟨_, .cons q q'⟩
end
noncomputable def Lc (K:Frag):R2:=fun x y H Q=>∃ da db,Den K H x da/\Den K H y db/\SeqAt.shaped da=true/\SeqAt.shaped db=true/\Q (.bl (PyData.eqv da db)) H
noncomputable def yY (K:Frag):R2:=fun x y H Q=>∃ da db,Den K H x da/\Den K H y db/\SeqAt.shaped da=true/\SeqAt.shaped db=true/\Q (.bl (!PyData.eqv da db)) H
end
section
variable {X:Cx}
theorem uF (hu:X.A.units + 64 < cLine):eD X (compareOp .Eq) (Lc X.K):=by
 intro pins s σ H x y v u Q I rx ry h
 obtain⟨da,db,h1,h2,h3,h4,q⟩:=h
 obtain⟨as,r1⟩:=I.den h1 rx
 obtain⟨bs,r2⟩:=I.den h2 ry
 exact SeqAt.compareEq_shaped r1 r2 h3 h4 hu ⟨.bl _,H,I,rfl,q⟩
theorem jP (hu:X.A.units + 64 < cLine):eD X (compareOp .NotEq) (yY X.K):=by
 intro pins s σ H x y v u Q I rx ry h
 obtain⟨da,db,h1,h2,h3,h4,q⟩:=h
 obtain⟨as,r1⟩:=I.den h1 rx
 obtain⟨bs,r2⟩:=I.den h2 ry
 exact SeqAt.compareNe_shaped r1 r2 h3 h4 hu ⟨.bl _,H,I,rfl,q⟩
theorem lu {K:Frag}{H:Hp}:∀ ns:List Int,AO K H (ns.map V.int) (ns.map PyData.int)
 | [] => .nil
 | n :: r => .cons (.int n) (lu r)
theorem oq {K:Frag}{H:Hp}{a:Addr}{ns:List Int}(h:Ap K H a (ns.map V.int)):Den K H (.ref a) (.list (ns.map PyData.int)) := .lst h (lu ns)
noncomputable def Ld (K:Frag):R2:=fun x y H Q=>∃ (p q:Addr)(ns ms:List Int),x = .ref p/\y = .ref q/\Ap K H p (ns.map V.int)/\Ap K H q (ms.map V.int)/\Q (.bl (!decide (ns=ms))) H
theorem pO (hu:X.A.units + 64 < cLine):eD X (compareOp .NotEq) (Ld X.K):=by
 intro pins s σ H x y v u Q I rx ry h
 obtain⟨p,q,ns,ms,rfl,rfl,h1,h2,q⟩:=h
 refine jP hu pins s σ H _ _ v u Q I rx ry ⟨_,_,oq h1,oq h2,PySem.W.shaped_ints ns,PySem.W.shaped_ints ms,?_⟩
 simp only[PyData.eqv,PySem.W.ked_eqvAll]
 exact q
noncomputable def QG (K:Frag):List V->Hp->VK->Prop:=fun xs H Q =>
 (∃ i,xs=[.int i, .ty "int"]/\Q (.bl true) H)∨(∃ i,xs=[.int i, .ty "bool"]/\Q (.bl false) H)∨(∃ p ys,xs=[.ref p, .ty "list"]/\Ap K H p ys/\Q (.bl true) H)∨(∃ p ys,xs=[.ref p, .ty "tuple"]/\Ay K H p ys/\Q (.bl true) H)
theorem oI:AS X (.builtin "isinstance") (QG X.K):=by
 intro pins s σ H xs us Q I r h
 rcases h with ⟨i,rfl,q⟩ | ⟨i,rfl,q⟩ | ⟨p,ys,rfl,hq,q⟩ | ⟨p,ys,rfl,hq,q⟩
 ·cases r with
  | cons r1 r2 =>
   cases r2 with
   | cons r2 r3 =>
    cases r3
    obtain⟨t,rfl⟩:=r1
    cases r2
    exact IsiPair.int_int ⟨.bl true,H,I,rfl,q⟩
 ·cases r with
  | cons r1 r2 =>
   cases r2 with
   | cons r2 r3 =>
    cases r3
    obtain⟨t,rfl⟩:=r1
    cases r2
    exact IsiPair.int_bool ⟨.bl false,H,I.tok _,rfl,q⟩
 ·cases r with
  | cons r1 r2 =>
   cases r2 with
   | cons r2 r3 =>
    cases r3
    cases r1
    cases r2
    obtain⟨As,rv,⟨o,n,e,hc,_⟩,_⟩:=I.list hq
    exact IsiPair.list_list e hc ⟨.bl true,H,I,rfl,q⟩
 ·cases r with
  | cons r1 r2 =>
   cases r2 with
   | cons r2 r3 =>
    cases r3
    cases r1
    cases r2
    obtain⟨As,rv,⟨o,e,hc,_⟩,_⟩:=I.tuple hq
    exact IsiPair.tuple_tuple e hc ⟨.bl true,H,I,rfl,q⟩
theorem xr:O2 X "int.bit_length" (fun x xs H Q=>∃ i,x = .int i/\xs=[]/\Q (.int (Builtin.Int.intBits i:Nat)) H):=by
 intro pins s σ H x xs v us Q I rx rv h
 obtain⟨i,rfl,rfl,q⟩:=h
 obtain⟨t,rfl⟩:=rx
 cases rv
 exact call_int_bit_length ⟨.int _,H,I.tok _,⟨_,rfl⟩,q⟩
theorem Inv.same {pins:List (Addr × Obj)}{σ:St}{H:Hp}{s s':Shared}(I:Inv X pins σ H s)(k:∀ b o,s.heap.get? b=some o->s'.heap.get? b=some o)(g:s'.gens=s.gens)(ho:s'.os=s.os):Inv X pins σ H s':=by
 obtain⟨hh,gg,dd,tt,oo⟩:=s'
 simp only at k g ho
 subst g
 subst ho
 have J:Inv X pins σ H { s with heap:=hh,toks:=tt }:=I.kept k
 exact⟨J.ok,J.os,J.bare,J.base,J.loc,J.cell,J.free,J.Bo,J.pin,J.AD,J.len⟩
theorem i4 (hc:X.calm=true):AS X (.builtin "all") (fun xs H Q=>∃ (p:Addr)(bs:List Bool),xs=[.ref p]/\Ap X.K H p (bs.map V.bl)/\Q (.bl (bs.all id)) H):=by
 intro pins s σ H xs us Q I r h
 obtain⟨p,bs,rfl,hq,q⟩:=h
 obtain⟨u,rfl,rx⟩:=gk r
 cases rx
 obtain⟨As,rv,pl,hz⟩:=I.list hq
 have hlen:=rv.length
 rw[length_map]at hlen
 have Bg:p < s.heap.objs.size:=by obtain⟨o,n,e,_⟩:=pl;exact lt_size e
 have VH:∀ (i:Nat)(v:Value),As.toArray[i]? = some v->v=Value.bool (bs.getD i false):=fun i v hv=>by
  have BJ:As[i]? = some v:=by simpa using hv
  have hi:i < bs.length:=by rw[hlen];exact(gQ0 BJ)
  obtain⟨u,hu,ru⟩:=rv.get (i:=i) (x := .bl bs[i]) (by simp[hi])
  rw[BJ]at hu
  cases hu
  rw[getD_eq_getElem?_getD,getElem?_eq_getElem hi]
  exact ru
 have hh1:X.A.in1.handled=none:=I.ok.hd hc
 refine call_all_walkS (wpAny_pyIter_list pl.isList ⟨s.heap.objs.size,[s.heap.objs.size,p],[s.heap.objs.size],fun a b=>b=a,As.toArray.size,fun i v=>As.toArray[i]? = some v,_,fun i=>bs.getD i false,rfl,
  (Walks.list hh1 _ p (ne_of_lt Bg) As.toArray).toS,⟨⟨_,Heap.get?_push_size _ rfl,rfl,rfl⟩,pl.isList.push _⟩,fun i v s1 Q1 E1 hv hq1=>?_,fun s' hm=>?_⟩)
 ·rw[VH i v hv]
  exact wpAny_truthy_bool hq1
 ·have I1:Inv X pins σ H { s with heap:=s.heap.push { cls := .type "list_iterator",data := .fields #[.ref p, .int 0 0] } }:=I.kept (t':=s.toks) fun b o e=>Heap.get?_push_of_some _ e
  refine⟨.bl _,H,I.same (fun b o e=>hm.heap b o (fun hb=>?_) (Heap.get?_push_of_some _ e)) hm.gens hm.os,rfl,?_⟩
  ·have Dg:b=s.heap.objs.size:=by simpa using hb
   exact absurd (lt_size e) (by rw[Dg];exact lt_irrefl _)
  ·have e:((List.range As.toArray.size).all fun i=>bs.getD i false)=bs.all id:=by
    rw[size_toArray,← hlen]
    clear VH hlen hq rv q
    have:(List.range bs.length).map (fun i=>bs.getD i false)=bs:=by
     apply List.ext_getElem
     ·simp
     ·intro i h1 h2
      simp[h2]
    conv=>rhs;rw[← this]
    rw[all_map]
    rfl
   rw[e]
   exact q
end
section
variable {M:Model}{A:Around}{E:Value->Shared->Prop}{s:Shared}
end
section
variable {X:Cx}{pins:List (Addr × Obj)}{σ:St}{H:Hp}{s:Shared}
end
section
variable {prog:Program}{w:World}{A:Around}{E:Value->Shared->Prop}{s:Shared}{K:Frag}{x C:Addr}{ox:Obj}{name:Str}{v:Value}
open PySem.W in
open PySem.W in
end
end L2
namespace PySem
section
variable {prog:Program}{w:World}{A:Around}{E:Value->Shared->Prop}{h:Heap}{g:Array GenState}{d:Drawn}{t:Nat}{os:OsState}
variable {nm q:Str}{C N:Addr}{bs bm bmB:List Value}{QH:Bool}{sn:List Str}{sub:List Value}{ab:Bool}{col:Option Bool}{dd:Option Addr}{k0 k1 k2 k3 k5:Option Value}{B newId QI:String}
end
section
variable {M:Model}{A:Around}{E:Value->Shared->Prop}{env:Env}
variable {nm q:Str}{C N:Addr}{bs bm:List Value}{QH:Bool}{sn:List Str}{sub:List Value}{ab:Bool}{col:Option Bool}{dd:Option Addr}{k0 k1 k2 k3 k5:Option Value}{newId:String}
end
end PySem
namespace L2
open PySem PySem.Spec PyProof.Rows
section
variable {X:Cx}{C f:Addr}{x:Str}{p pos apos:Pos}{e:Expr}{es:List Expr}{t:TA}
end
section
variable {prog:Program}{w:World}{A:Around}{E:Value->Shared->Prop}{s:Shared}{K:Frag}{x C:Addr}{ox:Obj}{od:Option Obj}{name:Str}{v:Value}
open PySem.W in
open PySem.W in
end
section
variable {X:Cx}{pins:List (Addr × Obj)}{σ:St}{H:Hp}{s:Shared}{ea:Addr}{oe:Obj}
end
section
variable {X:Cx}{o e value:Expr}{f:Str}{pos pos':Pos}{ta tv:TE}
end
section
variable {P:Program}{w:World}{K:Frag}{mg:Str->Option Value}{base:Heap}
end
section
variable {X:Cx}{k:Nat}{f C:Addr}{fd:FuncData}{ps:List Str}{sp:Sp}{dvs:List V}{ds:List Value}{x m:Str}{p pos apos:Pos}{e o:Expr}{es:List Expr}{ta:TE}{t:TA}
end
section
variable {X:Cx}{e:Expr}{t:St->Hp->VK->XK->Prop}{pos Dq:Pos}{n:Str}{i:Nat}
end
section
variable {M:Model}{A:Around}{E:Value->Shared->Prop}{s:Shared}
end
end L2
namespace PySem
open Sem (wp)
open AutoSeq1 (wpAny_loadPart')
theorem eP (l:Addr)(items:Array Value)(n:Nat)(QJ:Option Addr)(sl:Array (Option Value)) :
  Meets (Builtin.«enumerate.__new__» ⟨[.type "enumerate", .ref l],[]⟩) (fun _ R s=>s.heap.get? l=some { cls := .type "tuple",dict:=QJ,data := .seq items n,slots:=sl } /\
   R (.ok (.ret (.ref (s.heap.push { cls := .type "tuple_iterator",data := .fields #[.ref l, .int 0 0] }).objs.size)))
    { s with heap:=(s.heap.push { cls := .type "tuple_iterator",data := .fields #[.ref l, .int 0 0] }).push { cls := .type "enumerate",data := .fields #[.none, .bool false, .ref s.heap.objs.size,rawInt 0, .none, .none] } }) :=
 .of_wp fun prog w A R s h=>by
  obtain⟨hp,g,d,tk,os⟩:=s;obtain⟨hl,h⟩:=h
  have hsub:=sub_enumerate
  have hL:Heap.IsTuple (Shared.heap ⟨hp,g,d,tk,os⟩) l items:=⟨_,hl,rfl,n,rfl⟩
  wp_walk using wpAny_loadPart' hl
  refine wpAny_stack_any fun st=>wpAny_pure ?_
  split
  ·rename_i c _ _ _ _ _
   cases (c == Value.type "enumerate")
   ·wp_walk using wpAny_loadPart' hl,wpAny_pyIter_tuple hL
    exact⟨_,rfl,h⟩
   ·wp_walk using wpAny_loadPart' hl,wpAny_pyIter_tuple hL
    exact⟨_,rfl,h⟩
  ·wp_walk using wpAny_loadPart' hl,wpAny_pyIter_tuple hL
   exact⟨_,rfl,h⟩
section
variable {prog:Program}{w:World}{A:Around}{E:Value->Shared->Prop}{s:Shared}
theorem eQ {l:Addr}{items:Array Value}{Q:Value->Shared->Prop}(hL:s.heap.IsTuple l items)
  (h:∀ h',IsEnum h' (s.heap.objs.size + 1) s.heap.objs.size 0 .none->h'.IsTupleIter s.heap.objs.size l 0->h'.objs.size=s.heap.objs.size + 2 ->
   (∀ b o,s.heap.get? b=some o->h'.get? b=some o)->Q (.ref (s.heap.objs.size + 1)) { s with heap:=h' }) :
  wpAny (model prog w) A (call (.type "enumerate") [.ref l]) Q E s:=by
 obtain⟨⟨c,QJ,dt,sl⟩,hl,hc,n,hd⟩:=hL
 replace hc:c = .type "tuple":=hc
 replace hd:dt = .seq items n:=hd
 subst hc hd
 refine callType_new F.called_enumerate (by decide) (F.typeCall_enumerate_1 _) (F.newCall_enumerate_1 _) (fun obj=>F.args_object_init_2 obj _) F.entry_enumerate_new
  (eP l items n QJ sl) ⟨hl,?_⟩
 have hz:(s.heap.push { cls := .type "tuple_iterator",data := .fields #[.ref l, .int 0 0] }).objs.size=s.heap.objs.size + 1:=size_push ..
 show _/\_
 rw[hz]
 have he:IsEnum ((s.heap.push { cls := .type "tuple_iterator",data := .fields #[.ref l, .int 0 0] }).push
   { cls := .type "enumerate",data := .fields #[.none, .bool false, .ref s.heap.objs.size,rawInt 0, .none, .none] }) (s.heap.objs.size + 1) s.heap.objs.size 0 .none:=by
  have:=Heap.get?_push_size (s.heap.push { cls := .type "tuple_iterator",data := .fields #[.ref l, .int 0 0] })
   (o:={ cls := .type "enumerate",data := .fields #[.none, .bool false, .ref s.heap.objs.size,rawInt 0, .none, .none] }) rfl
  rw[hz]at this;exact this
 refine⟨⟨_,he,rfl⟩,h _ he ⟨_,Heap.get?_push_of_some _ (Heap.get?_push_size _ rfl),rfl,rfl⟩ (by rw[size_push,hz]) fun b o x=>Heap.get?_push_of_some _ (Heap.get?_push_of_some _ x)⟩
theorem ge {it l:Addr}{i:Nat} {items} {x:Value} {Q:Value->Shared->Prop} (hit:s.heap.IsTupleIter it l i)
  (hl:s.heap.IsTuple l items) (hx:items[i]? = some x)
  (hQ:∀ h',h'.IsTupleIter it l (i + 1)->Heap.SameBut it s.heap h'->Q x { s with heap:=h' }) :
  wpAny (model prog w) A (Builtin.SmallTypes.nextOf (.ref it)) Q E s:=by
 obtain⟨o,ho,hc,hd⟩:=id hit
 obtain⟨ol,O9,_,nl,DU⟩:=hl
 unfold Builtin.SmallTypes.nextOf
 refine wpAny_bind (wpAny_callSpecial?_slot (name:=Str.ofString "__next__") hit.typeIs F.slot_tuple_iterator_next
  (wpAny_call_entry F.slot_tuple_iterator_next hit.typeIs F.entry_tuple_iterator_next ?_ (F.args_tuple_iterator_next_1 _)))
 show wpAny _ _ (field (.ref it) 0 >>= _) _ _ s
 refine wpAny_bind (wpAny_field ho hd (x := .ref l) rfl ?_)
 show wpAny _ _ (if (Value.ref l == Value.none)=true then _ else _) _ _ s
 rw[if_neg (show ¬ ((Value.ref l == Value.none)=true) from Bool.false_ne_true)]
 show wpAny _ _ (field (.ref it) 1 >>= _) _ _ s
 refine wpAny_bind (wpAny_field ho hd (x := .int i 0) rfl ?_)
 show wpAny _ _ (seqItems? (.ref l) >>= _) _ _ s
 refine wpAny_bind (wpAny_seqItems O9 DU ?_)
 simp only[toNat_natCast,hx]
 refine wpAny_bind (wpAny_setField ho hd (by simp) (wpAny_pure ⟨x,rfl,wpAny_pure (hQ _ ?_ (Heap.SameBut.update ..))⟩))
 exact⟨_,Heap.get?_update_self _ ho (Obj.isFreed_of_fields (Obj.data_mapFields hd _)),(Obj.cls_mapFields ..).trans hc,by
  rw[Obj.data_mapFields hd];simp[rawInt]⟩
theorem gE {it l:Addr}{i:Nat} {items} {Q:Value->Shared->Prop} (hh:A.handled=none)
  (hit:s.heap.IsTupleIter it l i) (hl:s.heap.IsTuple l items) (hx:items[i]? = none)
  (hE:∀ h' e,Heap.ExtBut it s.heap h'->(∃ o,h'.get? e=some o/\o.cls = .type "StopIteration")->E (.ref e) { s with heap:=h' }) :
  wpAny (model prog w) A (Builtin.SmallTypes.nextOf (.ref it)) Q E s:=by
 obtain⟨o,ho,hc,hd⟩:=id hit
 obtain⟨ol,O9,_,nl,DU⟩:=hl
 unfold Builtin.SmallTypes.nextOf
 refine wpAny_bind (wpAny_callSpecial?_slot (name:=Str.ofString "__next__") hit.typeIs F.slot_tuple_iterator_next
  (wpAny_call_entry F.slot_tuple_iterator_next hit.typeIs F.entry_tuple_iterator_next ?_ (F.args_tuple_iterator_next_1 _)))
 show wpAny _ _ (field (.ref it) 0 >>= _) _ _ s
 refine wpAny_bind (wpAny_field ho hd (x := .ref l) rfl ?_)
 show wpAny _ _ (if (Value.ref l == Value.none)=true then _ else _) _ _ s
 rw[if_neg (show ¬ ((Value.ref l == Value.none)=true) from Bool.false_ne_true)]
 show wpAny _ _ (field (.ref it) 1 >>= _) _ _ s
 refine wpAny_bind (wpAny_field ho hd (x := .int i 0) rfl ?_)
 show wpAny _ _ (seqItems? (.ref l) >>= _) _ _ s
 refine wpAny_bind (wpAny_seqItems O9 DU ?_)
 simp only[toNat_natCast,hx]
 refine wpAny_bind (wpAny_rule (wpAny_bind (wpAny_setField ho hd (by simp) ?_)))
 show wpAny _ _ (newExc (.type "StopIteration") [] >>= _) _ _ _
 refine wpAny_bind ?_
 simp only[newExc,newTuple]
 refine wpAny_bind (wpAny_newObj_type ?_ (by size_fits))
 refine wpAny_bind (m:=firstArgMember _ _) (wpAny_of_eq (a:=Value.none) (by first | rfl | (simp only[firstArgMember];rfl)) ?_)
 refine wpAny_newObj_type ?_ (by size_fits)
 simp only[raiseNew]
 refine wpAny_bind (wpAny_handled ?_)
 first | rw[show A.in1.handled=none from hh] | rw[hh]
 refine wpAny_bind (wpAny_pure (wpAny_throw ?_))
 exact hE _ _ (((Heap.SameBut.update ..).extBut.push _).push _) ⟨_,Heap.get?_push_size _ rfl,rfl⟩
end
theorem gj {prog:Program}{w:World}{A:Around}(hh:A.handled=none)(it l:Addr)(Bj:l ≠ it)(items:Array Value) :
  Draws prog w A it [it,l] items.size (fun i v=>items[i]? = some v) (fun i h=>h.IsTupleIter it l i/\h.IsTuple l items) where
 live:=fun _ _ st=>let ⟨o,ho,_⟩:=st.1; ⟨o,ho⟩
 frame:=fun _ _ _ st hk=>⟨st.1.at fun o e=>hk it (by simp) o e,let ⟨o,ho,r⟩:=st.2; ⟨o,hk l (by simp) o ho,r⟩⟩
 item:=fun i s Q E hi st hQ=>by
  refine ge st.1 st.2 (x:=items[i]) (by simp[hi]) fun h' QK OA=>?_
  exact hQ _ h' s.toks (by simp[hi]) ⟨QK,let ⟨o,ho,r⟩:=st.2; ⟨o,OA.extBut l o Bj ho,r⟩⟩ OA
 done:=fun s Q E st hE=>gE hh st.1 st.2 (by simp) hE
end PySem
namespace L2
open PySem PySem.Spec PyProof.Rows
section
variable {X:Cx}{pins:List (Addr × Obj)}{σ:St}{H:Hp}{s:Shared}
theorem Inv.IA {h':Heap}{t':Nat}{a b p:Addr}{xs:List V}{us:List Value}(I:Inv X pins σ H s)(fa:gi X pins H a)(fb:gi X pins H b)(hp:s.heap.objs.size <= p)
  (k:∀ c o,c ≠ a->c ≠ b->s.heap.get? c=some o->h'.get? c=some o) (ka:∃ o,h'.get? a=some o) (kb:∃ o,h'.get? b=some o) (hl:xs.length <= sizeLine) (r:Vals xs us) (ht:B1 h' p us.toArray) :
  Inv X pins σ (upd H p (.tup xs)) { s with heap:=h',toks:=t' }:=by
 have hf:H p=none:=I.AD.fresh hp
 have nt:∀ c u,H c=some u->c ≠ p:=fun c u q z=>by rw[z,hf]at q;cases q
 have lt:∀ c o,s.heap.get? c=some o->c ≠ p:=fun c o q=>ne_of_lt (lt_of_lt_of_le (lt_size q) hp)
 have ne:∀ c,c ∉ [a,b]->c ≠ a/\c ≠ b:=fun c hc=>by simpa using hc
 refine I.call (g':=s.gens) (d':=s.drawn) (ch:=[a,b]) ⟨fun c o e n h1 h2=>k c o (ne c h2).1 (ne c h2).2 e,fun c o e n h1 h2=>⟨o.slots,k c o (ne c h2).1 (ne c h2).2 e⟩,fun c o e n h2=>by rw[ai (lt c o e)];exact n,
  fun c o e h2=>⟨o,k c o (ne c h2).1 (ne c h2).2 e⟩,fun c ys q=>by rw[ai (nt c _ q)];exact q,fun c o u q=>by rw[ai (nt c _ q)];exact q,fun c ps q=>⟨#[],by rw[ai (nt c _ q),q];simp⟩⟩ (fun c u q=>?_) I.bare fun c hc=>?_
 ·by_cases hc:c=p
  ·subst hc
   rw[ac]at q
   cases q
   exact⟨hl,us,r,ht⟩
  ·rw[ai hc]at q
   refine(I.AD c u q).BW (fun d v hd z=>?_) (fun d z=>by rw[ai (nt d _ z)];exact z) fun d ys z=>by rw[ai (nt d _ z)];exact z
   have nd:∀ e,H e=none->d ≠ e:=fun e he w=>by
    rcases hd with rfl | hd
    ·rw[w,he]at q;cases q
    ·rw[w,he]at hd;cases hd
   exact k d v (nd a fa.1) (nd b fb.1) z
 ·have JD:c=a∨c=b:=by simpa using hc
  rcases JD with rfl | rfl
  ·obtain⟨_,f1,_,f3,f4,f5⟩:=fa;exact⟨f3,f1,f4,f5⟩
  ·obtain⟨_,f1,_,f3,f4,f5⟩:=fb;exact⟨f3,f1,f4,f5⟩
theorem Inv.Ei {h':Heap}{t':Nat}{a b:Addr}(I:Inv X pins σ H s)(fa:gi X pins H a)(fb:gi X pins H b)
  (k:∀ c o,c ≠ a->c ≠ b->s.heap.get? c=some o->h'.get? c=some o):Inv X pins σ H { s with heap:=h',toks:=t' }:=by
 have ne:∀ c,c ∉ [a,b]->c ≠ a/\c ≠ b:=fun c hc=>by simpa using hc
 refine I.call (g':=s.gens) (d':=s.drawn) (ch:=[a,b]) ⟨fun c o e n h1 h2=>k c o (ne c h2).1 (ne c h2).2 e,fun c o e n h1 h2=>⟨o.slots,k c o (ne c h2).1 (ne c h2).2 e⟩,fun c o e n h2=>n,
  fun c o e h2=>⟨o,k c o (ne c h2).1 (ne c h2).2 e⟩,fun c ys q=>q,fun c o u q=>q,fun c ps q=>⟨#[],by rw[q];simp⟩⟩ (fun c u q=>?_) I.bare fun c hc=>?_
 ·refine(I.AD c u q).BW (fun d v hd z=>?_) (fun d z=>z) fun d ys z=>z
  have nd:∀ e,H e=none->d ≠ e:=fun e he w=>by
   rcases hd with rfl | hd
   ·rw[w,he]at q;cases q
   ·rw[w,he]at hd;cases hd
  exact k d v (nd a fa.1) (nd b fb.1) z
 ·have JD:c=a∨c=b:=by simpa using hc
  rcases JD with rfl | rfl
  ·obtain⟨_,f1,_,f3,f4,f5⟩:=fa;exact⟨f3,f1,f4,f5⟩
  ·obtain⟨_,f1,_,f3,f4,f5⟩:=fb;exact⟨f3,f1,f4,f5⟩
theorem lr {e it:Addr}{fp:List Addr}{n i:Nat}{P:Nat->Value->Prop}{Sx:Nat->Heap->Prop}{old:Value}{xs:List V}{E:Value->Shared->Prop}{elts:List Expr}{kk:Nat}{pos:Pos}
  (D:Draws X.prog X.w X.A.in1 it fp n P Sx) (I:Inv X pins σ H s) (he:IsEnum s.heap e it i old) (Hl:Sx i s.heap) (Bg:i < n) (Bj:e ≠ it) (VI:e ∉ fp) (fe:gi X pins H e) (fi:gi X pins H it)
  (hP:∀ v,P i v->∃ x,xs[i]? = some x/\RelV x v) :
  wpAny (model X.prog X.w) X.A (pyNext (.ref e)) (fun r s1=>∃ u,r=some u/\wpAny (model X.prog X.w) X.A (letOwnedTupleGo (.Tuple elts kk pos) (.ref e) u) (fun _ s2=>∃ p x,xs[i]? = some x/\H p=none/\u = .ref p /\
   Inv X pins σ (upd H p (.tup [.int i,x])) s2/\(∃ old,IsEnum s2.heap e it ((i + 1:Nat):Int) old)/\Sx (i + 1) s2.heap/\p ≠ e/\p ≠ it) E s1) E s:=by
 refine wpAny_pyNext_enum_itemD D he Hl Bg Bj VI fun x h' tk hx ho OA hT hsz hk=>⟨_,rfl,?_⟩
 refine wpAny_letOwnedTupleGo_enum ho fun h2 JK EF=>?_
 obtain⟨y,hy,ry⟩:=hP x hx
 have VJ:e < s.heap.objs.size:=lt_size he
 have hie:it < s.heap.objs.size:=by obtain⟨_,z⟩:=D.live _ _ Hl;exact lt_size z
 have Le:Sx (i + 1) h2:=D.frame _ _ _ OA fun b hb o z=>(EF.2 b fun q=>VI (q ▸ hb)).trans z
 refine⟨s.heap.objs.size,y,hy,I.AD.fresh (le_refl _),rfl,?_,⟨x,by simpa using JK⟩,Le,ne_of_gt VJ,ne_of_gt hie⟩
 refine Inv.IA (s:=s) (h':=h2) (t':=tk + 1) I fe fi (le_refl _) (fun c o h1 h2' z=>(EF.2 c h1).trans (hk c o h1 h2' z)) ⟨_,JK⟩ (let ⟨o,z⟩:=D.live _ _ Le; ⟨o,z⟩) (by show 2 <= sizeLine;decide) (us:=[.int i tk,x]) (.cons ⟨tk,rfl⟩ (.cons ry .nil)) ?_
 exact⟨_,(EF.2 _ (ne_of_gt VJ)).trans hT,⟨rfl,_,rfl⟩,rfl⟩
end
noncomputable def Ak (sq:Hp->List V->Prop):It :=
 ⟨fun i H=>∃ xs x,sq H xs/\xs[i]? = some x,fun i H v H'=>∃ p,H p=none/\v = .ref p/\∀ xs,sq H xs->∃ x,xs[i]? = some x/\H' = upd H p (.tup [.int i,x]),fun i H=>∃ xs,sq H xs/\xs.length=i⟩
theorem oY {P:Program}{w:World}{K:Frag}{elts:List Expr}{kk:Nat}{pos:Pos}(a e it:Addr)(Bj:e ≠ it):oP P w K (.Tuple elts kk pos) (Ak fun H=>Ap K H a) [e,it] e (fun i h=>(∃ old,IsEnum h e it (i:Int) old)/\h.IsListIter it a i) where
 mem:=by simp
 obj:=fun i h st b hb=>by
  obtain⟨⟨old,he⟩,o,ho,c,d⟩:=st
  have Dg:b=e∨b=it:=by simpa using hb
  rcases Dg with rfl | rfl
  ·exact⟨_,he,fun v z=>by have z':Data.fields _=Data.cell v:=z;cases z'⟩
  ·exact⟨o,ho,fun v z=>by rw[d]at z;cases z⟩
 keep:=fun i h h' st k=>by
  obtain⟨⟨old,he⟩,hi⟩:=st
  exact⟨⟨old,k e (by simp) _ he⟩,hi.at fun o z=>k it (by simp) o z⟩
 item:=by
  intro X hP hw hK hc i pins s σ H E I hf st hg
  subst hP hw hK
  obtain⟨xs,x,hq,hx⟩:=hg
  obtain⟨As,rv,p,hz⟩:=I.list hq
  obtain⟨⟨old,he⟩,hi⟩:=st
  have hl:i < As.toArray.size:=by
   have:=(gQ0 hx)
   have l2:=rv.length
   simp;omega
  have QL:e ≠ a:=by
   rintro rfl
   obtain⟨o,ho,Ej,_⟩:=p.isList
   rw[he]at ho;cases ho
   injection Ej with z;exact absurd z (by decide)
  have IB:a ≠ it:=by
   rintro rfl
   obtain⟨o,ho,Ej,_⟩:=p.isList
   obtain⟨o2,B9,Ds,_⟩:=hi
   rw[ho]at B9;cases B9;rw[Ej]at Ds
   injection Ds with z;exact absurd z (by decide)
  refine bD (lr (xs:=xs) (Draws.list (A:=X.A.in1) (I.ok.hd hc) it a IB As.toArray) I he ⟨hi,p.isList⟩ hl Bj (by simp only[mem_cons,not_mem_nil,or_false,not_or];exact⟨Bj,QL⟩) (hf e (by simp)) (hf it (by simp)) fun v hv=>?_) fun r s1 ⟨u,hr,h1⟩=>⟨u,hr,bD h1 fun _ s2 ⟨q,y,hy,QM,hu,I2,JK,EF,n1,n2⟩=>?_⟩
  ·obtain⟨u,hu,ru⟩:=rv.get hx
   have e1:As[i]? = some v:=by simpa using hv
   rw[hu]at e1;cases e1
   exact⟨x,hx,ru⟩
  ·refine⟨.ref q,_,I2,hu,⟨q,QM,rfl,fun zs EZ=>⟨y,by rw[I.Dm EZ hq];exact hy,rfl⟩⟩,⟨JK,EF.1⟩,fun b hb=>?_⟩
   have Dg:b=e∨b=it:=by simpa using hb
   rcases Dg with rfl | rfl
   ·rw[ai (Ne.symm n1)];exact(hf b (by simp)).1
   ·rw[ai (Ne.symm n2)];exact(hf b (by simp)).1
 done:=by
  intro X hP hw hK hc i pins s σ H E I hf st hg
  subst hP hw hK
  obtain⟨xs,hq,hx⟩:=hg
  obtain⟨As,rv,p,hz⟩:=I.list hq
  obtain⟨⟨old,he⟩,hi⟩:=st
  have hl:i=As.toArray.size:=by have l2:=rv.length;simp;omega
  have IB:a ≠ it:=by
   rintro rfl
   obtain⟨o,ho,Ej,_⟩:=p.isList
   obtain⟨o2,B9,Ds,_⟩:=hi
   rw[ho]at B9;cases B9;rw[Ej]at Ds
   injection Ds with z;exact absurd z (by decide)
  refine wpAny_pyNext_enum_endD (Draws.list (A:=X.A.in1) (I.ok.hd hc) it a IB As.toArray) he (by rw[← hl];exact⟨hi,p.isList⟩) fun h' CQ=>⟨rfl,?_⟩
  exact I.Ei (t':=s.toks) (hf e (by simp)) (hf it (by simp)) fun c o h1 h2 z=>CQ c o h2 z
 self:=fun _ _ _ _ _ st h=>by
  obtain⟨⟨old,he⟩,_⟩:=st
  exact wpAny_pyIter_enum he h
theorem oX {P:Program}{w:World}{K:Frag}{elts:List Expr}{kk:Nat}{pos:Pos}(a e it:Addr)(Bj:e ≠ it):oP P w K (.Tuple elts kk pos) (Ak fun H=>Ay K H a) [e,it] e (fun i h=>(∃ old,IsEnum h e it (i:Int) old)/\h.IsTupleIter it a i) where
 mem:=by simp
 obj:=fun i h st b hb=>by
  obtain⟨⟨old,he⟩,o,ho,c,d⟩:=st
  have Dg:b=e∨b=it:=by simpa using hb
  rcases Dg with rfl | rfl
  ·exact⟨_,he,fun v z=>by have z':Data.fields _=Data.cell v:=z;cases z'⟩
  ·exact⟨o,ho,fun v z=>by rw[d]at z;cases z⟩
 keep:=fun i h h' st k=>by
  obtain⟨⟨old,he⟩,hi⟩:=st
  exact⟨⟨old,k e (by simp) _ he⟩,hi.at fun o z=>k it (by simp) o z⟩
 item:=by
  intro X hP hw hK hc i pins s σ H E I hf st hg
  subst hP hw hK
  obtain⟨xs,x,hq,hx⟩:=hg
  obtain⟨As,rv,p,hz⟩:=I.tuple hq
  have pt:s.heap.IsTuple a As.toArray:=p
  obtain⟨⟨old,he⟩,hi⟩:=st
  have hl:i < As.toArray.size:=by
   have:=(gQ0 hx)
   have l2:=rv.length
   simp;omega
  have QL:e ≠ a:=by
   rintro rfl
   obtain⟨o,ho,Ej,_⟩:=pt
   rw[he]at ho;cases ho
   injection Ej with z;exact absurd z (by decide)
  have IB:a ≠ it:=by
   rintro rfl
   obtain⟨o,ho,Ej,_⟩:=pt
   obtain⟨o2,B9,Ds,_⟩:=hi
   rw[ho]at B9;cases B9;rw[Ej]at Ds
   injection Ds with z;exact absurd z (by decide)
  refine bD (lr (xs:=xs) (gj (A:=X.A.in1) (I.ok.hd hc) it a IB As.toArray) I he ⟨hi,pt⟩ hl Bj (by simp only[mem_cons,not_mem_nil,or_false,not_or];exact⟨Bj,QL⟩) (hf e (by simp)) (hf it (by simp)) fun v hv=>?_) fun r s1 ⟨u,hr,h1⟩=>⟨u,hr,bD h1 fun _ s2 ⟨q,y,hy,QM,hu,I2,JK,EF,n1,n2⟩=>?_⟩
  ·obtain⟨u,hu,ru⟩:=rv.get hx
   have e1:As[i]? = some v:=by simpa using hv
   rw[hu]at e1;cases e1
   exact⟨x,hx,ru⟩
  ·refine⟨.ref q,_,I2,hu,⟨q,QM,rfl,fun zs EZ=>⟨y,by rw[I.CF EZ hq];exact hy,rfl⟩⟩,⟨JK,EF.1⟩,fun b hb=>?_⟩
   have Dg:b=e∨b=it:=by simpa using hb
   rcases Dg with rfl | rfl
   ·rw[ai (Ne.symm n1)];exact(hf b (by simp)).1
   ·rw[ai (Ne.symm n2)];exact(hf b (by simp)).1
 done:=by
  intro X hP hw hK hc i pins s σ H E I hf st hg
  subst hP hw hK
  obtain⟨xs,hq,hx⟩:=hg
  obtain⟨As,rv,p,hz⟩:=I.tuple hq
  have pt:s.heap.IsTuple a As.toArray:=p
  obtain⟨⟨old,he⟩,hi⟩:=st
  have hl:i=As.toArray.size:=by have l2:=rv.length;simp;omega
  have IB:a ≠ it:=by
   rintro rfl
   obtain⟨o,ho,Ej,_⟩:=pt
   obtain⟨o2,B9,Ds,_⟩:=hi
   rw[ho]at B9;cases B9;rw[Ej]at Ds
   injection Ds with z;exact absurd z (by decide)
  refine wpAny_pyNext_enum_endD (gj (A:=X.A.in1) (I.ok.hd hc) it a IB As.toArray) he (by rw[← hl];exact⟨hi,pt⟩) fun h' CQ=>⟨rfl,?_⟩
  exact I.Ei (t':=s.toks) (hf e (by simp)) (hf it (by simp)) fun c o h1 h2 z=>CQ c o h2 z
 self:=fun _ _ _ _ _ st h=>by
  obtain⟨⟨old,he⟩,_⟩:=st
  exact wpAny_pyIter_enum he h
section
variable {X:Cx}{elts:List Expr}{kk:Nat}{Dq p pos:Pos}{a:Expr}{ta:TE}
noncomputable def QN (K:Frag)(t:TA):TI:=fun σ H R=>t σ H fun vs H1=>∃ a,vs=[.ref a]/\(∃ xs,Ap K H1 a xs)/\R (Ak fun H=>Ap K H a) H1
noncomputable def QO (K:Frag)(t:TA):TI:=fun σ H R=>t σ H fun vs H1=>∃ a,vs=[.ref a]/\(∃ xs,Ay K H1 a xs)/\R (Ak fun H=>Ay K H a) H1
theorem jN {t:TA}(hg:Gl X "enumerate")(hm:X.mg "enumerate" = none)(ha:PA X [a] t)(hs:autoParam (starEach [a] X.env=[(false,eval a X.env)]) η):PI X (.Tuple elts kk Dq) (.Call (.Name "enumerate" p) [a] [] pos) (QN X.K t):=by
 intro pins s σ H R I h
 refine Call_ (iK I hg hm boot_enumerate (PyProof.Rows.callWith_type1 (bD (ha pos pins s σ H _ I h) fun us s1 Au=>?_) hs rfl))
 obtain⟨vs,H1,I1,r1,q1⟩:=Au
 obtain⟨l,e,⟨xs,hq⟩,q⟩:=q1
 subst e
 cases r1 with
 | cons r rr =>
  cases rr
  cases r
  obtain⟨As,rv,pp,hz⟩:=I1.list hq
  refine call_enumerate_list pp.isList fun h' he hit hsz hk=>?_
  have I2:Inv X pins σ H1 { s1 with heap:=h' }:=I1.kept (t':=s1.toks) hk
  refine wpAny_pyIter_enum (s:={ s1 with heap:=h' }) he ?_
  refine⟨_,_,_,_,H1,rfl,I2,oY l _ s1.heap.objs.size (Nat.succ_ne_self _),⟨⟨_,he⟩,hit⟩,fun b hb=>?_,q⟩
  have Dg:b=s1.heap.objs.size + 1∨b=s1.heap.objs.size:=by simpa using hb
  have hle:s1.heap.objs.size <= b:=by
   rcases Dg with e | e
   ·rw[e];exact le_succ _
   ·rw[e];exact le_refl _
  exact I1.Eu hle (I1.AD.fresh hle)
theorem nA {t:TA}(hg:Gl X "enumerate")(hm:X.mg "enumerate" = none)(ha:PA X [a] t)(hs:autoParam (starEach [a] X.env=[(false,eval a X.env)]) η):PI X (.Tuple elts kk Dq) (.Call (.Name "enumerate" p) [a] [] pos) (QO X.K t):=by
 intro pins s σ H R I h
 refine Call_ (iK I hg hm boot_enumerate (PyProof.Rows.callWith_type1 (bD (ha pos pins s σ H _ I h) fun us s1 Au=>?_) hs rfl))
 obtain⟨vs,H1,I1,r1,q1⟩:=Au
 obtain⟨l,e,⟨xs,hq⟩,q⟩:=q1
 subst e
 cases r1 with
 | cons r rr =>
  cases rr
  cases r
  obtain⟨As,rv,pp,hz⟩:=I1.tuple hq
  refine eQ (show s1.heap.IsTuple l As.toArray from pp) fun h' he hit hsz hk=>?_
  have I2:Inv X pins σ H1 { s1 with heap:=h' }:=I1.kept (t':=s1.toks) hk
  refine wpAny_pyIter_enum (s:={ s1 with heap:=h' }) he ?_
  refine⟨_,_,_,_,H1,rfl,I2,oX l _ s1.heap.objs.size (Nat.succ_ne_self _),⟨⟨_,he⟩,hit⟩,fun b hb=>?_,q⟩
  have Dg:b=s1.heap.objs.size + 1∨b=s1.heap.objs.size:=by simpa using hb
  have hle:s1.heap.objs.size <= b:=by
   rcases Dg with e | e
   ·rw[e];exact le_succ _
   ·rw[e];exact le_refl _
  exact I1.Eu hle (I1.AD.fresh hle)
end
theorem ku {sq:Hp->List V->Prop}{xs:List V}{g:TG}{tb:TS}{D:oR}{σ:St}{H:Hp}(Pv:Nat->St->Hp->Prop)(h0:Pv 0 σ H)(hl:∀ i σ H,i <= xs.length->Pv i σ H->sq H xs)
  (hs:∀ i x p σ H,xs[i]? = some x->Pv i σ H->H p=none->g (.ref p) σ (upd H p (.tup [.int i,x])) fun σ2 H2=>tb { D with nx:=Pv (i + 1),ct:=Pv (i + 1),bk:=D.nx } σ2 H2) (hd:∀ σ H,Pv xs.length σ H->D.nx σ H) :
  ∃ W:Nat->Nat->St->Hp->Prop,(∃ m,W 0 m σ H)/\∀ i m σ H,W i m σ H ->
   ((Ak sq).stop i H/\D.nx σ H)∨((Ak sq).go i H/\∃ N:St->Hp->Prop,(∀ σ' H',N σ' H'->∃ m',m' < m/\W (i + 1) m' σ' H')/\∀ x H',(Ak sq).FD i H x H'->g x σ H' fun σ2 H2=>tb { D with nx:=N,ct:=N,bk:=D.nx } σ2 H2):=by
 refine⟨fun i m σ H=>m=xs.length - i/\i <= xs.length/\Pv i σ H,⟨xs.length,by simp,zero_le _,h0⟩,?_⟩
 rintro i m σ H ⟨rfl,hi,p⟩
 have q:=hl i σ H hi p
 by_cases Bg:i < xs.length
 ·refine .inr ⟨⟨xs,xs[i],q,by simp[Bg]⟩,Pv (i + 1),fun σ' H' p'=>⟨xs.length - (i + 1),by omega,rfl,Bg,p'⟩,fun x H' y=>?_⟩
  obtain⟨pp,hn,rfl,hx⟩:=y
  obtain⟨x',CQ,e⟩:=hx xs q
  subst e
  exact hs i x' pp σ H CQ p hn
 ·have e:i=xs.length:=by omega
  subst e
  exact .inl ⟨⟨xs,q,rfl⟩,hd σ H p⟩
noncomputable def BZ (d:PyData)(m:Nat):Prop:=d.canLay0=true/\d.depth <= m
theorem BZ.shaped {d:PyData}{m:Nat}(h:BZ d m)(hm:m <= 64):SeqAt.shaped d=true:=by
 unfold SeqAt.shaped
 rw[h.1,decide_eq_true (le_trans h.2 hm)];rfl
theorem bE (i:Int):BZ (.int i) 0:=⟨by simp[PyData.canLay0],by simp[PyData.depth]⟩
theorem uf (b:Bool):BZ (.bool b) 0:=⟨by simp[PyData.canLay0],by simp[PyData.depth]⟩
theorem Dy:BZ .none 0:=⟨by simp[PyData.canLay0],by simp[PyData.depth]⟩
theorem lS {m:Nat}:∀ {ds:List PyData},(∀ d ∈ ds,BZ d m)->PyData.canLayAll0 ds=true/\PyData.depthAll ds <= m
 | [],_=>⟨by simp[PyData.canLayAll0],by simp[PyData.depthAll]⟩
 | d :: r,h=>by
  obtain⟨a,b⟩:=lS (ds:=r) fun z hz=>h z (mem_cons_of_mem _ hz)
  obtain⟨c,e⟩:=h d mem_cons_self
  exact⟨by simp[PyData.canLayAll0,c,a],by simp only[PyData.depthAll];omega⟩
theorem bX {m:Nat}{ds:List PyData}(h:∀ d ∈ ds,BZ d m):BZ (.list ds) (m + 1):=by
 obtain⟨a,b⟩:=lS h
 exact⟨by simp[PyData.canLay0,a],by simp only[PyData.depth];omega⟩
theorem cP {m:Nat}{ds:List PyData}(h:∀ d ∈ ds,BZ d m):BZ (.tuple ds) (m + 1):=by
 obtain⟨a,b⟩:=lS h
 exact⟨by simp[PyData.canLay0,a],by simp only[PyData.depth];omega⟩
theorem neS {K:Frag}{x y:V}{H:Hp}{Q:VK}{d:PyData}(h1:Den K H x d)(h2:Den K H y d)(s:BZ d 64)(q:Q (.bl false) H):yY K x y H Q :=
 ⟨d,d,h1,h2,s.shaped (le_refl _),s.shaped (le_refl _),by rw[SeqAt.eqv_refl d s.1];exact q⟩
theorem BZ.le {d:PyData}{m n:Nat}(h:BZ d m)(l:m <= n):BZ d n:=⟨h.1,le_trans h.2 l⟩
end L2
namespace L2
open PySem
theorem o0 {n:Nat}{lo:Int}{g:TG}{tt:TT}{te:TE}{σ0:St}{H:Hp}{Q:VK}(p:Nat->Bool)(f:Nat->V)(hn:n < sizeLine)
  (hs:∀ (i:Nat)(acc:List V)(N:List V->Hp->Prop),i < n->N (if p i then acc ++ [f i] else acc) H->g (.int (lo + i)) σ0 H fun σ2 H2=>tt σ2 H2 fun b H3=>if b=true then te σ2 H3 fun y H4=>N (acc ++ [y]) H4 else N acc H3)
  (hq:∀ D,H D=none->Q (.ref D) (upd H D (.lst (((List.range n).filter p).map f)))) :
  dQ (wc lo n) g tt te σ0 Q H:=by
 refine⟨fun i m acc H'=>m=n - i/\i <= n/\H' = H/\acc=((List.range i).filter p).map f,⟨n,by simp,zero_le _,rfl,rfl⟩,?_⟩
 rintro i m acc H' ⟨rfl,hi,rfl,rfl⟩
 have hl:(((List.range i).filter p).map f).length < sizeLine:=by
  rw[length_map]
  have:=length_filter_le p (List.range i)
  rw[length_range]at this
  omega
 refine⟨hl,?_⟩
 by_cases Bg:i < n
 ·refine .inr ⟨Bg,fun Bn H2=>H2=H'/\Bn = ((List.range (i + 1)).filter p).map f,fun Bn H2 Au=>by obtain⟨h1,h2⟩:=Au;exact⟨n - (i + 1),by omega,rfl,Bg,h1,h2⟩,fun x H2 y=>?_⟩
  obtain⟨e,y⟩:=y
  subst e y
  refine hs i _ (fun Bn H3=>H3=H2/\Bn = ((List.range (i + 1)).filter p).map f) Bg ⟨rfl,?_⟩
  rw[range_succ,filter_append]
  cases hp:p i with
  | true=>simp[hp]
  | false=>simp[hp]
 ·have e:i=n:=by omega
  subst e
  exact .inl ⟨le_refl _,hq⟩
theorem i3 {K:Frag}{a:Addr}{xs:List V}{g:TG}{tt:TT}{te:TE}{σ0:St}{H:Hp}{Q:VK}(p:V->Bool)(f:V->V)(hn:xs.length < sizeLine)(ha:Ap K H a xs)
  (hs:∀ (x:V)(acc:List V)(N:List V->Hp->Prop),x ∈ xs->N (if p x then acc ++ [f x] else acc) H->g x σ0 H fun σ2 H2=>tt σ2 H2 fun b H3=>if b=true then te σ2 H3 fun y H4=>N (acc ++ [y]) H4 else N acc H3)
  (hq:∀ D,H D=none->Q (.ref D) (upd H D (.lst ((xs.filter p).map f)))) :
  dQ (vV K a) g tt te σ0 Q H:=by
 refine⟨fun i m acc H'=>m=xs.length - i/\i <= xs.length/\H' = H/\acc=((xs.take i).filter p).map f,⟨xs.length,by simp,zero_le _,rfl,rfl⟩,?_⟩
 rintro i m acc H' ⟨rfl,hi,rfl,rfl⟩
 have hl:(((xs.take i).filter p).map f).length < sizeLine:=by
  rw[length_map]
  have h1:=length_filter_le p (xs.take i)
  have h2:=length_take_le i xs
  omega
 refine⟨hl,?_⟩
 by_cases Bg:i < xs.length
 ·refine .inr ⟨⟨xs,xs[i],ha,by simp[Bg]⟩,fun Bn H2=>H2=H'/\Bn = ((xs.take (i + 1)).filter p).map f,fun Bn H2 Au=>by obtain⟨h1,h2⟩:=Au;exact⟨xs.length - (i + 1),by omega,rfl,Bg,h1,h2⟩,fun x H2 y=>?_⟩
  obtain⟨e,y⟩:=y
  subst e
  have hx:=y xs ha
  refine hs x _ (fun Bn H3=>H3=H2/\Bn = ((xs.take (i + 1)).filter p).map f) (mem_of_getElem? hx) ⟨rfl,?_⟩
  rw[take_succ,hx,filter_append]
  cases hp:p x with
  | true=>simp[hp]
  | false=>simp[hp]
 ·have e:i=xs.length:=by omega
  subst e
  rw[take_length]
  exact .inl ⟨⟨xs,ha,le_refl _⟩,hq⟩
theorem mG (k:Int):∀ ns:List Int,JH (.int k) (ns.map V.int)=decide (k ∈ ns)
 | []=>by simp[JH]
 | n :: r=>by
  have ih:=mG k r
  unfold JH at ih ⊢
  rw[map_cons,any_cons,ih]
  show((n == k) || decide (k ∈ r))=decide (k ∈ n :: r)
  by_cases h:k=n
  ·subst h;simp
  ·have h':¬ n=k:=fun z=>h z.symm
   simp[h,h']
theorem iO:∀ ns:List Int,(ns.map V.int).all iw=true
 | []=>rfl
 | n :: r=>by rw[map_cons,all_cons,iO r];rfl
open PySem.Spec PyProof.Rows
section
open PySem.W
variable {prog:Program}{w:World}{A:Around}{E:Value->Shared->Prop}{s:Shared}{K:Frag}{x C:Addr}{name:Str}{v:Value}
end
section
variable {X:Cx}{o e value:Expr}{f:Str}{pos pos':Pos}{ta tv:TE}
end
end L2
namespace L2
open PySem
noncomputable def rC:Option Int->Value->Bool
 | none,v=>v == .none
 | some k,v=>Value.isInt k v
noncomputable def wM:Option Int->Int
 | none=>4238894112
 | some k=>hashInt k
theorem ce {k:Option Int}{v:Value}(h:rC k v=true):(k=none/\v = .none)∨∃ i t,k=some i/\v = .int i t:=by
 cases k with
 | none=>exact .inl ⟨rfl,eq_of_beq h⟩
 | some i=>obtain⟨t,e⟩:=Value.isInt_shape h;exact .inr ⟨i,t,rfl,e⟩
section
variable {prog:Program}{w:World}{A:Around}{E:Value->Shared->Prop}{s:Shared}
theorem sT {Q:Int->Shared->Prop}(h:Q 4238894112 { s with toks:=s.toks + 1 }):wpAny (model prog w) A (pyHash .none) Q E s:=by
 have hT:s.TypeIs .none "NoneType":=rfl
 unfold pyHash
 have hv:[Value.none].any Value.onHeap=false:=rfl
 refine wpAny_bind ?_
 rw[cRoomFor,if_neg (by rw[hv];exact Bool.false_ne_true)];refine wpAny_pure ?_
 refine wpAny_bind (wpAny_specialOf hT F.slot_NoneType_hash.lookup ?_)
 show wpAny _ _ (if (some (Value.builtin "NoneType.__hash__") == some Value.none)=true then _ else _) Q E s
 rw[if_neg (by rw[beq_builtin_none];exact Bool.false_ne_true)]
 refine wpAny_bind (wpAny_specialOf hT F.slot_NoneType_hash.lookup ?_)
 show wpAny _ _ (callSpecialIfBoundUnlessNone? .none "__hash__" _ >>= _) Q E s
 refine wpAny_bind (wpAny_callSpecialIfBoundUnlessNone?_slot hT F.slot_NoneType_hash (wpAny_call_entry F.slot_NoneType_hash hT F.entry_NoneType_hash
  (show wpAny _ _ (do ret (← mkInt 4238894112)) _ _ s from wpAny_ret_mkInt ?_) (F.args_NoneType_hash_1 _)))
 exact wpAny_pure h
theorem zU {a b:Option Int}{u v:Value}{Q:Bool->Shared->Prop}(hu:rC a u=true)(hv:rC b v=true)(h:Q (decide (a=b)) s):wpAny (model prog w) A (PySem.eqBool u v) Q E s:=by
 rcases ce hu with ⟨rfl,rfl⟩ | ⟨i,t,rfl,rfl⟩<;>rcases ce hv with ⟨rfl,rfl⟩ | ⟨j,t',rfl,rfl⟩
 ·unfold eqBool
  refine wpAny_holding ?_
  refine wpAny_ite_split (fun _=>wpAny_bind (wpAny_rule (wpAny_pure (by simpa using h)))) (fun n=>absurd rfl n)
 ·exact PySem.SeqAt.EqAt.none_int j t' prog w E Q (by simpa using h)
 ·exact PySem.SeqAt.EqAt.int_none i t prog w E Q (by simpa using h)
 ·refine wpAny_eqBool_int ?_
  have e:(i == j)=decide (some i=some j):=by
   by_cases q:i=j
   ·simp[q]
   ·simp[q]
  rw[e];exact h
end
noncomputable def fY (prog:Program)(w:World):KeyKind prog w (Option Int) where
 is:=rC
 hash:=wM
 inj:=fun v a b ha hb=>by
  rcases ce ha with ⟨rfl,rfl⟩ | ⟨i,t,rfl,rfl⟩<;>rcases ce hb with ⟨rfl,e⟩ | ⟨j,t',rfl,e⟩
  ·rfl
  ·cases e
  ·cases e
  ·cases e;rfl
 byValue:=fun k v h=>by
  rcases ce h with ⟨_,rfl⟩ | ⟨i,t,_,rfl⟩<;>rfl
 pyHash:=fun {A E s k v Q} hv h=>by
  rcases ce hv with ⟨rfl,rfl⟩ | ⟨i,t,rfl,rfl⟩
  ·exact sT h
  ·exact wpAny_pyHash_int h
 eqBool:=fun hu hv h=>zU hu hv h
 «strs»:=fun k x t v h=>by
  rcases ce h with ⟨_,e⟩ | ⟨i,t,_,e⟩<;>cases e
open PySem.Spec PyProof.Rows
abbrev bV:=List (Option Int)
noncomputable def vX:Option Int->V
 | none => .AG
 | some i => .int i
abbrev gW:=bV × Addr × V
abbrev kF (p:gW)(q:bV × Addr × Value):Prop:=p.1=q.1/\p.2.1=q.2.1/\RelV p.2.2 q.2.2
noncomputable def Al (P:Program)(w:World)(a:Addr)(Aw:List gW):Heap->Prop:=fun h=>Aw.length <= sizeLine/\(a == sysModules)=false/\∃ xs,Paired kF Aw xs /\
 ∃ o es ep,h.get? a=some o/\o.ExactDict/\o.data = .dict es ep/\es.toList=xs.map (entryOfKey (tupleKind (fY P w)))/\(xs.map (·.1)).Nodup
noncomputable def oS (P:Program)(w:World)(a:Addr)(Aw:List gW):HO := .ext (Al P w a Aw)
noncomputable def Bk (P:Program)(w:World)(H:Hp)(a:Addr)(Aw:List gW):Prop:=H a=some (oS P w a Aw)/\∀ x ∈ Aw,H x.2.1=some (.tup (x.1.map vX))
theorem Bk.same {P:Program}{w:World}{H H':Hp}{a:Addr}{Aw:List gW}(h:Bk P w H a Aw)(s:An H H'):Bk P w H' a Aw:=⟨s _ _ h.1,fun x hx=>s _ _ (h.2 x hx)⟩
noncomputable def dA (Aw:List gW)(k:bV):Option V:=(Aw.find? fun x=>decide (x.1=k)).map (·.2.2)
noncomputable def sk (k:bV)(v:V)(x:gW):gW:=if x.1=k then (x.1,x.2.1,v) else x
noncomputable def iD (Aw:List gW)(k:bV)(b:Addr)(v:V):List gW:=if (dA Aw k).isSome then Aw.map (sk k v) else Aw ++ [(k,b,v)]
theorem jw {k:bV}:dA [] k=none:=rfl
theorem c4 {x:gW}{Aw:List gW}{k:bV}:dA (x :: Aw) k=if x.1=k then some x.2.2 else dA Aw k:=by
 unfold dA
 rw[find?_cons]
 by_cases h:x.1=k
 ·rw[decide_eq_true h,if_pos h];rfl
 ·rw[decide_eq_false h,if_neg h]
theorem tF {Aw:List gW}{k k':bV}{v:V}:dA (Aw.map (sk k v)) k' = if k' = k then (dA Aw k).map (fun _=>v) else dA Aw k':=by
 induction Aw with
 | nil=>rw[map_nil,jw,jw];split<;>rfl
 | cons x Aw ih =>
  rw[map_cons,c4,ih,c4,c4]
  unfold sk
  by_cases h:x.1=k<;>by_cases h':k' = k
  ·have:x.1=k':=h.trans h'.symm
   simp[h,h']
  ·have:¬ x.1=k':=fun z=>h' (z.symm.trans h)
   rw[if_pos h,if_neg h',if_neg this,if_neg this,if_neg h']
  ·subst h'
   simp[h]
  ·simp[h,h']
theorem mW {Aw:List gW}{k k':bV}{b:Addr}{v:V}(h:dA Aw k=none):dA (Aw ++ [(k,b,v)]) k' = if k' = k then some v else dA Aw k':=by
 induction Aw with
 | nil =>
  rw[nil_append,c4,jw]
  by_cases e:k' = k
  ·rw[if_pos e,if_pos e.symm]
  ·rw[if_neg e,if_neg (Ne.symm e)]
 | cons x Aw ih =>
  rw[c4]at h
  by_cases hx:x.1=k
  ·rw[if_pos hx]at h;cases h
  ·rw[if_neg hx]at h
   rw[List.cons_append,c4,ih h,c4]
   by_cases e:k' = k
   ·subst e;rw[if_neg hx,if_pos rfl,if_pos rfl]
   ·rw[if_neg e,if_neg e]
theorem tE {Aw:List gW}{k k':bV}{b:Addr}{v:V}:dA (iD Aw k b v) k' = if k' = k then some v else dA Aw k':=by
 unfold iD
 cases h:dA Aw k with
 | none=>rw[if_neg (by simp)];exact mW h
 | some u =>
  rw[if_pos (by simp),tF,h];rfl
theorem iU {Aw:List gW}{k:bV}{b:Addr}{v:V}:(iD Aw k b v).length <= Aw.length + 1:=by
 unfold iD
 split
 ·rw[length_map];omega
 ·rw[length_append];exact le_refl _
theorem sj {Aw:List gW}{k:bV}{b:Addr}{v:V}{F:bV->Addr->Prop}(h:∀ x ∈ Aw,F x.1 x.2.1)(hk:F k b):∀ x ∈ iD Aw k b v,F x.1 x.2.1:=by
 intro x hx
 unfold iD at hx
 split at hx
 ·obtain⟨y,hy,rfl⟩:=mem_map.mp hx
  unfold sk
  split
  ·exact h y hy
  ·exact h y hy
 ·rcases mem_append.mp hx with q | q
  ·exact h x q
  ·rw[mem_singleton.mp q];exact hk
theorem mK {Aw:List gW}{xs:List (bV × Addr × Value)}(r:Paired kF Aw xs)(k:bV):BV (dA Aw k) ((atKey xs k).map (·.2)):=by
 induction r with
 | nil=>exact True.intro
 | @cons p q _ _ h1 _ ih =>
  rw[c4]
  unfold atKey at ih ⊢
  rw[find?_cons]
  by_cases e:p.1=k
  ·rw[if_pos e,decide_eq_true (h1.1.symm.trans e)];exact h1.2.2
  ·rw[if_neg e,decide_eq_false (fun z=>e (h1.1.trans z))];exact ih
theorem iT {o:Option V}{u:Option Value}(r:BV o u):o.isSome=u.isSome:=by
 cases o<;>cases u<;>first | rfl | exact r.elim
theorem si {o:Option V}{u:Option Value}{d:V}{r:Value}(h:BV o u)(hd:RelV d r):RelV (o.getD d) (u.getD r):=by
 cases o<;>cases u<;>first | exact hd | exact h | exact h.elim
theorem xB {Aw:List gW}{xs:List (bV × Addr × Value)}{k:bV}{v:V}{u:Value}(r:Paired kF Aw xs)(hv:RelV v u):Paired kF (Aw.map (sk k v)) (xs.map (putAt k u)):=by
 induction r with
 | nil=>exact .nil
 | @cons p q _ _ h1 _ ih =>
  refine .cons ?_ ih
  unfold sk putAt
  by_cases e:p.1=k
  ·rw[if_pos e,if_pos (h1.1.symm.trans e)];exact⟨h1.1,h1.2.1,hv⟩
  ·rw[if_neg e,if_neg (fun z=>e (h1.1.trans z))];exact h1
theorem vF {Aw:List gW}{xs:List (bV × Addr × Value)}{p:gW}{q:bV × Addr × Value}(r:Paired kF Aw xs)(h:kF p q):Paired kF (Aw ++ [p]) (xs ++ [q]):=by
 induction r with
 | nil=>exact .cons h .nil
 | cons h1 _ ih=>exact .cons h1 ih
theorem xA {Aw:List gW}{xs:List (bV × Addr × Value)}{k:bV}{b:Addr}{v:V}{u:Value}(r:Paired kF Aw xs)(hv:RelV v u):Paired kF (iD Aw k b v) (storedH xs k b u):=by
 have h:=iT (mK r k)
 rw[Option.isSome_map]at h
 unfold iD storedH
 rw[h]
 split
 ·exact xB r hv
 ·exact vF r ⟨rfl,rfl,hv⟩
section
variable {P:Program}{w:World}{H:Hp}{h:Heap}{a b:Addr}{Aw:List gW}{k:bV}
theorem iF:∀ {k:bV}{us:List Value},Vals (k.map vX) us->ItemsAre (fY P w) k us
 | [],_, .nil => .nil
 | none :: _,_, .cons r t => .cons (by have e:_=Value.none:=r;subst e;rfl) (iF t)
 | some i :: _,_, .cons r t => .cons (by obtain⟨tk,e⟩:=(show ∃ t,_=Value.int i t from r);subst e;exact beq_self_eq_true i) (iF t)
theorem jk (ok:Cc P w H h)(e:H b=some (.tup (k.map vX))):(tupleKind (fY P w)).is h k b:=by
 obtain⟨_,As,r,o,ho,⟨hc,n,hd⟩,_⟩:=ok _ _ e
 exact⟨o,As.toArray,n,ho,hc,hd,iF r⟩
theorem jt (ok:Cc P w H h)(e:Bk P w H a Aw):Aw.length <= sizeLine/\(a == sysModules)=false/\∃ xs,Paired kF Aw xs/\h.DictOfH (tupleKind (fY P w)) a xs:=by
 obtain⟨e,ek⟩:=e
 obtain⟨⟨z,hs,xs,r,o,es,ep,h1,h2,h3,h4,h5⟩,_⟩:=ok _ _ e
 refine⟨z,hs,xs,r,o,es,ep,h1,h2,h3,h4,?_,h5⟩
 have all:∀ {Aw:List gW}{xs:List (bV × Addr × Value)},Paired kF Aw xs->(∀ x ∈ Aw,H x.2.1=some (.tup (x.1.map vX)))->∀ x ∈ xs,(tupleKind (fY P w)).is h x.1 x.2.1:=by
  intro Aw xs r
  induction r with
  | nil=>intro _ x hx;cases hx
  | @cons p q _ _ h1 _ ih =>
   intro hk x hx
   rcases mem_cons.mp hx with rfl | hx
   ·have:=hk p mem_cons_self
    rw[h1.1,h1.2.1]at this
    exact jk ok this
   ·exact ih (fun y hy=>hk y (mem_cons_of_mem _ hy)) x hx
 exact all r ek
theorem ls (h1 h2:Heap)(p:Al P w a Aw h1)(st:∀ o,h1.get? a=some o->h2.get? a=some o):Al P w a Aw h2:=by
 obtain⟨z,hs,xs,r,o,es,ep,q,c⟩:=p
 exact⟨z,hs,xs,r,o,es,ep,st _ q,c⟩
theorem vG (hb:sysModules < h.objs.size):AR P w H (h.push { cls := .type "dict",data := .dict #[] }) h.objs.size (oS P w h.objs.size []) :=
 ⟨⟨zero_le _,beq_eq_false_iff_ne.mpr (Ne.symm (ne_of_lt hb)),[], .nil,_,#[],0,Heap.get?_push_size _ rfl,⟨rfl,rfl,rfl⟩,rfl,rfl,nodup_nil⟩,⟨_,Heap.get?_push_size _ rfl⟩,fun _ _=>ls _ _⟩
end
noncomputable def xM (P:Program)(w:World)(H:Hp)(a:Addr)(y:V)(r:Option V):Prop:=∃ Aw k b,Bk P w H a Aw/\y = .ref b/\H b=some (.tup (k.map vX))/\r=dA Aw k
section
variable {X:Cx}{pins:List (Addr × Obj)}{σ:St}{H:Hp}{s:Shared}{a b:Addr}{y v d:V}{u r:Value}{o:Option V}{A:Around}{E:Value->Shared->Prop}
theorem Ad (I:Inv X pins σ H s):sysModules < s.heap.objs.size :=
 lt_trans (by decide) (show mainGlobals < s.heap.objs.size from (I.mod.glob.keeps I.bk).lt)
theorem QP {Q:Value->Shared->Prop}(hu:A.units + 1 < cLine)(I:Inv X pins σ H s)(g:xM X.prog X.w H a y o)(ry:RelV y u)(h:∀ s',Inv X pins σ H s'->Q (.bool o.isSome) s') :
  wpAny (model X.prog X.w) A (compareOp .In u (.ref a)) Q E s:=by
 obtain⟨Aw,k,b,e,rfl,eb,rfl⟩:=g
 cases (show u=Value.ref b from ry)
 obtain⟨_,hd,xs,rel,dd⟩:=jt I.AD e
 refine wpAny_in_heap (tupleKind_room_in1 hu) (jk I.AD eb) hd dd ?_
 have q:=iT (mK rel k)
 rw[Option.isSome_map]at q
 rw[← q]
 exact h _ (I.tok _)
theorem zF {Q:Value->Shared->Prop}(hu:A.units + 1 < cLine)(I:Inv X pins σ H s)(g:xM X.prog X.w H a y o)(ry:RelV y u)(rd:RelV d r)(h:∀ w' s',Inv X pins σ H s'->RelV (o.getD d) w'->Q w' s') :
  wpAny (model X.prog X.w) A (call (.builtin "dict.get") [.ref a,u,r]) Q E s:=by
 obtain⟨Aw,k,b,e,rfl,eb,rfl⟩:=g
 cases (show u=Value.ref b from ry)
 obtain⟨_,hd,xs,rel,dd⟩:=jt I.AD e
 exact call_meetsIn PySem.F.slot_dict_get dd.typeIs PySem.F.entry_dict_get (PySem.F.args_dict_get_3 _ _ _) (meetsH_dict_get_default (tupleKind (fY X.prog X.w)) a b hd r)
  ⟨tupleKind_room_in1 hu,k,xs,jk I.AD eb,dd,h _ _ (I.tok _) (si (mK rel k) rd)⟩
theorem Lf {Aw:List gW}{k:bV}{Q:Unit->Shared->Prop}(hu:A.units + 1 < cLine)(I:Inv X pins σ H s)(e:Bk X.prog X.w H a Aw)(eb:H b=some (.tup (k.map vX)))(hl:Aw.length < sizeLine)(rv:RelV v r)
  (h:∀ s',Inv X pins σ (upd H a (oS X.prog X.w a (iD Aw k b v))) s'->Q () s'):wpAny (model X.prog X.w) A (setItem (.ref a) (.ref b) r) Q E s:=by
 obtain⟨z,hd,xs,rel,dd⟩:=jt I.AD e
 have hz:xs.length <= sizeLine:=by rw[← Paired.length rel];exact z
 have C2:(iD Aw k b v).length <= sizeLine:=le_trans iU hl
 refine wpAny_setItem_heap (hsz:=hz) (tupleKind_room_in1 hu) (jk I.AD eb) dd fun h' dd' hs=>h _ ?_
 obtain⟨q,es,ep,hq,h2,h3,h4,_,h5⟩:=dd'
 exact I.write (x:=a) (e:=a) (by rw[e.1];exact True.intro) (.inl rfl) (fun c q hc z=>(hs.2 c hc).trans z) ⟨q,hq⟩
  ⟨⟨C2,hd,_,xA rel rv,q,es,ep,hq,h2,h3,h4,h5⟩,⟨q,hq⟩,fun _ _=>ls _ _⟩
theorem sW {Aw:List gW}(I:Inv X pins σ H s)(e:Bk X.prog X.w H a Aw):s.TypeIs (.ref a) "dict"/\∀ b,Value.ref a = .ref b->∃ ob,s.heap.get? b=some ob/\ob.dict=none:=by
 obtain⟨_,_,xs,_,dd⟩:=jt I.AD e
 refine⟨dd.typeIs,fun b q=>?_⟩
 cases q
 obtain⟨ob,_,_,h1,h2,_⟩:=dd
 exact⟨ob,h1,h2.2.1⟩
end
noncomputable def xP (P:Program)(w:World):TE:=fun _ H Q=>∀ p,H p=none->Q (.ref p) (upd H p (oS P w p []))
noncomputable def QQ (P:Program)(w:World)(ty td:TE):TE:=fun σ H Q=>ty σ H fun y H1=>td σ H1 fun x H2=>∃ a o,x = .ref a/\xM P w H2 a y o/\Q (.bl o.isSome) H2
noncomputable def Lg (P:Program)(w:World)(td ty tv:TE):TS:=fun D σ H=>tv σ H fun v H1=>td σ H1 fun x H2=>ty σ H2 fun y H3=>∃ a Aw k b,x = .ref a/\Bk P w H3 a Aw/\y = .ref b/\H3 b=some (.tup (k.map vX))/\Aw.length < sizeLine/\D.nx σ (upd H3 a (oS P w a (iD Aw k b v)))
noncomputable def yz (P:Program)(w:World)(td:TE)(t:TA):TE:=fun σ H Q=>td σ H fun x H1=>∃ a Aw,x = .ref a/\Bk P w H1 a Aw/\t σ H1 fun xs H2=>∃ y z o,xs=[y,z]/\xM P w H2 a y o/\Q (o.getD z) H2
section
variable {X:Cx}{o i e f value:Expr}{pos pos' apos Bv:Pos}{td ty tv tx:TE}
theorem wL:PE X (.Dict [] [] pos) (xP X.prog X.w):=fun pins s σ H Q I h =>
 wpAny_Dict_empty ⟨.ref s.heap.objs.size,_,I.laid (a:=s.heap.objs.size) (o:=oS X.prog X.w s.heap.objs.size []) (t':=s.toks) (fun _ _ q=>Heap.get?_push_of_some _ q) (le_refl _) (vG (Ad I)),rfl,h _ (I.AD.fresh (le_refl _))⟩
theorem ze (hu:X.A.units + 1 < cLine)(hi:PE X i ty)(ho:PE X o td):PC X .In i o (QQ X.prog X.w ty td):=by
 intro pins s σ H Q I h
 refine bD (hi pins s σ H _ I h) fun iv s1 ⟨y,H1,I1,ry,q1⟩=>bD (ho pins s1 σ H1 _ I1 q1) fun u s2 Au=>?_
 obtain⟨x,H2,I2,rx,a,ov,ex,g,q2⟩:=Au
 subst ex
 obtain rfl:u=Value.ref a:=rx
 exact QP hu I2 g ry fun s3 I3=>⟨.bl ov.isSome,H2,I3,rfl,q2⟩
theorem wK (hu:X.A.units + 1 < cLine)(ho:PE X o td)(hi:PE X i ty)(hv:PE X value tv)(hs:swapsWith value (some (.Subscript o i pos')) pos.line X.env=pure false) :
  PS X (.Assign [.Subscript o i pos'] value pos) (Lg X.prog X.w td ty tv):=by
 intro pins s σ H D I h
 refine wpAny_Assign_Subscript (bD (hv pins s σ H _ I h) fun r s1 ⟨v,H1,I1,rv,q1⟩=>bD (ho pins s1 σ H1 _ I1 q1) fun u s2 ⟨x,H2,I2,rx,q2⟩=>bD (hi pins s2 σ H2 _ I2 q2) fun iv s3 Au=>?_) hs
 obtain⟨y,H3,I3,ry,a,Aw,k,b,ex,e,ey,eb,hl,q3⟩:=Au
 subst ex ey
 obtain rfl:u=Value.ref a:=rx
 obtain rfl:iv=Value.ref b:=ry
 exact Lf hu I3 e eb hl rv fun s4 I4=>⟨σ,_,I4,q3⟩
theorem uC {es:List Expr}{t:TA}(hu:X.A.units + 1 < cLine)(ho:PE X o td)(ha:PA X (e :: es) t)
  (h1:autoParam (attributeBase o "get" X.env (eval o X.env)=eval o X.env) η)
  (h2:autoParam (((backTo Bv (starEach (e :: es) X.env)).all (fun x=>!x.1) && (backToKw Bv (keywordEach [] X.env)).all (fun x=>x.1.isSome) && decide ((e :: es).length + ([]:List Keyword).length + (if ([]:List Keyword).isEmpty then 0 else 1) < 30))=true) η)
  (h3:autoParam ((apos.endLine == Bv.line)=true) η) (h4:autoParam (starEach (e :: es) X.env=(false,eval e X.env) :: starEach es X.env) η) (h5:autoParam ((backTo Bv (starEach es X.env)).any (·.1)=false) η) :
  PE X (.Call (.Attribute o "get" apos) (e :: es) [] Bv) (yz X.prog X.w td t):=by
 intro pins s σ H Q I h
 refine wpAny_Call_method_late h1 h2 h3 rfl (bD (ho pins s σ H _ I h) fun v s1 Au=>?_)
 obtain⟨x,H1,I1,r1,a,Aw,ex,e1,q1⟩:=Au
 subst ex
 obtain rfl:v=Value.ref a:=r1
 obtain⟨t1,t2⟩:=sW I1 e1
 refine⟨"dict", "dict.get",PySem.F.plainAttrs_dict,PySem.F.slot_dict_get,PySem.F.type_dict_get,t1,t2,?_⟩
 have hA:=ha Bv pins s1 σ H1 _ I1 q1
 rw[h4]at hA ⊢
 refine Calls.callWith_builtin (by show(false || (backTo Bv (starEach es X.env)).any (·.1))=false;rw[h5]<;>rfl) (Calls.evalArgs_plain ?_)
 refine bD hA fun us s2 Au=>?_
 obtain⟨vs,H2,I2,r2,y,z,ov,evs,g,q2⟩:=Au
 subst evs
 cases r2 with
 | cons ry r2=>cases r2 with
  | cons rz r2=>cases r2 with
   | nil=>exact zF hu I2 g ry rz fun w' s4 I4 FY=>⟨_,H2,I4,FY,q2⟩
end
structure yq (K:Frag)(C:Addr)(m:Str)(f:Addr):Prop where
 reads:PySem.W.readsIn K C (.type "type")=true
 found:PySem.W.findCls K (.ref C) (.type "type") m=some (.val (.ref f))
 spec:PySem.W.specialIn K (.ref C) "__getattribute__" = some (some (.builtin "type.__getattribute__"))
 kp:keepIn K (.ref f)=true
noncomputable def y3 (C:Addr)(sp:Sp)(dvs:List V)(E:XK)(ta:TE)(t:TA):TE:=fun σ H Q=>ta σ H fun x H1=>x = .ref C/\t σ H1 fun vs H2=>sp (vs ++ dvs) H2 Q E
section
variable {X:Cx}{CX:rX}{k:Nat}{f C:Addr}{fd:FuncData}{ps:List Str}{sp:Sp}{dvs:List V}{ds:List Value}{E:XK}{x m:Str}{p pos apos:Pos}{e o:Expr}{es:List Expr}{ta:TE}{t:TA}
theorem uE {pl:Sem Bool}(he:PE X o ta)(hm:yq X.K C m f)(F:Ao X.prog X.w X.K X.mg X.base CX k f fd ps sp)(hr:Ax k X.A)(hb:Binds X.K fd ps ds)(hd:Vals dvs ds)(hx:fQ CX X E)(ha:PA X (e :: es) t)
  (h1:autoParam (starEach (e :: es) X.env=(false,eval e X.env) :: starEach es X.env) η) (h2:autoParam ((backTo pos (starEach es X.env)).any (·.1)=false) η)
  (ht:eval (.Call (.Attribute o m apos) (e :: es) [] pos) X.env=(do
   let ov ← eval o X.env
   standAt apos.atName
   let (f,first) ← holding [ov] (getMethod ov m pl)
   callWith pos f first (backTo pos (starEach (e :: es) X.env)) (backToKw pos (keywordEach [] X.env))):=by rfl) :
  PE X (.Call (.Attribute o m apos) (e :: es) [] pos) (y3 C sp dvs E ta t):=by
 intro pins s σ H Q I h
 refine PySem.W.methodCall_KW (pl:=pl) (bD (he pins s σ H _ I h) fun u s1 Au=>?_) ht
 obtain⟨x,H1,I1,rx,ex,q⟩:=Au
 subst ex
 obtain rfl:u=Value.ref C:=rx
 refine PySem.W.method_cls I1.BR hm.spec (PySem.W.cls_value I1.BR hm.reads hm.found rfl ?_)
 refine PySem.W.callWith_K (first:=[]) (h₀:=X.base) I.ok.mod.ED hm.kp (bD (ha pos pins _ σ H1 _ (I1.tok _) q) fun us s2 ⟨vs,H2,I2,r,q2⟩=>⟨I2.BR,?_⟩) h1 h2
 exact lW F hr hb hd hx I2 r q2
end
section
variable {X:Cx}
end
section
variable {X:Cx}{tg:Expr}
noncomputable def QR:V->List V->Hp->VK->Prop:=fun x vs H Q=>∃ (l:Addr)(ns:List Int)(k:Int),x = .ref l/\vs=[.int k]/\H l=some (.lst (ns.map V.int))/\k ∈ ns/\ns.length <= 100000/\Q (.int (ns.idxOf k:Nat)) H
theorem sL:O2 X "list.index" QR:=by
 intro pins s σ H x vs v us Q I rx rv h
 obtain⟨l,ns,k,rfl,rfl,hH,hk,hlen,q⟩:=h
 cases rx
 obtain⟨u,rfl,ru⟩:=rv.one
 obtain⟨t,rfl⟩:=ru
 obtain⟨z,As,n,r,hl,e⟩:=I.Du hH
 have hi:IntsAre As.toArray.toList ns:=qk r
 have Dz:As.length=ns.length:=by rw[← r.length,length_map]
 have hj:ns.idxOf k < ns.length:=List.idxOf_lt_length_of_mem hk
 have at_:∀ m (hm:m < As.toArray.size),∃ t,As.toArray[m]=Value.int (ns[m]'(by simpa [Dz] using hm)) t:=fun m hm=>by
  have Hq:m < As.length:=by simpa using hm
  have hv:(ns.map V.int)[m]? = some (V.int (ns[m]'(by omega))):=by simp[show m < ns.length by omega]
  obtain⟨w',hw,FY⟩:=r.get hv
  obtain⟨t',rfl⟩:=FY
  refine⟨t',?_⟩
  have:As[m]? = some As[m]:=getElem?_eq_getElem Hq
  rw[this]at hw
  simpa using Option.some.inj hw
 let e':Value->Bool:=fun y=>Value.isInt k y
 refine call_meets PySem.F.slot_list_index ⟨_,e,rfl⟩ PySem.F.entry_list_index (PySem.F.args_list_index_2 _ _)
  (SeqAt.list_indexAt l As.toArray n none #[] (.int k t) e' (ns.idxOf k) (by simpa [Dz] using hj) (by omega) ?_ ?_) ⟨e,fun y hy=>?_,?_⟩
 ·obtain⟨t',et⟩:=at_ (ns.idxOf k) (by simpa [Dz] using hj)
  show Value.isInt k (As.toArray[ns.idxOf k]'(by simpa [Dz] using hj))=true
  rw[et,List.getElem_idxOf]
  simp[Value.isInt]
 ·intro m hm hmj
  obtain⟨t',et⟩:=at_ m hm
  show Value.isInt k As.toArray[m]=false
  rw[et]
  have Bj:ns[m]'(by simpa [Dz] using hm) ≠ k:=fun z=>by
   have:=List.not_of_lt_findIdx (p:=fun x=>x == k) (xs:=ns) (i:=m) hmj
   rw[z]at this
   simp at this
  simp only[Value.isInt,beq_eq_false_iff_ne,ne_eq]
  first | exact Bj | exact fun z=>Bj z.symm
 ·have hm:y ∈ As:=by simpa using hy
  obtain⟨m,Hq,em⟩:=getElem_of_mem hm
  obtain⟨t',et⟩:=at_ m (by simpa using Hq)
  have ey:y=Value.int (ns[m]'(by omega)) t':=by rw[← em];simpa using et
  subst ey
  intro prog w E Q' hQ'
  refine wpAny_eqBool_int ?_
  have:(ns[m]'(by omega) == k)=Value.isInt k (Value.int (ns[m]'(by omega)) t'):=by simp[Value.isInt,Bool.beq_comm]
  rw[this]
  exact hQ'
 ·exact⟨.int (ns.idxOf k:Nat),H,I.tok _,⟨_,rfl⟩,q⟩
noncomputable def Lh (K:Frag):List V->Hp->VK->Prop:=fun xs H Q=>∃ (v:V)(t:Value)(c:String)(b:Bool),xs=[v, .ty c]/\iQ K H v t/\kitOne K t (.type c)=some b/\Q (.bl b) H
theorem eN:AS X (.builtin "isinstance") (Lh X.K):=by
 intro pins s σ H xs us Q I r h
 obtain⟨v,t,c,b,rfl,ty,hk,q⟩:=h
 cases r with
 | cons r1 r2=>cases r2 with
  | cons r2 r3 =>
   cases r3
   cases r2
   exact sQ I r1 ty hk fun tk=>⟨.bl b,H,I.tok _,rfl,q⟩
end
section
variable {κ:Type} [DecidableEq κ]
end
section
variable {P:Program}{w:World}{H:Hp}{h:Heap}{a:Addr}
end
section
variable {X:Cx}{pins:List (Addr × Obj)}{σ:St}{H:Hp}{s:Shared}{a:Addr}{y v:V}{u r:Value}{o:Option V}{A:Around}{E:Value->Shared->Prop}
end
section
variable {X:Cx}{pins:List (Addr × Obj)}{σ:St}{H:Hp}{s:Shared}{a:Addr}{Aw:List (gh × V)}{k:gh}{u:Value}{A:Around}{E:Value->Shared->Prop}
end
section
variable {X:Cx}{o i e value:Expr}{pos pos' Dq:Pos}{td ty tv:TE}
end
section
variable {X:Cx}{pos:Pos}
end
section
variable {X:Cx}{pins:List (Addr × Obj)}{σ:St}{H:Hp}{s:Shared}{a:Addr}{y d:V}{u r:Value}{o:Option V}{A:Around}{E:Value->Shared->Prop}
end
section
variable {X:Cx}{o e f:Expr}{apos Bv:Pos}{td ty tx:TE}
end
section
variable {X:Cx}{pins:List (Addr × Obj)}{σ:St}{H:Hp}{s:Shared}{a:Addr}{Aw:List (gh × V)}{A:Around}{E:Value->Shared->Prop}
end
section
variable {X:Cx}{pins:List (Addr × Obj)}{σ:St}{H:Hp}{s:Shared}{a:Addr}{y:V}{u:Value}{A:Around}{E:Value->Shared->Prop}
end
section
variable {X:Cx}
end
section
variable {κ:Type} [DecidableEq κ]
end
section
variable {X:Cx}{tg:Expr}
end
section
variable {X:Cx}
end
end L2
namespace L2
open PySem
section
variable {X:Cx}
noncomputable def Li (t:TS):TS:=fun D σ H=>∃ Cq:St->Hp->Prop,t { D with nx:=Cq } σ H/\∀ σ' H',Cq σ' H'->D.nx σ' H'
theorem jj {st:Stmt}{t:TS}(h:PS X st t):PS X st (Li t):=fun pins s σ H D I ⟨Cq,q,k⟩ =>
 bD (h pins s σ H _ I q) fun f s1 z=>by
  cases f with
  | next=>obtain⟨σ1,H1,I1,p⟩:=z;exact⟨σ1,H1,I1,k _ _ p⟩
  | brk=>exact z
  | cont=>exact z
  | ret u=>exact z
noncomputable def yy (t:TE):TE:=fun σ H Q=>∃ Cq:V->Hp->Prop,t σ H Cq/\∀ v H',Cq v H'->Q v H'
theorem eW {e:Expr}{t:TE}(h:PE X e t):PE X e (yy t):=fun pins s σ H Q I ⟨Cq,q,k⟩ =>
 bD (h pins s σ H _ I q) fun u s1 Au=>by obtain⟨v,H1,I1,r,p⟩:=Au;exact⟨v,H1,I1,r,k v H1 p⟩
noncomputable def yw (t:TT):TT:=fun σ H Q=>∃ Cq:Bool->Hp->Prop,t σ H Cq/\∀ b H',Cq b H'->Q b H'
theorem fX {e:Expr}{t:TT}(h:PT X e t):PT X e (yw t):=fun pins s σ H Q I ⟨Cq,q,k⟩ =>
 bD (h pins s σ H _ I q) fun b s1 Au=>by obtain⟨H1,I1,p⟩:=Au;exact⟨H1,I1,k b H1 p⟩
end
open PySem.Spec PyProof.Rows
theorem nZ:∀ {ns:List Int}{us:List Value},Vals (ns.map V.int) us->IntsAre us ns
 | [],_, .nil => .nil
 | n :: ns,_, .cons r t=>by
  obtain⟨tk,e⟩:=(show ∃ t,_=Value.int n t from r)
  subst e
  exact .cons n tk (nZ t)
theorem oH {X:Cx}(hc:X.calm=true):AS X (.builtin "sum") (fun xs H Q=>∃ (p:Addr)(ns:List Int),xs=[.ref p]/\Ap X.K H p (ns.map V.int)/\Q (.int ns.sum) H):=by
 intro pins s σ H xs us Q I r h
 obtain⟨p,ns,rfl,hq,q⟩:=h
 obtain⟨u,rfl,rx⟩:=gk r
 cases rx
 obtain⟨As,rv,pl,hz⟩:=I.list hq
 have hi:=nZ rv
 obtain⟨xs,hx⟩:=hi.allInts.items
 have C2:s.heap.IsList p (intItems xs):=hx ▸ pl.isList
 refine sum_intListG (I.ok.hd hc) C2 fun h' tk t' hk=>?_
 have e1:ns=xs.toList.map (·.1):=by
  rw[← nums_intItems,← hx]
  exact(show numsOf As.toArray.toList=ns from hi.numsOf).symm
 have e2:preSum (numAt xs) xs.size=ns.sum:=by
  rw[preSum_eq,take_of_length_le (by simp),e1]
 rw[e2]
 exact⟨.int ns.sum,H,I.kept hk,⟨_,rfl⟩,q⟩
structure Ex (K:Frag)(x qual:Str)(st:Stmt)(f:Addr)(fd:FuncData):Prop where
 ex:∃ (oc:Value)(od:Option Addr)(dV kV doc pm:Value)(an:Option Addr)(cdv ct:Value)(Eg:Array (Option Value)),
  fd=fnOf x qual (bP st) (aG st) (af st) dV kV doc pm an cdv ct/\K.lookup f=some ⟨oc,od, .func fd,Eg⟩/\codeIn K cdv qual=true
 kp:keepIn K (.ref f)=true
section
variable {P:Program}{w:World}{K:Frag}{mg:Str->Option Value}{base:Heap}
theorem Ex.ok {x qual:Str}{st:Stmt}{f:Addr}{fd:FuncData}{N ps:List Str}{k:Nat}{sp:Sp}(F:Ex K x qual st f fd)(S:ao N ps (af st))(len:∀ vs H Q E,sp vs H Q E->vs.length=ps.length)
  (Dr:∀ (cdv:Value)(A:Around)(outer:List Env)(s:Shared)(H:Hp)(vs:List V)(Q:VK)(E:XK),Ax k (A.deeper (envOfC qual (af st) s.heap.objs.size f cdv))->sp vs H Q E ->
   ∃ t,Ee (qq aA P w K mg base N qual (af st) f cdv A outer s H E).JE (aG st) t/\t { nx:=fun _ H'=>Q .AG H',rt:=Q } (start N vs) H):Ao P w K mg base aA (k + 1) f fd ps sp:=by
 obtain⟨oc,od,dV,kV,doc,pm,an,cdv,ct,Eg,rfl,lk,DE⟩:=F.ex
 refine ym lk DE S len fun A outer s H vs Q E hr FE=>?_
 obtain⟨t,h,q⟩:=Dr cdv A outer s H vs Q E hr FE
 exact⟨t,h.JE,q⟩
end
noncomputable def wG (K:Frag):R2:=fun x y H Q=>∃ (p:Addr)(vs:List V)(d:PyData)(ds:List PyData),y = .ref p/\Den K H x d/\Ap K H p vs/\AO K H vs ds/\BZ d 8/\(∀ z ∈ ds,BZ z 8)/\Q (.bl (!(ds.any fun y=>PyData.eqv y d))) H
theorem sr {X:Cx}(hu:X.A.units + 64 < cLine):eD X (compareOp .NotIn) (wG X.K):=by
 intro pins s σ H x y v u Q I rx ry h
 obtain⟨p,vs,d,ds,rfl,h1,h2,h3,s1,s2,q⟩:=h
 obtain⟨as,r1⟩:=I.den (.lst h2 h3) ry
 obtain⟨bs,r2⟩:=I.den h1 rx
 refine SeqAt.notIn_list_reads r1 r2 (lS s2).1 s1.1 ?_ ⟨.bl _,H,I,rfl,q⟩
 have:=s1.2
 have:=Nat.min_le_right (PyData.depthAll ds) d.depth
 omega
noncomputable def Lj (K:Frag):R2:=fun x y H Q=>∃ a b xs ys,x = .ref a/\y = .ref b/\Ay K H a xs/\Ay K H b ys/\ys ≠ []/\xs.length + ys.length <= sizeLine /\
 (xs=[]->Q (.ref b) H)/\(xs ≠ []->∀ p,H p=none->Q (.ref p) (upd H p (.tup (xs ++ ys))))
theorem wN {X:Cx}:eD X (binaryOp .Add) (Lj X.K):=by
 intro pins s σ H x y v u Q I rx ry h
 obtain⟨a,b,xs,ys,rfl,rfl,ha,hb,hy,hz,q1,q2⟩:=h
 by_cases hx:xs=[]
 ·cases rx
  cases ry
  obtain⟨As,r1,p1,_⟩:=I.tuple ha
  obtain⟨C8,r2,p2,_⟩:=I.tuple hb
  have e1:As=[]:=r1.Ci.mpr hx
  obtain⟨⟨cls,dd,data,sl⟩,ho,hc,n,hd⟩:=id p1
  obtain⟨⟨Qx,Oz,data2,O0⟩,B9,Ds,n2,hd2⟩:=id p2
  simp only at hc hd Ds hd2
  subst hc hd Ds hd2
  exact concat_meets ⟨_,ho,rfl⟩ ⟨_,B9,rfl⟩ noFill_tuple_add seq_tuple_add slot_tuple_add entry_tuple_add (args_tuple_add_2 _ _)
   (tuple_addW0 a b As.toArray C8.toArray n n2 dd Oz sl O0 (by simp[e1])) ⟨ho,B9,⟨.ref b,H,I,rfl,q1 hx⟩⟩
 ·exact qX pins s σ H _ _ v u Q I rx ry ⟨a,b,xs,ys,rfl,rfl,ha,hb,hx,hz,fun z=>absurd z hy,fun _=>q2 hx⟩
end L2
namespace L2
open PySem
section
variable {X:Cx}
end
open PySem.Spec PyProof.Rows
section
variable {prog:Program}{w:World}{A:Around}{E:Value->Shared->Prop}{s:Shared}
end
section
variable {X:Cx}{pins:List (Addr × Obj)}{σ:St}{H:Hp}{s:Shared}{a:Addr}{o:Obj}{u:HO}
end
section
variable {X:Cx}
end
section
variable {X:Cx}{elts:List Expr}{kk:Nat}{Dq:Pos}
end
section
variable {prog:Program}{w:World}{A:Around}{E:Value->Shared->Prop}{s:Shared}
end
section
variable {X:Cx}{tg:Expr}
end
section
variable {prog:Program}{w:World}{A:Around}{E:Value->Shared->Prop}{s:Shared}{I:Addr}{fp wr:List Addr}{G:Array GenState->Array GenState->Prop}{n:Nat}{P:Nat->Value->Prop}{St:Nat->Shared->Prop}
end
section
variable {X:Cx}
end
section
variable {X:Cx}{o e f:Expr}{apos Bv:Pos}{td ty tx:TE}
end
section
variable {X:Cx}{pins:List (Addr × Obj)}{σ:St}{H:Hp}{s:Shared}
end
section
variable {X:Cx}{elts:List Expr}{kk:Nat}{Dq p pos:Pos}{e1 e2:Expr}
end
section
variable {X:Cx}
end
section
variable {prog:Program}{w:World}{A:Around}{E:Value->Shared->Prop}{s:Shared}{I:Addr}{fp wr:List Addr}{G:Array GenState->Array GenState->Prop}{n:Nat}{P:Nat->Value->Prop}{St:Nat->Shared->Prop}
end
section
variable {X:Cx}
end
end L2
namespace L2
open PySem PySem.Spec PyProof.Rows PySem.Builtin.Str
theorem qF:∀ {ys:List Str}{As:List Value},Vals (ys.map V.str) As->StrsAre As ys
 | [],_, .nil=>by constructor
 | _ :: _,_, .cons ⟨_,e⟩ r=>by subst e;constructor;exact qF r
theorem kM:∀ (l:List (Str × Tok)),Vals ((l.map (·.1)).map V.str) (strValues l)
 | [] => .nil
 | (x,t) :: l => .cons ⟨t,rfl⟩ (kM l)
section
variable {X:Cx}
noncomputable def ye (K:Frag):V->List V->Hp->VK->Prop:=fun x vs H Q=>∃ (sep:Str)(D:Addr)(ys:List Str),x = .str sep/\vs=[.ref D]/\Ap K H D (ys.map V.str)/\(ys.map (·.length)).sum + ys.length * sep.length <= 16777216/\Q (.str (Txt.join sep ys)) H
theorem fZ:JI X "str.join" (ye X.K):=by
 intro pins s σ H x vs v us Q I rx rv h
 obtain⟨sep,D,ys,rfl,rfl,hq,hz,q⟩:=h
 obtain⟨t,rfl⟩:=rx
 obtain⟨u,rfl,ru⟩:=rv.one
 cases ru
 obtain⟨As,rv,p,_⟩:=I.list hq
 exact join_list p.isList (qF rv) hz fun t' k=>⟨.str _,H,I.tok _,⟨_,rfl⟩,q⟩
noncomputable def yV:V->List V->Hp->VK->Prop:=fun x vs H Q=>∃ z y:Str,x = .str z/\vs=[.str y]/\(y.length == 0)=false/\z.length <= 4000000/\(Txt.split z y).length <= 1000000/\∀ D,H D=none->Q (.ref D) (upd H D (.lst ((Txt.split z y).map V.str)))
theorem nO:JI X "str.split" yV:=by
 intro pins s σ H x vs v us Q I rx rv h
 obtain⟨z,y,rfl,rfl,hy,hz,hn,q⟩:=h
 obtain⟨t,rfl⟩:=rx
 obtain⟨u,rfl,ru⟩:=rv.one
 obtain⟨u',rfl⟩:=ru
 have hx:z.length <= sizeLine:=le_trans hz (by decide)
 have fin:∀ (l:List (Str × Tok))(k:Nat),l.map (·.1)=Txt.split z y->EP X pins σ Q (.ref s.heap.objs.size) { s with heap:=s.heap.push { cls := .type "list",data := .seq (strValues l).toArray },toks:=k }:=fun l k e =>
  ⟨.ref s.heap.objs.size,_,I.laid (t':=k) (fun b o' e'=>Heap.get?_push_of_some _ e') (le_refl _) (show AR X.prog X.w _ _ _ (.lst ((Txt.split z y).map V.str)) from ⟨by rw[length_map];exact le_trans hn (by decide),strValues l,_,by rw[← e];exact kM l,Heap.get?_push_size _ rfl⟩),rfl,q _ (I.AD.fresh (le_refl _))⟩
 cases h1:(decide (z.length < y.length) || decide (strKind z < strKind y))
 ·cases hf:(occurrences z y 0 z.length (z.length + 1)).isEmpty
  ·have e:Txt.split z y=partsBetween z (occurrences z y 0 z.length (z.length + 1)) y.length:=(if_neg (ne_true_of_eq_false h1)).trans (if_neg (ne_true_of_eq_false hf))
   refine call_meets F.slot_str_split (typeIs_str _ _ _) F.entry_str_split (F.args_str_split_2 _ _) (meets_str_split_sep z y t u' h1 hy hf hx (by rw[← e];exact le_trans hn (by decide))) ?_
   have:=fin (numbered s.toks (partsBetween z (occurrences z y 0 z.length (z.length + 1)) y.length)) (s.toks + (partsBetween z (occurrences z y 0 z.length (z.length + 1)) y.length).length) ((numbered_texts _ _).trans e.symm)
   rw[← strsFrom_eq]at this
   exact this
  ·exact call_meets F.slot_str_split (typeIs_str _ _ _) F.entry_str_split (F.args_str_split_2 _ _) (meets_str_split_not_found z y t u' h1 hy hf) (fin [(z,t)] s.toks ((if_neg (ne_true_of_eq_false h1)).trans (if_pos hf)).symm)
 ·exact call_meets F.slot_str_split (typeIs_str _ _ _) F.entry_str_split (F.args_str_split_2 _ _) (meets_str_split_cannot_occur z y t u' h1) (fin [(z,t)] s.toks (if_pos h1).symm)
theorem kL:AS X (.type "int") (fun xs H Q=>∃ (x:Str)(n:Int),xs=[.str x]/\PySem.intText? x=some n/\x.length <= 640/\Q (.int n) H):=by
 intro pins s σ H xs us Q I r h
 obtain⟨x,n,rfl,hn,hl,q⟩:=h
 obtain⟨u,rfl,t,rfl⟩:=gk r
 exact PySem.W.KIN.call_text hn hl ⟨.int n,H,I.tok _,⟨_,rfl⟩,q⟩
theorem gA:AS X (.type "str") (fun xs H Q=>∃ x:Str,xs=[.str x]/\Q (.str x) H):=by
 intro pins s σ H xs us Q I r h
 obtain⟨x,rfl,q⟩:=h
 obtain⟨u,rfl,t,rfl⟩:=gk r
 exact PySem.P.str_of_str ⟨.str x,H,I,⟨_,rfl⟩,q⟩
end
noncomputable def QS (x:Str):It:=⟨fun i _=>i < x.cps.size,fun i H v H'=>H' = H/\∃ c,x.cps[i]? = some c/\v = .str ⟨#[c]⟩,fun i _=>x.cps.size <= i⟩
theorem tI {P:Program}{w:World}{K:Frag}{tg:Expr}(x:Str)(t:Tok)(it:Addr):oP P w K tg (QS x) [it] it (fun i h=>h.IsStrIter it (strIterType x) x t i) where
 mem:=by simp
 obj:=fun i h st b hb=>by
  have e:b=it:=by simpa using hb
  subst e
  obtain⟨o,e,c,d⟩:=st
  exact⟨o,e,fun v z=>by rw[d]at z;cases z⟩
 keep:=fun i h h' st k=>by
  obtain⟨o,e,r⟩:=st
  exact⟨o,k it (by simp) o e,r⟩
 item:=by
  intro X hP hw hK hc i pins s σ H E I hf st hg
  subst hP hw hK
  have hx:x.cps[i]? = some x.cps[i]:=Array.getElem?_eq_getElem hg
  obtain⟨f0,f1,f2,f3,f4,f5⟩:=hf it (by simp)
  have go:∀ h',h'.IsStrIter it (strIterType x) x t (i + 1)->Heap.SameBut it s.heap h'->∃ u,(some (Value.str ⟨#[x.cps[i]]⟩ s.toks):Option Value)=some u/\wpAny (model X.prog X.w) X.A (letOwnedTupleGo tg (.ref it) u) (fun _ s2=>∃ v H2,Inv X pins σ H2 s2/\RelV v u/\(QS x).FD i H v H2/\s2.heap.IsStrIter it (strIterType x) x t (i + 1)/\∀ b ∈ [it],H2 b=none) E { s with heap:=h',toks:=s.toks + 1 }:=fun h' Dp sb=>by
   have I1:Inv X pins σ H { s with heap:=h',toks:=s.toks + 1 }:=I.turned (t':=s.toks + 1) (fun b o hb e=>(sb.2 b hb).trans e) f0 f1 f3 f4 f5
   obtain⟨o,e,c,d⟩:=id Dp
   refine⟨_,rfl,rF (s:={ s with heap:=h',toks:=s.toks + 1 }) e c d ?_ ⟨.str ⟨#[x.cps[i]]⟩,H,I1,⟨_,rfl⟩,⟨rfl,_,hx,rfl⟩,Dp,fun b hb=>(hf b hb).1⟩⟩
   unfold strIterType
   split<;>decide
  by_cases ha:x.cps.all (· < 128)=true
  ·have e:strIterType x = "str_ascii_iterator":=if_pos ha
   rw[e]at st
   exact wpAny_pyNext_ascii_item st hx fun h' Dp sb=>go h' (by rw[e];exact Dp) sb
  ·have e:strIterType x = "str_iterator":=if_neg ha
   rw[e]at st
   exact wpAny_pyNext_wide_item st hx fun h' Dp sb=>go h' (by rw[e];exact Dp) sb
 done:=by
  intro X hP hw hK hc i pins s σ H E I hf st hg
  subst hP hw hK
  have hx:x.cps[i]? = none:=Array.getElem?_eq_none hg
  obtain⟨f0,f1,f2,f3,f4,f5⟩:=hf it (by simp)
  by_cases ha:x.cps.all (· < 128)=true
  ·have e:strIterType x = "str_ascii_iterator":=if_pos ha
   rw[e]at st
   exact wpAny_pyNext_ascii_end (I.ok.hd hc) st hx fun h' eb=>⟨rfl,I.turned (t':=s.toks) (fun b o hb e=>eb b o hb e) f0 f1 f3 f4 f5⟩
  ·have e:strIterType x = "str_iterator":=if_neg ha
   rw[e]at st
   exact wpAny_pyNext_wide_end (I.ok.hd hc) st hx fun h' eb=>⟨rfl,I.turned (t':=s.toks) (fun b o hb e=>eb b o hb e) f0 f1 f3 f4 f5⟩
 self:=fun _ _ _ _ _ st h=>by
  by_cases ha:x.cps.all (· < 128)=true
  ·rw[show strIterType x = "str_ascii_iterator" from if_pos ha]at st
   exact wpAny_pyIter_striter_ascii st h
  ·rw[show strIterType x = "str_iterator" from if_neg ha]at st
   exact wpAny_pyIter_striter_wide st h
section
variable {X:Cx}{tg:Expr}
noncomputable def QT (tl:TE):TI:=fun σ H R=>tl σ H fun x H1=>∃ z,x = .str z/\R (QS z) H1
theorem zb {l:Expr}{tl:TE}(hl:PE X l tl):PI X tg l (QT tl):=by
 intro pins s σ H R I h
 refine bD (hl pins s σ H _ I h) fun v s1 Au=>?_
 obtain⟨x,H1,I1,r1,q1⟩:=Au
 obtain⟨z,e,q⟩:=q1
 subst e
 obtain⟨t,rfl⟩:=r1
 refine wpAny_pyIter_strU ?_
 refine⟨s1.heap.objs.size,[s1.heap.objs.size],_,_,H1,rfl,I1.kept (t':=s1.toks) fun b o e=>Heap.get?_push_of_some _ e,tI z t _,⟨_,Heap.get?_push_size _ rfl,rfl,rfl⟩,fun b hb=>?_,q⟩
 have e:b=s1.heap.objs.size:=by simpa using hb
 subst e
 exact I1.Eu (le_refl _) (I1.AD.fresh (le_refl _))
end
end L2
namespace L2
open PySem PySem.StrLaws PySem.Builtin PySem.Builtin.Str
noncomputable def fP (c:Nat):List Nat->List (List Nat)
 | []=>[[]]
 | a :: l=>if a=c then [] :: fP c l else match fP c l with
  | []=>[[a]]
  | p :: r=>(a :: p) :: r
noncomputable def dX (c:Nat):List (List Nat)->List Nat
 | []=>[]
 | [p]=>p
 | p :: q :: r=>p ++ c :: dX c (q :: r)
theorem k9 (c a:Nat)(l:List Nat):fP c (a :: l)=if a=c then [] :: fP c l else match fP c l with
  | []=>[[a]]
  | p :: r=>(a :: p) :: r:=rfl
theorem k8 {c:Nat}:∀ {p:List Nat},c ∉ p->fP c p=[p]
 | [],_=>rfl
 | a :: p,h=>by
  unfold fP
  rw[if_neg (fun e=>h (by rw[e];exact mem_cons_self)),k8 fun z=>h (mem_cons_of_mem _ z)]
theorem rO {c:Nat}(l:List Nat):∀ {p:List Nat},c ∉ p->fP c (p ++ c :: l)=p :: fP c l
 | [],_=>by
  show fP c (c :: l)=_
  rw[k9,if_pos rfl]
 | a :: p,h=>by
  show fP c (a :: (p ++ c :: l))=_
  rw[k9,if_neg (fun e=>h (by rw[e];exact mem_cons_self)),rO l fun z=>h (mem_cons_of_mem _ z)]
theorem ou {c:Nat}:∀ {ps:List (List Nat)},ps ≠ []->(∀ p ∈ ps,c ∉ p)->fP c (dX c ps)=ps
 | [],h,_=>absurd rfl h
 | [p],_,h=>k8 (h p mem_cons_self)
 | p :: q :: r,_,h=>by
  show fP c (p ++ c :: dX c (q :: r))=_
  rw[rO _ (h p mem_cons_self),ou (cons_ne_nil _ _) fun x hx=>h x (mem_cons_of_mem _ hx)]
noncomputable def im (x:Str)(c a:Nat):List Nat:=(List.range' a (x.length - a)).filter fun i=>decide (x.cps.toList[i]? = some c)
theorem m5 (x:Str)(c limit:Nat):∀ (m a:Nat)(st:Array Nat × Nat),st.snd <= a->st.fst.size + m <= limit ->
  (forIn (List.range' a m) st (occBody x ⟨#[c]⟩ x.length limit)).run.fst.toList=st.fst.toList ++ (List.range' a m).filter fun i=>decide (x.cps.toList[i]? = some c)
 | 0,_,st,_,_=>by simp
 | m + 1,a,st,hs,hl=>by
  rw[List.range'_succ,forIn_cons]
  unfold occBody
  by_cases h:x.cps.toList[a]? = some c
  ·have h2:=(subAt_one x c a).mpr h
   rw[if_pos ⟨⟨⟨by omega,hs⟩,h2.1⟩,h2.2⟩,filter_cons,if_pos (decide_eq_true h)]
   have:=m5 x c limit m (a + 1) (st.fst.push a,a + (⟨#[c]⟩:Str).length) (le_refl _) (by rw[Array.size_push];omega)
   have e:(st.fst.push a).toList=st.fst.toList ++ [a]:=Array.toList_push
   rw[show((st.fst.push a,a + (⟨#[c]⟩:Str).length):Array Nat × Nat).fst.toList=st.fst.toList ++ [a] from e,append_assoc]at this
   exact this
  ·rw[if_neg (fun z=>h ((subAt_one x c a).mp ⟨z.1.2,z.2⟩)),filter_cons,if_neg (by rw[decide_eq_true_eq];exact h)]
   exact m5 x c limit m (a + 1) (st.fst,st.snd) (Nat.le_succ_of_le hs) (by show st.fst.size + m <= limit;omega)
theorem qZ (x:Str)(c:Nat):occurrences x ⟨#[c]⟩ 0 x.length (x.length + 1)=im x c 0:=by
 rw[occ_eq,m5 x c _ _ 0 (#[],0) (le_refl _) (by show 0 + (x.length + 1 - 0) <= _;omega)]
 unfold im
 show [] ++ _=_
 rw[nil_append,show x.length + 1 - 0=x.length - 0 + 1 by omega,List.range'_concat,filter_append]
 have:x.cps.toList[0 + 1 * (x.length - 0)]? = none:=List.getElem?_eq_none (by rw[Array.length_toList];show x.cps.size <= _;rw[show 0 + 1 * (x.length - 0)=x.cps.size by show 0 + 1 * (x.cps.size - 0)=_;omega];exact le_refl _)
 rw[filter_cons,if_neg (by rw[this,decide_eq_true_eq];exact fun z=>by cases z)]
 simp
theorem gX (x:Str)(a b:Nat):(strSub x a b).cps.toList=(x.cps.toList.take b).drop a:=by
 show(x.cps.extract a b).toList=_
 rw[Array.toList_extract,List.extract_eq_drop_take,List.take_drop]
 by_cases h:a <= b
 ·rw[show a + (b - a)=b by omega]
 ·rw[show b - a=0 by omega,Nat.add_zero,drop_eq_nil_of_le (by rw[length_take];omega),drop_eq_nil_of_le (by rw[length_take];omega)]
theorem nG (x:Str)(c:Nat):∀ (k a:Nat),a + k=x.length->(partsFrom x 1 a (im x c a)).map (fun s=>s.cps.toList)=fP c (x.cps.toList.drop a)
 | 0,a,h=>by
  have e:im x c a=[]:=by unfold im;rw[show x.length - a=0 by omega];rfl
  rw[e]
  show [(strSub x a x.length).cps.toList]=_
  rw[gX,drop_eq_nil_of_le (by rw[length_take];omega),drop_eq_nil_of_le (by rw[Array.length_toList];show x.length <= a;omega)]
  rfl
 | k + 1,a,h=>by
  have ha:a < x.cps.toList.length:=by rw[Array.length_toList];show a < x.length;omega
  have ed:x.cps.toList.drop a=x.cps.toList[a] :: x.cps.toList.drop (a + 1):=List.drop_eq_getElem_cons ha
  have ih:=nG x c k (a + 1) (by omega)
  have ep:im x c a=if x.cps.toList[a]=c then a :: im x c (a + 1) else im x c (a + 1):=by
   unfold im
   rw[show x.length - a=(x.length - (a + 1)) + 1 by omega,List.range'_succ,filter_cons,getElem?_eq_getElem ha]
   by_cases e:x.cps.toList[a]=c
   ·rw[if_pos e,if_pos (decide_eq_true (congrArg some e))]
   ·rw[if_neg e,if_neg (by rw[decide_eq_true_eq];exact fun z=>e (Option.some.inj z))]
  rw[ed,ep,k9]
  by_cases e:x.cps.toList[a]=c
  ·rw[if_pos e,if_pos e,← ih]
   show(strSub x a a).cps.toList :: _=_
   rw[gX,drop_eq_nil_of_le (by rw[length_take];omega)]
  ·rw[if_neg e,if_neg e,← ih]
   have hge:∀ i ∈ im x c (a + 1),a + 1 <= i:=fun i hi=>by
    have:=List.mem_range'_1.mp (mem_filter.mp hi).1
    omega
   have hd:∀ b,a + 1 <= b->(strSub x a b).cps.toList=x.cps.toList[a] :: (strSub x (a + 1) b).cps.toList:=fun b hb=>by
    rw[gX,gX,List.drop_eq_getElem_cons (by rw[length_take];omega),List.getElem_take]
   cases hp:im x c (a + 1) with
   | nil =>
    show [(strSub x a x.length).cps.toList]=[x.cps.toList[a] :: (strSub x (a + 1) x.length).cps.toList]
    rw[hd _ (by omega)]
   | cons i r =>
    show(strSub x a i).cps.toList :: _=(x.cps.toList[a] :: (strSub x (a + 1) i).cps.toList) :: _
    rw[hd i (hge i (by rw[hp];exact mem_cons_self))]
theorem sf (x:Str){c:Nat}(IC:c < 256):(Txt.split x ⟨#[c]⟩).map (fun s=>s.cps.toList)=fP c x.cps.toList:=by
 have main:∀ h:im x c 0=im x c 0,(partsFrom x 1 0 (im x c 0)).map (fun s=>s.cps.toList)=fP c x.cps.toList:=fun _=>by
  have:=nG x c x.length 0 (by omega)
  rw[drop_zero]at this
  exact this
 have Lk:c ∉ x.cps.toList->fP c x.cps.toList=[x.cps.toList]:=fun h=>k8 h
 unfold Txt.split
 split
 ·rename_i h
  by_cases hc:c ∈ x.cps.toList
  ·exfalso
   rw[Bool.or_eq_true,decide_eq_true_eq,decide_eq_true_eq]at h
   rcases h with h | h
   ·have h:x.cps.size < 1:=h
    have:=List.length_pos_of_mem hc
    rw[Array.length_toList]at this
    omega
   ·have e:PySem.Builtin.Str.strKind ⟨#[c]⟩ = 1:=by
     unfold PySem.Builtin.Str.strKind
     rw[if_pos]
     simp[IC]
    rw[e]at h
    unfold PySem.Builtin.Str.strKind at h
    split at h
    ·omega
    ·split at h<;>omega
  ·rw[Lk hc];rfl
 ·split
  ·rename_i h
   rw[qZ,List.isEmpty_iff]at h
   have:=main rfl
   rw[h]at this
   rw[← this]
   show [x.cps.toList]=[(strSub x 0 x.length).cps.toList]
   rw[sub_whole]
  ·rw[partsBetween_eq,qZ]
   exact main rfl
theorem iN (c:Nat):∀ ys:List Str,(Str.join ⟨#[c]⟩ ys).cps.toList=dX c (ys.map fun s=>s.cps.toList)
 | []=>rfl
 | [y]=>rfl
 | y :: z :: r=>by
  show(y ++ ⟨#[c]⟩ ++ Str.join ⟨#[c]⟩ (z :: r)).cps.toList=y.cps.toList ++ c :: dX c ((z :: r).map fun s=>s.cps.toList)
  rw[← iN c (z :: r)]
  show((y.cps ++ #[c]) ++ (Str.join ⟨#[c]⟩ (z :: r)).cps).toList=_
  rw[Array.toList_append,Array.toList_append,append_assoc]
  rfl
theorem j0 {c:Nat}(IC:c < 256){ys:List Str}(Bj:ys ≠ [])(hf:∀ y ∈ ys,c ∉ y.cps.toList):Txt.split (Txt.join ⟨#[c]⟩ ys) ⟨#[c]⟩ = ys:=by
 have h1:=sf (Txt.join ⟨#[c]⟩ ys) IC
 have e:(Txt.join ⟨#[c]⟩ ys)=Str.join ⟨#[c]⟩ ys:=StrLaws.glued_eq_join _ _
 rw[e,iN,ou (fun z=>Bj (map_eq_nil_iff.mp z)) (fun p hp=>by obtain⟨y,hy,rfl⟩:=mem_map.mp hp;exact hf y hy)]at h1
 rw[e]
 refine(List.map_inj_right fun a b h=>?_).mp h1
 cases a;cases b
 exact congrArg Str.mk (Array.toList_inj.mp h)
end L2
namespace L2
open PySem PySem.Calls PySem.NumText PyProof.Rows PySem.W.KIN
noncomputable def aU (m:Nat):Str:=Str.ofString (toString ((m:Nat):Int))
theorem dW (m:Nat):∀ c ∈ (aU m).cps.toList,48 <= c/\c <= 57:=by
 intro c hc
 unfold aU at hc
 rw[signs_num]at hc
 obtain⟨ch,EE,e⟩:=mem_map.mp hc
 have r:=digit_range (Nat.isDigit_of_mem_toDigits (by decide) (by decide) EE)
 rw[← e]
 exact r
theorem m7 (m:Nat):(aU m).cps.toList ≠ []:=by
 unfold aU
 rw[signs_num]
 intro e
 have h:=toDigits_len_ge 10 m
 rw[map_eq_nil_iff.mp e]at h
 exact absurd h (by decide)
theorem pX {m:Nat}(hl:(aU m).length <= 640):PySem.intText? (aU m)=some (m:Int):=by
 have e:=intText_digits (x:=aU m) (dW m) (m7 m) (le_trans hl (by decide))
 unfold aU at e ⊢
 rw[signs_num,val_back]at e
 exact e
theorem fK {m k:Nat}(hk:0 < k)(h:m < 10 ^ k):(aU m).length <= k:=toString_length_le (by omega) hk (by exact_mod_cast h)
theorem m6 {m c:Nat}(h:c < 48∨57 < c):c ∉ (aU m).cps.toList:=fun z=>by have:=dW m c z;omega
end L2
namespace L2
open PySem PySem.Spec PyProof.Rows PySem.Builtin.Str
section
variable {X:Cx}
noncomputable def wF:V->List V->Hp->VK->Prop:=fun x vs H Q=>∃ z y:Str,x = .str z/\vs=[.str y]/\Q (.bl (Txt.startswith z y)) H
theorem sK:JI X "str.startswith" wF:=by
 intro pins s σ H x vs v us Q I rx rv h
 obtain⟨z,y,rfl,rfl,q⟩:=h
 obtain⟨t,rfl⟩:=rx
 obtain⟨u,rfl,ru⟩:=rv.one
 obtain⟨u',rfl⟩:=ru
 exact SC.startswith ⟨.bl _,H,I,rfl,q⟩
noncomputable def QU:V->Option Int->Option Int->Hp->VK->Prop:=fun x lo hi H Q=>∃ (z:Str)(i:Int),x = .str z/\lo=some i/\hi=none/\z.length <= sizeLine/\Q (.str (Txt.slice z (some i) none)) H
theorem wu:O1 X QU:=by
 intro pins s σ H x v vl vu lo hi sl Q I rx hs pl pu h
 obtain⟨z,i,rfl,rfl,rfl,hz,q⟩:=h
 obtain⟨t,rfl⟩:=rx
 cases pl with
 | int _ ti =>
  cases pu
  exact⟨"str",_,F.slot_str_getitem.lookup,typeIs_str _ _ _,wpAny_getItem_str_slice (l:=some (i,ti)) (u:=none) (st:=none) hs rfl
   (post_val_or_str ⟨le_trans (Txt.slice_le z _ _) hz,fun t' k=>⟨.str _,H,I.tok _,⟨_,rfl⟩,q⟩⟩)⟩
end
theorem sg (c:Nat)(y:Str):Txt.slice (⟨#[c]⟩ ++ y) (some 1) none=y:=by
 have hl:(⟨#[c]⟩ ++ y:Str).cps.toList=c :: y.cps.toList:=by
  show(#[c] ++ y.cps).toList=_
  rw[Array.toList_append]
  rfl
 show StrLaws.sliceText (⟨#[c]⟩ ++ y) (some ((1:Nat):Int)) none=y
 rw[StrLaws.sliceText_from (by rw[hl,length_cons];omega),hl]
 cases y
 simp
 rw[← Array.length_toList,take_length,Array.toArray_toList]
theorem jz (c d:Nat)(y:Str):Txt.startswith (⟨#[c]⟩ ++ y) ⟨#[d]⟩ = decide (c=d):=by
 unfold Txt.startswith subAt
 have hl:(⟨#[c]⟩ ++ y:Str).cps.toList=c :: y.cps.toList:=by
  show(#[c] ++ y.cps).toList=_
  rw[Array.toList_append]
  rfl
 have h1:(⟨#[c]⟩ ++ y:Str).length=y.cps.toList.length + 1:=by rw[Str.length,← Array.length_toList,hl,length_cons]
 have h2:(⟨#[d]⟩:Str).length=1:=rfl
 rw[h1,h2,decide_eq_true (show 0 + 1 <= y.cps.toList.length + 1 by omega),Bool.true_and]
 have h3:(⟨#[c]⟩ ++ y:Str).cps.extract 0 (0 + 1) = #[c]:=by
  refine Array.toList_inj.mp ?_
  rw[Array.toList_extract,hl]
  rfl
 rw[h3]
 by_cases h:c=d
 ·subst h;simp
 ·simp[h]
end L2
namespace L2
open PySem PySem.Calls PySem.NumText PyProof.Rows PySem.W.KIN
theorem ve (k:Nat):Str.ofString (toString (-((k + 1:Nat):Int))) = ⟨#[45]⟩ ++ aU (k + 1):=by
 have e1:toString (-((k + 1:Nat):Int)) = "-" ++ toString (((k + 1:Nat)):Int):=rfl
 rw[e1]
 unfold aU
 generalize toString (((k + 1:Nat)):Int)=s
 have h:(Str.ofString ("-" ++ s)).cps.toList=(⟨#[45]⟩ ++ Str.ofString s:Str).cps.toList:=by
  show(Str.ofString ("-" ++ s)).cps.toList=(#[45] ++ (Str.ofString s).cps).toList
  rw[signs_ofString,Array.toList_append,signs_ofString,String.toList_append,map_append]
  rfl
 generalize Str.ofString ("-" ++ s)=a at h ⊢
 generalize (⟨#[45]⟩ ++ Str.ofString s:Str)=b at h ⊢
 cases a;cases b
 exact congrArg Str.mk (Array.toList_inj.mp h)
end L2
namespace L2
open PySem
theorem aX {J:It}{g:TG}{tt:TT}{te:TE}{σ0:St}{H:Hp}{Q:VK}(n:Nat)(hn:n < sizeLine)(W:Nat->List V->Hp->Prop)(h0:W 0 [] H)(hlen:∀ i acc H',W i acc H'->acc.length <= i)
  (turn:∀ i acc H',i < n->W i acc H'->J.go i H'/\∀ x H2,J.FD i H' x H2->g x σ0 H2 fun σ2 H3=>tt σ2 H3 fun b H4=>if b=true then te σ2 H4 fun y H5=>W (i + 1) (acc ++ [y]) H5 else W (i + 1) acc H4)
  (stop:∀ acc H',W n acc H'->J.stop n H'/\∀ D,H' D=none->Q (.ref D) (upd H' D (.lst acc))):dQ J g tt te σ0 Q H:=by
 refine⟨fun i m acc H'=>m=n - i/\i <= n/\W i acc H',⟨n,by simp,zero_le _,h0⟩,?_⟩
 rintro i m acc H' ⟨rfl,hi,w⟩
 refine⟨by have:=hlen i acc H' w;omega,?_⟩
 by_cases Bg:i < n
 ·obtain⟨go,q⟩:=turn i acc H' Bg w
  exact .inr ⟨go,fun Bn H2=>W (i + 1) Bn H2,fun Bn H2 w2=>⟨n - (i + 1),by omega,rfl,Bg,w2⟩,q⟩
 ·have e:i=n:=by omega
  subst e
  exact .inl (stop acc H' w)
theorem An.new {H H':Hp}{a:Addr}{o:HO}(h:An H H')(n:H' a=none):An H (upd H' a o):=fun b u e=>by rw[ai (aj (h _ _ e) n)];exact h _ _ e
end L2
namespace L2
open PySem
theorem AQ {N P:List Str}{sc:Scope}(a:autoParam (sc.kind = .function) η)(b:autoParam (sc.isCoroutine=false) η)(c:autoParam (sc.isGenerator=false) η)(d:autoParam (N.Nodup) ξ)(e:autoParam (N.take P.length=P) η)(f:autoParam (∀ x ∈ P,sc.names.lookup x=some .local∨sc.names.lookup x=some .cell) ξ)(g:autoParam (∀ y ∈ sc.names,y.2 ≠ .free) ξ):ao N P sc:=⟨a,b,c,d,e,f,g⟩
theorem B0 {N:List Str}{sc scope:Scope}{capN:List Str}{cap:List Nat}(a:autoParam (scope.kind = .function) η)(b:autoParam (∀ y ∈ scope.names,y.2 ≠ .cell) ξ)(c:autoParam (∀ y ∈ scope.names,y.2 = .local->scope.names.lookup y.1=some .local) ξ)(d:autoParam (∀ y ∈ scope.names,y.2 = .free->sc.names.lookup y.1=some .cell∨sc.names.lookup y.1=some .free) ξ)(e:autoParam (cap.length=capN.length) η)(f:autoParam (∀ p ∈ capN.zip cap,scope.names.lookup p.1=some .free/\N[p.2]? = some p.1) ξ):Bi N sc scope capN cap:=⟨a,b,c,d,e,f⟩
end L2
namespace K82
open PySem L2
variable {P:Program}{w:World}{K:Frag}{mg:Str->Option Value}{base:Heap}
noncomputable def bT (i:Nat):Stmt:=PySem.Challenge.pw_wormyard_k82_whole_yards_shown.main.body.getD i (.Pass ⟨0,0,0,0⟩)
abbrev gH:Stmt:=bT 16
abbrev ji:Stmt:=bT 17
abbrev yL:Stmt:=bT 18
abbrev yH:Stmt:=bT 22
abbrev wB:Stmt:=bT 25
abbrev uu:Stmt:=bT 26
abbrev yJ:Stmt:=bT 27
abbrev nr:Stmt:=bT 29
abbrev QV:Stmt:=bT 30
abbrev p7:Stmt:=bT 36
abbrev ij:Stmt:=bT 37
abbrev lT:Stmt:=bT 38
abbrev jC:Stmt:=bT 39
abbrev jG:Stmt:=bT 40
abbrev gI:Stmt:=bT 47
abbrev uk:Stmt:=bT 48
abbrev nk:Stmt:=bT 49
abbrev jD:Stmt:=bT 53
abbrev fD:Stmt:=bT 54
abbrev jE:Stmt:=bT 55
abbrev jB:Stmt:=bT 56
abbrev ie:Stmt:=bT 57
abbrev fE:Stmt:=bT 58
abbrev fF:Stmt:=bT 59
abbrev nu:Stmt:=bT 60
abbrev jH:Stmt:=bT 61
abbrev ik:Stmt:=bT 62
abbrev iA:Stmt:=bT 63
abbrev u5:Stmt:=bT 65
abbrev uz:Stmt:=bT 66
abbrev iS:Stmt:=bT 67
abbrev pE:Stmt:=bT 68
abbrev jJ:Stmt:=bT 69
abbrev iB:Stmt:=bT 70
abbrev jF:Stmt:=bT 71
abbrev pF:Stmt:=bT 72
abbrev jI:Stmt:=bT 73
abbrev nq:Stmt:=aK (bT 23) 0
abbrev yQ:Stmt:=aK (bT 23) 2
abbrev ur:Stmt:=aK (bT 23) 3
abbrev nn:Stmt:=aK (bT 23) 4
abbrev yI:Stmt:=aK (bT 31) 0
abbrev um:Stmt:=aK (bT 32) 0
abbrev p8:Stmt:=aK (bT 32) 1
abbrev yO:Stmt:=aK (bT 42) 0
abbrev ut:Stmt:=aK (bT 42) 1
abbrev yK:Stmt:=aK (bT 42) 2
abbrev pG:Stmt:=aK (bT 42) 3
abbrev uo:Stmt:=aK (bT 42) 4
abbrev pI:Stmt:=aK (bT 42) 5
abbrev yN:Stmt:=aK (bT 42) 6
abbrev yM:Stmt:=aK (bT 42) 7
abbrev uy:Stmt:=aK (bT 50) 0
abbrev uw:Stmt:=aK (bT 50) 1
abbrev gf:Stmt:=aK (bT 51) 0
abbrev ig:Stmt:=aK (bT 51) 1
abbrev pA:Stmt:=aK (bT 51) 2
abbrev nj:Stmt:=aK (bT 51) 3
abbrev nh:Stmt:=aK (bT 51) 4
abbrev p9:Stmt:=aK (bT 51) 5
abbrev lV:Stmt:=aK (bT 51) 6
abbrev ia:Stmt:=aK (bT 51) 7
abbrev uv:Stmt:=aK (bT 51) 8
abbrev QW:Stmt:=aK (bT 51) 9
abbrev u4:Stmt:=aK (bT 51) 10
abbrev pH:Stmt:=aK (bT 51) 11
abbrev yP:Stmt:=aK (bT 51) 12
abbrev uq:Stmt:=aK (bT 51) 13
abbrev up:Stmt:=aK (bT 51) 14
abbrev gJ:Stmt:=aK (bT 51) 15
abbrev pC:Stmt:=aK (bT 51) 16
abbrev ux:Stmt:=aK (bT 51) 17
abbrev ul:Stmt:=aK (bT 51) 18
abbrev pB:Stmt:=aK (bT 51) 19
abbrev lU:Stmt:=aK (bT 51) 20
abbrev u1:Stmt:=aK (bT 51) 21
structure Txt (mg:Str->Option Value):Prop where
 Hr:mg "isinstance" = none
 int:mg "int" = none
 bool:mg "bool" = none
 len:mg "len" = none
 enum:mg "enumerate" = none
 tuple:mg "tuple" = none
 range:mg "range" = none
 list:mg "list" = none
 all:mg "all" = none
 sum:mg "sum" = none
 abs:mg "abs" = none
 str:mg "str" = none
 min:mg "min" = none
noncomputable def wb (H:Hp)(v:V)(p:Int × Int):Prop:=∃ t,v = .ref t/\H t=some (.tup [.int p.1, .int p.2])
abbrev AN (H:Hp):List V->List (Int × Int)->Prop:=Paired (wb H)
theorem AN.same {H H':Hp}(h:An H H'):∀ {vs:List V}{ps:List (Int × Int)},AN H vs ps->AN H' vs ps:=fun Au=>by
 induction Au with
 | nil=>exact .nil
 | cons zz r ih=>obtain⟨t,e,q⟩:=zz;exact .cons ⟨t,e,h _ _ q⟩ ih
theorem AN.get {H:Hp}:∀ {vs:List V}{ps:List (Int × Int)}{i:Nat}{v:V},AN H vs ps->vs[i]? = some v->∃ p,ps[i]? = some p/\wb H v p:=by
 intro _ _ i _ Au
 induction Au generalizing i with
 | nil=>intro h;cases h
 | cons x r ih =>
  intro h
  cases i with
  | zero=>cases h;exact⟨_,rfl,x⟩
  | succ i=>exact ih (i:=i) h
theorem AN.ID {H:Hp}:∀ {vs:List V}{ps:List (Int × Int)}{i:Nat}{p:Int × Int},AN H vs ps->ps[i]? = some p->∃ v,vs[i]? = some v/\wb H v p:=by
 intro _ _ i _ Au
 induction Au generalizing i with
 | nil=>intro h;cases h
 | cons x r ih =>
  intro h
  cases i with
  | zero=>cases h;exact⟨_,rfl,x⟩
  | succ i=>exact ih (i:=i) h
theorem AN.snoc {H:Hp}{v:V}{p:Int × Int}(h:wb H v p):∀ {vs:List V}{ps:List (Int × Int)},AN H vs ps->AN H (vs ++ [v]) (ps ++ [p]):=fun Au=>by
 induction Au with
 | nil=>exact .cons h .nil
 | cons q r ih=>exact .cons q ih
noncomputable def gR (n:Int)(p:Int × Int):Bool:=decide (0 <= p.1/\p.1 <= n - 1) && (decide (0 <= p.2/\p.2 <= n - 1) && !decide (p.1=p.2))
noncomputable def lG:Sp:=fun vs H Q _=>∃ i:Int,vs=[.int i]/\Q (.bl true) H
noncomputable def j1:Sp:=fun vs H Q _=>∃ i a b:Int,vs=[.int i, .int a, .int b]/\Q (.bl (decide (a <= i/\i <= b))) H
noncomputable def tP:Sp:=fun vs H Q _=>∃ n a b:Int,vs=[.int n, .int a, .int b]/\Q (.bl (gR n (a,b))) H
theorem qR:ao ["value"] ["value"] (af gH):=L2.AQ
theorem nI {f:Addr}{fd:FuncData}(F:AM K "is_whole" "is_whole" gH f fd)(T:Txt mg):Ao P w K mg base aA 1 f fd ["value"] lG:=by
 refine F.ok qR (fun _ _ _ _ h=>?_) (fun _ _ _ s H _ Q E hr h=>?_)
 ·obtain⟨m,rfl,_⟩:=h
  rfl
 ·obtain⟨i,rfl,q⟩:=h
  refine⟨_,ah (aq (eu (az oI rfl T.Hr PyProof.Rows.boot_isinstance (aa (pv 0) (aa (dU (v := .ty "int") rfl T.int PySem.Pv.boot_int rfl) ad)))
   (dZ (uD (az oI rfl T.Hr PyProof.Rows.boot_isinstance (aa (pv 0) (aa (dU (v := .ty "bool") rfl T.bool PySem.Pv.boot_bool rfl) ad))))))),?_⟩
  refine⟨_,rfl, .inl ⟨i,rfl,true,rfl,?_⟩⟩
  refine aL ?_
  exact⟨_,rfl, .inr (.inl ⟨i,rfl,false,rfl,q⟩)⟩
theorem ng:ao ["value", "least", "most"] ["value", "least", "most"] (af ji):=L2.AQ
theorem sy {f fh:Addr}{fd Di:FuncData}(F:AM K "is_within" "is_within" ji f fd)(T:Txt mg)(mh:mg "is_whole" = some (.ref fh))(Fh:AM K "is_whole" "is_whole" gH fh Di)(bh:Binds K Di ["value"] []) :
  Ao P w K mg base aA 2 f fd ["value", "least", "most"] j1:=by
 have G:Ao P w K mg base aA 1 fh Di ["value"] lG:=nI Fh T
 refine F.ok ng (fun _ _ _ _ h=>?_) (fun _ _ _ s H _ Q E hr h=>?_)
 ·obtain⟨i,a,b,rfl,_⟩:=h
  rfl
 ·obtain⟨i,a,b,rfl,q⟩:=h
  refine⟨_,ah (aq (eu (ap G hr rfl mh Fh.kp bh .nil al (aa (pv 0) ad)) (dZ (nE qW qW (pv 1) (pv 0) (pv 2))))),?_⟩
  refine⟨_,rfl,i,rfl,true,rfl,aL ?_⟩
  refine⟨_,rfl,_,rfl,_,_,rfl,rfl,_,rfl,?_⟩
  by_cases h1:a <= i
  ·rw[decide_eq_true h1]
   refine aL ⟨_,rfl,_,_,rfl,rfl,?_⟩
   show Q (V.bl (decide (i <= b))) H
   by_cases h2:i <= b
   ·rw[decide_eq_true h2];rw[decide_eq_true ⟨h1,h2⟩]at q;exact q
   ·rw[decide_eq_false h2];rw[decide_eq_false fun z=>h2 z.2]at q;exact q
  ·rw[decide_eq_false h1]
   refine aE ?_
   rw[decide_eq_false fun z=>h1 z.1]at q;exact q
theorem Hs:ao ["places", "one", "other", "last"] ["places", "one", "other"] (af yH):=L2.AQ
theorem zk {f fh:Addr}{fd Di:FuncData}(F:AM K "are_two_places" "are_two_places" yH f fd)(mh:mg "is_within" = some (.ref fh))(kh:keepIn K (.ref fh)=true)(bh:Binds K Di ["value", "least", "most"] [])
  (G:Ao P w K mg base aA 2 fh Di ["value", "least", "most"] j1) :
  Ao P w K mg base aA 3 f fd ["places", "one", "other"] tP:=by
 refine F.ok Hs (fun _ _ _ _ h=>?_) (fun _ _ _ s H _ Q E hr h=>?_)
 ·obtain⟨i,a,b,rfl,_⟩:=h
  rfl
 ·obtain⟨n,a,b,rfl,q⟩:=h
  refine⟨_,ae (aC (i:=3) Hs.nd rfl (Or.inl rfl) (aB e6 (pv 0) ag))
   (ah (aq (eu (ap G hr rfl mh kh bh .nil al (aa (pv 1) (aa ag (aa (pv 3) ad))))
    (eu (ap G hr rfl mh kh bh .nil al (aa (pv 2) (aa ag (aa (pv 3) ad)))) (dZ (cj jQ (pv 1) (pv 2) (aw _))))))),?_⟩
  refine⟨_,rfl,_,_,rfl,rfl,?_⟩
  refine⟨_,rfl,_,rfl,a,0,n - 1,rfl,_,rfl,?_⟩
  unfold gR at q
  dsimp only at q
  by_cases h1:0 <= a/\a <= n - 1
  ·rw[decide_eq_true h1]at q ⊢
   rw[Bool.true_and]at q
   refine aL ⟨_,rfl,_,rfl,b,0,n - 1,rfl,_,rfl,?_⟩
   by_cases h2:0 <= b/\b <= n - 1
   ·rw[decide_eq_true h2]at q ⊢
    rw[Bool.true_and]at q
    refine aL ⟨_,rfl,_,rfl,rfl,?_⟩
    have e:decide (V.int a=V.int b)=decide (a=b):=by
     by_cases h:a=b
     ·rw[h];simp
     ·rw[decide_eq_false h,decide_eq_false fun z=>h (by injection z)]
    show Q (V.bl (!decide (V.int a=V.int b))) H
    rw[e];exact q
   ·rw[decide_eq_false h2]at q ⊢
    exact aE q
  ·rw[decide_eq_false h1]at q ⊢
   exact aE q
end K82
namespace L2
open PySem
end L2
namespace K82
open PySem L2
variable {P:Program}{w:World}{K:Frag}{mg:Str->Option Value}{base:Heap}
inductive Due | places | many (k:Nat) | AI (k:Nat) | good
noncomputable def oN (n:Int)(ps:List (Int × Int)):Option Nat:=ps.findIdx? fun p=>!gR n p
noncomputable def fO (n:Int)(ps:List (Int × Int)):Due:=if decide (1 <= n/\n <= 12)=false then .places else if 40 < ps.length then .many ps.length else match oN n ps with | some k => .AI k | none => .good
structure Cs where
 land:Addr
noncomputable def c3 (H:Hp)(c:Cs)(x dx t:Addr)(n:Int)(Az:List V)(ps:List (Int × Int)):Prop:=H x=some (.ins c.land dx [("places", .int n),("lanes", .ref t)])/\H t=some (.tup Az)/\AN H Az ps
noncomputable def pz (K:Frag)(c:Cs):Sp:=fun vs H Q E=>∃ x dx n p AB ps,vs=[.ref x, .int n, .ref p]/\H x=some (.ins c.land dx [])/\Ap K H p AB/\AN H AB ps/\AB.length <= 1000 /\
 (fO n ps = .places->False) /\
 (∀ k,fO n ps = .many k->False) /\
 (∀ k,fO n ps = .AI k->False) /\
 (fO n ps = .good->∀ H' t Az,(∀ b o,b ≠ x->H b=some o->H' b=some o)->c3 H' c x dx t n Az ps->Q .AG H')
noncomputable def tJ (s:Stmt):Scope:=match s with
 | .Assign _ (.Call _ [.ListComp _ _ sc _] _ _) _=>sc
 | _=>zQ0
noncomputable def jK (s:Stmt):Scope:=match aG s with
 | .Return (some (.ListComp _ _ sc _)) _ :: _=>sc
 | _=>zQ0
abbrev NI:List Str:=["self", "places", "lanes", "lane", "pair"]
structure rW (K:Frag)(c:Cs):Prop where
 cl:CG K c.land
 np:AE K c.land "places"
 nl:AE K c.land "lanes"
theorem kB {n:Int}{ps:List (Int × Int)}(h:∀ p ∈ ps,gR n p=true):oN n ps=none:=by
 unfold oN
 rw[List.findIdx?_eq_none_iff]
 intro p hp
 rw[h p hp];rfl
theorem qz {n:Int}{ps:List (Int × Int)}{i:Nat}{p:Int × Int}(h:∀ q ∈ ps.take i,gR n q=true)(hi:ps[i]? = some p)(hb:gR n p=false):oN n ps=some i:=by
 unfold oN
 rw[List.findIdx?_eq_some_iff_getElem]
 obtain⟨Bg,e⟩:=List.getElem?_eq_some_iff.mp hi
 refine⟨Bg,by rw[e,hb];rfl,fun j hj=>?_⟩
 have hm:ps[j]'(lt_trans hj Bg) ∈ ps.take i:=List.mem_take_iff_getElem.mpr ⟨j,by omega,rfl⟩
 rw[h _ hm];simp
noncomputable def Off (x:Addr)(H H':Hp):Prop:=∀ b o,b ≠ x->H b=some o->H' b=some o
theorem Off.sq {K:Frag}{H H':Hp}{x p C dx:Addr}{fs:List (Str × V)}{xs:List V}(o:Off x H H')(hx:H x=some (.ins C dx fs))(h:Ap K H p xs):Ap K H' p xs:=by
 rcases h with (h | ⟨ob,h⟩) | h
 ·exact .inl (.inl (o _ _ (bz h hx (by intro z;cases z)) h))
 ·exact .inl (.inr ⟨ob,o _ _ (bz h hx (by intro z;cases z)) h⟩)
 ·exact .inr h
theorem Off.Fb {H H':Hp}{x C dx:Addr}{fs:List (Str × V)}(o:Off x H H')(hx:H x=some (.ins C dx fs)):∀ {vs:List V}{ps:List (Int × Int)},AN H vs ps->AN H' vs ps:=fun Au=>by
 induction Au with
 | nil=>exact .nil
 | cons zz r ih=>obtain⟨t,e,q⟩:=zz;exact .cons ⟨t,e,o _ _ (bz q hx (by intro z;cases z)) q⟩ ih
theorem DV:ao NI ["self", "places", "lanes"] (af nq):=L2.AQ
theorem Aa:Bi NI (af nq) (tJ ((aG nq).getD 4 (.Pass ⟨0,0,0,0⟩))) [] []:=L2.B0
theorem zG:(["pair"]:List Str).Nodup:=by decide +kernel
theorem xj {c:Cs}{f fw ft:Addr}{fd dw dt:FuncData}{t1 t2:Tok}(F:AM K "__init__" "Land.__init__" nq f fd)(T:Txt mg)(L:rW K c)
  (mw:mg "is_within" = some (.ref fw)) (kw:keepIn K (.ref fw)=true) (bw:Binds K dw ["value", "least", "most"] []) (Gw:Ao P w K mg base aA 2 fw dw ["value", "least", "most"] j1)
  (mt:mg "are_two_places" = some (.ref ft)) (kt:keepIn K (.ref ft)=true) (bt:Binds K dt ["places", "one", "other"] []) (Gt:Ao P w K mg base aA 3 ft dt ["places", "one", "other"] tP)
  (mp:mg "MOST_PLACES" = some (.int 12 t1)) (ml:mg "MOST_LANES" = some (.int 40 t2)) :
  Ao P w K mg base aA 4 f fd ["self", "places", "lanes"] (pz K c):=by
 refine F.ok DV (fun _ _ _ _ h=>?_) (fun _ _ _ s H _ Q E hr h=>?_)
 ·obtain⟨x,dx,n,p,AB,ps,rfl,_⟩:=h
  rfl
 ·obtain⟨x,dx,n,p,AB,ps,rfl,hx,hp,hl,hlen,h1,h2,h3,h4⟩:=h
  have Bu:Ax 2 _:=hr.mono (by decide)
  refine⟨_,ae (aP (bM (bF (ap Gw Bu rfl mw kw bw .nil al (aa (pv 1) (aa ag (aa (dS (v := .int 12) rfl mp ⟨_,rfl⟩) ad))))))
    (ah b5) aD)
   (ae (aP (au iV (az ay rfl T.len PySem.boot_len (aa (pv 2) ad)) (dS (v := .int 40) rfl ml ⟨_,rfl⟩) (aw _))
    (ah b5) aD)
   (ae (bN PassesOwn.never rfl (jN rfl T.enum (aa (pv 2) ad)) (gK rfl (bC (av (i:=3) DV.nd rfl (Or.inl rfl)) (bC (av (i:=4) DV.nd rfl (Or.inl rfl)) eV)))
    (ah (aP (bM (bF (ap Gt hr rfl mt kt bt .nil al (aa (pv 1) (aa (ax aF (pv 4) ag (fun _ _=>rfl)) (aa (ax aF (pv 4) ag (fun _ _=>rfl)) ad))))))
     (ah b5) aD)))
   (ae (b6 (pv 0) (pv 1) rfl)
   (ah (b6 (pv 0) (aY cU rfl T.tuple PySem.Pv.boot_tuple (aa (aS (own:=["pair"]) (capN:=[]) (cap:=[]) Aa rfl (aR (pv 2))
    (fun C s' H' fp=>⟨av (i:=0) zG rfl (Or.inl rfl),bc,bI (aa (ax (show kE _ (iC K) from aF) (pv 0) ag (fun _ _=>rfl)) (aa (ax (show kE _ (iC K) from aF) (pv 0) ag (fun _ _=>rfl)) ad))⟩)) ad)) rfl))))),?_⟩
  refine⟨_,rfl,n,1,12,rfl,_,rfl,?_⟩
  by_cases hn:1 <= n/\n <= 12
  rotate_left
  ·rw[decide_eq_false hn]
   exact aL (h1 (by unfold fO;rw[if_pos (decide_eq_false hn)]))
  rw[decide_eq_true hn]
  refine aE ?_
  have BG:AB.length=ps.length:=Paired.length hl
  refine⟨_,rfl,p,_,rfl, .inl hp,_,_,rfl,rfl,_,rfl,?_⟩
  by_cases hm:40 < ps.length
  ·rw[decide_eq_true (show (40:Int) < (AB.length:Nat) by omega)]
   refine aL (h2 ps.length ?_)
   unfold fO
   rw[decide_eq_true hn,if_neg (by decide),if_pos hm]
  rw[decide_eq_false (show ¬ (40:Int) < (AB.length:Nat) by omega)]
  refine aE ?_
  refine⟨_,rfl,p,rfl,⟨_,hp⟩,ku (sq:=fun H=>Ap K H p) (xs:=AB) (fun i σ H2=>∃ a b:Option V,An H H2/\σ=[some (.ref x),some (.int n),some (.ref p),a,b]/\∀ q ∈ ps.take i,gR n q=true)
   ⟨none,none,An.refl H,rfl,fun q hq=>by simp at hq⟩ (fun i σ H2 _ Au=>by obtain⟨a,b,s2,_⟩:=Au;exact s2.seq hp) ?_ ?_⟩
  ·rintro i v q σ H2 hv ⟨a,b,s2,rfl,Cn⟩ hq
   obtain⟨pr,Cr,t,rfl,ht⟩:=AN.get hl hv
   have s3:An H (upd H2 q (.tup [.int i, .ref t])):=s2.new hq
   refine⟨q,_,rfl,Ay.of ac,rfl,_,_,rfl,_,_,rfl,rfl,?_⟩
   have FF:Ay K (upd H2 q (.tup [.int i, .ref t])) t [.int pr.1, .int pr.2]:=Ay.of (s3 _ _ ht)
   refine⟨_,rfl,_,rfl,t,_,0,_,rfl,rfl,FF,ak (j:=0) rfl,?_⟩
   refine⟨_,rfl,t,_,1,_,rfl,rfl,FF,ak (j:=1) rfl,n,pr.1,pr.2,rfl,_,rfl,?_⟩
   cases ho:gR n (pr.1,pr.2) with
   | true =>
    refine aE ⟨some (.int i),some (.ref t),s3,rfl,fun z hz=>?_⟩
    rw[take_succ,Cr]at hz
    rcases mem_append.mp hz with hz | hz
    ·exact Cn z hz
    ·have:z=pr:=by simpa using hz
     rw[this];exact ho
   | false =>
    refine aL (h3 i ?_)
    unfold fO
    rw[decide_eq_true hn,if_neg (by decide),if_neg hm,qz Cn Cr ho]
  ·rintro σ H2 ⟨a,b,s2,rfl,Cn⟩
   have Bl:fO n ps = .good:=by
    unfold fO
    rw[decide_eq_true hn,if_neg (by decide),if_neg hm,kB (fun z hz=>Cn z (by rw[BG,take_length];exact hz))]
   have FG:=s2 _ _ hx
   refine⟨_,rfl,_,rfl,x,c.land,dx,_,rfl,FG,L.cl,L.np,by show 0 < 1000;decide,?_⟩
   generalize VL:upd H2 x (.ins c.land dx (aQ "places" (.int n) []))=H3
   have o3:Off x H H3:=fun b o hb e=>by rw[← VL,ai hb];exact s2 _ _ e
   have x3:H3 x=some (.ins c.land dx [("places", .int n)]):=by rw[← VL,ac];rfl
   have l3:AN H3 AB ps:=o3.Fb hx hl
   have p3:Ap K H3 p AB:=o3.sq hx hp
   refine⟨_,rfl,p,rfl,⟨_,p3⟩,aX AB.length (by rw[sizeLine_eq];omega) (fun i acc H4=>An H3 H4/\acc.length=i/\AN H4 acc (ps.take i)) ⟨An.refl _,rfl, .nil⟩ (fun i acc H4 h=>le_of_eq h.2.1) ?_ ?_⟩
   ·rintro i acc H4 hi ⟨s4,ha,hA⟩
    have q4:=s4.seq p3
    refine⟨⟨AB,AB[i],q4,by simp[hi]⟩,fun y H5 ⟨e5,hy⟩=>?_⟩
    subst e5
    have hy:=hy AB q4
    obtain⟨pr,Cr,t,rfl,ht⟩:=AN.get l3 hy
    have FF:Ay K H5 t [.int pr.1, .int pr.2]:=Ay.of (s4 _ _ ht)
    refine⟨_,rfl,t,_,0,_,rfl,rfl,FF,ak (j:=0) rfl,?_⟩
    refine⟨_,rfl,t,_,1,_,rfl,rfl,FF,ak (j:=1) rfl,by show 2 <= sizeLine;decide,fun r Cp=>?_⟩
    refine⟨s4.new Cp,by rw[length_append,ha];rfl,?_⟩
    rw[take_succ,Cr]
    exact AN.snoc ⟨r,rfl,ac⟩ (AN.same (An.new (An.refl _) Cp) hA)
   ·rintro acc H4 ⟨s4,ha,hA⟩
    have q4:=s4.seq p3
    refine⟨⟨AB,q4,le_refl _⟩,fun D hD=>?_⟩
    have s5:An H3 (upd H4 D (.lst acc)):=s4.new hD
    refine⟨D,acc,rfl, .inl ⟨Ap.of ac,fun t ht=>?_⟩⟩
    have s6:An H3 (upd (upd H4 D (.lst acc)) t (.tup acc)):=s5.new ht
    have x6:=s6 _ _ x3
    refine⟨_,rfl,x,c.land,dx,_,rfl,x6,L.cl,L.nl,by show 1 < 1000;decide,?_⟩
    have Ll:t ≠ x:=fun z=>by rw[z,s5 _ _ x3]at ht;cases ht
    refine h4 Bl _ t acc (fun b o hb e=>?_) ⟨by rw[ac];rfl,by rw[ai Ll,ac],?_⟩
    ·rw[ai hb];exact s6 _ _ (o3 b o hb e)
    ·have hA':AN H4 acc ps:=by rw[BG,take_length]at hA;exact hA
     have x4:=s4 _ _ x3
     have hA6:AN (upd (upd H4 D (.lst acc)) t (.tup acc)) acc ps:=AN.same (An.new (An.new (An.refl _) hD) ht) hA'
     exact Off.Fb (x:=x) (fun b o hb e=>by rw[ai hb];exact e) x6 hA6
noncomputable def i7 (sel:Int × Int->Int)(ps:List (Int × Int))(pl:Int)(m:Nat):List V:=((List.range m).filter fun k=>decide (sel (ps.getD k (0,0))=pl)).map fun k:Nat=>V.int k
noncomputable def tY (c:Cs)(sel:Int × Int->Int):Sp:=fun vs H Q _=>∃ (x dx t:Addr)(n:Int)(Az:List V)(ps:List (Int × Int))(pl:Int),vs=[.ref x, .int pl]/\c3 H c x dx t n Az ps/\ps.length <= 1000 /\
 ∀ H' D,An H H'->H' D=none->Q (.ref D) (upd H' D (.lst (i7 sel ps pl ps.length)))
theorem nY {sel:Int × Int->Int}{ps:List (Int × Int)}{pl:Int}{i:Nat}{pr:Int × Int}(h:ps[i]? = some pr):i7 sel ps pl (i + 1)=if decide (sel pr=pl) then i7 sel ps pl i ++ [V.int i] else i7 sel ps pl i:=by
 have e:ps.getD i (0,0)=pr:=by rw[getD_eq_getElem?_getD,h];rfl
 unfold i7
 rw[range_succ,filter_append]
 by_cases hs:sel pr=pl
 ·rw[if_pos (decide_eq_true hs),List.filter_cons_of_pos (by rw[e];exact decide_eq_true hs)];simp
 ·rw[if_neg (by rw[decide_eq_false hs];decide),List.filter_cons_of_neg (by rw[e,decide_eq_false hs];decide)];simp
theorem r9 {sel:Int × Int->Int}{ps:List (Int × Int)}{pl:Int}{i:Nat}:(i7 sel ps pl i).length <= i:=by
 unfold i7
 rw[length_map]
 have:=length_filter_le (fun k=>decide (sel (ps.getD k (0,0))=pl)) (List.range i)
 rwa [length_range]at this
theorem Lm:ao ["self", "place"] ["self", "place"] (af ur):=L2.AQ
theorem Ln:Bi ["self", "place"] (af ur) (jK ur) ["place"] [1]:=L2.B0
theorem yG:ao ["self", "place"] ["self", "place"] (af nn):=L2.AQ
theorem zZ:Bi ["self", "place"] (af nn) (jK nn) ["place"] [1]:=L2.B0
theorem re:(["lane", "pair", "place"]:List Str).Nodup:=by decide +kernel
theorem gP (a b:Int):decide (V.int a=V.int b)=decide (a=b):=by
 by_cases h:a=b
 ·rw[h];simp
 ·rw[decide_eq_false h,decide_eq_false fun z=>h (by injection z)]
theorem zo {c:Cs}{f:Addr}{fd:FuncData}(F:AM K "out_of" "Land.out_of" ur f fd)(T:Txt mg)(L:rW K c):Ao P w K mg base aA 1 f fd ["self", "place"] (tY c Prod.fst):=by
 refine F.ok Lm (fun _ _ _ _ h=>?_) (fun _ _ _ s H _ Q E hr h=>?_)
 ·obtain⟨x,dx,t,n,Az,ps,pl,rfl,_⟩:=h
  rfl
 ·obtain⟨x,dx,t,n,Az,ps,pl,rfl,⟨hx,ht,hl⟩,hlen,q⟩:=h
  refine⟨_,ah (aq (aS (own:=["lane", "pair"]) (capN:=["place"]) (cap:=[1]) Ln rfl (nA rfl T.enum (aa (am (pv 0) rfl) ad))
   (fun C s' H' fp=>⟨(show PG _ _ (zT K 2 _) from gK rfl (bC (av (i:=0) re rfl (Or.inl rfl)) (bC (av (i:=1) re rfl (Or.inl rfl)) eV))),
    ci (au bj (ax (show kE _ (iC K) from aF) (pv 1) ag (fun _ _=>rfl)) (pv 2) (aw _)),pv 0⟩))),?_⟩
  have BG:Az.length=ps.length:=Paired.length hl
  refine⟨_,rfl,x,c.land,dx,_,_,rfl,hx,L.cl,L.nl,rfl,t,rfl,⟨_,Ay.of ht⟩,aX ps.length (by rw[sizeLine_eq];omega) (fun i acc H4=>An H H4/\acc=i7 Prod.fst ps pl i) ⟨An.refl _,rfl⟩ (fun i acc H4 h=>by rw[h.2];exact r9) ?_ ?_⟩
  ·rintro i acc H4 hi ⟨s4,rfl⟩
   have q4:Ay K H4 t Az:=Ay.of (s4 _ _ ht)
   refine⟨⟨Az,Az[i]'(by omega),q4,by simp[BG,hi]⟩,fun y H5 ⟨r,D3,ey,h5⟩=>?_⟩
   obtain⟨v,hv,rfl⟩:=h5 Az q4
   subst ey
   obtain⟨pr,Cr,u,rfl,hu⟩:=AN.get hl hv
   have s5:An H (upd H4 r (.tup [.int i, .ref u])):=s4.new D3
   refine⟨r,_,rfl,Ay.of ac,rfl,_,_,rfl,_,_,rfl,rfl,?_⟩
   refine⟨_,rfl,u,_,0,_,rfl,rfl,Ay.of (s5 _ _ hu),ak (j:=0) rfl,_,rfl,rfl,_,rfl,?_⟩
   rw[gP,nY Cr]
   cases hd:decide (pr.1=pl) with
   | true=>exact aL ⟨_,rfl,s5,by simp[hd]⟩
   | false=>exact aE ⟨s5,by simp[hd]⟩
  ·rintro acc H4 ⟨s4,rfl⟩
   exact⟨⟨Az,Ay.of (s4 _ _ ht),BG⟩,fun D hD=>q H4 D s4 hD⟩
theorem xi {c:Cs}{f:Addr}{fd:FuncData}(F:AM K "into" "Land.into" nn f fd)(T:Txt mg)(L:rW K c):Ao P w K mg base aA 1 f fd ["self", "place"] (tY c Prod.snd):=by
 refine F.ok yG (fun _ _ _ _ h=>?_) (fun _ _ _ s H _ Q E hr h=>?_)
 ·obtain⟨x,dx,t,n,Az,ps,pl,rfl,_⟩:=h
  rfl
 ·obtain⟨x,dx,t,n,Az,ps,pl,rfl,⟨hx,ht,hl⟩,hlen,q⟩:=h
  refine⟨_,ah (aq (aS (own:=["lane", "pair"]) (capN:=["place"]) (cap:=[1]) zZ rfl (nA rfl T.enum (aa (am (pv 0) rfl) ad))
   (fun C s' H' fp=>⟨(show PG _ _ (zT K 2 _) from gK rfl (bC (av (i:=0) re rfl (Or.inl rfl)) (bC (av (i:=1) re rfl (Or.inl rfl)) eV))),
    ci (au bj (ax (show kE _ (iC K) from aF) (pv 1) ag (fun _ _=>rfl)) (pv 2) (aw _)),pv 0⟩))),?_⟩
  have BG:Az.length=ps.length:=Paired.length hl
  refine⟨_,rfl,x,c.land,dx,_,_,rfl,hx,L.cl,L.nl,rfl,t,rfl,⟨_,Ay.of ht⟩,aX ps.length (by rw[sizeLine_eq];omega) (fun i acc H4=>An H H4/\acc=i7 Prod.snd ps pl i) ⟨An.refl _,rfl⟩ (fun i acc H4 h=>by rw[h.2];exact r9) ?_ ?_⟩
  ·rintro i acc H4 hi ⟨s4,rfl⟩
   have q4:Ay K H4 t Az:=Ay.of (s4 _ _ ht)
   refine⟨⟨Az,Az[i]'(by omega),q4,by simp[BG,hi]⟩,fun y H5 ⟨r,D3,ey,h5⟩=>?_⟩
   obtain⟨v,hv,rfl⟩:=h5 Az q4
   subst ey
   obtain⟨pr,Cr,u,rfl,hu⟩:=AN.get hl hv
   have s5:An H (upd H4 r (.tup [.int i, .ref u])):=s4.new D3
   refine⟨r,_,rfl,Ay.of ac,rfl,_,_,rfl,_,_,rfl,rfl,?_⟩
   refine⟨_,rfl,u,_,1,_,rfl,rfl,Ay.of (s5 _ _ hu),ak (j:=1) rfl,_,rfl,rfl,_,rfl,?_⟩
   rw[gP,nY Cr]
   cases hd:decide (pr.2=pl) with
   | true=>exact aL ⟨_,rfl,s5,by simp[hd]⟩
   | false=>exact aE ⟨s5,by simp[hd]⟩
  ·rintro acc H4 ⟨s4,rfl⟩
   exact⟨⟨Az,Ay.of (s4 _ _ ht),BG⟩,fun D hD=>q H4 D s4 hD⟩
noncomputable def yd:Sp:=fun vs H Q _=>∃ m k:Nat,vs=[.int m, .int k]/\Q (.bl (m.testBit k)) H
noncomputable def eL (m:Nat):List V:=(Yd.Dw m (Builtin.Int.intBits (m:Int))).map fun k:Nat=>V.int k
noncomputable def xY:Sp:=fun vs H Q _=>∃ m:Nat,vs=[.int m]/\m < 2 ^ 400/\∀ p,H p=none->Q (.ref p) (upd H p (.lst (eL m)))
noncomputable def xU (K:Frag):Sp:=fun vs H Q _=>∃ (a:Addr)(ks:List Nat),vs=[.ref a]/\Ap K H a (ks.map fun k:Nat=>V.int k)/\(∀ k ∈ ks,k <= 1000)/\Q (.int (Yd.Bm ks 0:Nat)) H
theorem Lo:ao ["some", "number"] ["some", "number"] (af wB):=L2.AQ
theorem zB {f:Addr}{fd:FuncData}(F:AM K "has" "has" wB f fd):Ao P w K mg base aA 1 f fd ["some", "number"] yd:=by
 refine F.ok Lo (fun _ _ _ _ h=>?_) (fun _ _ _ s H _ Q E hr h=>?_)
 ·obtain⟨m,k,rfl,_⟩:=h
  rfl
 ·obtain⟨m,k,rfl,q⟩:=h
  refine⟨_,ah (aq (eu (cj yh (pv 1) ag (aw _)) (dZ (cj bj (aB uG (aB pN (pv 0) (pv 1)) ag) ag (aw _))))),?_⟩
  refine⟨_,rfl,_,_,rfl,rfl,_,rfl,?_⟩
  rw[decide_eq_true (show (0:Int) <= (k:Int) by omega)]
  refine aL ?_
  refine⟨_,rfl,_,rfl,_,_,rfl,rfl,(show (0:Int) <= (k:Int) by omega),_,_,rfl,rfl,rfl,?_⟩
  have e:decide (V.int (Builtin.bitAnd ((m:Int) / 2 ^ (k:Int).toNat) 1)=V.int 1)=m.testBit k:=by
   rw[toNat_natCast,← Yd.Gz m k]
   by_cases h:Builtin.bitAnd ((m:Int) / 2 ^ k) 1=1
   ·rw[h];simp
   ·rw[decide_eq_false h,decide_eq_false fun z=>h (by injection z)]
  rw[e]
  exact q
theorem vf {ks:List Nat}{i:Nat}{x:V}(h:(ks.map fun k:Nat=>V.int k)[i]? = some x):∃ k,ks[i]? = some k/\x=V.int k:=by
 rw[getElem?_map]at h
 cases e:ks[i]? with
 | none=>rw[e]at h;cases h
 | some k=>rw[e]at h;exact⟨k,rfl,(Option.some.inj h).symm⟩
theorem Ek:ao ["numbers", "some", "number"] ["numbers"] (af yJ):=L2.AQ
theorem zm {f:Addr}{fd:FuncData}(F:AM K "set_of" "set_of" yJ f fd):Ao P w K mg base aA 1 f fd ["numbers"] (xU K):=by
 refine F.ok Ek (fun _ _ _ _ h=>?_) (fun _ _ _ s H _ Q E hr h=>?_)
 ·obtain⟨a,ks,rfl,_⟩:=h
  rfl
 ·obtain⟨a,ks,rfl,hS,hk,q⟩:=h
  refine⟨_,ae (aC (i:=1) Ek.nd rfl (Or.inl rfl) ag)
   (ae (bN PassesOwn.never rfl (aR (pv 0)) (av (i:=2) Ek.nd rfl (Or.inl rfl))
    (ah (aC (i:=1) Ek.nd rfl (Or.inl rfl) (aB K4 (pv 1) (aB zh ag (pv 2))))))
   (ah (aq (pv 1)))),?_⟩
  refine⟨_,rfl,a,rfl,⟨_,hS⟩,fN (K:=K) (a:=a) (xs:=ks.map fun k:Nat=>V.int k) (fun i σ H2=>∃ v:Option V,H2=H/\σ=[some (.ref a),some (.int (Yd.Bm (ks.take i) 0:Nat)),v])
   ⟨none,rfl,rfl⟩ (fun i σ H2 _ Au=>by obtain⟨_,e,_⟩:=Au;rw[e];exact hS) ?_ ?_⟩
  ·rintro i x σ H2 hx ⟨v,rfl,rfl⟩
   obtain⟨k,ek,rfl⟩:=vf hx
   have G7:=hk k (mem_of_getElem? ek)
   refine⟨_,rfl,_,rfl,_,_,rfl,rfl,⟨(show (0:Int) <= (k:Int) by omega),(show (k:Int) <= 1000000 by omega),(by decide)⟩,_,_,rfl,rfl,some (.int k),rfl,?_⟩
   have e:Builtin.bitOr ((Yd.Bm (ks.take i) 0:Nat):Int) (1 * 2 ^ (k:Int).toNat)=((Yd.Bm (ks.take (i + 1)) 0:Nat):Int):=by
    rw[take_succ,ek,toNat_natCast,Int.one_mul,show (2:Int) ^ k=((2 ^ k:Nat):Int) by rw[Int.natCast_pow];rfl,Yd.Ew,Yd.EY]
    rfl
   show [some (V.ref a),some (V.int _),some (V.int k)]=_
   rw[e]
  ·rintro σ H2 ⟨v,rfl,rfl⟩
   refine⟨_,rfl,?_⟩
   rw[length_map,take_length]
   exact q
theorem Lp:ao ["some"] ["some"] (af uu):=L2.AQ
theorem Lq:(["number", "some"]:List Str).Nodup:=by decide +kernel
theorem Lr:Bi ["some"] (af uu) (jK uu) ["some"] [0]:=L2.B0
theorem zr {f fh:Addr}{fd Di:FuncData}(F:AM K "members" "members" uu f fd)(T:Txt mg)(mh:mg "has" = some (.ref fh))(Fh:AM K "has" "has" wB fh Di)(bh:Binds K Di ["some", "number"] []):Ao P w K mg base aA 2 f fd ["some"] xY:=by
 have G:Ao P w K mg base aA 1 fh Di ["some", "number"] yd:=zB Fh
 refine F.ok Lp (fun _ _ _ _ h=>?_) (fun _ _ _ s H _ Q E hr h=>?_)
 ·obtain⟨m,rfl,_⟩:=h
  rfl
 ·obtain⟨m,rfl,hm,q⟩:=h
  refine⟨_,ah (aq (aS (own:=["number"]) (capN:=["some"]) (cap:=[0]) Lr rfl
   (aT rfl T.range (aa (zd PySem.F.plainAttrs_int PySem.F.slot_int_bit_length PySem.F.type_int_bit_length xr (pv 0)) ad))
   (fun C s' H' fp=>⟨av (i:=0) Lq rfl (Or.inl rfl),ci (bF (ap G hr rfl mh Fh.kp bh .nil al (aa (pv 1) (aa (pv 0) ad)))),pv 0⟩))),?_⟩
  have hb:Builtin.Int.intBits (m:Int) <= 400:=Yd.bits_le hm
  refine⟨_,rfl,rfl,_,rfl,rfl,(Builtin.Int.intBits (m:Int):Nat),rfl,by omega,by omega,?_⟩
  rw[toNat_natCast]
  refine o0 (fun k=>m.testBit k) (fun k=>V.int k) (by rw[sizeLine_eq];omega) (fun i acc N hi h=>?_) q
  refine⟨_,rfl,_,rfl,m,i,by simp,_,rfl,?_⟩
  cases e:m.testBit i with
  | true =>
   rw[e]at h
   refine aL ⟨_,rfl,?_⟩
   simpa using h
  | false =>
   rw[e]at h
   exact aE (by simpa using h)
noncomputable def iz (ks:List Nat):List Int:=ks.map fun k:Nat=>(k:Int)
theorem zN (ks:List Nat):(iz ks).map V.int=ks.map fun k:Nat=>V.int k:=by rw[iz,map_map];rfl
theorem r8 {ks:List Nat}(h:ks.Pairwise (· < ·)):(iz ks).Pairwise (· < ·):=by
 unfold iz
 rw[List.pairwise_map]
 exact h.imp fun z=>by omega
theorem Bq {ks:List Nat}{k:Int}:k ∈ iz ks↔∃ n ∈ ks,(n:Int)=k:=mem_map
theorem qb {ks:List Nat}{ms:List Int}(h1:ms.Pairwise (· < ·))(h2:∀ k,k ∈ ms↔k ∈ iz ks):iz (Yd.Dw (Yd.Bm ks 0) (Builtin.Int.intBits ((Yd.Bm ks 0:Nat):Int)))=ms:=by
 refine Yd.Dx (r8 (Yd.CH _ _)) h1 fun k=>?_
 rw[h2 k,Bq,Bq]
 constructor
 ·rintro⟨n,hn,e⟩
  rw[Yd.Co (Yd.CP _),Yd.Bt]at hn
  exact⟨n,by simpa using hn,e⟩
 ·rintro⟨n,hn,e⟩
  refine⟨n,?_,e⟩
  rw[Yd.Co (Yd.CP _),Yd.Bt]
  simpa using hn
theorem ug {ks:List Nat}{b:Nat}(h:∀ k ∈ ks,k < b):Yd.Bm ks 0 < 2 ^ b:=by
 rw[← Yd.Gu h]
 exact Yd.CO ks b
theorem sd {ks:List Nat}{k:Nat}:(Yd.Bm ks 0).testBit k=decide ((k:Int) ∈ iz ks):=by
 rw[Yd.Bt,Nat.zero_testBit,Bool.false_or]
 congr 1
 refine propext ⟨fun h=>Bq.mpr ⟨k,h,rfl⟩,fun h=>?_⟩
 obtain⟨n,hn,e⟩:=Bq.mp h
 have:n=k:=by omega
 rw[← this]
 exact hn
structure Rw where
 p:Int
 g:Int
 c:Option Nat
 s:List Nat
noncomputable def aM (r:Rw):bV:=[some r.p,some r.g,r.c.map fun k:Nat=>(k:Int)]
noncomputable def dM (sel:Int × Int->Int)(ps:List (Int × Int))(pl:Int):List Nat:=(List.range ps.length).filter fun k=>decide (sel (ps.getD k (0,0))=pl)
noncomputable def ix (n:Int)(ps:List (Int × Int))(r:Rw):Bool :=
 gR n (r.p,r.g) && ((match r.c with | none=>true | some k=>decide (k ∈ dM Prod.snd ps r.p)) && r.s.all fun k=>decide (k ∈ dM Prod.fst ps r.p))
noncomputable def nK (sel:Int × Int->Int)(ps:List (Int × Int))(pl:Int)(k:Nat):Bool:=decide (ps.length <= k) || !decide (sel (ps.getD k (0,0))=pl)
noncomputable def oM (n:Int)(ps:List (Int × Int))(ahead:List Rw)(r:Rw):Bool :=
 !gR n (r.p,r.g) || ((match r.c with | none=>false | some k=>nK Prod.snd ps r.p k) || ((r.s.any fun k=>nK Prod.fst ps r.p k) || ahead.any fun a=>decide (aM a=aM r)))
theorem rB {sel:Int × Int->Int}{ps:List (Int × Int)}{pl:Int}{k:Nat}:decide (k ∈ dM sel ps pl) = !nK sel ps pl k:=by
 unfold dM nK
 by_cases h1:ps.length <= k
 ·rw[decide_eq_true h1,decide_eq_false]
  ·rfl
  ·intro z
   have:=mem_range.mp (mem_filter.mp z).1
   omega
 ·rw[decide_eq_false h1]
  by_cases h2:sel (ps.getD k (0,0))=pl
  ·rw[decide_eq_true h2,decide_eq_true]
   ·rfl
   ·exact mem_filter.mpr ⟨mem_range.mpr (by omega),decide_eq_true h2⟩
  ·rw[decide_eq_false h2,decide_eq_false]
   ·rfl
   ·intro z
    exact h2 (of_decide_eq_true (mem_filter.mp z).2)
theorem xJ {l:List Nat}{f:Nat->Bool}:(l.all fun k=>!f k) = !(l.any f):=by
 induction l with
 | nil=>rfl
 | cons a l ih=>rw[all_cons,any_cons,ih,Bool.not_or]
theorem i5 (n:Int)(ps:List (Int × Int))(ahead:List Rw)(r:Rw):oM n ps ahead r=(!ix n ps r || ahead.any fun a=>decide (aM a=aM r)):=by
 unfold oM ix
 have e:(r.s.all fun k=>decide (k ∈ dM Prod.fst ps r.p)) = !(r.s.any fun k=>nK Prod.fst ps r.p k):=by
  rw[← xJ]
  congr 1
  funext k
  exact rB
 rw[e]
 cases hc:r.c with
 | none =>
  dsimp only
  cases gR n (r.p,r.g)<;>cases (r.s.any fun k=>nK Prod.fst ps r.p k)<;>cases (ahead.any fun a=>decide (aM a=aM r))<;>rfl
 | some k =>
  dsimp only
  rw[rB]
  cases gR n (r.p,r.g)<;>cases (nK Prod.snd ps r.p k)<;>cases (r.s.any fun k=>nK Prod.fst ps r.p k)<;>cases (ahead.any fun a=>decide (aM a=aM r))<;>rfl
noncomputable def dP (n:Int)(ps:List (Int × Int))(rs:List Rw)(m:Nat):Option Nat:=(List.range m).find? fun k=>oM n ps (rs.take k) (rs.getD k ⟨0,0,none,[]⟩)
theorem gr {n:Int}{ps:List (Int × Int)}{rs:List Rw}:∀ {m:Nat},(∀ k,k < m->oM n ps (rs.take k) (rs.getD k ⟨0,0,none,[]⟩)=false)->dP n ps rs m=none:=by
 intro m h
 unfold dP
 rw[List.find?_eq_none]
 intro k hk
 rw[h k (mem_range.mp hk)]
 decide
theorem kJ {n:Int}{ps:List (Int × Int)}{rs:List Rw}{m i:Nat}(hi:i < m)(h:∀ k,k < i->oM n ps (rs.take k) (rs.getD k ⟨0,0,none,[]⟩)=false)(hb:oM n ps (rs.take i) (rs.getD i ⟨0,0,none,[]⟩)=true):dP n ps rs m=some i:=by
 unfold dP
 rw[List.find?_range_eq_some]
 refine⟨hb,mem_range.mpr hi,fun j hj=>?_⟩
 rw[h j hj]
 rfl
noncomputable def cn (rs:List Rw)(k:bV):Option Rw:=rs.reverse.find? fun r=>decide (aM r=k)
theorem qg {rs:List Rw}{r:Rw}{k:bV}:cn (rs ++ [r]) k=if k=aM r then some r else cn rs k:=by
 unfold cn
 rw[List.reverse_append,List.reverse_singleton,List.singleton_append,find?_cons]
 by_cases h:aM r=k
 ·rw[decide_eq_true h,if_pos h.symm]
 ·rw[decide_eq_false h,if_neg (Ne.symm h)]
theorem ir {rs:List Rw}{k:bV}:(cn rs k).isSome=rs.any fun r=>decide (aM r=k):=by
 unfold cn
 rw[Bool.eq_iff_iff,List.find?_isSome,any_eq_true]
 exact⟨fun Au=>by obtain⟨x,hx,h⟩:=Au;exact⟨x,mem_reverse.mp hx,h⟩,fun Au=>by obtain⟨x,hx,h⟩:=Au;exact⟨x,mem_reverse.mpr hx,h⟩⟩
noncomputable def cV:Option Nat->V
 | none => .AG
 | some k => .int k
noncomputable def c5 (ks:List Nat):List V:=ks.map fun k:Nat=>V.int k
theorem m8 (ks:List Nat):c5 ks=(iz ks).map V.int:=(zN ks).symm
noncomputable def Ht (H:Hp)(t l:Addr)(r:Rw):Prop:=H t=some (.tup [.int r.p, .int r.g,cV r.c, .ref l])/\H l=some (.lst (c5 r.s))
noncomputable def Hu (H:Hp)(v:V)(r:Rw):Prop:=∃ t l,v = .ref t/\Ht H t l r
abbrev By (H:Hp):List V->List Rw->Prop:=Paired (Hu H)
theorem Ht.same {H H':Hp}{t l:Addr}{r:Rw}(h:An H H')(x:Ht H t l r):Ht H' t l r:=⟨h _ _ x.1,h _ _ x.2⟩
theorem Hu.same {H H':Hp}{v:V}{r:Rw}(h:An H H'):Hu H v r->Hu H' v r:=fun Au=>by obtain⟨t,l,e,x⟩:=Au;exact⟨t,l,e,x.same h⟩
theorem By.imp {H H':Hp}(h:∀ v r,Hu H v r->Hu H' v r):∀ {vs:List V}{rs:List Rw},By H vs rs->By H' vs rs:=fun Au=>by
 induction Au with
 | nil=>exact .nil
 | cons x r ih=>exact .cons (h _ _ x) ih
theorem By.same {H H':Hp}(h:An H H'){vs:List V}{rs:List Rw}(x:By H vs rs):By H' vs rs:=By.imp (fun _ _ z=>z.same h) x
theorem By.get {H:Hp}:∀ {vs:List V}{rs:List Rw}{i:Nat}{v:V},By H vs rs->vs[i]? = some v->∃ r,rs[i]? = some r/\Hu H v r
 | _,_,_,_, .nil,e=>by simp at e
 | _,_,0,_, .cons x _,e=>by simp at e;subst e;exact⟨_,rfl,x⟩
 | _,_,i + 1,v, .cons _ t,e=>by
  obtain⟨r,h1,h2⟩:=By.get (i:=i) (v:=v) t (by simpa using e)
  exact⟨r,by simpa using h1,h2⟩
theorem By.snoc {H:Hp}{v:V}{r:Rw}(h:Hu H v r):∀ {vs:List V}{rs:List Rw},By H vs rs->By H (vs ++ [v]) (rs ++ [r]):=fun Au=>by
 induction Au with
 | nil=>exact .cons h .nil
 | cons x t ih=>exact .cons x ih
theorem r6 (r:Rw):(aM r).map vX=[.int r.p, .int r.g,cV r.c]:=by
 cases r with
 | mk p g c s=>cases c<;>rfl
theorem qi {sel:Int × Int->Int}{ps:List (Int × Int)}{pl:Int}:i7 sel ps pl ps.length=(iz (dM sel ps pl)).map V.int:=by rw[zN];rfl
theorem qh {k:Nat}{l:List Nat}:decide ((k:Int) ∈ iz l)=decide (k ∈ l):=by
 congr 1
 refine propext ⟨fun h=>?_,fun h=>Bq.mpr ⟨k,h,rfl⟩⟩
 obtain⟨n,hn,e⟩:=Bq.mp h
 have:n=k:=by omega
 rw[← this]
 exact hn
theorem rT (ks l:List Nat):((c5 ks).filter fun _=>true).map (fun v=>match v with | .int i=>V.bl (decide (i ∈ iz l)) | _ => .AG)=(ks.map fun k=>decide (k ∈ l)).map V.bl:=by
 rw[filter_eq_self.mpr (fun _ _=>rfl)]
 unfold c5
 rw[map_map,map_map]
 refine List.map_congr_left fun k _=>?_
 show V.bl (decide ((k:Int) ∈ iz l))=V.bl (decide (k ∈ l))
 rw[qh]
theorem vS (ks:List Nat)(p:Nat->Bool):(ks.map p).all id=ks.all p:=by rw[all_map];rfl
noncomputable def xW (K:Frag):Sp:=fun vs H Q _=>∃ (i:Int)(p:Addr)(ns:List Int),vs=[.int i, .ref p]/\Ap K H p (ns.map V.int)/\Q (.bl (decide (i ∈ ns))) H
noncomputable def ub (c:Cs):Sp:=fun vs H Q _=>∃ (x dx lt t l:Addr)(n:Int)(Az:List V)(ps:List (Int × Int))(r:Rw),vs=[.ref x, .ref t]/\c3 H c x dx lt n Az ps/\Ht H t l r/\ps.length <= 1000/\r.s.length <= 1000/\∀ H',An H H'->Q (.bl (ix n ps r)) H'
structure Ls (K:Frag)(c:Cs)(f3 f4:Addr)(d3 d4:FuncData):Prop where
 m3:bB K c.land "out_of" f3
 m4:bB K c.land "into" f4
 b3:Binds K d3 ["self", "place"] []
 b4:Binds K d4 ["self", "place"] []
abbrev NF:List Str:=["land", "row", "place", "came", "begin_here"]
noncomputable def vT (s:Stmt):Scope:=match s with
 | .Return (some (.Call _ [.ListComp _ _ sc _] _ _)) _=>sc
 | _=>zQ0
theorem Lu:ao ["value", "numbers"] ["value", "numbers"] (af yL):=L2.AQ
theorem zp {f fh:Addr}{fd Di:FuncData}(F:AM K "is_one_of" "is_one_of" yL f fd)(T:Txt mg)(mh:mg "is_whole" = some (.ref fh))(Fh:AM K "is_whole" "is_whole" gH fh Di)(bh:Binds K Di ["value"] []) :
  Ao P w K mg base aA 2 f fd ["value", "numbers"] (xW K):=by
 have G:Ao P w K mg base aA 1 fh Di ["value"] lG:=nI Fh T
 refine F.ok Lu (fun _ _ _ _ h=>?_) (fun _ _ _ s H _ Q E hr h=>?_)
 ·obtain⟨i,p,ns,rfl,_⟩:=h
  rfl
 ·obtain⟨i,p,ns,rfl,hS,q⟩:=h
  refine⟨_,ah (aq (eu (ap G hr rfl mh Fh.kp bh .nil al (aa (pv 0) ad)) (dZ (cj sw (pv 0) (pv 1) (by with_unfolding_all rfl))))),?_⟩
  refine⟨_,rfl,i,rfl,true,rfl,aL ?_⟩
  refine⟨_,rfl,_,rfl,p,_,rfl, .inl hS,rfl,iO _,?_⟩
  show Q (V.bl (JH (V.int i) (ns.map V.int))) H
  rw[mG]
  exact q
theorem CS:ao NF ["land", "row"] (af nr):=L2.AQ
theorem Ab:Bi NF (af nr) (vT ((aG nr).getD 5 (.Pass ⟨0,0,0,0⟩))) ["begin_here"] [4]:=L2.B0
theorem zH:(["lane", "begin_here"]:List Str).Nodup:=by decide +kernel
theorem xn {c:Cs}{f ft fo f3 f4:Addr}{fd dt d1 d3 d4:FuncData}(F:AM K "row_fits" "row_fits" nr f fd)(T:Txt mg)(L:rW K c)(M:Ls K c f3 f4 d3 d4)
  (mt:mg "are_two_places" = some (.ref ft)) (kt:keepIn K (.ref ft)=true) (bt:Binds K dt ["places", "one", "other"] []) (Gt:Ao P w K mg base aA 3 ft dt ["places", "one", "other"] tP)
  (mo:mg "is_one_of" = some (.ref fo)) (ko:keepIn K (.ref fo)=true) (bo:Binds K d1 ["value", "numbers"] []) (Go:Ao P w K mg base aA 2 fo d1 ["value", "numbers"] (xW K))
  (G3:Ao P w K mg base aA 1 f3 d3 ["self", "place"] (tY c Prod.fst)) (G4:Ao P w K mg base aA 1 f4 d4 ["self", "place"] (tY c Prod.snd)) :
  Ao P w K mg base aA 4 f fd ["land", "row"] (ub c):=by
 refine F.ok CS (fun _ _ _ _ h=>?_) (fun _ _ _ s H _ Q E hr h=>?_)
 ·obtain⟨x,dx,lt,t,l,n,Az,ps,r,rfl,_⟩:=h
  rfl
 ·obtain⟨x,dx,lt,t,l,n,Az,ps,r,rfl,hL,hR,hlen,OB,q⟩:=h
  have AY:Ax 1 _:=hr.mono (by decide)
  have Bu:Ax 2 _:=hr.mono (by decide)
  refine⟨_,ae (aC (i:=2) CS.nd rfl (Or.inl rfl) (ax aF (pv 1) ag (fun _ _=>rfl)))
   (ae (aC (i:=3) CS.nd rfl (Or.inl rfl) (ax aF (pv 1) ag (fun _ _=>rfl)))
   (ae (aP (bM (bF (ap Gt hr rfl mt kt bt .nil al (aa (am (pv 0) rfl) (aa (pv 2) (aa (ax aF (pv 1) ag (fun _ _=>rfl)) ad)))))) (ah (aq kW)) aD)
   (ae (aP (PW.pt (dY (au qU (pv 3) bQ (aw _)) (dC (bM (bF (ap Go Bu rfl mo ko bo .nil al (aa (pv 3) (aa (aH (pv 0) L.cl M.m4 G4 AY M.b4 .nil al (aa (pv 2) ad)) ad)))))))) (ah (aq kW)) aD)
   (ae (aC (i:=4) CS.nd rfl (Or.inr rfl) (aH (pv 0) L.cl M.m3 G3 AY M.b3 .nil al (aa (pv 2) ad)))
   (ah (aq (az (i4 rfl) rfl T.all PyProof.Rows.boot_all (aa (aS (own:=["lane"]) (capN:=["begin_here"]) (cap:=[4]) Ab rfl (aR (ax aF (pv 1) ag (fun _ _=>rfl)))
    (fun C s' H' fp=>⟨av (i:=0) zH rfl (Or.inl rfl),bc,ap Go Bu rfl mo ko bo .nil al (aa (pv 0) (aa (pv 1) ad))⟩)) ad)))))))),?_⟩
  obtain⟨hT,hl⟩:=hR
  have Lv:Ay K H t [.int r.p, .int r.g,cV r.c, .ref l]:=Ay.of hT
  refine⟨_,rfl,t,_,0,_,rfl,rfl,Lv,ak (j:=0) rfl,?_⟩
  refine⟨_,rfl,t,_,2,_,rfl,rfl,Lv,ak (j:=2) rfl,?_⟩
  refine⟨_,rfl,x,c.land,dx,_,_,rfl,hL.1,L.cl,L.np,rfl,_,rfl,_,rfl,t,_,1,_,rfl,rfl,Lv,ak (j:=1) rfl,n,r.p,r.g,rfl,_,rfl,?_⟩
  cases ho:gR n (r.p,r.g) with
  | false =>
   have e:ix n ps r=false:=by unfold ix;rw[ho];rfl
   refine aL ?_
   have:=q H (An.refl H)
   rw[e]at this
   exact this
  | true =>
   refine aE ?_
   cases hc:r.c with
   | none =>
    refine⟨_,rfl,rfl,_,rfl,aE (aE ?_)⟩
    have s1:=An.refl H
    have e1:ix n ps r=r.s.all fun k=>decide (k ∈ dM Prod.fst ps r.p):=by unfold ix;rw[ho,hc];rfl
    refine⟨_,rfl,x,dx,_,rfl,s1 _ _ hL.1,rfl,_,rfl,x,dx,lt,n,Az,ps,r.p,rfl,⟨s1 _ _ hL.1,s1 _ _ hL.2.1,AN.same s1 hL.2.2⟩,hlen,fun H2 D2 s2 BB=>?_⟩
    have s3:=(s1.trans s2).new (o := .lst (i7 Prod.fst ps r.p ps.length)) BB
    have g2:(upd H2 D2 (.lst (i7 Prod.fst ps r.p ps.length))) D2=some (.lst (i7 Prod.fst ps r.p ps.length)):=ac
    generalize upd H2 D2 (.lst (i7 Prod.fst ps r.p ps.length))=H3 at s3 g2 ⊢
    refine⟨_,rfl,t,_,3,_,rfl,rfl,Ay.of (s3 _ _ hT),ak (j:=3) rfl,l,rfl,⟨_,Ap.of (s3 _ _ hl)⟩,?_⟩
    refine i3 (xs:=c5 r.s) (fun _=>true) (fun v=>match v with | .int i => .bl (decide (i ∈ iz (dM Prod.fst ps r.p))) | _ => .AG) (by rw[sizeLine_eq];simp only[c5,length_map];omega) (Ap.of (s3 _ _ hl)) (fun y acc N hy h=>?_) (fun D hD=>?_)
    ·obtain⟨k',_,rfl⟩:=mem_map.mp hy
     exact⟨_,rfl,_,rfl,(k':Int),D2,iz (dM Prod.fst ps r.p),rfl,by rw[← qi];exact Ap.of g2,by simpa using h⟩
    ·rw[rT]
     refine⟨D,r.s.map fun k=>decide (k ∈ dM Prod.fst ps r.p),rfl,Ap.of ac,?_⟩
     have:=q _ (s3.new (o := .lst ((r.s.map fun k=>decide (k ∈ dM Prod.fst ps r.p)).map V.bl)) hD)
     rw[e1]at this
     rw[vS]
     exact this
   | some k =>
    refine⟨_,rfl,rfl,_,rfl,aL ?_⟩
    refine⟨_,rfl,_,rfl,x,dx,_,rfl,hL.1,rfl,_,rfl,x,dx,lt,n,Az,ps,r.p,rfl,hL,hlen,fun H' D s' hD=>?_⟩
    have s1:=s'.new (o := .lst (i7 Prod.snd ps r.p ps.length)) hD
    refine⟨(k:Int),D,iz (dM Prod.snd ps r.p),rfl,by rw[← qi];exact Ap.of ac,_,rfl,?_⟩
    rw[qh]
    cases hk:decide (k ∈ dM Prod.snd ps r.p) with
    | false =>
     refine aL ?_
     have e:ix n ps r=false:=by unfold ix;rw[ho,hc];dsimp only;rw[hk];rfl
     have:=q _ s1
     rw[e]at this
     exact this
    | true =>
     have e1:ix n ps r=r.s.all fun k=>decide (k ∈ dM Prod.fst ps r.p):=by unfold ix;rw[ho,hc];dsimp only;rw[hk];rfl
     refine aE ?_
     refine⟨_,rfl,x,dx,_,rfl,s1 _ _ hL.1,rfl,_,rfl,x,dx,lt,n,Az,ps,r.p,rfl,⟨s1 _ _ hL.1,s1 _ _ hL.2.1,AN.same s1 hL.2.2⟩,hlen,fun H2 D2 s2 BB=>?_⟩
     have s3:=(s1.trans s2).new (o := .lst (i7 Prod.fst ps r.p ps.length)) BB
     have g2:(upd H2 D2 (.lst (i7 Prod.fst ps r.p ps.length))) D2=some (.lst (i7 Prod.fst ps r.p ps.length)):=ac
     generalize upd H2 D2 (.lst (i7 Prod.fst ps r.p ps.length))=H3 at s3 g2 ⊢
     refine⟨_,rfl,t,_,3,_,rfl,rfl,Ay.of (s3 _ _ hT),ak (j:=3) rfl,l,rfl,⟨_,Ap.of (s3 _ _ hl)⟩,?_⟩
     refine i3 (xs:=c5 r.s) (fun _=>true) (fun v=>match v with | .int i => .bl (decide (i ∈ iz (dM Prod.fst ps r.p))) | _ => .AG) (by rw[sizeLine_eq];simp only[c5,length_map];omega) (Ap.of (s3 _ _ hl)) (fun y acc N hy h=>?_) (fun D hD=>?_)
     ·obtain⟨k',_,rfl⟩:=mem_map.mp hy
      exact⟨_,rfl,_,rfl,(k':Int),D2,iz (dM Prod.fst ps r.p),rfl,by rw[← qi];exact Ap.of g2,by simpa using h⟩
     ·rw[rT]
      refine⟨D,r.s.map fun k=>decide (k ∈ dM Prod.fst ps r.p),rfl,Ap.of ac,?_⟩
      have:=q _ (s3.new (o := .lst ((r.s.map fun k=>decide (k ∈ dM Prod.fst ps r.p)).map V.bl)) hD)
      rw[e1]at this
      rw[vS]
      exact this
structure Ts where
 tab:Addr
 told:Addr
noncomputable def xT (K:Frag):Sp:=fun vs H Q _=>∃ (x C dx:Addr)(lv:V),vs=[.ref x,lv]/\H x=some (.ins C dx [])/\CG K C/\AE K C "land"/\Q .AG (upd H x (.ins C dx [("land",lv)]))
noncomputable def uh (r:Rw):V := .int (Yd.Bm r.s 0:Nat)
noncomputable def pi (P:Program)(w:World)(K:Frag)(c:Cs)(ts:Ts):Sp:=fun vs H Q E=>∃ (x dx lx AL lt p:Addr)(n:Int)(Az AH:List V)(ps:List (Int × Int))(rs:List Rw),
 vs=[.ref x, .ref lx, .ref p]/\H x=some (.ins ts.told dx [])/\c3 H c lx AL lt n Az ps/\Ap K H p AH/\By H AH rs/\AH.length <= 100000/\ps.length <= 1000/\(∀ r ∈ rs,(∀ k ∈ r.s,k <= 1000)/\r.s.length <= 1000) /\
 (∀ i,dP n ps rs rs.length=some i->False) /\
 (dP n ps rs rs.length=none->∀ H' de Aw,Off x H H'->H' x=some (.ins ts.told dx [("land", .ref lx),("entries", .ref de)])->Bk P w H' de Aw->(∀ k,dA Aw k=(cn rs k).map uh)->Q .AG H')
noncomputable def lH (P:Program)(w:World)(ts:Ts):Sp:=fun vs H Q _=>∃ (x dx de:Addr)(lv:V)(Aw:List gW)(r:Rw)(m:Nat),vs=[.ref x, .int r.p, .int r.g,cV r.c]/\H x=some (.ins ts.told dx [("land",lv),("entries", .ref de)])/\Bk P w H de Aw /\
 (dA Aw (aM r)).getD (.int 0) = .int m/\m < 2 ^ 400/\∀ H' D,An H H'->H' D=none->Q (.ref D) (upd H' D (.lst (eL m)))
structure QX (K:Frag)(mg:Str->Option Value)(ts:Ts)(f1:Addr)(d1:FuncData):Prop where
 ct:CG K ts.tab
 nt:AE K ts.tab "land"
 cd:CG K ts.told
 nd1:AE K ts.told "land"
 OC:AE K ts.told "entries"
 mt:mg "Table" = some (.ref ts.tab)
 cm:yq K ts.tab "__init__" f1
 bt:Binds K d1 ["self", "land"] []
abbrev NT:List Str:=["self", "land", "rows", "number", "row", "key"]
theorem Off.land {H H':Hp}{x C dx:Addr}(o:Off x H H')(hx:H x=some (.ins C dx [])){c:Cs}{lx AL lt:Addr}{n:Int}{Az:List V}{ps:List (Int × Int)}(h:c3 H c lx AL lt n Az ps):c3 H' c lx AL lt n Az ps :=
 ⟨o _ _ (bz h.1 hx (by intro z;cases z)) h.1,o _ _ (bz h.2.1 hx (by intro z;cases z)) h.2.1,o.Fb hx h.2.2⟩
theorem Lw:ao ["self", "land"] ["self", "land"] (af yI):=L2.AQ
theorem zl {f:Addr}{fd:FuncData}(F:AM K "__init__" "Table.__init__" yI f fd):Ao P w K mg base aA 1 f fd ["self", "land"] (xT K):=by
 refine F.ok Lw (fun _ _ _ _ h=>?_) (fun _ _ _ s H _ Q E hr h=>?_)
 ·obtain⟨x,C,dx,lv,rfl,_⟩:=h
  rfl
 ·obtain⟨x,C,dx,lv,rfl,hx,hc,hn,q⟩:=h
  refine⟨_,ah (b6 (pv 0) (pv 1) rfl),?_⟩
  exact⟨_,rfl,_,rfl,x,C,dx,_,rfl,hx,hc,hn,by show 0 < 1000;decide,q⟩
theorem wz:ao ["self", "place", "goal", "came"] ["self", "place", "goal", "came"] (af p8):=L2.AQ
theorem uJ {ts:Ts}{f fm f1:Addr}{fd dm d1:FuncData}(F:AM K "ways" "Told.ways" p8 f fd)(B:QX K mg ts f1 d1)(mm:mg "members" = some (.ref fm))(km:keepIn K (.ref fm)=true)(bm:Binds K dm ["some"] [])
  (Gm:Ao P w K mg base aA 2 fm dm ["some"] xY):Ao P w K mg base aA 3 f fd ["self", "place", "goal", "came"] (lH P w ts):=by
 refine F.ok wz (fun _ _ _ _ h=>?_) (fun _ _ _ s H _ Q E hr h=>?_)
 ·obtain⟨x,dx,de,lv,Aw,r,m,rfl,_⟩:=h
  rfl
 ·obtain⟨x,dx,de,lv,Aw,r,m,rfl,hx,hd,hv,hm,q⟩:=h
  have hu:=yl hr
  refine⟨_,ah (aq (ap Gm hr rfl mm km bm .nil al (aa (uC hu (am (pv 0) rfl) (aa (bI (aa (pv 1) (aa (pv 2) (aa (pv 3) ad)))) (aa ag ad))) ad))),?_⟩
  refine⟨_,rfl,x,ts.told,dx,_,_,rfl,hx,B.cd,B.OC,rfl,de,Aw,rfl,hd,?_⟩
  refine⟨_,rfl,_,rfl,_,rfl,by show 3 <= sizeLine;decide,fun t ht=>?_⟩
  have s1:An H (upd H t (.tup [.int r.p, .int r.g,cV r.c])):=(An.refl H).new ht
  refine⟨_,_,dA Aw (aM r),rfl,⟨Aw,aM r,t,hd.same s1,rfl,by rw[r6];exact ac,rfl⟩,?_⟩
  rw[hv]
  exact⟨m,rfl,hm,fun D hD=>q _ D s1 hD⟩
theorem CT:ao NT ["self", "land", "rows"] (af um):=L2.AQ
theorem wR {c:Cs}{ts:Ts}{f ff fs f1:Addr}{fd df ds d1:FuncData}(F:AM K "__init__" "Told.__init__" um f fd)(T:Txt mg)(B:QX K mg ts f1 d1)(G1:Ao P w K mg base aA 1 f1 d1 ["self", "land"] (xT K))
  (mf:mg "row_fits" = some (.ref ff)) (kf:keepIn K (.ref ff)=true) (bf:Binds K df ["land", "row"] []) (Gf:Ao P w K mg base aA 4 ff df ["land", "row"] (ub c))
  (ms:mg "set_of" = some (.ref fs)) (ks:keepIn K (.ref fs)=true) (bs:Binds K ds ["numbers"] []) (Gs:Ao P w K mg base aA 1 fs ds ["numbers"] (xU K)) :
  Ao P w K mg base aA 5 f fd ["self", "land", "rows"] (pi P w K c ts):=by
 refine F.ok CT (fun _ _ _ _ h=>?_) (fun _ _ _ s H _ Q E hr h=>?_)
 ·obtain⟨x,dx,lx,AL,lt,p,n,Az,AH,ps,rs,rfl,_⟩:=h
  rfl
 ·obtain⟨x,dx,lx,AL,lt,p,n,Az,AH,ps,rs,rfl,hx,hL,hp,hR,hlen,BG,VM,hE,hQ⟩:=h
  have AY:Ax 1 _:=hr.mono (by decide)
  have Bu:Ax 2 _:=hr.mono (by decide)
  have hu:=yl hr
  refine⟨_,ae (aN (uE (dS (v := .ref ts.tab) rfl B.mt rfl) B.cm G1 AY B.bt .nil al (aa (pv 0) (aa (pv 1) ad))))
   (ae (b6 (pv 0) (show PE _ _ (xP P w) from wL) rfl)
   (ah (bN PassesOwn.never rfl (jN rfl T.enum (aa (pv 2) ad)) (gK rfl (bC (av (i:=3) CT.nd rfl (Or.inl rfl)) (bC (av (i:=4) CT.nd rfl (Or.inl rfl)) eV)))
    (ae (aC (i:=5) CT.nd rfl (Or.inl rfl) (bI (aa (ax aF (pv 4) ag (fun _ _=>rfl)) (aa (ax aF (pv 4) ag (fun _ _=>rfl)) (aa (ax aF (pv 4) ag (fun _ _=>rfl)) ad)))))
    (ae (aP (PW.pt (eG (bM (bF (ap Gf hr rfl mf kf bf .nil al (aa (pv 1) (aa (pv 4) ad))))) (dc (za (ze hu (pv 5) (am (pv 0) rfl))))))
     (ah b5) aD)
    (ah (wK hu (am (pv 0) rfl) (pv 5) (ap Gs AY rfl ms ks bs .nil al (aa (ax aF (pv 4) ag (fun _ _=>rfl)) ad)) rfl))))))),?_⟩
  refine⟨rfl,_,rfl,_,rfl,x,ts.told,dx,_,rfl,hx,B.cd,B.nd1,?_⟩
  refine fun de OD=>⟨_,rfl,x,ts.told,dx,[("land", .ref lx)],rfl,by rw[ai (aj ac OD)];exact ac,B.cd,B.OC,by show 1 < 1000;decide,?_⟩
  have OE:x ≠ de:=aj ac OD
  have Lx:H de=none:=by rw[ai (Ne.symm OE)]at OD;exact OD
  generalize Iy:upd (upd (upd H x (.ins ts.told dx [("land", .ref lx)])) de (oS P w de [])) x (.ins ts.told dx (aQ "entries" (.ref de) [("land", .ref lx)]))=H2
  have o2:Off x H H2:=fun b o hb e=>by rw[← Iy,ai hb,ai (aj e Lx),ai hb];exact e
  have x2:H2 x=some (.ins ts.told dx [("land", .ref lx),("entries", .ref de)]):=by rw[← Iy,ac];rfl
  have d2:Bk P w H2 de []:=⟨by rw[← Iy,ai (Ne.symm OE),ac],fun y hy=>by cases hy⟩
  have JL:AH.length=rs.length:=Paired.length hR
  refine⟨_,rfl,p,rfl,⟨_,o2.sq hx hp⟩,ku (sq:=fun H=>Ap K H p) (xs:=AH) (fun i σ H3=>∃ (a b k:Option V)(Aw:List gW),Off x H H3/\H3 x=some (.ins ts.told dx [("land", .ref lx),("entries", .ref de)])/\Bk P w H3 de Aw/\Aw.length <= i /\
    (∀ k,dA Aw k=(cn (rs.take i) k).map uh)/\(∀ j,j < i->oM n ps (rs.take j) (rs.getD j ⟨0,0,none,[]⟩)=false)/\σ=[some (.ref x),some (.ref lx),some (.ref p),a,b,k])
   ⟨none,none,none,[],o2,x2,d2,le_refl _,fun k=>rfl,fun j hj=>absurd hj (Nat.not_lt_zero _),rfl⟩ (fun i σ H3 _ Au=>by obtain⟨_,_,_,_,o3,_⟩:=Au;exact o3.sq hx hp) ?_ ?_⟩
  ·rintro i v q σ H3 hv ⟨a,b,k,Aw,o3,x3,d3,l3,v3,g3,rfl⟩ hq
   obtain⟨r,hri,t,l,rfl,hT⟩:=By.get hR hv
   have hi:i < rs.length:=(gQ0 hri)
   have OF:rs.getD i ⟨0,0,none,[]⟩ = r:=by rw[getD_eq_getElem?_getD,hri];rfl
   have IE:Ht H3 t l r:=⟨o3 _ _ (bz hT.1 hx (by intro z;cases z)) hT.1,o3 _ _ (bz hT.2 hx (by intro z;cases z)) hT.2⟩
   have Fc:=o3.land hx hL
   have s4:An H3 (upd H3 q (.tup [.int i, .ref t])):=(An.refl H3).new hq
   refine⟨q,_,rfl,Ay.of ac,rfl,_,_,rfl,_,_,rfl,rfl,?_⟩
   generalize upd H3 q (.tup [.int i, .ref t])=H4 at s4 ⊢
   have QY:Ay K H4 t [.int r.p, .int r.g,cV r.c, .ref l]:=Ay.of (s4 _ _ IE.1)
   refine⟨_,rfl,t,_,0,_,rfl,rfl,QY,ak (j:=0) rfl,_,rfl,t,_,1,_,rfl,rfl,QY,ak (j:=1) rfl,_,rfl,t,_,2,_,rfl,rfl,QY,ak (j:=2) rfl,by show 3 <= sizeLine;decide,fun kt hkt=>?_⟩
   have s5:An H3 (upd H4 kt (.tup [.int r.p, .int r.g,cV r.c])):=s4.new hkt
   have k5:(upd H4 kt (.tup [.int r.p, .int r.g,cV r.c])) kt=some (.tup ((aM r).map vX)):=by rw[r6];exact ac
   generalize upd H4 kt (.tup [.int r.p, .int r.g,cV r.c])=H5 at s5 k5 ⊢
   refine⟨_,rfl,_,rfl,lx,AL,lt,t,l,n,Az,ps,r,rfl,⟨s5 _ _ Fc.1,s5 _ _ Fc.2.1,AN.same s5 Fc.2.2⟩,IE.same s5,BG,(VM r (mem_of_getElem? hri)).2,fun H6 FH=>⟨_,rfl,?_⟩⟩
   have s6:=s5.trans FH
   have k6:=FH _ _ k5
   have x6:=s6 _ _ x3
   have d6:=d3.same s6
   have Hv:oM n ps (rs.take i) r=true->False:=fun hb=>hE i (kJ hi g3 (by rw[OF];exact hb))
   cases hf:ix n ps r with
   | false =>
    exact aL (aL (Hv (by rw[i5,hf];rfl)))
   | true =>
    refine aE ⟨_,rfl,_,rfl,x,ts.told,dx,_,_,rfl,x6,B.cd,B.OC,rfl,de,_,rfl,⟨Aw,aM r,kt,d6,rfl,k6,rfl⟩,_,rfl,?_⟩
    have eS:(dA Aw (aM r)).isSome=(rs.take i).any fun a=>decide (aM a=aM r):=by rw[v3,Option.isSome_map,ir]
    cases hS:(dA Aw (aM r)).isSome with
    | true =>
     exact aL (Hv (by rw[i5,hf,← eS,hS];rfl))
    | false =>
     refine aE ?_
     have VN:=IE.same s6
     refine⟨_,rfl,t,_,3,_,rfl,rfl,Ay.of VN.1,ak (j:=3) rfl,l,r.s,rfl,Ap.of VN.2,(VM r (mem_of_getElem? hri)).1,?_⟩
     refine⟨_,rfl,x,ts.told,dx,_,_,rfl,x6,B.cd,B.OC,rfl,_,rfl,de,Aw,aM r,kt,rfl,d6,rfl,k6,by rw[sizeLine_eq];omega,?_⟩
     have hx6:x ≠ de:=OE
     refine⟨_,_,_,iD Aw (aM r) kt (uh r),fun b' o hb e=>?_,?_,⟨ac,sj (F:=fun k a=>(upd H6 de (oS P w de (iD Aw (aM r) kt (uh r)))) a=some (.tup (k.map vX))) (fun y hy=>?_) ?_⟩,?_,fun k'=>?_,fun j hj=>?_,rfl⟩
     ·rw[ai (aj e Lx)];exact s6 _ _ (o3 _ _ hb e)
     ·rw[ai OE];exact x6
     ·rw[ai (bz (d6.2 y hy) d6.1 (by intro z;cases z))];exact d6.2 y hy
     ·rw[ai (bz k6 d6.1 (by intro z;cases z))];exact k6
     ·exact le_trans iU (Nat.succ_le_succ l3)
     ·rw[tE,take_succ,hri,Option.toList_some,qg,v3]
      by_cases hk:k' = aM r
      ·rw[if_pos hk,if_pos hk];rfl
      ·rw[if_neg hk,if_neg hk]
     ·rcases Nat.lt_or_ge j i with h | h
      ·exact g3 j h
      ·have:j=i:=by omega
       subst this
       rw[OF,i5,hf,← eS,hS];rfl
  ·rintro σ H3 ⟨a,b,k,Aw,o3,x3,d3,l3,v3,g3,rfl⟩
   rw[JL]at g3 v3
   rw[take_length]at v3
   exact hQ (gr g3) H3 de Aw o3 x3 d3 v3
noncomputable def nV (ps:List Nat):List V:=ps.map fun q:Nat=>V.int (q:Int)
theorem du (ps:List Nat):(nV ps).length=ps.length:=by simp[nV]
theorem vh {ps:List Nat}{k q:Nat}(h:ps[k]? = some q):(nV ps)[k]? = some (V.int (q:Int)):=by simp[nV,h]
theorem vi (a b:List Nat):nV (a ++ b)=nV a ++ nV b:=by unfold nV;rw[map_append]
theorem iH {ps:List Nat}{v:V}(h:v ∈ nV ps):∃ q:Nat,q ∈ ps/\v = .int (q:Int):=by
 obtain⟨q,hq,e⟩:=mem_map.mp h
 exact⟨q,hq,e.symm⟩
noncomputable def wt (c:Cs)(sel:Int × Int->Int):Sp:=fun vs H Q _=>∃ (x dx t:Addr)(n:Int)(Az:List V)(ps:List (Int × Int))(k:Nat)(pr:Int × Int),vs=[.ref x, .int k]/\c3 H c x dx t n Az ps/\ps[k]? = some pr/\Q (.int (sel pr)) H
structure xO (K:Frag)(c:Cs)(f:Addr)(d:FuncData):Prop where
 m:bB K c.land "end_of" f
 b:Binds K d ["self", "lane"] []
theorem bU (a b:Int):decide (V.int a=V.int b)=decide (a=b):=by
 by_cases h:a=b
 ·rw[h];simp
 ·rw[decide_eq_false h,decide_eq_false fun z=>h (by injection z)]
theorem jn {n i:Nat}(h:i < n):v6 n (i:Int)=some i:=by
 unfold v6
 rw[if_pos (by omega),if_pos (by omega),toNat_natCast]
noncomputable def mN (m:Nat):List Nat:=Yd.Dw m (Builtin.Int.intBits (m:Int))
theorem Ly:ao ["self", "lane"] ["self", "lane"] (af yQ):=L2.AQ
theorem zC {c:Cs}{f:Addr}{fd:FuncData}(F:AM K "end_of" "Land.end_of" yQ f fd)(L:rW K c):Ao P w K mg base aA 1 f fd ["self", "lane"] (wt c Prod.snd):=by
 refine F.ok Ly (fun _ _ _ _ h=>?_) (fun _ _ _ s H _ Q E hr h=>?_)
 ·obtain⟨x,dx,t,n,Az,ps,k,pr,rfl,_⟩:=h
  rfl
 ·obtain⟨x,dx,t,n,Az,ps,k,pr,rfl,⟨hx,ht,hl⟩,hk,q⟩:=h
  refine⟨_,ah (aq (ax aF (ax aF (am (pv 0) rfl) (pv 1) (fun _ _=>rfl)) ag (fun _ _=>rfl))),?_⟩
  obtain⟨v,hv,u,rfl,hu⟩:=AN.ID hl hk
  refine⟨_,rfl,x,c.land,dx,_,_,rfl,hx,L.cl,L.nl,rfl,_,rfl,t,_,_,_,rfl,rfl,Ay.of ht,ak hv,u,_,1,_,rfl,rfl,Ay.of hu,ak (j:=1) rfl,q⟩
noncomputable def isI:V->Bool
 | .int _=>true
 | _=>false
noncomputable def kY:V->Int->Int->Bool
 | .int i,a,b=>decide (a <= i/\i <= b)
 | _,_,_=>false
inductive tj:V->Prop
 | int (i:Int):tj (.int i)
 | bl (b:Bool):tj (.bl b)
 | AG:tj .AG
structure vU (K:Frag):Prop where
 ii:kitOne K (.type "int") (.type "int")=some true
 ib:kitOne K (.type "int") (.type "bool")=some false
 bi:kitOne K (.type "bool") (.type "int")=some true
 bb:kitOne K (.type "bool") (.type "bool")=some true
 ni:kitOne K (.type "NoneType") (.type "int")=some false
noncomputable def gZ:Sp:=fun vs H Q _=>∃ v,vs=[v]/\tj v/\Q (.bl (isI v)) H
noncomputable def fS:Sp:=fun vs H Q _=>∃ (v:V)(a b:Int),vs=[v, .int a, .int b]/\tj v/\Q (.bl (kY v a b)) H
theorem AN.imp {H H':Hp}(h:∀ v p,wb H v p->wb H' v p):∀ {vs:List V}{ps:List (Int × Int)},AN H vs ps->AN H' vs ps:=fun Au=>by
 induction Au with
 | nil=>exact .nil
 | cons z r ih=>exact .cons (h _ _ z) ih
noncomputable def hV:Option Int->V
 | none => .AG
 | some z => .int z
abbrev Fs:=List (Str × V)
noncomputable def iY (r b:Int)(h:V)(pa:Addr):Fs:=[("rights", .int r),("returning", .int b),("holder",h),("pieces", .ref pa)]
structure AK (H:Hp)(C x dx pa:Addr)(r b:Int)(h:Option Int)(AJ:List V)(qs:List (Int × Int)):Prop where
 ins:H x=some (.ins C dx (iY r b (hV h) pa))
 lst:H pa=some (.lst AJ)
 B4:AN H AJ qs
noncomputable def BC (x pa:Addr)(H H':Hp):Prop:=∀ a o,a ≠ x->a ≠ pa->H a=some o->H' a=some o
theorem BC.Fb {C x dx pa:Addr}{fs:Fs}{AJ:List V}{H H':Hp}(h:BC x pa H H')(hx:H x=some (.ins C dx fs))(hp:H pa=some (.lst AJ)){vs:List V}{qs:List (Int × Int)}:AN H vs qs->AN H' vs qs :=
 AN.imp fun _ _ Au=>by obtain⟨t,e,q⟩:=Au;exact⟨t,e,h _ _ (bz q hx (by intro z;cases z)) (bz q hp (by intro z;cases z)) q⟩
theorem AK.same {H H':Hp}{C x dx pa:Addr}{r b:Int}{h:Option Int}{AJ:List V}{qs:List (Int × Int)}(L:AK H C x dx pa r b h AJ qs)(s:An H H'):AK H' C x dx pa r b h AJ qs:=⟨s _ _ L.ins,s _ _ L.lst,AN.same s L.B4⟩
noncomputable def cN (r:Int)(h:Option Int)(l c:Int):Bool:=if r=0 then false else if c=0 then decide (h=none) else decide (h=some l)
theorem zR (h:Option Int):decide (hV h=V.AG)=decide (h=none):=by cases h<;>rfl
theorem zS (h:Option Int)(l:Int):decide (hV h=V.int l)=decide (h=some l):=by
 cases h with
 | none=>rfl
 | some z =>
  show decide (V.int z=V.int l)=_
  rw[bU]
  by_cases e:z=l
  ·rw[decide_eq_true e,decide_eq_true (by rw[e])]
  ·rw[decide_eq_false e,decide_eq_false fun q=>e (Option.some.inj q)]
theorem x8 (h:Option Int)(l:Int):yB (hV h) (.int l)=true:=by cases h<;>rfl
structure xN (K:Frag)(C:Addr):Prop where
 cl:CG K C
 n1:AE K C "rights"
 n2:AE K C "returning"
 n3:AE K C "holder"
 n4:AE K C "pieces"
noncomputable def tU (C:Addr):Sp:=fun vs H Q _=>∃ (x dx:Addr)(room:Int),vs=[.ref x, .int room]/\H x=some (.ins C dx [])/\∀ (pa:Addr)(H':Hp),H pa=none->(∀ a o,a ≠ x->H a=some o->H' a=some o)->AK H' C x dx pa room 0 none [] []->Q .AG H'
noncomputable def lK (C:Addr):Sp:=fun vs H Q _=>∃ (x dx pa:Addr)(r b:Int)(h:Option Int)(l c:Int),vs=[.ref x, .int l, .int c]/\H x=some (.ins C dx (iY r b (hV h) pa))/\Q (.bl (cN r h l c)) H
noncomputable def xV (C:Addr):Sp:=fun vs H Q _=>∃ (x dx pa:Addr)(r b:Int)(h:Option Int)(AJ:List V)(qs:List (Int × Int))(l c:Int)(last:Bool),vs=[.ref x, .int l, .int c, .bl last]/\AK H C x dx pa r b h AJ qs/\AJ.length < 100000 /\
 (cN r h l c=false->False) /\
 (cN r h l c=true->∀ (t:Addr)(H':Hp),BC x pa H H'->AK H' C x dx pa (r - 1) b (if last then none else some l) (AJ ++ [.ref t]) (qs ++ [(l,c)])->Q .AG H')
noncomputable def qm:List V->V
 | [] => .AG
 | v :: _=>v
noncomputable def jf (C:Addr):Sp:=fun vs H Q _=>∃ (x dx pa:Addr)(r b:Int)(h:Option Int)(AJ:List V)(qs:List (Int × Int)),vs=[.ref x]/\AK H C x dx pa r b h AJ qs/\Q (qm AJ) H
noncomputable def pk (C:Addr):Sp:=fun vs H Q _=>∃ (x dx pa:Addr)(r b:Int)(h:Option Int)(AJ:List V)(qs:List (Int × Int)),vs=[.ref x]/\AK H C x dx pa r b h AJ qs /\
 (AJ=[]->False) /\
 (∀ v rest,AJ=v :: rest->∀ H':Hp,BC x pa H H'->AK H' C x dx pa r (b + 1) h rest qs.tail->Q v H')
noncomputable def qO (C:Addr):Sp:=fun vs H Q _=>∃ (x dx pa:Addr)(r b:Int)(h:Option Int)(AJ:List V)(qs:List (Int × Int)),vs=[.ref x]/\AK H C x dx pa r b h AJ qs /\
 (b=0->False) /\
 (b ≠ 0->∀ H':Hp,BC x pa H H'->AK H' C x dx pa (r + 1) (b - 1) h AJ qs->Q .AG H')
noncomputable def yb (C:Addr):Sp:=fun vs H Q _=>∃ (x dx pa:Addr)(r b:Int)(h:Option Int)(AJ:List V)(qs:List (Int × Int)),vs=[.ref x]/\AK H C x dx pa r b h AJ qs /\
 ∀ (t ql:Addr)(H':Hp),An H H'->H ql=none->H' t=some (.tup [.int r, .int b,hV h, .ref ql])->H' ql=some (.lst AJ)->Q (.ref t) H'
theorem QZ (n:Nat):seqIndex? 0 (n + 1)=some 0:=by
 unfold seqIndex?
 simp
theorem kZ {f:Addr}{fd:FuncData}(F:AM K "is_whole" "is_whole" gH f fd)(T:Txt mg)(Z:vU K):Ao P w K mg base aA 1 f fd ["value"] gZ:=by
 refine F.ok qR (fun _ _ _ _ h=>?_) (fun _ _ _ s H _ Q E hr h=>?_)
 ·obtain⟨m,rfl,_⟩:=h
  rfl
 ·obtain⟨v,rfl,hv,q⟩:=h
  refine⟨_,ah (aq (eu (az eN rfl T.Hr PyProof.Rows.boot_isinstance (aa (pv 0) (aa (dU (v := .ty "int") rfl T.int PySem.Pv.boot_int rfl) ad)))
   (dZ (uD (az eN rfl T.Hr PyProof.Rows.boot_isinstance (aa (pv 0) (aa (dU (v := .ty "bool") rfl T.bool PySem.Pv.boot_bool rfl) ad))))))),?_⟩
  cases hv with
  | int i=>exact⟨_,rfl, .int i,_, "int",true,rfl, .int i,Z.ii,true,rfl,aL ⟨_,rfl, .int i,_, "bool",false,rfl, .int i,Z.ib,false,rfl,q⟩⟩
  | bl b=>exact⟨_,rfl, .bl b,_, "int",true,rfl, .bl b,Z.bi,true,rfl,aL ⟨_,rfl, .bl b,_, "bool",true,rfl, .bl b,Z.bb,true,rfl,q⟩⟩
  | AG=>exact⟨_,rfl, .AG,_, "int",false,rfl, .AG,Z.ni,false,rfl,aE q⟩
theorem pQ {f fh:Addr}{fd Di:FuncData}(F:AM K "is_within" "is_within" ji f fd)(T:Txt mg)(Z:vU K)(mh:mg "is_whole" = some (.ref fh))(Fh:AM K "is_whole" "is_whole" gH fh Di)(bh:Binds K Di ["value"] []) :
  Ao P w K mg base aA 2 f fd ["value", "least", "most"] fS:=by
 have G:Ao P w K mg base aA 1 fh Di ["value"] gZ:=kZ Fh T Z
 refine F.ok ng (fun _ _ _ _ h=>?_) (fun _ _ _ s H _ Q E hr h=>?_)
 ·obtain⟨i,a,b,rfl,_⟩:=h
  rfl
 ·obtain⟨v,a,b,rfl,hv,q⟩:=h
  refine⟨_,ah (aq (eu (ap G hr rfl mh Fh.kp bh .nil al (aa (pv 0) ad)) (dZ (nE qW qW (pv 1) (pv 0) (pv 2))))),?_⟩
  cases hv with
  | bl x=>exact⟨_,rfl,_,rfl, .bl x,false,rfl,aE q⟩
  | AG=>exact⟨_,rfl,_,rfl, .AG,false,rfl,aE q⟩
  | int i =>
   refine⟨_,rfl,_,rfl, .int i,true,rfl,aL ?_⟩
   refine⟨_,rfl,_,rfl,_,_,rfl,rfl,_,rfl,?_⟩
   have q:Q (V.bl (decide (a <= i/\i <= b))) H:=q
   by_cases h1:a <= i
   ·rw[decide_eq_true h1]
    refine aL ⟨_,rfl,_,_,rfl,rfl,?_⟩
    show Q (V.bl (decide (i <= b))) H
    by_cases h2:i <= b
    ·rw[decide_eq_true h2];rw[decide_eq_true ⟨h1,h2⟩]at q;exact q
    ·rw[decide_eq_false h2];rw[decide_eq_false fun z=>h2 z.2]at q;exact q
   ·rw[decide_eq_false h1]
    refine aE ?_
    rw[decide_eq_false fun z=>h1 z.1]at q;exact q
theorem Lz:ao ["self", "room"] ["self", "room"] (af yO):=L2.AQ
theorem zx {C f:Addr}{fd:FuncData}(F:AM K "__init__" "Lane.__init__" yO f fd)(L:xN K C):Ao P w K mg base aA 1 f fd ["self", "room"] (tU C):=by
 refine F.ok Lz (fun _ _ _ _ h=>?_) (fun _ _ _ s H _ Q E hr h=>?_)
 ·obtain⟨x,dx,room,rfl,_⟩:=h
  rfl
 ·obtain⟨x,dx,room,rfl,hx,q⟩:=h
  refine⟨_,ae (b6 (pv 0) (pv 1) rfl) (ae (b6 (pv 0) ag rfl) (ae (b6 (pv 0) bQ rfl) (ah (b6 (pv 0) (aO ad) rfl)))),?_⟩
  refine⟨_,rfl,_,rfl,x,C,dx,_,rfl,hx,L.cl,L.n1,by show 0 < 1000;decide,?_⟩
  refine⟨_,rfl,x,C,dx,_,rfl,ac,L.cl,L.n2,by show 1 < 1000;decide,?_⟩
  refine⟨_,rfl,x,C,dx,_,rfl,ac,L.cl,L.n3,by show 2 < 1000;decide,?_⟩
  refine⟨zero_le _,fun pa Ey=>?_⟩
  have D4:x ≠ pa:=aj ac Ey
  refine⟨_,rfl,x,C,dx,_,rfl,by rw[ai D4];exact ac,L.cl,L.n4,by show 3 < 1000;decide,?_⟩
  have G8:H pa=none:=by
   rw[ai (Ne.symm D4),ai (Ne.symm D4),ai (Ne.symm D4)]at Ey
   exact Ey
  refine q pa _ G8 (fun a o ha e=>?_) ⟨ac,by rw[ai (Ne.symm D4)];exact ac, .nil⟩
  have nap:a ≠ pa:=fun z=>by
   rw[z,G8]at e
   cases e
  rw[ai ha,ai nap,ai ha,ai ha,ai ha]
  exact e
theorem yF:ao ["self", "letter", "count"] ["self", "letter", "count"] (af ut):=L2.AQ
theorem wZ {C f:Addr}{fd:FuncData}(F:AM K "open_to" "Lane.open_to" ut f fd)(L:xN K C):Ao P w K mg base aA 1 f fd ["self", "letter", "count"] (lK C):=by
 refine F.ok yF (fun _ _ _ _ h=>?_) (fun _ _ _ s H _ Q E hr h=>?_)
 ·obtain⟨x,dx,pa,r,b,h,l,c,rfl,_⟩:=h
  rfl
 ·obtain⟨x,dx,pa,r,b,h,l,c,rfl,hx,q⟩:=h
  refine⟨_,ae (aP (au bj (am (pv 0) rfl) ag (aw _)) (ah (aq kW)) aD)
   (ae (aP (au bj (pv 2) ag (aw _)) (ah (aq (cj gL (am (pv 0) rfl) bQ (aw _)))) aD)
   (ah (aq (cj bj (am (pv 0) rfl) (pv 1) (aw _))))),?_⟩
  refine⟨_,rfl,x,C,dx,_,_,rfl,hx,L.cl,L.n1,rfl,rfl,_,rfl,?_⟩
  rw[bU]
  unfold cN at q
  by_cases OG:r=0
  ·rw[decide_eq_true OG]
   rw[if_pos OG]at q
   exact aL q
  rw[decide_eq_false OG]
  rw[if_neg OG]at q
  refine aE ⟨_,rfl,rfl,_,rfl,?_⟩
  rw[bU]
  by_cases Iv:c=0
  ·rw[decide_eq_true Iv]
   rw[if_pos Iv]at q
   refine aL ⟨_,rfl,x,C,dx,_,_,rfl,hx,L.cl,L.n3,rfl,rfl,?_⟩
   rw[zR]
   exact q
  ·rw[decide_eq_false Iv]
   rw[if_neg Iv]at q
   refine aE ⟨_,rfl,x,C,dx,_,_,rfl,hx,L.cl,L.n3,rfl,_,rfl,x8 h l,?_⟩
   rw[zS]
   exact q
theorem L1:ao ["self", "letter", "count", "last"] ["self", "letter", "count", "last"] (af yK):=L2.AQ
theorem zn {C f fo:Addr}{fd Dj:FuncData}(F:AM K "put" "Lane.put" yK f fd)(L:xN K C)(mo:bB K C "open_to" fo)(bo:Binds K Dj ["self", "letter", "count"] [])(Go:Ao P w K mg base aA 1 fo Dj ["self", "letter", "count"] (lK C)) :
  Ao P w K mg base aA 2 f fd ["self", "letter", "count", "last"] (xV C):=by
 refine F.ok L1 (fun _ _ _ _ h=>?_) (fun _ _ _ s H _ Q E hr h=>?_)
 ·obtain⟨x,dx,pa,r,b,h,AJ,qs,l,c,last,rfl,_⟩:=h
  rfl
 ·obtain⟨x,dx,pa,r,b,h,AJ,qs,l,c,last,rfl,hL,hlen,h1,h2⟩:=h
  refine⟨_,ae (aP (bM (bF (aH (pv 0) L.cl mo Go hr bo .nil al (aa (pv 1) (aa (pv 2) ad))))) (ah b5) aD)
   (ae (eH (pv 0) ag rD)
   (ae (aN (bJ plainAttrs_list PySem.F.slot_list_append PySem.F.type_list_append bG (am (pv 0) rfl) (aa (bI (aa (pv 1) (aa (pv 2) ad))) ad)))
   (ah (b6 (pv 0) (ca (bF (pv 3)) bQ (pv 1)) rfl)))),?_⟩
  refine⟨_,rfl,x,dx,_,rfl,hL.ins,rfl,_,rfl,_,rfl,x,dx,pa,r,b,h,l,c,rfl,hL.ins,_,rfl,?_⟩
  cases ho:cN r h l c with
  | false =>
   exact aL (h1 ho)
  | true =>
   refine aE ?_
   refine⟨_,rfl,x,C,dx,_,_,rfl,hL.ins,L.cl,L.n1,rfl,_,_,rfl,rfl,dx,_,hL.ins,by show 4 < 1000;decide,?_⟩
   have D4:pa ≠ x:=bz hL.lst hL.ins (by intro z;cases z)
   have BU:(upd H x (.ins C dx (aQ "rights" (.int (r - 1)) (iY r b (hV h) pa)))) x=some (.ins C dx (iY (r - 1) b (hV h) pa)):=ac
   have AU:(upd H x (.ins C dx (aQ "rights" (.int (r - 1)) (iY r b (hV h) pa)))) pa=some (.lst AJ):=by rw[ai D4];exact hL.lst
   have o1:BC x pa H (upd H x (.ins C dx (aQ "rights" (.int (r - 1)) (iY r b (hV h) pa)))):=fun a o ha _ e=>by rw[ai ha];exact e
   show _
   generalize upd H x (.ins C dx (aQ "rights" (.int (r - 1)) (iY r b (hV h) pa)))=H1 at BU AU o1 ⊢
   refine⟨_,rfl,x,C,dx,_,_,rfl,BU,L.cl,L.n4,rfl, .inl ⟨rfl,_,Ap.of AU⟩,_,rfl,_,rfl,by show 2 <= sizeLine;decide,fun t ht=>?_⟩
   have s2:=(An.refl H1).new (o := .tup [.int l, .int c]) ht
   have gt:(upd H1 t (.tup [.int l, .int c])) t=some (.tup [.int l, .int c]):=ac
   generalize upd H1 t (.tup [.int l, .int c])=H2 at s2 gt ⊢
   refine⟨pa,AJ,_,rfl,rfl,s2 _ _ AU,by rw[sizeLine_eq];omega,?_⟩
   have OH:(upd H2 pa (.lst (AJ ++ [.ref t]))) x=some (.ins C dx (iY (r - 1) b (hV h) pa)):=by rw[ai (Ne.symm D4)];exact s2 _ _ BU
   have JM:(upd H2 pa (.lst (AJ ++ [.ref t]))) pa=some (.lst (AJ ++ [.ref t])):=ac
   have o3:BC x pa H (upd H2 pa (.lst (AJ ++ [.ref t]))):=fun a o ha hb e=>by rw[ai hb];exact s2 _ _ (o1 a o ha hb e)
   have ntp:t ≠ pa:=bz gt (s2 _ _ AU) (by intro z;cases z)
   have Ra:(upd H2 pa (.lst (AJ ++ [.ref t]))) t=some (.tup [.int l, .int c]):=by rw[ai ntp];exact gt
   generalize upd H2 pa (.lst (AJ ++ [.ref t]))=H3 at OH JM o3 Ra ⊢
   have ntx:t ≠ x:=bz Ra OH (by intro z;cases z)
   have fin:∀ h':Option Int,AK (upd H3 x (.ins C dx (aQ "holder" (hV h') (iY (r - 1) b (hV h) pa)))) C x dx pa (r - 1) b h' (AJ ++ [.ref t]) (qs ++ [(l,c)]):=fun h' =>
    ⟨ac,by rw[ai D4];exact JM,AN.snoc ⟨t,rfl,by rw[ai ntx];exact Ra⟩ (BC.Fb (fun a o ha hb e=>by rw[ai ha];exact o3 a o ha hb e) hL.ins hL.lst hL.B4)⟩
   have off:∀ o',BC x pa H (upd H3 x o'):=fun o' a o ha hb e=>by rw[ai ha];exact o3 a o ha hb e
   refine⟨_,rfl,_,rfl,?_⟩
   cases last with
   | true=>exact aL ⟨_,rfl,x,C,dx,_,rfl,OH,L.cl,L.n3,by show 4 < 1000;decide,h2 ho t _ (off _) (fin none)⟩
   | false=>exact aE ⟨_,rfl,_,rfl,x,C,dx,_,rfl,OH,L.cl,L.n3,by show 4 < 1000;decide,h2 ho t _ (off _) (fin (some l))⟩
theorem w8:ao ["self"] ["self"] (af pG):=L2.AQ
theorem uV {C f:Addr}{fd:FuncData}(F:AM K "front" "Lane.front" pG f fd)(L:xN K C):Ao P w K mg base aA 1 f fd ["self"] (jf C):=by
 refine F.ok w8 (fun _ _ _ _ h=>?_) (fun _ _ _ s H _ Q E hr h=>?_)
 ·obtain⟨x,dx,pa,r,b,h,AJ,qs,rfl,_⟩:=h
  rfl
 ·obtain⟨x,dx,pa,r,b,h,AJ,qs,rfl,hL,q⟩:=h
  refine⟨_,ah (aq (ca (fH (am (pv 0) rfl) (fun _=>rfl)) (ax aJ (am (pv 0) rfl) ag (fun _ _=>rfl)) bQ)),?_⟩
  refine⟨_,rfl,x,C,dx,_,_,rfl,hL.ins,L.cl,L.n4,rfl,_, .inl ⟨_,Ap.of hL.lst,rfl⟩,?_⟩
  cases AJ with
  | nil=>exact aE q
  | cons v rest=>exact aL ⟨_,rfl,x,C,dx,_,_,rfl,hL.ins,L.cl,L.n4,rfl,pa,_,0,v,rfl,rfl,Ap.of hL.lst,ak (j:=0) rfl,q⟩
theorem yC:ao ["self"] ["self"] (af uo):=L2.AQ
theorem wV {C f:Addr}{fd:FuncData}(F:AM K "pull" "Lane.pull" uo f fd)(L:xN K C):Ao P w K mg base aA 1 f fd ["self"] (pk C):=by
 refine F.ok yC (fun _ _ _ _ h=>?_) (fun _ _ _ s H _ Q E hr h=>?_)
 ·obtain⟨x,dx,pa,r,b,h,AJ,qs,rfl,_⟩:=h
  rfl
 ·obtain⟨x,dx,pa,r,b,h,AJ,qs,rfl,hL,h1,h2⟩:=h
  refine⟨_,ae (aP (bM (fH (am (pv 0) rfl) (fun _=>rfl))) (ah b5) aD)
   (ae (eH (pv 0) ag mE)
   (ah (aq (bJ plainAttrs_list PySem.F.slot_list_pop PySem.F.type_list_pop vj (am (pv 0) rfl) (aa ag ad))))),?_⟩
  refine⟨_,rfl,x,C,dx,_,_,rfl,hL.ins,L.cl,L.n4,rfl,_, .inl ⟨_,Ap.of hL.lst,rfl⟩,?_⟩
  have D4:pa ≠ x:=bz hL.lst hL.ins (by intro z;cases z)
  cases AJ with
  | nil =>
   exact aL (h1 rfl)
  | cons v rest =>
   refine aE ?_
   refine⟨_,rfl,x,C,dx,_,_,rfl,hL.ins,L.cl,L.n2,rfl,_,_,rfl,rfl,dx,_,hL.ins,by show 4 < 1000;decide,?_⟩
   have BU:(upd H x (.ins C dx (aQ "returning" (.int (b + 1)) (iY r b (hV h) pa)))) x=some (.ins C dx (iY r (b + 1) (hV h) pa)):=ac
   have AU:(upd H x (.ins C dx (aQ "returning" (.int (b + 1)) (iY r b (hV h) pa)))) pa=some (.lst (v :: rest)):=by rw[ai D4];exact hL.lst
   have o1:BC x pa H (upd H x (.ins C dx (aQ "returning" (.int (b + 1)) (iY r b (hV h) pa)))):=fun a o ha _ e=>by rw[ai ha];exact e
   show _
   generalize upd H x (.ins C dx (aQ "returning" (.int (b + 1)) (iY r b (hV h) pa)))=H1 at BU AU o1 ⊢
   refine⟨_,rfl,x,C,dx,_,_,rfl,BU,L.cl,L.n4,rfl, .inl ⟨rfl,_,Ap.of AU⟩,pa,v :: rest,0,0,v,rfl,rfl,AU,by decide,by decide,QZ _,rfl,?_⟩
   have o2:BC x pa H (upd H1 pa (.lst rest)):=fun a o ha hb e=>by rw[ai hb];exact o1 a o ha hb e
   refine h2 v rest rfl _ o2 ⟨by rw[ai (Ne.symm D4)];exact BU,ac,?_⟩
   have z:=BC.Fb o2 hL.ins hL.lst hL.B4
   cases z with
   | cons _ t=>exact t
theorem wA:ao ["self"] ["self"] (af pI):=L2.AQ
theorem uZ {C f:Addr}{fd:FuncData}(F:AM K "bring" "Lane.bring" pI f fd)(L:xN K C):Ao P w K mg base aA 1 f fd ["self"] (qO C):=by
 refine F.ok wA (fun _ _ _ _ h=>?_) (fun _ _ _ s H _ Q E hr h=>?_)
 ·obtain⟨x,dx,pa,r,b,h,AJ,qs,rfl,_⟩:=h
  rfl
 ·obtain⟨x,dx,pa,r,b,h,AJ,qs,rfl,hL,h1,h2⟩:=h
  refine⟨_,ae (aP (au bj (am (pv 0) rfl) ag (aw _)) (ah b5) aD)
   (ae (eH (pv 0) ag rD) (ah (eH (pv 0) ag mE))),?_⟩
  refine⟨_,rfl,x,C,dx,_,_,rfl,hL.ins,L.cl,L.n2,rfl,rfl,_,rfl,?_⟩
  have D4:pa ≠ x:=bz hL.lst hL.ins (by intro z;cases z)
  rw[bU]
  by_cases OI:b=0
  ·rw[decide_eq_true OI]
   exact aL (h1 OI)
  ·rw[decide_eq_false OI]
   refine aE ?_
   refine⟨_,rfl,x,C,dx,_,_,rfl,hL.ins,L.cl,L.n2,rfl,_,_,rfl,rfl,dx,_,hL.ins,by show 4 < 1000;decide,?_⟩
   have BU:(upd H x (.ins C dx (aQ "returning" (.int (b - 1)) (iY r b (hV h) pa)))) x=some (.ins C dx (iY r (b - 1) (hV h) pa)):=ac
   have o1:BC x pa H (upd H x (.ins C dx (aQ "returning" (.int (b - 1)) (iY r b (hV h) pa)))):=fun a o ha _ e=>by rw[ai ha];exact e
   have AU:(upd H x (.ins C dx (aQ "returning" (.int (b - 1)) (iY r b (hV h) pa)))) pa=some (.lst AJ):=by rw[ai D4];exact hL.lst
   show _
   generalize upd H x (.ins C dx (aQ "returning" (.int (b - 1)) (iY r b (hV h) pa)))=H1 at BU AU o1 ⊢
   refine⟨_,rfl,x,C,dx,_,_,rfl,BU,L.cl,L.n1,rfl,_,_,rfl,rfl,dx,_,BU,by show 4 < 1000;decide,?_⟩
   have o2:∀ o',BC x pa H (upd H1 x o'):=fun o' a o ha hb e=>by rw[ai ha];exact o1 a o ha hb e
   exact h2 OI _ (o2 _) ⟨ac,by rw[ai D4];exact AU,BC.Fb (o2 _) hL.ins hL.lst hL.B4⟩
theorem L3:ao ["self"] ["self"] (af yN):=L2.AQ
theorem zw {C f:Addr}{fd:FuncData}(F:AM K "told" "Lane.told" yN f fd)(T:Txt mg)(L:xN K C):Ao P w K mg base aA 1 f fd ["self"] (yb C):=by
 refine F.ok L3 (fun _ _ _ _ h=>?_) (fun _ _ _ s H _ Q E hr h=>?_)
 ·obtain⟨x,dx,pa,r,b,h,AJ,qs,rfl,_⟩:=h
  rfl
 ·obtain⟨x,dx,pa,r,b,h,AJ,qs,rfl,hL,q⟩:=h
  refine⟨_,ah (aq (bI (aa (am (pv 0) rfl) (aa (am (pv 0) rfl) (aa (am (pv 0) rfl) (aa (aY bL rfl T.list PySem.Pv.boot_list (aa (am (pv 0) rfl) ad)) ad)))))),?_⟩
  refine⟨_,rfl,x,C,dx,_,_,rfl,hL.ins,L.cl,L.n1,rfl,_,rfl,x,C,dx,_,_,rfl,hL.ins,L.cl,L.n2,rfl,_,rfl,x,C,dx,_,_,rfl,hL.ins,L.cl,L.n3,rfl,_,rfl,x,C,dx,_,_,rfl,hL.ins,L.cl,L.n4,rfl,pa,_,rfl, .inl (Ap.of hL.lst),fun ql Hw=>?_⟩
  have s1:=(An.refl H).new (o := .lst AJ) Hw
  have g1:(upd H ql (.lst AJ)) ql=some (.lst AJ):=ac
  generalize upd H ql (.lst AJ)=H1 at s1 g1 ⊢
  refine⟨by show 4 <= sizeLine;decide,fun t ht=>?_⟩
  have s2:=s1.new (o := .tup [.int r, .int b,hV h, .ref ql]) ht
  exact q t ql _ s2 Hw ac (by rw[ai (aj g1 ht)];exact g1)
noncomputable def qY (m:Nat)(AH:List V):Bool:=decide (AH.length=m) && AH.all fun v=>kY v 1 60
noncomputable def Sq (K:Frag)(H:Hp)(a:Addr)(xs:List V):Prop:=Ap K H a xs∨Ay K H a xs
noncomputable def qH (K:Frag)(c:Cs):Sp:=fun vs H Q _=>∃ (lx AL lt:Addr)(n:Int)(Az:List V)(ps:List (Int × Int))(rv:V),vs=[.ref lx,rv]/\c3 H c lx AL lt n Az ps/\ps.length <= 1000 /\
 ((rv = .AG/\∀ t H',An H H'->H' t=some (.tup (List.replicate ps.length (.int 1)))->Q (.ref t) H') ∨
  (∃ ra AH,rv = .ref ra/\Sq K H ra AH/\AH.length <= 1000/\(∀ v ∈ AH,tj v)/\(qY ps.length AH=false->False)/\(qY ps.length AH=true->∀ t H',An H H'->Ay K H' t AH->Q (.ref t) H')))
noncomputable def zQ (s:Stmt):Scope:=match s with
 | .If _ (.Return (some (.Call _ [.ListComp _ _ sc _] _ _)) _ :: _) _ _=>sc
 | _=>zQ0
noncomputable def zf (s:Stmt):Scope:=match s with
 | .If (.BoolOp _ [_, .UnaryOp _ (.Call _ [.ListComp _ _ sc _] _ _) _] _) _ _ _=>sc
 | _=>zQ0
noncomputable def zE:V->Bool
 | .int i=>decide ((if i < 0 then -i else i) < 10 ^ (60:Int).toNat)
 | _=>false
noncomputable def tN:Sp:=fun vs H Q _=>∃ v,vs=[v]/\tj v/\Q (.bl (zE v)) H
theorem b8 {K:Frag}{H H':Hp}{a:Addr}{xs:List V}(e:An H H')(h:Ay K H a xs):Ay K H' a xs:=by
 rcases h with h | h
 ·refine .inl ?_
  rcases h with h | ⟨o,h⟩
  ·exact .inl (e _ _ h)
  ·exact .inr ⟨o,e _ _ h⟩
 ·exact .inr h
theorem yf {X:Cx}{tg it:Expr}{a b:TI}(h1:PI X tg it a)(h2:PI X tg it b):PI X tg it (fun σ H R=>a σ H R∨b σ H R):=fun pins s σ H R I h=>h.elim (h1 pins s σ H R I) (h2 pins s σ H R I)
theorem oC {J:It}{xs:List V}{g:TG}{te:TE}{σ0:St}{H:Hp}{Q:VK}(f:V->V)(hn:xs.length < sizeLine)(hgo:∀ i,i < xs.length->J.go i H)(Hl:J.stop xs.length H)(hy:∀ i x H',J.FD i H x H'->H' = H/\xs[i]? = some x)
  (hs:∀ (x:V)(N:V->Hp->Prop),x ∈ xs->N (f x) H->g x σ0 H fun σ2 H2=>te σ2 H2 N)
  (hq:∀ D,H D=none->Q (.ref D) (upd H D (.lst (xs.map f)))):dQ J g mY te σ0 Q H:=by
 refine aX xs.length hn (fun i acc H'=>H' = H/\acc=(xs.take i).map f) ⟨rfl,rfl⟩ (fun i acc H' h=>by rw[h.2,length_map];exact length_take_le _ _) (fun i acc H' hi h=>?_) (fun acc H' h=>?_)
 ·obtain⟨rfl,rfl⟩:=h
  refine⟨hgo i hi,fun v H2 y=>?_⟩
  obtain⟨e,hx⟩:=hy i v H2 y
  subst e
  exact hs v (fun y H4=>H4=H2/\(xs.take i).map f ++ [y]=(xs.take (i + 1)).map f) (mem_of_getElem? hx) ⟨rfl,by rw[take_succ,hx,map_append];rfl⟩
 ·obtain⟨rfl,rfl⟩:=h
  rw[take_length]
  exact⟨Hl,hq⟩
theorem mR {K:Frag}{a:Addr}{xs:List V}{g:TG}{te:TE}{σ0:St}{H:Hp}{Q:VK}(f:V->V)(hn:xs.length < sizeLine)(ha:Ap K H a xs)(hs:∀ (x:V) (N:V->Hp->Prop),x ∈ xs->N (f x) H->g x σ0 H fun σ2 H2=>te σ2 H2 N)
  (hq:∀ D,H D=none->Q (.ref D) (upd H D (.lst (xs.map f)))):dQ (vV K a) g mY te σ0 Q H :=
 oC f hn (fun i hi=>⟨xs,xs[i],ha,by simp[hi]⟩) ⟨xs,ha,le_refl _⟩ (fun i x H' y=>⟨y.1,y.2 xs ha⟩) hs hq
theorem qt {K:Frag}{a:Addr}{xs:List V}{g:TG}{te:TE}{σ0:St}{H:Hp}{Q:VK}(f:V->V)(hn:xs.length < sizeLine)(ha:Ay K H a xs)(hs:∀ (x:V) (N:V->Hp->Prop),x ∈ xs->N (f x) H->g x σ0 H fun σ2 H2=>te σ2 H2 N)
  (hq:∀ D,H D=none->Q (.ref D) (upd H D (.lst (xs.map f)))):dQ (Ow K a) g mY te σ0 Q H :=
 oC f hn (fun i hi=>⟨xs,xs[i],ha,by simp[hi]⟩) ⟨xs,ha,le_refl _⟩ (fun i x H' y=>⟨y.1,y.2 xs ha⟩) hs hq
theorem Rb:ao ["land", "rooms"] ["land", "rooms"] (af gI):=L2.AQ
theorem Rc:Bi ["land", "rooms"] (af gI) (zQ ((aG gI).getD 0 (.Pass ⟨0,0,0,0⟩))) [] []:=L2.B0
theorem Rf:Bi ["land", "rooms"] (af gI) (zf ((aG gI).getD 1 (.Pass ⟨0,0,0,0⟩))) [] []:=L2.B0
theorem Rg:(["lane"]:List Str).Nodup:=by decide +kernel
theorem L4:(["room"]:List Str).Nodup:=by decide +kernel
theorem uM {c:Cs}{f fw:Addr}{fd dw:FuncData}{t1:Tok}(F:AM K "rooms_of" "rooms_of" gI f fd)(T:Txt mg)(L:rW K c)
  (mw:mg "is_within" = some (.ref fw)) (kw:keepIn K (.ref fw)=true) (bw:Binds K dw ["value", "least", "most"] []) (Gw:Ao P w K mg base aA 2 fw dw ["value", "least", "most"] fS) (mp:mg "MOST_ROOM" = some (.int 60 t1)) :
  Ao P w K mg base aA 3 f fd ["land", "rooms"] (qH K c):=by
 refine F.ok Rb (fun _ _ _ _ h=>?_) (fun _ _ _ s H _ Q E hr h=>?_)
 ·obtain⟨lx,AL,lt,n,Az,ps,rv,rfl,_⟩:=h
  rfl
 ·obtain⟨lx,AL,lt,n,Az,ps,rv,rfl,hL,Be,hh⟩:=h
  refine⟨_,ae (aP (au gL (pv 1) bQ (aw _)) (ah (aq (aY cU rfl T.tuple PySem.Pv.boot_tuple (aa (aS (own:=["lane"]) (capN:=[]) (cap:=[]) Rc rfl (iE (am (pv 0) rfl))
     (fun C s' H' fp=>⟨av (i:=0) Rg rfl (Or.inl rfl),bc,ag⟩)) ad)))) aD)
   (ae (aP (fX (PW.pt (eG (au jQ (az ay rfl T.len PySem.boot_len (aa (pv 1) ad)) (az ay rfl T.len PySem.boot_len (aa (am (pv 0) rfl) ad)) (aw _))
     (dc (bM (bF (az (i4 rfl) rfl T.all PyProof.Rows.boot_all (aa (aS (own:=["room"]) (capN:=[]) (cap:=[]) Rf rfl (yf (aR (pv 1)) (iE (pv 1)))
      (fun C s' H' fp=>⟨av (i:=0) L4 rfl (Or.inl rfl),bc,ap Gw hr rfl mw kw bw .nil al (aa (pv 0) (aa ag (aa (dS (v := .int 60) rfl mp ⟨_,rfl⟩) ad)))⟩)) ad))))))))
    (ah b5) aD)
   (ah (aq (aY cU rfl T.tuple PySem.Pv.boot_tuple (aa (pv 1) ad))))),?_⟩
  have CA:Az.length=ps.length:=Paired.length hL.2.2
  refine⟨_,rfl,rfl,_,rfl,?_⟩
  rcases hh with ⟨rfl,q⟩ | ⟨ra,AH,rfl,hR,CI,G9,qE,q⟩
  ·refine aL ⟨_,rfl,lx,c.land,AL,_,_,rfl,hL.1,L.cl,L.nl,rfl,lt,rfl,⟨_,Ay.of hL.2.1⟩,?_⟩
   refine qt (fun _ => .int 1) (by rw[sizeLine_eq];omega) (Ay.of hL.2.1) (fun x N hx h=>h) (fun D hD=>?_)
   have s1:=(An.refl H).new (o := .lst (Az.map fun _=>V.int 1)) hD
   refine⟨D,_,rfl, .inl ⟨Ap.of ac,fun t ht=>q t _ (s1.new ht) ?_⟩⟩
   rw[ac,List.map_const',CA]
  ·refine aE ?_
   have len1:∀ {H:Hp},Sq K H ra AH->(Ap K H ra AH∨Ay K H ra AH):=fun h=>h
   refine⟨fun b H'=>An H H'/\b = !qY ps.length AH,?_,?_⟩
   ·refine⟨_,rfl,ra,AH,rfl,hR,_,rfl,lx,c.land,AL,_,_,rfl,hL.1,L.cl,L.nl,rfl,lt,_,rfl, .inr (Ay.of hL.2.1),rfl,_,rfl,?_⟩
    rw[bU,CA]
    by_cases VO:AH.length=ps.length
    rotate_left
    ·rw[decide_eq_false (show ¬ ((AH.length:Nat):Int)=(ps.length:Nat) by omega)]
     refine aL ⟨An.refl H,?_⟩
     unfold qY
     rw[decide_eq_false VO];rfl
    rw[decide_eq_true (show((AH.length:Nat):Int)=(ps.length:Nat) by omega)]
    have step:∀ (x:V)(N:V->Hp->Prop),x ∈ AH->N (.bl (kY x 1 60)) H->tj x:=fun x _ hx _=>G9 x hx
    have fin:∀ D,H D=none->∃ (p:Addr)(bs:List Bool),[V.ref D]=[.ref p]/\Ap K (upd H D (.lst (AH.map fun v=>V.bl (kY v 1 60)))) p (bs.map V.bl)/\∃ cc,V.bl (bs.all id) = .bl cc/\(An H (upd H D (.lst (AH.map fun v=>V.bl (kY v 1 60))))/\(!cc) = !qY ps.length AH):=fun D hD=>by
     refine⟨D,AH.map fun v=>kY v 1 60,rfl,Ap.of (by rw[ac,map_map];rfl),_,rfl,(An.refl H).new hD,?_⟩
     unfold qY
     rw[decide_eq_true VO,Bool.true_and,all_map];rfl
    refine aE ?_
    rcases hR with hR | hR
    ·refine .inl ⟨_,rfl,ra,rfl,⟨_,hR⟩,?_⟩
     exact mR (fun v => .bl (kY v 1 60)) (by rw[sizeLine_eq];omega) hR (fun x N hx h=>⟨_,rfl,x,1,60,rfl,G9 x hx,h⟩) fin
    ·refine .inr ⟨_,rfl,ra,rfl,⟨_,hR⟩,?_⟩
     exact qt (fun v => .bl (kY v 1 60)) (by rw[sizeLine_eq];omega) hR (fun x N hx h=>⟨_,rfl,x,1,60,rfl,G9 x hx,h⟩) fin
   rintro b H' ⟨s',rfl⟩
   cases AD:qY ps.length AH with
   | false=>exact aL (qE AD)
   | true =>
    refine aE ⟨_,rfl,ra,AH,rfl,?_⟩
    rcases hR with hR | hR
    ·exact .inl ⟨s'.seq hR,fun t ht=>q AD t _ (s'.new ht) (Ay.of ac)⟩
    ·exact .inr ⟨b8 s' hR,q AD ra _ s' (b8 s' hR)⟩
theorem Rh:ao ["word"] ["word"] (af uk):=L2.AQ
theorem wP {f fh:Addr}{fd dh:FuncData}(F:AM K "is_word" "is_word" uk f fd)(T:Txt mg)(mh:mg "is_whole" = some (.ref fh))(kh:keepIn K (.ref fh)=true)(bh:Binds K dh ["value"] [])(G:Ao P w K mg base aA 1 fh dh ["value"] gZ) :
  Ao P w K mg base aA 2 f fd ["word"] tN:=by
 refine F.ok Rh (fun _ _ _ _ h=>?_) (fun _ _ _ s H _ Q E hr h=>?_)
 ·obtain⟨v,rfl,_⟩:=h
  rfl
 ·obtain⟨v,rfl,hv,q⟩:=h
  refine⟨_,ah (aq (eu (ap G hr rfl mh kh bh .nil al (aa (pv 0) ad)) (dZ (cj qV (az vP rfl T.abs PyProof.Rows.boot_abs (aa (pv 0) ad)) (aB mj ag ag) (aw _))))),?_⟩
  cases hv with
  | int i=>exact⟨_,rfl,_,rfl, .int i,true,rfl,aL ⟨_,rfl,i,rfl,_,_,rfl,rfl,⟨by decide,by decide,by decide⟩,_,_,rfl,rfl,q⟩⟩
  | bl b=>exact⟨_,rfl,_,rfl, .bl b,false,rfl,aE q⟩
  | AG=>exact⟨_,rfl,_,rfl, .AG,false,rfl,aE q⟩
abbrev Wf:=Nat->Nat->Option Nat->List Nat
abbrev TJ:=Hp->Addr->Nat->Wf->Prop
noncomputable def NL:HO->Prop
 | .lst _=>False
 | .ins _ _ []=>False
 | .Hh _=>False
 | _=>True
noncomputable def AV (H H':Hp):Prop:=∀ b o,H b=some o->NL o->H' b=some o
theorem An.AF {H H':Hp}(s:An H H'):AV H H':=fun b o e _=>s b o e
theorem AV.trans {H H1 H2:Hp}(a:AV H H1)(b:AV H1 H2):AV H H2:=fun x o e n=>b x o (a x o e n) n
theorem AV.Fb {H H':Hp}(k:AV H H'){vs:List V}{ps:List (Int × Int)}(h:AN H vs ps):AN H' vs ps:=AN.imp (fun _ _ ⟨t,e,q⟩=>⟨t,e,k _ _ q True.intro⟩) h
structure BH (c:Cs)(C:Addr)(J:TJ)(H:Hp)(x lx AL lt:Addr)(n:Nat)(Az:List V)(ps:List (Int × Int))(wy:Wf):Prop where
 j:J H x n wy
 i:∃ dx fs,H x=some (.ins C dx fs)/\fs.lookup ("land":Str)=some (.ref lx)/\fs.lookup ("ways":Str)=none
 l:c3 H c lx AL lt (n:Int) Az ps
 DF:n <= 12
 Ba:ps.length <= 40
 ok:∀ p g k,p < n->g < n->∀ z ∈ wy p g k,z < ps.length
structure Wy (K:Frag)(C fw:Addr)(dw:FuncData)(J:TJ):Prop where
 cl:CG K C
 nl:AE K C "land"
 m:bB K C "ways" fw
 b:Binds K dw ["self", "place", "goal", "came"] []
 BW:∀ H H' x n wy,J H x n wy->AV H H'->J H' x n wy
theorem BH.keep {K:Frag}{c:Cs}{C fw:Addr}{dw:FuncData}{J:TJ}{H H':Hp}{x lx AL lt:Addr}{n:Nat}{Az:List V}{ps:List (Int × Int)}{wy:Wf}(W:Wy K C fw dw J)(h:BH c C J H x lx AL lt n Az ps wy)(k:AV H H'):BH c C J H' x lx AL lt n Az ps wy :=
 ⟨W.BW _ _ _ _ _ h.j k,let ⟨dx,fs,h1,h2⟩:=h.i; ⟨dx,fs,k _ _ h1 (by cases fs with | nil=>cases h2.1 | cons _ _=>exact True.intro),h2⟩,⟨k _ _ h.l.1 True.intro,k _ _ h.l.2.1 True.intro,k.Fb h.l.2.2⟩,h.DF,h.Ba,h.ok⟩
noncomputable def jd (J:TJ):Sp:=fun vs H Q _=>∃ (x:Addr)(n:Nat)(wy:Wf)(p g:Nat)(k:Option Nat),vs=[.ref x, .int p, .int g,cV k]/\J H x n wy/\p < n/\g < n/\∀ (D:Addr)(H':Hp),An H H'->H D=none->H' D=some (.lst (nV (wy p g k)))->Q (.ref D) H'
structure cW where
 r:Int
 b:Int
 h:Option Int
 qs:List (Int × Int)
structure cI where
 start:Int
 goal:Int
 len:Int
 word:Int
 gone:Int
 way:List Nat
structure YS where
 rooms:List V
 lanes:List cW
 Am:List cI
 lies:List (List (Int × Int))
 done:List (List V)
structure Ys where
 Aq:Addr
 AI:Addr
 Ar:Addr
 ex:List Addr
noncomputable def Ct (H:Hp)(C:Addr)(ex:List Addr)(v:V)(s:cW):Prop:=∃ x dx pa AJ,v = .ref x/\AK H C x dx pa s.r s.b s.h AJ s.qs/\pa ∉ ex
noncomputable def qf (s:cI)(wa:Addr):Fs:=[("start", .int s.start),("goal", .int s.goal),("length", .int s.len),("word", .int s.word),("gone", .int s.gone),("way", .ref wa)]
noncomputable def CU (H:Hp)(C:Addr)(ex:List Addr)(v:V)(s:cI):Prop:=∃ x dx wa,v = .ref x/\H x=some (.ins C dx (qf s wa))/\H wa=some (.lst (nV s.way))/\wa ∉ ex
noncomputable def BI (H:Hp)(v:V)(qs:List (Int × Int)):Prop:=∃ t vs,v = .ref t/\H t=some (.tup vs)/\AN H vs qs
noncomputable def BL (H:Hp)(v:V)(m:List V):Prop:=∃ t,v = .ref t/\H t=some (.tup m)
theorem Paired.mono {α β:Type}{R R':α->β->Prop}(h:∀ a b,R a b->R' a b):∀ {as:List α}{bs:List β},Paired R as bs->Paired R' as bs:=fun Au=>by
 induction Au with
 | nil=>exact .nil
 | cons x r ih=>exact .cons (h _ _ x) ih
theorem Paired.snoc {α β:Type}{R:α->β->Prop}{a:α}{b:β}(h:R a b):∀ {as:List α}{bs:List β},Paired R as bs->Paired R (as ++ [a]) (bs ++ [b]):=fun Au=>by
 induction Au with
 | nil=>exact .cons h .nil
 | cons x r ih=>exact .cons x ih
theorem Paired.at {α β:Type}{R:α->β->Prop}:∀ {as:List α}{bs:List β}{i:Nat}{a:α},Paired R as bs->as[i]? = some a->∃ b,bs[i]? = some b/\R a b:=by
 intro _ _ i _ Au
 induction Au generalizing i with
 | nil=>intro h;cases h
 | cons x r ih =>
  intro h
  cases i with
  | zero=>cases h;exact⟨_,rfl,x⟩
  | succ i=>exact ih (i:=i) h
theorem Paired.at2 {α β:Type}{R:α->β->Prop}:∀ {as:List α}{bs:List β}{i:Nat}{b:β},Paired R as bs->bs[i]? = some b->∃ a,as[i]? = some a/\R a b:=by
 intro _ _ i _ Au
 induction Au generalizing i with
 | nil=>intro h;cases h
 | cons x r ih =>
  intro h
  cases i with
  | zero=>cases h;exact⟨_,rfl,x⟩
  | succ i=>exact ih (i:=i) h
noncomputable def AA (ex:List Addr)(H H':Hp):Prop:=∀ b o,b ∉ ex->H b=some o->H' b=some o
theorem An.AW {ex:List Addr}{H H':Hp}(s:An H H'):AA ex H H':=fun b o _ e=>s b o e
theorem AA.trans {ex:List Addr}{H H1 H2:Hp}(a:AA ex H H1)(b:AA ex H1 H2):AA ex H H2:=fun x o n e=>b x o n (a x o n e)
theorem AN.AW {ex:List Addr}{H H':Hp}(hx:∀ b ∈ ex,∃ xs,H b=some (.lst xs))(o:AA ex H H'){vs:List V}{ps:List (Int × Int)}(h:AN H vs ps):AN H' vs ps :=
 AN.imp (fun _ _ Au=>by obtain⟨t,e,q⟩:=Au;exact⟨t,e,o _ _ (fun z=>by obtain⟨xs,hz⟩:=hx _ z;rw[q]at hz;cases hz) q⟩) h
theorem AA.Hx {ex:List Addr}{H H':Hp}(hx:∀ b ∈ ex,∃ o,H b=some o/\¬ NL o)(o:AA ex H H'):AV H H':=fun b u e n=>o b u (fun z=>by obtain⟨o',hz,hn⟩:=hx _ z;rw[e]at hz;cases hz;exact hn n) e
theorem AA.AF {ex:List Addr}{H H':Hp}(hx:∀ b ∈ ex,∃ xs,H b=some (.lst xs))(o:AA ex H H'):AV H H':=o.Hx fun b hb=>let ⟨xs,hz⟩:=hx b hb; ⟨_,hz,id⟩
theorem Ct.AW {ex:List Addr}{H H':Hp}{C:Addr}{v:V}{s:cW}(hx:∀ b ∈ ex,∃ xs,H b=some (.lst xs))(o:AA ex H H')(h:Ct H C ex v s):Ct H' C ex v s:=by
 obtain⟨x,dx,pa,AJ,e,L,n⟩:=h
 have k:=o.AF hx
 exact⟨x,dx,pa,AJ,e,⟨k _ _ L.ins True.intro,o _ _ n L.lst,AN.AW hx o L.B4⟩,n⟩
theorem CU.AW {ex:List Addr}{H H':Hp}{C:Addr}{v:V}{s:cI}(hx:∀ b ∈ ex,∃ xs,H b=some (.lst xs))(o:AA ex H H')(h:CU H C ex v s):CU H' C ex v s:=by
 obtain⟨x,dx,wa,e,h1,h2,n⟩:=h
 exact⟨x,dx,wa,e,o.AF hx _ _ h1 True.intro,o _ _ n h2,n⟩
theorem BI.keep {H H':Hp}{v:V}{qs:List (Int × Int)}(k:AV H H')(h:BI H v qs):BI H' v qs:=by
 obtain⟨t,vs,e,h1,h2⟩:=h
 exact⟨t,vs,e,k _ _ h1 True.intro,k.Fb h2⟩
theorem BL.keep {H H':Hp}{v:V}{m:List V}(k:AV H H')(h:BL H v m):BL H' v m:=by
 obtain⟨t,e,h1⟩:=h
 exact⟨t,e,k _ _ h1 True.intro⟩
noncomputable def OJ (tb ro la le li dn:Addr):Fs:=[("table", .ref tb),("rooms", .ref ro),("lanes", .ref la),("letters", .ref le),("lies", .ref li),("done", .ref dn)]
structure Av (K:Frag)(ys:Ys)(H:Hp)(y dy tb ro la le li dn:Addr)(s:YS):Prop where
 ins:H y=some (.ins ys.Aq dy (OJ tb ro la le li dn))
 JN:Ay K H ro s.rooms
 BD:∃ vs,H la=some (.lst vs)/\Paired (Ct H ys.AI (la :: le :: li :: dn :: ys.ex)) vs s.lanes
 hle:∃ vs,H le=some (.lst vs)/\Paired (CU H ys.Ar (la :: le :: li :: dn :: ys.ex)) vs s.Am
 Cu:∃ vs,H li=some (.lst vs)/\Paired (BI H) vs s.lies
 Cd:∃ vs,H dn=some (.lst vs)/\Paired (BL H) vs s.done
 ne:[la,le,li,dn].Nodup
 hex:∀ b ∈ ys.ex,∃ xs,H b=some (.lst xs)
theorem Av.Bw {K:Frag}{ys:Ys}{H:Hp}{y dy tb ro la le li dn:Addr}{s:YS}(h:Av K ys H y dy tb ro la le li dn s):∀ b ∈ [la,le,li,dn],∃ xs,H b=some (.lst xs):=by
 intro b hb
 obtain⟨v1,h1,_⟩:=h.BD
 obtain⟨v2,h2,_⟩:=h.hle
 obtain⟨v3,h3,_⟩:=h.Cu
 obtain⟨v4,h4,_⟩:=h.Cd
 simp only[mem_cons,not_mem_nil,or_false]at hb
 rcases hb with rfl | rfl | rfl | rfl
 ·exact⟨_,h1⟩
 ·exact⟨_,h2⟩
 ·exact⟨_,h3⟩
 ·exact⟨_,h4⟩
theorem Av.El {K:Frag}{ys:Ys}{H:Hp}{y dy tb ro la le li dn:Addr}{s:YS}(h:Av K ys H y dy tb ro la le li dn s):∀ b ∈ la :: le :: li :: dn :: ys.ex,∃ xs,H b=some (.lst xs):=by
 intro b hb
 have e:la :: le :: li :: dn :: ys.ex=[la,le,li,dn] ++ ys.ex:=rfl
 rw[e]at hb
 rcases mem_append.mp hb with hb | hb
 ·exact h.Bw b hb
 ·exact h.hex b hb
theorem Av.same {K:Frag}{ys:Ys}{H H':Hp}{y dy tb ro la le li dn:Addr}{s:YS}(h:Av K ys H y dy tb ro la le li dn s)(e:An H H'):Av K ys H' y dy tb ro la le li dn s:=by
 have hx:=h.El
 obtain⟨v1,h1,p1⟩:=h.BD
 obtain⟨v2,h2,p2⟩:=h.hle
 obtain⟨v3,h3,p3⟩:=h.Cu
 obtain⟨v4,h4,p4⟩:=h.Cd
 have o:AA (la :: le :: li :: dn :: ys.ex) H H':=An.AW e
 exact⟨e _ _ h.ins,b8 e h.JN,⟨v1,e _ _ h1,Paired.mono (fun _ _ z=>z.AW hx o) p1⟩,⟨v2,e _ _ h2,Paired.mono (fun _ _ z=>z.AW hx o) p2⟩,⟨v3,e _ _ h3,Paired.mono (fun _ _ z=>z.keep (An.AF e)) p3⟩,⟨v4,e _ _ h4,Paired.mono (fun _ _ z=>z.keep (An.AF e)) p4⟩,h.ne,fun b hb=>let ⟨xs,hz⟩:=h.hex b hb; ⟨xs,e _ _ hz⟩⟩
structure gS (K:Frag)(ys:Ys):Prop where
 cl:CG K ys.Aq
 n1:AE K ys.Aq "table"
 n2:AE K ys.Aq "rooms"
 n3:AE K ys.Aq "lanes"
 n4:AE K ys.Aq "letters"
 n5:AE K ys.Aq "lies"
 n6:AE K ys.Aq "done"
 ct:CG K ys.Ar
 t1:AE K ys.Ar "start"
 t2:AE K ys.Ar "goal"
 t3:AE K ys.Ar "length"
 t4:AE K ys.Ar "word"
 t5:AE K ys.Ar "gone"
 t6:AE K ys.Ar "way"
 L:xN K ys.AI
noncomputable def tT (C:Addr):Sp:=fun vs H Q _=>∃ (x dx:Addr)(a b l u:Int),vs=[.ref x, .int a, .int b, .int l, .int u]/\H x=some (.ins C dx [])/\∀ (wa:Addr)(H':Hp),H wa=none->(∀ z o,z ≠ x->H z=some o->H' z=some o)->H' x=some (.ins C dx (qf ⟨a,b,l,u,0,[]⟩ wa))->H' wa=some (.lst (nV []))->Q .AG H'
theorem L5:ao ["self", "start", "goal", "length", "word"] ["self", "start", "goal", "length", "word"] (af uy):=L2.AQ
theorem zu {ys:Ys}{f:Addr}{fd:FuncData}(F:AM K "__init__" "Letter.__init__" uy f fd)(Y:gS K ys):Ao P w K mg base aA 1 f fd ["self", "start", "goal", "length", "word"] (tT ys.Ar):=by
 refine F.ok L5 (fun _ _ _ _ h=>?_) (fun _ _ _ s H _ Q E hr h=>?_)
 ·obtain⟨x,dx,a,b,l,u,rfl,_⟩:=h
  rfl
 ·obtain⟨x,dx,a,b,l,u,rfl,hx,q⟩:=h
  refine⟨_,ae (b6 (pv 0) (pv 1) rfl) (ae (b6 (pv 0) (pv 2) rfl) (ae (b6 (pv 0) (pv 3) rfl) (ae (b6 (pv 0) (pv 4) rfl) (ae (b6 (pv 0) ag rfl) (ah (b6 (pv 0) (aO ad) rfl)))))),?_⟩
  refine⟨_,rfl,_,rfl,x,ys.Ar,dx,_,rfl,hx,Y.ct,Y.t1,by show 0 < 1000;decide,?_⟩
  refine⟨_,rfl,_,rfl,x,ys.Ar,dx,_,rfl,ac,Y.ct,Y.t2,by show 1 < 1000;decide,?_⟩
  refine⟨_,rfl,_,rfl,x,ys.Ar,dx,_,rfl,ac,Y.ct,Y.t3,by show 2 < 1000;decide,?_⟩
  refine⟨_,rfl,_,rfl,x,ys.Ar,dx,_,rfl,ac,Y.ct,Y.t4,by show 3 < 1000;decide,?_⟩
  refine⟨_,rfl,x,ys.Ar,dx,_,rfl,ac,Y.ct,Y.t5,by show 4 < 1000;decide,?_⟩
  refine⟨zero_le _,fun wa Ez=>?_⟩
  have GA:x ≠ wa:=aj ac Ez
  refine⟨_,rfl,x,ys.Ar,dx,_,rfl,by rw[ai GA];exact ac,Y.ct,Y.t6,by show 5 < 1000;decide,?_⟩
  have L6:H wa=none:=by
   rw[ai (Ne.symm GA),ai (Ne.symm GA),ai (Ne.symm GA),ai (Ne.symm GA),ai (Ne.symm GA)]at Ez
   exact Ez
  refine q wa _ L6 (fun z o nz e=>?_) ac (by rw[ai (Ne.symm GA)];exact ac)
  have nzw:z ≠ wa:=aj e L6
  rw[ai nz,ai nzw,ai nz,ai nz,ai nz,ai nz,ai nz]
  exact e
noncomputable def vI:V->Int
 | .int i=>i
 | _=>0
noncomputable def sO (v:V):cW:=⟨vI v,0,none,[]⟩
noncomputable def Y0 (rooms:List V)(n:Nat):YS:=⟨rooms,rooms.map sO,[],List.replicate n [],[]⟩
noncomputable def Ce (H0 H:Hp)(C:Addr)(v:V)(s:cW):Prop:=∃ x dx pa,v = .ref x/\AK H C x dx pa s.r s.b s.h [] []/\s.qs=[]/\H0 x=none/\H0 pa=none
theorem Ce.same {H0 H H':Hp}{C:Addr}{v:V}{s:cW}(h:Ce H0 H C v s)(e:An H H'):Ce H0 H' C v s:=by
 obtain⟨x,dx,pa,h1,h2,h3⟩:=h
 exact⟨x,dx,pa,h1,h2.same e,h3⟩
noncomputable def Bc (y:Addr)(ex:List Addr)(H:Hp)(C:Addr)(v:V)(s:cW):Prop:=∃ x dx pa,v = .ref x/\AK H C x dx pa s.r s.b s.h [] []/\s.qs=[]/\x ≠ y/\pa ≠ y/\pa ∉ ex
theorem Ce.L7 {H0 H:Hp}{C y:Addr}{v:V}{s:cW}{u:HO}(h:Ce H0 H C v s){ex:List Addr}(hy:H0 y=some u)(hx:∀ b ∈ ex,∃ o,H0 b=some o):Bc y ex H C v s:=by
 obtain⟨x,dx,pa,h1,h2,h3,h4,h5⟩:=h
 exact⟨x,dx,pa,h1,h2,h3,(fun z=>by rw[z,hy]at h4;cases h4),(fun z=>by rw[z,hy]at h5;cases h5),fun z=>by obtain⟨o,ho⟩:=hx _ z;rw[h5]at ho;cases ho⟩
theorem Bc.same {y:Addr}{ex:List Addr}{H H':Hp}{C:Addr}{v:V}{s:cW}(h:Bc y ex H C v s)(e:An H H'):Bc y ex H' C v s:=by
 obtain⟨x,dx,pa,h1,h2,h3⟩:=h
 exact⟨x,dx,pa,h1,h2.same e,h3⟩
theorem Bc.upd {y:Addr}{ex:List Addr}{H:Hp}{C:Addr}{v:V}{s:cW}{o:HO}(h:Bc y ex H C v s):Bc y ex (upd H y o) C v s:=by
 obtain⟨x,dx,pa,h1,h2,h3,h4,h5,h6⟩:=h
 exact⟨x,dx,pa,h1,⟨by rw[ai h4];exact h2.ins,by rw[ai h5];exact h2.lst, .nil⟩,h3,h4,h5,h6⟩
theorem Bc.new {y a:Addr}{ex:List Addr}{H:Hp}{C:Addr}{v:V}{s:cW}{o:HO}(h:Bc y ex H C v s)(ha:H a=none):Bc y (a :: ex) (L2.upd H a o) C v s:=by
 obtain⟨x,dx,pa,h1,h2,h3,h4,h5,h6⟩:=h
 exact⟨x,dx,pa,h1,h2.same ((An.refl H).new ha),h3,h4,h5,fun z=>(mem_cons.mp z).elim (fun z=>by rw[z]at h2;rw[h2.lst]at ha;cases ha) h6⟩
theorem Bc.L8 {y:Addr}{ex JC:List Addr}{H:Hp}{C:Addr}{v:V}{s:cW}(h:Bc y ex H C v s)(hs:∀ a ∈ JC,a ∈ ex):Ct H C JC v s:=by
 obtain⟨x,dx,pa,h1,h2,h3,h4,h5,h6⟩:=h
 exact⟨x,dx,pa,[],h1,by rw[h3];exact h2,fun z=>h6 (hs _ z)⟩
theorem qr {K:Frag}{ro C:Addr}{AH:List V}{g:TG}{te:TE}{σ0:St}{H:Hp}{Q:VK}(hn:AH.length < sizeLine)(ha:Ay K H ro AH)(hint:∀ v ∈ AH,∃ r,v = .int r)
  (hs:∀ (r:Int)(H1:Hp)(N:V->Hp->Prop),An H H1->(∀ x dx pa H2,H1 x=none->H1 pa=none->An H1 H2->AK H2 C x dx pa r 0 none [] []->N (.ref x) H2)->g (.int r) σ0 H1 fun σ2 H2=>te σ2 H2 N)
  (hq:∀ D vs H1,An H H1->H1 D=none->Paired (Ce H H1 C) vs (AH.map sO)->Q (.ref D) (upd H1 D (.lst vs))):dQ (Ow K ro) g mY te σ0 Q H:=by
 refine aX AH.length hn (fun i acc H'=>An H H'/\Paired (Ce H H' C) acc ((AH.take i).map sO)) ⟨An.refl _, .nil⟩ (fun i acc H' h=>by have:=Paired.length h.2;rw[this,length_map];exact length_take_le _ _) (fun i acc H' hi h=>?_) (fun acc H' h=>?_)
 ·obtain⟨s,hL⟩:=h
  refine⟨⟨AH,AH[i],b8 s ha,by simp[hi]⟩,fun v H2 y=>?_⟩
  obtain⟨e,y⟩:=y
  subst e
  have hv:=y _ (b8 s ha)
  obtain⟨r,rfl⟩:=hint v (mem_of_getElem? hv)
  refine hs r H2 (fun y H4=>An H H4/\Paired (Ce H H4 C) (acc ++ [y]) ((AH.take (i + 1)).map sO)) s fun x dx pa H3 nx GB s3 Fc=>⟨s.trans s3,?_⟩
  rw[take_succ,hv,Option.toList_some,map_append]
  exact Paired.snoc (b:=sO (.int r)) ⟨x,dx,pa,rfl,Fc,rfl,s.free nx,s.free GB⟩ (Paired.mono (fun _ _ z=>z.same s3) hL)
 ·obtain⟨s,hL⟩:=h
  rw[take_length]at hL
  exact⟨⟨AH,b8 s ha,le_refl _⟩,fun D hD=>hq D acc H' s hD hL⟩
theorem sZ {n:Nat}{g:TG}{te:TE}{σ0:St}{H:Hp}{Q:VK}(hn:n <= 1000)
  (hs:∀ (i:Nat)(H1:Hp)(N:V->Hp->Prop),An H H1->(∀ t,H1 t=none->N (.ref t) (upd H1 t (.tup [])))->g (.int (0 + i)) σ0 H1 fun σ2 H2=>te σ2 H2 N)
  (hq:∀ D vs H1,An H H1->H1 D=none->Paired (BI H1) vs (List.replicate n [])->Q (.ref D) (upd H1 D (.lst vs))):dQ (wc 0 n) g mY te σ0 Q H:=by
 refine aX n (by rw[sizeLine_eq];omega) (fun i acc H'=>An H H'/\Paired (BI H') acc (List.replicate i [])) ⟨An.refl _, .nil⟩ (fun i acc H' h=>by have:=Paired.length h.2;rw[this,length_replicate];exact le_refl _) (fun i acc H' hi h=>?_) (fun acc H' h=>?_)
 ·obtain⟨s,hL⟩:=h
  refine⟨hi,fun v H2 y=>?_⟩
  obtain⟨e1,e2⟩:=y
  subst e1 e2
  refine hs i H2 (fun y H4=>An H H4/\Paired (BI H4) (acc ++ [y]) (List.replicate (i + 1) [])) s fun t ht=>⟨s.new ht,?_⟩
  rw[replicate_succ']
  exact Paired.snoc ⟨t,[],rfl,ac, .nil⟩ (Paired.mono (fun _ _ z=>z.keep (An.AF ((An.refl H2).new ht))) hL)
 ·obtain⟨s,hL⟩:=h
  exact⟨le_refl n,fun D hD=>hq D acc H' s hD hL⟩
theorem fR {K:Frag}{H:Hp}{a y C d:Addr}{fs:Fs}{o:HO}{xs:List V}(hy:H y=some (.ins C d fs))(h:Ay K H a xs):Ay K (upd H y o) a xs:=by
 rcases h with h | h
 ·refine .inl ?_
  rcases h with h | ⟨u,h⟩
  ·exact .inl (by rw[ai (bz h hy (by intro z;cases z))];exact h)
  ·exact .inr ⟨u,by rw[ai (bz h hy (by intro z;cases z))];exact h⟩
 ·exact .inr h
theorem wq {K:Frag}{H:Hp}{a y C d:Addr}{fs:Fs}{o:HO}{xs:List V}(hy:H y=some (.ins C d fs))(h:Ap K H a xs):Ap K (upd H y o) a xs:=by
 rcases h with h | h
 ·refine .inl ?_
  rcases h with h | ⟨u,h⟩
  ·exact .inl (by rw[ai (bz h hy (by intro z;cases z))];exact h)
  ·exact .inr ⟨u,by rw[ai (bz h hy (by intro z;cases z))];exact h⟩
 ·exact .inr h
noncomputable def iR (K:Frag)(c:Cs)(TC:Addr)(J:TJ)(ys:Ys):Sp:=fun vs H Q _=>∃ (y dy tb lx AL lt:Addr)(n:Nat)(Az:List V)(ps:List (Int × Int))(wy:Wf)(rv:V)(AH:List V),vs=[.ref y, .ref tb,rv]/\H y=some (.ins ys.Aq dy [])/\BH c TC J H tb lx AL lt n Az ps wy/\(∀ b ∈ ys.ex,∃ xs,H b=some (.lst xs)) /\
 ((rv = .AG/\AH=List.replicate ps.length (.int 1))∨(∃ ra,rv = .ref ra/\Sq K H ra AH/\AH.length <= 1000/\(∀ v ∈ AH,tj v)/\(qY ps.length AH=false->False))) /\
 (qY ps.length AH=true->∀ (ro la le li dn:Addr)(H':Hp),AA [y] H H'->H la=none->H le=none->H li=none->H dn=none->Av K ys H' y dy tb ro la le li dn (Y0 AH n)->Q .AG H')
noncomputable def L9 (s:Stmt):Scope:=match s with
 | .Assign _ (.ListComp _ _ sc _) _=>sc
 | _=>zQ0
theorem jl {v:V}{a b:Int}(h:kY v a b=true):∃ r,v = .int r:=by
 cases v<;>first | exact⟨_,rfl⟩ | cases h
theorem Ri:ao ["self", "table", "rooms"] ["self", "table", "rooms"] (af gf):=L2.AQ
theorem LA:Bi ["self", "table", "rooms"] (af gf) (L9 ((aG gf).getD 2 (.Pass ⟨0,0,0,0⟩))) [] []:=L2.B0
theorem LB:Bi ["self", "table", "rooms"] (af gf) (L9 ((aG gf).getD 4 (.Pass ⟨0,0,0,0⟩))) [] []:=L2.B0
theorem LC:(["place"]:List Str).Nodup:=by decide +kernel
theorem zj {c:Cs}{ys:Ys}{J:TJ}{TC f OK fr fl:Addr}{fd OL dr dl:FuncData}(F:Ex K "__init__" "Yard.__init__" gf f fd)(T:Txt mg)(L:rW K c)(Y:gS K ys)(W:Wy K TC OK OL J)
  (mr:mg "rooms_of" = some (.ref fr)) (kr:keepIn K (.ref fr)=true) (br:Binds K dr ["land", "rooms"] []) (Gr:Ao P w K mg base aA 3 fr dr ["land", "rooms"] (qH K c))
  (ml:mg "Lane" = some (.ref ys.AI)) (Ml:Mk K ys.AI fl) (bl:Binds K dl ["self", "room"] []) (Gl:Ao P w K mg base aA 1 fl dl ["self", "room"] (tU ys.AI)) :
  Ao P w K mg base aA 4 f fd ["self", "table", "rooms"] (iR K c TC J ys):=by
 refine F.ok Ri (fun _ _ _ _ h=>?_) (fun _ _ _ s H _ Q E hr h=>?_)
 ·obtain⟨y,dy,tb,lx,AL,lt,n,Az,ps,wy,rv,AH,rfl,_⟩:=h
  rfl
 ·obtain⟨y,dy,tb,lx,AL,lt,n,Az,ps,wy,rv,AH,rfl,hy,hT,hex,hrv,q⟩:=h
  have DG:∀ b ∈ ys.ex,b ∉ [y]:=fun b hb z=>by obtain⟨xs,hz⟩:=hex b hb;rw[mem_singleton.mp z,hy]at hz;cases hz
  have Bu:Ax 2 _:=hr.mono (by decide)
  refine⟨_,ae (b6 (pv 0) (pv 1) rfl)
   (ae (b6 (pv 0) (eW (ap Gr hr rfl mr kr br .nil al (aa (am (pv 1) rfl) (aa (pv 2) ad)))) rfl)
   (ae (b6 (pv 0) (aS (own:=["room"]) (capN:=[]) (cap:=[]) LA rfl (iE (am (pv 0) rfl)) (fun C s' H' fp=>⟨av (i:=0) L4 rfl (Or.inl rfl),bc,c7 Ml Gl Bu rfl ml bl .nil al (aa (pv 0) ad)⟩)) rfl)
   (ae (b6 (pv 0) (aO ad) rfl)
   (ae (b6 (pv 0) (aS (own:=["place"]) (capN:=[]) (cap:=[]) LB rfl (aT rfl T.range (aa (am (am (pv 1) rfl) rfl) ad)) (fun C s' H' fp=>⟨av (i:=0) LC rfl (Or.inl rfl),bc,bI ad⟩)) rfl)
   (ah (b6 (pv 0) (aO ad) rfl)))))),?_⟩
  have Rj:=hT.Ba
  have Rk:=hT.DF
  obtain⟨Fe,fst,EH,B5,_⟩:=hT.i
  have kp:∀ {H':Hp},AA [y] H H'->AV H H':=fun o=>o.Hx fun b hb=>by rw[mem_singleton.mp hb];exact⟨_,hy,id⟩
  have VP:tb ≠ y:=bz EH hy (fun z=>by injection z with _ _ z3;rw[z3]at B5;cases B5)
  refine⟨_,rfl,_,rfl,y,ys.Aq,dy,_,rfl,hy,Y.cl,Y.n1,by show 0 < 1000;decide,?_⟩
  have o1:AA [y] H (upd H y (.ins ys.Aq dy (aQ "table" (.ref tb) []))):=fun b o nb e=>by rw[ai (fun z=>nb (by rw[z];exact mem_singleton.mpr rfl))];exact e
  have g1:(upd H y (.ins ys.Aq dy (aQ "table" (.ref tb) []))) y=some (.ins ys.Aq dy [("table", .ref tb)]):=ac
  have VQ:∀ ra,Sq K H ra AH->Sq K (upd H y (.ins ys.Aq dy (aQ "table" (.ref tb) []))) ra AH:=fun ra h=>h.elim (fun h => .inl (wq hy h)) fun h => .inr (fR hy h)
  show _
  generalize upd H y (.ins ys.Aq dy (aQ "table" (.ref tb) []))=A1 at o1 g1 VQ ⊢
  have hT1:=hT.keep W (kp o1)
  have JO:∀ {Ha Hb:Hp}{o:HO},AA [y] Ha Hb->AA [y] Ha (upd Hb y o):=fun {Ha Hb o} h b u nb e=>by rw[ai (fun z=>nb (by rw[z];exact mem_singleton.mpr rfl))];exact h b u nb e
  refine⟨fun v A2=>∃ ro,v = .ref ro/\An A1 A2/\Ay K A2 ro AH/\qY ps.length AH=true,?_,?_⟩
  ·refine⟨_,rfl,tb,TC,Fe,fst,_,rfl,o1 _ _ (fun z=>VP (mem_singleton.mp z)) EH,W.cl,W.nl,B5,_,rfl,lx,AL,lt,(n:Int),Az,ps,rv,rfl,hT1.l,by omega,?_⟩
   rcases hrv with ⟨rfl,rfl⟩ | ⟨ra,rfl,hR,CI,G9,qE⟩
   ·refine .inl ⟨rfl,fun t A2 s2 ht=>⟨t,rfl,s2,Ay.of ht,?_⟩⟩
    unfold qY
    rw[length_replicate,decide_eq_true rfl,Bool.true_and,all_eq_true]
    intro v hv
    rw[eq_of_mem_replicate hv];rfl
   ·have hR1:Sq K A1 ra AH:=VQ ra hR
    exact .inr ⟨ra,AH,rfl,hR1,CI,G9,qE,fun AD t A2 s2 ht=>⟨t,rfl,s2,ht,AD⟩⟩
  rintro v A2 ⟨ro,rfl,s2,JN,AD⟩
  have Cn:AH.length=ps.length/\∀ v ∈ AH,∃ r,v = .int r:=by
   unfold qY at AD
   rw[Bool.and_eq_true,decide_eq_true_eq,all_eq_true]at AD
   exact⟨AD.1,fun v hv=>jl (AD.2 v hv)⟩
  have o2:AA [y] H A2:=o1.trans (An.AW s2)
  have g2:=s2 _ _ g1
  refine⟨_,rfl,y,ys.Aq,dy,_,rfl,g2,Y.cl,Y.n2,by show 1 < 1000;decide,?_⟩
  have o3:=JO (o := .ins ys.Aq dy (aQ "rooms" (.ref ro) [("table", .ref tb)])) o2
  have g3:(upd A2 y (.ins ys.Aq dy (aQ "rooms" (.ref ro) [("table", .ref tb)]))) y=some (.ins ys.Aq dy [("table", .ref tb),("rooms", .ref ro)]):=ac
  have GC:Ay K (upd A2 y (.ins ys.Aq dy (aQ "rooms" (.ref ro) [("table", .ref tb)]))) ro AH:=fR g2 JN
  show _
  generalize upd A2 y (.ins ys.Aq dy (aQ "rooms" (.ref ro) [("table", .ref tb)]))=A3 at o3 g3 GC ⊢
  have Rl:∀ b ∈ ys.ex,∃ o,A3 b=some o:=fun b hb=>let ⟨xs,hz⟩:=hex b hb; ⟨_,o3 b _ (DG b hb) hz⟩
  refine⟨_,rfl,y,ys.Aq,dy,_,_,rfl,g3,Y.cl,Y.n2,rfl,ro,rfl,⟨_,GC⟩,?_⟩
  refine qr (C:=ys.AI) (by rw[sizeLine_eq];omega) GC Cn.2 (fun r B N sB hN=>?_) (fun la AB A4 s4 BD Ff=>?_)
  ·refine⟨_,rfl,fun x dx nx E3 DG=>⟨x,dx,r,rfl,ac,fun pa B2 Ey off hL=>⟨rfl,?_⟩⟩⟩
   have D4:B pa=none:=by
    by_cases e1:pa=x
    ·rw[e1,ac]at Ey;cases Ey
    ·by_cases e2:pa=dx
     ·rw[e2,ai DG,ac]at Ey;cases Ey
     ·rw[ai e1,ai e2]at Ey;exact Ey
   refine hN x dx pa B2 nx D4 (fun b o e=>off b o (aj e nx) ?_) hL
   rw[ai (aj e nx),ai (aj e E3)]
   exact e
  have o4:AA [y] H A4:=o3.trans (An.AW s4)
  have g4:=s4 _ _ g3
  have FI:la ≠ y:=Ne.symm (aj g4 BD)
  have la0:H la=none:=by
   cases e:H la with
   | none=>rfl
   | some u=>rw[o4 _ _ (fun z=>FI (mem_singleton.mp z)) e]at BD;cases BD
  have VR:Paired (Bc y (la :: ys.ex) (upd A4 la (.lst AB)) ys.AI) AB (AH.map sO):=Paired.mono (fun _ _ z=>(z.L7 g3 Rl).new BD) Ff
  have o5:AA [y] H (upd A4 la (.lst AB)):=o4.trans (An.AW ((An.refl A4).new BD))
  have g5:(upd A4 la (.lst AB)) y=some (.ins ys.Aq dy [("table", .ref tb),("rooms", .ref ro)]):=by rw[ai (Ne.symm FI)];exact g4
  have LD:(upd A4 la (.lst AB)) la=some (.lst AB):=ac
  have LF:Ay K (upd A4 la (.lst AB)) ro AH:=b8 ((An.refl A4).new BD) (b8 s4 GC)
  refine⟨_,rfl,y,ys.Aq,dy,_,rfl,g5,Y.cl,Y.n3,by show 2 < 1000;decide,?_⟩
  generalize upd A4 la (.lst AB)=A5 at VR o5 g5 LD LF ⊢
  have VS:Paired (Bc y (la :: ys.ex) (upd A5 y (.ins ys.Aq dy (aQ "lanes" (.ref la) [("table", .ref tb),("rooms", .ref ro)]))) ys.AI) AB (AH.map sO):=Paired.mono (fun _ _ z=>z.upd) VR
  have o6:=JO (o := .ins ys.Aq dy (aQ "lanes" (.ref la) [("table", .ref tb),("rooms", .ref ro)])) o5
  have g6:(upd A5 y (.ins ys.Aq dy (aQ "lanes" (.ref la) [("table", .ref tb),("rooms", .ref ro)]))) y=some (.ins ys.Aq dy [("table", .ref tb),("rooms", .ref ro),("lanes", .ref la)]):=ac
  have IF:(upd A5 y (.ins ys.Aq dy (aQ "lanes" (.ref la) [("table", .ref tb),("rooms", .ref ro)]))) la=some (.lst AB):=by rw[ai FI];exact LD
  have LG:=fR (o := .ins ys.Aq dy (aQ "lanes" (.ref la) [("table", .ref tb),("rooms", .ref ro)])) g5 LF
  generalize upd A5 y (.ins ys.Aq dy (aQ "lanes" (.ref la) [("table", .ref tb),("rooms", .ref ro)]))=A6 at VS o6 g6 IF LG ⊢
  refine⟨zero_le _,fun le hle=>?_⟩
  have GD:le ≠ y:=Ne.symm (aj g6 hle)
  have Hy:la ≠ le:=aj IF hle
  have le0:H le=none:=by
   cases e:H le with
   | none=>rfl
   | some u=>rw[o6 _ _ (fun z=>GD (mem_singleton.mp z)) e]at hle;cases hle
  have VT:Paired (Bc y (le :: la :: ys.ex) (upd A6 le (.lst [])) ys.AI) AB (AH.map sO):=Paired.mono (fun _ _ z=>z.new hle) VS
  have o7:AA [y] H (upd A6 le (.lst [])):=o6.trans (An.AW ((An.refl A6).new hle))
  have g7:(upd A6 le (.lst [])) y=some (.ins ys.Aq dy [("table", .ref tb),("rooms", .ref ro),("lanes", .ref la)]):=by rw[ai (Ne.symm GD)];exact g6
  have LH:(upd A6 le (.lst [])) la=some (.lst AB):=by rw[ai Hy];exact IF
  have LI:(upd A6 le (.lst [])) le=some (.lst []):=ac
  have LJ:Ay K (upd A6 le (.lst [])) ro AH:=b8 ((An.refl A6).new hle) LG
  refine⟨_,rfl,y,ys.Aq,dy,_,rfl,g7,Y.cl,Y.n4,by show 3 < 1000;decide,?_⟩
  generalize upd A6 le (.lst [])=A7 at VT o7 g7 LH LI LJ ⊢
  have VU:Paired (Bc y (le :: la :: ys.ex) (upd A7 y (.ins ys.Aq dy (aQ "letters" (.ref le) [("table", .ref tb),("rooms", .ref ro),("lanes", .ref la)]))) ys.AI) AB (AH.map sO):=Paired.mono (fun _ _ z=>z.upd) VT
  have o8:=JO (o := .ins ys.Aq dy (aQ "letters" (.ref le) [("table", .ref tb),("rooms", .ref ro),("lanes", .ref la)])) o7
  have g8:(upd A7 y (.ins ys.Aq dy (aQ "letters" (.ref le) [("table", .ref tb),("rooms", .ref ro),("lanes", .ref la)]))) y=some (.ins ys.Aq dy [("table", .ref tb),("rooms", .ref ro),("lanes", .ref la),("letters", .ref le)]):=ac
  have IG:(upd A7 y (.ins ys.Aq dy (aQ "letters" (.ref le) [("table", .ref tb),("rooms", .ref ro),("lanes", .ref la)]))) la=some (.lst AB):=by rw[ai FI];exact LH
  have IH:(upd A7 y (.ins ys.Aq dy (aQ "letters" (.ref le) [("table", .ref tb),("rooms", .ref ro),("lanes", .ref la)]))) le=some (.lst []):=by rw[ai GD];exact LI
  have LK:=fR (o := .ins ys.Aq dy (aQ "letters" (.ref le) [("table", .ref tb),("rooms", .ref ro),("lanes", .ref la)])) g7 LJ
  generalize upd A7 y (.ins ys.Aq dy (aQ "letters" (.ref le) [("table", .ref tb),("rooms", .ref ro),("lanes", .ref la)]))=A8 at VU o8 g8 IG IH LK ⊢
  have hT8:=hT.keep W (kp o8)
  refine⟨_,rfl,tb,TC,Fe,fst,_,rfl,o8 _ _ (fun z=>VP (mem_singleton.mp z)) EH,W.cl,W.nl,B5,lx,c.land,AL,_,_,rfl,hT8.l.1,L.cl,L.np,rfl,(n:Int),rfl,by omega,by omega,?_⟩
  rw[toNat_natCast]
  refine sZ (by omega) (fun i B N sB hN=>⟨zero_le _,fun t ht=>hN t ht⟩) (fun li DH A9 s9 Cu hLi=>?_)
  have g9:=s9 _ _ g8
  have o9:AA [y] H A9:=o8.trans (An.AW s9)
  have II:li ≠ y:=Ne.symm (aj g9 Cu)
  have LL:la ≠ li:=aj (s9 _ _ IG) Cu
  have LM:le ≠ li:=aj (s9 _ _ IH) Cu
  have li0:H li=none:=by
   cases e:H li with
   | none=>rfl
   | some u=>rw[o9 _ _ (fun z=>II (mem_singleton.mp z)) e]at Cu;cases Cu
  have JP:=(An.refl A9).new (o := .lst DH) Cu
  have LN:Paired (Bc y (li :: le :: la :: ys.ex) (upd A9 li (.lst DH)) ys.AI) AB (AH.map sO):=Paired.mono (fun _ _ z=>(z.same s9).new Cu) VU
  have Hz:Paired (BI (upd A9 li (.lst DH))) DH (List.replicate n []):=Paired.mono (fun _ _ z=>z.keep (An.AF JP)) hLi
  have HA:(upd A9 li (.lst DH)) li=some (.lst DH):=ac
  have VV:AA [y] H (upd A9 li (.lst DH)):=o9.trans (An.AW JP)
  have E4:=JP _ _ g9
  have HB:=JP _ _ (s9 _ _ IG)
  have HC:=JP _ _ (s9 _ _ IH)
  have HD:=b8 JP (b8 s9 LK)
  refine⟨_,rfl,y,ys.Aq,dy,_,rfl,E4,Y.cl,Y.n5,by show 4 < 1000;decide,?_⟩
  generalize upd A9 li (.lst DH)=IJ at LN Hz HA VV E4 HB HC HD ⊢
  have LO:∀ {B:Hp}{o:HO}{C d:Addr}{fs:Fs}{v:V}{qs:List (Int × Int)},B y=some (.ins C d fs)->BI B v qs->BI (upd B y o) v qs:=fun {B o C d fs v qs} hB h=>by
   obtain⟨t,ws,e,h1,h2⟩:=h
   exact⟨t,ws,e,by rw[ai (bz h1 hB (by intro z;cases z))];exact h1,AN.imp (fun _ _ Au=>by obtain⟨t',e',q'⟩:=Au;exact⟨t',e',by rw[ai (bz q' hB (by intro z;cases z))];exact q'⟩) h2⟩
  have LP:Paired (Bc y (li :: le :: la :: ys.ex) (upd IJ y (.ins ys.Aq dy (aQ "lies" (.ref li) [("table", .ref tb),("rooms", .ref ro),("lanes", .ref la),("letters", .ref le)]))) ys.AI) AB (AH.map sO):=Paired.mono (fun _ _ z=>z.upd) LN
  have HE:Paired (BI (upd IJ y (.ins ys.Aq dy (aQ "lies" (.ref li) [("table", .ref tb),("rooms", .ref ro),("lanes", .ref la),("letters", .ref le)])))) DH (List.replicate n []):=Paired.mono (fun _ _ z=>LO E4 z) Hz
  have OM:=JO (o := .ins ys.Aq dy (aQ "lies" (.ref li) [("table", .ref tb),("rooms", .ref ro),("lanes", .ref la),("letters", .ref le)])) VV
  have Rm:(upd IJ y (.ins ys.Aq dy (aQ "lies" (.ref li) [("table", .ref tb),("rooms", .ref ro),("lanes", .ref la),("letters", .ref le)]))) y=some (.ins ys.Aq dy [("table", .ref tb),("rooms", .ref ro),("lanes", .ref la),("letters", .ref le),("lies", .ref li)]):=ac
  have Fg:(upd IJ y (.ins ys.Aq dy (aQ "lies" (.ref li) [("table", .ref tb),("rooms", .ref ro),("lanes", .ref la),("letters", .ref le)]))) la=some (.lst AB):=by rw[ai FI];exact HB
  have Fi:(upd IJ y (.ins ys.Aq dy (aQ "lies" (.ref li) [("table", .ref tb),("rooms", .ref ro),("lanes", .ref la),("letters", .ref le)]))) le=some (.lst []):=by rw[ai GD];exact HC
  have Fj:(upd IJ y (.ins ys.Aq dy (aQ "lies" (.ref li) [("table", .ref tb),("rooms", .ref ro),("lanes", .ref la),("letters", .ref le)]))) li=some (.lst DH):=by rw[ai II];exact HA
  have HF:=fR (o := .ins ys.Aq dy (aQ "lies" (.ref li) [("table", .ref tb),("rooms", .ref ro),("lanes", .ref la),("letters", .ref le)])) E4 HD
  generalize upd IJ y (.ins ys.Aq dy (aQ "lies" (.ref li) [("table", .ref tb),("rooms", .ref ro),("lanes", .ref la),("letters", .ref le)]))=A11 at LP HE OM Rm Fg Fi Fj HF ⊢
  refine⟨zero_le _,fun dn Cd=>?_⟩
  have GF:dn ≠ y:=Ne.symm (aj Rm Cd)
  have LQ:la ≠ dn:=aj Fg Cd
  have LR:le ≠ dn:=aj Fi Cd
  have LS:li ≠ dn:=aj Fj Cd
  have dn0:H dn=none:=by
   cases e:H dn with
   | none=>rfl
   | some u=>rw[OM _ _ (fun z=>GF (mem_singleton.mp z)) e]at Cd;cases Cd
  have HG:=(An.refl A11).new (o := .lst []) Cd
  have HH:=HG _ _ Rm
  refine⟨_,rfl,y,ys.Aq,dy,_,rfl,HH,Y.cl,Y.n6,by show 5 < 1000;decide,?_⟩
  refine q AD ro la le li dn _ (JO (OM.trans (An.AW HG))) la0 le0 li0 dn0 ⟨ac,fR HH (b8 HG HF),⟨AB,by rw[ai FI];exact HG _ _ Fg,?_⟩,⟨[],by rw[ai GD];exact HG _ _ Fi, .nil⟩,⟨DH,by rw[ai II];exact HG _ _ Fj,Paired.mono (fun _ _ z=>LO HH (z.keep (An.AF HG))) HE⟩,⟨[],by rw[ai GF];exact ac, .nil⟩,?_,(fun b hb=>let ⟨xs,hz⟩:=hex b hb; ⟨xs,(JO (OM.trans (An.AW HG))) b _ (DG b hb) hz⟩)⟩
  ·refine Paired.mono (fun _ _ z=>((z.new Cd).upd).L8 fun a ha=>?_) LP
   simp only[mem_cons]at ha ⊢
   rcases ha with rfl | rfl | rfl | rfl | h
   ·exact .inr (.inr (.inr (.inl rfl)))
   ·exact .inr (.inr (.inl rfl))
   ·exact .inr (.inl rfl)
   ·exact .inl rfl
   ·exact .inr (.inr (.inr (.inr h)))
  ·simp only[nodup_cons,mem_cons,not_mem_nil,or_false,not_or,not_false_eq_true,and_true,nodup_nil]
   exact⟨⟨Hy,LL,LQ⟩,⟨LM,LR⟩,LS⟩
theorem Av.off {K:Frag}{ys:Ys}{H H':Hp}{y dy tb ro la le li dn:Addr}{s:YS}(h:Av K ys H y dy tb ro la le li dn s)(o:AA (la :: le :: li :: dn :: ys.ex) H H'):H' y=some (.ins ys.Aq dy (OJ tb ro la le li dn))/\Ay K H' ro s.rooms/\(∀ vs ss,Paired (Ct H ys.AI (la :: le :: li :: dn :: ys.ex)) vs ss->Paired (Ct H' ys.AI (la :: le :: li :: dn :: ys.ex)) vs ss)/\(∀ vs ss,Paired (CU H ys.Ar (la :: le :: li :: dn :: ys.ex)) vs ss->Paired (CU H' ys.Ar (la :: le :: li :: dn :: ys.ex)) vs ss)/\(∀ vs ss,Paired (BI H) vs ss->Paired (BI H') vs ss)/\∀ vs ss,Paired (BL H) vs ss->Paired (BL H') vs ss:=by
 have hx:=h.El
 have k:=o.AF hx
 refine⟨k _ _ h.ins True.intro,?_,fun vs ss=>Paired.mono fun _ _ z=>z.AW hx o,fun vs ss=>Paired.mono fun _ _ z=>z.AW hx o,fun vs ss=>Paired.mono fun _ _ z=>z.keep k,fun vs ss=>Paired.mono fun _ _ z=>z.keep k⟩
 rcases h.JN with r | r
 ·refine .inl ?_
  rcases r with r | ⟨u,r⟩
  ·exact .inl (k _ _ r True.intro)
  ·exact .inr ⟨u,k _ _ r True.intro⟩
 ·exact .inr r
theorem cT {ex:List Addr}{a:Addr}{H:Hp}{o:HO}(ha:a ∈ ex):AA ex H (upd H a o):=fun b u nb e=>by rw[ai (fun z=>nb (by rw[z];exact ha))];exact e
theorem rE {H:Hp}{x b:Addr}{zs:List V}(h:∃ xs,H b=some (.lst xs)):∃ xs,(upd H x (.lst zs)) b=some (.lst xs):=by
 by_cases e:b=x
 ·exact⟨zs,by rw[e,ac]⟩
 ·obtain⟨xs,hz⟩:=h
  exact⟨xs,by rw[ai e];exact hz⟩
theorem Av.LU {K:Frag}{ys:Ys}{H:Hp}{y dy tb ro la le li dn:Addr}{s:YS}(h:Av K ys H y dy tb ro la le li dn s){vs:List V}{v:V}{t:cI}(hv:H le=some (.lst vs))(hL:CU H ys.Ar (la :: le :: li :: dn :: ys.ex) v t):Av K ys (upd H le (.lst (vs ++ [v]))) y dy tb ro la le li dn { s with Am:=s.Am ++ [t] }:=by
 obtain⟨h1,h2,f1,f2,f3,f4⟩:=h.off (cT (a:=le) (o := .lst (vs ++ [v])) (by simp))
 obtain⟨v1,a1,p1⟩:=h.BD
 obtain⟨v2,a2,p2⟩:=h.hle
 obtain⟨v3,a3,p3⟩:=h.Cu
 obtain⟨v4,a4,p4⟩:=h.Cd
 rw[hv]at a2
 cases a2
 have ne:=h.ne
 simp only[nodup_cons,mem_cons,not_mem_nil,or_false,not_or,not_false_eq_true,and_true,nodup_nil]at ne
 have Rn:Paired (CU (upd H le (.lst (vs ++ [v]))) ys.Ar (la :: le :: li :: dn :: ys.ex)) [v] [t]:=f2 [v] [t] (.cons hL .nil)
 exact⟨h1,h2,⟨v1,by rw[ai ne.1.1];exact a1,f1 _ _ p1⟩,⟨vs ++ [v],ac,Paired.snoc (by cases Rn with | cons z _=>exact z) (f2 _ _ p2)⟩,⟨v3,by rw[ai (Ne.symm ne.2.1.1)];exact a3,f3 _ _ p3⟩,⟨v4,by rw[ai (Ne.symm ne.2.1.2)];exact a4,f4 _ _ p4⟩,h.ne,fun b hb=>rE (h.hex b hb)⟩
theorem Av.HI {K:Frag}{ys:Ys}{H:Hp}{y dy tb ro la le li dn:Addr}{s:YS}(h:Av K ys H y dy tb ro la le li dn s){vs:List V}{v:V}{t:List V}(hv:H dn=some (.lst vs))(hL:BL H v t):Av K ys (upd H dn (.lst (vs ++ [v]))) y dy tb ro la le li dn { s with done:=s.done ++ [t] }:=by
 obtain⟨h1,h2,f1,f2,f3,f4⟩:=h.off (cT (a:=dn) (o := .lst (vs ++ [v])) (by simp))
 obtain⟨v1,a1,p1⟩:=h.BD
 obtain⟨v2,a2,p2⟩:=h.hle
 obtain⟨v3,a3,p3⟩:=h.Cu
 obtain⟨v4,a4,p4⟩:=h.Cd
 rw[hv]at a4
 cases a4
 have ne:=h.ne
 simp only[nodup_cons,mem_cons,not_mem_nil,or_false,not_or,not_false_eq_true,and_true,nodup_nil]at ne
 have Rn:Paired (BL (upd H dn (.lst (vs ++ [v])))) [v] [t]:=f4 [v] [t] (.cons hL .nil)
 exact⟨h1,h2,⟨v1,by rw[ai ne.1.2.2];exact a1,f1 _ _ p1⟩,⟨v2,by rw[ai ne.2.1.2];exact a2,f2 _ _ p2⟩,⟨v3,by rw[ai ne.2.2];exact a3,f3 _ _ p3⟩,⟨vs ++ [v],ac,Paired.snoc (by cases Rn with | cons z _=>exact z) (f4 _ _ p4)⟩,h.ne,fun b hb=>rE (h.hex b hb)⟩
inductive Pd
 | place | length | word | way | full | good
noncomputable def lZ (n:Nat)(wy:Wf)(m:Nat)(sv gv lv wv:V):Pd :=
 if (kY sv 0 ((n:Int) - 1) && kY gv 0 ((n:Int) - 1))=false then .place else if kY lv 1 60=false then .length else if zE wv=false then .word
 else if vI sv=vI gv∨wy (vI sv).toNat (vI gv).toNat none=[] then .way else if 60 <= m then .full else .good
noncomputable def kT (s:YS)(a b l u:Int):YS:={ s with Am:=s.Am ++ [⟨a,b,l,u,0,[]⟩],done:=s.done ++ [[.str "post", .int a, .int b, .int l, .int u]] }
noncomputable def lJ (K:Frag)(c:Cs)(TC:Addr)(J:TJ)(ys:Ys):Sp:=fun vs H Q _=>∃ (y dy tb ro la le li dn lx AL lt:Addr)(n:Nat)(Az:List V)(ps:List (Int × Int))(wy:Wf)(s:YS)(sv gv lv wv:V),vs=[.ref y,sv,gv,lv,wv]/\Av K ys H y dy tb ro la le li dn s/\BH c TC J H tb lx AL lt n Az ps wy/\tj sv/\tj gv/\tj lv/\tj wv/\s.Am.length <= 900/\s.done.length <= 10000 /\
 (lZ n wy s.Am.length sv gv lv wv = .place->False) /\
 (lZ n wy s.Am.length sv gv lv wv = .length->False) /\
 (lZ n wy s.Am.length sv gv lv wv = .word->False) /\
 (lZ n wy s.Am.length sv gv lv wv = .way->False) /\
 (lZ n wy s.Am.length sv gv lv wv = .full->False) /\
 (lZ n wy s.Am.length sv gv lv wv = .good->∀ H',AA [le,dn] H H'->Av K ys H' y dy tb ro la le li dn (kT s (vI sv) (vI gv) (vI lv) (vI wv))->Q (.int s.Am.length) H')
abbrev NPo:List Str:=["self", "start", "goal", "length", "word", "last_place"]
abbrev Ah:List Str:=["self", "start", "goal", "length", "word"]
theorem LV:ao NPo Ah (af ig):=L2.AQ
theorem wW {c:Cs}{ys:Ys}{J:TJ}{TC f OK fw Ro fl:Addr}{fd OL dw VW dl:FuncData}{t1 t2:Tok}(F:Ex K "post" "Yard.post" ig f fd)(T:Txt mg)(L:rW K c)(Y:gS K ys)(W:Wy K TC OK OL J)(IK:Ao P w K mg base aA 3 OK OL ["self", "place", "goal", "came"] (jd J))
  (mw:mg "is_within" = some (.ref fw)) (kw:keepIn K (.ref fw)=true) (bw:Binds K dw ["value", "least", "most"] []) (Gw:Ao P w K mg base aA 2 fw dw ["value", "least", "most"] fS)
  (mwo:mg "is_word" = some (.ref Ro)) (kwo:keepIn K (.ref Ro)=true) (bwo:Binds K VW ["word"] []) (Rp:Ao P w K mg base aA 2 Ro VW ["word"] tN)
  (ml:mg "Letter" = some (.ref ys.Ar)) (Ml:Mk K ys.Ar fl) (bl:Binds K dl ["self", "start", "goal", "length", "word"] []) (Gl:Ao P w K mg base aA 1 fl dl ["self", "start", "goal", "length", "word"] (tT ys.Ar))
  (mL:mg "MOST_LENGTH" = some (.int 60 t1)) (mM:mg "MOST_LETTERS" = some (.int 60 t2)) :
  Ao P w K mg base aA 4 f fd Ah (lJ K c TC J ys):=by
 refine F.ok LV (fun _ _ _ _ h=>?_) (fun _ _ _ s H _ Q E hr h=>?_)
 ·obtain⟨y,dy,tb,ro,la,le,li,dn,lx,AL,lt,n,Az,ps,wy,s,sv,gv,lv,wv,rfl,_⟩:=h
  rfl
 ·obtain⟨y,dy,tb,ro,la,le,li,dn,lx,AL,lt,n,Az,ps,wy,st,sv,gv,lv,wv,rfl,hY,hT,cs,cg,cl,cw,hl9,hd9,e1,e2,e3,e4,e5,q⟩:=h
  have Bu:Ax 2 _:=hr.mono (by decide)
  refine⟨_,ae (aC (i:=5) LV.nd rfl (Or.inl rfl) (aB e6 (am (am (am (pv 0) rfl) rfl) rfl) ag))
   (ae (aP (PW.pt (eG (bM (bF (ap Gw Bu rfl mw kw bw .nil al (aa (pv 1) (aa ag (aa (pv 5) ad)))))) (dc (bM (bF (ap Gw Bu rfl mw kw bw .nil al (aa (pv 2) (aa ag (aa (pv 5) ad)))))))))
    (ah b5) aD)
   (ae (aP (bM (bF (ap Gw Bu rfl mw kw bw .nil al (aa (pv 3) (aa ag (aa (dS (v := .int 60) rfl mL ⟨_,rfl⟩) ad))))))
    (ah b5) aD)
   (ae (aP (bM (bF (ap Rp Bu rfl mwo kwo bwo .nil al (aa (pv 4) ad))))
    (ah b5) aD)
   (ae (aP (fX (PW.pt (eG (au bj (pv 1) (pv 2) (aw _)) (dc (bM (fH (aH (am (pv 0) rfl) W.cl W.m IK hr W.b .nil al (aa (pv 1) (aa (pv 2) (aa bQ ad)))) (fun _=>rfl)))))))
    (ah b5) aD)
   (ae (aP (au yh (az ay rfl T.len PySem.boot_len (aa (am (pv 0) rfl) ad)) (dS (v := .int 60) rfl mM ⟨_,rfl⟩) (aw _))
    (ah b5) aD)
   (ae (aN (bJ plainAttrs_list PySem.F.slot_list_append PySem.F.type_list_append bG (am (pv 0) rfl) (aa (c7 Ml Gl Bu rfl ml bl .nil al (aa (pv 1) (aa (pv 2) (aa (pv 3) (aa (pv 4) ad))))) ad)))
   (ae (aN (bJ plainAttrs_list PySem.F.slot_list_append PySem.F.type_list_append bG (am (pv 0) rfl) (aa (bI (aa aV (aa (pv 1) (aa (pv 2) (aa (pv 3) (aa (pv 4) ad)))))) ad)))
   (ah (aq (aB e6 (az ay rfl T.len PySem.boot_len (aa (am (pv 0) rfl) ad)) ag)))))))))),?_⟩
  obtain⟨Fe,fst,EH,B5,D5⟩:=hT.i
  unfold lZ at e1 e2 e3 e4 e5 q
  refine⟨_,rfl,y,ys.Aq,dy,_,_,rfl,hY.ins,Y.cl,Y.n1,rfl,tb,TC,Fe,fst,_,rfl,EH,W.cl,W.nl,B5,lx,c.land,AL,_,_,rfl,hT.l.1,L.cl,L.np,rfl,_,_,rfl,rfl,?_⟩
  refine⟨_,rfl,_,rfl,sv,0,(n:Int) - 1,rfl,cs,_,rfl,?_⟩
  cases h1:kY sv 0 ((n:Int) - 1) with
  | false =>
   exact aL (aL (e1 (by rw[h1,Bool.false_and,if_pos rfl])))
  | true =>
  refine aE ⟨_,rfl,_,rfl,gv,0,(n:Int) - 1,rfl,cg,_,rfl,?_⟩
  cases h2:kY gv 0 ((n:Int) - 1) with
  | false =>
   exact aL (e1 (by rw[h1,h2,Bool.and_false,if_pos rfl]))
  | true =>
  rw[h1,h2,Bool.true_and,if_neg (by decide)]at e2 e3 e4 e5 q
  refine aE ⟨_,rfl,lv,1,60,rfl,cl,_,rfl,?_⟩
  cases h3:kY lv 1 60 with
  | false =>
   exact aL (e2 (by rw[h3,if_pos rfl]))
  | true =>
  rw[h3,if_neg (by decide)]at e3 e4 e5 q
  refine aE ⟨_,rfl,wv,rfl,cw,_,rfl,?_⟩
  cases h4:zE wv with
  | false =>
   exact aL (e3 (by rw[h4,if_pos rfl]))
  | true =>
  rw[h4,if_neg (by decide)]at e4 e5 q
  refine aE ?_
  obtain⟨a,rfl⟩:=jl h1
  obtain⟨b,rfl⟩:=jl h2
  obtain⟨l,rfl⟩:=jl h3
  obtain⟨u,rfl⟩:∃ u,wv = .int u:=by
   cases wv<;>first | exact⟨_,rfl⟩ | cases h4
  have ha:0 <= a/\a <= (n:Int) - 1:=of_decide_eq_true h1
  have hb:0 <= b/\b <= (n:Int) - 1:=of_decide_eq_true h2
  obtain⟨a',rfl⟩:∃ a':Nat,a=(a':Int):=⟨a.toNat,by omega⟩
  obtain⟨b',rfl⟩:∃ b':Nat,b=(b':Int):=⟨b.toNat,by omega⟩
  have ev:∀ z:Int,vI (.int z)=z:=fun _=>rfl
  rw[ev,ev,toNat_natCast,toNat_natCast]at e4 e5 q
  refine⟨fun k H1=>An H H1/\k=decide ((a':Int)=(b':Int)∨wy a' b' none=[]),?_,?_⟩
  ·refine⟨_,rfl,_,rfl,rfl,_,rfl,?_⟩
   rw[bU]
   by_cases LW:(a':Int)=(b':Int)
   ·rw[decide_eq_true LW]
    exact aL ⟨An.refl H,by rw[decide_eq_true (Or.inl LW)]⟩
   ·rw[decide_eq_false LW]
    refine aE ⟨_,rfl,y,ys.Aq,dy,_,_,rfl,hY.ins,Y.cl,Y.n1,rfl,tb,Fe,fst,rfl,EH,D5,_,rfl,_,rfl,tb,n,wy,a',b',none,rfl,hT.j,by omega,by omega,fun D H1 s1 hD gD=>⟨_, .inl ⟨_,Ap.of gD,rfl⟩,s1,?_⟩⟩
    cases hw:wy a' b' none with
    | nil=>rw[decide_eq_true (Or.inr rfl)];rfl
    | cons z zs=>rw[decide_eq_false (fun z=>z.elim LW fun z=>by cases z)];rfl
  rintro k H1 ⟨s1,rfl⟩
  have BO:=hY.same s1
  by_cases GG:(a':Int)=(b':Int)∨wy a' b' none=[]
  ·rw[decide_eq_true GG]
   exact aL (e4 (by rw[if_pos GG]))
  rw[decide_eq_false GG]
  rw[if_neg GG]at e5 q
  refine aE ?_
  obtain⟨CV,Bz,pl⟩:=BO.hle
  have CA:CV.length=st.Am.length:=Paired.length pl
  refine⟨_,rfl,y,ys.Aq,dy,_,_,rfl,BO.ins,Y.cl,Y.n4,rfl,le,_,rfl, .inl (Ap.of Bz),_,_,rfl,rfl,_,rfl,?_⟩
  by_cases HJ:60 <= st.Am.length
  ·rw[decide_eq_true (show (60:Int) <= (CV.length:Nat) by omega)]
   exact aL (e5 (by rw[if_pos HJ]))
  rw[decide_eq_false (show ¬ (60:Int) <= (CV.length:Nat) by omega)]
  rw[if_neg HJ]at q
  refine aE ?_
  refine⟨_,rfl,y,ys.Aq,dy,_,_,rfl,BO.ins,Y.cl,Y.n4,rfl, .inl ⟨rfl,_,Ap.of Bz⟩,_,rfl,_,rfl,_,rfl,_,rfl,fun xl D6 nx E3 DG=>⟨xl,D6,(a':Int),(b':Int),l,u,rfl,ac,fun wa H2 Ez off FG LX=>⟨rfl,?_⟩⟩⟩
  have DI:An H1 H2:=fun z o ez=>off z o (aj ez nx) (by rw[ai (aj ez nx),ai (aj ez E3)];exact ez)
  have Rq:H1 wa=none:=by
   by_cases z1:wa=xl
   ·rw[z1,ac]at Ez;cases Ez
   ·by_cases z2:wa=D6
    ·rw[z2,ai DG,ac]at Ez;cases Ez
    ·rw[ai z1,ai z2]at Ez;exact Ez
  have D7:=BO.same DI
  have LY:=DI _ _ Bz
  have hlv:CU H2 ys.Ar (la :: le :: li :: dn :: ys.ex) (.ref xl) ⟨(a':Int),(b':Int),l,u,0,[]⟩:=⟨xl,D6,wa,rfl,FG,LX,fun z=>by obtain⟨xs,hz⟩:=BO.El wa z;rw[Rq]at hz;cases hz⟩
  refine⟨le,_,_,rfl,rfl,LY,by rw[sizeLine_eq];omega,?_⟩
  have CB:=D7.LU LY hlv
  have o3:AA [le,dn] H (upd H2 le (.lst (CV ++ [.ref xl]))):=(An.AW (s1.trans DI)).trans (cT (by simp))
  generalize upd H2 le (.lst (CV ++ [.ref xl]))=H3 at CB o3 ⊢
  obtain⟨dvs,HK,pd⟩:=CB.Cd
  have DU:dvs.length=st.done.length:=Paired.length pd
  refine⟨_,rfl,y,ys.Aq,dy,_,_,rfl,CB.ins,Y.cl,Y.n6,rfl, .inl ⟨rfl,_,Ap.of HK⟩,_,rfl,_,rfl,_,rfl,_,rfl,by show 5 <= sizeLine;decide,fun t ht=>?_⟩
  have DJ:=(An.refl H3).new (o := .tup [.str "post", .int (a':Int), .int (b':Int), .int l, .int u]) ht
  have VX:(upd H3 t (.tup [.str "post", .int (a':Int), .int (b':Int), .int l, .int u])) t=some (.tup [.str "post", .int (a':Int), .int (b':Int), .int l, .int u]):=ac
  generalize upd H3 t (.tup [.str "post", .int (a':Int), .int (b':Int), .int l, .int u])=H4 at DJ VX ⊢
  have IL:=CB.same DJ
  have LZ:=DJ _ _ HK
  refine⟨dn,_,_,rfl,rfl,LZ,by rw[sizeLine_eq];omega,?_⟩
  have Fl:=IL.HI LZ ⟨t,rfl,VX⟩
  have o5:AA [le,dn] H (upd H4 dn (.lst (dvs ++ [.ref t]))):=(o3.trans (An.AW DJ)).trans (cT (by simp))
  generalize upd H4 dn (.lst (dvs ++ [.ref t]))=H5 at Fl o5 ⊢
  obtain⟨VY,Rr,pl5⟩:=Fl.hle
  have JQ:VY.length=st.Am.length + 1:=by rw[Paired.length pl5,length_append];rfl
  refine⟨_,rfl,y,ys.Aq,dy,_,_,rfl,Fl.ins,Y.cl,Y.n4,rfl,le,_,rfl, .inl (Ap.of Rr),_,_,rfl,rfl,?_⟩
  have er:((VY.length:Nat):Int) - 1=(st.Am.length:Int):=by omega
  dsimp only
  rw[er]
  exact q rfl H5 o5 Fl
theorem ly {K:Frag}{a:Addr}{xs:List V}{g:TG}{te:TE}{σ0:St}{H:Hp}{Q:VK}(f:Nat->V)(hn:xs.length < sizeLine)(ha:Ap K H a xs)
  (hs:∀ (i:Nat)(x:V)(N:V->Hp->Prop),xs[i]? = some x->N (f i) H->g x σ0 H fun σ2 H2=>te σ2 H2 N)
  (hq:∀ D,H D=none->Q (.ref D) (upd H D (.lst ((List.range xs.length).map f)))):dQ (vV K a) g mY te σ0 Q H:=by
 refine aX xs.length hn (fun i acc H'=>H' = H/\acc=(List.range i).map f) ⟨rfl,rfl⟩ (fun i acc H' h=>by rw[h.2,length_map,length_range];exact le_refl _) (fun i acc H' hi h=>?_) (fun acc H' h=>?_)
 ·obtain⟨rfl,rfl⟩:=h
  refine⟨⟨xs,xs[i],ha,by simp[hi]⟩,fun v H2 y=>?_⟩
  obtain⟨e,y⟩:=y
  subst e
  exact hs i v (fun y H4=>H4=H2/\(List.range i).map f ++ [y]=(List.range (i + 1)).map f) (y xs ha) ⟨rfl,by rw[range_succ,map_append];rfl⟩
 ·obtain⟨rfl,rfl⟩:=h
  exact⟨⟨xs,ha,le_refl _⟩,hq⟩
theorem jL {α β:Type}(xs:List α)(d:α)(f:α->β):(List.range xs.length).map (fun i=>f (xs.getD i d))=xs.map f:=by
 refine List.ext_getElem (by simp) fun i h1 h2=>?_
 simp only[getElem_map,List.getElem_range]
 rw[getD_eq_getElem?_getD,getElem?_eq_getElem (by simpa using h2)];rfl
noncomputable def yZ (K:Frag):List V->Hp->VK->Prop:=fun xs H Q=>∃ (p:Addr)(ys:List V),xs=[.ref p]/\(Ap K H p ys∨Ay K H p ys)/\Q (.int (ys.length:Nat)) H
noncomputable def qM (K:Frag)(ys:Ys):Sp:=fun vs H Q _=>∃ (y dy tb ro la le li dn:Addr)(s:YS)(k:Nat)(ln:cW),vs=[.ref y, .int k]/\Av K ys H y dy tb ro la le li dn s/\s.lanes[k]? = some ln/\∀ (t ql:Addr)(AJ:List V)(H':Hp),An H H'->H ql=none->H' t=some (.tup [.int ln.r, .int ln.b,hV ln.h, .ref ql])->H' ql=some (.lst AJ)->AN H' AJ ln.qs->Q (.ref t) H'
noncomputable def tW (K:Frag)(ys:Ys):Sp:=fun vs H Q _=>∃ (y dy tb ro la le li dn:Addr)(s:YS)(k:Nat)(lt:cI),vs=[.ref y, .int k]/\Av K ys H y dy tb ro la le li dn s/\s.Am[k]? = some lt/\∀ (t:Addr)(H':Hp),An H H'->H' t=some (.tup [.int lt.start, .int lt.goal, .int lt.len, .int lt.word])->Q (.ref t) H'
noncomputable def tO (K:Frag)(ys:Ys):Sp:=fun vs H Q _=>∃ (y dy tb ro la le li dn:Addr)(s:YS)(k:Nat)(lt:cI),vs=[.ref y, .int k]/\Av K ys H y dy tb ro la le li dn s/\s.Am[k]? = some lt/\∀ (t:Addr)(H':Hp),An H H'->H t=none->H' t=some (.lst (nV lt.way))->Q (.ref t) H'
noncomputable def j3 (K:Frag)(ys:Ys):Sp:=fun vs H Q _=>∃ (y dy tb ro la le li dn:Addr)(s:YS),vs=[.ref y]/\Av K ys H y dy tb ro la le li dn s/\Q (.int s.Am.length) H
noncomputable def p5 (K:Frag)(ys:Ys):Sp:=fun vs H Q _=>∃ (y dy tb ro la le li dn:Addr)(s:YS),vs=[.ref y]/\Av K ys H y dy tb ro la le li dn s/\∀ (t:Addr)(vs:List V)(H':Hp),An H H'->H t=none->H' t=some (.lst vs)->Paired (BL H') vs s.done->Q (.ref t) H'
theorem Rt:ao ["self", "lane"] ["self", "lane"] (af pC):=L2.AQ
theorem uU {ys:Ys}{f ft:Addr}{fd dt:FuncData}(F:AM K "lane_told" "Yard.lane_told" pC f fd)(Y:gS K ys)(mt:bB K ys.AI "told" ft)(bt:Binds K dt ["self"] [])(Gt:Ao P w K mg base aA 1 ft dt ["self"] (yb ys.AI)) :
  Ao P w K mg base aA 2 f fd ["self", "lane"] (qM K ys):=by
 refine F.ok Rt (fun _ _ _ _ h=>?_) (fun _ _ _ s H _ Q E hr h=>?_)
 ·obtain⟨y,dy,tb,ro,la,le,li,dn,st,k,ln,rfl,_⟩:=h
  rfl
 ·obtain⟨y,dy,tb,ro,la,le,li,dn,st,k,ln,rfl,hY,hk,q⟩:=h
  refine⟨_,ah (aq (bu (ax aJ (am (pv 0) rfl) (pv 1) (fun _ _=>rfl)) Y.L.cl mt Gt hr bt .nil al)),?_⟩
  obtain⟨AB,Bs,pl⟩:=hY.BD
  obtain⟨v,hv,x,dx,pa,AJ,rfl,hL,_⟩:=Paired.at2 pl hk
  refine⟨_,rfl,y,ys.Aq,dy,_,_,rfl,hY.ins,Y.cl,Y.n3,rfl,_,rfl,la,AB,(k:Int),_,rfl,rfl,Ap.of Bs,ak hv,x,dx,_,rfl,hL.ins,rfl,?_⟩
  exact⟨x,dx,pa,ln.r,ln.b,ln.h,AJ,ln.qs,rfl,hL,fun t ql H' s' Hw gt Ru=>q t ql AJ H' s' Hw gt Ru (AN.same s' hL.B4)⟩
theorem Mb:ao ["self", "number", "letter"] ["self", "number"] (af ux):=L2.AQ
theorem xf {ys:Ys}{f:Addr}{fd:FuncData}(F:AM K "letter_told" "Yard.letter_told" ux f fd)(Y:gS K ys):Ao P w K mg base aA 1 f fd ["self", "number"] (tW K ys):=by
 refine F.ok Mb (fun _ _ _ _ h=>?_) (fun _ _ _ s H _ Q E hr h=>?_)
 ·obtain⟨y,dy,tb,ro,la,le,li,dn,st,k,ln,rfl,_⟩:=h
  rfl
 ·obtain⟨y,dy,tb,ro,la,le,li,dn,st,k,lt,rfl,hY,hk,q⟩:=h
  refine⟨_,ae (aC (i:=2) Mb.nd rfl (Or.inl rfl) (ax aJ (am (pv 0) rfl) (pv 1) (fun _ _=>rfl))) (ah (aq (bI (aa (am (pv 2) rfl) (aa (am (pv 2) rfl) (aa (am (pv 2) rfl) (aa (am (pv 2) rfl) ad))))))),?_⟩
  obtain⟨Az,Bz,pl⟩:=hY.hle
  obtain⟨v,hv,x,dx,wa,rfl,hx,_⟩:=Paired.at2 pl hk
  refine⟨_,rfl,y,ys.Aq,dy,_,_,rfl,hY.ins,Y.cl,Y.n4,rfl,_,rfl,le,Az,(k:Int),_,rfl,rfl,Ap.of Bz,ak hv,?_⟩
  refine⟨_,rfl,x,ys.Ar,dx,_,_,rfl,hx,Y.ct,Y.t1,rfl,_,rfl,x,ys.Ar,dx,_,_,rfl,hx,Y.ct,Y.t2,rfl,_,rfl,x,ys.Ar,dx,_,_,rfl,hx,Y.ct,Y.t3,rfl,_,rfl,x,ys.Ar,dx,_,_,rfl,hx,Y.ct,Y.t4,rfl,by show 4 <= sizeLine;decide,fun t ht=>?_⟩
  exact q t _ ((An.refl H).new ht) ac
theorem Rv:ao ["self", "number"] ["self", "number"] (af ul):=L2.AQ
theorem wQ {ys:Ys}{f:Addr}{fd:FuncData}(F:AM K "way_told" "Yard.way_told" ul f fd)(T:Txt mg)(Y:gS K ys):Ao P w K mg base aA 1 f fd ["self", "number"] (tO K ys):=by
 refine F.ok Rv (fun _ _ _ _ h=>?_) (fun _ _ _ s H _ Q E hr h=>?_)
 ·obtain⟨y,dy,tb,ro,la,le,li,dn,st,k,ln,rfl,_⟩:=h
  rfl
 ·obtain⟨y,dy,tb,ro,la,le,li,dn,st,k,lt,rfl,hY,hk,q⟩:=h
  refine⟨_,ah (aq (aY bL rfl T.list PySem.Pv.boot_list (aa (am (ax aJ (am (pv 0) rfl) (pv 1) (fun _ _=>rfl)) rfl) ad))),?_⟩
  obtain⟨Az,Bz,pl⟩:=hY.hle
  obtain⟨v,hv,x,dx,wa,rfl,hx,hw,_⟩:=Paired.at2 pl hk
  refine⟨_,rfl,y,ys.Aq,dy,_,_,rfl,hY.ins,Y.cl,Y.n4,rfl,_,rfl,le,Az,(k:Int),_,rfl,rfl,Ap.of Bz,ak hv,x,ys.Ar,dx,_,_,rfl,hx,Y.ct,Y.t6,rfl,wa,_,rfl, .inl (Ap.of hw),fun t ht=>?_⟩
  exact q t _ ((An.refl H).new ht) ht ac
theorem Rx:ao ["self"] ["self"] (af lU):=L2.AQ
theorem sF {ys:Ys}{f:Addr}{fd:FuncData}(F:AM K "posted" "Yard.posted" lU f fd)(T:Txt mg)(Y:gS K ys):Ao P w K mg base aA 1 f fd ["self"] (j3 K ys):=by
 refine F.ok Rx (fun _ _ _ _ h=>?_) (fun _ _ _ s H _ Q E hr h=>?_)
 ·obtain⟨y,dy,tb,ro,la,le,li,dn,st,rfl,_⟩:=h
  rfl
 ·obtain⟨y,dy,tb,ro,la,le,li,dn,st,rfl,hY,q⟩:=h
  refine⟨_,ah (aq (az ay rfl T.len PySem.boot_len (aa (am (pv 0) rfl) ad))),?_⟩
  obtain⟨Az,Bz,pl⟩:=hY.hle
  refine⟨_,rfl,y,ys.Aq,dy,_,_,rfl,hY.ins,Y.cl,Y.n4,rfl,le,_,rfl, .inl (Ap.of Bz),?_⟩
  rw[Paired.length pl]
  exact q
theorem Ry:ao ["self"] ["self"] (af u1):=L2.AQ
theorem xk {ys:Ys}{f:Addr}{fd:FuncData}(F:AM K "history" "Yard.history" u1 f fd)(T:Txt mg)(Y:gS K ys):Ao P w K mg base aA 1 f fd ["self"] (p5 K ys):=by
 refine F.ok Ry (fun _ _ _ _ h=>?_) (fun _ _ _ s H _ Q E hr h=>?_)
 ·obtain⟨y,dy,tb,ro,la,le,li,dn,st,rfl,_⟩:=h
  rfl
 ·obtain⟨y,dy,tb,ro,la,le,li,dn,st,rfl,hY,q⟩:=h
  refine⟨_,ah (aq (aY bL rfl T.list PySem.Pv.boot_list (aa (am (pv 0) rfl) ad))),?_⟩
  obtain⟨dvs,HK,pd⟩:=hY.Cd
  refine⟨_,rfl,y,ys.Aq,dy,_,_,rfl,hY.ins,Y.cl,Y.n6,rfl,dn,_,rfl, .inl (Ap.of HK),fun t ht=>?_⟩
  exact q t dvs _ ((An.refl H).new ht) ht ac (Paired.mono (fun _ _ z=>z.keep (An.AF ((An.refl H).new ht))) pd)
theorem qx {K:Frag}{T:Addr}{o:Obj}{n:Nat}{kV doc pm cdv ct:Value}{an:Option Addr}(ho:K.lookup T=some o)(hs:o.data = .seq #[Value.none] n) :
  Binds K (fnOf "__init__" "Yard.__init__" (bP gf) (aG gf) (af gf) (.ref T) kV doc pm an cdv ct) ["self", "table", "rooms"] [Value.none]:=fun s us ED hl=>by
 have hl:us.length=2:=by rw[length_append]at hl;exact Nat.succ.inj hl
 obtain⟨a,VZ,rfl,JR⟩:=L2.FC hl
 obtain⟨b,D8,rfl,Fm⟩:=L2.FC JR
 obtain rfl:=eq_nil_of_length_eq_zero Fm
 exact BindsTo.of_defaults rfl (ED _ _ ho) hs rfl rfl
theorem qy {K:Frag}{T:Addr}{o:Obj}{n:Nat}{kV doc pm cdv ct:Value}{an:Option Addr}(ho:K.lookup T=some o)(hs:o.data = .seq #[Value.none] n) :
  Binds K (fnOf "__init__" "Yard.__init__" (bP gf) (aG gf) (af gf) (.ref T) kV doc pm an cdv ct) ["self", "table", "rooms"] []:=fun s us ED hl=>by
 have hl:us.length=3:=by rw[append_nil]at hl;exact hl
 obtain⟨a,VZ,rfl,JR⟩:=L2.FC hl
 obtain⟨b,D8,rfl,Fm⟩:=L2.FC JR
 obtain⟨c,HL,rfl,Df⟩:=L2.FC Fm
 obtain rfl:=eq_nil_of_length_eq_zero Df
 exact BindsTo.of_defaults rfl (ED _ _ ho) hs rfl rfl
theorem oK {K:Frag}{T:Addr}{o:Obj}{n:Nat}{tk:Tok}{kV doc pm cdv ct:Value}{an:Option Addr}(ho:K.lookup T=some o)(hs:o.data = .seq #[Value.int 0 tk] n) :
  Binds K (fnOf "post" "Yard.post" (bP ig) (aG ig) (af ig) (.ref T) kV doc pm an cdv ct) Ah []:=fun s us ED hl=>by
 have hl:us.length=5:=by rw[append_nil]at hl;exact hl
 obtain⟨a,VZ,rfl,JR⟩:=L2.FC hl
 obtain⟨b,D8,rfl,Fm⟩:=L2.FC JR
 obtain⟨c,HL,rfl,Df⟩:=L2.FC Fm
 obtain⟨d,us3,rfl,HM⟩:=L2.FC Df
 obtain⟨e,us4,rfl,JS⟩:=L2.FC HM
 obtain rfl:=eq_nil_of_length_eq_zero JS
 exact BindsTo.of_defaults rfl (ED _ _ ho) hs rfl rfl
noncomputable def ya (C:Addr):Sp:=fun vs H Q _=>∃ (x dx pa:Addr)(r b:Int)(h:Option Int)(AJ:List V)(qs:List (Int × Int)),vs=[.ref x]/\AK H C x dx pa r b h AJ qs/\∀ (x' Ef EI:Addr)(H':Hp),An H H'->H x' = none->H EI = none->AK H' C x' Ef EI r b h AJ qs->Q (.ref x') H'
noncomputable def xZ (C:Addr):Sp:=fun vs H Q _=>∃ (x dx wa:Addr)(s:cI),vs=[.ref x]/\H x=some (.ins C dx (qf s wa))/\H wa=some (.lst (nV s.way))/\∀ (x' Ef Em:Addr)(H':Hp),An H H'->H x' = none->H Em = none->H' x' = some (.ins C Ef (qf s Em))->H' Em = some (.lst (nV s.way))->Q (.ref x') H'
theorem HN:ao ["self", "other"] ["self"] (af yM):=L2.AQ
theorem zv {C f fl:Addr}{fd dl:FuncData}(F:AM K "twin" "Lane.twin" yM f fd)(T:Txt mg)(L:xN K C)(ml:mg "Lane" = some (.ref C))(Ml:Mk K C fl)(bl:Binds K dl ["self", "room"] [])(Gl:Ao P w K mg base aA 1 fl dl ["self", "room"] (tU C)) :
  Ao P w K mg base aA 3 f fd ["self"] (ya C):=by
 refine F.ok HN (fun _ _ _ _ h=>?_) (fun _ _ _ s H _ Q E hr h=>?_)
 ·obtain⟨x,dx,pa,r,b,h,AJ,qs,rfl,_⟩:=h
  rfl
 ·obtain⟨x,dx,pa,r,b,h,AJ,qs,rfl,hL,q⟩:=h
  refine⟨_,ae (aC (i:=1) HN.nd rfl (Or.inl rfl) (c7 Ml Gl hr rfl ml bl .nil al (aa (am (pv 0) rfl) ad)))
   (ae (b6 (pv 1) (am (pv 0) rfl) rfl)
   (ae (b6 (pv 1) (am (pv 0) rfl) rfl)
   (ae (b6 (pv 1) (aY bL rfl T.list PySem.Pv.boot_list (aa (am (pv 0) rfl) ad)) rfl)
   (ah (aq (pv 1)))))),?_⟩
  refine⟨_,rfl,x,C,dx,_,_,rfl,hL.ins,L.cl,L.n1,rfl,fun x' d' nx nd ne=>⟨x',d',r,rfl,ac,fun IM H1 G8 off FJ=>⟨rfl,?_⟩⟩⟩
  have s1:An H H1:=fun z o ez=>off z o (aj ez nx) (by rw[ai (aj ez nx),ai (aj ez nd)];exact ez)
  have Mc:=FJ.ins
  clear G8 off FJ
  refine⟨_,rfl,x,C,dx,_,_,rfl,s1 _ _ hL.ins,L.cl,L.n2,rfl,_,rfl,x',C,d',_,rfl,Mc,L.cl,L.n2,by show 4 < 1000;decide,?_⟩
  have o2:∀ o',An H (upd H1 x' o'):=fun o' z o ez=>by rw[ai (aj ez nx)];exact s1 _ _ ez
  refine⟨_,rfl,x,C,dx,_,_,rfl,o2 _ _ _ hL.ins,L.cl,L.n3,rfl,_,rfl,x',C,d',_,rfl,ac,L.cl,L.n3,by show 4 < 1000;decide,?_⟩
  have o3:∀ o' Wa,An H (upd (upd H1 x' o') x' Wa):=fun o' Wa z o ez=>by rw[ai (aj ez nx)];exact o2 _ _ _ ez
  have s3:=o3 (.ins C d' (aQ "returning" (.int b) (iY r 0 (hV none) IM))) (.ins C d' (aQ "holder" (hV h) (aQ "returning" (.int b) (iY r 0 (hV none) IM))))
  have IP:(upd (upd H1 x' (.ins C d' (aQ "returning" (.int b) (iY r 0 (hV none) IM)))) x' (.ins C d' (aQ "holder" (hV h) (aQ "returning" (.int b) (iY r 0 (hV none) IM))))) x' = some (.ins C d' (iY r b (hV h) IM)):=ac
  generalize upd (upd H1 x' (.ins C d' (aQ "returning" (.int b) (iY r 0 (hV none) IM)))) x' (.ins C d' (aQ "holder" (hV h) (aQ "returning" (.int b) (iY r 0 (hV none) IM))))=H3 at s3 IP ⊢
  refine⟨_,rfl,x,C,dx,_,_,rfl,s3 _ _ hL.ins,L.cl,L.n4,rfl,pa,_,rfl, .inl (Ap.of (s3 _ _ hL.lst)),fun EI IQ=>?_⟩
  have Ey:H EI = none:=by
   cases e:H EI with
   | none=>rfl
   | some o=>rw[s3 _ _ e]at IQ;cases IQ
  have Md:x' ≠ EI:=aj IP IQ
  refine⟨_,rfl,x',C,d',_,rfl,by rw[ai Md];exact IP,L.cl,L.n4,by show 4 < 1000;decide,_,rfl,?_⟩
  have s4:∀ o',An H (upd (upd H3 EI (.lst AJ)) x' o'):=fun o' z o ez=>by rw[ai (aj ez nx),ai (aj ez Ey)];exact s3 _ _ ez
  exact q x' d' EI _ (s4 _) nx Ey ⟨ac,by rw[ai (Ne.symm Md)];exact ac,AN.same (s4 _) hL.B4⟩
theorem HP:ao ["self", "other"] ["self"] (af uw):=L2.AQ
theorem zt {ys:Ys}{f fl:Addr}{fd dl:FuncData}(F:AM K "twin" "Letter.twin" uw f fd)(T:Txt mg)(Y:gS K ys)(ml:mg "Letter" = some (.ref ys.Ar))(Ml:Mk K ys.Ar fl)(bl:Binds K dl ["self", "start", "goal", "length", "word"] [])(Gl:Ao P w K mg base aA 1 fl dl ["self", "start", "goal", "length", "word"] (tT ys.Ar)) :
  Ao P w K mg base aA 3 f fd ["self"] (xZ ys.Ar):=by
 refine F.ok HP (fun _ _ _ _ h=>?_) (fun _ _ _ s H _ Q E hr h=>?_)
 ·obtain⟨x,dx,wa,s,rfl,_⟩:=h
  rfl
 ·obtain⟨x,dx,wa,t,rfl,hx,hw,q⟩:=h
  refine⟨_,ae (aC (i:=1) HP.nd rfl (Or.inl rfl) (c7 Ml Gl hr rfl ml bl .nil al (aa (am (pv 0) rfl) (aa (am (pv 0) rfl) (aa (am (pv 0) rfl) (aa (am (pv 0) rfl) ad))))))
   (ae (b6 (pv 1) (am (pv 0) rfl) rfl)
   (ae (b6 (pv 1) (aY bL rfl T.list PySem.Pv.boot_list (aa (am (pv 0) rfl) ad)) rfl)
   (ah (aq (pv 1))))),?_⟩
  refine⟨_,rfl,x,ys.Ar,dx,_,_,rfl,hx,Y.ct,Y.t1,rfl,_,rfl,x,ys.Ar,dx,_,_,rfl,hx,Y.ct,Y.t2,rfl,_,rfl,x,ys.Ar,dx,_,_,rfl,hx,Y.ct,Y.t3,rfl,_,rfl,x,ys.Ar,dx,_,_,rfl,hx,Y.ct,Y.t4,rfl,fun x' d' nx nd ne=>⟨x',d',t.start,t.goal,t.len,t.word,rfl,ac,fun w0 H1 hw0 off BU EJ=>⟨rfl,?_⟩⟩⟩
  have s1:An H H1:=fun z o ez=>off z o (aj ez nx) (by rw[ai (aj ez nx),ai (aj ez nd)];exact ez)
  clear hw0 off EJ
  refine⟨_,rfl,x,ys.Ar,dx,_,_,rfl,s1 _ _ hx,Y.ct,Y.t5,rfl,_,rfl,x',ys.Ar,d',_,rfl,BU,Y.ct,Y.t5,by show 6 < 1000;decide,?_⟩
  have s3:An H (upd H1 x' (.ins ys.Ar d' (aQ "gone" (.int t.gone) (qf ⟨t.start,t.goal,t.len,t.word,0,[]⟩ w0)))):=fun z o ez=>by rw[ai (aj ez nx)];exact s1 _ _ ez
  have IP:(upd H1 x' (.ins ys.Ar d' (aQ "gone" (.int t.gone) (qf ⟨t.start,t.goal,t.len,t.word,0,[]⟩ w0)))) x' = some (.ins ys.Ar d' (qf ⟨t.start,t.goal,t.len,t.word,t.gone,[]⟩ w0)):=ac
  show _
  generalize upd H1 x' (.ins ys.Ar d' (aQ "gone" (.int t.gone) (qf ⟨t.start,t.goal,t.len,t.word,0,[]⟩ w0)))=H3 at s3 IP ⊢
  refine⟨_,rfl,x,ys.Ar,dx,_,_,rfl,s3 _ _ hx,Y.ct,Y.t6,rfl,wa,_,rfl, .inl (Ap.of (s3 _ _ hw)),fun Em IS=>?_⟩
  have Ez:H Em = none:=by
   cases e:H Em with
   | none=>rfl
   | some o=>rw[s3 _ _ e]at IS;cases IS
  have Md:x' ≠ Em:=aj IP IS
  refine⟨_,rfl,x',ys.Ar,d',_,rfl,by rw[ai Md];exact IP,Y.ct,Y.t6,by show 6 < 1000;decide,_,rfl,?_⟩
  have s4:∀ o',An H (upd (upd H3 Em (.lst (nV t.way))) x' o'):=fun o' z o ez=>by rw[ai (aj ez nx),ai (aj ez Ez)];exact s3 _ _ ez
  exact q x' d' Em _ (s4 _) nx Ez ac (by rw[ai (Ne.symm Md)];exact ac)
structure YA where
 y:Addr
 dy:Addr
 tb:Addr
 ro:Addr
 la:Addr
 le:Addr
 li:Addr
 dn:Addr
 lx:Addr
 AL:Addr
 lt:Addr
 n:Nat
 Az:List V
 ps:List (Int × Int)
 wy:Wf
abbrev Bf (K:Frag)(ys:Ys)(H:Hp)(a:YA)(s:YS):Prop:=Av K ys H a.y a.dy a.tb a.ro a.la a.le a.li a.dn s
abbrev Rz (c:Cs)(TC:Addr)(J:TJ)(H:Hp)(a:YA):Prop:=BH c TC J H a.tb a.lx a.AL a.lt a.n a.Az a.ps a.wy
abbrev YA.four (a:YA):List Addr:=[a.la,a.le,a.li,a.dn]
theorem Paired.set {α β:Type}{R:α->β->Prop}{v:α}{r:β}(h:R v r):∀ {vs:List α}{rs:List β}(i:Nat),Paired R vs rs->Paired R (vs.set i v) (rs.set i r)
 | _,_,_, .nil => .nil
 | _,_,0, .cons _ t => .cons h t
 | _,_,i + 1, .cons x t => .cons x (Paired.set h i t)
theorem AA.mono {ex JC:List Addr}{H H':Hp}(h:∀ b ∈ ex,b ∈ JC)(o:AA ex H H'):AA JC H H':=fun b u nb e=>o b u (fun z=>nb (h b z)) e
theorem jS {K:Frag}{ys:Ys}{H:Hp}{a:YA}{s:YS}(h:Bf K ys H a s){p:Addr}(hp:H p=none):p ∉ a.four:=fun z=>by obtain⟨xs,hz⟩:=h.Bw p z;rw[hp]at hz;cases hz
theorem ld {K:Frag}{ys:Ys}{H:Hp}{a:YA}{s:YS}(h:Bf K ys H a s){p:Addr}(hp:H p=none):p ∉ a.la :: a.le :: a.li :: a.dn :: ys.ex:=fun z=>by obtain⟨xs,hz⟩:=Av.El h p z;rw[hp]at hz;cases hz
theorem mI {H H2:Hp}{x b:Addr}{zs:List V}(o:AA [x] H H2)(hx:H2 x=some (.lst zs))(h:∃ xs,H b=some (.lst xs)):∃ xs,H2 b=some (.lst xs):=by
 by_cases e:b=x
 ·exact⟨zs,by rw[e];exact hx⟩
 ·obtain⟨xs,hz⟩:=h
  exact⟨xs,o _ _ (by simpa using e) hz⟩
theorem Bf.CW {K:Frag}{ys:Ys}{H H2:Hp}{a:YA}{s:YS}(h:Bf K ys H a s){vs:List V}(hv:H a.la=some (.lst vs))(o:AA [a.la] H H2){k:Nat}{x dx pa:Addr}(hl:H2 a.la=some (.lst (vs.set k (.ref x)))){ln:cW}{AJ:List V}
  (L:AK H2 ys.AI x dx pa ln.r ln.b ln.h AJ ln.qs) (np:H pa=none):Bf K ys H2 a { s with lanes:=s.lanes.set k ln }:=by
 obtain⟨h1,h2,f1,f2,f3,f4⟩:=Av.off h (o.mono (by simp))
 obtain⟨v1,a1,p1⟩:=h.BD
 obtain⟨v2,a2,p2⟩:=h.hle
 obtain⟨v3,a3,p3⟩:=h.Cu
 obtain⟨v4,a4,p4⟩:=h.Cd
 rw[hv]at a1
 cases a1
 have ne:=h.ne
 simp only[nodup_cons,mem_cons,not_mem_nil,or_false,not_or,not_false_eq_true,and_true,nodup_nil]at ne
 exact⟨h1,h2,⟨_,hl,Paired.set ⟨x,dx,pa,AJ,rfl,L,ld h np⟩ k (f1 _ _ p1)⟩,⟨v2,o _ _ (by simp;exact Ne.symm ne.1.1) a2,f2 _ _ p2⟩,⟨v3,o _ _ (by simp;exact Ne.symm ne.1.2.1) a3,f3 _ _ p3⟩,⟨v4,o _ _ (by simp;exact Ne.symm ne.1.2.2) a4,f4 _ _ p4⟩,h.ne,fun b hb=>mI o hl (h.hex b hb)⟩
theorem Bf.Fn {K:Frag}{ys:Ys}{H H2:Hp}{a:YA}{s:YS}(h:Bf K ys H a s){vs:List V}(hv:H a.le=some (.lst vs))(o:AA [a.le] H H2){k:Nat}{x dx wa:Addr}(hl:H2 a.le=some (.lst (vs.set k (.ref x)))){t:cI}
  (hx:H2 x=some (.ins ys.Ar dx (qf t wa))) (hw:H2 wa=some (.lst (nV t.way))) (np:H wa=none):Bf K ys H2 a { s with Am:=s.Am.set k t }:=by
 obtain⟨h1,h2,f1,f2,f3,f4⟩:=Av.off h (o.mono (by simp))
 obtain⟨v1,a1,p1⟩:=h.BD
 obtain⟨v2,a2,p2⟩:=h.hle
 obtain⟨v3,a3,p3⟩:=h.Cu
 obtain⟨v4,a4,p4⟩:=h.Cd
 rw[hv]at a2
 cases a2
 have ne:=h.ne
 simp only[nodup_cons,mem_cons,not_mem_nil,or_false,not_or,not_false_eq_true,and_true,nodup_nil]at ne
 exact⟨h1,h2,⟨v1,o _ _ (by simp;exact ne.1.1) a1,f1 _ _ p1⟩,⟨_,hl,Paired.set ⟨x,dx,wa,rfl,hx,hw,ld h np⟩ k (f2 _ _ p2)⟩,⟨v3,o _ _ (by simp;exact Ne.symm ne.2.1.1) a3,f3 _ _ p3⟩,⟨v4,o _ _ (by simp;exact Ne.symm ne.2.1.2) a4,f4 _ _ p4⟩,h.ne,fun b hb=>mI o hl (h.hex b hb)⟩
theorem Bf.IT {K:Frag}{ys:Ys}{H H2:Hp}{a:YA}{s:YS}(h:Bf K ys H a s){vs:List V}(hv:H a.li=some (.lst vs))(o:AA [a.li] H H2){k:Nat}{v:V}(hl:H2 a.li=some (.lst (vs.set k v))){qs:List (Int × Int)}
  (L:BI H2 v qs):Bf K ys H2 a { s with lies:=s.lies.set k qs }:=by
 obtain⟨h1,h2,f1,f2,f3,f4⟩:=Av.off h (o.mono (by simp))
 obtain⟨v1,a1,p1⟩:=h.BD
 obtain⟨v2,a2,p2⟩:=h.hle
 obtain⟨v3,a3,p3⟩:=h.Cu
 obtain⟨v4,a4,p4⟩:=h.Cd
 rw[hv]at a3
 cases a3
 have ne:=h.ne
 simp only[nodup_cons,mem_cons,not_mem_nil,or_false,not_or,not_false_eq_true,and_true,nodup_nil]at ne
 exact⟨h1,h2,⟨v1,o _ _ (by simp;exact ne.1.2.1) a1,f1 _ _ p1⟩,⟨v2,o _ _ (by simp;exact ne.2.1.1) a2,f2 _ _ p2⟩,⟨_,hl,Paired.set L k (f3 _ _ p3)⟩,⟨v4,o _ _ (by simp;exact Ne.symm ne.2.2) a4,f4 _ _ p4⟩,h.ne,fun b hb=>mI o hl (h.hex b hb)⟩
noncomputable def tS (K:Frag)(ys:Ys):Sp:=fun vs H Q _=>∃ (a:YA)(s:YS)(k:Nat)(ln:cW)(AB:List V),vs=[.ref a.y, .int k]/\Bf K ys H a s/\s.lanes[k]? = some ln/\H a.la=some (.lst AB) /\
 ∀ (x dx pa:Addr)(AJ:List V)(H':Hp),AA [a.la] H H'->H x=none->H pa=none->H' a.la=some (.lst (AB.set k (.ref x)))->AK H' ys.AI x dx pa ln.r ln.b ln.h AJ ln.qs->Q (.ref x) H'
noncomputable def tR (K:Frag)(ys:Ys):Sp:=fun vs H Q _=>∃ (a:YA)(s:YS)(k:Nat)(t:cI)(Az:List V),vs=[.ref a.y, .int k]/\Bf K ys H a s/\s.Am[k]? = some t/\H a.le=some (.lst Az) /\
 ∀ (x dx wa:Addr)(H':Hp),AA [a.le] H H'->H x=none->H wa=none->H' a.le=some (.lst (Az.set k (.ref x)))->H' x=some (.ins ys.Ar dx (qf t wa))->H' wa=some (.lst (nV t.way))->Q (.ref x) H'
noncomputable def yc (K:Frag)(ys:Ys):Sp:=fun vs H Q _=>∃ (a:YA)(s:YS)(v:V)(q:Int × Int)(p:Nat)(qs:List (Int × Int)),vs=[.ref a.y,v, .int p]/\Bf K ys H a s/\wb H v q/\s.lies[p]? = some qs/\qs.length <= 100000 /\
 ∀ H',AA [a.li] H H'->Bf K ys H' a { s with lies:=s.lies.set p (qs ++ [q]) }->Q .AG H'
noncomputable def qK (K:Frag)(ys:Ys):Sp:=fun vs H Q _=>∃ (a:YA)(s:YS)(p:Nat)(qs:List (Int × Int)),vs=[.ref a.y, .int p]/\Bf K ys H a s/\s.lies[p]? = some qs /\
 ∀ (D:Addr)(AJ:List V)(H':Hp),An H H'->H D=none->H' D=some (.lst AJ)->AN H' AJ qs->Q (.ref D) H'
theorem yE:ao ["self", "lane"] ["self", "lane"] (af uq):=L2.AQ
theorem wY {ys:Ys}{f ft:Addr}{fd dt:FuncData}(F:AM K "own_lane" "Yard.own_lane" uq f fd)(Y:gS K ys)(mt:bB K ys.AI "twin" ft)(bt:Binds K dt ["self"] [])(Gt:Ao P w K mg base aA 3 ft dt ["self"] (ya ys.AI)) :
  Ao P w K mg base aA 4 f fd ["self", "lane"] (tS K ys):=by
 refine F.ok yE (fun _ _ _ _ h=>?_) (fun _ _ _ s H _ Q E hr h=>?_)
 ·obtain⟨a,s,k,ln,AB,rfl,_⟩:=h
  rfl
 ·obtain⟨a,st,k,ln,AB,rfl,hY,hk,Bs,q⟩:=h
  refine⟨_,ae (jM (bu (ax aJ (am (pv 0) rfl) (pv 1) (fun _ _=>rfl)) Y.L.cl mt Gt hr bt .nil al) (pK (am (pv 0) rfl) (pv 1) j9))
   (ah (aq (ax aJ (am (pv 0) rfl) (pv 1) (fun _ _=>rfl)))),?_⟩
  obtain⟨lvs',Mf,pl⟩:=hY.BD
  rw[Bs]at Mf
  cases Mf
  obtain⟨v,hv,x,dx,pa,AJ,rfl,hL,_⟩:=Paired.at2 pl hk
  have C3:k < AB.length:=(gQ0 hv)
  refine⟨_,rfl,a.y,ys.Aq,a.dy,_,_,rfl,hY.ins,Y.cl,Y.n3,rfl,_,rfl,a.la,AB,(k:Int),_,rfl,rfl,Ap.of Bs,ak hv,x,dx,_,rfl,hL.ins,rfl,?_⟩
  refine⟨x,dx,pa,ln.r,ln.b,ln.h,AJ,ln.qs,rfl,hL,fun x' Ef EI H1 s1 nx GB FJ=>?_⟩
  refine⟨_,rfl,a.y,ys.Aq,a.dy,_,_,rfl,s1 _ _ hY.ins,Y.cl,Y.n3,rfl,_,rfl,a.la,AB,(k:Int),k,rfl,rfl,s1 _ _ Bs,jn C3,?_⟩
  have o1:AA [a.la] H (upd H1 a.la (.lst (AB.set k (.ref x')))):=(An.AW s1).trans (cT (by simp))
  have g1:(upd H1 a.la (.lst (AB.set k (.ref x')))) a.la=some (.lst (AB.set k (.ref x'))):=ac
  have CC:AK (upd H1 a.la (.lst (AB.set k (.ref x')))) ys.AI x' Ef EI ln.r ln.b ln.h AJ ln.qs:=by
   have n1:x' ≠ a.la:=bz FJ.ins (s1 _ _ Bs) (by intro z;cases z)
   have n2:EI ≠ a.la:=fun z=>by rw[z,Bs]at GB;cases GB
   exact⟨by rw[ai n1];exact FJ.ins,by rw[ai n2];exact FJ.lst,AN.AW (ex:=[a.la]) (fun b hb=>by simp at hb;subst hb;exact⟨_,s1 _ _ Bs⟩) (cT (by simp)) FJ.B4⟩
  generalize upd H1 a.la (.lst (AB.set k (.ref x')))=H2 at o1 g1 CC ⊢
  have R0:H2 a.y=some (.ins ys.Aq a.dy (OJ a.tb a.ro a.la a.le a.li a.dn)):=o1 _ _ (by simp;exact bz hY.ins Bs (by intro z;cases z)) hY.ins
  exact⟨_,rfl,a.y,ys.Aq,a.dy,_,_,rfl,R0,Y.cl,Y.n3,rfl,_,rfl,a.la,_,(k:Int), .ref x',rfl,rfl,Ap.of g1,ak (by simp[C3]),q x' Ef EI AJ H2 o1 nx GB g1 CC⟩
theorem yD:ao ["self", "number"] ["self", "number"] (af up):=L2.AQ
theorem wX {ys:Ys}{f ft:Addr}{fd dt:FuncData}(F:AM K "own_letter" "Yard.own_letter" up f fd)(Y:gS K ys)(mt:bB K ys.Ar "twin" ft)(bt:Binds K dt ["self"] [])(Gt:Ao P w K mg base aA 3 ft dt ["self"] (xZ ys.Ar)) :
  Ao P w K mg base aA 4 f fd ["self", "number"] (tR K ys):=by
 refine F.ok yD (fun _ _ _ _ h=>?_) (fun _ _ _ s H _ Q E hr h=>?_)
 ·obtain⟨a,s,k,ln,AB,rfl,_⟩:=h
  rfl
 ·obtain⟨a,st,k,t,Az,rfl,hY,hk,Bz,q⟩:=h
  refine⟨_,ae (jM (bu (ax aJ (am (pv 0) rfl) (pv 1) (fun _ _=>rfl)) Y.ct mt Gt hr bt .nil al) (pK (am (pv 0) rfl) (pv 1) j9))
   (ah (aq (ax aJ (am (pv 0) rfl) (pv 1) (fun _ _=>rfl)))),?_⟩
  obtain⟨CV,Mg,pl⟩:=hY.hle
  rw[Bz]at Mg
  cases Mg
  obtain⟨v,hv,x,dx,wa,rfl,hx,hw,_⟩:=Paired.at2 pl hk
  have C3:k < Az.length:=(gQ0 hv)
  refine⟨_,rfl,a.y,ys.Aq,a.dy,_,_,rfl,hY.ins,Y.cl,Y.n4,rfl,_,rfl,a.le,Az,(k:Int),_,rfl,rfl,Ap.of Bz,ak hv,x,dx,_,rfl,hx,rfl,?_⟩
  refine⟨x,dx,wa,t,rfl,hx,hw,fun x' Ef Em H1 s1 nx GB BU EJ=>?_⟩
  refine⟨_,rfl,a.y,ys.Aq,a.dy,_,_,rfl,s1 _ _ hY.ins,Y.cl,Y.n4,rfl,_,rfl,a.le,Az,(k:Int),k,rfl,rfl,s1 _ _ Bz,jn C3,?_⟩
  have o1:AA [a.le] H (upd H1 a.le (.lst (Az.set k (.ref x')))):=(An.AW s1).trans (cT (by simp))
  have g1:(upd H1 a.le (.lst (Az.set k (.ref x')))) a.le=some (.lst (Az.set k (.ref x'))):=ac
  have n1:x' ≠ a.le:=bz BU (s1 _ _ Bz) (by intro z;cases z)
  have n2:Em ≠ a.le:=fun z=>by rw[z,Bz]at GB;cases GB
  have FG:(upd H1 a.le (.lst (Az.set k (.ref x')))) x' = some (.ins ys.Ar Ef (qf t Em)):=by rw[ai n1];exact BU
  have LX:(upd H1 a.le (.lst (Az.set k (.ref x')))) Em = some (.lst (nV t.way)):=by rw[ai n2];exact EJ
  generalize upd H1 a.le (.lst (Az.set k (.ref x')))=H2 at o1 g1 FG LX ⊢
  have R0:H2 a.y=some (.ins ys.Aq a.dy (OJ a.tb a.ro a.la a.le a.li a.dn)):=o1 _ _ (by simp;exact bz hY.ins Bz (by intro z;cases z)) hY.ins
  exact⟨_,rfl,a.y,ys.Aq,a.dy,_,_,rfl,R0,Y.cl,Y.n4,rfl,_,rfl,a.le,_,(k:Int), .ref x',rfl,rfl,Ap.of g1,ak (by simp[C3]),q x' Ef Em H2 o1 nx GB g1 FG LX⟩
theorem Mj:ao ["self", "piece", "place"] ["self", "piece", "place"] (af yP):=L2.AQ
theorem zy {ys:Ys}{f:Addr}{fd:FuncData}(F:AM K "lay" "Yard.lay" yP f fd)(Y:gS K ys):Ao P w K mg base aA 1 f fd ["self", "piece", "place"] (yc K ys):=by
 refine F.ok Mj (fun _ _ _ _ h=>?_) (fun _ _ _ s H _ Q E hr h=>?_)
 ·obtain⟨a,s,v,q,p,qs,rfl,_⟩:=h
  rfl
 ·obtain⟨a,st,v,qp,p,qs,rfl,hY,hv,hp,hlen,q⟩:=h
  refine⟨_,ah (jM (aB wN (ax aJ (am (pv 0) rfl) (pv 2) (fun _ _=>rfl)) (bI (aa (pv 1) ad))) (pK (am (pv 0) rfl) (pv 2) j9)),?_⟩
  obtain⟨AB,Fo,pl⟩:=hY.Cu
  obtain⟨v0,ON,t0,Fp,rfl,HQ,Mm⟩:=Paired.at2 pl hp
  have C3:p < AB.length:=(gQ0 ON)
  have JR:Fp.length=qs.length:=Paired.length Mm
  refine⟨_,rfl,a.y,ys.Aq,a.dy,_,_,rfl,hY.ins,Y.cl,Y.n5,rfl,_,rfl,a.li,AB,(p:Int),_,rfl,rfl,Ap.of Fo,ak ON,_,rfl,by show 1 <= sizeLine;decide,fun t ht=>?_⟩
  have s1:=(An.refl H).new (o := .tup [v]) ht
  have g1:(upd H t (.tup [v])) t=some (.tup [v]):=ac
  generalize upd H t (.tup [v])=H1 at s1 g1 ⊢
  have fin:∀ (z:Addr)(H2:Hp),An H H2->BI H2 (.ref z) (qs ++ [qp])->Q .AG (upd H2 a.li (.lst (AB.set p (.ref z)))):=fun z H2 s2 hz=>by
   have o2:AA [a.li] H (upd H2 a.li (.lst (AB.set p (.ref z)))):=(An.AW s2).trans (cT (by simp))
   refine q _ o2 (Bf.IT hY Fo o2 ac ?_)
   obtain⟨tz,vz,ez,Wb,hz2⟩:=hz
   cases ez
   have nz:z ≠ a.li:=bz Wb (s2 _ _ Fo) (by intro y;cases y)
   exact⟨z,vz,rfl,by rw[ai nz];exact Wb,AN.AW (ex:=[a.li]) (fun b hb=>by simp at hb;subst hb;exact⟨_,s2 _ _ Fo⟩) (cT (by simp)) hz2⟩
  refine⟨t0,t,Fp,[v],rfl,rfl,Ay.of (s1 _ _ HQ),Ay.of g1,by simp,by rw[sizeLine_eq];simp;omega,fun e0=>?_,fun e0 p2 JT=>?_⟩
  ·subst e0
   cases Mm
   refine⟨_,rfl,a.y,ys.Aq,a.dy,_,_,rfl,s1 _ _ hY.ins,Y.cl,Y.n5,rfl,_,rfl,a.li,AB,(p:Int),p,rfl,rfl,s1 _ _ Fo,jn C3,?_⟩
   exact fin t H1 s1 ⟨t,[v],rfl,g1, .cons (let ⟨u,e,hu⟩:=hv; ⟨u,e,s1 _ _ hu⟩) .nil⟩
  ·have s2:=s1.new (o := .tup (Fp ++ [v])) JT
   have g2:(upd H1 p2 (.tup (Fp ++ [v]))) p2=some (.tup (Fp ++ [v])):=ac
   generalize upd H1 p2 (.tup (Fp ++ [v]))=H2 at s2 g2 ⊢
   refine⟨_,rfl,a.y,ys.Aq,a.dy,_,_,rfl,s2 _ _ hY.ins,Y.cl,Y.n5,rfl,_,rfl,a.li,AB,(p:Int),p,rfl,rfl,s2 _ _ Fo,jn C3,?_⟩
   exact fin p2 H2 s2 ⟨p2,_,rfl,g2,AN.snoc (let ⟨u,e,hu⟩:=hv; ⟨u,e,s2 _ _ hu⟩) (AN.same s2 Mm)⟩
theorem Mn:ao ["self", "place"] ["self", "place"] (af pB):=L2.AQ
theorem uQ {ys:Ys}{f:Addr}{fd:FuncData}(F:AM K "lying" "Yard.lying" pB f fd)(T:Txt mg)(Y:gS K ys):Ao P w K mg base aA 1 f fd ["self", "place"] (qK K ys):=by
 refine F.ok Mn (fun _ _ _ _ h=>?_) (fun _ _ _ s H _ Q E hr h=>?_)
 ·obtain⟨a,s,p,qs,rfl,_⟩:=h
  rfl
 ·obtain⟨a,st,p,qs,rfl,hY,hp,q⟩:=h
  refine⟨_,ah (aq (aY bL rfl T.list PySem.Pv.boot_list (aa (ax aJ (am (pv 0) rfl) (pv 1) (fun _ _=>rfl)) ad))),?_⟩
  obtain⟨AB,Fo,pl⟩:=hY.Cu
  obtain⟨v0,ON,t0,Fp,rfl,HQ,Mm⟩:=Paired.at2 pl hp
  refine⟨_,rfl,a.y,ys.Aq,a.dy,_,_,rfl,hY.ins,Y.cl,Y.n5,rfl,_,rfl,a.li,AB,(p:Int),_,rfl,rfl,Ap.of Fo,ak ON,t0,_,rfl, .inr (Ay.of HQ),fun D hD=>?_⟩
  have s1:=(An.refl H).new (o := .lst Fp) hD
  exact q D Fp _ s1 hD ac (AN.same s1 Mm)
noncomputable def jX (ln:cW)(m c len:Int):cW:={ ln with r:=ln.r - 1,h:=if decide (c=len - 1)=true then none else some m,qs:=ln.qs ++ [(m,c)] }
noncomputable def e9 (s:YS)(m:Nat)(c:Int)(l:Nat)(t:cI)(ln:cW):YS:={ s with Am:=if c=0 then s.Am.set m { t with way:=t.way ++ [l] } else s.Am,lanes:=s.lanes.set l (jX ln m c t.len) }
noncomputable def lO (K:Frag)(ys:Ys):Sp:=fun vs H Q _=>∃ (a:YA)(s:YS)(v:V)(m:Nat)(c:Int)(l:Nat)(t:cI)(ln:cW),vs=[.ref a.y,v, .int l]/\Bf K ys H a s/\wb H v ((m:Int),c)/\s.Am[m]? = some t/\s.lanes[l]? = some ln/\cN ln.r ln.h m c=true/\t.way.length <= 1000/\ln.qs.length < 100000 /\
 ∀ H',AA [a.la,a.le] H H'->Bf K ys H' a (e9 s m c l t ln)->Q .AG H'
noncomputable def oa (s:YS)(m:Nat)(t:cI):YS:={ s with Am:=s.Am.set m { t with gone:=t.gone + 1 } }
noncomputable def ua (K:Frag)(ys:Ys):Sp:=fun vs H Q _=>∃ (a:YA)(s:YS)(m l:Nat)(t:cI)(ln:cW),vs=[.ref a.y, .int m, .int l]/\Bf K ys H a s/\s.Am[m]? = some t/\s.lanes[l]? = some ln/\cN ln.r ln.h m t.gone=true/\t.way.length <= 1000/\ln.qs.length < 100000 /\
 ∀ H',AA [a.la,a.le] H H'->Bf K ys H' a (e9 (oa s m t) m t.gone l { t with gone:=t.gone + 1 } ln)->Q .AG H'
structure Own (P:Program)(w:World)(K:Frag)(mg:Str->Option Value)(base:Heap)(ys:Ys)(fl ft fp:Addr)(dl dt dp:FuncData):Prop where
 ml:bB K ys.Aq "own_lane" fl
 bl:Binds K dl ["self", "lane"] []
 Gl:Ao P w K mg base aA 4 fl dl ["self", "lane"] (tS K ys)
 mt:bB K ys.Aq "own_letter" ft
 bt:Binds K dt ["self", "number"] []
 Gt:Ao P w K mg base aA 4 ft dt ["self", "number"] (tR K ys)
 mp:bB K ys.AI "put" fp
 bp:Binds K dp ["self", "letter", "count", "last"] []
 Gp:Ao P w K mg base aA 2 fp dp ["self", "letter", "count", "last"] (xV ys.AI)
abbrev Wc:List Str:=["self", "piece", "lane", "last"]
abbrev NGi:List Str:=["self", "number", "lane", "letter"]
theorem Mo:ao Wc ["self", "piece", "lane"] (af pH):=L2.AQ
theorem uW {ys:Ys}{f fl ft fp:Addr}{fd dl dt dp:FuncData}(F:AM K "enter" "Yard.enter" pH f fd)(Y:gS K ys)(O:Own P w K mg base ys fl ft fp dl dt dp) :
  Ao P w K mg base aA 5 f fd ["self", "piece", "lane"] (lO K ys):=by
 refine F.ok Mo (fun _ _ _ _ h=>?_) (fun _ _ _ s H _ Q E hr h=>?_)
 ·obtain⟨a,s,v,m,c,l,t,ln,rfl,_⟩:=h
  rfl
 ·obtain⟨a,st,v,m,c,l,t,ln,rfl,hY,⟨pt,rfl,DW⟩,hm,hl,K8,Eh,Hw,q⟩:=h
  have Bu:Ax 2 _:=hr.mono (by decide)
  refine⟨_,ae (jj (aP (au bj (ax aF (pv 1) ag (fun _ _=>rfl)) ag (aw _))
    (ah (aN (bJ plainAttrs_list PySem.F.slot_list_append PySem.F.type_list_append bG (am (aH (pv 0) Y.cl O.mt O.Gt hr O.bt .nil al (aa (ax aF (pv 1) ag (fun _ _=>rfl)) ad)) rfl) (aa (pv 2) ad)))) aD))
   (ae (aC (i:=3) Mo.nd rfl (Or.inl rfl) (cj bj (ax aF (pv 1) ag (fun _ _=>rfl)) (aB e6 (am (ax aJ (am (pv 0) rfl) (ax aF (pv 1) ag (fun _ _=>rfl)) (fun _ _=>rfl)) rfl) ag) (aw _)))
   (ah (aN (aH (aH (pv 0) Y.cl O.ml O.Gl hr O.bl .nil al (aa (pv 2) ad)) Y.L.cl O.mp O.Gp Bu O.bp .nil al (aa (ax aF (pv 1) ag (fun _ _=>rfl)) (aa (ax aF (pv 1) ag (fun _ _=>rfl)) (aa (pv 3) ad))))))),?_⟩
  refine⟨fun σ' H'=>σ' = start Wc [.ref a.y, .ref pt, .int l]/\AA [a.le] H H'/\∃ t1:cI,t1.len=t.len/\Bf K ys H' a { st with Am:=if c=0 then st.Am.set m { t with way:=t.way ++ [l] } else st.Am }/\(if c=0 then st.Am.set m { t with way:=t.way ++ [l] } else st.Am)[m]? = some t1,?_,?_⟩
  ·refine⟨_,rfl,pt,_,1,_,rfl,rfl,Ay.of DW,ak (j:=1) rfl,rfl,_,rfl,?_⟩
   rw[bU]
   by_cases hc:c=0
   ·rw[decide_eq_true hc]
    obtain⟨Az,Bz,pl⟩:=hY.hle
    refine aL ⟨_,rfl,a.y,a.dy,_,rfl,hY.ins,rfl,_,rfl,pt,_,0,_,rfl,rfl,Ay.of DW,ak (j:=0) rfl,a,st,m,t,Az,rfl,hY,hm,Bz,fun x dx wa H1 o1 nx nw g1 BU EJ=>?_⟩
    refine⟨x,ys.Ar,dx,_,_,rfl,BU,Y.ct,Y.t6,rfl, .inl ⟨rfl,_,Ap.of EJ⟩,_,rfl,wa,_,_,rfl,rfl,EJ,by rw[du,sizeLine_eq];omega,?_⟩
    have nxw:x ≠ wa:=bz BU EJ (by intro z;cases z)
    have nlw:a.le ≠ wa:=aj Bz nw
    have o2:AA [a.le] H (upd H1 wa (.lst (nV t.way ++ [.int l]))):=fun b o nb e=>by rw[ai (aj e nw)];exact o1 b o nb e
    have D7:=Bf.Fn hY Bz o2 (k:=m) (x:=x) (dx:=dx) (wa:=wa) (by rw[ai nlw];exact g1) (t:={ t with way:=t.way ++ [l] }) (by rw[ai nxw];exact BU) (by rw[ac,vi];rfl) nw
    have FK:m < st.Am.length:=(gQ0 hm)
    refine⟨rfl,o2,{ t with way:=t.way ++ [l] },rfl,?_,?_⟩
    ·rw[if_pos hc];exact D7
    ·rw[if_pos hc];simp[FK]
   ·rw[decide_eq_false hc]
    refine aE ⟨rfl,An.AW (An.refl H),t,rfl,?_,?_⟩
    ·rw[if_neg hc];exact hY
    ·rw[if_neg hc];exact hm
  ·rintro σ' H1 ⟨rfl,o1,t1,hlen,BO,JU⟩
   have GH:H1 pt=some (.tup [.int m, .int c]):=by
    obtain⟨Az,Bz,_⟩:=hY.hle
    exact o1 _ _ (by simp;exact bz DW Bz (by intro z;cases z)) DW
   obtain⟨R1,R3,R4⟩:=BO.hle
   obtain⟨v1,hv1,x1,dx1,wa1,rfl,BU,_⟩:=Paired.at2 R4 JU
   refine⟨_,rfl,pt,_,1,_,rfl,rfl,Ay.of GH,ak (j:=1) rfl,_,rfl,a.y,ys.Aq,a.dy,_,_,rfl,BO.ins,Y.cl,Y.n4,rfl,_,rfl,pt,_,0,_,rfl,rfl,Ay.of GH,ak (j:=0) rfl,a.le,R1,(m:Int),_,rfl,rfl,Ap.of R3,ak hv1,x1,ys.Ar,dx1,_,_,rfl,BU,Y.ct,Y.t3,rfl,_,_,rfl,rfl,rfl,?_⟩
   obtain⟨AB,Bs,EK⟩:=BO.BD
   refine⟨_,rfl,a.y,a.dy,_,rfl,BO.ins,rfl,_,rfl,a,_,l,ln,AB,rfl,BO,hl,Bs,fun x dx pa AJ H2 o2 nx np g2 CC=>?_⟩
   have Fq:H2 pt=some (.tup [.int m, .int c]):=o2 _ _ (by simp;exact bz GH Bs (by intro z;cases z)) GH
   have Be:AJ.length=ln.qs.length:=Paired.length CC.B4
   refine⟨x,dx,_,rfl,CC.ins,rfl,_,rfl,pt,_,0,_,rfl,rfl,Ay.of Fq,ak (j:=0) rfl,_,rfl,pt,_,1,_,rfl,rfl,Ay.of Fq,ak (j:=1) rfl,_,rfl,x,dx,pa,ln.r,ln.b,ln.h,AJ,ln.qs,(m:Int),c,decide (c=t.len - 1),?_,CC,by omega,(fun ho=>by rw[K8]at ho;cases ho),fun _ t3 H3 o3 Fc=>?_⟩
   ·rw[bU,hlen];rfl
   have nxl:a.la ≠ x:=aj Bs nx
   have npl:a.la ≠ pa:=aj Bs np
   have o4:AA [a.la] H1 H3:=fun b o nb e=>o3 b o (aj e nx) (aj e np) (o2 b o nb e)
   have CB:=Bf.CW BO Bs o4 (k:=l) (x:=x) (dx:=dx) (pa:=pa) (o3 _ _ nxl npl g2) (ln:=jX ln m c t.len) Fc np
   exact q H3 ((o1.mono (by simp)).trans (o4.mono (by simp))) CB
theorem Mp:ao NGi ["self", "number", "lane"] (af u4):=L2.AQ
theorem xm {ys:Ys}{f fl ft fp fe:Addr}{fd dl dt dp de:FuncData}(F:AM K "go_in" "Yard.go_in" u4 f fd)(Y:gS K ys)(O:Own P w K mg base ys fl ft fp dl dt dp)(me:bB K ys.Aq "enter" fe)(be:Binds K de ["self", "piece", "lane"] [])(Ge:Ao P w K mg base aA 5 fe de ["self", "piece", "lane"] (lO K ys)) :
  Ao P w K mg base aA 6 f fd ["self", "number", "lane"] (ua K ys):=by
 refine F.ok Mp (fun _ _ _ _ h=>?_) (fun _ _ _ s H _ Q E hr h=>?_)
 ·obtain⟨a,s,m,l,t,ln,rfl,_⟩:=h
  rfl
 ·obtain⟨a,st,m,l,t,ln,rfl,hY,hm,hl,K8,Eh,Hw,q⟩:=h
  have D3:Ax 4 _:=hr.mono (by decide)
  refine⟨_,ae (aC (i:=3) Mp.nd rfl (Or.inl rfl) (aH (pv 0) Y.cl O.mt O.Gt D3 O.bt .nil al (aa (pv 1) ad)))
   (ae (eH (pv 3) ag mE)
   (ah (aN (aH (pv 0) Y.cl me Ge hr be .nil al (aa (bI (aa (pv 1) (aa (aB e6 (am (pv 3) rfl) ag) ad))) (aa (pv 2) ad)))))),?_⟩
  obtain⟨Az,Bz,pl⟩:=hY.hle
  refine⟨_,rfl,a.y,a.dy,_,rfl,hY.ins,rfl,_,rfl,a,st,m,t,Az,rfl,hY,hm,Bz,fun x dx wa H1 o1 nx nw g1 BU EJ=>?_⟩
  refine⟨_,rfl,x,ys.Ar,dx,_,_,rfl,BU,Y.ct,Y.t5,rfl,_,_,rfl,rfl,dx,_,BU,by show 6 < 1000;decide,?_⟩
  have nlx:a.le ≠ x:=aj Bz nx
  have GA:wa ≠ x:=bz EJ BU (by intro z;cases z)
  have o2:AA [a.le] H (upd H1 x (.ins ys.Ar dx (aQ "gone" (.int (t.gone + 1)) (qf t wa)))):=fun b o nb e=>by rw[ai (aj e nx)];exact o1 b o nb e
  have FG:(upd H1 x (.ins ys.Ar dx (aQ "gone" (.int (t.gone + 1)) (qf t wa)))) x=some (.ins ys.Ar dx (qf { t with gone:=t.gone + 1 } wa)):=ac
  have D7:=Bf.Fn hY Bz o2 (k:=m) (x:=x) (dx:=dx) (wa:=wa) (by rw[ai nlx];exact g1) (t:={ t with gone:=t.gone + 1 }) FG (by rw[ai GA];exact EJ) nw
  show _
  generalize upd H1 x (.ins ys.Ar dx (aQ "gone" (.int (t.gone + 1)) (qf t wa)))=H2 at o2 FG D7 ⊢
  refine⟨_,rfl,a.y,a.dy,_,rfl,D7.ins,rfl,_,rfl,_,rfl,x,ys.Ar,dx,_,_,rfl,FG,Y.ct,Y.t5,rfl,_,_,rfl,rfl,by show 2 <= sizeLine;decide,fun pt DW=>?_⟩
  have eg:t.gone + 1 - 1=t.gone:=by omega
  have s3:=(An.refl H2).new (o := .tup [.int m, .int t.gone]) DW
  have g3:(upd H2 pt (.tup [.int m, .int t.gone])) pt=some (.tup [.int m, .int t.gone]):=ac
  dsimp only
  rw[eg]
  generalize upd H2 pt (.tup [.int m, .int t.gone])=H3 at s3 g3 ⊢
  have FK:m < st.Am.length:=(gQ0 hm)
  refine⟨_,rfl,a,oa st m t,_,m,t.gone,l,{ t with gone:=t.gone + 1 },ln,rfl,Av.same D7 s3,⟨pt,rfl,g3⟩,by unfold oa;simp[FK],hl,K8,Eh,Hw,fun H' o' GI=>?_⟩
  exact q H' ((o2.mono (by simp)).trans ((An.AW s3).trans o')) GI
theorem zY (us:List Nat)(i:Nat):eA (nV us) none (some (i:Int))=nV (us.take i):=by
 unfold eA
 have e0:HT.BK (nV us).length 0 none=0:=rfl
 rw[e0,show HT.BK (nV us).length (nV us).length (some (i:Int))=min i (nV us).length from HT.BN _ _ i,drop_zero,Nat.sub_zero]
 unfold nV
 rw[map_take,length_map]
 refine List.ext_getElem? fun j=>?_
 simp only[List.getElem?_take,getElem?_map]
 by_cases h1:j < i
 ·by_cases h2:j < us.length
  ·rw[if_pos (by omega),if_pos h1]
  ·rw[if_neg (by omega),if_pos h1,List.getElem?_eq_none (by omega)];rfl
 ·rw[if_neg (by omega),if_neg h1]
theorem xE (us:List Nat)(i:Nat):eA (nV us) (some (i:Int)) (some ((i:Int) + 1))=nV ((us.drop i).take 1):=by
 unfold eA
 rw[show HT.BK (nV us).length 0 (some (i:Int))=min i (nV us).length from HT.BN _ _ i,show((i:Int) + 1)=((i + 1:Nat):Int) by omega,show HT.BK (nV us).length (nV us).length (some ((i + 1:Nat):Int))=min (i + 1) (nV us).length from HT.BN _ _ (i + 1),du]
 by_cases h:i < us.length
 ·rw[min_eq_left (by omega),min_eq_left (by omega),show i + 1 - i=1 by omega]
  unfold nV
  rw[map_take,List.map_drop]
 ·rw[min_eq_right (by omega),min_eq_right (by omega),Nat.sub_self,List.take_zero,drop_eq_nil_of_le (by omega)];rfl
theorem vg (us:List Nat):nV us=(iz us).map V.int:=(zN us).symm
theorem v8 (k:Nat):∀ us:List Nat,(iz us).idxOf (k:Int)=us.idxOf k
 | []=>rfl
 | u :: us=>by
  have ih:=v8 k us
  unfold iz at ih ⊢
  rw[map_cons,List.idxOf_cons,List.idxOf_cons,ih]
  by_cases h:u=k
  ·subst h;simp
  ·have h':((u:Int) == (k:Int))=false:=by simp;omega
   have h2:(u == k)=false:=by simp;exact h
   rw[h',h2]
inductive Mv
 | Bx (k l:Nat) | on (k l:Nat) | Ca (k:Nat) | back (k:Nat)
noncomputable def eI:Mv->List V
 | .Bx k l=>[.str "in", .int k, .int l]
 | .on k l=>[.str "on", .int k, .int l]
 | .Ca k=>[.str "lie", .int k]
 | .back k=>[.str "back", .int k]
noncomputable def gn (s:YS)(l:Nat)(m c:Int):Bool:=match s.lanes[l]? with
 | some ln=>cN ln.r ln.h m c
 | none=>false
noncomputable def cr (s:YS)(k:Nat):Option (Int × Int):=match s.lanes[k]? with
 | some ln=>ln.qs.head?
 | none=>none
noncomputable def tu (a:YA)(l g:Nat):List Nat:=if (a.ps.getD l (0,0)).2=(g:Int) then [] else a.wy (a.ps.getD l (0,0)).2.toNat g (some l)
noncomputable def dR (a:YA)(s:YS)(k:Nat):List Nat:=match cr s k with
 | none=>[]
 | some q=>match s.Am[q.1.toNat]? with
  | none=>[]
  | some t=>if q.2=0 then (tu a k t.goal.toNat).filter fun l=>!decide (l ∈ t.way) else (t.way.drop (t.way.idxOf k + 1)).take 1
noncomputable def dO (a:YA)(t:cI):List Nat:=if t.gone=0 then a.wy t.start.toNat t.goal.toNat none else t.way.take 1
noncomputable def iI (a:YA)(s:YS)(k:Nat):List Mv:=match s.Am[k]? with
 | none=>[]
 | some t=>if t.gone=t.len then [] else ((dO a t).filter fun l=>gn s l k t.gone).map (Mv.Bx k)
noncomputable def ja (a:YA)(s:YS)(k:Nat):List Mv:=match cr s k with
 | none=>[]
 | some q=>((dR a s k).filter fun l=>gn s l q.1 q.2).map (Mv.on k)
noncomputable def fL (a:YA)(s:YS)(k:Nat):List Mv:=match cr s k with
 | none=>[]
 | some q=>match s.Am[q.1.toNat]? with
  | none=>[]
  | some t=>if t.goal=(a.ps.getD k (0,0)).2 then [.Ca k] else []
noncomputable def e7 (s:YS)(k:Nat):List Mv:=match s.lanes[k]? with
 | some ln=>if 0 < ln.b then [.back k] else []
 | none=>[]
structure JV (a:YA):Prop where
 ends:∀ (l:Nat)(pr:Int × Int),a.ps[l]? = some pr->∃ e:Nat,pr.2=(e:Int)/\e < a.n
 Ba:∀ p g k,(a.wy p g k).length <= 400
structure R5 (a:YA)(s:YS):Prop where
 lanes:s.lanes.length=a.ps.length
 lies:s.lies.length=a.n
 lets:∀ (m:Nat)(t:cI),s.Am[m]? = some t->∃ x y:Nat,t.start=(x:Int)/\t.goal=(y:Int)/\x < a.n/\y < a.n
 B6:∀ (m:Nat)(t:cI),s.Am[m]? = some t->(∀ l ∈ t.way,l < a.ps.length)/\t.way.length <= 1000
 B4:∀ (k:Nat)(ln:cW),s.lanes[k]? = some ln->∀ q ∈ ln.qs,∃ (m:Nat)(t:cI),q.1=(m:Int)/\s.Am[m]? = some t/\k ∈ t.way
 Ba:s.Am.length <= 60
structure C4 (K:Frag)(c:Cs)(TC:Addr)(J:TJ)(ys:Ys)(H:Hp)(a:YA)(s:YS):Prop where
 Y:Bf K ys H a s
 T:Rz c TC J H a
 O:JV a
 G:R5 a s
theorem C4.same {K:Frag}{c:Cs}{TC fw:Addr}{dw:FuncData}{J:TJ}{ys:Ys}{H H':Hp}{a:YA}{s:YS}(W:Wy K TC fw dw J)(h:C4 K c TC J ys H a s)(e:An H H'):C4 K c TC J ys H' a s:=⟨Av.same h.Y e,BH.keep W h.T (An.AF e),h.O,h.G⟩
abbrev qI (K:Frag)(c:Cs)(TC:Addr)(J:TJ)(ys:Ys)(f:YA->YS->Nat->List Mv)(len:YS->Nat):Sp:=fun vs H Q _=>∃ (a:YA)(s:YS)(k:Nat),vs=[.ref a.y, .int k]/\C4 K c TC J ys H a s/\k < len s /\
 ∀ (D:Addr)(AZ:List V)(H':Hp),An H H'->H D=none->H' D=some (.lst AZ)->Paired (BL H') AZ ((f a s k).map eI)->Q (.ref D) H'
noncomputable def py (K:Frag)(c:Cs)(TC:Addr)(J:TJ)(ys:Ys):Sp:=qI K c TC J ys iI (fun s=>s.Am.length)
noncomputable def pw (K:Frag)(c:Cs)(TC:Addr)(J:TJ)(ys:Ys):Sp:=qI K c TC J ys ja (fun s=>s.lanes.length)
noncomputable def qJ (K:Frag)(c:Cs)(TC:Addr)(J:TJ)(ys:Ys):Sp:=qI K c TC J ys fL (fun s=>s.lanes.length)
noncomputable def j4 (K:Frag)(c:Cs)(TC:Addr)(J:TJ)(ys:Ys):Sp:=qI K c TC J ys (fun _ s k=>e7 s k) (fun s=>s.lanes.length)
noncomputable def j2 (K:Frag)(c:Cs)(TC:Addr)(J:TJ)(ys:Ys):Sp:=fun vs H Q _=>∃ (a:YA)(s:YS)(k:Nat),vs=[.ref a.y, .int k]/\C4 K c TC J ys H a s/\k < s.lanes.length /\
 ∀ (D:Addr)(H':Hp),An H H'->H D=none->H' D=some (.lst (nV (dR a s k)))->Q (.ref D) H'
noncomputable def xX (c:Cs)(C:Addr)(J:TJ):Sp:=fun vs H Q _=>∃ (a:YA)(l g:Nat),vs=[.ref a.tb, .int l, .int g]/\Rz c C J H a/\JV a/\l < a.ps.length/\g < a.n /\
 ∀ (D:Addr)(H':Hp),An H H'->H D=none->H' D=some (.lst (nV (tu a l g)))->Q (.ref D) H'
theorem mQ {K:Frag}{p:Addr}{us:List Nat}{g:TG}{tt:TT}{te:TE}{σ0:St}{H:Hp}{Q:VK}(b:Nat->Bool)(f:Nat->Mv)(hn:us.length < sizeLine)(ha:H p=some (.lst (nV us)))
  (hs:∀ (u:Nat)(H1:Hp)(acc:List V)(N:List V->Hp->Prop),u ∈ us->An H H1->(b u=true->∀ v H2,An H1 H2->BL H2 v (eI (f u))->N (acc ++ [v]) H2)->(b u=false->N acc H1) ->
   g (.int u) σ0 H1 fun σ2 H2=>tt σ2 H2 fun b H3=>if b=true then te σ2 H3 fun y H4=>N (acc ++ [y]) H4 else N acc H3)
  (hq:∀ D vs H1,An H H1->H1 D=none->Paired (BL H1) vs (((us.filter b).map f).map eI)->Q (.ref D) (upd H1 D (.lst vs))):dQ (vV K p) g tt te σ0 Q H:=by
 refine aX us.length hn (fun i acc H'=>An H H'/\Paired (BL H') acc ((((us.take i).filter b).map f).map eI)) ⟨An.refl _, .nil⟩ (fun i acc H' h=>by
   rw[Paired.length h.2,length_map,length_map]
   have h1:=length_filter_le b (us.take i)
   have h2:=length_take_le i us
   omega) (fun i acc H' hi h=>?_) (fun acc H' h=>?_)
 ·obtain⟨s,hL⟩:=h
  have hu:us[i]? = some us[i]:=getElem?_eq_getElem hi
  refine⟨⟨_,_,Ap.of (s _ _ ha),vh hu⟩,fun v H2 y=>?_⟩
  obtain⟨rfl,y⟩:=y
  have hv:=y _ (Ap.of (s _ _ ha))
  rw[vh hu]at hv
  cases hv
  refine hs us[i] H2 acc (fun Bn H4=>An H H4/\Paired (BL H4) Bn ((((us.take (i + 1)).filter b).map f).map eI)) (getElem_mem hi) s (fun hb v H3 s3 hv=>⟨s.trans s3,?_⟩) (fun hb=>⟨s,?_⟩)
  ·rw[take_succ,hu,filter_append]
   have e:(some us[i]).toList.filter b=[us[i]]:=by simp[hb]
   rw[e,map_append,map_append]
   exact Paired.snoc hv (Paired.mono (fun _ _ z=>z.keep (An.AF s3)) hL)
  ·rw[take_succ,hu,filter_append]
   have e:(some us[i]).toList.filter b=[]:=by simp[hb]
   rw[e,append_nil]
   exact hL
 ·obtain⟨s,hL⟩:=h
  rw[take_length]at hL
  exact⟨⟨_,Ap.of (s _ _ ha),by rw[du];exact le_refl _⟩,fun D hD=>hq D acc H' s hD hL⟩
noncomputable def yS (s:Stmt):Scope:=match s with
 | .Return (some (.ListComp _ _ sc _)) _=>sc
 | _=>zQ0
noncomputable def zP (s:Stmt):Scope:=match s with
 | .If _ [s'] _ _=>yS s'
 | _=>zQ0
abbrev We:List Str:=["self", "number", "letter", "wanted"]
abbrev Wg:List Str:=["self", "lane", "piece", "letter", "behind"]
abbrev Wh:List Str:=["self", "lane", "piece", "wanted"]
theorem IU:ao We ["self", "number"] (af nj):=L2.AQ
theorem R6:Bi We (af nj) (yS ((aG nj).getD 3 (.Pass ⟨0,0,0,0⟩))) ["self", "number", "letter"] [0,1,2]:=L2.B0
theorem R7:(["lane", "self", "number", "letter"]:List Str).Nodup:=by decide +kernel
theorem xb {c:Cs}{ys:Ys}{J:TJ}{TC f fw fo:Addr}{fd dw Dj:FuncData}(F:AM K "moves_in" "Yard.moves_in" nj f fd)(Y:gS K ys)(W:Wy K TC fw dw J)(IK:Ao P w K mg base aA 3 fw dw ["self", "place", "goal", "came"] (jd J))
  (mo:bB K ys.AI "open_to" fo) (bo:Binds K Dj ["self", "letter", "count"] []) (Go:Ao P w K mg base aA 1 fo Dj ["self", "letter", "count"] (lK ys.AI)) :
  Ao P w K mg base aA 4 f fd ["self", "number"] (py K c TC J ys):=by
 refine F.ok IU (fun _ _ _ _ h=>?_) (fun _ _ _ s H _ Q E hr h=>?_)
 ·obtain⟨a,s,k,rfl,_⟩:=h
  rfl
 ·obtain⟨a,st,k,rfl,hI,hk,q⟩:=h
  have AY:Ax 1 _:=hr.mono (by decide)
  refine⟨_,ae (aC (i:=2) IU.nd rfl (Or.inr rfl) (ax aJ (am (pv 0) rfl) (pv 1) (fun _ _=>rfl)))
   (ae (aP (au bj (am (pv 2) rfl) (am (pv 2) rfl) (aw _)) (ah (aq (aO ad))) aD)
   (ae (aC (i:=3) IU.nd rfl (Or.inl rfl) (eW (ca (au bj (am (pv 2) rfl) ag (aw _)) (aH (am (pv 0) rfl) W.cl W.m IK hr W.b .nil al (aa (am (pv 2) rfl) (aa (am (pv 2) rfl) (aa bQ ad)))) (cx dB (am (pv 2) rfl) dD (c6 ag)))))
   (ah (aq (aS (own:=["lane"]) (capN:=["self", "number", "letter"]) (cap:=[0,1,2]) R6 rfl (aR (pv 3)) (fun C s' H' fp=>⟨av (i:=0) R7 rfl (Or.inl rfl),ci (bF (aH (ax (show kE _ (lY K) from aJ) (show PE _ _ (se K (pe 1) "lanes") from am (pv 1) rfl) (pv 0) (fun _ _=>rfl)) Y.L.cl mo Go AY bo .nil al (aa (pv 2) (aa (show PE _ _ (se K (pe 3) "gone") from am (pv 3) rfl) ad)))),bI (aa aV (aa (pv 2) (aa (pv 0) ad)))⟩)))))),?_⟩
  have hY:=hI.Y
  obtain⟨Az,Bz,pl⟩:=hY.hle
  obtain⟨t,ht⟩:∃ t,st.Am[k]? = some t:=⟨_,getElem?_eq_getElem hk⟩
  obtain⟨v,hv,x,dx,wa,rfl,hx,hw,_⟩:=Paired.at2 pl ht
  obtain⟨x0,y0,e1,e2,OO,JW⟩:=hI.G.lets k t ht
  obtain⟨Eh,hw9⟩:=hI.G.B6 k t ht
  unfold iI at q
  rw[ht]at q
  refine⟨_,rfl,a.y,ys.Aq,a.dy,_,_,rfl,hY.ins,Y.cl,Y.n4,rfl,_,rfl,a.le,Az,(k:Int),_,rfl,rfl,Ap.of Bz,ak hv,?_⟩
  refine⟨_,rfl,x,ys.Ar,dx,_,_,rfl,hx,Y.ct,Y.t5,rfl,_,rfl,x,ys.Ar,dx,_,_,rfl,hx,Y.ct,Y.t3,rfl,rfl,_,rfl,?_⟩
  rw[bU]
  by_cases hg:t.gone=t.len
  ·rw[decide_eq_true hg]
   dsimp only at q
   rw[if_pos hg]at q
   exact aL ⟨zero_le _,fun D hD=>q D [] _ ((An.refl H).new hD) hD ac .nil⟩
  rw[decide_eq_false hg]
  dsimp only at q
  rw[if_neg hg]at q
  refine aE ⟨fun v H1=>∃ D,v = .ref D/\An H H1/\H1 D=some (.lst (nV (dO a t))),?_,?_⟩
  ·refine⟨_,rfl,x,ys.Ar,dx,_,_,rfl,hx,Y.ct,Y.t5,rfl,rfl,_,rfl,?_⟩
   rw[bU]
   unfold dO
   by_cases h0:t.gone=0
   ·rw[decide_eq_true h0,if_pos h0]
    obtain⟨Fe,fst,EH,B5,D5⟩:=hI.T.i
    refine aL ⟨_,rfl,a.y,ys.Aq,a.dy,_,_,rfl,hY.ins,Y.cl,Y.n1,rfl,a.tb,Fe,fst,rfl,EH,D5,_,rfl,x,ys.Ar,dx,_,_,rfl,hx,Y.ct,Y.t1,rfl,_,rfl,x,ys.Ar,dx,_,_,rfl,hx,Y.ct,Y.t2,rfl,?_⟩
    rw[e1,e2,toNat_natCast,toNat_natCast]
    exact⟨a.tb,a.n,a.wy,x0,y0,none,rfl,hI.T.j,OO,JW,fun D H1 s1 hD gD=>⟨D,rfl,s1,gD⟩⟩
   ·rw[decide_eq_false h0,if_neg h0]
    refine aE ⟨_,rfl,x,ys.Ar,dx,_,_,rfl,hx,Y.ct,Y.t6,rfl,_,rfl,wa,_,rfl,Ap.of hw,fun D hD=>⟨D,rfl,(An.refl H).new hD,?_⟩⟩
    rw[ac,show((1:Int))=((1:Nat):Int) from rfl,zY]
  rintro v H1 ⟨D,rfl,s1,gD⟩
  have DX:=hI.same W s1
  have BO:=DX.Y
  have BU:=s1 _ _ hx
  obtain⟨AB,Bs,EK⟩:=BO.BD
  have Wi:(dO a t).length <= 1000:=by
   unfold dO
   by_cases h0:t.gone=0
   ·rw[if_pos h0];exact le_trans (hI.O.Ba _ _ _) (by decide)
   ·rw[if_neg h0];rw[length_take];omega
  have Ft:∀ u ∈ dO a t,u < a.ps.length:=fun u hu=>by
   unfold dO at hu
   by_cases h0:t.gone=0
   ·rw[if_pos h0,e1,e2,toNat_natCast,toNat_natCast]at hu;exact hI.T.ok _ _ _ OO JW u hu
   ·rw[if_neg h0]at hu;exact Eh u (mem_of_mem_take hu)
  refine⟨_,rfl,D,rfl,⟨_,Ap.of gD⟩,?_⟩
  refine mQ (fun l=>gn st l k t.gone) (Mv.Bx k) (by rw[sizeLine_eq];omega) gD (fun u H2 acc N hu s2 GJ JX=>?_) (fun D2 IV H2 s2 BB hp=>?_)
  ·have C5:=DX.same W s2
   obtain⟨IW,IX,IY⟩:=C5.Y.BD
   have Mq:u < st.lanes.length:=by rw[hI.G.lanes];exact Ft u hu
   obtain⟨ln,AX⟩:∃ ln,st.lanes[u]? = some ln:=⟨_,getElem?_eq_getElem Mq⟩
   obtain⟨vl,E5,xl,D6,HR,IZ,rfl,hL,_⟩:=Paired.at2 IY AX
   refine⟨_,rfl,a.y,ys.Aq,a.dy,_,_,rfl,C5.Y.ins,Y.cl,Y.n3,rfl,_,rfl,a.la,IW,(u:Int),_,rfl,rfl,Ap.of IX,ak E5,xl,D6,_,rfl,hL.ins,rfl,_,rfl,_,rfl,x,ys.Ar,dx,_,_,rfl,s2 _ _ BU,Y.ct,Y.t5,rfl,xl,D6,HR,ln.r,ln.b,ln.h,(k:Int),t.gone,rfl,hL.ins,_,rfl,?_⟩
   have eo:gn st u k t.gone=cN ln.r ln.h k t.gone:=by unfold gn;rw[AX]
   cases ho:cN ln.r ln.h k t.gone with
   | false=>exact aE (JX (by rw[eo,ho]))
   | true=>exact aL ⟨_,rfl,_,rfl,by show 3 <= sizeLine;decide,fun z hz=>GJ (by rw[eo,ho]) _ _ ((An.refl H2).new hz) ⟨z,rfl,ac⟩⟩
  ·exact q D2 IV _ ((s1.trans s2).new BB) (s1.free (s2.free BB)) ac (Paired.mono (fun _ _ z=>z.keep (An.AF ((An.refl H2).new BB))) hp)
theorem kq {H:Hp}{AJ:List V}{qs:List (Int × Int)}(h:AN H AJ qs):(qs.head? = none/\qm AJ = .AG)∨∃ q pt,qs.head? = some q/\qm AJ = .ref pt/\H pt=some (.tup [.int q.1, .int q.2]):=by
 cases h with
 | nil=>exact .inl ⟨rfl,rfl⟩
 | cons x r=>obtain⟨t,rfl,ht⟩:=x;exact .inr ⟨_,t,rfl,rfl,ht⟩
theorem Mr:ao ["table", "lane", "goal", "end"] ["table", "lane", "goal"] (af QV):=L2.AQ
theorem zq {c:Cs}{J:TJ}{C f fw fe:Addr}{fd dw de:FuncData}(F:AM K "onward" "onward" QV f fd)(L:rW K c)(W:Wy K C fw dw J)(Gw:Ao P w K mg base aA 3 fw dw ["self", "place", "goal", "came"] (jd J))
  (M:xO K c fe de) (Ge:Ao P w K mg base aA 1 fe de ["self", "lane"] (wt c Prod.snd)):Ao P w K mg base aA 4 f fd ["table", "lane", "goal"] (xX c C J):=by
 refine F.ok Mr (fun _ _ _ _ h=>?_) (fun _ _ _ s H _ Q E hr h=>?_)
 ·obtain⟨a,l,g,rfl,_⟩:=h
  rfl
 ·obtain⟨a,l,g,rfl,hT,hO,hl,hg,q⟩:=h
  have AY:Ax 1 _:=hr.mono (by decide)
  refine⟨_,ae (aC (i:=3) Mr.nd rfl (Or.inl rfl) (aH (am (pv 0) rfl) L.cl M.m Ge AY M.b .nil al (aa (pv 1) ad)))
   (ah (aq (ca (au bj (pv 3) (pv 2) (aw _)) (aO ad) (aH (pv 0) W.cl W.m Gw hr W.b .nil al (aa (pv 3) (aa (pv 2) (aa (pv 1) ad))))))),?_⟩
  obtain⟨dx,fs,hx,hf,R8⟩:=hT.i
  have he:=getElem?_eq_getElem hl
  have HS:a.ps.getD l (0,0)=a.ps[l]:=by rw[getD_eq_getElem?_getD,he];rfl
  unfold tu at q
  rw[HS]at q
  obtain⟨e,ee,Ms⟩:=hO.ends l _ he
  refine⟨_,rfl,a.tb,C,dx,fs,_,rfl,hx,W.cl,W.nl,hf,a.lx,a.AL,_,rfl,hT.l.1,rfl,_,rfl,a.lx,a.AL,a.lt,(a.n:Int),a.Az,a.ps,l,_,rfl,hT.l,he,?_⟩
  rw[ee]at q ⊢
  rw[toNat_natCast]at q
  refine⟨_,rfl,_,rfl,rfl,_,rfl,?_⟩
  rw[bU]
  by_cases h1:(e:Int)=(g:Int)
  ·rw[decide_eq_true h1]
   rw[if_pos h1]at q
   exact aL ⟨zero_le _,fun D hD=>q D _ ((An.refl H).new hD) hD ac⟩
  ·rw[decide_eq_false h1]
   rw[if_neg h1]at q
   exact aE ⟨_,rfl,a.tb,dx,fs,rfl,hx,R8,_,rfl,_,rfl,_,rfl,a.tb,a.n,a.wy,e,g,some l,rfl,hT.j,Ms,hg,fun D H' s' hD gD=>q D _ s' hD gD⟩
theorem GK:ao Wg ["self", "lane"] (af ia):=L2.AQ
theorem R9:Bi Wg (af ia) (zP ((aG ia).getD 3 (.Pass ⟨0,0,0,0⟩))) ["letter"] [3]:=L2.B0
theorem RA:(["way", "letter"]:List Str).Nodup:=by decide +kernel
theorem sA {c:Cs}{ys:Ys}{J:TJ}{TC f fw ff fo:Addr}{fd dw df Dj:FuncData}(F:AM K "wanted" "Yard.wanted" ia f fd)(Y:gS K ys)(W:Wy K TC fw dw J)
  (mf:bB K ys.AI "front" ff) (bf:Binds K df ["self"] []) (Gf:Ao P w K mg base aA 1 ff df ["self"] (jf ys.AI))
  (mo:mg "onward" = some (.ref fo)) (ko:keepIn K (.ref fo)=true) (bo:Binds K Dj ["table", "lane", "goal"] []) (Go:Ao P w K mg base aA 4 fo Dj ["table", "lane", "goal"] (xX c TC J)) :
  Ao P w K mg base aA 5 f fd ["self", "lane"] (j2 K c TC J ys):=by
 refine F.ok GK (fun _ _ _ _ h=>?_) (fun _ _ _ s H _ Q E hr h=>?_)
 ·obtain⟨a,s,k,rfl,_⟩:=h
  rfl
 ·obtain⟨a,st,k,rfl,hI,hk,q⟩:=h
  have AY:Ax 1 _:=hr.mono (by decide)
  refine⟨_,ae (aC (i:=2) GK.nd rfl (Or.inl rfl) (bu (ax aJ (am (pv 0) rfl) (pv 1) (fun _ _=>rfl)) Y.L.cl mf Gf AY bf .nil al))
   (ae (aP (au gL (pv 2) bQ (aw _)) (ah (aq (aO ad))) aD)
   (ae (aC (i:=3) GK.nd rfl (Or.inr rfl) (ax aJ (am (pv 0) rfl) (ax aF (pv 2) ag (fun _ _=>rfl)) (fun _ _=>rfl)))
   (ae (aP (au bj (ax aF (pv 2) ag (fun _ _=>rfl)) ag (aw _))
    (ah (aq (aS (own:=["way"]) (capN:=["letter"]) (cap:=[3]) R9 rfl (aR (ap Go hr rfl mo ko bo .nil al (aa (am (pv 0) rfl) (aa (pv 1) (aa (am (pv 3) rfl) ad))))) (fun C s' H' fp=>⟨av (i:=0) RA rfl (Or.inl rfl),ci (au (show eD _ (compareOp .NotIn) (Qy K true) from mz) (pv 0) (show PE _ _ (se K (pe 1) "way") from am (pv 1) rfl) (by with_unfolding_all rfl)),pv 0⟩)))) aD)
   (ae (aC (i:=4) GK.nd rfl (Or.inl rfl) (aB bR (bJ plainAttrs_list PySem.F.slot_list_index PySem.F.type_list_index sL (am (pv 3) rfl) (aa (pv 1) ad)) ag))
   (ah (aq (cx dB (am (pv 3) rfl) (c6 (pv 4)) (c6 (aB bR (pv 4) ag))))))))),?_⟩
  have hY:=hI.Y
  obtain⟨AB,Bs,EK⟩:=hY.BD
  obtain⟨ln,AX⟩:∃ ln,st.lanes[k]? = some ln:=⟨_,getElem?_eq_getElem hk⟩
  obtain⟨vl,E5,xl,D6,HR,IZ,rfl,hL,_⟩:=Paired.at2 EK AX
  refine⟨_,rfl,a.y,ys.Aq,a.dy,_,_,rfl,hY.ins,Y.cl,Y.n3,rfl,_,rfl,a.la,AB,(k:Int),_,rfl,rfl,Ap.of Bs,ak E5,xl,D6,_,rfl,hL.ins,rfl,xl,D6,HR,ln.r,ln.b,ln.h,IZ,ln.qs,rfl,hL,?_⟩
  unfold dR cr at q
  rw[AX]at q
  dsimp only at q
  rcases kq hL.B4 with ⟨hf,ef⟩ | ⟨pq,pt,hf,ef,DW⟩
  ·rw[hf]at q
   rw[ef]
   exact⟨_,rfl,rfl,_,rfl,aL ⟨zero_le _,fun D hD=>q D _ ((An.refl H).new hD) hD ac⟩⟩
  rw[hf]at q
  rw[ef]
  have hqm:pq ∈ ln.qs:=mem_of_head? hf
  obtain⟨m,t,em,hm,Ja⟩:=hI.G.B4 k ln AX pq hqm
  obtain⟨x0,y0,e1,e2,OO,JW⟩:=hI.G.lets m t hm
  obtain⟨Eh,hw9⟩:=hI.G.B6 m t hm
  rw[em]at DW
  dsimp only at q
  rw[em,toNat_natCast,hm]at q
  dsimp only at q
  refine⟨_,rfl,rfl,_,rfl,aE ?_⟩
  obtain⟨Az,Bz,pl⟩:=hY.hle
  obtain⟨v,hv,x,dx,wa,rfl,hx,hw,_⟩:=Paired.at2 pl hm
  refine⟨_,rfl,a.y,ys.Aq,a.dy,_,_,rfl,hY.ins,Y.cl,Y.n4,rfl,_,rfl,pt,_,0,_,rfl,rfl,Ay.of DW,ak (j:=0) rfl,a.le,Az,(m:Int),_,rfl,rfl,Ap.of Bz,ak hv,?_⟩
  refine⟨_,rfl,pt,_,1,_,rfl,rfl,Ay.of DW,ak (j:=1) rfl,rfl,_,rfl,?_⟩
  rw[bU]
  by_cases h0:pq.2=0
  ·rw[decide_eq_true h0]
   rw[if_pos h0,e2,toNat_natCast]at q
   refine aL ⟨_,rfl,a.y,ys.Aq,a.dy,_,_,rfl,hY.ins,Y.cl,Y.n1,rfl,_,rfl,_,rfl,x,ys.Ar,dx,_,_,rfl,hx,Y.ct,Y.t2,rfl,?_⟩
   rw[e2]
   refine⟨a,k,y0,rfl,hI.T,hI.O,by rw[← hI.G.lanes];exact hk,JW,fun D H1 s1 hD gD=>⟨D,rfl,⟨_,Ap.of gD⟩,?_⟩⟩
   have O9:(tu a k y0).length <= 400:=by
    unfold tu
    by_cases z:(a.ps.getD k (0,0)).2=(y0:Int)
    ·rw[if_pos z];exact zero_le _
    ·rw[if_neg z];exact hI.O.Ba _ _ _
   refine i3 (fun v=>match v with | .int i=>!decide (i ∈ iz t.way) | _=>false) (fun v=>v) (by rw[du,sizeLine_eq];omega) (Ap.of gD) (fun y acc N hy h=>?_) (fun D2 BB=>?_)
   ·obtain⟨u,hu,rfl⟩:=iH hy
    refine⟨_,rfl,_,rfl,x,ys.Ar,dx,_,_,rfl,s1 _ _ hx,Y.ct,Y.t6,rfl,wa,_,rfl, .inl (Ap.of (s1 _ _ hw)),rfl,by rw[vg];exact iO _,_,rfl,?_⟩
    rw[vg,mG]
    have h:N (if (!decide ((u:Int) ∈ iz t.way))=true then acc ++ [V.int u] else acc) H1:=h
    cases hb:decide ((u:Int) ∈ iz t.way) with
    | true =>
     rw[hb]at h
     exact aE h
    | false =>
     rw[hb]at h
     exact aL ⟨_,rfl,h⟩
   ·have e:((nV (tu a k y0)).filter (fun v=>match v with | .int i=>!decide (i ∈ iz t.way) | _=>false)).map (fun v=>v)=nV ((tu a k y0).filter fun l=>!decide (l ∈ t.way)):=by
     rw[List.map_id']
     unfold nV
     rw[List.filter_map]
     congr 1
     refine List.filter_congr fun u _=>?_
     show(!decide ((u:Int) ∈ iz t.way))=_
     rw[qh]
    rw[e]
    exact q D2 _ (s1.new BB) (s1.free BB) ac
  ·rw[decide_eq_false h0]
   rw[if_neg h0]at q
   refine aE ⟨_,rfl,x,ys.Ar,dx,_,_,rfl,hx,Y.ct,Y.t6,rfl, .inl ⟨rfl,_,Ap.of hw⟩,_,rfl,wa,iz t.way,(k:Int),rfl,rfl,by rw[← vg];exact hw,Bq.mpr ⟨k,Ja,rfl⟩,by unfold iz;rw[length_map];omega,_,_,rfl,rfl,?_⟩
   rw[v8]
   refine⟨_,rfl,x,ys.Ar,dx,_,_,rfl,hx,Y.ct,Y.t6,rfl,_,rfl,_,rfl,_,rfl,_,_,rfl,rfl,_,rfl,wa,_,rfl,Ap.of hw,fun D hD=>?_⟩
   have e:eA (nV t.way) (some (((t.way.idxOf k:Nat):Int) + 1)) (some (((t.way.idxOf k:Nat):Int) + 1 + 1))=nV ((t.way.drop (t.way.idxOf k + 1)).take 1):=by
    have:=xE t.way (t.way.idxOf k + 1)
    rw[← this]
    rfl
   dsimp only
   rw[e]
   exact q D _ ((An.refl H).new hD) hD ac
theorem Jb:ao Wh ["self", "lane"] (af nh):=L2.AQ
theorem RB:Bi Wh (af nh) (yS ((aG nh).getD 2 (.Pass ⟨0,0,0,0⟩))) ["self", "lane", "piece"] [0,1,2]:=L2.B0
theorem RC:(["other", "self", "lane", "piece"]:List Str).Nodup:=by decide +kernel
theorem xa {c:Cs}{ys:Ys}{J:TJ}{TC f fw ff fa fo:Addr}{fd dw df da Dj:FuncData}(F:AM K "moves_on" "Yard.moves_on" nh f fd)(Y:gS K ys)(W:Wy K TC fw dw J)
  (mf:bB K ys.AI "front" ff) (bf:Binds K df ["self"] []) (Gf:Ao P w K mg base aA 1 ff df ["self"] (jf ys.AI))
  (ma:bB K ys.Aq "wanted" fa) (ba:Binds K da ["self", "lane"] []) (Ga:Ao P w K mg base aA 5 fa da ["self", "lane"] (j2 K c TC J ys))
  (mo:bB K ys.AI "open_to" fo) (bo:Binds K Dj ["self", "letter", "count"] []) (Go:Ao P w K mg base aA 1 fo Dj ["self", "letter", "count"] (lK ys.AI)) :
  Ao P w K mg base aA 6 f fd ["self", "lane"] (pw K c TC J ys):=by
 refine F.ok Jb (fun _ _ _ _ h=>?_) (fun _ _ _ s H _ Q E hr h=>?_)
 ·obtain⟨a,s,k,rfl,_⟩:=h
  rfl
 ·obtain⟨a,st,k,rfl,hI,hk,q⟩:=h
  have AY:Ax 1 _:=hr.mono (by decide)
  refine⟨_,ae (aC (i:=2) Jb.nd rfl (Or.inr rfl) (bu (ax aJ (am (pv 0) rfl) (pv 1) (fun _ _=>rfl)) Y.L.cl mf Gf AY bf .nil al))
   (ae (aC (i:=3) Jb.nd rfl (Or.inl rfl) (aH (pv 0) Y.cl ma Ga hr ba .nil al (aa (pv 1) ad)))
   (ah (aq (aS (own:=["other"]) (capN:=["self", "lane", "piece"]) (cap:=[0,1,2]) RB rfl (aR (pv 3)) (fun C s' H' fp=>⟨av (i:=0) RC rfl (Or.inl rfl),ci (bF (aH (ax (show kE _ (lY K) from aJ) (show PE _ _ (se K (pe 1) "lanes") from am (pv 1) rfl) (pv 0) (fun _ _=>rfl)) Y.L.cl mo Go AY bo .nil al (aa (ax (show kE _ (iC K) from aF) (pv 3) ag (fun _ _=>rfl)) (aa (ax (show kE _ (iC K) from aF) (pv 3) ag (fun _ _=>rfl)) ad)))),bI (aa aV (aa (pv 2) (aa (pv 0) ad)))⟩))))),?_⟩
  have hY:=hI.Y
  obtain⟨AB,Bs,EK⟩:=hY.BD
  obtain⟨ln,AX⟩:∃ ln,st.lanes[k]? = some ln:=⟨_,getElem?_eq_getElem hk⟩
  obtain⟨vl,E5,xl,D6,HR,IZ,rfl,hL,_⟩:=Paired.at2 EK AX
  refine⟨_,rfl,a.y,ys.Aq,a.dy,_,_,rfl,hY.ins,Y.cl,Y.n3,rfl,_,rfl,a.la,AB,(k:Int),_,rfl,rfl,Ap.of Bs,ak E5,xl,D6,_,rfl,hL.ins,rfl,xl,D6,HR,ln.r,ln.b,ln.h,IZ,ln.qs,rfl,hL,?_⟩
  refine⟨_,rfl,a.y,a.dy,_,rfl,hY.ins,rfl,_,rfl,a,st,k,rfl,hI,hk,fun D H1 s1 hD gD=>?_⟩
  refine⟨_,rfl,D,rfl,⟨_,Ap.of gD⟩,?_⟩
  have DX:=hI.same W s1
  have eF:cr st k=ln.qs.head?:=by unfold cr;rw[AX]
  have Ft:∀ u ∈ dR a st k,u < a.ps.length:=fun u hu=>by
   unfold dR at hu
   rw[eF]at hu
   cases hq:ln.qs.head? with
   | none=>rw[hq]at hu;cases hu
   | some pq =>
    rw[hq]at hu
    obtain⟨m,t,em,hm,Ja⟩:=hI.G.B4 k ln AX pq (mem_of_head? hq)
    obtain⟨x0,y0,e1,e2,OO,JW⟩:=hI.G.lets m t hm
    dsimp only at hu
    rw[em,toNat_natCast,hm]at hu
    dsimp only at hu
    by_cases h0:pq.2=0
    ·rw[if_pos h0,e2,toNat_natCast]at hu
     have hu:=(mem_filter.mp hu).1
     unfold tu at hu
     by_cases z:(a.ps.getD k (0,0)).2=(y0:Int)
     ·rw[if_pos z]at hu;cases hu
     ·rw[if_neg z]at hu
      have JY:k < a.ps.length:=by rw[← hI.G.lanes];exact hk
      obtain⟨e,ee,Ms⟩:=hI.O.ends k _ (getElem?_eq_getElem JY)
      have HS:a.ps.getD k (0,0)=a.ps[k]:=by rw[getD_eq_getElem?_getD,getElem?_eq_getElem JY];rfl
      rw[HS,ee,toNat_natCast]at hu
      exact hI.T.ok _ _ _ Ms JW u hu
    ·rw[if_neg h0]at hu
     exact(hI.G.B6 m t hm).1 u (List.mem_of_mem_drop (mem_of_mem_take hu))
  have Eh:(dR a st k).length <= 1000:=by
   unfold dR
   cases cr st k with
   | none=>exact zero_le _
   | some pq =>
    dsimp only
    cases st.Am[pq.1.toNat]? with
    | none=>exact zero_le _
    | some t =>
     dsimp only
     by_cases h0:pq.2=0
     ·rw[if_pos h0]
      refine le_trans (length_filter_le _ _) ?_
      unfold tu
      by_cases z:(a.ps.getD k (0,0)).2=((t.goal.toNat:Nat):Int)
      ·rw[if_pos z];exact zero_le _
      ·rw[if_neg z];exact le_trans (hI.O.Ba _ _ _) (by decide)
     ·rw[if_neg h0,length_take];omega
  unfold ja at q
  rw[eF]at q
  rcases kq hL.B4 with ⟨hf,ef⟩ | ⟨pq,pt,hf,ef,DW⟩
  ·have e0:dR a st k=[]:=by unfold dR;rw[eF,hf]
   rw[hf]at q
   rw[e0]at gD
   refine mQ (fun l=>false) (Mv.on k) (by rw[sizeLine_eq];decide) gD (fun u H2 acc N hu s2 GJ JX=>by cases hu) (fun D2 IV H2 s2 BB hp=>?_)
   exact q D2 IV _ ((s1.trans s2).new BB) (s1.free (s2.free BB)) ac (Paired.mono (fun _ _ z=>z.keep (An.AF ((An.refl H2).new BB))) hp)
  rw[hf]at q
  dsimp only at q
  rw[ef]
  refine mQ (fun l=>gn st l pq.1 pq.2) (Mv.on k) (by rw[sizeLine_eq];omega) gD (fun u H2 acc N hu s2 GJ JX=>?_) (fun D2 IV H2 s2 BB hp=>?_)
  ·have C5:=DX.same W s2
   obtain⟨IW,IX,IY⟩:=C5.Y.BD
   have Mq:u < st.lanes.length:=by rw[hI.G.lanes];exact Ft u hu
   obtain⟨BE,Cv⟩:∃ ln,st.lanes[u]? = some ln:=⟨_,getElem?_eq_getElem Mq⟩
   obtain⟨vu,hvu,xu,Wj,pau,pvu,rfl,Wk,_⟩:=Paired.at2 IY Cv
   have Fq:=s2 _ _ (s1 _ _ DW)
   refine⟨_,rfl,a.y,ys.Aq,a.dy,_,_,rfl,C5.Y.ins,Y.cl,Y.n3,rfl,_,rfl,a.la,IW,(u:Int),_,rfl,rfl,Ap.of IX,ak hvu,xu,Wj,_,rfl,Wk.ins,rfl,_,rfl,pt,_,0,_,rfl,rfl,Ay.of Fq,ak (j:=0) rfl,_,rfl,pt,_,1,_,rfl,rfl,Ay.of Fq,ak (j:=1) rfl,xu,Wj,pau,BE.r,BE.b,BE.h,pq.1,pq.2,rfl,Wk.ins,_,rfl,?_⟩
   have eo:gn st u pq.1 pq.2=cN BE.r BE.h pq.1 pq.2:=by unfold gn;rw[Cv]
   cases ho:cN BE.r BE.h pq.1 pq.2 with
   | false=>exact aE (JX (by rw[eo,ho]))
   | true=>exact aL ⟨_,rfl,_,rfl,by show 3 <= sizeLine;decide,fun z hz=>GJ (by rw[eo,ho]) _ _ ((An.refl H2).new hz) ⟨z,rfl,ac⟩⟩
  ·exact q D2 IV _ ((s1.trans s2).new BB) (s1.free (s2.free BB)) ac (Paired.mono (fun _ _ z=>z.keep (An.AF ((An.refl H2).new BB))) hp)
theorem Mu:ao ["self", "lane", "piece"] ["self", "lane"] (af p9):=L2.AQ
theorem uN {c:Cs}{ys:Ys}{J:TJ}{TC f fw ff fe:Addr}{fd dw df de:FuncData}(F:AM K "moves_lie" "Yard.moves_lie" p9 f fd)(Y:gS K ys)(L:rW K c)(W:Wy K TC fw dw J)
  (mf:bB K ys.AI "front" ff) (bf:Binds K df ["self"] []) (Gf:Ao P w K mg base aA 1 ff df ["self"] (jf ys.AI)) (M:xO K c fe de) (Ge:Ao P w K mg base aA 1 fe de ["self", "lane"] (wt c Prod.snd)) :
  Ao P w K mg base aA 2 f fd ["self", "lane"] (qJ K c TC J ys):=by
 refine F.ok Mu (fun _ _ _ _ h=>?_) (fun _ _ _ s H _ Q E hr h=>?_)
 ·obtain⟨a,s,k,rfl,_⟩:=h
  rfl
 ·obtain⟨a,st,k,rfl,hI,hk,q⟩:=h
  refine⟨_,ae (aC (i:=2) Mu.nd rfl (Or.inl rfl) (bu (ax aJ (am (pv 0) rfl) (pv 1) (fun _ _=>rfl)) Y.L.cl mf Gf hr bf .nil al))
   (ae (aP (PW.pt (eG (au gL (pv 2) bQ (aw _)) (dc (au jQ (am (ax aJ (am (pv 0) rfl) (ax aF (pv 2) ag (fun _ _=>rfl)) (fun _ _=>rfl)) rfl) (aH (am (am (pv 0) rfl) rfl) L.cl M.m Ge hr M.b .nil al (aa (pv 1) ad)) (aw _))))) (ah (aq (aO ad))) aD)
   (ah (aq (aO (aa (bI (aa aV (aa (pv 1) ad))) ad))))),?_⟩
  have hY:=hI.Y
  obtain⟨AB,Bs,EK⟩:=hY.BD
  obtain⟨ln,AX⟩:∃ ln,st.lanes[k]? = some ln:=⟨_,getElem?_eq_getElem hk⟩
  obtain⟨vl,E5,xl,D6,HR,IZ,rfl,hL,_⟩:=Paired.at2 EK AX
  refine⟨_,rfl,a.y,ys.Aq,a.dy,_,_,rfl,hY.ins,Y.cl,Y.n3,rfl,_,rfl,a.la,AB,(k:Int),_,rfl,rfl,Ap.of Bs,ak E5,xl,D6,_,rfl,hL.ins,rfl,xl,D6,HR,ln.r,ln.b,ln.h,IZ,ln.qs,rfl,hL,?_⟩
  have eF:cr st k=ln.qs.head?:=by unfold cr;rw[AX]
  unfold fL at q
  rw[eF]at q
  rcases kq hL.B4 with ⟨hf,ef⟩ | ⟨pq,pt,hf,ef,DW⟩
  ·rw[hf]at q
   rw[ef]
   exact⟨_,rfl,rfl,_,rfl,aL (aL ⟨zero_le _,fun D hD=>q D [] _ ((An.refl H).new hD) hD ac .nil⟩)⟩
  rw[hf]at q
  rw[ef]
  obtain⟨m,t,em,hm,Ja⟩:=hI.G.B4 k ln AX pq (mem_of_head? hf)
  rw[em]at DW
  dsimp only at q
  rw[em,toNat_natCast,hm]at q
  dsimp only at q
  obtain⟨Az,Bz,pl⟩:=hY.hle
  obtain⟨v,hv,x,dx,wa,rfl,hx,hw,_⟩:=Paired.at2 pl hm
  obtain⟨Fe,fst,EH,B5,D5⟩:=hI.T.i
  have JY:k < a.ps.length:=by rw[← hI.G.lanes];exact hk
  have he:=getElem?_eq_getElem JY
  have HS:a.ps.getD k (0,0)=a.ps[k]:=by rw[getD_eq_getElem?_getD,he];rfl
  rw[HS]at q
  refine⟨_,rfl,rfl,_,rfl,aE ⟨_,rfl,a.y,ys.Aq,a.dy,_,_,rfl,hY.ins,Y.cl,Y.n4,rfl,_,rfl,pt,_,0,_,rfl,rfl,Ay.of DW,ak (j:=0) rfl,a.le,Az,(m:Int),_,rfl,rfl,Ap.of Bz,ak hv,x,ys.Ar,dx,_,_,rfl,hx,Y.ct,Y.t2,rfl,_,rfl,a.y,ys.Aq,a.dy,_,_,rfl,hY.ins,Y.cl,Y.n1,rfl,a.tb,TC,Fe,fst,_,rfl,EH,W.cl,W.nl,B5,a.lx,a.AL,_,rfl,hI.T.l.1,rfl,_,rfl,a.lx,a.AL,a.lt,(a.n:Int),a.Az,a.ps,k,_,rfl,hI.T.l,he,rfl,_,rfl,?_⟩⟩
  rw[bU]
  by_cases hg:t.goal=a.ps[k].2
  ·rw[decide_eq_true hg]
   rw[if_pos hg]at q
   refine aE ⟨_,rfl,by show 2 <= sizeLine;decide,fun z hz=>⟨by show 1 <= sizeLine;decide,fun D hD=>?_⟩⟩
   have s2:=(An.refl H).new (o := .tup [.str "lie", .int k]) hz
   have gz:(upd H z (.tup [.str "lie", .int k])) z=some (.tup [.str "lie", .int k]):=ac
   exact q D [.ref z] _ (s2.new hD) (s2.free hD) ac (.cons ⟨z,rfl,by rw[ai (aj gz hD)];exact gz⟩ .nil)
  ·rw[decide_eq_false hg]
   rw[if_neg hg]at q
   exact aL ⟨zero_le _,fun D hD=>q D [] _ ((An.refl H).new hD) hD ac .nil⟩
theorem RD:ao ["self", "lane"] ["self", "lane"] (af lV):=L2.AQ
theorem sH {c:Cs}{ys:Ys}{J:TJ}{TC f:Addr}{fd:FuncData}(F:AM K "moves_back" "Yard.moves_back" lV f fd)(Y:gS K ys):Ao P w K mg base aA 1 f fd ["self", "lane"] (j4 K c TC J ys):=by
 refine F.ok RD (fun _ _ _ _ h=>?_) (fun _ _ _ s H _ Q E hr h=>?_)
 ·obtain⟨a,s,k,rfl,_⟩:=h
  rfl
 ·obtain⟨a,st,k,rfl,hI,hk,q⟩:=h
  refine⟨_,ah (aq (ca (au iV (am (ax aJ (am (pv 0) rfl) (pv 1) (fun _ _=>rfl)) rfl) ag (aw _)) (aO (aa (bI (aa aV (aa (pv 1) ad))) ad)) (aO ad))),?_⟩
  have hY:=hI.Y
  obtain⟨AB,Bs,EK⟩:=hY.BD
  obtain⟨ln,AX⟩:∃ ln,st.lanes[k]? = some ln:=⟨_,getElem?_eq_getElem hk⟩
  obtain⟨vl,E5,xl,D6,HR,IZ,rfl,hL,_⟩:=Paired.at2 EK AX
  unfold e7 at q
  dsimp only at q
  rw[AX]at q
  dsimp only at q
  refine⟨_,rfl,a.y,ys.Aq,a.dy,_,_,rfl,hY.ins,Y.cl,Y.n3,rfl,_,rfl,a.la,AB,(k:Int),_,rfl,rfl,Ap.of Bs,ak E5,xl,ys.AI,D6,_,_,rfl,hL.ins,Y.L.cl,Y.L.n2,rfl,_,_,rfl,rfl,_,rfl,?_⟩
  by_cases hb:0 < ln.b
  ·rw[decide_eq_true hb]
   rw[if_pos hb]at q
   refine aL ⟨_,rfl,by show 2 <= sizeLine;decide,fun z hz=>⟨by show 1 <= sizeLine;decide,fun D hD=>?_⟩⟩
   have s2:=(An.refl H).new (o := .tup [.str "back", .int k]) hz
   have gz:(upd H z (.tup [.str "back", .int k])) z=some (.tup [.str "back", .int k]):=ac
   exact q D [.ref z] _ (s2.new hD) (s2.free hD) ac (.cons ⟨z,rfl,by rw[ai (aj gz hD)];exact gz⟩ .nil)
  ·rw[decide_eq_false hb]
   rw[if_neg hb]at q
   exact aE ⟨zero_le _,fun D hD=>q D [] _ ((An.refl H).new hD) hD ac .nil⟩
theorem nW {H:Hp}{F:Addr}{xs:List V}{o:HO}(h:H F=some (.lst xs)):AV H (upd H F o):=fun b u e n=>by
 have nb:b ≠ F:=fun z=>by rw[z,h]at e;cases e;exact n
 rw[ai nb];exact e
theorem eM {α:Type}(f:Nat->List α)(i:Nat):(List.range (i + 1)).flatMap f=(List.range i).flatMap f ++ f i:=by
 rw[range_succ,flatMap_append];simp
theorem b7 {α:Type}{f:Nat->List α}(h:∀ i,(f i).length <= 1000):∀ i,((List.range i).flatMap f).length <= 1000 * i
 | 0=>by simp
 | i + 1=>by rw[eM,length_append];have:=b7 h i;have:=h i;omega
theorem eK {a:YA}{s:YS}(O:JV a)(G:R5 a s)(k:Nat):(iI a s k).length <= 1000:=by
 unfold iI
 cases ht:s.Am[k]? with
 | none=>exact zero_le _
 | some t =>
  dsimp only
  by_cases hg:t.gone=t.len
  ·rw[if_pos hg];exact zero_le _
  rw[if_neg hg,length_map]
  refine le_trans (length_filter_le _ _) ?_
  unfold dO
  by_cases h0:t.gone=0
  ·rw[if_pos h0];exact le_trans (O.Ba _ _ _) (by decide)
  ·rw[if_neg h0,length_take];omega
theorem eJ {a:YA}{s:YS}(O:JV a)(k:Nat):(ja a s k).length <= 1000:=by
 unfold ja
 cases hq:cr s k with
 | none=>exact zero_le _
 | some pq =>
  dsimp only
  rw[length_map]
  refine le_trans (length_filter_le _ _) ?_
  unfold dR
  rw[hq]
  dsimp only
  cases s.Am[pq.1.toNat]? with
  | none=>exact zero_le _
  | some t =>
   dsimp only
   by_cases h0:pq.2=0
   ·rw[if_pos h0]
    refine le_trans (length_filter_le _ _) ?_
    unfold tu
    by_cases z:(a.ps.getD k (0,0)).2=((t.goal.toNat:Nat):Int)
    ·rw[if_pos z];exact zero_le _
    ·rw[if_neg z];exact le_trans (O.Ba _ _ _) (by decide)
   ·rw[if_neg h0,length_take];omega
theorem dF (a:YA)(s:YS)(k:Nat):(fL a s k).length <= 1000:=by
 unfold fL
 cases cr s k with
 | none=>exact zero_le _
 | some pq =>
  dsimp only
  cases s.Am[pq.1.toNat]? with
  | none=>exact zero_le _
  | some t =>
   dsimp only
   by_cases h0:t.goal=(a.ps.getD k (0,0)).2
   ·rw[if_pos h0];show 1 <= 1000;decide
   ·rw[if_neg h0];exact zero_le _
theorem jV (s:YS)(k:Nat):(e7 s k).length <= 1000:=by
 unfold e7
 cases s.lanes[k]? with
 | none=>exact zero_le _
 | some ln =>
  dsimp only
  by_cases h0:0 < ln.b
  ·rw[if_pos h0];show 1 <= 1000;decide
  ·rw[if_neg h0];exact zero_le _
noncomputable def b0 (a:YA)(s:YS):List Mv:=(List.range s.Am.length).flatMap (iI a s) ++ (List.range s.lanes.length).flatMap (ja a s) ++ (List.range s.lanes.length).flatMap (fL a s) ++ (List.range s.lanes.length).flatMap (e7 s)
noncomputable def hG (K:Frag)(c:Cs)(TC:Addr)(J:TJ)(ys:Ys):Sp:=fun vs H Q _=>∃ (a:YA)(s:YS),vs=[.ref a.y]/\C4 K c TC J ys H a s /\
 ∀ (D:Addr)(AZ:List V)(H':Hp),An H H'->H D=none->H' D=some (.lst AZ)->Paired (BL H') AZ ((b0 a s).map eI)->Q (.ref D) H'
theorem Paired.app {α β:Type}{R:α->β->Prop}{cs:List α}{ds:List β}(h:Paired R cs ds):∀ {as:List α}{bs:List β},Paired R as bs->Paired R (as ++ cs) (bs ++ ds):=fun Au=>by
 induction Au with
 | nil=>exact h
 | cons x r ih=>exact .cons x ih
theorem jm {H H2 H3:Hp}{F:Addr}{vs AZ:List V}{xs ys:List Mv}(nF:H F=none)(s2:An H H2)(g2:H2 F=some (.lst vs))(p2:Paired (BL H2) vs (xs.map eI))(s3:An H2 H3)(p3:Paired (BL H3) AZ (ys.map eI)) :
  An H (upd H3 F (.lst (vs ++ AZ)))/\(upd H3 F (.lst (vs ++ AZ))) F=some (.lst (vs ++ AZ))/\Paired (BL (upd H3 F (.lst (vs ++ AZ)))) (vs ++ AZ) ((xs ++ ys).map eI):=by
 refine⟨fun b o e=>by rw[ai (aj e nF)];exact s3 _ _ (s2 _ _ e),ac,?_⟩
 have kk:AV H3 (upd H3 F (.lst (vs ++ AZ))):=nW (s3 _ _ g2)
 rw[map_append]
 have q2:=Paired.mono (fun _ _ z=>z.keep (AV.trans (An.AF s3) kk)) p2
 have q3:=Paired.mono (fun _ _ z=>z.keep kk) p3
 exact Paired.app q3 q2
abbrev NMs:List Str:=["self", "found", "number", "lane"]
theorem E6:ao NMs ["self"] (af pA):=L2.AQ
structure RE (P:Program)(w:World)(K:Frag)(mg:Str->Option Value)(base:Heap)(c:Cs)(TC:Addr)(J:TJ)(ys:Ys)(fi fo fl fb:Addr)(di Dj dl db:FuncData):Prop where
 mi:bB K ys.Aq "moves_in" fi
 bi:Binds K di ["self", "number"] []
 Gi:Ao P w K mg base aA 4 fi di ["self", "number"] (py K c TC J ys)
 mo:bB K ys.Aq "moves_on" fo
 bo:Binds K Dj ["self", "lane"] []
 Go:Ao P w K mg base aA 6 fo Dj ["self", "lane"] (pw K c TC J ys)
 ml:bB K ys.Aq "moves_lie" fl
 bl:Binds K dl ["self", "lane"] []
 Gl:Ao P w K mg base aA 2 fl dl ["self", "lane"] (qJ K c TC J ys)
 mb:bB K ys.Aq "moves_back" fb
 bb:Binds K db ["self", "lane"] []
 Gb:Ao P w K mg base aA 1 fb db ["self", "lane"] (j4 K c TC J ys)
theorem uO {c:Cs}{ys:Ys}{J:TJ}{TC f fw fi fo fl fb:Addr}{fd dw di Dj dl db:FuncData}(F:AM K "moves" "Yard.moves" pA f fd)(T:Txt mg)(Y:gS K ys)(W:Wy K TC fw dw J)(M:RE P w K mg base c TC J ys fi fo fl fb di Dj dl db) :
  Ao P w K mg base aA 7 f fd ["self"] (hG K c TC J ys):=by
 refine F.ok E6 (fun _ _ _ _ h=>?_) (fun _ _ _ s H _ Q E hr h=>?_)
 ·obtain⟨a,s,rfl,_⟩:=h
  rfl
 ·obtain⟨a,st,rfl,hI,q⟩:=h
  have AY:Ax 1 _:=hr.mono (by decide)
  have Bu:Ax 2 _:=hr.mono (by decide)
  have D3:Ax 4 _:=hr.mono (by decide)
  refine⟨_,ae (aC (i:=1) E6.nd rfl (Or.inl rfl) (aO ad))
   (ae (bN PassesOwn.never rfl (aT rfl T.range (aa (az ay rfl T.len PySem.boot_len (aa (am (pv 0) rfl) ad)) ad)) (av (i:=2) E6.nd rfl (Or.inl rfl)) (ah (aN (bJ plainAttrs_list slot_list_extend type_list_extend cQ (pv 1) (aa (aH (pv 0) Y.cl M.mi M.Gi D3 M.bi .nil al (aa (pv 2) ad)) ad)))))
   (ae (bN PassesOwn.never rfl (aT rfl T.range (aa (az ay rfl T.len PySem.boot_len (aa (am (pv 0) rfl) ad)) ad)) (av (i:=3) E6.nd rfl (Or.inl rfl)) (ah (aN (bJ plainAttrs_list slot_list_extend type_list_extend cQ (pv 1) (aa (aH (pv 0) Y.cl M.mo M.Go hr M.bo .nil al (aa (pv 3) ad)) ad)))))
   (ae (bN PassesOwn.never rfl (aT rfl T.range (aa (az ay rfl T.len PySem.boot_len (aa (am (pv 0) rfl) ad)) ad)) (av (i:=3) E6.nd rfl (Or.inl rfl)) (ah (aN (bJ plainAttrs_list slot_list_extend type_list_extend cQ (pv 1) (aa (aH (pv 0) Y.cl M.ml M.Gl Bu M.bl .nil al (aa (pv 3) ad)) ad)))))
   (ae (bN PassesOwn.never rfl (aT rfl T.range (aa (az ay rfl T.len PySem.boot_len (aa (am (pv 0) rfl) ad)) ad)) (av (i:=3) E6.nd rfl (Or.inl rfl)) (ah (aN (bJ plainAttrs_list slot_list_extend type_list_extend cQ (pv 1) (aa (aH (pv 0) Y.cl M.mb M.Gb AY M.bb .nil al (aa (pv 3) ad)) ad)))))
   (ah (aq (pv 1))))))),?_⟩
  have hlet:=hI.G.Ba
  have hlan:st.lanes.length <= 40:=by rw[hI.G.lanes];exact hI.T.Ba
  refine⟨zero_le _,fun Fd JZ=>?_⟩
  have s0:=(An.refl H).new (o := .lst []) JZ
  have g0:(upd H Fd (.lst [])) Fd=some (.lst []):=ac
  show cz 1 (V.ref Fd) _ _ _
  generalize upd H Fd (.lst [])=H0 at s0 g0 ⊢
  have RF:∃ vs,An H H0/\H0 Fd=some (.lst vs)/\Paired (BL H0) vs (([]:List Mv).map eI):=⟨[],s0,g0, .nil⟩
  obtain⟨Fp,Wl,g0',p0'⟩:=RF
  have FL:=(hI.same W Wl).Y
  obtain⟨Wm,gl0,pl0⟩:=FL.hle
  have RG:Wm.length=st.Am.length:=Paired.length pl0
  refine⟨_,rfl,a.y,ys.Aq,a.dy,_,_,rfl,FL.ins,Y.cl,Y.n4,rfl,a.le,_,rfl, .inl (Ap.of gl0),((Wm.length:Nat):Int),rfl,by omega,by omega,?_⟩
  rw[toNat_natCast,RG]
  refine bH (n:=st.Am.length) (fun i σ H2=>∃ a2 a3:Option V,(∃ vs,An H H2/\H2 Fd=some (.lst vs)/\Paired (BL H2) vs (((List.range i).flatMap (iI a st)).map eI))/\σ=[some (.ref a.y),some (.ref Fd),a2,a3]) ?_ ?_ ?_
  ·exact⟨_,_,⟨Fp,Wl,g0',by simpa using p0'⟩,rfl⟩
  ·rintro i σ H2 hi ⟨a2,a3,⟨vs,s2,g2,p2⟩,rfl⟩
   rw[zero_add]
   have C5:=hI.same W s2
   refine⟨_,rfl, .inl ⟨rfl,_,Ap.of g2⟩,_,rfl,a.y,a.dy,_,rfl,C5.Y.ins,rfl,_,rfl,a,st,i,rfl,C5,hi,fun D AZ H3 s3 hD gD hp=>?_⟩
   have l1:vs.length <= 1000000:=by
    rw[Paired.length p2,length_map]
    have h0:=b7 (eK hI.O hI.G) st.Am.length
    have h1:=b7 (eJ (s:=st) hI.O) st.lanes.length
    have h2:=b7 (dF a st) st.lanes.length
    have hh:=b7 (eK hI.O hI.G) i
    try simp only[length_append]
    omega
   have l2:AZ.length <= 1000:=by rw[Paired.length hp,length_map];exact(eK hI.O hI.G) i
   obtain⟨q1,q2,q3⟩:=jm JZ s2 g2 p2 s3 hp
   refine⟨Fd,D,vs,AZ,rfl,rfl,s3 _ _ g2,gD,by rw[sizeLine_eq];omega,?_⟩
   refine⟨_,_,⟨vs ++ AZ,q1,q2,?_⟩,rfl⟩
   rw[eM]
   exact q3
  rintro σ0 H1 ⟨a20,a30,inv1,rfl⟩
  obtain⟨vs1,Wo,g1',p1'⟩:=inv1
  have BO:=(hI.same W Wo).Y
  obtain⟨Wq,Jc,R4⟩:=BO.BD
  have RH:Wq.length=st.lanes.length:=Paired.length R4
  refine⟨_,rfl,a.y,ys.Aq,a.dy,_,_,rfl,BO.ins,Y.cl,Y.n3,rfl,a.la,_,rfl, .inl (Ap.of Jc),((Wq.length:Nat):Int),rfl,by omega,by omega,?_⟩
  rw[toNat_natCast,RH]
  refine bH (n:=st.lanes.length) (fun i σ H2=>∃ a2 a3:Option V,(∃ vs,An H H2/\H2 Fd=some (.lst vs)/\Paired (BL H2) vs ((((List.range st.Am.length).flatMap (iI a st)) ++ (List.range i).flatMap (ja a st)).map eI))/\σ=[some (.ref a.y),some (.ref Fd),a2,a3]) ?_ ?_ ?_
  ·exact⟨_,_,⟨vs1,Wo,g1',by simpa using p1'⟩,rfl⟩
  ·rintro i σ H2 hi ⟨a2,a3,⟨vs,s2,g2,p2⟩,rfl⟩
   rw[zero_add]
   have C5:=hI.same W s2
   refine⟨_,rfl, .inl ⟨rfl,_,Ap.of g2⟩,_,rfl,a.y,a.dy,_,rfl,C5.Y.ins,rfl,_,rfl,a,st,i,rfl,C5,hi,fun D AZ H3 s3 hD gD hp=>?_⟩
   have l1:vs.length <= 1000000:=by
    rw[Paired.length p2,length_map]
    have h0:=b7 (eK hI.O hI.G) st.Am.length
    have h1:=b7 (eJ (s:=st) hI.O) st.lanes.length
    have h2:=b7 (dF a st) st.lanes.length
    have hh:=b7 (eJ (s:=st) hI.O) i
    try simp only[length_append]
    omega
   have l2:AZ.length <= 1000:=by rw[Paired.length hp,length_map];exact(eJ (s:=st) hI.O) i
   obtain⟨q1,q2,q3⟩:=jm JZ s2 g2 p2 s3 hp
   refine⟨Fd,D,vs,AZ,rfl,rfl,s3 _ _ g2,gD,by rw[sizeLine_eq];omega,?_⟩
   refine⟨_,_,⟨vs ++ AZ,q1,q2,?_⟩,rfl⟩
   rw[eM]
   rw[← append_assoc];exact q3
  rintro σ1 H2 ⟨a21,a31,inv2,rfl⟩
  obtain⟨IV,Mw,g2',p2'⟩:=inv2
  have D7:=(hI.same W Mw).Y
  obtain⟨Wr,gl2,pl2⟩:=D7.BD
  have RI:Wr.length=st.lanes.length:=Paired.length pl2
  refine⟨_,rfl,a.y,ys.Aq,a.dy,_,_,rfl,D7.ins,Y.cl,Y.n3,rfl,a.la,_,rfl, .inl (Ap.of gl2),((Wr.length:Nat):Int),rfl,by omega,by omega,?_⟩
  rw[toNat_natCast,RI]
  refine bH (n:=st.lanes.length) (fun i σ H2=>∃ a2 a3:Option V,(∃ vs,An H H2/\H2 Fd=some (.lst vs)/\Paired (BL H2) vs ((((List.range st.Am.length).flatMap (iI a st) ++ (List.range st.lanes.length).flatMap (ja a st)) ++ (List.range i).flatMap (fL a st)).map eI))/\σ=[some (.ref a.y),some (.ref Fd),a2,a3]) ?_ ?_ ?_
  ·exact⟨_,_,⟨IV,Mw,g2',by simpa using p2'⟩,rfl⟩
  ·rintro i σ H2 hi ⟨a2,a3,⟨vs,s2,g2,p2⟩,rfl⟩
   rw[zero_add]
   have C5:=hI.same W s2
   refine⟨_,rfl, .inl ⟨rfl,_,Ap.of g2⟩,_,rfl,a.y,a.dy,_,rfl,C5.Y.ins,rfl,_,rfl,a,st,i,rfl,C5,hi,fun D AZ H3 s3 hD gD hp=>?_⟩
   have l1:vs.length <= 1000000:=by
    rw[Paired.length p2,length_map]
    have h0:=b7 (eK hI.O hI.G) st.Am.length
    have h1:=b7 (eJ (s:=st) hI.O) st.lanes.length
    have h2:=b7 (dF a st) st.lanes.length
    have hh:=b7 (dF a st) i
    try simp only[length_append]
    omega
   have l2:AZ.length <= 1000:=by rw[Paired.length hp,length_map];exact(dF a st) i
   obtain⟨q1,q2,q3⟩:=jm JZ s2 g2 p2 s3 hp
   refine⟨Fd,D,vs,AZ,rfl,rfl,s3 _ _ g2,gD,by rw[sizeLine_eq];omega,?_⟩
   refine⟨_,_,⟨vs ++ AZ,q1,q2,?_⟩,rfl⟩
   rw[eM]
   rw[← append_assoc];exact q3
  rintro σ2 H3 ⟨a22,a32,RJ,rfl⟩
  obtain⟨RK,Ws,g3',p3'⟩:=RJ
  have CB:=(hI.same W Ws).Y
  obtain⟨Wt,gl3,pl3⟩:=CB.BD
  have RL:Wt.length=st.lanes.length:=Paired.length pl3
  refine⟨_,rfl,a.y,ys.Aq,a.dy,_,_,rfl,CB.ins,Y.cl,Y.n3,rfl,a.la,_,rfl, .inl (Ap.of gl3),((Wt.length:Nat):Int),rfl,by omega,by omega,?_⟩
  rw[toNat_natCast,RL]
  refine bH (n:=st.lanes.length) (fun i σ H2=>∃ a2 a3:Option V,(∃ vs,An H H2/\H2 Fd=some (.lst vs)/\Paired (BL H2) vs ((((List.range st.Am.length).flatMap (iI a st) ++ (List.range st.lanes.length).flatMap (ja a st) ++ (List.range st.lanes.length).flatMap (fL a st)) ++ (List.range i).flatMap (e7 st)).map eI))/\σ=[some (.ref a.y),some (.ref Fd),a2,a3]) ?_ ?_ ?_
  ·exact⟨_,_,⟨RK,Ws,g3',by simpa using p3'⟩,rfl⟩
  ·rintro i σ H2 hi ⟨a2,a3,⟨vs,s2,g2,p2⟩,rfl⟩
   rw[zero_add]
   have C5:=hI.same W s2
   refine⟨_,rfl, .inl ⟨rfl,_,Ap.of g2⟩,_,rfl,a.y,a.dy,_,rfl,C5.Y.ins,rfl,_,rfl,a,st,i,rfl,C5,hi,fun D AZ H3 s3 hD gD hp=>?_⟩
   have l1:vs.length <= 1000000:=by
    rw[Paired.length p2,length_map]
    have h0:=b7 (eK hI.O hI.G) st.Am.length
    have h1:=b7 (eJ (s:=st) hI.O) st.lanes.length
    have h2:=b7 (dF a st) st.lanes.length
    have hh:=b7 (jV st) i
    try simp only[length_append]
    omega
   have l2:AZ.length <= 1000:=by rw[Paired.length hp,length_map];exact(jV st) i
   obtain⟨q1,q2,q3⟩:=jm JZ s2 g2 p2 s3 hp
   refine⟨Fd,D,vs,AZ,rfl,rfl,s3 _ _ g2,gD,by rw[sizeLine_eq];omega,?_⟩
   refine⟨_,_,⟨vs ++ AZ,q1,q2,?_⟩,rfl⟩
   rw[eM]
   rw[← append_assoc];exact q3
  rintro σ3 H4 ⟨a23,a33,RM,rfl⟩
  obtain⟨vs,s2,g2,p2⟩:=RM
  exact⟨_,rfl,q Fd vs _ s2 JZ g2 p2⟩
structure Mx (K:Frag):Prop where
 ss:kitOne K (.type "str") (.type "str")=some true
 ns:kitOne K (.type "int") (.type "str")=some false
 tt:kitOne K (.type "tuple") (.type "tuple")=some true
theorem iZ {a b:Str}(h:a ≠ b):decide (V.str a=V.str b)=false:=decide_eq_false fun z=>h (by injection z)
theorem jA (a:Str):decide (V.str a=V.str a)=true:=decide_eq_true rfl
noncomputable def tZ:Sp:=fun vs H Q _=>∃ (p:Addr)(xs:List V),vs=[.ref p]/\H p=some (.tup xs)/\xs.length <= 100/\(∀ x ∈ xs,(∃ t,x = .str t)∨∃ i,x = .int i)/\∀ H',An H H'->Q (.bl true) H'
noncomputable def xI (s:Stmt):Scope:=match s with
 | .Return (some (.BoolOp _ [_, .Call _ [.ListComp _ _ sc _] _ _] _)) _=>sc
 | _=>zQ0
theorem nN (m:Mv):(eI m).length <= 100/\∀ x ∈ eI m,(∃ t,x=V.str t)∨∃ i,x=V.int i:=by
 cases m<;>refine⟨by simp[eI],fun x hx=>?_⟩<;>simp only[eI,mem_cons,not_mem_nil,or_false]at hx
 ·rcases hx with rfl | rfl | rfl
  ·exact .inl ⟨_,rfl⟩
  ·exact .inr ⟨_,rfl⟩
  ·exact .inr ⟨_,rfl⟩
 ·rcases hx with rfl | rfl | rfl
  ·exact .inl ⟨_,rfl⟩
  ·exact .inr ⟨_,rfl⟩
  ·exact .inr ⟨_,rfl⟩
 ·rcases hx with rfl | rfl
  ·exact .inl ⟨_,rfl⟩
  ·exact .inr ⟨_,rfl⟩
 ·rcases hx with rfl | rfl
  ·exact .inl ⟨_,rfl⟩
  ·exact .inr ⟨_,rfl⟩
noncomputable def rn (a:YA)(s:YS):Mv->List Mv
 | .Bx k _=>iI a s k
 | .on k _=>ja a s k
 | .Ca k=>fL a s k
 | .back k=>e7 s k
noncomputable def yk (s:YS):Mv->Prop
 | .Bx k _=>k < s.Am.length
 | .on k _=>k < s.lanes.length
 | .Ca k=>k < s.lanes.length
 | .back k=>k < s.lanes.length
noncomputable def tV (K:Frag)(c:Cs)(TC:Addr)(J:TJ)(ys:Ys):Sp:=fun vs H Q _=>∃ (a:YA)(s:YS)(p:Addr)(m:Mv),vs=[.ref a.y, .ref p]/\C4 K c TC J ys H a s/\H p=some (.tup (eI m))/\yk s m /\
 ∀ (D:Addr)(AZ:List V)(H':Hp),An H H'->H D=none->H' D=some (.lst AZ)->Paired (BL H') AZ ((rn a s m).map eI)->Q (.ref D) H'
theorem RN:ao ["move"] ["move"] (af nk):=L2.AQ
theorem RO:Bi ["move"] (af nk) (xI ((aG nk).getD 0 (.Pass ⟨0,0,0,0⟩))) [] []:=L2.B0
theorem RP:(["thing"]:List Str).Nodup:=by decide +kernel
theorem xh {f fh:Addr}{fd dh:FuncData}(F:AM K "is_move" "is_move" nk f fd)(T:Txt mg)(Z:Mx K)(mh:mg "is_whole" = some (.ref fh))(kh:keepIn K (.ref fh)=true)(bh:Binds K dh ["value"] [])(G:Ao P w K mg base aA 1 fh dh ["value"] gZ) :
  Ao P w K mg base aA 2 f fd ["move"] tZ:=by
 refine F.ok RN (fun _ _ _ _ h=>?_) (fun _ _ _ s H _ Q E hr h=>?_)
 ·obtain⟨p,xs,rfl,_⟩:=h
  rfl
 ·obtain⟨p,xs,rfl,hp,hl,hx,q⟩:=h
  refine⟨_,ah (aq (eu (az eN rfl T.Hr PyProof.Rows.boot_isinstance (aa (pv 0) (aa (dU (v := .ty "tuple") rfl T.tuple PySem.Pv.boot_tuple rfl) ad)))
   (dZ (az (i4 rfl) rfl T.all PyProof.Rows.boot_all (aa (aS (own:=["thing"]) (capN:=[]) (cap:=[]) RO rfl (iE (pv 0)) (fun C s' H' fp=>⟨av (i:=0) RP rfl (Or.inl rfl),bc,
    Kv (az (show AS _ (.builtin "isinstance") (Lh K) from eN) rfl T.Hr PyProof.Rows.boot_isinstance (aa (pv 0) (aa (dU (v := .ty "str") rfl T.str PySem.Pv.boot_str rfl) ad))) (dZ (ap G hr rfl mh kh bh .nil al (aa (pv 0) ad)))⟩)) ad))))),?_⟩
  refine⟨_,rfl, .ref p,_, "tuple",true,rfl, .tup hp,Z.tt,true,rfl,aL ⟨_,rfl,p,rfl,⟨_,Ay.of hp⟩,?_⟩⟩
  refine aX xs.length (by rw[sizeLine_eq];omega) (fun i acc H'=>H' = H/\acc=(List.replicate i true).map V.bl) ⟨rfl,rfl⟩ (fun i acc H' h=>by rw[h.2];simp) (fun i acc H' hi h=>?_) (fun acc H' h=>?_)
  ·obtain⟨rfl,rfl⟩:=h
   refine⟨⟨xs,xs[i],Ay.of hp,getElem?_eq_getElem hi⟩,fun v H2 y=>?_⟩
   obtain⟨rfl,y⟩:=y
   have hv:=y xs (Ay.of hp)
   have e:(List.replicate i true).map V.bl ++ [V.bl true]=(List.replicate (i + 1) true).map V.bl:=by rw[replicate_succ',map_append];rfl
   rcases hx v (mem_of_getElem? hv) with ⟨t,rfl⟩ | ⟨z,rfl⟩
   ·exact⟨_,rfl, .str t,_, "str",true,rfl, .str t,Z.ss,true,rfl,aL ⟨rfl,e⟩⟩
   ·exact⟨_,rfl, .int z,_, "str",false,rfl, .int z,Z.ns,false,rfl,aE ⟨_,rfl, .int z,rfl, .int z,rfl,e⟩⟩
  ·obtain⟨rfl,rfl⟩:=h
   refine⟨⟨xs,Ay.of hp,le_refl _⟩,fun D hD=>⟨D,List.replicate xs.length true,rfl,Ap.of ac,?_⟩⟩
   have e:(List.replicate xs.length true).all id=true:=by rw[all_eq_true];intro b hb;rw[eq_of_mem_replicate hb];rfl
   rw[e]
   exact q _ ((An.refl H').new hD)
theorem RQ:ao ["self", "move"] ["self", "move"] (af uv):=L2.AQ
theorem xc {c:Cs}{ys:Ys}{J:TJ}{TC f fw fi fo fl fb fm fn:Addr}{fd dw di Dj dl db dm dn:FuncData}(F:AM K "moves_like" "Yard.moves_like" uv f fd)(T:Txt mg)(Y:gS K ys)(W:Wy K TC fw dw J)(M:RE P w K mg base c TC J ys fi fo fl fb di Dj dl db)
  (mm:mg "is_move" = some (.ref fm)) (km:keepIn K (.ref fm)=true) (bm:Binds K dm ["move"] []) (Gm:Ao P w K mg base aA 2 fm dm ["move"] tZ)
  (mn:mg "is_within" = some (.ref fn)) (kn:keepIn K (.ref fn)=true) (bn:Binds K dn ["value", "least", "most"] []) (Gn:Ao P w K mg base aA 2 fn dn ["value", "least", "most"] fS) :
  Ao P w K mg base aA 7 f fd ["self", "move"] (tV K c TC J ys):=by
 refine F.ok RQ (fun _ _ _ _ h=>?_) (fun _ _ _ s H _ Q E hr h=>?_)
 ·obtain⟨a,s,p,m,rfl,_⟩:=h
  rfl
 ·obtain⟨a,st,p,m,rfl,hI,hp,AD,q⟩:=h
  have AY:Ax 1 _:=hr.mono (by decide)
  have Bu:Ax 2 _:=hr.mono (by decide)
  have D3:Ax 4 _:=hr.mono (by decide)
  refine⟨_,ae (aP (fX (PW.pt (eG (bM (bF (ap Gm Bu rfl mm km bm .nil al (aa (pv 1) ad)))) (dc (au qV (az ay rfl T.len PySem.boot_len (aa (pv 1) ad)) ag (aw _)))))) (ah (aq (aO ad))) aD)
   (ae (aP (au bj (ax aF (pv 1) ag (fun _ _=>rfl)) aV (aw _))
    (ah (aq (ca (bF (ap Gn Bu rfl mn kn bn .nil al (aa (ax aF (pv 1) ag (fun _ _=>rfl)) (aa ag (aa (aB e6 (az ay rfl T.len PySem.boot_len (aa (am (pv 0) rfl) ad)) ag) ad)))))
     (aH (pv 0) Y.cl M.mi M.Gi D3 M.bi .nil al (aa (ax aF (pv 1) ag (fun _ _=>rfl)) ad)) (aO ad)))) aD)
   (ae (aP (bM (bF (ap Gn Bu rfl mn kn bn .nil al (aa (ax aF (pv 1) ag (fun _ _=>rfl)) (aa ag (aa (aB e6 (az ay rfl T.len PySem.boot_len (aa (am (pv 0) rfl) ad)) ag) ad)))))) (ah (aq (aO ad))) aD)
   (ae (aP (au bj (ax aF (pv 1) ag (fun _ _=>rfl)) aV (aw _)) (ah (aq (aH (pv 0) Y.cl M.mo M.Go hr M.bo .nil al (aa (ax aF (pv 1) ag (fun _ _=>rfl)) ad)))) aD)
   (ae (aP (au bj (ax aF (pv 1) ag (fun _ _=>rfl)) aV (aw _)) (ah (aq (aH (pv 0) Y.cl M.ml M.Gl Bu M.bl .nil al (aa (ax aF (pv 1) ag (fun _ _=>rfl)) ad)))) aD)
   (ah (aq (ca (au bj (ax aF (pv 1) ag (fun _ _=>rfl)) aV (aw _)) (aH (pv 0) Y.cl M.mb M.Gb AY M.bb .nil al (aa (ax aF (pv 1) ag (fun _ _=>rfl)) ad)) (aO ad)))))))),?_⟩
  refine⟨fun b H1=>b=false/\An H H1,?_,?_⟩
  ·refine⟨_,rfl,p,eI m,rfl,hp,(nN m).1,(nN m).2,fun H1 s1=>⟨_,rfl,aE ?_⟩⟩
   refine⟨_,rfl,p,_,rfl, .inr (Ay.of (s1 _ _ hp)),_,_,rfl,rfl,_,rfl,?_,s1⟩
   cases m<;>rfl
  rintro b H1 ⟨rfl,s1⟩
  refine aE ?_
  have DX:=hI.same W s1
  have AU:=s1 _ _ hp
  have q1:∀ (D:Addr)(AZ:List V)(H':Hp),An H1 H'->H1 D=none->H' D=some (.lst AZ)->Paired (BL H') AZ ((rn a st m).map eI)->Q (.ref D) H':=fun D AZ H' s' hD g' EG=>q D AZ H' (s1.trans s') (s1.free hD) g' EG
  have hY:=DX.Y
  obtain⟨Az,Bz,ple⟩:=hY.hle
  have hle:Az.length=st.Am.length:=Paired.length ple
  obtain⟨AB,Bs,EK⟩:=hY.BD
  have BD:AB.length=st.lanes.length:=Paired.length EK
  clear s1 q hp hI
  have inl:∀ k:Nat,k < st.lanes.length->kY (.int k) 0 (((AB.length:Nat):Int) - 1)=true:=fun k hk=>decide_eq_true (by omega)
  cases m with
  | Bx k l =>
   have AU:H1 p=some (.tup [.str "in", .int k, .int l]):=AU
   have AD:k < st.Am.length:=AD
   refine⟨_,rfl,p,_,0,_,rfl,rfl,Ay.of AU,ak (j:=0) rfl,rfl,_,rfl,?_⟩
   rw[jA]
   refine aL ⟨_,rfl,p,_,1,_,rfl,rfl,Ay.of AU,ak (j:=1) rfl,_,rfl,a.y,ys.Aq,a.dy,_,_,rfl,hY.ins,Y.cl,Y.n4,rfl,a.le,_,rfl, .inl (Ap.of Bz),_,_,rfl,rfl, .int k,0,((Az.length:Nat):Int) - 1,rfl, .int _,_,rfl,?_⟩
   rw[show kY (.int k) 0 (((Az.length:Nat):Int) - 1)=true from decide_eq_true (by omega)]
   exact aL ⟨_,rfl,a.y,a.dy,_,rfl,hY.ins,rfl,_,rfl,p,_,1,_,rfl,rfl,Ay.of AU,ak (j:=1) rfl,a,st,k,rfl,DX,AD,fun D AZ H' s' hD g' EG=>q1 D AZ H' s' hD g' EG⟩
  | on k l =>
   have AU:H1 p=some (.tup [.str "on", .int k, .int l]):=AU
   have AD:k < st.lanes.length:=AD
   refine⟨_,rfl,p,_,0,_,rfl,rfl,Ay.of AU,ak (j:=0) rfl,rfl,_,rfl,?_⟩
   rw[iZ (by decide +kernel)]
   refine aE ⟨_,rfl,p,_,1,_,rfl,rfl,Ay.of AU,ak (j:=1) rfl,_,rfl,a.y,ys.Aq,a.dy,_,_,rfl,hY.ins,Y.cl,Y.n3,rfl,a.la,_,rfl, .inl (Ap.of Bs),_,_,rfl,rfl, .int k,0,((AB.length:Nat):Int) - 1,rfl, .int _,_,rfl,?_⟩
   rw[inl k AD]
   refine aE ⟨_,rfl,p,_,0,_,rfl,rfl,Ay.of AU,ak (j:=0) rfl,rfl,_,rfl,?_⟩
   rw[jA]
   exact aL ⟨_,rfl,a.y,a.dy,_,rfl,hY.ins,rfl,_,rfl,p,_,1,_,rfl,rfl,Ay.of AU,ak (j:=1) rfl,a,st,k,rfl,DX,AD,fun D AZ H' s' hD g' EG=>q1 D AZ H' s' hD g' EG⟩
  | Ca k =>
   have AU:H1 p=some (.tup [.str "lie", .int k]):=AU
   have AD:k < st.lanes.length:=AD
   refine⟨_,rfl,p,_,0,_,rfl,rfl,Ay.of AU,ak (j:=0) rfl,rfl,_,rfl,?_⟩
   rw[iZ (by decide +kernel)]
   refine aE ⟨_,rfl,p,_,1,_,rfl,rfl,Ay.of AU,ak (j:=1) rfl,_,rfl,a.y,ys.Aq,a.dy,_,_,rfl,hY.ins,Y.cl,Y.n3,rfl,a.la,_,rfl, .inl (Ap.of Bs),_,_,rfl,rfl, .int k,0,((AB.length:Nat):Int) - 1,rfl, .int _,_,rfl,?_⟩
   rw[inl k AD]
   refine aE ⟨_,rfl,p,_,0,_,rfl,rfl,Ay.of AU,ak (j:=0) rfl,rfl,_,rfl,?_⟩
   rw[iZ (by decide +kernel)]
   refine aE ⟨_,rfl,p,_,0,_,rfl,rfl,Ay.of AU,ak (j:=0) rfl,rfl,_,rfl,?_⟩
   rw[jA]
   exact aL ⟨_,rfl,a.y,a.dy,_,rfl,hY.ins,rfl,_,rfl,p,_,1,_,rfl,rfl,Ay.of AU,ak (j:=1) rfl,a,st,k,rfl,DX,AD,fun D AZ H' s' hD g' EG=>q1 D AZ H' s' hD g' EG⟩
  | back k =>
   have AU:H1 p=some (.tup [.str "back", .int k]):=AU
   have AD:k < st.lanes.length:=AD
   refine⟨_,rfl,p,_,0,_,rfl,rfl,Ay.of AU,ak (j:=0) rfl,rfl,_,rfl,?_⟩
   rw[iZ (by decide +kernel)]
   refine aE ⟨_,rfl,p,_,1,_,rfl,rfl,Ay.of AU,ak (j:=1) rfl,_,rfl,a.y,ys.Aq,a.dy,_,_,rfl,hY.ins,Y.cl,Y.n3,rfl,a.la,_,rfl, .inl (Ap.of Bs),_,_,rfl,rfl, .int k,0,((AB.length:Nat):Int) - 1,rfl, .int _,_,rfl,?_⟩
   rw[inl k AD]
   refine aE ⟨_,rfl,p,_,0,_,rfl,rfl,Ay.of AU,ak (j:=0) rfl,rfl,_,rfl,?_⟩
   rw[iZ (by decide +kernel)]
   refine aE ⟨_,rfl,p,_,0,_,rfl,rfl,Ay.of AU,ak (j:=0) rfl,rfl,_,rfl,?_⟩
   rw[iZ (by decide +kernel)]
   refine aE ⟨_,rfl,p,_,0,_,rfl,rfl,Ay.of AU,ak (j:=0) rfl,rfl,_,rfl,?_⟩
   rw[jA]
   exact aL ⟨_,rfl,a.y,a.dy,_,rfl,hY.ins,rfl,_,rfl,p,_,1,_,rfl,rfl,Ay.of AU,ak (j:=1) rfl,a,st,k,rfl,DX,AD,fun D AZ H' s' hD g' EG=>q1 D AZ H' s' hD g' EG⟩
noncomputable def cO (ln:cW):cW:={ ln with b:=ln.b + 1,qs:=ln.qs.tail }
noncomputable def yi (ln:cW):cW:={ ln with r:=ln.r + 1,b:=ln.b - 1 }
inductive Cw (a:YA)(s:YS):Mv->YS->Prop
 | Bx {k l:Nat} {t:cI} {ln:cW} (ht:s.Am[k]? = some t) (hg:t.gone ≠ t.len) (hl:l ∈ dO a t) (AX:s.lanes[l]? = some ln) (ho:cN ln.r ln.h k t.gone=true) :
  Cw a s (.Bx k l) (e9 (oa s k t) k t.gone l { t with gone:=t.gone + 1 } ln)
 | on {k l m:Nat} {c:Int} {lk ln:cW} {t:cI} (hk:s.lanes[k]? = some lk) (hq:lk.qs.head? = some ((m:Int),c)) (ht:s.Am[m]? = some t) (hl:l ∈ dR a s k) (AX:(s.lanes.set k (cO lk))[l]? = some ln) (ho:cN ln.r ln.h m c=true) :
  Cw a s (.on k l) (e9 { s with lanes:=s.lanes.set k (cO lk) } m c l t ln)
 | Ca {k m e:Nat} {c:Int} {lk:cW} {t:cI} {qs:List (Int × Int)} (hk:s.lanes[k]? = some lk) (hq:lk.qs.head? = some ((m:Int),c)) (ht:s.Am[m]? = some t) (hg:t.goal=(e:Int)) (he:(a.ps.getD k (0,0)).2=(e:Int)) (Cy:s.lies[e]? = some qs) :
  Cw a s (.Ca k) { s with lanes:=s.lanes.set k (cO lk),lies:=s.lies.set e (qs ++ [((m:Int),c)]) }
 | back {k:Nat} {lk:cW} (hk:s.lanes[k]? = some lk) (hb:0 < lk.b):Cw a s (.back k) { s with lanes:=s.lanes.set k (yi lk) }
theorem Cw.done {a:YA}{s s':YS}{m:Mv}(h:Cw a s m s'):s'.done=s.done:=by
 cases h<;>rfl
structure RS (s:YS):Prop where
 q:∀ (k:Nat)(ln:cW),s.lanes[k]? = some ln->ln.qs.length <= 10000
 l:∀ (p:Nat)(qs:List (Int × Int)),s.lies[p]? = some qs->qs.length <= 10000
 d:s.done.length <= 100000
theorem jO {s:YS}{l:Nat}{m c:Int}(h:gn s l m c=true):∃ ln,s.lanes[l]? = some ln/\cN ln.r ln.h m c=true:=by
 unfold gn at h
 cases hl:s.lanes[l]? with
 | none=>rw[hl]at h;cases h
 | some ln=>rw[hl]at h;exact⟨ln,rfl,h⟩
theorem vp {a:YA}{s:YS}{k:Nat}{m:Mv}(h:m ∈ iI a s k):∃ l t ln,m = .Bx k l/\s.Am[k]? = some t/\t.gone ≠ t.len/\l ∈ dO a t/\s.lanes[l]? = some ln/\cN ln.r ln.h k t.gone=true:=by
 unfold iI at h
 cases ht:s.Am[k]? with
 | none=>rw[ht]at h;cases h
 | some t =>
  rw[ht]at h
  dsimp only at h
  by_cases hg:t.gone=t.len
  ·rw[if_pos hg]at h;cases h
  rw[if_neg hg]at h
  obtain⟨l,hl,rfl⟩:=mem_map.mp h
  obtain⟨h1,h2⟩:=mem_filter.mp hl
  obtain⟨ln,h3,h4⟩:=jO h2
  exact⟨l,t,ln,rfl,rfl,hg,h1,h3,h4⟩
theorem vo {a:YA}{s:YS}{k:Nat}{m:Mv}(h:m ∈ ja a s k):∃ l q lk ln,m = .on k l/\s.lanes[k]? = some lk/\lk.qs.head? = some q/\l ∈ dR a s k/\s.lanes[l]? = some ln/\cN ln.r ln.h q.1 q.2=true:=by
 unfold ja at h
 cases hq:cr s k with
 | none=>rw[hq]at h;cases h
 | some q =>
  rw[hq]at h
  dsimp only at h
  obtain⟨l,hl,rfl⟩:=mem_map.mp h
  obtain⟨h1,h2⟩:=mem_filter.mp hl
  obtain⟨ln,h3,h4⟩:=jO h2
  unfold cr at hq
  cases hk:s.lanes[k]? with
  | none=>rw[hk]at hq;cases hq
  | some lk=>rw[hk]at hq;exact⟨l,q,lk,ln,rfl,rfl,hq,h1,h3,h4⟩
theorem rj {a:YA}{s:YS}{k:Nat}{m:Mv}(h:m ∈ fL a s k):∃ q lk t,m = .Ca k/\s.lanes[k]? = some lk/\lk.qs.head? = some q/\s.Am[q.1.toNat]? = some t/\t.goal=(a.ps.getD k (0,0)).2:=by
 unfold fL at h
 cases hq:cr s k with
 | none=>rw[hq]at h;cases h
 | some q =>
  rw[hq]at h
  dsimp only at h
  cases ht:s.Am[q.1.toNat]? with
  | none=>rw[ht]at h;cases h
  | some t =>
   rw[ht]at h
   dsimp only at h
   by_cases hg:t.goal=(a.ps.getD k (0,0)).2
   ·rw[if_pos hg]at h
    have hm:m = .Ca k:=by simpa using h
    unfold cr at hq
    cases hk:s.lanes[k]? with
    | none=>rw[hk]at hq;cases hq
    | some lk=>rw[hk]at hq;exact⟨q,lk,t,hm,rfl,hq,ht,hg⟩
   ·rw[if_neg hg]at h;cases h
theorem nR {s:YS}{k:Nat}{m:Mv}(h:m ∈ e7 s k):∃ lk,m = .back k/\s.lanes[k]? = some lk/\0 < lk.b:=by
 unfold e7 at h
 cases hk:s.lanes[k]? with
 | none=>rw[hk]at h;cases h
 | some lk =>
  rw[hk]at h
  dsimp only at h
  by_cases hb:0 < lk.b
  ·rw[if_pos hb]at h;exact⟨lk,by simpa using h,rfl,hb⟩
  ·rw[if_neg hb]at h;cases h
theorem sM {a:YA}{s:YS}{m:Mv}(h:m ∈ b0 a s):yk s m/\m ∈ rn a s m:=by
 unfold b0 at h
 rw[mem_append,mem_append,mem_append]at h
 rcases h with ((h | h) | h) | h
 ·obtain⟨k,hk,h⟩:=mem_flatMap.mp h
  obtain⟨l,t,ln,rfl,_⟩:=vp h
  exact⟨mem_range.mp hk,h⟩
 ·obtain⟨k,hk,h⟩:=mem_flatMap.mp h
  obtain⟨l,q,lk,ln,rfl,_⟩:=vo h
  exact⟨mem_range.mp hk,h⟩
 ·obtain⟨k,hk,h⟩:=mem_flatMap.mp h
  obtain⟨q,lk,t,rfl,_⟩:=rj h
  exact⟨mem_range.mp hk,h⟩
 ·obtain⟨k,hk,h⟩:=mem_flatMap.mp h
  obtain⟨lk,rfl,_⟩:=nR h
  exact⟨mem_range.mp hk,h⟩
noncomputable def sJ:Mv->PyData
 | .Bx k l => .tuple [.str "in", .int k, .int l]
 | .on k l => .tuple [.str "on", .int k, .int l]
 | .Ca k => .tuple [.str "lie", .int k]
 | .back k => .tuple [.str "back", .int k]
theorem fV {x:Str}(h:PyData.strOk x=true):BZ (.str x) 0:=⟨by simp[PyData.canLay0,h],by simp[PyData.depth]⟩
theorem j7 (m:Mv):BZ (sJ m) 1:=by
 cases m<;>refine cP (m:=0) fun y hy=>?_<;>simp only[mem_cons,not_mem_nil,or_false]at hy
 ·rcases hy with rfl | rfl | rfl
  ·exact fV (by decide +kernel)
  ·exact bE _
  ·exact bE _
 ·rcases hy with rfl | rfl | rfl
  ·exact fV (by decide +kernel)
  ·exact bE _
  ·exact bE _
 ·rcases hy with rfl | rfl
  ·exact fV (by decide +kernel)
  ·exact bE _
 ·rcases hy with rfl | rfl
  ·exact fV (by decide +kernel)
  ·exact bE _
theorem vJ {K:Frag}{H:Hp}{p:Addr}(m:Mv)(h:H p=some (.tup (eI m))):Den K H (.ref p) (sJ m):=by
 cases m<;>refine .tup (Ay.of h) ?_
 ·exact .cons (.str _) (.cons (.int _) (.cons (.int _) .nil))
 ·exact .cons (.str _) (.cons (.int _) (.cons (.int _) .nil))
 ·exact .cons (.str _) (.cons (.int _) .nil)
 ·exact .cons (.str _) (.cons (.int _) .nil)
theorem gb {K:Frag}{H:Hp}:∀ {vs:List V}{ms:List Mv},Paired (BL H) vs (ms.map eI)->AO K H vs (ms.map sJ)
 | [],[],_ => .nil
 | _ :: _,m :: ms, .cons ⟨t,e,h⟩ r=>by subst e;exact .cons (vJ m h) (gb r)
 | [],_ :: _,h=>by cases h
 | _ :: _,[],h=>by cases h
theorem Ae {m:Mv}{ms:List Mv}(h:m ∈ ms):((ms.map sJ).any fun y=>PyData.eqv y (sJ m))=true:=by
 rw[any_eq_true]
 exact⟨sJ m,mem_map.mpr ⟨m,h,rfl⟩,SeqAt.eqv_refl _ (j7 m).1⟩
noncomputable def uc (K:Frag)(c:Cs)(TC:Addr)(J:TJ)(ys:Ys):Sp:=fun vs H Q _=>∃ (a:YA)(s:YS)(p:Addr)(m:Mv),vs=[.ref a.y, .ref p]/\C4 K c TC J ys H a s/\H p=some (.tup (eI m))/\m ∈ b0 a s/\RS s /\
 ∀ (H':Hp)(s':YS),Cw a s m s'->AA a.four H H'->Bf K ys H' a { s' with done:=s.done ++ [eI m] }->Q .AG H'
structure Wu (P:Program)(w:World)(K:Frag)(mg:Str->Option Value)(base:Heap)(c:Cs)(TC:Addr)(J:TJ)(ys:Ys)(fk fg fe fp fb fy:Addr)(dk dg de dp db dy:FuncData):Prop where
 mk':bB K ys.Aq "moves_like" fk
 bk:Binds K dk ["self", "move"] []
 Gk:Ao P w K mg base aA 7 fk dk ["self", "move"] (tV K c TC J ys)
 mg':bB K ys.Aq "go_in" fg
 bg:Binds K dg ["self", "number", "lane"] []
 Gg:Ao P w K mg base aA 6 fg dg ["self", "number", "lane"] (ua K ys)
 me:bB K ys.Aq "enter" fe
 be:Binds K de ["self", "piece", "lane"] []
 Ge:Ao P w K mg base aA 5 fe de ["self", "piece", "lane"] (lO K ys)
 mp:bB K ys.AI "pull" fp
 bp:Binds K dp ["self"] []
 Gp:Ao P w K mg base aA 1 fp dp ["self"] (pk ys.AI)
 mb:bB K ys.AI "bring" fb
 bb:Binds K db ["self"] []
 Gb:Ao P w K mg base aA 1 fb db ["self"] (qO ys.AI)
 my:bB K ys.Aq "lay" fy
 RT:Binds K dy ["self", "piece", "place"] []
 Gy:Ao P w K mg base aA 1 fy dy ["self", "piece", "place"] (yc K ys)
theorem RU:ao ["self", "move"] ["self", "move"] (af QW):=L2.AQ
theorem Mz {c:Cs}{ys:Ys}{J:TJ}{TC f fw fl ft fpu fk fg fe fp fb fy Wv:Addr}{fd dw dl dt dpu dk dg de dp db dy den:FuncData}(F:AM K "do" "Yard.do" QW f fd)(Y:gS K ys)(L:rW K c)(W:Wy K TC fw dw J)(O:Own P w K mg base ys fl ft fpu dl dt dpu)
  (D:Wu P w K mg base c TC J ys fk fg fe fp fb fy dk dg de dp db dy) (Me:xO K c Wv den) (Gen:Ao P w K mg base aA 1 Wv den ["self", "lane"] (wt c Prod.snd)) :
  Ao P w K mg base aA 8 f fd ["self", "move"] (uc K c TC J ys):=by
 refine F.ok RU (fun _ _ _ _ h=>?_) (fun _ _ _ s H _ Q E hr h=>?_)
 ·obtain⟨a,s,p,m,rfl,_⟩:=h
  rfl
 ·obtain⟨a,st,p,m,rfl,hI,hp,hm,hS,q⟩:=h
  have hu:=hr.units
  have AY:Ax 1 _:=hr.mono (by decide)
  have D3:Ax 4 _:=hr.mono (by decide)
  have GL:Ax 5 _:=hr.mono (by decide)
  have Fu:Ax 6 _:=hr.mono (by decide)
  refine⟨_,ae (aP (au (sr hu) (pv 1) (aH (pv 0) Y.cl D.mk' D.Gk hr D.bk .nil al (aa (pv 1) ad)) (by with_unfolding_all rfl)) (ah b5) aD)
   (ae (jj (aP (au bj (ax aF (pv 1) ag (fun _ _=>rfl)) aV (aw _))
    (ah (aN (aH (pv 0) Y.cl D.mg' D.Gg Fu D.bg .nil al (aa (ax aF (pv 1) ag (fun _ _=>rfl)) (aa (ax aF (pv 1) ag (fun _ _=>rfl)) ad)))))
    (ah (aP (au bj (ax aF (pv 1) ag (fun _ _=>rfl)) aV (aw _))
     (ah (aN (aH (pv 0) Y.cl D.me D.Ge GL D.be .nil al (aa (bu (aH (pv 0) Y.cl O.ml O.Gl D3 O.bl .nil al (aa (ax aF (pv 1) ag (fun _ _=>rfl)) ad)) Y.L.cl D.mp D.Gp AY D.bp .nil al) (aa (ax aF (pv 1) ag (fun _ _=>rfl)) ad)))))
     (ah (aP (au bj (ax aF (pv 1) ag (fun _ _=>rfl)) aV (aw _))
      (ah (aN (aH (pv 0) Y.cl D.my D.Gy AY D.RT .nil al (aa (bu (aH (pv 0) Y.cl O.ml O.Gl D3 O.bl .nil al (aa (ax aF (pv 1) ag (fun _ _=>rfl)) ad)) Y.L.cl D.mp D.Gp AY D.bp .nil al) (aa (aH (am (am (pv 0) rfl) rfl) L.cl Me.m Gen AY Me.b .nil al (aa (ax aF (pv 1) ag (fun _ _=>rfl)) ad)) ad)))))
      (ah (aN (bu (aH (pv 0) Y.cl O.ml O.Gl D3 O.bl .nil al (aa (ax aF (pv 1) ag (fun _ _=>rfl)) ad)) Y.L.cl D.mb D.Gb AY D.bb .nil al)))))))))
   (ah (aN (bJ plainAttrs_list PySem.F.slot_list_append PySem.F.type_list_append bG (am (pv 0) rfl) (aa (pv 1) ad))))),?_⟩
  obtain⟨AD,M0⟩:=sM hm
  refine⟨_,rfl,_,rfl,a.y,a.dy,_,rfl,hI.Y.ins,rfl,_,rfl,a,st,p,m,rfl,hI,hp,AD,fun Dl AZ H1 s1 RV gDl Cr=>?_⟩
  refine⟨Dl,AZ,sJ m,(rn a st m).map sJ,rfl,vJ m (s1 _ _ hp),Ap.of gDl,gb Cr,(j7 m).le (by decide),fun z hz=>by obtain⟨m',_,rfl⟩:=mem_map.mp hz;exact(j7 m').le (by decide),_,rfl,?_⟩
  rw[Ae M0]
  refine aE ?_
  have DX:=hI.same W s1
  have AU:=s1 _ _ hp
  have hY:=DX.Y
  refine⟨fun σ' H'=>σ' = start ["self", "move"] [.ref a.y, .ref p]/\∃ s',Cw a st m s'/\AA a.four H1 H'/\Bf K ys H' a s',?_,?_⟩
  ·
   have Fv:∀ (k:Nat)(lk:cW)(pq:Int × Int),st.lanes[k]? = some lk->lk.qs.head? = some pq->∀ (AB:List V),H1 a.la=some (.lst AB)->∀ (x dx pa:Addr)(AJ:List V)(H2:Hp),AA [a.la] H1 H2->H1 x=none->H1 pa=none->H2 a.la=some (.lst (AB.set k (.ref x)))->AK H2 ys.AI x dx pa lk.r lk.b lk.h AJ lk.qs ->
     ∀ (Q':VK)(E':XK),(∀ (v:V)(H3:Hp),wb H3 v pq->AA [a.la] H1 H3->Bf K ys H3 a { st with lanes:=st.lanes.set k (cO lk) }->Q' v H3)->pk ys.AI [.ref x] H2 Q' E':=by
    intro k lk pq hk hq AB Bs x dx pa AJ H2 o2 nx np g2 CC Q' E' hQ
    refine⟨x,dx,pa,lk.r,lk.b,lk.h,AJ,lk.qs,rfl,CC,fun e0=>?_,fun v rest ev H3 o3 Fc=>?_⟩
    ·exfalso
     have hl:=Paired.length CC.B4
     rw[e0]at hl
     cases Cy:lk.qs with
     | nil=>rw[Cy]at hq;cases hq
     | cons _ _=>rw[Cy]at hl;cases hl
    ·have o4:AA [a.la] H1 H3:=fun b o nb e=>o3 b o (aj e nx) (aj e np) (o2 b o nb e)
     refine hQ v H3 ?_ o4 (Bf.CW hY Bs o4 (k:=k) (x:=x) (dx:=dx) (pa:=pa) (o3 _ _ (aj Bs nx) (aj Bs np) g2) (ln:=cO lk) Fc np)
     have hz:=BC.Fb o3 CC.ins CC.lst CC.B4
     rw[ev]at hz
     cases Cy:lk.qs with
     | nil=>rw[Cy]at hq;cases hq
     | cons q0 r0 =>
      rw[Cy]at hq hz
      cases hq
      cases hz with
      | cons z _=>exact z
   obtain⟨AB,Bs,EK⟩:=hY.BD
   have p3:∀ {H3:Hp}{ex:List Addr}{xs:List V},H1 p=some (.tup xs)->AA ex H1 H3->(∀ b ∈ ex,b ∈ a.four)->H3 p=some (.tup xs):=fun h o he=>o _ _ (fun z=>by obtain⟨xs,hz⟩:=hY.Bw _ (he _ z);rw[h]at hz;cases hz) h
   cases m with
   | Bx k l =>
    have AU:H1 p=some (.tup [.str "in", .int k, .int l]):=AU
    obtain⟨l',t,ln,e0,ht,hg,hl,AX,ho⟩:=vp (show Mv.Bx k l ∈ iI a st k from M0)
    cases e0
    refine⟨_,rfl,p,_,0,_,rfl,rfl,Ay.of AU,ak (j:=0) rfl,rfl,_,rfl,?_⟩
    rw[jA]
    refine aL ⟨_,rfl,a.y,a.dy,_,rfl,hY.ins,rfl,_,rfl,p,_,1,_,rfl,rfl,Ay.of AU,ak (j:=1) rfl,_,rfl,p,_,2,_,rfl,rfl,Ay.of AU,ak (j:=2) rfl,a,st,k,l,t,ln,rfl,hY,ht,AX,ho,(hI.G.B6 k t ht).2,lt_of_le_of_lt (hS.q l ln AX) (by decide),fun H' o' GI=>⟨rfl,_,Cw.Bx ht hg hl AX ho,o'.mono (by simp),GI⟩⟩
   | on k l =>
    have AU:H1 p=some (.tup [.str "on", .int k, .int l]):=AU
    obtain⟨l',pq,lk,ln,e0,hk,hq,hl,AX,ho⟩:=vo (show Mv.on k l ∈ ja a st k from M0)
    cases e0
    obtain⟨m,t,em,ht,Ja⟩:=hI.G.B4 k lk hk pq (mem_of_head? hq)
    obtain⟨m0,cq⟩:=pq
    have em:m0=(m:Int):=em
    subst em
    refine⟨_,rfl,p,_,0,_,rfl,rfl,Ay.of AU,ak (j:=0) rfl,rfl,_,rfl,?_⟩
    rw[iZ (by decide +kernel)]
    refine aE ⟨_,rfl,p,_,0,_,rfl,rfl,Ay.of AU,ak (j:=0) rfl,rfl,_,rfl,?_⟩
    rw[jA]
    refine aL ⟨_,rfl,a.y,a.dy,_,rfl,hY.ins,rfl,_,rfl,a.y,a.dy,_,rfl,hY.ins,rfl,_,rfl,p,_,1,_,rfl,rfl,Ay.of AU,ak (j:=1) rfl,a,st,k,lk,AB,rfl,hY,hk,Bs,fun x dx pa AJ H2 o2 nx np g2 CC=>⟨x,dx,_,rfl,CC.ins,rfl,Fv k lk _ hk hq AB Bs x dx pa AJ H2 o2 nx np g2 CC _ (fun _ _ _=>False) fun v H3 hv o3 CB=>?_⟩⟩
    have JM:=p3 AU o3 (by simp)
    have C3:k < st.lanes.length:=(gQ0 hk)
    obtain⟨ln2,M1,er,eh,eq⟩:∃ ln2,(st.lanes.set k (cO lk))[l]? = some ln2/\ln2.r=ln.r/\ln2.h=ln.h/\ln2.qs.length <= 10000:=by
     by_cases M3:k=l
     ·subst M3
      rw[hk]at AX
      cases AX
      refine⟨cO lk,by simp[C3],rfl,rfl,?_⟩
      have:=hS.q k lk hk
      show lk.qs.tail.length <= 10000
      rw[List.length_tail];omega
     ·exact⟨ln,by rw[getElem?_set_ne M3];exact AX,rfl,rfl,hS.q l ln AX⟩
    have B9:cN ln2.r ln2.h m cq=true:=by rw[er,eh];exact ho
    refine⟨_,rfl,p,_,2,_,rfl,rfl,Ay.of JM,ak (j:=2) rfl,a,{ st with lanes:=st.lanes.set k (cO lk) },v,m,cq,l,t,ln2,rfl,CB,hv,ht,M1,B9,(hI.G.B6 m t ht).2,lt_of_le_of_lt eq (by decide),fun H' o' GI=>⟨rfl,_,Cw.on hk hq ht hl M1 B9,(o3.mono (by simp)).trans (o'.mono (by simp)),GI⟩⟩
   | Ca k =>
    have AU:H1 p=some (.tup [.str "lie", .int k]):=AU
    obtain⟨pq,lk,t0,e0,hk,hq,HQ,hg⟩:=rj (show Mv.Ca k ∈ fL a st k from M0)
    obtain⟨m,t,em,ht,Ja⟩:=hI.G.B4 k lk hk pq (mem_of_head? hq)
    obtain⟨m0,cq⟩:=pq
    have em:m0=(m:Int):=em
    subst em
    have HQ:st.Am[m]? = some t0:=by rw[← HQ];rfl
    rw[ht]at HQ
    cases HQ
    have C3:k < st.lanes.length:=(gQ0 hk)
    have JY:k < a.ps.length:=by rw[← hI.G.lanes];exact C3
    have he:=getElem?_eq_getElem JY
    have HS:a.ps.getD k (0,0)=a.ps[k]:=by rw[getD_eq_getElem?_getD,he];rfl
    obtain⟨e,ee,Ms⟩:=hI.O.ends k _ he
    rw[HS,ee]at hg
    have hel:e < st.lies.length:=by rw[hI.G.lies];exact Ms
    have Cy:=getElem?_eq_getElem hel
    refine⟨_,rfl,p,_,0,_,rfl,rfl,Ay.of AU,ak (j:=0) rfl,rfl,_,rfl,?_⟩
    rw[iZ (by decide +kernel)]
    refine aE ⟨_,rfl,p,_,0,_,rfl,rfl,Ay.of AU,ak (j:=0) rfl,rfl,_,rfl,?_⟩
    rw[iZ (by decide +kernel)]
    refine aE ⟨_,rfl,p,_,0,_,rfl,rfl,Ay.of AU,ak (j:=0) rfl,rfl,_,rfl,?_⟩
    rw[jA]
    refine aL ⟨_,rfl,a.y,a.dy,_,rfl,hY.ins,rfl,_,rfl,a.y,a.dy,_,rfl,hY.ins,rfl,_,rfl,p,_,1,_,rfl,rfl,Ay.of AU,ak (j:=1) rfl,a,st,k,lk,AB,rfl,hY,hk,Bs,fun x dx pa AJ H2 o2 nx np g2 CC=>⟨x,dx,_,rfl,CC.ins,rfl,Fv k lk _ hk hq AB Bs x dx pa AJ H2 o2 nx np g2 CC _ (fun _ _ _=>False) fun v H3 hv o3 CB=>?_⟩⟩
    have JM:=p3 AU o3 (by simp)
    have IE:Rz c TC J H3 a:=BH.keep W DX.T (AA.AF (fun b hb=>by simp at hb;subst hb;exact⟨_,Bs⟩) o3)
    obtain⟨Fe,fst,EH,B5,D5⟩:=IE.i
    refine⟨_,rfl,a.y,ys.Aq,a.dy,_,_,rfl,CB.ins,Y.cl,Y.n1,rfl,a.tb,TC,Fe,fst,_,rfl,EH,W.cl,W.nl,B5,a.lx,a.AL,_,rfl,IE.l.1,rfl,_,rfl,p,_,1,_,rfl,rfl,Ay.of JM,ak (j:=1) rfl,a.lx,a.AL,a.lt,(a.n:Int),a.Az,a.ps,k,_,rfl,IE.l,he,?_⟩
    rw[ee]
    exact⟨a,{ st with lanes:=st.lanes.set k (cO lk) },v,((m:Int),cq),e,_,rfl,CB,hv,Cy,le_trans (hS.l e _ Cy) (by decide),fun H' o' GI=>⟨rfl,_,Cw.Ca hk hq ht hg (by rw[HS,ee]) Cy,(o3.mono (by simp)).trans (o'.mono (by simp)),GI⟩⟩
   | back k =>
    have AU:H1 p=some (.tup [.str "back", .int k]):=AU
    obtain⟨lk,e0,hk,hb⟩:=nR (show Mv.back k ∈ e7 st k from M0)
    refine⟨_,rfl,p,_,0,_,rfl,rfl,Ay.of AU,ak (j:=0) rfl,rfl,_,rfl,?_⟩
    rw[iZ (by decide +kernel)]
    refine aE ⟨_,rfl,p,_,0,_,rfl,rfl,Ay.of AU,ak (j:=0) rfl,rfl,_,rfl,?_⟩
    rw[iZ (by decide +kernel)]
    refine aE ⟨_,rfl,p,_,0,_,rfl,rfl,Ay.of AU,ak (j:=0) rfl,rfl,_,rfl,?_⟩
    rw[iZ (by decide +kernel)]
    refine aE ⟨_,rfl,a.y,a.dy,_,rfl,hY.ins,rfl,_,rfl,p,_,1,_,rfl,rfl,Ay.of AU,ak (j:=1) rfl,a,st,k,lk,AB,rfl,hY,hk,Bs,fun x dx pa AJ H2 o2 nx np g2 CC=>⟨x,dx,_,rfl,CC.ins,rfl,x,dx,pa,lk.r,lk.b,lk.h,AJ,lk.qs,rfl,CC,(fun e0=>by rw[e0]at hb;exact absurd hb (by decide)),fun _ H3 o3 Fc=>?_⟩⟩
    have o4:AA [a.la] H1 H3:=fun b o nb e=>o3 b o (aj e nx) (aj e np) (o2 b o nb e)
    exact⟨rfl,_,Cw.back hk hb,o4.mono (by simp),Bf.CW hY Bs o4 (k:=k) (x:=x) (dx:=dx) (pa:=pa) (o3 _ _ (aj Bs nx) (aj Bs np) g2) (ln:=yi lk) Fc np⟩
  ·rintro σ' H2 ⟨rfl,s',hs,o2,D7⟩
   obtain⟨dvs,HK,pd⟩:=D7.Cd
   have DU:dvs.length=st.done.length:=by rw[Paired.length pd,hs.done]
   have JT:H2 p=some (.tup (eI m)):=o2 _ _ (fun z=>by obtain⟨xs,hz⟩:=hY.Bw _ z;rw[AU]at hz;cases hz) AU
   have hd:=hS.d
   refine⟨_,rfl,a.y,ys.Aq,a.dy,_,_,rfl,D7.ins,Y.cl,Y.n6,rfl, .inl ⟨rfl,_,Ap.of HK⟩,_,rfl,a.dn,_,_,rfl,rfl,HK,by rw[sizeLine_eq];omega,?_⟩
   have CB:=D7.HI HK ⟨p,rfl,JT⟩
   rw[hs.done]at CB
   exact q _ s' hs ((An.AW s1).trans (o2.trans (cT (by simp)))) CB
theorem ga {α:Type}{L:List α}{k j:Nat}{y z:α}(h:(L.set k y)[j]? = some z):(j=k/\z=y)∨(j ≠ k/\L[j]? = some z):=by
 by_cases e:k=j
 ·subst e
  rw[List.getElem?_set_self']at h
  cases hk:L[k]? with
  | none=>rw[hk]at h;cases h
  | some x=>rw[hk]at h;cases h;exact .inl ⟨rfl,rfl⟩
 ·rw[getElem?_set_ne e]at h
  exact .inr ⟨Ne.symm e,h⟩
theorem jg {α:Type}{L:List α}{k:Nat}{x y:α}(h:L[k]? = some x):(L.set k y)[k]? = some y:=by
 have:=(gQ0 h)
 simp[this]
theorem fA {α:Type}(f:α->Nat):∀ {L:List α}{k:Nat}{x y:α},L[k]? = some x->((L.set k y).map f).sum + f x=(L.map f).sum + f y
 | [],_,_,_,h=>by cases h
 | z :: L,0,x,y,h=>by cases h;simp only[List.set_cons_zero,map_cons,sum_cons];omega
 | z :: L,k + 1,x,y,h=>by
  have:=fA f (L:=L) (k:=k) (x:=x) (y:=y) h
  simp only[List.set_cons_succ,map_cons,sum_cons];omega
theorem jx {α:Type}(f:α->Int):∀ {L:List α}{k:Nat}{x y:α},L[k]? = some x->((L.set k y).map f).sum + f x=(L.map f).sum + f y
 | [],_,_,_,h=>by cases h
 | z :: L,0,x,y,h=>by cases h;simp only[List.set_cons_zero,map_cons,sum_cons];omega
 | z :: L,k + 1,x,y,h=>by
  have:=jx f (L:=L) (k:=k) (x:=x) (y:=y) h
  simp only[List.set_cons_succ,map_cons,sum_cons];omega
noncomputable def oi (a:YA)(l:Nat):Int:=(a.ps.getD l (0,0)).2
noncomputable def kH (s:YS):Nat:=(s.lanes.map fun ln=>ln.qs.length).sum
noncomputable def jy (s:YS):Nat:=(s.lies.map fun qs=>qs.length).sum
noncomputable def gF (s:YS):Int:=(s.Am.map fun t=>t.gone).sum
structure OP (a:YA)(s:YS)(m:Nat)(c:Int):Prop where
 lanes:s.lanes.length=a.ps.length
 lies:s.lies.length=a.n
 Ba:s.Am.length <= 60
 EL:a.ps.length <= 40
 lets:∀ (m:Nat)(t:cI),s.Am[m]? = some t->∃ x y:Nat,t.start=(x:Int)/\t.goal=(y:Int)/\x < a.n/\y < a.n
 B6:∀ (m:Nat)(t:cI),s.Am[m]? = some t->(∀ l ∈ t.way,l < a.ps.length)/\t.way.Nodup
 B4:∀ (k:Nat)(ln:cW),s.lanes[k]? = some ln->∀ q ∈ ln.qs,∃ (m:Nat)(t:cI),q.1=(m:Int)/\s.Am[m]? = some t/\k ∈ t.way
 Cz:∀ (m:Nat)(t:cI),s.Am[m]? = some t->0 <= t.gone/\t.gone <= t.len/\t.len <= 60
 B7:∀ (m':Nat)(t:cI),s.Am[m']? = some t->t.gone=0->t.way=[]/\m' ≠ m
 last:∀ (m:Nat)(t:cI),s.Am[m]? = some t->∀ (i l:Nat),t.way[i]? = some l->oi a l=t.goal->i + 1=t.way.length
 head:∀ (m':Nat)(t:cI),s.Am[m']? = some t->∀ (l:Nat)(ln:cW),t.way.getLast? = some l->s.lanes[l]? = some ln->(m' = m/\c=0)∨((m':Int),(0:Int)) ∈ ln.qs∨oi a l=t.goal
 first:∀ (k:Nat)(ln:cW),s.lanes[k]? = some ln->∀ (i j:Nat)(z:Int)(q:Int × Int),ln.qs[i]? = some (z,0)->j < i->ln.qs[j]? = some q->q.1 ≠ z
 EM:∀ (k:Nat)(ln:cW),s.lanes[k]? = some ln->∀ (m':Nat)(t:cI),((m':Int),(0:Int)) ∈ ln.qs->s.Am[m']? = some t->t.way.getLast? = some k
 gone:c=0->∀ (k:Nat)(ln:cW),s.lanes[k]? = some ln->((m:Int),(0:Int)) ∉ ln.qs
 sum:(kH s:Int) + (jy s:Int) + 1=gF s
structure Br (a:YA)(s:YS):Prop where
 lanes:s.lanes.length=a.ps.length
 lies:s.lies.length=a.n
 Ba:s.Am.length <= 60
 EL:a.ps.length <= 40
 lets:∀ (m:Nat)(t:cI),s.Am[m]? = some t->∃ x y:Nat,t.start=(x:Int)/\t.goal=(y:Int)/\x < a.n/\y < a.n
 B6:∀ (m:Nat)(t:cI),s.Am[m]? = some t->(∀ l ∈ t.way,l < a.ps.length)/\t.way.Nodup
 B4:∀ (k:Nat)(ln:cW),s.lanes[k]? = some ln->∀ q ∈ ln.qs,∃ (m:Nat)(t:cI),q.1=(m:Int)/\s.Am[m]? = some t/\k ∈ t.way
 Cz:∀ (m:Nat)(t:cI),s.Am[m]? = some t->0 <= t.gone/\t.gone <= t.len/\t.len <= 60
 B7:∀ (m':Nat)(t:cI),s.Am[m']? = some t->t.gone=0->t.way=[]
 last:∀ (m:Nat)(t:cI),s.Am[m]? = some t->∀ (i l:Nat),t.way[i]? = some l->oi a l=t.goal->i + 1=t.way.length
 head:∀ (m':Nat)(t:cI),s.Am[m']? = some t->∀ (l:Nat)(ln:cW),t.way.getLast? = some l->s.lanes[l]? = some ln->((m':Int),(0:Int)) ∈ ln.qs∨oi a l=t.goal
 first:∀ (k:Nat)(ln:cW),s.lanes[k]? = some ln->∀ (i j:Nat)(z:Int)(q:Int × Int),ln.qs[i]? = some (z,0)->j < i->ln.qs[j]? = some q->q.1 ≠ z
 EM:∀ (k:Nat)(ln:cW),s.lanes[k]? = some ln->∀ (m':Nat)(t:cI),((m':Int),(0:Int)) ∈ ln.qs->s.Am[m']? = some t->t.way.getLast? = some k
 sum:(kH s:Int) + (jy s:Int)=gF s
theorem iG:∀ (n:Nat)(l:List Nat),l.Nodup->(∀ x ∈ l,x < n)->l.length <= n
 | 0,l,_,h=>by
  cases l with
  | nil=>exact le_refl _
  | cons x _=>exact absurd (h x mem_cons_self) (by omega)
 | n + 1,l,hn,h=>by
  have h1:=iG n (l.filter fun x=>decide (x ≠ n)) (hn.filter _) fun x hx=>by
   obtain⟨a,b⟩:=mem_filter.mp hx
   have:=h x a
   have:=of_decide_eq_true b
   omega
  have h2:l.length <= (l.filter fun x=>decide (x ≠ n)).length + 1:=by
   clear h1 h
   induction l with
   | nil=>exact zero_le _
   | cons x l ih =>
    rw[nodup_cons]at hn
    by_cases e:x=n
    ·subst e
     have:(l.filter fun y=>decide (y ≠ x))=l:=filter_eq_self.mpr fun y hy=>decide_eq_true fun z=>hn.1 (z ▸ hy)
     rw[List.filter_cons_of_neg (by simp),this]
     exact le_refl _
    ·rw[List.filter_cons_of_pos (by simpa using e)]
     have:=ih hn.2
     simp only[length_cons]
     omega
  omega
theorem Br.ok {a:YA}{s:YS}(h:Br a s):R5 a s:=⟨h.lanes,h.lies,h.lets,fun m t ht=>⟨(h.B6 m t ht).1,by have:=iG _ _ (h.B6 m t ht).2 (h.B6 m t ht).1;have:=h.EL;omega⟩,h.B4,h.Ba⟩
theorem vm {α:Type}{x:α}{l:List α}(h:x ∈ l.tail):x ∈ l:=List.mem_of_mem_tail h
theorem vA {α:Type}{l:List α}{x:α}(h:l.head? = some x):l[0]? = some x:=by cases l with
 | nil=>cases h
 | cons y r=>exact h
theorem rk {α:Type}{l:List α}{x:α}(h:x ∈ l):∃ i:Nat,l[i]? = some x:=by
 obtain⟨i,hi,e⟩:=getElem_of_mem h
 exact⟨i,by rw[getElem?_eq_getElem hi,e]⟩
theorem mX {α:Type}(l:List α)(i:Nat):l.tail[i]? = l[i + 1]?:=by cases l with
 | nil=>simp
 | cons y r=>rfl
theorem nQ {a:YA}{s:YS}{k m:Nat}{c:Int}{lk:cW}(J:Br a s)(hk:s.lanes[k]? = some lk)(hq:lk.qs.head? = some ((m:Int),c)):OP a { s with lanes:=s.lanes.set k (cO lk) } m c:=by
 have h0:=vA hq
 have Bx:∀ (j:Nat)(BE:cW),(s.lanes.set k (cO lk))[j]? = some BE->∃ ln,s.lanes[j]? = some ln/\(∀ q ∈ BE.qs,q ∈ ln.qs)/\∃ d,(∀ i,BE.qs[i]? = ln.qs[i + d]?)/\(BE.qs=ln.qs∨(j=k/\ln=lk/\BE.qs=lk.qs.tail)):=fun j BE h=>by
  rcases ga h with ⟨rfl,rfl⟩ | ⟨ne,h⟩
  ·exact⟨lk,hk,fun q hq=>vm hq,1,fun i=>mX _ i, .inr ⟨rfl,rfl,rfl⟩⟩
  ·exact⟨BE,h,fun q hq=>hq,0,fun i=>rfl, .inl rfl⟩
 have keep:∀ (j:Nat)(ln:cW),s.lanes[j]? = some ln->∃ BE,(s.lanes.set k (cO lk))[j]? = some BE/\∀ q ∈ ln.qs,q=((m:Int),c)∨q ∈ BE.qs:=fun j ln h=>by
  by_cases e:j=k
  ·subst e
   rw[hk]at h
   cases h
   refine⟨cO lk,jg hk,fun q Cj=>?_⟩
   show _∨q ∈ lk.qs.tail
   cases hl:lk.qs with
   | nil=>rw[hl]at hq;cases hq
   | cons z r =>
    rw[hl]at hq Cj
    cases hq
    exact(mem_cons.mp Cj).imp id id
  ·exact⟨ln,by rw[getElem?_set_ne (Ne.symm e)];exact h,fun q hq => .inr hq⟩
 refine⟨by rw[← J.lanes];simp,J.lies,J.Ba,J.EL,J.lets,J.B6,?_,J.Cz,?_,J.last,?_,?_,?_,?_,?_⟩
 ·intro j BE h q Cj
  obtain⟨ln,hj,h1,_⟩:=Bx j BE h
  exact J.B4 j ln hj q (h1 q Cj)
 ·intro m' t ht hg
  refine⟨J.B7 m' t ht hg,fun e=>?_⟩
  subst e
  obtain⟨m2,t2,e2,GN,Ww⟩:=J.B4 k lk hk _ (mem_of_head? hq)
  have:m' = m2:=by have:(m':Int)=(m2:Int):=e2;omega
  subst this
  rw[ht]at GN
  cases GN
  rw[J.B7 m' t ht hg]at Ww
  cases Ww
 ·intro m' t ht l BE hl Cv
  obtain⟨ln,hj,h1,_⟩:=Bx l BE Cv
  rcases J.head m' t ht l ln hl hj with h | h
  ·obtain⟨ln2,h2,h3⟩:=keep l ln hj
   have h2:{ s with lanes:=s.lanes.set k (cO lk) }.lanes[l]? = some ln2:=h2
   rw[Cv]at h2
   cases h2
   rcases h3 _ h with e | h
   ·injection e with e1 e2
    exact .inl ⟨by omega,e2.symm⟩
   ·exact .inr (.inl h)
  ·exact .inr (.inr h)
 ·intro j BE h i i' z q hi Bg Cj
  obtain⟨ln,hj,_,d,h2,_⟩:=Bx j BE h
  rw[h2]at hi Cj
  exact J.first j ln hj (i + d) (i' + d) z q hi (by omega) Cj
 ·intro j BE h m' t Hq ht
  obtain⟨ln,hj,h1,_⟩:=Bx j BE h
  exact J.EM j ln hj m' t (h1 _ Hq) ht
 ·intro e0 j BE h Hq
  subst e0
  obtain⟨ln,hj,h1,d,h2,h3⟩:=Bx j BE h
  obtain⟨m2,t2,e2,GN,_⟩:=J.B4 k lk hk _ (mem_of_head? hq)
  have:m=m2:=by have:(m:Int)=(m2:Int):=e2;omega
  subst this
  have b1:=J.EM k lk hk m t2 (mem_of_head? hq) GN
  have b2:=J.EM j ln hj m t2 (h1 _ Hq) GN
  rw[b1]at b2
  have b2:=Option.some.inj b2
  subst b2
  rcases ga h with ⟨_,rfl⟩ | ⟨ne,_⟩
  ·obtain⟨i,hi⟩:=rk Hq
   have hi:lk.qs.tail[i]? = some ((m:Int),0):=hi
   rw[mX]at hi
   exact J.first k lk hk (i + 1) 0 _ _ hi (by omega) h0 rfl
  ·exact ne rfl
 ·have:=fA (fun ln:cW=>ln.qs.length) (y:=cO lk) hk
  have hl:(cO lk).qs.length + 1=lk.qs.length:=by
   show lk.qs.tail.length + 1=_
   cases hl:lk.qs with
   | nil=>rw[hl]at hq;cases hq
   | cons _ _=>rfl
  have h1:=J.sum
  unfold kH at h1 ⊢
  show((((s.lanes.set k (cO lk)).map fun ln=>ln.qs.length).sum:Nat):Int) + (jy s:Int) + 1=gF s
  omega
theorem vk {a:YA}{s:YS}{k:Nat}{t:cI}(J:Br a s)(ht:s.Am[k]? = some t)(hg:t.gone ≠ t.len):OP a (oa s k t) k t.gone:=by
 have g0:=J.Cz k t ht
 have lk:∀ (m:Nat)(t':cI),(s.Am.set k { t with gone:=t.gone + 1 })[m]? = some t'->∃ t0,s.Am[m]? = some t0/\t'.start=t0.start/\t'.goal=t0.goal/\t'.way=t0.way/\t'.len=t0.len/\((m=k/\t'.gone=t.gone + 1)∨(m ≠ k/\t'.gone=t0.gone)):=fun m t' h=>by
  rcases ga h with ⟨rfl,rfl⟩ | ⟨ne,h⟩
  ·exact⟨t,ht,rfl,rfl,rfl,rfl, .inl ⟨rfl,rfl⟩⟩
  ·exact⟨t',h,rfl,rfl,rfl,rfl, .inr ⟨ne,rfl⟩⟩
 refine⟨J.lanes,J.lies,by show(s.Am.set _ _).length <= 60;rw[length_set];exact J.Ba,J.EL,?_,?_,?_,?_,?_,?_,?_,J.first,?_,?_,?_⟩
 ·intro m t' h
  obtain⟨t0,h0,e1,e2,_⟩:=lk m t' h
  rw[e1,e2];exact J.lets m t0 h0
 ·intro m t' h
  obtain⟨t0,h0,e1,e2,e3,_⟩:=lk m t' h
  rw[e3];exact J.B6 m t0 h0
 ·intro j ln h q hq
  obtain⟨m,t0,e,h0,hj⟩:=J.B4 j ln h q hq
  by_cases em:m=k
  ·subst em
   rw[ht]at h0
   cases h0
   exact⟨m,_,e,jg ht,hj⟩
  ·exact⟨m,t0,e,by show(s.Am.set _ _)[m]? = _;rw[getElem?_set_ne (Ne.symm em)];exact h0,hj⟩
 ·intro m t' h
  obtain⟨t0,h0,e1,e2,e3,e4,e5⟩:=lk m t' h
  have:=J.Cz m t0 h0
  rcases e5 with ⟨rfl,e5⟩ | ⟨_,e5⟩
  ·rw[ht]at h0
   cases h0
   rw[e4,e5];omega
  ·rw[e4,e5];exact this
 ·intro m t' h hz
  obtain⟨t0,h0,e1,e2,e3,e4,e5⟩:=lk m t' h
  rcases e5 with ⟨rfl,e5⟩ | ⟨ne,e5⟩
  ·omega
  ·rw[e3];exact⟨J.B7 m t0 h0 (by omega),ne⟩
 ·intro m t' h i l hi hl
  obtain⟨t0,h0,e1,e2,e3,e4,e5⟩:=lk m t' h
  rw[e3]at hi ⊢
  rw[e2]at hl
  exact J.last m t0 h0 i l hi hl
 ·intro m t' h l ln hl AX
  obtain⟨t0,h0,e1,e2,e3,e4,e5⟩:=lk m t' h
  rw[e3]at hl
  rw[e2]
  exact .inr (J.head m t0 h0 l ln hl AX)
 ·intro j ln h m t' hm h'
  obtain⟨t0,h0,e1,e2,e3,e4,e5⟩:=lk m t' h'
  rw[e3]
  exact J.EM j ln h m t0 hm h0
 ·intro e0 j ln h hm
  obtain⟨m,t0,e,h0,hj⟩:=J.B4 j ln h _ hm
  have:k=m:=by have:(k:Int)=(m:Int):=e;omega
  subst this
  rw[ht]at h0
  cases h0
  rw[J.B7 k t ht e0]at hj
  cases hj
 ·have:=jx (fun t:cI=>t.gone) (y:={ t with gone:=t.gone + 1 }) ht
  have h1:=J.sum
  unfold gF at h1 ⊢
  show (kH s:Int) + (jy s:Int) + 1=((s.Am.set k { t with gone:=t.gone + 1 }).map fun t=>t.gone).sum
  have:({ t with gone:=t.gone + 1 }:cI).gone=t.gone + 1:=rfl
  omega
theorem vw {l:List Nat}{x:Nat}(h:l.getLast? = some x):l[l.length - 1]? = some x:=by rw[← h,List.getLast?_eq_getElem?]
theorem lf {a:YA}{s:YS}{m l:Nat}{c:Int}{t:cI}{ln:cW}(M:OP a s m c)(ht:s.Am[m]? = some t)(AX:s.lanes[l]? = some ln)(h0:c=0->l ∉ t.way/\∀ x ∈ t.way,oi a x ≠ t.goal)(h1:c ≠ 0->l ∈ t.way):Br a (e9 s m c l t ln):=by
 have CA:l < a.ps.length:=by rw[← M.lanes];exact(gQ0 AX)
 have lk:∀ (m':Nat)(t':cI),(e9 s m c l t ln).Am[m']? = some t'->∃ t0,s.Am[m']? = some t0/\t'.start=t0.start/\t'.goal=t0.goal/\t'.len=t0.len/\t'.gone=t0.gone/\((c=0/\m' = m/\t0=t/\t'.way=t.way ++ [l])∨(¬ (c=0/\m' = m)/\t'.way=t0.way)):=fun m' t' h=>by
  have h:(if c=0 then s.Am.set m { t with way:=t.way ++ [l] } else s.Am)[m']? = some t':=h
  by_cases hc:c=0
  ·rw[if_pos hc]at h
   rcases ga h with ⟨rfl,rfl⟩ | ⟨ne,h⟩
   ·exact⟨t,ht,rfl,rfl,rfl,rfl, .inl ⟨hc,rfl,rfl,rfl⟩⟩
   ·exact⟨t',h,rfl,rfl,rfl,rfl, .inr ⟨fun z=>ne z.2,rfl⟩⟩
  ·rw[if_neg hc]at h
   exact⟨t',h,rfl,rfl,rfl,rfl, .inr ⟨fun z=>hc z.1,rfl⟩⟩
 have Wx:∀ (m':Nat)(t0:cI),s.Am[m']? = some t0->∃ t',(e9 s m c l t ln).Am[m']? = some t'/\(∀ x ∈ t0.way,x ∈ t'.way)/\(m' = m->l ∈ t'.way):=fun m' t0 h=>by
  by_cases hc:c=0
  ·by_cases e:m' = m
   ·subst e
    rw[ht]at h
    cases h
    refine⟨{ t with way:=t.way ++ [l] },by show(if c=0 then s.Am.set m' { t with way:=t.way ++ [l] } else s.Am)[m']? = _;rw[if_pos hc];exact jg ht,fun x hx=>mem_append_left _ hx,fun _=>by show l ∈ t.way ++ [l];simp⟩
   ·exact⟨t0,by show(if c=0 then s.Am.set m { t with way:=t.way ++ [l] } else s.Am)[m']? = _;rw[if_pos hc,getElem?_set_ne (Ne.symm e)];exact h,fun x hx=>hx,fun z=>absurd z e⟩
  ·refine⟨t0,by show(if c=0 then s.Am.set m { t with way:=t.way ++ [l] } else s.Am)[m']? = _;rw[if_neg hc];exact h,fun x hx=>hx,fun z=>?_⟩
   subst z
   rw[ht]at h
   cases h
   exact h1 hc
 have BE:∀ (j:Nat)(l':cW),(e9 s m c l t ln).lanes[j]? = some l'->(j=l/\l'.qs=ln.qs ++ [((m:Int),c)])∨(j ≠ l/\s.lanes[j]? = some l'):=fun j l' h=>by
  rcases ga h with ⟨rfl,rfl⟩ | ⟨ne,h⟩
  ·exact .inl ⟨rfl,rfl⟩
  ·exact .inr ⟨ne,h⟩
 have old:∀ (j:Nat)(l':cW),(e9 s m c l t ln).lanes[j]? = some l'->∀ q ∈ l'.qs,(j=l/\q=((m:Int),c))∨∃ l0,s.lanes[j]? = some l0/\q ∈ l0.qs:=fun j l' h q hq=>by
  rcases BE j l' h with ⟨rfl,e⟩ | ⟨ne,h⟩
  ·rw[e,mem_append]at hq
   rcases hq with hq | hq
   ·exact .inr ⟨ln,AX,hq⟩
   ·exact .inl ⟨rfl,by simpa using hq⟩
  ·exact .inr ⟨l',h,hq⟩
 refine⟨by rw[← M.lanes];show(s.lanes.set _ _).length=_;simp,M.lies,?_,M.EL,?_,?_,?_,?_,?_,?_,?_,?_,?_,?_⟩
 ·show(if c=0 then s.Am.set m { t with way:=t.way ++ [l] } else s.Am).length <= 60
  by_cases hc:c=0
  ·rw[if_pos hc,length_set];exact M.Ba
  ·rw[if_neg hc];exact M.Ba
 ·intro m' t' h
  obtain⟨t0,h2,e1,e2,_⟩:=lk m' t' h
  rw[e1,e2];exact M.lets m' t0 h2
 ·intro m' t' h
  obtain⟨t0,h2,_,_,_,_,e⟩:=lk m' t' h
  obtain⟨w1,w2⟩:=M.B6 m' t0 h2
  rcases e with ⟨hc,rfl,rfl,e⟩ | ⟨_,e⟩
  ·rw[e]
   refine⟨fun x hx=>?_,?_⟩
   ·rcases mem_append.mp hx with hx | hx
    ·exact w1 x hx
    ·rw[mem_singleton.mp hx];exact CA
   ·rw[List.nodup_append]
    exact⟨w2,by simp,fun x hx y hy=>by rw[mem_singleton.mp hy];exact fun z=>(h0 hc).1 (z ▸ hx)⟩
  ·rw[e];exact⟨w1,w2⟩
 ·intro j l' h q hq
  rcases old j l' h q hq with ⟨rfl,rfl⟩ | ⟨l0,h2,hq⟩
  ·obtain⟨t',h3,_,h4⟩:=Wx m t ht
   exact⟨m,t',rfl,h3,h4 rfl⟩
  ·obtain⟨m',t0,e,h3,hj⟩:=M.B4 j l0 h2 q hq
   obtain⟨t',h4,h5,_⟩:=Wx m' t0 h3
   exact⟨m',t',e,h4,h5 j hj⟩
 ·intro m' t' h
  obtain⟨t0,h2,_,_,e3,e4,_⟩:=lk m' t' h
  rw[e3,e4];exact M.Cz m' t0 h2
 ·intro m' t' h hz
  obtain⟨t0,h2,_,_,_,e4,e⟩:=lk m' t' h
  rw[e4]at hz
  obtain⟨w1,w2⟩:=M.B7 m' t0 h2 hz
  rcases e with ⟨hc,rfl,_⟩ | ⟨_,e⟩
  ·exact absurd rfl w2
  ·rw[e];exact w1
 ·intro m' t' h i x hi hx
  obtain⟨t0,h2,_,e2,_,_,e⟩:=lk m' t' h
  rw[e2]at hx
  rcases e with ⟨hc,rfl,rfl,e⟩ | ⟨_,e⟩
  ·rw[e]at hi ⊢
   by_cases Bg:i < t0.way.length
   ·rw[getElem?_append_left Bg]at hi
    exact absurd hx ((h0 hc).2 x (mem_of_getElem? hi))
   ·have:=(gQ0 hi)
    rw[length_append,length_singleton]at this ⊢
    omega
  ·rw[e]at hi ⊢
   exact M.last m' t0 h2 i x hi hx
 ·intro m' t' h x l' hx C2
  obtain⟨t0,h2,_,e2,_,_,e⟩:=lk m' t' h
  rcases e with ⟨hc,rfl,rfl,e⟩ | ⟨ne,e⟩
  ·rw[e]at hx
   have hx:l=x:=by simpa using hx
   subst hx
   rcases BE l l' C2 with ⟨_,e'⟩ | ⟨ne,_⟩
   ·left
    rw[e',hc];simp
   ·exact absurd rfl ne
  ·rw[e]at hx
   rcases BE x l' C2 with ⟨rfl,e'⟩ | ⟨ne',h'⟩
   ·rcases M.head m' t0 h2 x ln hx AX with z | z | z
    ·exact absurd ⟨z.2,z.1⟩ ne
    ·exact .inl (by rw[e'];exact mem_append_left _ z)
    ·rw[e2];exact .inr z
   ·rcases M.head m' t0 h2 x l' hx h' with z | z | z
    ·exact absurd ⟨z.2,z.1⟩ ne
    ·exact .inl z
    ·rw[e2];exact .inr z
 ·intro j l' h i i' z q hi Bg hq
  rcases BE j l' h with ⟨rfl,e⟩ | ⟨_,h'⟩
  ·rw[e]at hi hq
   by_cases Df:i < ln.qs.length
   ·rw[getElem?_append_left Df]at hi
    rw[getElem?_append_left (by omega)]at hq
    exact M.first j ln AX i i' z q hi Bg hq
   ·have h3:=(gQ0 hi)
    rw[length_append,length_singleton]at h3
    have ei:i=ln.qs.length:=by omega
    subst ei
    rw[getElem?_concat_length]at hi
    have hi:=Option.some.inj hi
    injection hi with e1 e2
    subst e1
    rw[getElem?_append_left Bg]at hq
    intro ez
    obtain⟨m',t0,e3,h4,h5⟩:=M.B4 j ln AX q (mem_of_getElem? hq)
    have em0:(m':Int)=(m:Int):=by rw[← e3];exact ez
    have:m=m':=by omega
    subst this
    rw[ht]at h4
    cases h4
    exact(h0 e2).1 h5
  ·exact M.first j l' h' i i' z q hi Bg hq
 ·intro j l' h m' t' hm h'
  obtain⟨t0,h2,_,_,_,_,e⟩:=lk m' t' h'
  rcases old j l' h _ hm with ⟨rfl,e'⟩ | ⟨l0,h3,hm⟩
  ·injection e' with e1 e2
   have em:m' = m:=by omega
   subst em
   rcases e with ⟨_,_,_,e⟩ | ⟨ne,_⟩
   ·rw[e];simp
   ·exact absurd ⟨e2.symm,rfl⟩ ne
  ·rcases e with ⟨hc,rfl,rfl,e⟩ | ⟨ne,e⟩
   ·exact absurd hm (M.gone hc j l0 h3)
   ·rw[e];exact M.EM j l0 h3 m' t0 hm h2
 ·have q1:=fA (fun ln:cW=>ln.qs.length) (y:=jX ln m c t.len) AX
  have q2:(jX ln m c t.len).qs.length=ln.qs.length + 1:=by show(ln.qs ++ [_]).length=_;simp
  have q3:gF (e9 s m c l t ln)=gF s:=by
   unfold gF
   show((if c=0 then s.Am.set m { t with way:=t.way ++ [l] } else s.Am).map fun t=>t.gone).sum=_
   by_cases hc:c=0
   ·rw[if_pos hc]
    have:=jx (fun t:cI=>t.gone) (y:={ t with way:=t.way ++ [l] }) ht
    have e:({ t with way:=t.way ++ [l] }:cI).gone=t.gone:=rfl
    omega
   ·rw[if_neg hc]
  have h2:=M.sum
  rw[q3]
  unfold kH at h2 ⊢
  show((((s.lanes.set l (jX ln m c t.len)).map fun ln=>ln.qs.length).sum:Nat):Int) + (jy s:Int)=gF s
  omega
theorem xv {a:YA}{s:YS}{m e:Nat}{c:Int}{t:cI}{qs:List (Int × Int)}(M:OP a s m c)(ht:s.Am[m]? = some t)(Cy:s.lies[e]? = some qs)(h0:c=0->∀ x,t.way.getLast? = some x->oi a x=t.goal):Br a { s with lies:=s.lies.set e (qs ++ [((m:Int),c)]) }:=by
 refine⟨M.lanes,by show(s.lies.set _ _).length=_;rw[length_set];exact M.lies,M.Ba,M.EL,M.lets,M.B6,M.B4,M.Cz,fun m' t' h z=>(M.B7 m' t' h z).1,M.last,?_,M.first,M.EM,?_⟩
 ·intro m' t' h x l' hx C2
  rcases M.head m' t' h x l' hx C2 with ⟨rfl,hc⟩ | z | z
  ·have h:s.Am[m']? = some t':=h
   rw[ht]at h
   cases h
   exact .inr (h0 hc x hx)
  ·exact .inl z
  ·exact .inr z
 ·have:=fA (fun qs:List (Int × Int)=>qs.length) (y:=qs ++ [((m:Int),c)]) Cy
  have h2:=M.sum
  unfold jy at h2 ⊢
  show (kH s:Int) + ((((s.lies.set e (qs ++ [((m:Int),c)])).map fun qs=>qs.length).sum:Nat):Int)=gF s
  rw[length_append,length_singleton]at this
  omega
theorem Br.back {a:YA}{s:YS}{k:Nat}{lk M4:cW}(J:Br a s)(hk:s.lanes[k]? = some lk)(e:M4.qs=lk.qs):Br a { s with lanes:=s.lanes.set k M4 }:=by
 have Bx:∀ (j:Nat)(l':cW),(s.lanes.set k M4)[j]? = some l'->∃ l0,s.lanes[j]? = some l0/\l'.qs=l0.qs:=fun j l' h=>by
  rcases ga h with ⟨rfl,rfl⟩ | ⟨_,h⟩
  ·exact⟨lk,hk,e⟩
  ·exact⟨l',h,rfl⟩
 refine⟨by rw[← J.lanes];simp,J.lies,J.Ba,J.EL,J.lets,J.B6,?_,J.Cz,J.B7,J.last,?_,?_,?_,?_⟩
 ·intro j l' h q hq
  obtain⟨l0,h0,e0⟩:=Bx j l' h
  rw[e0]at hq
  exact J.B4 j l0 h0 q hq
 ·intro m t ht x l' hx C2
  obtain⟨l0,h0,e0⟩:=Bx x l' C2
  rw[e0]
  exact J.head m t ht x l0 hx h0
 ·intro j l' h
  obtain⟨l0,h0,e0⟩:=Bx j l' h
  rw[e0]
  exact J.first j l0 h0
 ·intro j l' h
  obtain⟨l0,h0,e0⟩:=Bx j l' h
  rw[e0]
  exact J.EM j l0 h0
 ·have:=fA (fun ln:cW=>ln.qs.length) (y:=M4) hk
  have h1:=J.sum
  have e':=congrArg List.length e
  unfold kH at h1 ⊢
  show((((s.lanes.set k M4).map fun ln=>ln.qs.length).sum:Nat):Int) + (jy s:Int)=gF s
  omega
theorem Br.step {a:YA}{s s':YS}{m:Mv}(J:Br a s)(h:Cw a s m s'):Br a s':=by
 cases h with
 | @Bx k l t ln ht hg hl AX ho =>
  have M:=vk J ht hg
  refine lf (t:={ t with gone:=t.gone + 1 }) M (jg ht) AX (fun hc=>?_) (fun hc=>?_)
  ·have hw:=J.B7 k t ht hc
   show l ∉ t.way/\∀ x ∈ t.way,oi a x ≠ t.goal
   rw[hw]
   exact⟨by simp,by simp⟩
  ·unfold dO at hl
   rw[if_neg hc]at hl
   exact mem_of_mem_take hl
 | @on k l m c lk ln t hk hq ht hl AX ho =>
  have M:=nQ J hk hq
  have hw:dR a s k=if c=0 then (tu a k t.goal.toNat).filter (fun l=>!decide (l ∈ t.way)) else (t.way.drop (t.way.idxOf k + 1)).take 1:=by
   unfold dR cr
   rw[hk]
   dsimp only
   rw[hq]
   dsimp only
   rw[toNat_natCast,ht]
  rw[hw]at hl
  refine lf M ht AX (fun hc=>?_) (fun hc=>?_)
  ·rw[if_pos hc]at hl
   obtain⟨h1,h2⟩:=mem_filter.mp hl
   refine⟨by simpa using h2,fun x hx ex=>?_⟩
   subst hc
   obtain⟨i,hi⟩:=rk hx
   have h3:=J.last m t ht i x hi ex
   have h4:=J.EM k lk hk m t (mem_of_head? hq) ht
   have h5:=vw h4
   rw[show t.way.length - 1=i by omega,hi]at h5
   have h5:=Option.some.inj h5
   subst h5
   unfold tu at h1
   obtain⟨x0,y0,e1,e2,_,_⟩:=J.lets m t ht
   rw[if_pos (by show oi a x=_;rw[ex,e2,toNat_natCast])]at h1
   cases h1
  ·rw[if_neg hc]at hl
   exact List.mem_of_mem_drop (mem_of_mem_take hl)
 | @Ca k m e c lk t qs hk hq ht hg he Cy =>
  have M:=nQ J hk hq
  have:=xv (s:={ s with lanes:=s.lanes.set k (cO lk) }) M ht Cy (fun hc x hx=>?_)
  ·exact this
  ·subst hc
   have h4:=J.EM k lk hk m t (mem_of_head? hq) ht
   rw[h4]at hx
   have hx:=Option.some.inj hx
   subst hx
   show(a.ps.getD k (0,0)).2=t.goal
   rw[he,hg]
 | @back k lk hk hb=>exact J.back hk rfl
noncomputable def tM (s:YS):Int:=(s.Am.map fun t=>t.len).sum
theorem qD {α:Type}(f g:α->Int):∀ {L:List α},(∀ (m:Nat)(t:α),L[m]? = some t->f t <= g t)->(L.map f).sum <= (L.map g).sum
 | [],_=>by simp
 | x :: L,h=>by
  have h1:=h 0 x rfl
  have h2:=qD f g (L:=L) fun m t ht=>h (m + 1) t ht
  simp only[map_cons,sum_cons];omega
theorem kO {α:Type}(g:α->Int):∀ {L:List α},(∀ (m:Nat)(t:α),L[m]? = some t->g t <= 60)->(L.map g).sum <= 60 * L.length
 | [],_=>by simp
 | x :: L,h=>by
  have h1:=h 0 x rfl
  have h2:=kO g (L:=L) fun m t ht=>h (m + 1) t ht
  simp only[map_cons,sum_cons,length_cons];omega
theorem Br.M5 {a:YA}{s:YS}(J:Br a s):(jy s:Int) <= tM s/\(kH s:Int) + (jy s:Int) <= 3600:=by
 have h1:=qD (fun t:cI=>t.gone) (fun t=>t.len) (L:=s.Am) fun m t ht=>(J.Cz m t ht).2.1
 have h2:=J.sum
 have h3:=kO (fun t:cI=>t.len) (L:=s.Am) fun m t ht=>(J.Cz m t ht).2.2
 have h4:=J.Ba
 unfold gF at h2
 unfold tM
 omega
theorem jW {α:Type}(f:α->Nat):∀ {L:List α}{k:Nat}{x:α},L[k]? = some x->f x <= (L.map f).sum
 | [],_,_,h=>by cases h
 | z :: L,0,x,h=>by cases h;simp only[map_cons,sum_cons];omega
 | z :: L,k + 1,x,h=>by
  have:=jW f (L:=L) (k:=k) (x:=x) h
  simp only[map_cons,sum_cons];omega
theorem Br.OQ {a:YA}{s:YS}(J:Br a s)(hd:s.done.length <= 100000):RS s:=by
 have h:=J.M5.2
 refine⟨fun k ln hk=>?_,fun p qs hp=>?_,hd⟩
 ·have:=jW (fun ln:cW=>ln.qs.length) hk
  unfold kH at h
  omega
 ·have:=jW (fun qs:List (Int × Int)=>qs.length) hp
  unfold jy at h
  omega
abbrev yx (ys:Ys)(ex:List Addr):Ys:={ ys with ex:=ex }
noncomputable def vZ (x:V):Prop:=(∃ i,x = .int i)∨∃ t,x = .str t/\PyData.strOk t=true
structure RW (a:YA)(s:YS):Prop where
 lanes:s.lanes.length=a.ps.length
 lies:s.lies.length=a.n
 q0:∀ (k:Nat)(ln:cW),s.lanes[k]? = some ln->ln.qs=[]
 l0:∀ (p:Nat)(qs:List (Int × Int)),s.lies[p]? = some qs->qs=[]
 lets:∀ (m:Nat)(t:cI),s.Am[m]? = some t->t.gone=0/\t.way=[]/\0 <= t.len/\t.len <= 60/\∃ x y:Nat,t.start=(x:Int)/\t.goal=(y:Int)/\x < a.n/\y < a.n
 done:∀ d ∈ s.done,∀ x ∈ d,vZ x
theorem y6 {α:Type}(f:α->Nat):∀ {L:List α},(∀ (k:Nat)(x:α),L[k]? = some x->f x=0)->(L.map f).sum=0
 | [],_=>rfl
 | x :: L,h=>by
  have h1:=h 0 x rfl
  have h2:=y6 f (L:=L) fun k y hy=>h (k + 1) y hy
  simp only[map_cons,sum_cons];omega
theorem xS {α:Type}(f:α->Int):∀ {L:List α},(∀ (k:Nat)(x:α),L[k]? = some x->f x=0)->(L.map f).sum=0
 | [],_=>rfl
 | x :: L,h=>by
  have h1:=h 0 x rfl
  have h2:=xS f (L:=L) fun k y hy=>h (k + 1) y hy
  simp only[map_cons,sum_cons];omega
theorem RW.DK {a:YA}{s:YS}(h:RW a s)(Ba:s.Am.length <= 60)(EL:a.ps.length <= 40):Br a s:=by
 refine⟨h.lanes,h.lies,Ba,EL,fun m t ht=>(h.lets m t ht).2.2.2.2,fun m t ht=>?_,fun k ln hk q hq=>?_,fun m t ht=>?_,fun m t ht _=>(h.lets m t ht).2.1,fun m t ht i l hi=>?_,fun m t ht l ln hl=>?_,fun k ln hk i j z q hi=>?_,fun k ln hk m t hm=>?_,?_⟩
 ·rw[(h.lets m t ht).2.1];exact⟨(fun l hl=>by cases hl),nodup_nil⟩
 ·rw[h.q0 k ln hk]at hq;cases hq
 ·obtain⟨h1,h2,h3,h4,_⟩:=h.lets m t ht
  rw[h1];exact⟨by omega,h3,h4⟩
 ·rw[(h.lets m t ht).2.1]at hi;cases hi
 ·rw[(h.lets m t ht).2.1]at hl;cases hl
 ·rw[h.q0 k ln hk]at hi;cases hi
 ·rw[h.q0 k ln hk]at hm;cases hm
 ·have h1:kH s=0:=y6 _ fun k ln hk=>by rw[h.q0 k ln hk];rfl
  have h2:jy s=0:=y6 _ fun p qs hp=>by rw[h.l0 p qs hp];rfl
  have h3:gF s=0:=xS _ fun m t ht=>(h.lets m t ht).1
  rw[h1,h2,h3];rfl
theorem kX {n a b:Nat}{wy:Wf}{m:Nat}{l u:Int}(ha:a < n)(hb:b < n)(hl:1 <= l/\l <= 60)(hu:zE (.int u)=true)(LW:a ≠ b)(hw:wy a b none ≠ [])(hm:m < 60):lZ n wy m (.int a) (.int b) (.int l) (.int u) = .good:=by
 unfold lZ
 rw[show kY (.int (a:Int)) 0 ((n:Int) - 1)=true from decide_eq_true (by omega),show kY (.int (b:Int)) 0 ((n:Int) - 1)=true from decide_eq_true (by omega),show kY (.int l) 1 60=true from decide_eq_true hl,hu,if_neg (by decide),if_neg (by decide),if_neg (by decide)]
 rw[if_neg (by
  rintro (h | h)
  ·have h:(a:Int)=(b:Int):=h
   omega
  ·have h:wy ((a:Int)).toNat ((b:Int)).toNat none=[]:=h
   rw[toNat_natCast,toNat_natCast]at h
   exact hw h),if_neg (by omega)]
theorem uj {ex:List Addr}{H H1 H2:Hp}(s:An H H1)(o:AA ex H1 H2)(hn:∀ b ∈ ex,H b=none):An H H2:=fun b u e=>o b _ (fun z=>by rw[hn b z]at e;cases e) (s b u e)
theorem Br.done {a:YA}{s:YS}(J:Br a s)(d:List (List V)):Br a { s with done:=d }:=⟨J.lanes,J.lies,J.Ba,J.EL,J.lets,J.B6,J.B4,J.Cz,J.B7,J.last,J.head,J.first,J.EM,J.sum⟩
theorem wJ {a:YA}{AH:List V}(h:AH.length=a.ps.length):RW a (Y0 AH a.n):=by
 refine⟨by show(AH.map sO).length=_;rw[length_map];exact h,by show(List.replicate a.n []).length=_;rw[length_replicate],fun k ln hk=>?_,fun p qs hp=>?_,fun m t ht=>?_,fun d hd=>?_⟩
 ·have hk:(AH.map sO)[k]? = some ln:=hk
  rw[getElem?_map]at hk
  cases hr:AH[k]? with
  | none=>rw[hr]at hk;cases hk
  | some v=>rw[hr]at hk;cases hk;rfl
 ·have hp:(List.replicate a.n ([]:List (Int × Int)))[p]? = some qs:=hp
  exact eq_of_mem_replicate (mem_of_getElem? hp)
 ·have ht:([]:List cI)[m]? = some t:=ht
  cases ht
 ·have hd:d ∈ ([]:List (List V)):=hd
  cases hd
theorem mO {K:Frag}{H:Hp}:∀ us:List Nat,AO K H (nV us) (us.map fun z:Nat=>PyData.int z)
 | [] => .nil
 | u :: us => .cons (.int _) (mO us)
noncomputable def qT (p:Int × Int):PyData := .tuple [.int p.1, .int p.2]
theorem om {K:Frag}{H:Hp}:∀ {vs:List V}{ps:List (Int × Int)},AN H vs ps->AO K H vs (ps.map qT):=fun Au=>by
 induction Au with
 | nil=>exact .nil
 | cons zz r ih=>obtain⟨t,e,h⟩:=zz;exact .cons (by subst e;exact .tup (Ay.of h) (.cons (.int _) (.cons (.int _) .nil))) ih
theorem lR (ms:List Mv):BZ (.list (ms.map sJ)) 64:=(bX (m:=1) fun z hz=>by
 obtain⟨m,_,rfl⟩:=mem_map.mp hz
 exact j7 m).le (by decide)
theorem CY:BZ (.list []) 64:=(bX (m:=0) fun z hz=>by cases hz).le (by decide)
theorem rK {α:Type}(f:α->PyData)(l:List α):PyData.eqv (.list (l.map f)) (.list [])=l.isEmpty:=by
 cases l<;>simp[PyData.eqv,PyData.eqvAll]
theorem Wz {K:Frag}{x y:V}{H:Hp}{Q:VK}{α:Type}{f:α->PyData}{l:List α}(h1:Den K H x (.list (l.map f)))(h2:Den K H y (.list []))(s:BZ (.list (l.map f)) 64)(q:Q (.bl l.isEmpty) H):Lc K x y H Q :=
 ⟨_,_,h1,h2,s.shaped (le_refl _),CY.shaped (le_refl _),by rw[rK];exact q⟩
theorem neN {K:Frag}{x y:V}{H:Hp}{Q:VK}{α:Type}{f:α->PyData}{l:List α}(h1:Den K H x (.list (l.map f)))(h2:Den K H y (.list []))(s:BZ (.list (l.map f)) 64)(q:Q (.bl (!l.isEmpty)) H):yY K x y H Q :=
 ⟨_,_,h1,h2,s.shaped (le_refl _),CY.shaped (le_refl _),by rw[rK];exact q⟩
theorem Cw.rooms {a:YA}{s s':YS}{m:Mv}(h:Cw a s m s'):s'.rooms=s.rooms:=by cases h<;>rfl
theorem M6 (m:Mv):∀ x ∈ eI m,vZ x:=by
 cases m<;>intro x hx<;>simp only[eI,mem_cons,not_mem_nil,or_false]at hx
 ·rcases hx with rfl | rfl | rfl<;>first | exact Or.inl ⟨_,rfl⟩ | exact Or.inr ⟨_,rfl,by decide +kernel⟩
 ·rcases hx with rfl | rfl | rfl<;>first | exact Or.inl ⟨_,rfl⟩ | exact Or.inr ⟨_,rfl,by decide +kernel⟩
 ·rcases hx with rfl | rfl<;>first | exact Or.inl ⟨_,rfl⟩ | exact Or.inr ⟨_,rfl,by decide +kernel⟩
 ·rcases hx with rfl | rfl<;>first | exact Or.inl ⟨_,rfl⟩ | exact Or.inr ⟨_,rfl,by decide +kernel⟩
theorem Br.post {a:YA}{s:YS}(J:Br a s){x y:Nat}{l u:Int}(hx:x < a.n)(hy:y < a.n)(hl:0 <= l/\l <= 60)(hf:s.Am.length < 60):Br a (kT s x y l u):=by
 have el:∀ (m:Nat)(t:cI),(kT s x y l u).Am[m]? = some t->s.Am[m]? = some t∨(m=s.Am.length/\t = ⟨x,y,l,u,0,[]⟩):=fun m t ht=>by
  have ht:(s.Am ++ [(⟨(x:Int),(y:Int),l,u,0,[]⟩:cI)])[m]? = some t:=ht
  by_cases hm:m < s.Am.length
  ·rw[getElem?_append_left hm]at ht;exact .inl ht
  ·have h3:=(gQ0 ht)
   rw[length_append,length_singleton]at h3
   have em:m=s.Am.length:=by omega
   subst em
   rw[getElem?_concat_length]at ht
   cases ht
   exact .inr ⟨rfl,rfl⟩
 have eo:∀ (m:Nat)(t:cI),s.Am[m]? = some t->(kT s x y l u).Am[m]? = some t:=fun m t ht=>by
  show(s.Am ++ [(⟨(x:Int),(y:Int),l,u,0,[]⟩:cI)])[m]? = some t
  rw[getElem?_append_left (gQ0 ht)];exact ht
 refine⟨J.lanes,J.lies,?_,J.EL,fun m t ht=>?_,fun m t ht=>?_,fun k ln hk q hq=>?_,fun m t ht=>?_,fun m t ht hg=>?_,fun m t ht i l' hi he=>?_,fun m t ht l' ln C2 AX=>?_,J.first,fun k ln hk m t hm ht=>?_,?_⟩
 ·show(s.Am ++ [_]).length <= 60
  rw[length_append,length_singleton];omega
 ·rcases el m t ht with h | ⟨_,rfl⟩
  ·exact J.lets m t h
  ·exact⟨x,y,rfl,rfl,hx,hy⟩
 ·rcases el m t ht with h | ⟨_,rfl⟩
  ·exact J.B6 m t h
  ·exact⟨(fun l hl=>by cases hl),nodup_nil⟩
 ·obtain⟨m,t,e,ht,Ja⟩:=J.B4 k ln hk q hq
  exact⟨m,t,e,eo m t ht,Ja⟩
 ·rcases el m t ht with h | ⟨_,rfl⟩
  ·exact J.Cz m t h
  ·exact⟨Int.le_refl _,hl.1,hl.2⟩
 ·rcases el m t ht with h | ⟨_,rfl⟩
  ·exact J.B7 m t h hg
  ·rfl
 ·rcases el m t ht with h | ⟨_,rfl⟩
  ·exact J.last m t h i l' hi he
  ·cases hi
 ·rcases el m t ht with h | ⟨_,rfl⟩
  ·exact J.head m t h l' ln C2 AX
  ·cases C2
 ·obtain⟨m2,t2,e2,GN,_⟩:=J.B4 k ln hk _ hm
  have e2:(m:Int)=(m2:Int):=e2
  have e2:m=m2:=by omega
  subst e2
  rcases el m t ht with h | ⟨e,_⟩
  ·exact J.EM k ln hk m t hm h
  ·rw[e]at GN
   rw[List.getElem?_eq_none (le_refl _)]at GN
   cases GN
 ·have h:=J.sum
  have e:gF (kT s x y l u)=gF s:=by
   show((s.Am ++ [(⟨(x:Int),(y:Int),l,u,0,[]⟩:cI)]).map _).sum=_
   rw[map_append,sum_append]
   simp[gF]
  rw[e];exact h
theorem Bf.OR {K:Frag}{ys:Ys}{e e':List Addr}{H H':Hp}{a:YA}{s:YS}(h:Bf K (yx ys e) H a s)(o:An H H')(hx:∀ b ∈ e',b ∈ e∨(H b=none/\∃ zs,H' b=some (.lst zs))):Bf K (yx ys e') H' a s:=by
 have W0:∀ p:Addr,(∃ u,H p=some u)->p ∉ a.la :: a.le :: a.li :: a.dn :: e->p ∉ a.la :: a.le :: a.li :: a.dn :: e':=fun p ⟨u,hu⟩ hn z=>by
  have en:∀ q:List Addr,a.la :: a.le :: a.li :: a.dn :: q=[a.la,a.le,a.li,a.dn] ++ q:=fun _=>rfl
  rw[en]at z hn
  rcases mem_append.mp z with z | z
  ·exact hn (mem_append_left _ z)
  ·rcases hx p z with z | ⟨z,_⟩
   ·exact hn (mem_append_right _ z)
   ·rw[z]at hu;cases hu
 obtain⟨v1,h1,p1⟩:=h.BD
 obtain⟨v2,h2,p2⟩:=h.hle
 have h':=Av.same h o
 refine⟨h'.ins,h'.JN,⟨v1,o _ _ h1,Paired.mono (fun v ln z=>?_) p1⟩,⟨v2,o _ _ h2,Paired.mono (fun v t z=>?_) p2⟩,h'.Cu,h'.Cd,h'.ne,fun b hb=>?_⟩
 ·obtain⟨x,dx,pa,AJ,ev,L,n⟩:=z
  exact⟨x,dx,pa,AJ,ev,L.same o,W0 pa ⟨_,L.lst⟩ n⟩
 ·obtain⟨x,dx,wa,ev,CQ,hw,n⟩:=z
  exact⟨x,dx,wa,ev,o _ _ CQ,o _ _ hw,W0 wa ⟨_,hw⟩ n⟩
 ·rcases hx b hb with z | ⟨_,z⟩
  ·obtain⟨zs,hz⟩:=h.hex b z
   exact⟨zs,o _ _ hz⟩
  ·exact z
theorem Bf.M7 {K:Frag}{ys:Ys}{e:List Addr}{H H':Hp}{a:YA}{s:YS}(h:Bf K ys H a s)(o:AA e H H')(hs:∀ b ∈ e,b ∈ ys.ex)(hn:∀ b ∈ a.four,b ∉ e)(hl:∀ b ∈ e,∃ zs,H' b=some (.lst zs)):Bf K ys H' a s:=by
 have o2:AA (a.la :: a.le :: a.li :: a.dn :: ys.ex) H H':=o.mono fun b hb=>by simp[hs b hb]
 obtain⟨h1,h2,f1,f2,f3,f4⟩:=Av.off h o2
 obtain⟨v1,a1,p1⟩:=h.BD
 obtain⟨v2,a2,p2⟩:=h.hle
 obtain⟨v3,a3,p3⟩:=h.Cu
 obtain⟨v4,a4,p4⟩:=h.Cd
 refine⟨h1,h2,⟨v1,o _ _ (hn _ (by simp)) a1,f1 _ _ p1⟩,⟨v2,o _ _ (hn _ (by simp)) a2,f2 _ _ p2⟩,⟨v3,o _ _ (hn _ (by simp)) a3,f3 _ _ p3⟩,⟨v4,o _ _ (hn _ (by simp)) a4,f4 _ _ p4⟩,h.ne,fun b hb=>?_⟩
 by_cases Et:b ∈ e
 ·exact hl b Et
 ·obtain⟨zs,hz⟩:=h.hex b hb
  exact⟨zs,o _ _ Et hz⟩
theorem va {m:Nat}{rs:List Int}(CI:rs.length=m)(HU:∀ r ∈ rs,1 <= r/\r <= 60):qY m (rs.map V.int)=true:=by
 unfold qY
 rw[length_map,CI,decide_eq_true rfl,Bool.true_and,all_eq_true]
 intro v hv
 obtain⟨r,Cp,rfl⟩:=mem_map.mp hv
 exact decide_eq_true (HU r Cp)
noncomputable def W2 (K:Frag)(c:Cs)(TC:Addr)(J:TJ)(ys:Ys)(ex:List Addr)(H:Hp)(tb:Addr)(ps:List (Int × Int))(n:Nat)(wy:Wf)(rs:List Int):VK:=fun v H'=>∃ a:YA,v = .ref a.y/\a.tb=tb/\a.ps=ps/\a.n=n/\a.wy=wy/\An H H'/\(∀ z ∈ a.four,H z=none)/\C4 K c TC J (yx ys ex) H' a (Y0 (rs.map V.int) n)/\Br a (Y0 (rs.map V.int) n)
theorem q5 {P:Program}{w:World}{K:Frag}{c:Cs}{TC fw:Addr}{dw:FuncData}{J:TJ}{ys:Ys}{ex:List Addr}{H:Hp}{tb lx AL lt ra:Addr}{n:Nat}{Az:List V}{ps:List (Int × Int)}{wy:Wf}{rs:List Int}{E:XK}(W:Wy K TC fw dw J)
  (hT:BH c TC J H tb lx AL lt n Az ps wy) (Ck:∀ p g k,(wy p g k).length <= 400) (AD:∀ p ∈ ps,gR n p=true) (hR:Ap K H ra (rs.map V.int)) (CI:rs.length=ps.length) (HU:∀ r ∈ rs,1 <= r/\r <= 60) (hp:ps.length <= 40) (hex:∀ b ∈ ex,∃ xs,H b=some (.lst xs)) :
  ∀ y dy,H y=none->H dy=none->dy ≠ y->iR K c TC J (yx ys ex) [.ref y, .ref tb, .ref ra] (upd (upd H dy (.own y)) y (.ins ys.Aq dy [])) (fun v H2=>v = .AG/\W2 K c TC J ys ex H tb ps n wy rs (.ref y) H2) E:=by
 intro y dy ny GO GP
 have s4:An H (upd (upd H dy (.own y)) y (.ins ys.Aq dy [])):=An.new (An.new (An.refl H) GO) (by rw[ai (Ne.symm GP)];exact ny)
 have M8:=va CI HU
 refine⟨y,dy,tb,lx,AL,lt,n,Az,ps,wy,_,rs.map V.int,rfl,ac,hT.keep W (An.AF s4),(fun b hb=>let ⟨xs,hz⟩:=hex b hb; ⟨xs,s4 _ _ hz⟩), .inr ⟨ra,rfl, .inl (s4.seq hR),by rw[length_map];omega,(fun v hv=>by obtain⟨r,_,rfl⟩:=mem_map.mp hv;exact .int r),fun h=>by rw[M8]at h;cases h⟩,fun _ ro la le li dn H5 o5 FI GD II GF hY=>⟨rfl,?_⟩⟩
 have s5:An H H5:=fun b o e=>o5 b o (fun z=>by rw[mem_singleton.mp z,ny]at e;cases e) (s4 _ _ e)
 have hO:JV ⟨y,dy,tb,ro,la,le,li,dn,lx,AL,lt,n,Az,ps,wy⟩:=by
  refine⟨fun l pr hl=>?_,Ck⟩
  have Fw:=AD pr (mem_of_getElem? hl)
  unfold gR at Fw
  simp only[Bool.and_eq_true,decide_eq_true_eq,Bool.not_eq_true',decide_eq_false_iff_not]at Fw
  exact⟨pr.2.toNat,by omega,by show pr.2.toNat < n;omega⟩
 have hJ:Br ⟨y,dy,tb,ro,la,le,li,dn,lx,AL,lt,n,Az,ps,wy⟩ (Y0 (rs.map V.int) n):=(wJ (a:=⟨y,dy,tb,ro,la,le,li,dn,lx,AL,lt,n,Az,ps,wy⟩) (by rw[length_map];exact CI)).DK (zero_le _) (by show ps.length <= 40;omega)
 refine⟨⟨y,dy,tb,ro,la,le,li,dn,lx,AL,lt,n,Az,ps,wy⟩,rfl,rfl,rfl,rfl,rfl,s5,fun z hz=>?_,⟨hY,hT.keep W (An.AF s5),hO,hJ.ok⟩,hJ⟩
 have hz:z ∈ [la,le,li,dn]:=hz
 simp only[mem_cons,not_mem_nil,or_false]at hz
 rcases hz with rfl | rfl | rfl | rfl
 ·exact s4.free FI
 ·exact s4.free GD
 ·exact s4.free II
 ·exact s4.free GF
theorem oA {α:Type}{R:Hp->V->α->Prop}{g:TG}{te:TE}{σ0:St}{H:Hp}{Q:VK}(mono:∀ {H H':Hp},An H H'->∀ v a,R H v a->R H' v a)(as:List α)(hn:as.length < sizeLine)
  (hs:∀ (i:Nat)(a:α)(H1:Hp)(N:V->Hp->Prop),as[i]? = some a->An H H1->(∀ v H2,An H1 H2->R H2 v a->N v H2)->g (.int i) σ0 H1 fun σ2 H2=>te σ2 H2 N)
  (hq:∀ D vs H1,An H H1->H1 D=none->Paired (R H1) vs as->Q (.ref D) (upd H1 D (.lst vs))):dQ (wc 0 as.length) g mY te σ0 Q H:=by
 refine aX as.length hn (fun i acc H'=>An H H'/\Paired (R H') acc (as.take i)) ⟨An.refl _, .nil⟩ (fun i acc H' h=>by rw[Paired.length h.2];exact length_take_le _ _) (fun i acc H' hi h=>?_) (fun acc H' h=>?_)
 ·obtain⟨s,hL⟩:=h
  refine⟨hi,fun v H2 y=>?_⟩
  obtain⟨rfl,rfl⟩:=y
  rw[zero_add]
  refine hs i as[i] H2 (fun y H4=>An H H4/\Paired (R H4) (acc ++ [y]) (as.take (i + 1))) (getElem?_eq_getElem hi) s fun v H3 s3 hv=>⟨s.trans s3,?_⟩
  rw[take_succ,getElem?_eq_getElem hi]
  exact Paired.snoc hv (Paired.mono (mono s3) hL)
 ·obtain⟨s,hL⟩:=h
  rw[take_length]at hL
  exact⟨le_refl _,fun D hD=>hq D acc H' s hD hL⟩
noncomputable def zW (s:YS):Bool:=decide ((s.Am.map (·.len)).sum=(s.lies.map fun q=>(q.length:Int)).sum)
noncomputable def RX (s:Stmt):Scope:=match s with
 | .Return (some (.Compare (.Call _ [.ListComp _ _ sc _] _ _) _ _ _)) _=>sc
 | _=>zQ0
noncomputable def RY (s:Stmt):Scope:=match s with
 | .Return (some (.Compare _ _ [.Call _ [.ListComp _ _ sc _] _ _] _)) _=>sc
 | _=>zQ0
noncomputable def lP (K:Frag)(ys:Ys):Sp:=fun vs H Q _=>∃ (y dy tb ro la le li dn:Addr)(s:YS),vs=[.ref y]/\Av K ys H y dy tb ro la le li dn s/\s.Am.length <= 900/\s.lies.length <= 900/\∀ H',An H H'->Q (.bl (zW s)) H'
theorem RZ:ao ["self"] ["self"] (af gJ):=L2.AQ
theorem Sa:Bi ["self"] (af gJ) (RX ((aG gJ).getD 0 (.Pass ⟨0,0,0,0⟩))) [] []:=L2.B0
theorem Sb:Bi ["self"] (af gJ) (RY ((aG gJ).getD 0 (.Pass ⟨0,0,0,0⟩))) [] []:=L2.B0
theorem Sd:(["letter"]:List Str).Nodup:=by decide +kernel
theorem Se:(["pieces"]:List Str).Nodup:=by decide +kernel
theorem uX {ys:Ys}{f:Addr}{fd:FuncData}(F:AM K "ended" "Yard.ended" gJ f fd)(T:Txt mg)(Y:gS K ys):Ao P w K mg base aA 1 f fd ["self"] (lP K ys):=by
 refine F.ok RZ (fun _ _ _ _ h=>?_) (fun _ _ _ s H _ Q E hr h=>?_)
 ·obtain⟨y,dy,tb,ro,la,le,li,dn,st,rfl,_⟩:=h
  rfl
 ·obtain⟨y,dy,tb,ro,la,le,li,dn,st,rfl,hY,h9,h92,q⟩:=h
  refine⟨_,ah (aq (cj bj (az (oH rfl) rfl T.sum PyProof.Rows.boot_sum (aa (aS (own:=["letter"]) (capN:=[]) (cap:=[]) Sa rfl (aR (am (pv 0) rfl)) (fun C s' H' fp=>⟨av (i:=0) Sd rfl (Or.inl rfl),bc,(show PE _ _ (se K (pe 0) "length") from am (pv 0) rfl)⟩)) ad))
   (az (oH rfl) rfl T.sum PyProof.Rows.boot_sum (aa (aS (own:=["pieces"]) (capN:=[]) (cap:=[]) Sb rfl (aR (am (pv 0) rfl)) (fun C s' H' fp=>⟨av (i:=0) Se rfl (Or.inl rfl),bc,az (show AS _ (.builtin "len") (yZ K) from ay) rfl T.len PySem.boot_len (aa (pv 0) ad)⟩)) ad)) (aw _))),?_⟩
  obtain⟨Az,Bz,pl⟩:=hY.hle
  have CA:=Paired.length pl
  refine⟨_,rfl,y,ys.Aq,dy,_,_,rfl,hY.ins,Y.cl,Y.n4,rfl,le,rfl,⟨_,Ap.of Bz⟩,?_⟩
  refine ly (fun i => .int (st.Am.getD i ⟨0,0,0,0,0,[]⟩).len) (by rw[sizeLine_eq];omega) (Ap.of Bz) (fun i x N hx h=>?_) (fun D hD=>?_)
  ·obtain⟨lt,Bg,x',dx,wa,rfl,CQ,_⟩:=Paired.at pl hx
   rw[getD_eq_getElem?_getD,Bg]at h
   exact⟨_,rfl,x',ys.Ar,dx,_,_,rfl,CQ,Y.ct,Y.t3,rfl,h⟩
  have e1:(List.range Az.length).map (fun i=>V.int (st.Am.getD i ⟨0,0,0,0,0,[]⟩).len)=(st.Am.map (·.len)).map V.int:=by
   rw[CA,map_map]
   exact jL st.Am _ fun s=>V.int s.len
  rw[e1]
  have s1:=(An.refl H).new (o := .lst ((st.Am.map (·.len)).map V.int)) hD
  have gD:(upd H D (.lst ((st.Am.map (·.len)).map V.int))) D=some (.lst ((st.Am.map (·.len)).map V.int)):=ac
  generalize upd H D (.lst ((st.Am.map (·.len)).map V.int))=H1 at s1 gD ⊢
  refine⟨D,_,rfl,Ap.of gD,?_⟩
  have BO:=hY.same s1
  obtain⟨DH,Fo,ph⟩:=BO.Cu
  have hhl:=Paired.length ph
  refine⟨_,rfl,y,ys.Aq,dy,_,_,rfl,BO.ins,Y.cl,Y.n5,rfl,li,rfl,⟨_,Ap.of Fo⟩,?_⟩
  refine ly (fun i => .int ((st.lies.getD i []).length:Nat)) (by rw[sizeLine_eq];omega) (Ap.of Fo) (fun i x N hx h=>?_) (fun D2 BB=>?_)
  ·obtain⟨qs,Cy,t,vs,rfl,ht,hL⟩:=Paired.at ph hx
   rw[getD_eq_getElem?_getD,Cy]at h
   have E5:vs.length=qs.length:=Paired.length hL
   refine⟨_,rfl,t,vs,rfl, .inr (Ay.of ht),?_⟩
   rw[E5]
   exact h
  have e2:(List.range DH.length).map (fun i=>V.int ((st.lies.getD i []).length:Nat))=(st.lies.map fun q=>(q.length:Int)).map V.int:=by
   rw[hhl,map_map]
   exact jL st.lies _ fun q=>V.int (q.length:Nat)
  rw[e2]
  refine⟨D2,_,rfl,Ap.of ac,rfl,?_⟩
  rw[bU]
  exact q _ (s1.new BB)
noncomputable def aI (rs:List Rw)(k:bV):Nat:=match cn rs k with
 | some r=>Yd.Bm r.s 0
 | none=>0
theorem cy {rs:List Rw}{k:bV}{r:Rw}(h:cn rs k=some r):r ∈ rs:=mem_reverse.mp (List.mem_of_find?_eq_some h)
noncomputable def kG (rs:List Rw):Wf:=fun p g k=>mN (aI rs (aM ⟨(p:Int),(g:Int),k,[]⟩))
noncomputable def A0 (P:Program)(w:World)(ts:Ts):TJ:=fun H x n wy=>∃ (dx de:Addr)(lv:V)(Aw:List gW)(rs:List Rw),H x=some (.ins ts.told dx [("land",lv),("entries", .ref de)])/\Bk P w H de Aw/\(∀ k,dA Aw k=(cn rs k).map uh)/\(∀ r ∈ rs,∀ k ∈ r.s,k < 40)/\wy=kG rs
theorem A0.keep {P:Program}{w:World}{ts:Ts}{H H':Hp}{x:Addr}{n:Nat}{wy:Wf}(h:A0 P w ts H x n wy)(k:AV H H'):A0 P w ts H' x n wy:=by
 obtain⟨dx,de,lv,Aw,rs,h1,⟨h2,h3⟩,h4⟩:=h
 exact⟨dx,de,lv,Aw,rs,k _ _ h1 True.intro,⟨k _ _ h2 True.intro,fun y hy=>k _ _ (h3 y hy) True.intro⟩,h4⟩
theorem zI {ks:List Nat}{z:Nat}(h:z ∈ mN (Yd.Bm ks 0)):z ∈ ks:=by
 have:=(mem_filter.mp h).2
 have h2:(Yd.Bm ks 0).testBit z=true:=this
 rw[sd,decide_eq_true_eq]at h2
 obtain⟨n,hn,e⟩:=Bq.mp h2
 have:n=z:=by omega
 exact this ▸ hn
theorem vt (m:Nat):(mN m).Nodup:=List.nodup_range.filter _
theorem oT {rs:List Rw}{n:Nat}(h:∀ r ∈ rs,∀ k ∈ r.s,k < n)(p g:Nat)(k:Option Nat):(∀ z ∈ kG rs p g k,z < n)/\(kG rs p g k).length <= n:=by
 have h1:∀ z ∈ kG rs p g k,z < n:=fun z hz=>by
  unfold kG aI at hz
  cases hl:cn rs (aM ⟨(p:Int),(g:Int),k,[]⟩) with
  | none=>rw[hl]at hz;exact absurd hz (by show z ∉ mN 0;intro h;cases h)
  | some r=>rw[hl]at hz;exact h r (cy hl) z (zI hz)
 exact⟨h1,iG n _ (vt _) h1⟩
theorem oZ {ts:Ts}{f:Addr}{fd:FuncData}(G:Ao P w K mg base aA 3 f fd ["self", "place", "goal", "came"] (lH P w ts)):Ao P w K mg base aA 3 f fd ["self", "place", "goal", "came"] (jd (A0 P w ts)) :=
 G.imp fun vs H Q E Au=>by
 obtain⟨x,n,wy,p,g,k,e,⟨dx,de,lv,Aw,rs,h1,h2,h3,h4,h5⟩,hp,hg,q⟩:=Au
 exact⟨x,dx,de,lv,Aw,⟨(p:Int),(g:Int),k,[]⟩,aI rs (aM ⟨(p:Int),(g:Int),k,[]⟩),e,h1,h2,by
  rw[h3]
  unfold aI
  cases cn rs (aM ⟨(p:Int),(g:Int),k,[]⟩)<;>rfl,by
  unfold aI
  cases hl:cn rs (aM ⟨(p:Int),(g:Int),k,[]⟩) with
  | none=>exact Nat.two_pow_pos _
  | some r=>exact lt_of_lt_of_le (ug (h4 r (cy hl))) (pow_le_pow_right (by decide) (by decide)),fun H' D s' hD=>q D _ (s'.new hD) (s'.free hD) (by rw[ac,h5];rfl)⟩
theorem rP {sel:Int × Int->Int}{ps:List (Int × Int)}{pl:Int}{g:TG}{tt:TT}{te:TE}{σ0:St}{H:Hp}{Q:VK}(hn:ps.length < sizeLine)
  (hs:∀ (i:Nat)(acc:List V)(N:List V->Hp->Prop)(pr:Int × Int),ps[i]? = some pr->N (if decide (sel pr=pl)=true then acc ++ [V.int i] else acc) H->g (.int i) σ0 H fun σ2 H2=>tt σ2 H2 fun b H3=>if b=true then te σ2 H3 fun y H4=>N (acc ++ [y]) H4 else N acc H3)
  (hq:∀ D,H D=none->Q (.ref D) (upd H D (.lst (c5 (dM sel ps pl))))):dQ (wc 0 ps.length) g tt te σ0 Q H:=by
 refine o0 (lo:=0) (fun k=>decide (sel (ps.getD k (0,0))=pl)) (fun k=>V.int k) hn (fun i acc N hi h=>?_) hq
 obtain⟨pr,Cr⟩:∃ pr,ps[i]? = some pr:=⟨ps[i],getElem?_eq_getElem hi⟩
 have eg:ps.getD i (0,0)=pr:=by rw[getD_eq_getElem?_getD,Cr];rfl
 rw[zero_add]
 rw[eg]at h
 exact hs i acc N pr Cr h
abbrev ND:List Str:=["_law_script", "_law_k", "_law_cell", "_law_number"]
theorem fU {i j:Int}(h:0 < j/\j < 2 ^ 64):-(2 ^ 64) < i % j/\i % j < 2 ^ 64:=by
 have h0:=emod_nonneg i (show j ≠ 0 by omega)
 have h1:=emod_lt_of_pos i h.1
 omega
noncomputable def hZ (K:Frag):Sp:=fun vs H Q _=>∃ (a:Addr)(ns:List Int)(k:Int),vs=[.ref a, .int k]/\Ap K H a (ns.map V.int)/\0 <= k/\k <= 100000/\∀ d H',An H H'->(0 <= d/\d < 4294967296)->Q (.int d) H'
theorem pZ {i j:Int}(h:0 < j/\j <= 4294967296):0 <= i % j/\i % j < 4294967296:=by
 have h0:=emod_nonneg i (show j ≠ 0 by omega)
 have h1:=emod_lt_of_pos i h.1
 omega
theorem pY {z:Int}(h:0 <= z):∃ m:Nat,z=(m:Int):=eq_ofNat_of_zero_le h
theorem Cb:ao ND ["_law_script", "_law_k"] (af u5):=L2.AQ
theorem mF {ns:List Int}{i:Int}(h0:0 <= i)(h1:i < (ns.length:Nat)):∃ m,vR (ns.map V.int) i=some (.int m):=by
 obtain⟨j,rfl⟩:=eq_ofNat_of_zero_le h0
 have hj:j < ns.length:=by omega
 exact⟨ns[j],ak (j:=j) (by simp[hj])⟩
theorem uY {f:Addr}{fd:FuncData}(F:AM K "_law_draw" "_law_draw" u5 f fd)(T:Txt mg):Ao P w K mg base aA 1 f fd ["_law_script", "_law_k"] (hZ K):=by
 refine F.ok Cb (fun _ _ _ _ h=>?_) (fun _ _ _ s H _ Q E hr h=>?_)
 ·obtain⟨a,ns,k,rfl,_⟩:=h
  rfl
 ·obtain⟨a,ns,k,rfl,hS,k0,k1,q⟩:=h
  have hu:=hr.units
  refine⟨_,ae (aC (i:=2) Cb.nd rfl (Or.inl rfl) ag)
   (ae (aP (PW.pt (dY (au (pO hu) (pv 0) (aO ad) (aw _)) (dC (au bj (aB bA (ax aJ (pv 0) ag (fun _ _=>rfl)) ag) ag (aw _)))))
    (ae (aP (au qV (aB bR ag (aB dE (pv 1) ag)) (az ay rfl T.len PySem.boot_len (aa (pv 0) ad)) (aw _))
      (ah (aC (i:=2) Cb.nd rfl (Or.inl rfl) (ax aJ (pv 0) (aB bR ag (aB dE (pv 1) ag)) (fun _ _=>rfl)))) aD)
     (ah (aq (aB bA (aB pN (pv 2) (aB fI ag (aB bA (pv 1) ag))) (aB mj ag ag))))) aD)
   (ae (aP (au (pO hu) (pv 0) (aO ad) (aw _)) (ah (aC (i:=2) Cb.nd rfl (Or.inl rfl) (ax aJ (pv 0) (aB bA (pv 1) (az ay rfl T.len PySem.boot_len (aa (pv 0) ad))) (fun _ _=>rfl)))) aD)
   (ae (aC (i:=3) Cb.nd rfl (Or.inl rfl) (aB bA (aB fI (aB bR (aB bR (pv 2) (aB fI ag (pv 1))) ag) ag) ag))
   (ae (aC (i:=3) Cb.nd rfl (Or.inl rfl) (aB bA (aB fI (pv 3) (aB bR (aB dE (pv 3) ag) ag)) ag))
   (ah (aq (aB bA (aB fI (pv 3) (aB bR (aB dE (pv 3) ag) ag)) ag))))))),?_⟩
  have m30a:0 <= k % 30:=emod_nonneg _ (by decide)
  have d30:0 <= k / 30:=Int.ediv_nonneg k0 (by decide)
  have L0:∀ {H':Hp},An H H'->∀ l,Ap K (upd H' l (.lst [])) l (([]:List Int).map V.int):=fun _ l=>Ap.of ac
  refine⟨_,rfl,by show 0 <= sizeLine;exact zero_le _,fun l hl=>⟨a,l,ns,[],rfl,rfl,(An.new (An.refl H) hl).seq hS,Ap.of ac,_,rfl,?_⟩⟩
  have s1:An H (upd H l (.lst [])):=An.new (An.refl H) hl
  generalize upd H l (.lst [])=H1 at s1 ⊢
  by_cases Bj:ns=[]
  ·refine v7 Bj (aE ?_)
   refine⟨_,rfl,by show 0 <= sizeLine;exact zero_le _,fun l2 Df=>⟨a,l2,ns,[],rfl,rfl,(An.new s1 Df).seq hS,Ap.of ac,_,rfl,v7 Bj ?_⟩⟩
   have s2:An H (upd H1 l2 (.lst [])):=An.new s1 Df
   generalize upd H1 l2 (.lst [])=H2 at s2 ⊢
   refine⟨_,rfl,_,rfl,_,_,rfl,rfl, .inl ⟨by decide,by decide⟩,_,_,rfl,rfl,_,_,rfl,rfl,_,_,rfl,rfl, .inr ⟨by decide,by decide⟩,_,_,rfl,rfl,(by show (0:Int) < 2147483647;decide),?_⟩
   refine⟨_,rfl,_,rfl,_,_,rfl,rfl,⟨by decide,by decide⟩,_,_,rfl,rfl,_,_,rfl,rfl, .inl (fU (by decide)),_,_,rfl,rfl,(by show (0:Int) < 2147483647;decide),?_⟩
   exact⟨_,rfl,_,rfl,_,_,rfl,rfl,⟨by decide,by decide⟩,_,_,rfl,rfl,_,_,rfl,rfl, .inl (fU (by decide)),_,_,rfl,rfl,(by show (0:Int) < 2147483399;decide),q _ _ s2 (pZ (by decide))⟩
  ·have hlen:0 < ns.length:=length_pos_iff.mpr Bj
   rw[decide_eq_false Bj]
   refine aL ?_
   obtain⟨m0,hm0⟩:=mF (ns:=ns) (i:=0) (by decide) (by omega)
   refine⟨_,rfl,a,_,0,_,rfl,rfl,s1.seq hS,hm0,_,_,rfl,rfl,(by show (0:Int) < 2;decide),rfl,_,rfl,?_⟩
   rw[gP]
   cases hodd:decide (m0 % 2=1) with
   | true =>
    refine aL ?_
    have Ft:∀ cell:Int,Q (.int (cell / 2 ^ (32 * (k % 30)).toNat % 2 ^ (32:Int).toNat)) H1:=fun cell=>q _ _ s1 (pZ (by decide))
    have fin:∀ cell:Int,0 <= 32 * (k % 30):=fun _=>by omega
    refine⟨_,rfl,_,_,rfl,rfl,⟨by decide,by decide⟩,_,_,rfl,rfl,_,rfl,a,_,rfl, .inl (s1.seq hS),_,_,rfl,rfl,_,rfl,?_⟩
    refine zO (fun Bg=>?_) fun _=>?_
    ·have M9:1 + k / 30 < ((ns.map V.int).length:Nat):=of_decide_eq_true Bg
     rw[length_map]at M9
     obtain⟨m1,JU⟩:=mF (ns:=ns) (i:=1 + k / 30) (by omega) M9
     refine⟨_,rfl,_,rfl,_,_,rfl,rfl,⟨by decide,by decide⟩,_,_,rfl,rfl,a,_,_,_,rfl,rfl,s1.seq hS,JU,?_⟩
     exact⟨_,rfl,_,rfl,_,_,rfl,rfl,(by show (0:Int) < 30;decide),_,_,rfl,rfl, .inl ⟨by decide,by decide⟩,_,_,rfl,rfl,fin 0,_,_,rfl,rfl,⟨by decide,by decide,by decide⟩,_,_,rfl,rfl,(by show (0:Int) < 2 ^ (32:Int).toNat;decide),Ft _⟩
    ·exact⟨_,rfl,_,rfl,_,_,rfl,rfl,(by show (0:Int) < 30;decide),_,_,rfl,rfl, .inl ⟨by decide,by decide⟩,_,_,rfl,rfl,fin 0,_,_,rfl,rfl,⟨by decide,by decide,by decide⟩,_,_,rfl,rfl,(by show (0:Int) < 2 ^ (32:Int).toNat;decide),Ft _⟩
   | false =>
    refine aE ?_
    refine⟨_,rfl,by show 0 <= sizeLine;exact zero_le _,fun l2 Df=>⟨a,l2,ns,[],rfl,rfl,(An.new s1 Df).seq hS,Ap.of ac,_,rfl,?_⟩⟩
    have s2:An H (upd H1 l2 (.lst [])):=An.new s1 Df
    generalize upd H1 l2 (.lst [])=H2 at s2 ⊢
    rw[decide_eq_false Bj]
    refine aL ?_
    have C2:0 < ((ns.map V.int).length:Int):=by rw[length_map];omega
    obtain⟨m2,hm2⟩:=mF (ns:=ns) (i:=k % ((ns.map V.int).length:Nat)) (emod_nonneg _ (by omega)) (by have:=emod_lt_of_pos k C2;rw[length_map]at this ⊢;exact this)
    refine⟨_,rfl,_,rfl,_,rfl,a,_,rfl, .inl (s2.seq hS),_,_,rfl,rfl,C2,a,_,_,_,rfl,rfl,s2.seq hS,hm2,?_⟩
    refine⟨_,rfl,_,rfl,_,_,rfl,rfl, .inl ⟨by decide,by decide⟩,_,_,rfl,rfl,_,_,rfl,rfl,_,_,rfl,rfl, .inr ⟨by decide,by decide⟩,_,_,rfl,rfl,(by show (0:Int) < 2147483647;decide),?_⟩
    refine⟨_,rfl,_,rfl,_,_,rfl,rfl,⟨by decide,by decide⟩,_,_,rfl,rfl,_,_,rfl,rfl, .inl (fU (by decide)),_,_,rfl,rfl,(by show (0:Int) < 2147483647;decide),?_⟩
    exact⟨_,rfl,_,rfl,_,_,rfl,rfl,⟨by decide,by decide⟩,_,_,rfl,rfl,_,_,rfl,rfl, .inl (fU (by decide)),_,_,rfl,rfl,(by show (0:Int) < 2147483399;decide),q _ _ s2 (pZ (by decide))⟩
theorem vb {n a e:Int}(h1:0 <= a)(h2:a < n)(h3:0 <= e)(h4:e < n - 1):gR n (a,(a + 1 + e) % n)=true:=by
 have hb:(a + 1 + e) % n=if a + 1 + e < n then a + 1 + e else a + 1 + e - n:=by
  split
  ·exact Int.emod_eq_of_lt (by omega) (by omega)
  ·rw[← Int.sub_emod_right,Int.emod_eq_of_lt (by omega) (by omega)]
 unfold gR
 dsimp only
 rw[hb]
 simp only[Bool.and_eq_true,decide_eq_true_eq,Bool.not_eq_true',decide_eq_false_iff_not]
 split<;>omega
theorem xx {H:Hp}{l:Addr}{xs:List V}{o:HO}(hl:H l=some (.lst xs)):∀ {vs:List V}{ps:List (Int × Int)},AN H vs ps->AN (upd H l o) vs ps:=fun Au=>by
 induction Au with
 | nil=>exact .nil
 | cons zz r ih=>obtain⟨t,e,q⟩:=zz;exact .cons ⟨t,e,by rw[ai (bz q hl (by intro z;cases z))];exact q⟩ ih
noncomputable def c8:Scope:=zQ0
noncomputable def eO (s:Stmt):Scope:=match s with
 | .Assign _ (.ListComp _ _ sc _) _=>sc
 | _=>c8
noncomputable def vM (s:Stmt):Scope:=match s with
 | .Assign _ (.BinOp _ _ (.ListComp _ _ sc _) _) _=>sc
 | _=>c8
theorem gO {sel:Int × Int->Int}{ps:List (Int × Int)}{pl:Int}{k:Nat}(h:k ∈ dM sel ps pl):k < ps.length:=mem_range.mp (mem_filter.mp h).1
theorem jo (sel:Int × Int->Int)(ps:List (Int × Int))(pl:Int):(dM sel ps pl).length <= ps.length:=by
 have:=length_filter_le (fun k=>decide (sel (ps.getD k (0,0))=pl)) (List.range ps.length)
 rw[length_range]at this
 exact this
noncomputable def Sf (x:Addr)(H:Hp)(v:V)(r:Rw):Prop:=∃ t l,v = .ref t/\Ht H t l r/\l ≠ x
abbrev Cg (x:Addr)(H:Hp):List V->List Rw->Prop:=Paired (Sf x H)
theorem Cg.imp {x:Addr}{H H':Hp}{G:V->Rw->Prop}(h:∀ v r,Sf x H v r->G v r):∀ {vs:List V}{rs:List Rw},Cg x H vs rs->Paired G vs rs:=fun Au=>by
 induction Au with
 | nil=>exact .nil
 | cons z r ih=>exact .cons (h _ _ z) ih
theorem Cg.rws {x:Addr}{H:Hp}{vs:List V}{rs:List Rw}(h:Cg x H vs rs):By H vs rs:=Cg.imp (H':=H) (fun _ _ ⟨t,l,e,z,_⟩=>⟨t,l,e,z⟩) h
theorem Cg.same {x:Addr}{H H':Hp}(s:An H H'){vs:List V}{rs:List Rw}(h:Cg x H vs rs):Cg x H' vs rs:=Cg.imp (H':=H) (fun _ _ ⟨t,l,e,z,n⟩=>⟨t,l,e,z.same s,n⟩) h
theorem Cg.off {x:Addr}{H:Hp}{xs:List V}{o:HO}(hx:H x=some (.lst xs)){vs:List V}{rs:List Rw}(h:Cg x H vs rs):Cg x (upd H x o) vs rs :=
 Cg.imp (H':=H) (fun _ _ Au=>by obtain⟨t,l,e,z,n⟩:=Au;exact⟨t,l,e,⟨by rw[ai (bz z.1 hx (by intro z;cases z))];exact z.1,by rw[ai n];exact z.2⟩,n⟩) h
theorem Cg.snoc {x:Addr}{H:Hp}{v:V}{r:Rw}(h:Sf x H v r):∀ {vs:List V}{rs:List Rw},Cg x H vs rs->Cg x H (vs ++ [v]) (rs ++ [r]):=fun Au=>by
 induction Au with
 | nil=>exact .cons h .nil
 | cons z t ih=>exact .cons z ih
abbrev xK:=Hp->Addr->(bV->Nat)->Prop
noncomputable def pf (J:xK):Sp:=fun vs H Q _=>∃ (x:Addr)(wy:bV->Nat)(r:Rw),vs=[.ref x, .int r.p, .int r.g,cV r.c]/\J H x wy/\∀ H' D,An H H'->H' D=none->Q (.ref D) (upd H' D (.lst (eL (wy (aM r)))))
structure Way (K:Frag)(C fw:Addr)(dw:FuncData)(J:xK):Prop where
 cl:CG K C
 m:bB K C "ways" fw
 b:Binds K dw ["self", "place", "goal", "came"] []
 inst:∀ H x wy,J H x wy->∃ dx fs,H x=some (.ins C dx fs)/\fs.lookup ("ways":Str)=none
 BW:∀ H H' x wy,J H x wy->An H H'->J H' x wy
noncomputable def fu (P:Program)(w:World)(ts:Ts):xK:=fun H x wy=>∃ (dx de:Addr)(lv:V)(Aw:List gW),H x=some (.ins ts.told dx [("land",lv),("entries", .ref de)])/\Bk P w H de Aw/\∀ k,(dA Aw k).getD (.int 0) = .int (wy k)/\wy k < 2 ^ 400
theorem rZ {ts:Ts}{f:Addr}{fd:FuncData}(G:Ao P w K mg base aA 3 f fd ["self", "place", "goal", "came"] (lH P w ts)):Ao P w K mg base aA 3 f fd ["self", "place", "goal", "came"] (pf (fu P w ts)) :=
 G.imp fun vs H Q E Au=>by obtain⟨x,wy,r,e,⟨dx,de,lv,Aw,h1,h2,h3⟩,q⟩:=Au;exact⟨x,dx,de,lv,Aw,r,wy (aM r),e,h1,h2,(h3 _).1,(h3 _).2,q⟩
noncomputable def bS (ps:List (Int × Int))(p:Nat):List (Option Nat):=none :: (dM Prod.snd ps p).map some
abbrev gh:=Int × Int × Option Nat
noncomputable def eY (r:Rw):gh:=(r.p,r.g,r.c)
noncomputable def eC (ps:List (Int × Int))(p g:Nat):List gh:=if g=p then [] else (bS ps p).map fun c=>((p:Int),(g:Int),c)
noncomputable def cv (ps:List (Int × Int))(n p:Nat):List gh:=(List.range n).flatMap fun g=>eC ps p g
noncomputable def bO (ps:List (Int × Int))(n m:Nat):List gh:=(List.range m).flatMap fun p=>cv ps n p
noncomputable def cZ (k:gh):bV:=[some k.1,some k.2.1,k.2.2.map fun z:Nat=>(z:Int)]
theorem fJ {k l:gh}(h:cZ k=cZ l):k=l:=by
 obtain⟨a,b,c⟩:=k
 obtain⟨a',b',c'⟩:=l
 simp only[cZ,List.cons.injEq,Option.some.injEq,and_true]at h
 obtain⟨rfl,rfl,h⟩:=h
 congr 2
 cases c<;>cases c'<;>simp_all<;>omega
structure CZ (n:Nat)(ps:List (Int × Int))(rs:List Rw):Prop where
 keys:rs.map eY=bO ps n n
 lanes:∀ r ∈ rs,(∀ k ∈ r.s,k ∈ dM Prod.fst ps r.p)/\r.s.length <= ps.length
theorem oG (ps:List (Int × Int))(p:Nat):(bS ps p).Nodup:=by
 unfold bS
 refine nodup_cons.mpr ⟨fun h=>by simp at h,?_⟩
 refine List.Pairwise.map _ (fun a b (h:a ≠ b) e=>h (Option.some.inj e)) ?_
 exact List.Pairwise.filter _ (List.nodup_range)
theorem dJ {ps:List (Int × Int)}{p g:Nat}{k:gh}(h:k ∈ eC ps p g):g ≠ p/\k.1=p/\k.2.1=g/\k.2.2 ∈ bS ps p:=by
 unfold eC at h
 by_cases e:g=p
 ·rw[if_pos e]at h;cases h
 ·rw[if_neg e]at h
  obtain⟨c,hc,rfl⟩:=mem_map.mp h
  exact⟨e,rfl,rfl,hc⟩
theorem io {ps:List (Int × Int)}{n m:Nat}{k:gh}(h:k ∈ bO ps n m):∃ p g:Nat,p < m/\g < n/\g ≠ p/\k.1=p/\k.2.1=g/\k.2.2 ∈ bS ps p:=by
 unfold bO cv at h
 obtain⟨p,hp,h⟩:=mem_flatMap.mp h
 obtain⟨g,hg,h⟩:=mem_flatMap.mp h
 obtain⟨a,b,c,d⟩:=dJ h
 exact⟨p,g,mem_range.mp hp,mem_range.mp hg,a,b,c,d⟩
theorem gN (ps:List (Int × Int))(n m:Nat):(bO ps n m).Nodup:=by
 unfold bO
 refine List.pairwise_flatMap.mpr ⟨fun p _=>?_,?_⟩
 ·unfold cv
  refine List.pairwise_flatMap.mpr ⟨fun g _=>?_,?_⟩
  ·unfold eC
   split
   ·exact .nil
   ·exact List.Pairwise.map _ (fun a b (h:a ≠ b) e=>h (by simpa using e)) (oG ps p)
  ·refine List.Pairwise.imp ?_ (pairwise_lt_range)
   intro g g' hg x hx y hy e
   subst e
   have h1:=(dJ hx).2.2.1
   have h2:=(dJ hy).2.2.1
   omega
 ·refine List.Pairwise.imp ?_ (pairwise_lt_range)
  intro p p' hp x hx y hy e
  subst e
  unfold cv at hx hy
  obtain⟨g,_,hx⟩:=mem_flatMap.mp hx
  obtain⟨g',_,hy⟩:=mem_flatMap.mp hy
  have h1:=(dJ hx).2.1
  have h2:=(dJ hy).2.1
  omega
theorem lh (ps:List (Int × Int))(n i:Nat):bO ps n (i + 1)=bO ps n i ++ cv ps n i:=by
 unfold bO
 rw[range_succ,flatMap_append]
 simp
theorem kA (ps:List (Int × Int))(p j:Nat):cv ps (j + 1) p=cv ps j p ++ eC ps p j:=by
 unfold cv
 rw[range_succ,flatMap_append]
 simp
theorem vy {a r:Rw}(h:aM a=aM r):eY a=eY r:=fJ h
theorem rq {rs:List Rw}(nd:(rs.map eY).Nodup){r:Rw}(hr:r ∈ rs):cn rs (aM r)=some r:=by
 have hs:(cn rs (aM r)).isSome=true:=by
  rw[ir,any_eq_true]
  exact⟨r,hr,decide_eq_true rfl⟩
 obtain⟨r',e⟩:=Option.isSome_iff_exists.mp hs
 have hm:=cy e
 have hk:aM r' = aM r:=by
  unfold cn at e
  have:=List.find?_some e
  exact of_decide_eq_true this
 have hN:=vy hk
 rw[e]
 obtain⟨i,hi,ei⟩:=getElem_of_mem hm
 obtain⟨j,hj,ej⟩:=getElem_of_mem hr
 have hij:i=j:=by
  rcases Nat.lt_trichotomy i j with h | h | h
  ·exact absurd (by rw[getElem_map,getElem_map,ei,ej];exact hN) (pairwise_iff_getElem.mp nd i j (by rw[length_map];exact hi) (by rw[length_map];exact hj) h)
  ·exact h
  ·exact absurd (by rw[getElem_map,getElem_map,ei,ej];exact hN.symm) (pairwise_iff_getElem.mp nd j i (by rw[length_map];exact hj) (by rw[length_map];exact hi) h)
 subst hij
 rw[← ei,ej]
theorem jT:∀ (n:Nat)(l:List Nat),l.Nodup->(∀ x ∈ l,x < n)->l.length <= n
 | 0,l,_,h=>by
  cases l with
  | nil=>exact le_refl _
  | cons x l=>exact absurd (h x mem_cons_self) (Nat.not_lt_zero _)
 | n + 1,l,hn,h=>by
  by_cases hm:n ∈ l
  ·have e:=List.length_erase_of_mem hm
   have:=jT n (l.erase n) (hn.erase n) fun x hx=>by
    have CQ:=(hn.mem_erase_iff).mp hx
    have:=h x CQ.2
    have:=CQ.1
    omega
   omega
  ·have:=jT n l hn fun x hx=>by
    have:=h x hx
    have:x ≠ n:=fun z=>hm (by rw[← z];exact hx)
    omega
   omega
noncomputable def wl (wy:bV->Nat)(k:bV):List Nat:=Yd.Dw (wy k) (Builtin.Int.intBits ((wy k:Nat):Int))
theorem v5:∀ {a b:List Nat},iz a=iz b->a=b
 | [],[],_=>rfl
 | [],_ :: _,h=>by cases h
 | _ :: _,[],h=>by cases h
 | x :: a,y :: b,h=>by
  have h1:(x:Int)=(y:Int):=(List.cons.inj h).1
  have h2:iz a=iz b:=(List.cons.inj h).2
  rw[v5 h2]
  congr 1
  omega
theorem vn {F:List Nat}(h:F.Pairwise (· < ·)):Yd.Dw (Yd.Bm F 0) (Builtin.Int.intBits ((Yd.Bm F 0:Nat):Int))=F:=v5 (qb (r8 h) fun k=>Iff.rfl)
theorem lC (wy:bV->Nat)(k:bV):(wl wy k).Pairwise (· < ·):=Yd.CH _ _
noncomputable def wE (s:Stmt):Scope:=match s with
 | .Return (some (.ListComp _ _ sc _)) _=>sc
 | _=>c8
theorem lz (ps:List (Int × Int))(p:Nat):(bS ps p).length <= ps.length + 1:=by
 unfold bS
 rw[length_cons,length_map]
 have:=jo Prod.snd ps p
 omega
theorem qv (ps:List (Int × Int))(p g:Nat):(eC ps p g).length <= ps.length + 1:=by
 unfold eC
 split
 ·exact zero_le _
 ·rw[length_map];exact lz ps p
theorem gQ (ps:List (Int × Int))(p:Nat):∀ n,(cv ps n p).length <= n * (ps.length + 1)
 | 0=>by simp[cv]
 | n + 1=>by
  rw[kA,length_append,succ_mul]
  have:=gQ ps p n
  have:=qv ps p n
  omega
theorem nX (ps:List (Int × Int))(n:Nat):∀ m,(bO ps n m).length <= m * (n * (ps.length + 1))
 | 0=>by simp[bO]
 | m + 1=>by
  rw[lh,length_append,succ_mul]
  have:=nX ps n m
  have:=gQ ps m n
  omega
theorem j6 {ps:List (Int × Int)}{n i j:Nat}(hp:ps.length <= 40)(hn:n <= 12)(hi:i <= n)(hj:j <= n):(bO ps n i).length <= 5904/\(cv ps j i).length <= 492:=by
 have h1:=nX ps n i
 have h2:=gQ ps i j
 have e1:n * (ps.length + 1) <= 12 * 41:=mul_le_mul hn (by omega)
 have e2:i * (n * (ps.length + 1)) <= 12 * (12 * 41):=mul_le_mul (by omega) e1
 have e3:j * (ps.length + 1) <= 12 * 41:=mul_le_mul (by omega) (by omega)
 exact⟨by omega,by omega⟩
theorem vN (ps:List (Int × Int))(p:Nat):[V.AG] ++ c5 (dM Prod.snd ps p)=(bS ps p).map cV:=by
 unfold bS c5
 rw[map_cons,map_map]
 rfl
theorem oB {K:Frag}{a:Addr}{us:List Nat}{g:TG}{tt:TT}{te:TE}{σ0:St}{H:Hp}{Q:VK}(p:Nat->Bool)(hn:us.length <= 100000)(ha:H a=some (.lst (nV us)))
  (hs:∀ (x:Nat)(acc:List V)(N:List V->Hp->Prop),x ∈ us->N (if p x then acc ++ [.int (x:Int)] else acc) H->g (.int (x:Int)) σ0 H fun σ2 H2=>tt σ2 H2 fun b H3=>if b=true then te σ2 H3 fun y H4=>N (acc ++ [y]) H4 else N acc H3)
  (hq:∀ D,H D=none->Q (.ref D) (upd H D (.lst (nV (us.filter p))))):dQ (vV K a) g tt te σ0 Q H:=by
 refine i3 (K:=K) (a:=a) (xs:=nV us) (fun v=>match v with | .int z=>p z.toNat | _=>false) (fun v=>v) (by rw[sizeLine_eq,du];omega) (Ap.of ha) (fun v acc N hv h=>?_) fun D hD=>?_
 ·obtain⟨x,hx,rfl⟩:=iH hv
  exact hs x acc N hx h
 ·have e:((nV us).filter (fun v=>match v with | .int z=>p z.toNat | _=>false)).map (fun v=>v)=nV (us.filter p):=by
   rw[List.map_id']
   clear hn ha hs hq
   induction us with
   | nil=>rfl
   | cons x us ih =>
    show List.filter _ (V.int (x:Int) :: nV us)=_
    rw[filter_cons,filter_cons,ih]
    show(if p ((x:Int)).toNat=true then _ else _)=_
    rw[toNat_natCast]
    cases p x<;>rfl
  rw[e]
  exact hq D hD
noncomputable def mU (ps:List (Int × Int))(rs:List Rw):Prop:=∀ r ∈ rs,(∀ k ∈ r.s,k ∈ dM Prod.fst ps r.p)/\r.s.length <= ps.length
noncomputable def jq (s:Stmt):List Stmt:=match s with
 | .For _ _ b _ _=>b
 | _=>[]
noncomputable def blank:Str:=⟨#[32]⟩
noncomputable def wT:V->Str
 | .str x=>x
 | .int i=>Str.ofString (toString i)
 | _=>Str.ofString "-"
inductive Wd:V->Prop
 | AG:Wd .AG
 | str (x:Str):Wd (.str x)
 | int (i:Int) (h:i.natAbs.log2 < 1920):Wd (.int i)
noncomputable def qG:Sp:=fun vs H Q _=>∃ x:Str,vs=[.str x]/\x.length <= 1000000/\(Txt.split x blank).length <= 1000000/\∀ D,H D=none->Q (.ref D) (upd H D (.lst ((Txt.split x blank).map V.str)))
noncomputable def fB:Sp:=fun vs H Q _=>∃ m:Nat,vs=[.str (aU m)]/\m < 10 ^ 60/\∀ H',An H H'->Q (.int m) H'
noncomputable def kQ:Sp:=fun vs H Q _=>∃ v:V,vs=[v]/\Wd v/\Q (.str (wT v)) H
noncomputable def je (K:Frag):Sp:=fun vs H Q _=>∃ (a:Addr)(xs:List V),vs=[.ref a]/\(Ap K H a xs∨Ay K H a xs)/\(∀ v ∈ xs,Wd v)/\xs.length <= 1000/\(∀ v ∈ xs,(wT v).length <= 100)/\∀ H',An H H'->Q (.str (Txt.join blank (xs.map wT))) H'
noncomputable def zg (s:Stmt):Scope:=match s with
 | .If (.BoolOp _ [_,_, .UnaryOp _ (.Call _ [.ListComp _ _ sc _] _ _) _] _) _ _ _=>sc
 | _=>zQ0
noncomputable def Sg (s:Stmt):Scope:=match s with
 | .Return (some (.Call _ [.ListComp _ _ sc _] _ _)) _=>sc
 | _=>zQ0
theorem Sh (c:Nat)(h:48 <= c/\c <= 57):c ∈ (Str.ofString "0123456789").cps.toList:=by
 have e:(Str.ofString "0123456789").cps.toList=[48,49,50,51,52,53,54,55,56,57]:=by decide
 rw[e]
 have:c=48∨c=49∨c=50∨c=51∨c=52∨c=53∨c=54∨c=55∨c=56∨c=57:=by omega
 rcases this with rfl | rfl | rfl | rfl | rfl | rfl | rfl | rfl | rfl | rfl<;>decide
noncomputable def Si:R2:=fun x y H Q=>∃ i j:Str,x = .str i/\y = .str j/\Q (.bl (!(Builtin.Str.occurrences j i 0 j.length 1).isEmpty)) H
theorem ip {m:Nat}(h:m < 10 ^ 60):(m:Int).natAbs.log2 < 1920:=by
 rw[natAbs_natCast]
 by_cases h0:m=0
 ·rw[h0];decide
 ·have h1:=Nat.log2_self_le h0
  refine Nat.lt_of_not_le fun h2=>?_
  have h3:2 ^ 1920 <= 2 ^ m.log2:=pow_le_pow_right (by decide) h2
  have h4:(10:Nat) ^ 60 <= 2 ^ 1920:=by
   have:(10:Nat) ^ 60 <= 16 ^ 60:=Nat.pow_le_pow_left (by decide) 60
   have e:(16:Nat) ^ 60=2 ^ 240:=by rw[show (16:Nat)=2 ^ 4 by decide,← Nat.pow_mul]
   have h5:(2:Nat) ^ 240 <= 2 ^ 1920:=pow_le_pow_right (by decide) (by decide)
   omega
  omega
theorem MA:ao ["row"] ["row"] (af p7):=L2.AQ
theorem uI {f:Addr}{fd:FuncData}(F:AM K "words_of" "words_of" p7 f fd):Ao P w K mg base aA 1 f fd ["row"] qG:=by
 refine F.ok MA (fun _ _ _ _ h=>?_) (fun _ _ _ s H _ Q E hr h=>?_)
 ·obtain⟨x,rfl,_⟩:=h
  rfl
 ·obtain⟨x,rfl,h1,h2,q⟩:=h
  refine⟨_,ah (aq (bJ plainAttrs_str PySem.F.slot_str_split PySem.F.type_str_split nO (pv 0) (aa aV ad))),?_⟩
  exact⟨_,rfl,rfl,x,blank,rfl,rfl,rfl,le_trans h1 (by decide),h2,q⟩
theorem Sj:ao ["thing"] ["thing"] (af jC):=L2.AQ
theorem pP {f:Addr}{fd:FuncData}(F:AM K "written" "written" jC f fd)(T:Txt mg):Ao P w K mg base aA 1 f fd ["thing"] kQ:=by
 refine F.ok Sj (fun _ _ _ _ h=>?_) (fun _ _ _ s H _ Q E hr h=>?_)
 ·obtain⟨v,rfl,_⟩:=h
  rfl
 ·obtain⟨v,rfl,hw,q⟩:=h
  refine⟨_,ah (aq (ca (au gL (pv 0) bQ (aw _)) aV (aY (Bh.or gA) rfl T.str PySem.Pv.boot_str (aa (pv 0) ad)))),?_⟩
  refine⟨_,rfl,rfl,_,rfl,?_⟩
  cases hw with
  | AG=>exact aL q
  | str x=>exact aE ⟨_,rfl, .inr ⟨x,rfl,q⟩⟩
  | int i h=>exact aE ⟨_,rfl, .inl ⟨i,rfl,h,q⟩⟩
theorem MB:ao ["word", "number"] ["word"] (af ij):=L2.AQ
theorem Sk:Bi ["word", "number"] (af ij) (zg ((aG ij).getD 0 (.Pass ⟨0,0,0,0⟩))) [] []:=L2.B0
theorem Sl:(["sign"]:List Str).Nodup:=by decide +kernel
theorem sG {f:Addr}{fd:FuncData}{t1 t2:Tok}(F:AM K "number_of" "number_of" ij f fd)(T:Txt mg)(mf:mg "FIGURES" = some (.str (Str.ofString "0123456789") t1))(mm:mg "MOST_FIGURES" = some (.int 60 t2)):Ao P w K mg base aA 1 f fd ["word"] fB:=by
 refine F.ok MB (fun _ _ _ _ h=>?_) (fun _ _ _ s H _ Q E hr h=>?_)
 ·obtain⟨m,rfl,_⟩:=h
  rfl
 ·obtain⟨m,rfl,MC,q⟩:=h
  have hl:(aU m).length <= 60:=fK (by decide) MC
  refine⟨_,ae (aP (PW.pt (eG (au iV (az mS rfl T.len PySem.boot_len (aa (pv 0) ad)) (dS (v := .int 60) rfl mm ⟨_,rfl⟩) (aw _)) (eG (bM (fH (pv 0) (fun _=>rfl))) (dc (bM (bF (az (i4 rfl) rfl T.all PyProof.Rows.boot_all (aa (aS (own:=["sign"]) (capN:=[]) (cap:=[]) Sk rfl (zb (pv 0))
     (fun C s' H' fp=>⟨av (i:=0) Sl rfl (Or.inl rfl),bc,cj (show eD _ (compareOp .In) Si from su) (pv 0) (dS (v := .str (Str.ofString "0123456789")) rfl mf ⟨_,rfl⟩) (by with_unfolding_all rfl)⟩)) ad)))))))) (ah (aq bQ)) aD)
   (ae (aC (i:=1) MB.nd rfl (Or.inl rfl) (aY kL rfl T.int PySem.Pv.boot_int (aa (pv 0) ad)))
   (ah (aq (ca (au bj (aY Bh rfl T.str PySem.Pv.boot_str (aa (pv 1) ad)) (pv 0) (aw _)) (pv 1) bQ)))),?_⟩
  have hsz:(aU m).length <= sizeLine:=le_trans hl (by decide)
  have E7:0 < (aU m).length:=by
   have:=length_pos_iff.mpr (m7 m)
   rw[Array.length_toList]at this
   exact this
  refine⟨_,rfl,aU m,rfl,hsz,_,_,rfl,rfl,_,rfl,?_⟩
  rw[decide_eq_false (show ¬ (60:Int) < ((aU m).length:Nat) by omega)]
  refine aE ⟨_,rfl,_,⟨hsz,rfl⟩,?_⟩
  rw[show((((aU m).length:Nat):Int) != 0)=true by rw[bne_iff_ne];omega]
  refine aE ⟨_,rfl,aU m,rfl,?_⟩
  refine aX (aU m).cps.size (by rw[sizeLine_eq];show(aU m).length < _;omega) (fun i acc H'=>H' = H/\acc=(List.replicate i true).map V.bl) ⟨rfl,rfl⟩ (fun i acc H' h=>by rw[h.2];simp) (fun i acc H' hi h=>?_) (fun acc H' h=>?_)
  ·obtain⟨rfl,rfl⟩:=h
   refine⟨hi,fun v H2 y=>?_⟩
   obtain⟨rfl,c,hc,rfl⟩:=y
   have hm:c ∈ (aU m).cps.toList:=by rw[Array.mem_toList_iff];exact Array.mem_of_getElem? hc
   refine⟨_,rfl,_,_,rfl,rfl,?_⟩
   rw[StrLaws.found_one,decide_eq_true (Sh c (dW m c hm))]
   exact⟨rfl,by rw[replicate_succ',map_append];rfl⟩
  obtain⟨rfl,rfl⟩:=h
  refine⟨le_refl _,fun D hD=>⟨D,List.replicate (aU m).cps.size true,rfl,Ap.of ac,_,rfl,?_⟩⟩
  have s1:=(An.refl H').new (o := .lst ((List.replicate (aU m).cps.size true).map V.bl)) hD
  have e:(List.replicate (aU m).cps.size true).all id=true:=by rw[all_eq_true];intro b hb;rw[eq_of_mem_replicate hb];rfl
  rw[e]
  generalize upd H' D (.lst ((List.replicate (aU m).cps.size true).map V.bl))=H1 at s1 ⊢
  refine aE ⟨_,rfl,aU m,(m:Int),rfl,pX (le_trans hl (by decide)),le_trans hl (by decide),?_⟩
  have Jd:(m:Int).natAbs.log2 < 1920:=ip MC
  refine⟨_,rfl,(m:Int),rfl,Jd,_,rfl,rfl,_,rfl,?_⟩
  rw[decide_eq_true (show V.str (toString (m:Int))=V.str (aU m) from rfl)]
  exact aL ⟨_,rfl,q H1 s1⟩
theorem MD:ao ["things"] ["things"] (af jG):=L2.AQ
theorem Sm:Bi ["things"] (af jG) (Sg ((aG jG).getD 0 (.Pass ⟨0,0,0,0⟩))) [] []:=L2.B0
theorem Sn:(["thing"]:List Str).Nodup:=by decide +kernel
theorem uL {f fw:Addr}{fd dw:FuncData}(F:AM K "row_of" "row_of" jG f fd)(mw:mg "written" = some (.ref fw))(kw:keepIn K (.ref fw)=true)(bw:Binds K dw ["thing"] [])(Gw:Ao P w K mg base aA 1 fw dw ["thing"] kQ):Ao P w K mg base aA 2 f fd ["things"] (je K):=by
 refine F.ok MD (fun _ _ _ _ h=>?_) (fun _ _ _ s H _ Q E hr h=>?_)
 ·obtain⟨a,xs,rfl,_⟩:=h
  rfl
 ·obtain⟨a,xs,rfl,hq,hw,hl,hlen,q⟩:=h
  refine⟨_,ah (aq (bJ plainAttrs_str slot_str_join type_str_join fZ aV (aa (aS (own:=["thing"]) (capN:=[]) (cap:=[]) Sm rfl (yf (aR (pv 0)) (iE (pv 0)))
   (fun C s' H' fp=>⟨av (i:=0) Sn rfl (Or.inl rfl),bc,ap Gw hr rfl mw kw bw .nil al (aa (pv 0) ad)⟩)) ad))),?_⟩
  have fin:∀ D,H D=none->ye K (.str blank) [.ref D] (upd H D (.lst (xs.map fun v=>V.str (wT v)))) (fun v H'=>Q v H'):=fun D hD=>by
   have s1:=(An.refl H).new (o := .lst (xs.map fun v=>V.str (wT v))) hD
   refine⟨blank,D,xs.map wT,rfl,rfl,Ap.of (by rw[ac,map_map];rfl),?_,q _ s1⟩
   have h1:((xs.map wT).map (·.length)).sum <= (xs.map wT).length * 100:=StrLaws.sumLen_le _ fun y hy=>by obtain⟨v,hv,rfl⟩:=mem_map.mp hy;exact hlen v hv
   rw[length_map]at h1 ⊢
   show _ + xs.length * 1 <= _
   omega
  refine⟨rfl,?_⟩
  rcases hq with hq | hq
  ·exact .inl ⟨_,rfl,a,rfl,⟨_,hq⟩,mR (fun v => .str (wT v)) (by rw[sizeLine_eq];omega) hq (fun x N hx h=>⟨_,rfl,x,rfl,hw x hx,h⟩) fin⟩
  ·exact .inr ⟨_,rfl,a,rfl,⟨_,hq⟩,qt (fun v => .str (wT v)) (by rw[sizeLine_eq];omega) hq (fun x N hx h=>⟨_,rfl,x,rfl,hw x hx,h⟩) fin⟩
noncomputable def b9 (wy:bV->Nat)(p g:Nat)(c:Option Nat):List Str:=if (eL (wy (aM ⟨(p:Int),(g:Int),c,[]⟩))).isEmpty then [] else [Txt.join blank (([.str (Str.ofString "way"), .int p, .int g,cV c] ++ eL (wy (aM ⟨(p:Int),(g:Int),c,[]⟩))).map wT)]
noncomputable def qu (ps:List (Int × Int))(p:Nat):List V:=[V.AG] ++ i7 Prod.snd ps p ps.length
noncomputable def yo (wy:bV->Nat):Prop:=∀ k,(eL (wy k)).length <= 40/\∀ v ∈ eL (wy k),Wd v/\(wT v).length <= 10
noncomputable def oQ (i:Int):Prop:=Wd (.int i)/\(wT (.int i)).length <= 10
noncomputable def i8 (c:Cs)(C:Addr)(J:xK):Sp:=fun vs H Q _=>∃ (x dx lx AL lt:Addr)(fs:List (Str × V))(n:Nat)(Az:List V)(ps:List (Int × Int))(wy:bV->Nat)(p g:Nat)(cs:List (Option Nat)),vs=[.ref x, .int p, .int g]/\J H x wy/\H x=some (.ins C dx fs)/\fs.lookup ("land":Str)=some (.ref lx)/\c3 H c lx AL lt n Az ps/\ps.length <= 40/\yo wy/\oQ p/\oQ g/\qu ps p=cs.map cV/\cs.length <= 41/\(∀ k,some k ∈ cs->oQ k) /\
 ∀ (D:Addr)(H':Hp),An H H'->H D=none->H' D=some (.lst ((cs.flatMap (b9 wy p g)).map V.str))->Q (.ref D) H'
abbrev NWr:List Str:=["table", "place", "goal", "rows", "came", "ways"]
theorem nS {α β:Type}(f:α->β)(l:List α)(a:α):l.map f ++ [f a]=(l ++ [a]).map f:=by rw[map_append];rfl
theorem En:ao NWr ["table", "place", "goal"] (af jD):=L2.AQ
theorem pS {c:Cs}{J:xK}{C f fw fi fr:Addr}{fd dw di dr:FuncData}(F:AM K "way_rows" "way_rows" jD f fd)(T:Txt mg)(L:rW K c)(W:Way K C fw dw J)(nl:AE K C "land")(Gw:Ao P w K mg base aA 3 fw dw ["self", "place", "goal", "came"] (pf J))
  (mi:bB K c.land "into" fi) (bi:Binds K di ["self", "place"] []) (Gi:Ao P w K mg base aA 1 fi di ["self", "place"] (tY c Prod.snd)) (mr:mg "row_of" = some (.ref fr)) (kr:keepIn K (.ref fr)=true) (br:Binds K dr ["things"] []) (Gr:Ao P w K mg base aA 2 fr dr ["things"] (je K)) :
  Ao P w K mg base aA 4 f fd ["table", "place", "goal"] (i8 c C J):=by
 refine F.ok En (fun _ _ _ _ h=>?_) (fun _ _ _ s H _ Q E hr h=>?_)
 ·obtain⟨x,dx,lx,AL,lt,fs,n,Az,ps,wy,p,g,cs,rfl,_⟩:=h
  rfl
 ·obtain⟨x,dx,lx,AL,lt,fs,n,Az,ps,wy,p,g,cs,rfl,hJ,hx,hf,hL,Be,E8,hp,hg,W3,Ej,hck,q⟩:=h
  have AY:Ax 1 _:=hr.mono (by decide)
  have Bu:Ax 2 _:=hr.mono (by decide)
  refine⟨_,ae (aC (i:=3) En.nd rfl (Or.inl rfl) (aO ad))
   (ae (bN PassesOwn.never rfl (aR (aB jR (aO (aa bQ ad)) (aH (am (pv 0) rfl) L.cl mi Gi AY bi .nil al (aa (pv 1) ad)))) (av (i:=4) En.nd rfl (Or.inl rfl))
    (ae (aC (i:=5) En.nd rfl (Or.inl rfl) (aH (pv 0) W.cl W.m Gw hr W.b .nil al (aa (pv 1) (aa (pv 2) (aa (pv 4) ad)))))
    (ah (aP (fH (pv 5) (fun _=>rfl)) (ah (aN (bJ plainAttrs_list PySem.F.slot_list_append PySem.F.type_list_append bG (pv 3) (aa (ap Gr Bu rfl mr kr br .nil al (aa (aB jR (aO (aa aV (aa (pv 1) (aa (pv 2) (aa (pv 4) ad))))) (pv 5)) ad)) ad)))) aD))))
   (ah (aq (pv 3)))),?_⟩
  obtain⟨Ef,Ig,CQ,R8⟩:=W.inst _ _ _ hJ
  rw[hx]at CQ
  injection CQ with CQ
  injection CQ with _ e1 e2
  subst e1 e2
  refine⟨zero_le _,fun D hD=>?_⟩
  have s0:=(An.refl H).new (o := .lst []) hD
  have g0:(upd H D (.lst [])) D=some (.lst []):=ac
  show cz 3 (V.ref D) _ (upd H D (.lst [])) _
  generalize upd H D (.lst [])=H0 at s0 g0 ⊢
  refine⟨by show 1 <= sizeLine;decide,fun o1 FN=>?_⟩
  have s1:=s0.new (o := .lst [.AG]) FN
  have g1:(upd H0 o1 (.lst [.AG])) o1=some (.lst [.AG]):=ac
  have OS:(upd H0 o1 (.lst [.AG])) D=some (.lst []):=by rw[ai (aj g0 FN)];exact g0
  generalize upd H0 o1 (.lst [.AG])=H1 at s1 g1 OS ⊢
  have FJ:c3 H1 c lx AL lt n Az ps:=⟨s1 _ _ hL.1,s1 _ _ hL.2.1,AN.same s1 hL.2.2⟩
  refine⟨_,rfl,x,C,dx,fs,_,rfl,s1 _ _ hx,W.cl,nl,hf,lx,AL,_,rfl,FJ.1,rfl,_,rfl,lx,AL,lt,(n:Int),Az,ps,(p:Int),rfl,FJ,by omega,fun H2 o2 s2 B9=>?_⟩
  have u2:=s2.new (o := .lst (i7 Prod.snd ps p ps.length)) B9
  have g2:(upd H2 o2 (.lst (i7 Prod.snd ps p ps.length))) o2=some (.lst (i7 Prod.snd ps p ps.length)):=ac
  generalize upd H2 o2 (.lst (i7 Prod.snd ps p ps.length))=H3 at u2 g2 ⊢
  have hcl2:([V.AG] ++ i7 Prod.snd ps p ps.length).length <= 41:=by
   have:[V.AG] ++ i7 Prod.snd ps p ps.length=cs.map cV:=W3
   rw[this,length_map];exact Ej
  refine⟨o1,o2,_,_,rfl,rfl,u2 _ _ g1,g2,by rw[← length_append,sizeLine_eq];omega,fun Cm MF=>?_⟩
  rw[show [V.AG] ++ i7 Prod.snd ps p ps.length=cs.map cV from W3]
  have u3:=(s1.trans u2).new (o := .lst (cs.map cV)) MF
  have g3:(upd H3 Cm (.lst (cs.map cV))) Cm=some (.lst (cs.map cV)):=ac
  have W4:(upd H3 Cm (.lst (cs.map cV))) D=some (.lst []):=by rw[ai (aj (u2 _ _ OS) MF)];exact u2 _ _ OS
  have nCD:Cm ≠ D:=Ne.symm (aj (u2 _ _ OS) MF)
  generalize upd H3 Cm (.lst (cs.map cV))=H4 at u3 g3 W4 ⊢
  refine⟨Cm,rfl,⟨_,Ap.of g3⟩,?_⟩
  refine fN (K:=K) (a:=Cm) (xs:=cs.map cV) (fun i σ H5=>∃ a4 a5:Option V,An H H5/\H5 D=some (.lst (((cs.take i).flatMap (b9 wy p g)).map V.str))/\H5 Cm=some (.lst (cs.map cV))/\((cs.take i).flatMap (b9 wy p g)).length <= i/\σ=[some (.ref x),some (.int p),some (.int g),some (.ref D),a4,a5])
   ⟨none,none,u3,W4,g3,le_refl _,rfl⟩ (fun i σ H5 _ Au=>by obtain⟨_,_,_,_,g,_⟩:=Au;exact Ap.of g) ?_ ?_
  rotate_left
  ·rintro σ H5 ⟨a4,a5,s5,g5,_,_,rfl⟩
   rw[length_map,take_length]at g5
   exact⟨_,rfl,q D H5 s5 hD g5⟩
  rintro i v σ H5 hv ⟨a4,a5,s5,So,W5,HV,rfl⟩
  have hi:i < cs.length:=by have:=(gQ0 hv);rw[length_map]at this;exact this
  have W6:=getElem?_eq_getElem hi
  rw[getElem?_map,W6]at hv
  cases hv
  have Fx:cs[i] ∈ cs:=getElem_mem hi
  have BS:(cs.take (i + 1)).flatMap (b9 wy p g)=(cs.take i).flatMap (b9 wy p g) ++ b9 wy p g cs[i]:=by
   rw[take_succ,W6,flatMap_append]
   show _ ++ (b9 wy p g cs[i] ++ [])=_
   rw[append_nil]
  generalize cs[i]=cc at Fx BS
  refine⟨_,rfl,x,dx,fs,rfl,s5 _ _ hx,R8,_,rfl,_,rfl,_,rfl,x,wy,⟨(p:Int),(g:Int),cc,[]⟩,rfl,W.BW _ _ _ _ hJ s5,fun H6 o6 s6 ho6=>?_⟩
  have u6:=s6.new (o := .lst (eL (wy (aM ⟨(p:Int),(g:Int),cc,[]⟩)))) ho6
  have g6:(upd H6 o6 (.lst (eL (wy (aM ⟨(p:Int),(g:Int),cc,[]⟩))))) o6=some (.lst (eL (wy (aM ⟨(p:Int),(g:Int),cc,[]⟩)))):=ac
  show cz 5 (V.ref o6) _ (upd H6 o6 (.lst (eL (wy (aM ⟨(p:Int),(g:Int),cc,[]⟩))))) _
  generalize upd H6 o6 (.lst (eL (wy (aM ⟨(p:Int),(g:Int),cc,[]⟩))))=H7 at u6 g6 ⊢
  obtain⟨FK,W7⟩:=E8 (aM ⟨(p:Int),(g:Int),cc,[]⟩)
  have hwr:b9 wy p g cc=if (eL (wy (aM ⟨(p:Int),(g:Int),cc,[]⟩))).isEmpty then [] else [Txt.join blank (([.str (Str.ofString "way"), .int p, .int g,cV cc] ++ eL (wy (aM ⟨(p:Int),(g:Int),cc,[]⟩))).map wT)]:=rfl
  rw[hwr]at BS
  generalize Ka:eL (wy (aM ⟨(p:Int),(g:Int),cc,[]⟩))=ms at g6 FK W7 BS
  refine⟨_,rfl,_, .inl ⟨_,Ap.of g6,rfl⟩,?_⟩
  have s7:=s5.trans u6
  cases hb:ms.isEmpty with
  | true =>
   rw[hb,if_pos rfl,append_nil]at BS
   exact aE ⟨_,_,s7,by rw[BS];exact u6 _ _ So,u6 _ _ W5,by rw[BS];omega,rfl⟩
  | false =>
   rw[hb,if_neg (by decide)]at BS
   refine aL ⟨_,rfl, .inl ⟨rfl,_,Ap.of (u6 _ _ So)⟩,_,rfl,_,rfl,_,rfl,by show 4 <= sizeLine;decide,fun e8 W8=>?_⟩
   have u8:=u6.new (o := .lst [.str (Str.ofString "way"), .int (p:Int), .int (g:Int),cV cc]) W8
   have g8:(upd H7 e8 (.lst [.str (Str.ofString "way"), .int (p:Int), .int (g:Int),cV cc])) e8=some (.lst [.str (Str.ofString "way"), .int (p:Int), .int (g:Int),cV cc]):=ac
   have W9:(upd H7 e8 (.lst [.str (Str.ofString "way"), .int (p:Int), .int (g:Int),cV cc])) o6=some (.lst ms):=by rw[ai (aj g6 W8)];exact g6
   generalize upd H7 e8 (.lst [.str (Str.ofString "way"), .int (p:Int), .int (g:Int),cV cc])=H8 at u8 g8 W9 ⊢
   refine⟨_,rfl,e8,o6,_,_,rfl,rfl,g8,W9,by rw[sizeLine_eq];show 4 + ms.length <= _;omega,fun th WA=>?_⟩
   have u9:=u8.new (o := .lst ([.str (Str.ofString "way"), .int (p:Int), .int (g:Int),cV cc] ++ ms)) WA
   have g9:(upd H8 th (.lst ([.str (Str.ofString "way"), .int (p:Int), .int (g:Int),cV cc] ++ ms))) th=some (.lst ([.str (Str.ofString "way"), .int (p:Int), .int (g:Int),cV cc] ++ ms)):=ac
   generalize upd H8 th (.lst ([.str (Str.ofString "way"), .int (p:Int), .int (g:Int),cV cc] ++ ms))=H9 at u9 g9 ⊢
   have Cn:∀ v ∈ [V.str (Str.ofString "way"), .int (p:Int), .int (g:Int),cV cc] ++ ms,Wd v/\(wT v).length <= 10:=fun v hv=>by
    rcases mem_append.mp hv with hv | hv
    ·simp only[mem_cons,not_mem_nil,or_false]at hv
     rcases hv with rfl | rfl | rfl | rfl
     ·exact⟨.str _,by decide⟩
     ·exact hp
     ·exact hg
     ·cases Hj:cc with
      | none=>exact⟨.AG,by decide⟩
      | some k=>rw[Hj]at Fx;exact hck k Fx
    ·exact W7 v hv
   refine⟨th,_,rfl, .inl (Ap.of g9),(fun v hv=>(Cn v hv).1),by rw[length_append];show 4 + ms.length <= 1000;omega,(fun v hv=>le_trans (Cn v hv).2 (by decide)),fun C9 BY=>?_⟩
   have Sr:=u9.trans BY
   refine⟨D,_,_,rfl,rfl,Sr _ _ So,by rw[length_map,sizeLine_eq];omega,?_⟩
   refine⟨_,_,(fun b o e=>by rw[ai (aj e hD)];exact Sr _ _ (s5 _ _ e)),?_,by rw[ai nCD];exact Sr _ _ W5,by rw[BS,length_append,length_singleton];omega,rfl⟩
   rw[ac,BS]
   exact congrArg (fun z=>some (HO.lst z)) (nS V.str _ _)
noncomputable def cG (ps:List (Int × Int))(p:Nat):List (Option Nat):=none :: ((List.range ps.length).filter fun k=>decide (Prod.snd (ps.getD k (0,0))=(p:Int))).map some
theorem vO (ps:List (Int × Int))(p:Nat):qu ps p=(cG ps p).map cV:=by
 unfold qu cG i7
 rw[map_cons,map_map]
 rfl
theorem dG (ps:List (Int × Int))(p:Nat):(cG ps p).length <= ps.length + 1/\∀ k,some k ∈ cG ps p->k < ps.length:=by
 constructor
 ·unfold cG
  rw[length_cons,length_map]
  have:=length_filter_le (fun k=>decide (Prod.snd (ps.getD k (0,0))=(p:Int))) (List.range ps.length)
  rw[length_range]at this
  omega
 ·intro k hk
  rcases mem_cons.mp hk with h | h
  ·cases h
  ·obtain⟨j,hj,e⟩:=mem_map.mp h
   cases e
   exact mem_range.mp (mem_filter.mp hj).1
theorem ck {k:Nat}(h:k < 10 ^ 10):oQ k:=by
 refine⟨.int _ (ip (lt_trans h (by decide))),?_⟩
 have:=fK (m:=k) (k:=10) (by decide) h
 exact this
noncomputable def c9 (pr:Int × Int):Str:=Txt.join blank ([V.str (Str.ofString "lane"), .int pr.1, .int pr.2].map wT)
noncomputable def cY (ps:List (Int × Int))(wy:bV->Nat)(n p m:Nat):List Str:=(List.range m).flatMap fun g=>(cG ps p).flatMap (b9 wy p g)
noncomputable def aZ (n:Nat)(ps:List (Int × Int))(wy:bV->Nat):List Str:=[Txt.join blank ([V.str (Str.ofString "places"), .int n].map wT)] ++ ps.map c9 ++ (List.range n).flatMap fun p=>cY ps wy n p n
noncomputable def fT (c:Cs)(C:Addr)(J:xK):Sp:=fun vs H Q _=>∃ (x dx lx AL lt:Addr)(fs:List (Str × V))(n:Nat)(Az:List V)(ps:List (Int × Int))(wy:bV->Nat),vs=[.ref x]/\J H x wy/\H x=some (.ins C dx fs)/\fs.lookup ("land":Str)=some (.ref lx)/\c3 H c lx AL lt n Az ps/\n <= 12/\ps.length <= 40/\(∀ pr ∈ ps,∃ a b:Nat,pr=((a:Int),(b:Int))/\a < 12/\b < 12)/\yo wy /\
 ∀ (D:Addr)(H':Hp),An H H'->H D=none->H' D=some (.lst ((aZ n ps wy).map V.str))->Q (.ref D) H'
abbrev WB:List Str:=["table", "land", "rows", "place", "goal"]
theorem Fy:ao WB ["table"] (af fD):=L2.AQ
noncomputable def Ss (s:Stmt):Scope:=match s with
 | .Expr (.Call _ [.ListComp _ _ sc _] _ _) _=>sc
 | _=>zQ0
theorem Su:Bi WB (af fD) (Ss ((aG fD).getD 2 (.Pass ⟨0,0,0,0⟩))) [] []:=L2.B0
theorem Sv:(["pair"]:List Str).Nodup:=by decide +kernel
theorem pU {c:Cs}{J:xK}{C f fw fr fv:Addr}{fd dw dr dv:FuncData}(F:AM K "table_rows" "table_rows" fD f fd)(T:Txt mg)(L:rW K c)(W:Way K C fw dw J)(nl:AE K C "land")
  (mr:mg "row_of" = some (.ref fr)) (kr:keepIn K (.ref fr)=true) (br:Binds K dr ["things"] []) (Gr:Ao P w K mg base aA 2 fr dr ["things"] (je K)) (mv:mg "way_rows" = some (.ref fv)) (kv:keepIn K (.ref fv)=true) (bv:Binds K dv ["table", "place", "goal"] []) (Gv:Ao P w K mg base aA 4 fv dv ["table", "place", "goal"] (i8 c C J)) :
  Ao P w K mg base aA 5 f fd ["table"] (fT c C J):=by
 refine F.ok Fy (fun _ _ _ _ h=>?_) (fun _ _ _ s H _ Q E hr h=>?_)
 ·obtain⟨x,dx,lx,AL,lt,fs,n,Az,ps,wy,rfl,_⟩:=h
  rfl
 ·obtain⟨x,dx,lx,AL,lt,fs,n,Az,ps,wy,rfl,hJ,hx,hf,hL,hn,Be,BG,E8,q⟩:=h
  have Bu:Ax 2 _:=hr.mono (by decide)
  refine⟨_,ae (aC (i:=1) Fy.nd rfl (Or.inl rfl) (am (pv 0) rfl))
   (ae (aC (i:=2) Fy.nd rfl (Or.inl rfl) (aO (aa (ap Gr Bu rfl mr kr br .nil al (aa (bI (aa aV (aa (am (pv 1) rfl) ad))) ad)) ad)))
   (ae (aN (bJ plainAttrs_list slot_list_extend type_list_extend cQ (pv 2) (aa (aS (own:=["pair"]) (capN:=[]) (cap:=[]) Su rfl (iE (am (pv 1) rfl))
    (fun C s' H' fp=>⟨av (i:=0) Sv rfl (Or.inl rfl),bc,ap Gr Bu rfl mr kr br .nil al (aa (bI (aa aV (aa (ax (show kE _ (iC K) from aF) (pv 0) ag (fun _ _=>rfl)) (aa (ax (show kE _ (iC K) from aF) (pv 0) ag (fun _ _=>rfl)) ad)))) ad)⟩)) ad)))
   (ae (bN PassesOwn.never rfl (aT rfl T.range (aa (am (pv 1) rfl) ad)) (av (i:=3) Fy.nd rfl (Or.inl rfl))
    (ah (bN PassesOwn.never rfl (aT rfl T.range (aa (am (pv 1) rfl) ad)) (av (i:=4) Fy.nd rfl (Or.inl rfl))
     (ah (aN (bJ plainAttrs_list slot_list_extend type_list_extend cQ (pv 2) (aa (ap Gv hr rfl mv kv bv .nil al (aa (pv 0) (aa (pv 3) (aa (pv 4) ad)))) ad)))))))
   (ah (aq (pv 2)))))),?_⟩
  refine⟨_,rfl,x,C,dx,fs,_,rfl,hx,W.cl,nl,hf,?_⟩
  refine⟨_,rfl,lx,c.land,AL,_,_,rfl,hL.1,L.cl,L.np,rfl,by show 2 <= sizeLine;decide,fun t1 ht1=>?_⟩
  have s1:=(An.refl H).new (o := .tup [.str (Str.ofString "places"), .int (n:Int)]) ht1
  have g1:(upd H t1 (.tup [.str (Str.ofString "places"), .int (n:Int)])) t1=some (.tup [.str (Str.ofString "places"), .int (n:Int)]):=ac
  generalize upd H t1 (.tup [.str (Str.ofString "places"), .int (n:Int)])=H1 at s1 g1 ⊢
  have w1:∀ v ∈ [V.str (Str.ofString "places"), .int (n:Int)],Wd v/\(wT v).length <= 10:=fun v hv=>by
   simp only[mem_cons,not_mem_nil,or_false]at hv
   rcases hv with rfl | rfl
   ·exact⟨.str _,by decide⟩
   ·exact ck (lt_of_le_of_lt hn (by decide))
  refine⟨t1,_,rfl, .inr (Ay.of g1),(fun v hv=>(w1 v hv).1),by show 2 <= 1000;decide,(fun v hv=>le_trans (w1 v hv).2 (by decide)),fun H2 s2=>⟨by show 1 <= sizeLine;decide,fun D hD=>?_⟩⟩
  have MG:=s1.trans s2
  have G6:H D=none:=MG.free hD
  have s3:=MG.new (o := .lst [.str (Txt.join blank ([V.str (Str.ofString "places"), .int n].map wT))]) hD
  have g3:(upd H2 D (.lst [.str (Txt.join blank ([V.str (Str.ofString "places"), .int n].map wT))])) D=some (.lst ([Txt.join blank ([V.str (Str.ofString "places"), .int n].map wT)].map V.str)):=ac
  show cz 2 (V.ref D) _ (upd H2 D (.lst [.str (Txt.join blank ([V.str (Str.ofString "places"), .int n].map wT))])) _
  generalize upd H2 D (.lst [.str (Txt.join blank ([V.str (Str.ofString "places"), .int n].map wT))])=H3 at s3 g3 ⊢
  have CA:Az.length=ps.length:=Paired.length hL.2.2
  refine⟨_,rfl, .inl ⟨rfl,_,Ap.of g3⟩,_,rfl,lx,c.land,AL,_,_,rfl,s3 _ _ hL.1,L.cl,L.nl,rfl,lt,rfl,⟨_,Ay.of (s3 _ _ hL.2.1)⟩,?_⟩
  refine aX ps.length (by rw[sizeLine_eq];omega) (fun i acc H'=>An H3 H'/\acc=((ps.take i).map c9).map V.str) ⟨An.refl _,rfl⟩ (fun i acc H' h=>by rw[h.2,length_map,length_map];exact length_take_le _ _) (fun i acc H' hi h=>?_) (fun acc H' h=>?_)
  ·obtain⟨s4,rfl⟩:=h
   have MH:=getElem?_eq_getElem hi
   have EN:=s3.trans s4
   obtain⟨v,hv,u,rfl,gu⟩:=AN.ID (AN.same EN hL.2.2) MH
   refine⟨⟨_,_,Ay.of (EN _ _ hL.2.1),hv⟩,fun v' H5 y=>?_⟩
   obtain⟨rfl,y⟩:=y
   have BJ:=y _ (Ay.of (EN _ _ hL.2.1))
   rw[hv]at BJ
   cases BJ
   obtain⟨a,b,MI,ha,hb⟩:=BG _ (getElem_mem hi)
   have BS:ps.take (i + 1)=ps.take i ++ [ps[i]]:=by rw[take_succ,MH];rfl
   generalize ps[i]=pr at MI gu BS
   subst MI
   refine⟨_,rfl,u,_,0,_,rfl,rfl,Ay.of gu,ak (j:=0) rfl,_,rfl,u,_,1,_,rfl,rfl,Ay.of gu,ak (j:=1) rfl,by show 3 <= sizeLine;decide,fun t6 ht6=>?_⟩
   have s6:=(An.refl H5).new (o := .tup [.str (Str.ofString "lane"), .int (a:Int), .int (b:Int)]) ht6
   have g6:(upd H5 t6 (.tup [.str (Str.ofString "lane"), .int (a:Int), .int (b:Int)])) t6=some (.tup [.str (Str.ofString "lane"), .int (a:Int), .int (b:Int)]):=ac
   have w6:∀ v ∈ [V.str (Str.ofString "lane"), .int (a:Int), .int (b:Int)],Wd v/\(wT v).length <= 10:=fun v hv=>by
    simp only[mem_cons,not_mem_nil,or_false]at hv
    rcases hv with rfl | rfl | rfl
    ·exact⟨.str _,by decide⟩
    ·exact ck (lt_trans ha (by decide))
    ·exact ck (lt_trans hb (by decide))
   refine⟨t6,_,rfl, .inr (Ay.of g6),(fun v hv=>(w6 v hv).1),by show 3 <= 1000;decide,(fun v hv=>le_trans (w6 v hv).2 (by decide)),fun H7 s7=>⟨s4.trans (s6.trans s7),?_⟩⟩
   rw[BS,map_append]
   exact nS V.str _ _
  obtain⟨s4,rfl⟩:=h
  rw[take_length]
  refine⟨⟨_,Ay.of ((s3.trans s4) _ _ hL.2.1),by omega⟩,fun D2 BB=>?_⟩
  have s5:=s4.new (o := .lst ((ps.map c9).map V.str)) BB
  have g5:(upd H' D2 (.lst ((ps.map c9).map V.str))) D2=some (.lst ((ps.map c9).map V.str)):=ac
  generalize upd H' D2 (.lst ((ps.map c9).map V.str))=H5 at s5 g5 ⊢
  refine⟨D,D2,_,_,rfl,rfl,s5 _ _ g3,g5,by rw[length_map,length_map,length_map,sizeLine_eq];show 1 + ps.length <= _;omega,?_⟩
  rw[← map_append]
  have s6:An H (upd H5 D (.lst (([Txt.join blank ([V.str (Str.ofString "places"), .int n].map wT)] ++ ps.map c9).map V.str))):=fun b o e=>by rw[ai (aj e G6)];exact s5 _ _ (s3 _ _ e)
  have g6:(upd H5 D (.lst (([Txt.join blank ([V.str (Str.ofString "places"), .int n].map wT)] ++ ps.map c9).map V.str))) D=some (.lst (([Txt.join blank ([V.str (Str.ofString "places"), .int n].map wT)] ++ ps.map c9).map V.str)):=ac
  have l6:([Txt.join blank ([V.str (Str.ofString "places"), .int n].map wT)] ++ ps.map c9).length <= 41:=by rw[length_append,length_map];show 1 + ps.length <= 41;omega
  unfold aZ at q
  generalize [Txt.join blank ([V.str (Str.ofString "places"), .int n].map wT)] ++ ps.map c9=hd at s6 g6 l6 q
  generalize upd H5 D (.lst (hd.map V.str))=H6 at s6 g6 ⊢
  have Eh:∀ p g cc,(b9 wy p g cc).length <= 1:=fun p g cc=>by unfold b9;split<;>simp
  have Wi:∀ p g,((cG ps p).flatMap (b9 wy p g)).length <= 41:=fun p g=>by
   have:∀ l:List (Option Nat),(l.flatMap (b9 wy p g)).length <= l.length:=fun l=>by
    induction l with
    | nil=>exact le_refl _
    | cons a l ih=>rw[flatMap_cons,length_append,length_cons];have:=Eh p g a;omega
   have h1:=this (cG ps p)
   have h2:=(dG ps p).1
   omega
  refine⟨_,rfl,lx,c.land,AL,_,_,rfl,s6 _ _ hL.1,L.cl,L.np,rfl,(n:Int),rfl,by omega,by omega,?_⟩
  rw[toNat_natCast]
  refine bH (n:=n) (fun i σ H2=>∃ a3 a4:Option V,An H H2/\H2 D=some (.lst ((hd ++ (List.range i).flatMap fun p=>cY ps wy n p n).map V.str))/\(hd ++ (List.range i).flatMap fun p=>cY ps wy n p n).length <= 41 + i * (12 * 41)/\σ=[some (.ref x),some (.ref lx),some (.ref D),a3,a4])
   ⟨none,none,s6,by simpa using g6,by simpa using l6,rfl⟩ ?_ ?_
  rotate_left
  ·rintro σ H7 ⟨a3,a4,s7,g7,_,rfl⟩
   exact⟨_,rfl,q D H7 s7 G6 g7⟩
  rintro i σ H7 hi ⟨a3,a4,s7,g7,l7,rfl⟩
  rw[zero_add]
  refine⟨_,rfl,lx,c.land,AL,_,_,rfl,s7 _ _ hL.1,L.cl,L.np,rfl,(n:Int),rfl,by omega,by omega,?_⟩
  rw[toNat_natCast]
  refine bH (n:=n) (fun j σ H2=>∃ a4:Option V,An H H2/\H2 D=some (.lst (((hd ++ (List.range i).flatMap fun p=>cY ps wy n p n) ++ cY ps wy n i j).map V.str))/\((hd ++ (List.range i).flatMap fun p=>cY ps wy n p n) ++ cY ps wy n i j).length <= 41 + i * (12 * 41) + j * 41/\σ=[some (.ref x),some (.ref lx),some (.ref D),some (.int (i:Int)),a4])
   ⟨_,s7,by simpa [cY] using g7,by simpa [cY] using l7,rfl⟩ ?_ ?_
  rotate_left
  ·rintro σ H8 ⟨a4,s8,g8,l8,rfl⟩
   refine⟨_,_,s8,?_,?_,rfl⟩
   ·rw[range_succ,flatMap_append,← append_assoc]
    simpa using g8
   ·rw[range_succ,flatMap_append,← append_assoc]
    simp only[flatMap_cons,List.flatMap_nil,append_nil]
    omega
  rintro j σ H8 hj ⟨a4,s8,g8,l8,rfl⟩
  rw[zero_add]
  have hbd:41 + i * (12 * 41) + j * 41 <= 41 + 12 * (12 * 41) + 12 * 41:=by
   have:=mul_le_mul_right (12 * 41) (show i <= 12 by omega)
   omega
  refine⟨_,rfl, .inl ⟨rfl,_,Ap.of g8⟩,_,rfl,_,rfl,_,rfl,x,dx,lx,AL,lt,fs,n,Az,ps,wy,i,j,cG ps i,rfl,W.BW _ _ _ _ hJ s8,s8 _ _ hx,hf,⟨s8 _ _ hL.1,s8 _ _ hL.2.1,AN.same s8 hL.2.2⟩,Be,E8,ck (lt_of_lt_of_le hi (le_trans hn (by decide))),ck (lt_of_lt_of_le hj (le_trans hn (by decide))),vO ps i,by have:=(dG ps i).1;omega,(fun k hk=>ck (lt_of_lt_of_le ((dG ps i).2 k hk) (le_trans Be (by decide)))),fun D9 H9 s9 hD9 g9=>?_⟩
  have h41:=Wi i j
  refine⟨D,D9,_,_,rfl,rfl,s9 _ _ g8,g9,by rw[length_map,length_map,sizeLine_eq];omega,?_⟩
  have er:cY ps wy n i (j + 1)=cY ps wy n i j ++ (cG ps i).flatMap (b9 wy i j):=by unfold cY;rw[range_succ,flatMap_append];simp
  refine⟨_,(fun b o e=>by rw[ai (aj e G6)];exact s9 _ _ (s8 _ _ e)),?_,?_,rfl⟩
  ·rw[ac,er,← append_assoc,map_append (l₂:=(cG ps i).flatMap (b9 wy i j))]
  ·rw[er,← append_assoc,length_append]
   omega
noncomputable def newline:Str:=⟨#[10]⟩
theorem jr {α β:Type}{f:α->List β}{B:Nat}:∀ {l:List α},(∀ a ∈ l,(f a).length <= B)->(l.flatMap f).length <= l.length * B
 | [],_=>zero_le _
 | a :: l,h=>by
  rw[flatMap_cons,length_append,length_cons,Nat.add_mul,Nat.one_mul]
  have h1:=h a mem_cons_self
  have h2:=jr (l:=l) fun b hb=>h b (mem_cons_of_mem _ hb)
  omega
theorem jY {xs:List V}{B:Nat}(h:∀ v ∈ xs,(wT v).length <= 10)(hl:xs.length <= B):(Txt.join blank (xs.map wT)).length <= B * 11:=by
 have e:Txt.join blank (xs.map wT)=Str.join blank (xs.map wT):=StrLaws.glued_eq_join _ _
 rw[e]
 have h1:=StrLaws.join_length_le blank (xs.map wT)
 have h2:((xs.map wT).map (·.length)).sum <= (xs.map wT).length * 10:=StrLaws.sumLen_le _ fun y hy=>by obtain⟨v,hv,rfl⟩:=mem_map.mp hy;exact h v hv
 rw[length_map]at h1 h2
 have h3:xs.length * blank.length=xs.length:=mul_one _
 omega
theorem wk {wy:bV->Nat}(hw:yo wy){p g:Nat}{c:Option Nat}(hp:oQ p)(hg:oQ g)(hc:∀ k,c=some k->oQ k):∀ r ∈ b9 wy p g c,r.length <= 500:=fun r hr=>by
 unfold b9 at hr
 split at hr
 ·cases hr
 ·rw[mem_singleton.mp hr]
  obtain⟨h1,h2⟩:=hw (aM ⟨(p:Int),(g:Int),c,[]⟩)
  refine le_trans (jY (B:=44) (fun v hv=>?_) (by rw[length_append];show 4 + _ <= 44;omega)) (by decide)
  rcases mem_append.mp hv with hv | hv
  ·simp only[mem_cons,not_mem_nil,or_false]at hv
   rcases hv with rfl | rfl | rfl | rfl
   ·show(Str.ofString "way").length <= 10;decide
   ·exact hp.2
   ·exact hg.2
   ·cases Hj:c with
    | none=>show(Str.ofString "-").length <= 10;decide
    | some k=>exact(hc k Hj).2
  ·exact(h2 v hv).2
theorem eE {n:Nat}{ps:List (Int × Int)}{wy:bV->Nat}(hn:n <= 12)(Be:ps.length <= 40)(BG:∀ pr ∈ ps,∃ a b:Nat,pr=((a:Int),(b:Int))/\a < 12/\b < 12)(hw:yo wy):(aZ n ps wy).length <= 6000/\∀ r ∈ aZ n ps wy,r.length <= 500:=by
 have sm:∀ {k:Nat},k < 100->oQ k:=fun h=>ck (lt_trans h (by decide))
 have Eh:∀ p g cc,(b9 wy p g cc).length <= 1:=fun p g cc=>by unfold b9;split<;>simp
 have h1:∀ p g,((cG ps p).flatMap (b9 wy p g)).length <= 41:=fun p g=>by
  have:=jr (l:=cG ps p) fun a _=>Eh p g a
  have:=(dG ps p).1
  omega
 have h2:∀ p,(cY ps wy n p n).length <= 12 * 41:=fun p=>by
  have:=jr (l:=List.range n) (f:=fun g=>(cG ps p).flatMap (b9 wy p g)) fun g _=>h1 p g
  rw[length_range]at this
  exact le_trans this (mul_le_mul_right 41 hn)
 have h3:((List.range n).flatMap fun p=>cY ps wy n p n).length <= 12 * (12 * 41):=by
  have:=jr (l:=List.range n) (f:=fun p=>cY ps wy n p n) fun p _=>h2 p
  rw[length_range]at this
  exact le_trans this (mul_le_mul_right _ hn)
 constructor
 ·unfold aZ
  rw[length_append,length_append,length_map]
  show 1 + ps.length + _ <= _
  omega
 ·intro r hr
  unfold aZ at hr
  rcases mem_append.mp hr with hr | hr
  ·rcases mem_append.mp hr with hr | hr
   ·rw[mem_singleton.mp hr]
    refine le_trans (jY (B:=2) (fun v hv=>?_) (le_refl _)) (by decide)
    simp only[mem_cons,not_mem_nil,or_false]at hv
    rcases hv with rfl | rfl
    ·show(Str.ofString "places").length <= 10;decide
    ·exact(sm (lt_of_le_of_lt hn (by decide))).2
   ·obtain⟨pr,Cr,rfl⟩:=mem_map.mp hr
    obtain⟨a,b,rfl,ha,hb⟩:=BG pr Cr
    refine le_trans (jY (B:=3) (fun v hv=>?_) (le_refl _)) (by decide)
    simp only[mem_cons,not_mem_nil,or_false]at hv
    rcases hv with rfl | rfl | rfl
    ·show(Str.ofString "lane").length <= 10;decide
    ·exact(sm (lt_trans ha (by decide))).2
    ·exact(sm (lt_trans hb (by decide))).2
  ·obtain⟨p,hp,hr⟩:=mem_flatMap.mp hr
   obtain⟨g,hg,hr⟩:=mem_flatMap.mp hr
   obtain⟨c,hc,hr⟩:=mem_flatMap.mp hr
   have hp:=mem_range.mp hp
   have hg:=mem_range.mp hg
   exact wk hw (sm (by omega)) (sm (by omega)) (fun k e=>sm (by subst e;have:=(dG ps p).2 k hc;omega)) r hr
noncomputable def i9 (c:Cs)(C:Addr)(J:xK):Sp:=fun vs H Q _=>∃ (x dx lx AL lt:Addr)(fs:List (Str × V))(n:Nat)(Az:List V)(ps:List (Int × Int))(wy:bV->Nat),vs=[.ref x]/\J H x wy/\H x=some (.ins C dx fs)/\fs.lookup ("land":Str)=some (.ref lx)/\c3 H c lx AL lt n Az ps/\n <= 12/\ps.length <= 40/\(∀ pr ∈ ps,∃ a b:Nat,pr=((a:Int),(b:Int))/\a < 12/\b < 12)/\yo wy /\
 ∀ H',An H H'->Q (.str (Txt.join newline (aZ n ps wy))) H'
theorem Sw:ao ["table"] ["table"] (af jE):=L2.AQ
theorem pT {c:Cs}{J:xK}{C f fr:Addr}{fd dr:FuncData}(F:AM K "table_text" "table_text" jE f fd)(mr:mg "table_rows" = some (.ref fr))(kr:keepIn K (.ref fr)=true)(br:Binds K dr ["table"] [])(Gr:Ao P w K mg base aA 5 fr dr ["table"] (fT c C J)):Ao P w K mg base aA 6 f fd ["table"] (i9 c C J):=by
 refine F.ok Sw (fun _ _ _ _ h=>?_) (fun _ _ _ s H _ Q E hr h=>?_)
 ·obtain⟨x,dx,lx,AL,lt,fs,n,Az,ps,wy,rfl,_⟩:=h
  rfl
 ·obtain⟨x,dx,lx,AL,lt,fs,n,Az,ps,wy,rfl,hJ,hx,hf,hL,hn,Be,BG,E8,q⟩:=h
  refine⟨_,ah (aq (bJ plainAttrs_str slot_str_join type_str_join fZ aV (aa (ap Gr hr rfl mr kr br .nil al (aa (pv 0) ad)) ad))),?_⟩
  obtain⟨h1,h2⟩:=eE hn Be BG E8
  refine⟨rfl,_,rfl,x,dx,lx,AL,lt,fs,n,Az,ps,wy,rfl,hJ,hx,hf,hL,hn,Be,BG,E8,fun D H' s' hD gD=>⟨newline,D,aZ n ps wy,rfl,rfl,Ap.of gD,?_,q H' s'⟩⟩
  have h3:((aZ n ps wy).map (·.length)).sum <= (aZ n ps wy).length * 500:=StrLaws.sumLen_le _ h2
  show _ + (aZ n ps wy).length * 1 <= _
  omega
noncomputable def OT (H:Hp)(v:V)(ws:List Str):Prop:=∃ a,v = .ref a/\H a=some (.lst (ws.map V.str))
abbrev Bd (H:Hp):List V->List (List Str)->Prop:=Paired (OT H)
theorem Bd.same {H H':Hp}(s:An H H'):∀ {vs:List V}{ws:List (List Str)},Bd H vs ws->Bd H' vs ws:=fun Au=>by
 induction Au with
 | nil=>exact .nil
 | cons zz r ih=>obtain⟨a,e,h⟩:=zz;exact .cons ⟨a,e,s _ _ h⟩ ih
theorem Bd.snoc {H:Hp}{v:V}{x:List Str}(h:OT H v x):∀ {vs:List V}{ws:List (List Str)},Bd H vs ws->Bd H (vs ++ [v]) (ws ++ [x]):=fun Au=>by
 induction Au with
 | nil=>exact .cons h .nil
 | cons a r ih=>exact .cons a ih
theorem Bd.get {H:Hp}:∀ {vs:List V}{ws:List (List Str)}{i:Nat}{x:List Str},Bd H vs ws->ws[i]? = some x->∃ v,vs[i]? = some v/\OT H v x
 | _,_,_,_, .nil,h=>by cases h
 | _,_,0,_, .cons a r,h=>by cases h;exact⟨_,rfl,a⟩
 | _,_,i + 1,_, .cons a r,h=>let ⟨v,e,z⟩:=Bd.get (i:=i) r (by simpa using h); ⟨v,by simpa using e,z⟩
noncomputable def nc:Sp:=fun vs H Q _=>∃ x:Str,vs=[.str x]/\x.length <= 4000000/\(Txt.split x newline).length <= 1000000/\(∀ r ∈ Txt.split x newline,r.length <= 1000000/\(Txt.split r blank).length <= 1000000) /\
 ∀ (D:Addr)(us:List V)(H':Hp),An H H'->H' D=some (.lst us)->Bd H' us ((Txt.split x newline).map fun r=>Txt.split r blank)->Q (.ref D) H'
noncomputable def bY (p g:Nat)(c:Option Nat)(ms:List Nat):List Str:=[aU p,aU g,wT (cV c)] ++ ms.map aU
noncomputable def kS:Sp:=fun vs H Q _=>∃ (a:Addr)(p g:Nat)(c:Option Nat)(ms:List Nat),vs=[.ref a]/\H a=some (.lst ((bY p g c ms).map V.str))/\p < 10 ^ 60/\g < 10 ^ 60/\(∀ k,c=some k->k < 10 ^ 60)/\(∀ k ∈ ms,k < 10 ^ 60)/\ms.length <= 1000 /\
 ∀ (t l:Addr)(H':Hp),An H H'->Ht H' t l ⟨(p:Int),(g:Int),c,ms⟩->Q (.ref t) H'
theorem vd (k:Nat):decide (V.str (aU k)=V.str (Str.ofString "-"))=false:=by
 refine decide_eq_false fun z=>?_
 have e:=V.str.inj z
 exact m6 (m:=k) (c:=45) (by decide) (by rw[e];decide)
noncomputable def wn (s:Stmt):Scope:=match s with
 | .Return (some (.Tuple [_,_,_, .ListComp _ _ sc _] _ _)) _=>sc
 | _=>c8
theorem i0 (k:Nat)(xs ys:List V)(h:xs.length=k):eA (xs ++ ys) (some (k:Int)) none=ys:=by
 have h1:HT.BK (xs ++ ys).length 0 (some (k:Int))=k:=by
  unfold HT.BK
  rw[length_append]
  simp only
  split<;>omega
 have h2:HT.BK (xs ++ ys).length (xs ++ ys).length none=(xs ++ ys).length:=rfl
 unfold eA
 rw[h1,h2,← h,List.drop_left,length_append]
 exact take_of_length_le (by omega)
theorem Sy:ao ["text"] ["text"] (af ie):=L2.AQ
theorem Sz:Bi ["text"] (af ie) (wE ((aG ie).getD 1 (.Pass ⟨0,0,0,0⟩))) [] []:=L2.B0
theorem S0:(["row"]:List Str).Nodup:=by decide +kernel
theorem sE {f fw:Addr}{fd dw:FuncData}(F:AM K "rows_of" "rows_of" ie f fd)(T:Txt mg)(S3:kitOne K (.type "str") (.type "str")=some true)(mw:mg "words_of" = some (.ref fw))(kw:keepIn K (.ref fw)=true)(bw:Binds K dw ["row"] [])(Gw:Ao P w K mg base aA 1 fw dw ["row"] qG):Ao P w K mg base aA 2 f fd ["text"] nc:=by
 refine F.ok Sy (fun _ _ _ _ h=>?_) (fun _ _ _ s H _ Q E hr h=>?_)
 ·obtain⟨x,rfl,_⟩:=h
  rfl
 ·obtain⟨x,rfl,h1,h2,h3,q⟩:=h
  refine⟨_,ae (aP (bM (bF (az eN rfl T.Hr PyProof.Rows.boot_isinstance (aa (pv 0) (aa (dU (v := .ty "str") rfl T.str PySem.Pv.boot_str rfl) ad))))) (ah b5) aD)
   (ah (aq (aS (own:=["row"]) (capN:=[]) (cap:=[]) Sz rfl (aR (bJ plainAttrs_str PySem.F.slot_str_split PySem.F.type_str_split nO (pv 0) (aa aV ad)))
    (fun C s' H' fp=>⟨av (i:=0) S0 rfl (Or.inl rfl),bc,ap Gw hr rfl mw kw bw .nil al (aa (pv 0) ad)⟩)))),?_⟩
  refine⟨_,rfl,_,_,_,_,rfl, .str _,S3,_,rfl,aE ?_⟩
  refine⟨_,rfl,rfl,x,newline,rfl,rfl,rfl,h1,h2,fun D hD=>?_⟩
  have s1:=(An.refl H).new (o := .lst ((Txt.split x newline).map V.str)) hD
  have g1:(upd H D (.lst ((Txt.split x newline).map V.str))) D=some (.lst ((Txt.split x newline).map V.str)):=ac
  refine⟨D,rfl,⟨_,Ap.of g1⟩,?_⟩
  dsimp only
  generalize upd H D (.lst ((Txt.split x newline).map V.str))=H1 at s1 g1 ⊢
  generalize Txt.split x newline=rs at *
  refine aX rs.length (by rw[sizeLine_eq];omega) (fun i acc H'=>An H1 H'/\Bd H' acc ((rs.take i).map fun r=>Txt.split r blank)) ⟨An.refl _, .nil⟩ (fun i acc H' h=>by rw[Paired.length h.2,length_map];exact length_take_le _ _) (fun i acc H' hi h=>?_) (fun acc H' h=>?_)
  ·obtain⟨s2,hw⟩:=h
   have hri:=getElem?_eq_getElem hi
   refine⟨⟨_,V.str rs[i],Ap.of (s2 _ _ g1),by rw[getElem?_map,hri];rfl⟩,fun v H2 y=>?_⟩
   obtain⟨rfl,y⟩:=y
   have hv:=y _ (Ap.of (s2 _ _ g1))
   rw[getElem?_map,hri]at hv
   cases hv
   obtain⟨h4,h5⟩:=h3 _ (getElem_mem hi)
   refine⟨_,rfl,_,rfl,h4,h5,fun D2 BB=>?_⟩
   have s3:=(An.refl H2).new (o := .lst ((Txt.split rs[i] blank).map V.str)) BB
   refine⟨s2.trans s3,?_⟩
   rw[take_succ,hri,map_append]
   exact Bd.snoc ⟨D2,rfl,ac⟩ (Bd.same s3 hw)
  ·obtain⟨s2,hw⟩:=h
   rw[take_length]at hw
   refine⟨⟨_,Ap.of (s2 _ _ g1),by rw[length_map];exact le_refl _⟩,fun D2 BB=>?_⟩
   have s3:=s2.new (o := .lst acc) BB
   exact q D2 acc _ (s1.trans s3) ac (Bd.same ((An.refl H').new BB) hw)
theorem MJ:ao ["words", "came"] ["words"] (af fE):=L2.AQ
theorem S4:Bi ["words", "came"] (af fE) (wn ((aG fE).getD 1 (.Pass ⟨0,0,0,0⟩))) [] []:=L2.B0
theorem S5:(["word"]:List Str).Nodup:=by decide +kernel
theorem pW {f fn:Addr}{fd dn:FuncData}(F:AM K "read_way" "read_way" fE f fd)(mn:mg "number_of" = some (.ref fn))(kn:keepIn K (.ref fn)=true)(bn:Binds K dn ["word"] [])(Gn:Ao P w K mg base aA 1 fn dn ["word"] fB):Ao P w K mg base aA 2 f fd ["words"] kS:=by
 refine F.ok MJ (fun _ _ _ _ h=>?_) (fun _ _ _ s H _ Q E hr h=>?_)
 ·obtain⟨a,p,g,c,ms,rfl,_⟩:=h
  rfl
 ·obtain⟨a,p,g,c,ms,rfl,ha,hp,hg,hc,hm,FK,q⟩:=h
  refine⟨_,ae (aC (i:=1) MJ.nd rfl (Or.inl rfl) (eW (ca (au bj (ax aJ (pv 0) ag (fun _ _=>rfl)) aV (aw _)) bQ (ap Gn hr rfl mn kn bn .nil al (aa (ax aJ (pv 0) ag (fun _ _=>rfl)) ad)))))
   (ah (aq (bI (aa (ap Gn hr rfl mn kn bn .nil al (aa (ax aJ (pv 0) ag (fun _ _=>rfl)) ad)) (aa (ap Gn hr rfl mn kn bn .nil al (aa (ax aJ (pv 0) ag (fun _ _=>rfl)) ad)) (aa (pv 1)
    (aa (aS (own:=["word"]) (capN:=[]) (cap:=[]) S4 rfl (aR (cx dB (pv 0) (c6 ag) dD))
     (fun C s' H' fp=>⟨av (i:=0) S5 rfl (Or.inl rfl),bc,ap Gn hr rfl mn kn bn .nil al (aa (pv 0) ad)⟩)) ad))))))),?_⟩
  have at_:∀ (j:Nat)(v:Str),(bY p g c ms)[j]? = some v->vR ((bY p g c ms).map V.str) (j:Int)=some (.str v):=fun j v e=>ak (by rw[getElem?_map,e];rfl)
  refine⟨fun v H'=>An H H'/\v=cV c,?_,fun v H1 ⟨s1,e⟩=>?_⟩
  ·refine⟨_,rfl,a,_,2,_,rfl,rfl,Ap.of ha,at_ 2 _ rfl,rfl,_,rfl,?_⟩
   cases c with
   | none=>exact aL ⟨An.refl H,rfl⟩
   | some k =>
    rw[show decide (V.str (wT (cV (some k)))=V.str (Str.ofString "-"))=false from vd k]
    exact aE ⟨_,rfl,a,_,2,_,rfl,rfl,Ap.of ha,at_ 2 _ rfl,k,rfl,hc k rfl,fun H' s'=>⟨s',rfl⟩⟩
  subst e
  refine⟨_,rfl,a,_,0,_,rfl,rfl,Ap.of (s1 _ _ ha),at_ 0 _ rfl,p,rfl,hp,fun H2 s2=>?_⟩
  have s2:=s1.trans s2
  refine⟨_,rfl,a,_,1,_,rfl,rfl,Ap.of (s2 _ _ ha),at_ 1 _ rfl,g,rfl,hg,fun H3 s3=>?_⟩
  have s3:=s2.trans s3
  refine⟨_,rfl,_,rfl,3,rfl,a,_,rfl,Ap.of (s3 _ _ ha),fun D hD=>?_⟩
  have ec:eA ((bY p g c ms).map V.str) (some 3) none=(ms.map aU).map V.str:=by
   exact i0 3 [V.str (aU p),V.str (aU g),V.str (wT (cV c))] ((ms.map aU).map V.str) rfl
  rw[ec]
  have s4:=s3.new (o := .lst ((ms.map aU).map V.str)) hD
  have g4:(upd H3 D (.lst ((ms.map aU).map V.str))) D=some (.lst ((ms.map aU).map V.str)):=ac
  refine⟨D,rfl,⟨_,Ap.of g4⟩,?_⟩
  dsimp only
  generalize upd H3 D (.lst ((ms.map aU).map V.str))=H4 at s4 g4 ⊢
  refine aX ms.length (by rw[sizeLine_eq];omega) (fun i acc H'=>An H4 H'/\acc=c5 (ms.take i)) ⟨An.refl _,rfl⟩ (fun i acc H' h=>by rw[h.2];unfold c5;rw[length_map];exact length_take_le _ _) (fun i acc H' hi h=>?_) (fun acc H' h=>?_)
  ·obtain⟨s5,rfl⟩:=h
   have hri:=getElem?_eq_getElem hi
   refine⟨⟨_,V.str (aU ms[i]),Ap.of (s5 _ _ g4),by rw[getElem?_map,getElem?_map,hri];rfl⟩,fun v H6 y=>?_⟩
   obtain⟨rfl,y⟩:=y
   have hv:=y _ (Ap.of (s5 _ _ g4))
   rw[getElem?_map,getElem?_map,hri]at hv
   cases hv
   refine⟨_,rfl,ms[i],rfl,hm _ (getElem_mem hi),fun H7 s7=>⟨s5.trans s7,?_⟩⟩
   rw[take_succ,hri]
   unfold c5
   rw[map_append]
   rfl
  ·obtain⟨s5,rfl⟩:=h
   rw[take_length]
   refine⟨⟨_,Ap.of (s5 _ _ g4),by rw[length_map,length_map];exact le_refl _⟩,fun l hl=>?_⟩
   have s6:=(s4.trans s5).new (o := .lst (c5 ms)) hl
   have g6:(upd H' l (.lst (c5 ms))) l=some (.lst (c5 ms)):=ac
   generalize upd H' l (.lst (c5 ms))=H6 at s6 g6 ⊢
   refine⟨by show 4 <= sizeLine;decide,fun t ht=>?_⟩
   have s7:=(An.refl H6).new (o := .tup [.int (p:Int), .int (g:Int),cV c, .ref l]) ht
   exact q t l _ (s6.trans s7) ⟨ac,s7 _ _ g6⟩
structure yp (n:Nat)(ps:List (Int × Int))(rs:List Rw):Prop where
 nd:(rs.map eY).Nodup
 key:∀ r ∈ rs,∃ p g:Nat,p < n/\g < n/\g ≠ p/\r.p=p/\r.g=g/\r.c ∈ bS ps p
 lanes:∀ r ∈ rs,(∀ k ∈ r.s,k ∈ dM Prod.fst ps r.p)/\r.s.length <= ps.length
theorem vC {n:Nat}{ps:List (Int × Int)}{rs:List Rw}(h:yp n ps rs):dP n ps rs rs.length=none:=by
 refine gr fun k hk=>?_
 have hr:rs[k]? = some rs[k]:=getElem?_eq_getElem hk
 have OF:rs.getD k ⟨0,0,none,[]⟩ = rs[k]:=by rw[getD_eq_getElem?_getD,hr];rfl
 rw[OF,i5]
 have hm:rs[k] ∈ rs:=getElem_mem hk
 obtain⟨p,g,hp,hg,S6,e1,e2,e3⟩:=h.key _ hm
 have BX:ix n ps rs[k]=true:=by
  unfold ix
  have ho:gR n (rs[k].p,rs[k].g)=true:=by
   unfold gR
   simp only[Bool.and_eq_true,decide_eq_true_eq,Bool.not_eq_true',decide_eq_false_iff_not]
   rw[e1,e2]
   refine⟨⟨by omega,by omega⟩,⟨by omega,by omega⟩,by omega⟩
  rw[ho,Bool.true_and]
  have hs:(rs[k].s.all fun z=>decide (z ∈ dM Prod.fst ps rs[k].p))=true:=by
   rw[all_eq_true]
   exact fun z hz=>decide_eq_true ((h.lanes _ hm).1 z hz)
  rw[hs,Bool.and_true]
  cases hc:rs[k].c with
  | none=>rfl
  | some z =>
   rw[hc]at e3
   rcases mem_cons.mp e3 with e | e
   ·cases e
   ·obtain⟨z',hz,e⟩:=mem_map.mp e
    cases e
    show decide (z ∈ dM Prod.snd ps rs[k].p)=true
    rw[e1]
    exact decide_eq_true hz
 rw[BX]
 have S7:((rs.take k).any fun a=>decide (aM a=aM rs[k]))=false:=by
  rw[List.any_eq_false]
  intro a ha hd
  have e:=vy (of_decide_eq_true hd)
  obtain⟨j,hj,ea⟩:=List.mem_take_iff_getElem.mp ha
  have hj':j < k:=by omega
  have:=pairwise_iff_getElem.mp h.nd j k (by rw[length_map];omega) (by rw[length_map];exact hk) hj'
  rw[getElem_map,getElem_map,ea]at this
  exact this e
 rw[S7];rfl
theorem BA {rs:List Rw}{key:bV}{z:Nat}:z ∈ wl (aI rs) key↔∃ r,cn rs key=some r/\z ∈ r.s:=by
 unfold wl
 rw[Yd.Co (Yd.CP _)]
 unfold aI
 cases cn rs key with
 | none=>simp
 | some r =>
  dsimp only
  rw[Yd.Bt,Nat.zero_testBit,Bool.false_or,decide_eq_true_eq]
  simp
theorem iq {rs:List Rw}{key:bV}{r:Rw}(h:cn rs key=some r):aM r=key:=by
 unfold cn at h
 have:=List.find?_some h
 exact of_decide_eq_true this
theorem n9 {L:Nat}{l:List Nat}(h:l.Pairwise (· < ·))(hl:∀ z ∈ l,z < L):l.length <= L:=jT _ _ (h.imp fun h=>ne_of_lt h) hl
structure TabOk (n:Nat)(ps:List (Int × Int))(wy:bV->Nat):Prop where
 zero:∀ (p:Nat)(c:Option Nat),wl wy (cZ ((p:Int),(p:Int),c))=[]
 out:∀ (p g:Nat)(c:Option Nat),p < n->g < n->c ∈ bS ps p->∀ z ∈ wl wy (cZ ((p:Int),(g:Int),c)),z ∈ dM Prod.fst ps p
 lt:∀ k,∀ z ∈ wl wy k,z < ps.length
theorem TabOk.Ba {n:Nat}{ps:List (Int × Int)}{wy:bV->Nat}(h:TabOk n ps wy)(k:bV):(wl wy k).length <= ps.length:=n9 (lC wy k) (h.lt k)
theorem cE {n:Nat}{ps:List (Int × Int)}{rs:List Rw}(h:yp n ps rs):TabOk n ps (aI rs) where
 zero p c:=by
  refine eq_nil_iff_forall_not_mem.mpr fun z hz=>?_
  obtain⟨r,e,_⟩:=BA.mp hz
  obtain⟨p',g',_,_,Bj,e1,e2,_⟩:=h.key r (cy e)
  have ek:eY r=((p:Int),(p:Int),c):=fJ (iq e)
  have a1:r.p=p:=congrArg (·.1) ek
  have a2:r.g=p:=congrArg (·.2.1) ek
  omega
 out p g c hp hg hc z hz:=by
  obtain⟨r,e,hs⟩:=BA.mp hz
  have ek:eY r=((p:Int),(g:Int),c):=fJ (iq e)
  have a1:r.p=p:=congrArg (·.1) ek
  have:=(h.lanes r (cy e)).1 z hs
  rw[a1]at this
  exact this
 lt k z hz:=by
  obtain⟨r,e,hs⟩:=BA.mp hz
  exact gO ((h.lanes r (cy e)).1 z hs)
theorem we {wy:bV->Nat}{k:bV}(h:wy k=0):wl wy k=[]:=by unfold wl;rw[h];rfl
noncomputable def gm (wy:bV->Nat)(k:gh):Rw:=⟨k.1,k.2.1,k.2.2,wl wy (cZ k)⟩
noncomputable def yU (wy:bV->Nat)(k:gh):Bool:=(wl wy (cZ k)).isEmpty
noncomputable def cp (n:Nat)(ps:List (Int × Int))(wy:bV->Nat):List Rw:=((bO ps n n).filter fun k=>!yU wy k).map (gm wy)
theorem lX {n:Nat}{ps:List (Int × Int)}{wy:bV->Nat}(h:TabOk n ps wy):yp n ps (cp n ps wy) where
 nd:=by
  unfold cp
  rw[map_map,show eY ∘ gm wy=id from rfl,List.map_id]
  exact List.Pairwise.filter _ (gN ps n n)
 key r hr:=by
  obtain⟨k,hk,rfl⟩:=mem_map.mp hr
  obtain⟨p,g,h1,h2,h3,h4,h5,h6⟩:=io (mem_filter.mp hk).1
  exact⟨p,g,h1,h2,h3,h4,h5,h6⟩
 lanes r hr:=by
  obtain⟨k,hk,rfl⟩:=mem_map.mp hr
  obtain⟨p,g,h1,h2,h3,h4,h5,h6⟩:=io (mem_filter.mp hk).1
  refine⟨fun z hz=>?_,h.Ba _⟩
  show z ∈ dM Prod.fst ps k.1
  rw[h4]
  refine h.out p g k.2.2 h1 h2 h6 z ?_
  rw[← h4,← h5]
  exact hz
theorem xz {n:Nat}{ps:List (Int × Int)}{p g:Nat}{c:Option Nat}(hp:p < n)(hg:g < n)(Bj:g ≠ p)(hc:c ∈ bS ps p):((p:Int),(g:Int),c) ∈ bO ps n n:=by
 unfold bO cv
 refine mem_flatMap.mpr ⟨p,mem_range.mpr hp,mem_flatMap.mpr ⟨g,mem_range.mpr hg,?_⟩⟩
 unfold eC
 rw[if_neg Bj]
 exact mem_map.mpr ⟨c,hc,rfl⟩
theorem xF {n:Nat}{ps:List (Int × Int)}{wy:bV->Nat}(h:TabOk n ps wy){p g:Nat}{c:Option Nat}(hp:p < n)(hg:g < n)(hc:c ∈ bS ps p):wl (aI (cp n ps wy)) (cZ ((p:Int),(g:Int),c))=wl wy (cZ ((p:Int),(g:Int),c)):=by
 cases e:cn (cp n ps wy) (cZ ((p:Int),(g:Int),c)) with
 | some r =>
  obtain⟨k,hk,rfl⟩:=mem_map.mp (cy e)
  have ek:k=((p:Int),(g:Int),c):=fJ (iq e)
  subst ek
  unfold wl aI
  rw[e]
  exact vn (lC wy _)
 | none =>
  have h1:wl (aI (cp n ps wy)) (cZ ((p:Int),(g:Int),c))=[]:=we (by unfold aI;rw[e])
  rw[h1]
  by_cases Bj:g=p
  ·subst Bj;exact(h.zero g c).symm
  ·cases hb:yU wy ((p:Int),(g:Int),c) with
   | true=>exact(List.isEmpty_iff.mp hb).symm
   | false =>
    have hm:gm wy ((p:Int),(g:Int),c) ∈ cp n ps wy:=mem_map.mpr ⟨_,mem_filter.mpr ⟨xz hp hg Bj hc,by rw[hb];rfl⟩,rfl⟩
    have:=rq (lX h).nd hm
    rw[show aM (gm wy ((p:Int),(g:Int),c))=cZ ((p:Int),(g:Int),c) from rfl,e]at this
    cases this
noncomputable def way:Str:=Str.ofString "way"
noncomputable def gq (pr:Int × Int):List Str:=[V.str (Str.ofString "lane"), .int pr.1, .int pr.2].map wT
noncomputable def fz (r:Rw):List Str:=way :: bY r.p.toNat r.g.toNat r.c r.s
noncomputable def eT (n:Nat):List Str:=[V.str (Str.ofString "places"), .int n].map wT
noncomputable def cX (n:Nat)(ps:List (Int × Int))(wy:bV->Nat):List (List Str):=[eT n] ++ ps.map gq ++ (cp n ps wy).map fz
theorem rJ {α β:Type}(b:α->Bool)(F:α->β):∀ l:List α,(l.flatMap fun k=>if b k then [] else [F k])=(l.filter fun k=>!b k).map F
 | []=>rfl
 | a :: l=>by
  rw[flatMap_cons,rJ b F l,filter_cons]
  cases b a<;>rfl
theorem cR {α β:Type}{f g:α->List β}:∀ {l:List α},(∀ a ∈ l,f a=g a)->l.flatMap f=l.flatMap g
 | [],_=>rfl
 | a :: l,h=>by rw[flatMap_cons,flatMap_cons,h a mem_cons_self,cR fun b hb=>h b (mem_cons_of_mem _ hb)]
noncomputable def wm (wy:bV->Nat)(k:gh):List Str:=if yU wy k then [] else [Txt.join blank (fz (gm wy k))]
theorem qB (wy:bV->Nat)(p g:Nat)(c:Option Nat):b9 wy p g c=wm wy ((p:Int),(g:Int),c):=by
 have e1:eL (wy (aM ⟨(p:Int),(g:Int),c,[]⟩))=nV (wl wy (cZ ((p:Int),(g:Int),c))):=rfl
 unfold b9 wm yU
 rw[e1]
 have e2:(nV (wl wy (cZ ((p:Int),(g:Int),c)))).isEmpty=(wl wy (cZ ((p:Int),(g:Int),c))).isEmpty:=by
  unfold nV
  cases wl wy (cZ ((p:Int),(g:Int),c))<;>rfl
 rw[e2]
 have e3:([V.str (Str.ofString "way"), .int (p:Int), .int (g:Int),cV c] ++ nV (wl wy (cZ ((p:Int),(g:Int),c)))).map wT=fz (gm wy ((p:Int),(g:Int),c)):=by
  unfold fz bY gm nV
  rw[map_append,map_map]
  rfl
 rw[e3]
theorem pJ {n:Nat}{ps:List (Int × Int)}{wy:bV->Nat}(h:TabOk n ps wy):((List.range n).flatMap fun p=>cY ps wy n p n)=(bO ps n n).flatMap (wm wy):=by
 unfold bO
 rw[List.flatMap_assoc]
 refine cR fun p hp=>?_
 unfold cY cv
 rw[List.flatMap_assoc]
 refine cR fun g hg=>?_
 unfold eC
 split
 ·rename_i e
  subst e
  have:∀ l:List (Option Nat),l.flatMap (b9 wy g g)=[]:=fun l=>by
   refine List.flatMap_eq_nil_iff.mpr fun c _=>?_
   rw[qB]
   unfold wm yU
   rw[h.zero]
   rfl
  rw[this]
  rfl
 ·rw[List.flatMap_map]
  exact cR fun c _=>qB wy p g c
theorem qS {n:Nat}{ps:List (Int × Int)}{wy:bV->Nat}(h:TabOk n ps wy):aZ n ps wy=(cX n ps wy).map (Txt.join blank):=by
 unfold aZ cX
 rw[pJ h,map_append,map_append,map_map,map_map]
 congr 1
 unfold cp
 rw[map_map]
 exact rJ (yU wy) (fun k=>Txt.join blank (fz (gm wy k))) _
abbrev tl (x:Str):List Nat:=x.cps.toList
theorem pc (x y:Str):tl (x ++ y)=tl x ++ tl y:=by
 show(x.cps ++ y.cps).toList=_
 exact Array.toList_append
theorem tK {x y:Str}(h:tl x=tl y):x=y:=by
 cases x;cases y
 exact congrArg Str.mk (Array.toList_inj.mp h)
theorem pb (x:Str):x.length=(tl x).length:=by
 show x.cps.size=_
 exact Array.length_toList.symm
theorem jc (c:Nat)(ys:List Str):tl (Txt.join ⟨#[c]⟩ ys)=dX c (ys.map tl):=by
 rw[show Txt.join ⟨#[c]⟩ ys=Str.join ⟨#[c]⟩ ys from StrLaws.glued_eq_join _ _]
 exact iN c ys
theorem rG {c d:Nat}(DE:d ≠ c):∀ {ps:List (List Nat)},(∀ p ∈ ps,d ∉ p)->d ∉ dX c ps
 | [],_=>by intro h;cases h
 | [q],h=>h q mem_cons_self
 | q :: r :: l,h=>by
  intro z
  rcases mem_append.mp z with z | z
  ·exact h q mem_cons_self z
  ·rcases mem_cons.mp z with z | z
   ·exact DE z
   ·exact rG DE (fun p hp=>h p (mem_cons_of_mem _ hp)) z
noncomputable def vY (x:Str):Prop:=10 ∉ tl x/\32 ∉ tl x
theorem cS (m:Nat):vY (aU m):=⟨m6 (by decide),m6 (by decide)⟩
theorem yr (c:Option Nat):vY (wT (cV c)):=by
 cases c with
 | none=>exact⟨by decide,by decide⟩
 | some k=>exact cS k
theorem wg (r:Rw):∀ x ∈ fz r,vY x:=by
 intro x hx
 unfold fz bY at hx
 rcases mem_cons.mp hx with rfl | hx
 ·exact⟨by decide,by decide⟩
 rcases mem_append.mp hx with hx | hx
 ·simp only[mem_cons,not_mem_nil,or_false]at hx
  rcases hx with rfl | rfl | rfl
  ·exact cS _
  ·exact cS _
  ·exact yr _
 ·obtain⟨m,_,rfl⟩:=mem_map.mp hx
  exact cS m
theorem mV {n:Nat}{ps:List (Int × Int)}{wy:bV->Nat}(BG:∀ pr ∈ ps,∃ a b:Nat,pr=((a:Int),(b:Int))/\a < 12/\b < 12):∀ ws ∈ cX n ps wy,ws ≠ []/\∀ x ∈ ws,vY x:=by
 intro ws hw
 rcases mem_append.mp hw with hw | hw
 ·rcases mem_append.mp hw with hw | hw
  ·rw[mem_singleton.mp hw]
   refine⟨cons_ne_nil _ _,fun x hx=>?_⟩
   simp only[eT,map_cons,map_nil,mem_cons,not_mem_nil,or_false]at hx
   rcases hx with rfl | rfl
   ·exact⟨by decide,by decide⟩
   ·exact cS n
  ·obtain⟨pr,Cr,rfl⟩:=mem_map.mp hw
   obtain⟨a,b,rfl,_,_⟩:=BG pr Cr
   refine⟨cons_ne_nil _ _,fun x hx=>?_⟩
   simp only[gq,map_cons,map_nil,mem_cons,not_mem_nil,or_false]at hx
   rcases hx with rfl | rfl | rfl
   ·exact⟨by decide,by decide⟩
   ·exact cS a
   ·exact cS b
 ·obtain⟨r,_,rfl⟩:=mem_map.mp hw
  exact⟨cons_ne_nil _ _,wg r⟩
theorem tL {n:Nat}{ps:List (Int × Int)}{wy:bV->Nat}(hn:n <= 12)(Be:ps.length <= 40)(BG:∀ pr ∈ ps,∃ a b:Nat,pr=((a:Int),(b:Int))/\a < 12/\b < 12)(hw:yo wy):(Txt.join newline (aZ n ps wy)).length <= 4000000:=by
 obtain⟨h1,h2⟩:=eE hn Be BG hw
 have e:Txt.join newline (aZ n ps wy)=Str.join newline (aZ n ps wy):=StrLaws.glued_eq_join _ _
 rw[e]
 have h3:=StrLaws.join_length_le newline (aZ n ps wy)
 have h4:((aZ n ps wy).map (·.length)).sum <= (aZ n ps wy).length * 500:=StrLaws.sumLen_le _ h2
 have h5:(aZ n ps wy).length * newline.length=(aZ n ps wy).length:=mul_one _
 omega
theorem lD {n:Nat}{ps:List (Int × Int)}{wy:bV->Nat}(h:TabOk n ps wy)(Be:ps.length <= 40):yo wy:=fun k=>by
 have e:eL (wy k)=nV (wl wy k):=rfl
 rw[e]
 refine⟨by rw[du];exact le_trans (h.Ba k) Be,fun v hv=>?_⟩
 obtain⟨q,hq,rfl⟩:=iH hv
 exact ck (lt_of_lt_of_le (h.lt k q hq) (le_trans Be (by decide)))
structure S8 (P:Program)(w:World)(K:Frag)(mg:Str->Option Value)(base:Heap)(c:Cs)(ts:Ts)(fi ft:Addr)(di dt:FuncData):Prop where
 mi:mg "Land" = some (.ref c.land)
 Mi:Mk K c.land fi
 bi:Binds K di ["self", "places", "lanes"] []
 Gi:Ao P w K mg base aA 4 fi di ["self", "places", "lanes"] (pz K c)
 mt:mg "Told" = some (.ref ts.told)
 Mt:Mk K ts.told ft
 bt:Binds K dt ["self", "land", "rows"] []
 Gt:Ao P w K mg base aA 5 ft dt ["self", "land", "rows"] (pi P w K c ts)
theorem jU {n:Nat}{pr:Int × Int}(hn:n <= 12)(h:gR n pr=true):∃ a b:Nat,pr=((a:Int),(b:Int))/\a < 12/\b < 12:=by
 unfold gR at h
 simp only[Bool.and_eq_true,decide_eq_true_eq,Bool.not_eq_true',decide_eq_false_iff_not]at h
 obtain⟨⟨h1,h2⟩,⟨h3,h4⟩,_⟩:=h
 refine⟨pr.1.toNat,pr.2.toNat,Prod.ext ?_ ?_,by omega,by omega⟩
 ·show pr.1=(pr.1.toNat:Int);omega
 ·show pr.2=(pr.2.toNat:Int);omega
theorem sV {n:Nat}{ps:List (Int × Int)}(hn:1 <= n/\n <= 12)(hl:ps.length <= 40)(h:∀ q ∈ ps,gR n q=true):fO n ps = .good:=by
 unfold fO
 rw[if_neg (by rw[decide_eq_true (by omega)];intro z;cases z),if_neg (by omega),kB h]
theorem nH {H:Hp}{x dx:Addr}{o:HO}(nx:H x=none)(E3:H dx=none)(DG:dx ≠ x):An H (upd (upd H dx (.own x)) x o):=An.new (An.new (An.refl H) E3) (by rw[ai (Ne.symm DG)];exact nx)
theorem rh {K:Frag}{c:Cs}{H:Hp}{x dx l:Addr}{n:Nat}{AB:List V}{ps:List (Int × Int)}{Q:VK}{E:XK}(nx:H x=none)(E3:H dx=none)(DG:dx ≠ x)(gl:H l=some (.lst AB))(Ff:AN H AB ps)(hn:1 <= n/\n <= 12)(Be:ps.length <= 40)(AD:∀ q ∈ ps,gR n q=true)
  (q:∀ H3 lt Az,An H H3->c3 H3 c x dx lt n Az ps->Q .AG H3):pz K c [.ref x, .int n, .ref l] (upd (upd H dx (.own x)) x (.ins c.land dx [])) Q E:=by
 have s3:=nH (o := .ins c.land dx []) nx E3 DG
 have gd:=sV hn Be AD
 have CA:AB.length=ps.length:=Paired.length Ff
 exact⟨x,dx,(n:Int),l,AB,ps,rfl,ac,Ap.of (s3 _ _ gl),AN.same s3 Ff,by omega,(fun h=>by rw[gd]at h;cases h),(fun k h=>by rw[gd]at h;cases h),(fun k h=>by rw[gd]at h;cases h),fun _ H3 lt Az off hL=>q H3 lt Az (fun b o z=>off b o (aj z nx) (s3 _ _ z)) hL⟩
theorem rf {P:Program}{w:World}{K:Frag}{c:Cs}{ts:Ts}{H:Hp}{x dx lx AL lt p:Addr}{n:Nat}{Az AH:List V}{ps:List (Int × Int)}{rs:List Rw}{Q:VK}{E:XK}(nx:H x=none)(E3:H dx=none)(DG:dx ≠ x)(hL:c3 H c lx AL lt n Az ps)(gp:H p=some (.lst AH))(hR:By H AH rs)(hn:n <= 12)(Be:ps.length <= 40)(hf:yp n ps rs)(CI:rs.length <= 10000)
  (q:∀ H4,An H H4->BH c ts.told (A0 P w ts) H4 x lx AL lt n Az ps (kG rs)->Q .AG H4):pi P w K c ts [.ref x, .ref lx, .ref p] (upd (upd H dx (.own x)) x (.ins ts.told dx [])) Q E:=by
 have s3:=nH (o := .ins ts.told dx []) nx E3 DG
 have Bl:=vC hf
 have CA:AH.length=rs.length:=Paired.length hR
 have hT:=cE hf
 refine⟨x,dx,lx,AL,lt,p,(n:Int),Az,AH,ps,rs,rfl,ac,⟨s3 _ _ hL.1,s3 _ _ hL.2.1,AN.same s3 hL.2.2⟩,Ap.of (s3 _ _ gp),By.same s3 hR,by omega,by omega,(fun r hr=>⟨fun k hk=>by have:=gO ((hf.lanes r hr).1 k hk);omega,by have:=(hf.lanes r hr).2;omega⟩),(fun i hi=>by rw[Bl]at hi;cases hi),fun _ H6 de S9 SA hy SD SE=>?_⟩
 have s6:An H H6:=fun b o z=>SA b o (aj z nx) (s3 _ _ z)
 exact q H6 s6 ⟨⟨dx,de,_,S9,rs,hy,SD,SE,(fun r hr k hk=>lt_of_lt_of_le (gO ((hf.lanes r hr).1 k hk)) Be),rfl⟩,⟨dx,_,hy,rfl,rfl⟩,⟨s6 _ _ hL.1,s6 _ _ hL.2.1,AN.same s6 hL.2.2⟩,hn,Be,fun p g k _ _=>(oT (fun r hr k hk=>gO ((hf.lanes r hr).1 k hk)) p g k).1⟩
theorem oy {K:Frag}{a:Addr}{us:List V}{ws:List (List Str)}{g:TG}{tt:TT}{te:TE}{σ0:St}{H:Hp}{Q:VK}(p:List Str->Bool)(hn:ws.length <= 100000)(ha:H a=some (.lst us))(hw:Bd H us ws)
  (hs:∀ (u:V)(x:List Str)(acc:List V)(N:List V->Hp->Prop),OT H u x->x ∈ ws->N (if p x then acc ++ [u] else acc) H->g u σ0 H fun σ2 H2=>tt σ2 H2 fun b H3=>if b=true then te σ2 H3 fun y H4=>N (acc ++ [y]) H4 else N acc H3)
  (hq:∀ D WC,H D=none->Bd H WC (ws.filter p)->Q (.ref D) (upd H D (.lst WC))):dQ (vV K a) g tt te σ0 Q H:=by
 have hlen:us.length=ws.length:=Paired.length hw
 refine aX ws.length (by rw[sizeLine_eq];omega) (fun i acc H'=>H' = H/\Bd H acc ((ws.take i).filter p)) ⟨rfl, .nil⟩ (fun i acc H' h=>by rw[Paired.length h.2];exact le_trans (length_filter_le _ _) (length_take_le _ _)) (fun i acc H' hi h=>?_) (fun acc H' h=>?_)
 ·obtain⟨rfl,h⟩:=h
  have Kb:=getElem?_eq_getElem hi
  obtain⟨v,hv,hL⟩:=Bd.get hw Kb
  refine⟨⟨_,v,Ap.of ha,hv⟩,fun v' H2 y=>?_⟩
  obtain⟨rfl,y⟩:=y
  have BJ:=y _ (Ap.of ha)
  rw[hv]at BJ
  cases BJ
  refine hs v ws[i] acc (fun Bn H5=>H5=H2/\Bd H2 Bn ((ws.take (i + 1)).filter p)) hL (getElem_mem hi) ⟨rfl,?_⟩
  rw[take_succ,Kb,filter_append]
  show Bd H2 _ (_ ++ List.filter p [ws[i]])
  rw[filter_cons]
  cases p ws[i] with
  | true=>exact Bd.snoc hL h
  | false=>show Bd H2 acc (_ ++ []);rw[append_nil];exact h
 ·obtain⟨rfl,h⟩:=h
  rw[take_length]at h
  exact⟨⟨us,Ap.of ha,by omega⟩,fun D hD=>hq D acc hD h⟩
noncomputable def AI:Str:=Str.ofString "lane"
noncomputable def iM (x:List Str):Bool:=decide (V.str (x.headD blank)=V.str (Str.ofString "lane")) && decide (V.int ((x.map V.str).length:Nat)=V.int 3)
noncomputable def lj (x:List Str):Bool:=decide (V.str (x.headD blank)=V.str (Str.ofString "way")) && decide ((4:Int) < ((x.map V.str).length:Nat))
theorem oh {α:Type}{p:α->Bool}{l:List α}(h:∀ x ∈ l,p x=true):l.filter p=l:=filter_eq_self.mpr h
theorem js {α:Type}{p:α->Bool}{l:List α}(h:∀ x ∈ l,p x=false):l.filter p=[]:=List.filter_eq_nil_iff.mpr fun x hx=>by rw[h x hx];intro z;cases z
theorem dI {x y:Str}(h:tl x ≠ tl y):decide (V.str x=V.str y)=false:=decide_eq_false fun z=>h (congrArg tl (V.str.inj z))
theorem vx (n:Nat)(ps:List (Int × Int))(wy:bV->Nat):(cX n ps wy).filter iM=ps.map gq:=by
 unfold cX
 rw[filter_append,filter_append,js (l:=[eT n]),oh (l:=ps.map gq),js (l:=(cp n ps wy).map fz)]
 ·simp
 ·intro x hx
  obtain⟨r,_,rfl⟩:=mem_map.mp hx
  unfold iM
  rw[show(fz r).headD blank=way from rfl,dI (by decide),Bool.false_and]
 ·intro x hx
  obtain⟨r,_,rfl⟩:=mem_map.mp hx
  unfold iM
  rw[decide_eq_true (show V.str ((gq r).headD blank)=V.str (Str.ofString "lane") from rfl),decide_eq_true (show V.int (((gq r).map V.str).length:Nat)=V.int 3 from rfl)]
  rfl
 ·intro x hx
  rw[mem_singleton.mp hx]
  unfold iM
  rw[show(eT n).headD blank=Str.ofString "places" from rfl,dI (by decide),Bool.false_and]
theorem wj (n:Nat)(ps:List (Int × Int))(wy:bV->Nat):(cX n ps wy).filter lj=(cp n ps wy).map fz:=by
 unfold cX
 rw[filter_append,filter_append,js (l:=[eT n]),js (l:=ps.map gq),oh (l:=(cp n ps wy).map fz)]
 ·simp
 ·intro x hx
  obtain⟨r,hr,rfl⟩:=mem_map.mp hx
  obtain⟨k,hk,rfl⟩:=mem_map.mp hr
  have hb:=(mem_filter.mp hk).2
  have Bj:0 < (wl wy (cZ k)).length:=by
   refine length_pos_iff.mpr fun z=>?_
   unfold yU at hb
   rw[z]at hb
   cases hb
  unfold lj
  rw[decide_eq_true (show V.str ((fz (gm wy k)).headD blank)=V.str (Str.ofString "way") from rfl),decide_eq_true,Bool.true_and]
  rw[length_map]
  unfold fz bY gm
  rw[length_cons,length_append,length_map]
  show (4:Int) < ((3 + (wl wy (cZ k)).length + 1:Nat):Int)
  omega
 ·intro x hx
  obtain⟨r,_,rfl⟩:=mem_map.mp hx
  unfold lj
  rw[show(gq r).headD blank=AI from rfl,dI (by decide),Bool.false_and]
 ·intro x hx
  rw[mem_singleton.mp hx]
  unfold lj
  rw[show(eT n).headD blank=Str.ofString "places" from rfl,dI (by decide),Bool.false_and]
theorem mJ {x:List Str}(h:x ≠ []):vR (x.map V.str) 0=some (.str (x.headD blank)):=by
 cases x with
 | nil=>exact absurd rfl h
 | cons y l=>exact ak (j:=0) rfl
noncomputable def lL (P:Program)(w:World)(c:Cs)(ts:Ts):Sp:=fun vs H Q _=>∃ (D:Addr)(us:List V)(n:Nat)(ps:List (Int × Int))(wy:bV->Nat),vs=[.ref D]/\H D=some (.lst us)/\Bd H us (cX n ps wy)/\(1 <= n/\n <= 12)/\ps.length <= 40/\(∀ q ∈ ps,gR n q=true)/\TabOk n ps wy/\(cX n ps wy).length <= 6000 /\
 ∀ (x lx AL lt:Addr)(Az:List V)(H':Hp),An H H'->BH c ts.told (A0 P w ts) H' x lx AL lt n Az ps (kG (cp n ps wy))->Q (.ref x) H'
noncomputable def qQ (s:Stmt):Scope:=match s with
 | .Assign _ (.ListComp _ _ sc _) _=>sc
 | _=>c8
noncomputable def rR (s:Stmt):Scope:=match s with
 | .Assign _ (.Call _ [_, .ListComp _ _ sc _] _ _) _=>sc
 | .Return (some (.Call _ [_, .ListComp _ _ sc _] _ _)) _=>sc
 | _=>c8
abbrev MK:List Str:=["rows", "lanes", "ways", "land"]
abbrev xt (i:Nat):Stmt:=(aG fF).getD i (.Pass ⟨0,0,0,0⟩)
theorem GQ:ao MK ["rows"] (af fF):=L2.AQ
theorem SF:Bi MK (af fF) (qQ (xt 0)) [] []:=L2.B0
theorem SG:Bi MK (af fF) (qQ (xt 1)) [] []:=L2.B0
theorem SH:Bi MK (af fF) (rR (xt 2)) [] []:=L2.B0
theorem SI:Bi MK (af fF) (rR (xt 3)) [] []:=L2.B0
theorem xq:(["words"]:List Str).Nodup:=by decide +kernel
theorem uP {c:Cs}{ts:Ts}{f fn fy fi ft:Addr}{fd dn dy di dt:FuncData}(F:AM K "make_table" "make_table" fF f fd)(T:Txt mg)(M:S8 P w K mg base c ts fi ft di dt)(mn:mg "number_of" = some (.ref fn))(kn:keepIn K (.ref fn)=true)(bn:Binds K dn ["word"] [])(Gn:Ao P w K mg base aA 1 fn dn ["word"] fB)
  (my:mg "read_way" = some (.ref fy)) (ky:keepIn K (.ref fy)=true) (SJ:Binds K dy ["words"] []) (Gy:Ao P w K mg base aA 2 fy dy ["words"] kS):Ao P w K mg base aA 7 f fd ["rows"] (lL P w c ts):=by
 refine F.ok GQ (fun _ _ _ _ h=>?_) (fun _ _ _ s H _ Q E hr h=>?_)
 ·obtain⟨D,us,n,ps,wy,rfl,_⟩:=h
  rfl
 ·obtain⟨D,us,n,ps,wy,rfl,hD,hW,hn,Be,AD,hT,CI,q⟩:=h
  have Bu:Ax 2 _:=hr.mono (by decide)
  have AY:Ax 1 _:=hr.mono (by decide)
  have GL:Ax 5 _:=hr.mono (by decide)
  refine⟨_,ae (bZ (i:=1) (own:=["words"]) (capN:=[]) (cap:=[]) SF rfl GQ.nd rfl rfl (aR (pv 0))
    (fun C s' H' fp=>⟨av (i:=0) xq rfl (Or.inl rfl),ci (PW.pt (dY (au bj (ax (show kE _ (lY K) from aJ) (pv 0) ag (fun _ _=>rfl)) aV (aw _)) (dC (au bj (az (show AS _ (.builtin "len") (yZ K) from ay) rfl T.len PySem.boot_len (aa (pv 0) ad)) ag (aw _))))),pv 0⟩))
   (ae (bZ (i:=2) (own:=["words"]) (capN:=[]) (cap:=[]) SG rfl GQ.nd rfl rfl (aR (pv 0))
    (fun C s' H' fp=>⟨av (i:=0) xq rfl (Or.inl rfl),ci (PW.pt (dY (au bj (ax (show kE _ (lY K) from aJ) (pv 0) ag (fun _ _=>rfl)) aV (aw _)) (dC (au iV (az (show AS _ (.builtin "len") (yZ K) from ay) rfl T.len PySem.boot_len (aa (pv 0) ad)) ag (aw _))))),pv 0⟩))
   (ae (aC (i:=3) GQ.nd rfl (Or.inl rfl) (c7 M.Mi M.Gi GL rfl M.mi M.bi .nil al (aa (ap Gn AY rfl mn kn bn .nil al (aa (ax aJ (ax aJ (pv 0) ag (fun _ _=>rfl)) (yg tG ag) (fun _ _=>rfl)) ad))
    (aa (aS (own:=["words"]) (capN:=[]) (cap:=[]) SH rfl (aR (pv 1))
     (fun C s' H' fp=>⟨av (i:=0) xq rfl (Or.inl rfl),bc,bI (aa (ap Gn AY rfl mn kn bn .nil al (aa (ax (show kE _ (lY K) from aJ) (pv 0) ag (fun _ _=>rfl)) ad)) (aa (ap Gn AY rfl mn kn bn .nil al (aa (ax (show kE _ (lY K) from aJ) (pv 0) ag (fun _ _=>rfl)) ad)) ad))⟩)) ad))))
   (ah (aq (c7 M.Mt M.Gt hr rfl M.mt M.bt .nil al (aa (pv 3) (aa (aS (own:=["words"]) (capN:=[]) (cap:=[]) SI rfl (aR (pv 2))
     (fun C s' H' fp=>⟨av (i:=0) xq rfl (Or.inl rfl),bc,ap Gy Bu rfl my ky SJ .nil al (aa (cx (show O1 _ (KQ K) from dB) (pv 0) (c6 ag) dD) ad)⟩)) ad))))))),?_⟩
  have BG:∀ pr ∈ ps,∃ a b:Nat,pr=((a:Int),(b:Int))/\a < 12/\b < 12:=fun pr Cr=>jU hn.2 (AD pr Cr)
  have Bj:=fun x hx=>(mV (n:=n) (wy:=wy) BG x hx).1
  refine⟨_,rfl,D,rfl,⟨_,Ap.of hD⟩,?_⟩
  refine oy iM (by omega) hD hW (fun u x acc N hL hx h=>?_) fun D1 D8 DY Kc=>?_
  ·obtain⟨a,rfl,ha⟩:=hL
   refine⟨_,rfl,a,_,0,_,rfl,rfl,Ap.of ha,mJ (Bj x hx),rfl,_,rfl,?_⟩
   unfold iM at h
   cases e1:decide (V.str (x.headD blank)=V.str (Str.ofString "lane")) with
   | false =>
    rw[e1,Bool.false_and]at h
    exact aE (aE h)
   | true =>
    rw[e1,Bool.true_and]at h
    refine aL ⟨_,rfl,a,_,rfl, .inl (Ap.of ha),rfl,_,rfl,?_⟩
    cases e2:decide (V.int ((x.map V.str).length:Nat)=V.int 3) with
    | false=>rw[e2]at h;exact aE h
    | true=>rw[e2]at h;exact aL ⟨_,rfl,h⟩
  rw[vx]at Kc
  have s1:=(An.refl H).new (o := .lst D8) DY
  have g1:(upd H D1 (.lst D8)) D1=some (.lst D8):=ac
  show cz 1 (V.ref D1) _ (upd H D1 (.lst D8)) _
  generalize upd H D1 (.lst D8)=H1 at s1 g1 ⊢
  have Kc:=Bd.same s1 Kc
  refine⟨_,rfl,D,rfl,⟨_,Ap.of (s1 _ _ hD)⟩,?_⟩
  refine oy lj (by omega) (s1 _ _ hD) (Bd.same s1 hW) (fun u x acc N hL hx h=>?_) fun D2 HL BB Kd=>?_
  ·obtain⟨a,rfl,ha⟩:=hL
   refine⟨_,rfl,a,_,0,_,rfl,rfl,Ap.of ha,mJ (Bj x hx),rfl,_,rfl,?_⟩
   unfold lj at h
   cases e1:decide (V.str (x.headD blank)=V.str (Str.ofString "way")) with
   | false =>
    rw[e1,Bool.false_and]at h
    exact aE (aE h)
   | true =>
    rw[e1,Bool.true_and]at h
    refine aL ⟨_,rfl,a,_,rfl, .inl (Ap.of ha),_,_,rfl,rfl,_,rfl,?_⟩
    cases e2:decide ((4:Int) < ((x.map V.str).length:Nat)) with
    | false=>rw[e2]at h;exact aE h
    | true=>rw[e2]at h;exact aL ⟨_,rfl,h⟩
  rw[wj]at Kd
  have s2:=s1.new (o := .lst HL) BB
  have DI:=(An.refl H1).new (o := .lst HL) BB
  have g2:(upd H1 D2 (.lst HL)) D2=some (.lst HL):=ac
  show cz 2 (V.ref D2) _ (upd H1 D2 (.lst HL)) _
  generalize upd H1 D2 (.lst HL)=H2 at s2 DI g2 ⊢
  have Kd:=Bd.same DI Kd
  have Kc:=Bd.same DI Kc
  obtain⟨u0,hu0,a0,rfl,ha0⟩:=Bd.get (Bd.same s2 hW) (show(cX n ps wy)[0]? = some (eT n) from rfl)
  refine⟨_,rfl,D,us,0,_,rfl,rfl,Ap.of (s2 _ _ hD),ak (j:=0) hu0,_,rfl,a0,_,-1,_,rfl,rfl,Ap.of ha0,vQ [V.str (Str.ofString "places")] (.str (aU n)),n,rfl,lt_of_le_of_lt hn.2 (by decide),fun H3 s3=>?_⟩
  have Fz:=s2.trans s3
  refine⟨_,rfl,D1,rfl,⟨_,Ap.of (s3 _ _ (DI _ _ g1))⟩,?_⟩
  have SK:=s3 _ _ (DI _ _ g1)
  have ML:=Bd.same s3 Kc
  refine aX ps.length (by rw[sizeLine_eq];omega) (fun i acc H'=>An H3 H'/\AN H' acc (ps.take i)) ⟨An.refl _, .nil⟩ (fun i acc H' h=>by rw[Paired.length h.2];exact length_take_le _ _) (fun i acc H' hi h=>?_) (fun acc H' h=>?_)
  ·obtain⟨s4,JS⟩:=h
   have MH:=getElem?_eq_getElem hi
   obtain⟨v,hv,a,rfl,ha⟩:=Bd.get (Bd.same s4 ML) (show(ps.map gq)[i]? = some (gq ps[i]) by rw[getElem?_map,MH];rfl)
   refine⟨⟨_,_,Ap.of (s4 _ _ SK),hv⟩,fun v' H5 y=>?_⟩
   obtain⟨rfl,y⟩:=y
   have BJ:=y _ (Ap.of (s4 _ _ SK))
   rw[hv]at BJ
   cases BJ
   obtain⟨p1,p2,MI,h1,h2⟩:=BG _ (getElem_mem hi)
   have BS:ps.take (i + 1)=ps.take i ++ [ps[i]]:=by rw[take_succ,MH];rfl
   generalize ps[i]=pr at MI ha BS
   subst MI
   refine⟨_,rfl,a,_,1,_,rfl,rfl,Ap.of ha,ak (j:=1) rfl,p1,rfl,lt_trans h1 (by decide),fun H6 s6=>?_⟩
   refine⟨_,rfl,a,_,2,_,rfl,rfl,Ap.of (s6 _ _ ha),ak (j:=2) rfl,p2,rfl,lt_trans h2 (by decide),fun H7 s7=>⟨by show 2 <= sizeLine;decide,fun t ht=>?_⟩⟩
   have s8:=(s6.trans s7).new (o := .tup [.int (p1:Int), .int (p2:Int)]) ht
   refine⟨s4.trans s8,?_⟩
   rw[BS]
   have hv8:wb (upd H7 t (.tup [.int (p1:Int), .int (p2:Int)])) (.ref t) ((p1:Int),(p2:Int)):=⟨t,rfl,ac⟩
   exact AN.snoc hv8 (AN.same s8 JS)
  obtain⟨s4,JS⟩:=h
  rw[take_length]at JS
  refine⟨⟨_,Ap.of (s4 _ _ SK),by rw[Paired.length ML,length_map];exact le_refl _⟩,fun l hl=>?_⟩
  have s5:=s4.new (o := .lst acc) hl
  have JQ:=AN.same ((An.refl H').new (o := .lst acc) hl) JS
  have g5:(upd H' l (.lst acc)) l=some (.lst acc):=ac
  generalize upd H' l (.lst acc)=H5 at s5 g5 JQ ⊢
  refine fun x dx nx E3 DG=>rh nx E3 DG g5 JQ hn Be AD fun H6 lt Az s6 hL=>⟨rfl,?_⟩
  have F0:=s5.trans s6
  have OU:=F0 _ _ (s3 _ _ g2)
  have Je:=Bd.same F0 (Bd.same s3 Kd)
  refine⟨_,rfl,_,rfl,D2,rfl,⟨_,Ap.of OU⟩,?_⟩
  have BX:=lX hT
  have JL:(cp n ps wy).length <= 6000:=by
   unfold cX at CI
   rw[length_append,length_map (f:=fz)]at CI
   omega
  generalize HU:cp n ps wy=rs at BX JL Je q
  refine aX rs.length (by rw[sizeLine_eq];omega) (fun i acc H'=>An H6 H'/\By H' acc (rs.take i)) ⟨An.refl _, .nil⟩ (fun i acc H' h=>by rw[Paired.length h.2];exact length_take_le _ _) (fun i acc H' hi h=>?_) (fun F1 H' h=>?_)
  ·obtain⟨s7,EO⟩:=h
   have hri:=getElem?_eq_getElem hi
   obtain⟨v,hv,a,rfl,ha⟩:=Bd.get (Bd.same s7 Je) (show(rs.map fz)[i]? = some (fz rs[i]) by rw[getElem?_map,hri];rfl)
   refine⟨⟨_,_,Ap.of (s7 _ _ OU),hv⟩,fun v' H8 y=>?_⟩
   obtain⟨rfl,y⟩:=y
   have BJ:=y _ (Ap.of (s7 _ _ OU))
   rw[hv]at BJ
   cases BJ
   have BS:rs.take (i + 1)=rs.take i ++ [rs[i]]:=by rw[take_succ,hri];rfl
   obtain⟨p1,p2,h1,h2,_,e1,e2,hc⟩:=BX.key _ (getElem_mem hi)
   obtain⟨hs1,EF⟩:=BX.lanes _ (getElem_mem hi)
   generalize rs[i]=r at *
   refine⟨_,rfl,1,rfl,a,_,rfl,Ap.of ha,fun p hp=>?_⟩
   have ec:eA ((fz r).map V.str) (some 1) none=(bY r.p.toNat r.g.toNat r.c r.s).map V.str:=i0 1 [V.str way] _ rfl
   rw[ec]
   have s9:=(An.refl H8).new (o := .lst ((bY r.p.toNat r.g.toNat r.c r.s).map V.str)) hp
   have er:(⟨((r.p.toNat:Nat):Int),((r.g.toNat:Nat):Int),r.c,r.s⟩:Rw)=r:=by
    cases r
    simp only at e1 e2
    subst e1 e2
    rfl
   refine⟨p,r.p.toNat,r.g.toNat,r.c,r.s,rfl,ac,lt_of_lt_of_le (show r.p.toNat < 12 by omega) (by decide),lt_of_lt_of_le (show r.g.toNat < 12 by omega) (by decide),(fun k hk=>?_),(fun k hk=>?_),le_trans EF (le_trans Be (by decide)),fun t l C9 BY MN=>⟨s7.trans (s9.trans BY),?_⟩⟩
   ·rw[hk]at hc
    exact lt_of_lt_of_le ((dG ps p1).2 k hc) (le_trans Be (by decide))
   ·exact lt_of_lt_of_le (gO (hs1 k hk)) (le_trans Be (by decide))
   ·rw[er]at MN
    rw[BS]
    exact By.snoc ⟨t,l,rfl,MN⟩ (By.same (s9.trans BY) EO)
  obtain⟨s7,EO⟩:=h
  rw[take_length]at EO
  refine⟨⟨_,Ap.of (s7 _ _ OU),by rw[Paired.length Je,length_map];exact le_refl _⟩,fun l2 Df=>?_⟩
  have s8:=s7.new (o := .lst F1) Df
  have WD:=By.same ((An.refl H').new (o := .lst F1) Df) EO
  have g8:(upd H' l2 (.lst F1)) l2=some (.lst F1):=ac
  generalize upd H' l2 (.lst F1)=H8 at s8 g8 WD ⊢
  refine fun y dy ny GO GP=>rf ny GO GP ⟨s8 _ _ hL.1,s8 _ _ hL.2.1,AN.same s8 hL.2.2⟩ g8 WD hn.2 Be BX (by omega) fun H9 s9 hTI=>⟨rfl,?_⟩
  exact q y x dx lt Az H9 (Fz.trans (F0.trans (s8.trans s9))) hTI
noncomputable def na:Sp:=fun vs H Q _=>∃ i:Int,vs=[.str (wT (.int i))]/\i.natAbs < 10 ^ 60/\∀ H',An H H'->Q (.int i) H'
theorem tD (k:Nat):wT (.int (-((k + 1:Nat):Int))) = ⟨#[45]⟩ ++ aU (k + 1):=ve k
theorem vc (m:Nat):Txt.startswith (aU m) ⟨#[45]⟩ = false:=by
 have Bj:=m7 m
 obtain⟨c,l,e⟩:=List.exists_cons_of_ne_nil Bj
 have hs:aU m = ⟨#[c]⟩ ++ ⟨l.toArray⟩:=tK (by rw[pc];exact e)
 have hd:=dW m c (by rw[e];exact mem_cons_self)
 rw[hs,jz]
 exact decide_eq_false (by omega)
theorem oO (x y:Str):(x ++ y).length=x.length + y.length:=by rw[pb,pc,length_append,← pb,← pb]
noncomputable def bW (d:List V):Str:=Txt.join blank (d.map wT)
noncomputable def cK (n:Nat)(ps:List (Int × Int))(wy:bV->Nat)(s:YS):List Str:=aZ n ps wy ++ [bW (.str (Str.ofString "rooms") :: s.rooms)] ++ s.done.map bW
noncomputable def yT (n:Nat)(ps:List (Int × Int))(wy:bV->Nat)(s:YS):Str:=Txt.join newline (cK n ps wy s)
structure OV (d:List V):Prop where
 wd:∀ v ∈ d,Wd v
 len:∀ v ∈ d,(wT v).length <= 62
 Ba:d.length <= 41
theorem OV.row {d:List V}(h:OV d):(bW d).length <= 2583:=by
 unfold bW
 rw[show Txt.join blank (d.map wT)=Str.join blank (d.map wT) from StrLaws.glued_eq_join _ _]
 have h1:=StrLaws.join_length_le blank (d.map wT)
 have h2:((d.map wT).map (·.length)).sum <= (d.map wT).length * 62:=StrLaws.sumLen_le _ fun y hy=>by obtain⟨v,hv,rfl⟩:=mem_map.mp hy;exact h.len v hv
 rw[length_map]at h1 h2
 have h3:d.length * blank.length=d.length:=mul_one _
 have:=h.Ba
 omega
structure WE (s:YS):Prop where
 rooms:OV (.str (Str.ofString "rooms") :: s.rooms)
 done:∀ d ∈ s.done,OV d
 many:s.done.length <= 100
noncomputable def gY (P:Program)(w:World)(K:Frag)(c:Cs)(ts:Ts)(ys:Ys):Sp:=fun vs H Q _=>∃ (a:YA)(s:YS)(rs:List Rw),vs=[.ref a.y]/\C4 K c ts.told (A0 P w ts) ys H a s/\a.wy=kG rs/\TabOk a.n a.ps (aI rs)/\(∀ q ∈ a.ps,gR a.n q=true)/\WE s /\
 ∀ H',An H H'->Q (.str (yT a.n a.ps (aI rs) s)) H'
theorem nv {n:Nat}{ps:List (Int × Int)}{rs E9:List Rw}(h:kG rs=kG E9):aZ n ps (aI rs)=aZ n ps (aI E9):=by
 unfold aZ
 congr 1
 refine cR fun p hp=>cR fun g hg=>cR fun c hc=>?_
 have e:eL (aI rs (aM ⟨(p:Int),(g:Int),c,[]⟩))=eL (aI E9 (aM ⟨(p:Int),(g:Int),c,[]⟩)):=congrArg nV (congrFun (congrFun (congrFun h p) g) c)
 unfold b9
 rw[e]
theorem qC {P:Program}{w:World}{ts:Ts}{H:Hp}{x:Addr}{n:Nat}{wy:Wf}(h:A0 P w ts H x n wy):∃ rs,wy=kG rs/\fu P w ts H x (aI rs)/\yo (aI rs):=by
 obtain⟨dx,de,lv,Aw,rs,h1,h2,h3,h4,h5⟩:=h
 have Bg:∀ k,∀ z ∈ wl (aI rs) k,z < 40:=fun k z hz=>by
  obtain⟨r,e,hs⟩:=BA.mp hz
  exact h4 r (cy e) z hs
 refine⟨rs,h5,⟨dx,de,lv,Aw,h1,h2,fun k=>?_⟩,fun k=>?_⟩
 ·rw[h3]
  unfold aI
  cases e:cn rs k with
  | none=>exact⟨rfl,by show 0 < 2 ^ 400;decide⟩
  | some r=>exact⟨rfl,ug fun z hz=>lt_of_lt_of_le (h4 r (cy e) z hz) (by decide)⟩
 ·have e:eL (aI rs k)=nV (wl (aI rs) k):=rfl
  rw[e]
  refine⟨by rw[du];exact n9 (lC _ k) (Bg k),fun v hv=>?_⟩
  obtain⟨q,hq,rfl⟩:=iH hv
  exact ck (lt_trans (Bg k q hq) (by decide))
noncomputable def SN (s:Stmt):Scope:=match s with
 | .Expr (.Call _ [.ListComp _ _ sc _] _ _) _=>sc
 | _=>c8
theorem MO:ao ["word", "number"] ["word"] (af lT):=L2.AQ
theorem sC {f fn:Addr}{fd dn:FuncData}(F:AM K "signed_of" "signed_of" lT f fd)(mn:mg "number_of" = some (.ref fn))(kn:keepIn K (.ref fn)=true)(bn:Binds K dn ["word"] [])(Gn:Ao P w K mg base aA 1 fn dn ["word"] fB):Ao P w K mg base aA 2 f fd ["word"] na:=by
 refine F.ok MO (fun _ _ _ _ h=>?_) (fun _ _ _ s H _ Q E hr h=>?_)
 ·obtain⟨i,rfl,_⟩:=h
  rfl
 ·obtain⟨i,rfl,hi,q⟩:=h
  refine⟨_,ae (aP (bM (bF (bJ plainAttrs_str PySem.F.slot_str_startswith PySem.F.type_str_startswith sK (pv 0) (aa aV ad)))) (ah (aq (ap Gn hr rfl mn kn bn .nil al (aa (pv 0) ad)))) aD)
   (ae (aC (i:=1) MO.nd rfl (Or.inl rfl) (ap Gn hr rfl mn kn bn .nil al (aa (cx wu (pv 0) (c6 ag) dD) ad)))
   (ah (aq (ca (PW.pt (eG (au gL (pv 1) bQ (aw _)) (dc (au bj (pv 1) ag (aw _))))) bQ (yg tG (pv 1)))))),?_⟩
  refine⟨_,rfl,rfl,_,⟨#[45]⟩,rfl,rfl,_,rfl,?_⟩
  rcases Int.lt_or_le i 0 with h0 | h0
  ·obtain⟨k,rfl⟩:∃ k:Nat,i = -((k + 1:Nat):Int):=⟨(-i - 1).toNat,by omega⟩
   rw[tD,jz,decide_eq_true rfl]
   have hk:k + 1 < 10 ^ 60:=by rw[Int.natAbs_neg,natAbs_natCast]at hi;exact hi
   refine aE ⟨_,rfl,1,rfl,_,1,rfl,rfl,rfl,?_,?_⟩
   ·have:=(oO ⟨#[45]⟩ (aU (k + 1)))
    have h60:(aU (k + 1)).length <= 60:=fK (by decide) hk
    rw[sizeLine_eq,this,show(⟨#[45]⟩:Str).length=1 from rfl]
    omega
   rw[sg]
   refine⟨k + 1,rfl,hk,fun H1 s1=>⟨_,rfl,rfl,_,rfl,aE ⟨_,rfl,rfl,_,rfl,?_⟩⟩⟩
   rw[gP,decide_eq_false (show ¬ (((k + 1:Nat):Int)=0) by omega)]
   exact aE ⟨_,rfl,_,rfl,q H1 s1⟩
  ·obtain⟨m,rfl⟩:=eq_ofNat_of_zero_le h0
   rw[show wT (.int (m:Int))=aU m from rfl,vc]
   exact aL ⟨_,rfl,m,rfl,by rw[natAbs_natCast]at hi;exact hi,q⟩
theorem MP:ao ["yard", "rows"] ["yard"] (af jB):=L2.AQ
theorem SO:Bi ["yard", "rows"] (af jB) (SN ((aG jB).getD 2 (.Pass ⟨0,0,0,0⟩))) [] []:=L2.B0
theorem SQ:(["deed"]:List Str).Nodup:=by decide +kernel
theorem uH {c:Cs}{ts:Ts}{ys:Ys}{f fr fv fh fw:Addr}{fd dr dv dh dw:FuncData}(F:AM K "yard_text" "yard_text" jB f fd)(Y:gS K ys)(W:Wy K ts.told fw dw (A0 P w ts))(mr:mg "row_of" = some (.ref fr))(kr:keepIn K (.ref fr)=true)(br:Binds K dr ["things"] [])(Gr:Ao P w K mg base aA 2 fr dr ["things"] (je K))
  (mv:mg "table_rows" = some (.ref fv)) (kv:keepIn K (.ref fv)=true) (bv:Binds K dv ["table"] []) (Gv:Ao P w K mg base aA 5 fv dv ["table"] (fT c ts.told (fu P w ts))) (mh:bB K ys.Aq "history" fh) (bh:Binds K dh ["self"] []) (Gh:Ao P w K mg base aA 1 fh dh ["self"] (p5 K ys)) :
  Ao P w K mg base aA 6 f fd ["yard"] (gY P w K c ts ys):=by
 refine F.ok MP (fun vs H Q E h=>?_) (fun cdv A outer s0 H vs Q E hr h=>?_)
 ·obtain⟨a,s,rs,rfl,_⟩:=h
  rfl
 ·obtain⟨a,s,rs,rfl,hI,SR,hT,AD,HW,q⟩:=h
  have AY:Ax 1 _:=hr.mono (by decide)
  have Bu:Ax 2 _:=hr.mono (by decide)
  refine⟨_,ae (aC (i:=1) MP.nd rfl (Or.inl rfl) (ap Gv hr rfl mv kv bv .nil al (aa (am (pv 0) rfl) ad)))
   (ae (aN (bJ plainAttrs_list PySem.F.slot_list_append PySem.F.type_list_append bG (pv 1) (aa (ap Gr Bu rfl mr kr br .nil al (aa (eW (aB qX (bI (aa aV ad)) (am (pv 0) rfl))) ad)) ad)))
   (ae (aN (bJ plainAttrs_list slot_list_extend type_list_extend cQ (pv 1) (aa (aS (own:=["deed"]) (capN:=[]) (cap:=[]) SO rfl (aR (bu (pv 0) Y.cl mh Gh AY bh .nil al))
    (fun C s' H' fp=>⟨av (i:=0) SQ rfl (Or.inl rfl),bc,ap Gr Bu rfl mr kr br .nil al (aa (pv 0) ad)⟩)) ad)))
   (ah (aq (bJ plainAttrs_str slot_str_join type_str_join fZ aV (aa (pv 1) ad)))))),?_⟩
  have BG:∀ pr ∈ a.ps,∃ x y:Nat,pr=((x:Int),(y:Int))/\x < 12/\y < 12:=fun pr Cr=>jU hI.T.DF (AD pr Cr)
  obtain⟨E9,e',SS,OW⟩:=qC hI.T.j
  obtain⟨SU,SV,Ll,OX,_⟩:=hI.T.i
  obtain⟨l1,l2⟩:=eE hI.T.DF hI.T.Ba BG OW
  have er:aZ a.n a.ps (aI E9)=aZ a.n a.ps (aI rs):=nv (e'.symm.trans SR)
  rw[er]at l1 l2
  refine⟨_,rfl,a.y,ys.Aq,a.dy,_,_,rfl,hI.Y.ins,Y.cl,Y.n1,rfl,a.tb,SU,a.lx,a.AL,a.lt,SV,a.n,a.Az,a.ps,aI E9,rfl,SS,Ll,OX,hI.T.l,hI.T.DF,hI.T.Ba,BG,OW,fun D H1 s1 hD gD=>?_⟩
  rw[er]at gD
  unfold yT cK at q
  generalize aZ a.n a.ps (aI rs)=tr at gD l1 l2 q
  refine⟨_,rfl, .inl ⟨rfl,_,Ap.of gD⟩,fun v H'=>∃ t,v = .ref t/\An H1 H'/\Ay K H' t (.str (Str.ofString "rooms") :: s.rooms),?_,?_⟩
  ·refine⟨by show 1 <= sizeLine;decide,fun t ht=>?_⟩
   have s2:=(An.refl H1).new (o := .tup [.str (Str.ofString "rooms")]) ht
   have g2:(upd H1 t (.tup [.str (Str.ofString "rooms")])) t=some (.tup [.str (Str.ofString "rooms")]):=ac
   generalize upd H1 t (.tup [.str (Str.ofString "rooms")])=H2 at s2 g2 ⊢
   have MG:=s1.trans s2
   have Ck:=HW.rooms.Ba
   refine⟨_,rfl,a.y,ys.Aq,a.dy,_,_,rfl,MG _ _ hI.Y.ins,Y.cl,Y.n2,rfl,t,a.ro,_,s.rooms,rfl,rfl,Ay.of g2,b8 MG hI.Y.JN,(by intro z;cases z),(by rw[sizeLine_eq];rw[length_cons]at Ck;show 1 + s.rooms.length <= _;omega),(fun e=>⟨t,rfl,s2,?_⟩),fun _ p hp=>⟨p,rfl,s2.new hp,Ay.of ac⟩⟩
   rw[e]
   exact Ay.of g2
  rintro _ H2 ⟨t,rfl,s2,g2⟩
  refine⟨t,_,rfl, .inr g2,HW.rooms.wd,le_trans HW.rooms.Ba (by decide),(fun v hv=>le_trans (HW.rooms.len v hv) (by decide)),fun H3 s3=>?_⟩
  have DA:=s2.trans s3
  refine⟨D,_,_,rfl,rfl,DA _ _ gD,by rw[length_map,sizeLine_eq];omega,?_⟩
  have s4:An H (upd H3 D (.lst (tr.map V.str ++ [.str (bW (.str (Str.ofString "rooms") :: s.rooms))]))):=fun b o e=>by rw[ai (aj e hD)];exact DA _ _ (s1 _ _ e)
  have g4:(upd H3 D (.lst (tr.map V.str ++ [.str (bW (.str (Str.ofString "rooms") :: s.rooms))]))) D=some (.lst ((tr ++ [bW (.str (Str.ofString "rooms") :: s.rooms)]).map V.str)):=by rw[ac,map_append];rfl
  show Kx _ _ _ _ (upd H3 D (.lst (tr.map V.str ++ [.str (bW (.str (Str.ofString "rooms") :: s.rooms))])))
  generalize upd H3 D (.lst (tr.map V.str ++ [.str (bW (.str (Str.ofString "rooms") :: s.rooms))]))=H4 at s4 g4 ⊢
  refine⟨_,rfl, .inl ⟨rfl,_,Ap.of g4⟩,_,rfl,a.y,a.dy,_,rfl,s4 _ _ hI.Y.ins,rfl,a.y,a.dy,a.tb,a.ro,a.la,a.le,a.li,a.dn,s,rfl,Av.same hI.Y s4,fun th DH H5 s5 WA OY hP=>?_⟩
  refine⟨th,rfl,⟨_,Ap.of OY⟩,?_⟩
  have hPl:DH.length=s.done.length:=Paired.length hP
  have HX:=HW.many
  refine aX s.done.length (by rw[sizeLine_eq];omega) (fun i acc H'=>An H5 H'/\acc=((s.done.take i).map bW).map V.str) ⟨An.refl _,rfl⟩ (fun i acc H' h=>by rw[h.2,length_map,length_map];exact length_take_le _ _) (fun i acc H' hi h=>?_) (fun acc H' h=>?_)
  ·obtain⟨s6,rfl⟩:=h
   have hdi:=getElem?_eq_getElem hi
   obtain⟨v,hv,td,rfl,WG⟩:=Paired.at2 hP hdi
   refine⟨⟨_,_,Ap.of (s6 _ _ OY),hv⟩,fun v' H7 y=>?_⟩
   obtain⟨rfl,y⟩:=y
   have BJ:=y _ (Ap.of (s6 _ _ OY))
   rw[hv]at BJ
   cases BJ
   have E8:=HW.done _ (getElem_mem hi)
   have BS:s.done.take (i + 1)=s.done.take i ++ [s.done[i]]:=by rw[take_succ,hdi];rfl
   generalize s.done[i]=d at E8 BS WG
   refine⟨_,rfl,td,d,rfl, .inr (Ay.of (s6 _ _ WG)),E8.wd,le_trans E8.Ba (by decide),(fun v hv=>le_trans (E8.len v hv) (by decide)),fun H8 s8=>⟨s6.trans s8,?_⟩⟩
   rw[BS,map_append,map_append]
   rfl
  obtain⟨s6,rfl⟩:=h
  rw[take_length]
  refine⟨⟨_,Ap.of (s6 _ _ OY),by omega⟩,fun E2 hE2=>?_⟩
  have s7:=s6.new (o := .lst ((s.done.map bW).map V.str)) hE2
  have g7:(upd H' E2 (.lst ((s.done.map bW).map V.str))) E2=some (.lst ((s.done.map bW).map V.str)):=ac
  generalize upd H' E2 (.lst ((s.done.map bW).map V.str))=H7 at s7 g7 ⊢
  have Ke:=s5.trans s7
  refine⟨D,E2,_,_,rfl,rfl,Ke _ _ g4,g7,by rw[length_map,length_map,length_map,length_append,sizeLine_eq];show tr.length + 1 + _ <= _;omega,?_⟩
  rw[← map_append]
  have s8:An H (upd H7 D (.lst (((tr ++ [bW (.str (Str.ofString "rooms") :: s.rooms)]) ++ s.done.map bW).map V.str))):=fun b o e=>by rw[ai (aj e hD)];exact Ke _ _ (s4 _ _ e)
  have g8:(upd H7 D (.lst (((tr ++ [bW (.str (Str.ofString "rooms") :: s.rooms)]) ++ s.done.map bW).map V.str))) D=some (.lst (((tr ++ [bW (.str (Str.ofString "rooms") :: s.rooms)]) ++ s.done.map bW).map V.str)):=ac
  refine⟨rfl,_,rfl,newline,D,_,rfl,rfl,Ap.of g8,?_,q _ s8⟩
  have b1:(tr.map (·.length)).sum <= tr.length * 500:=StrLaws.sumLen_le _ l2
  have b2:((s.done.map bW).map (·.length)).sum <= (s.done.map bW).length * 2583:=StrLaws.sumLen_le _ fun y hy=>by obtain⟨d,hd,rfl⟩:=mem_map.mp hy;exact(HW.done d hd).row
  have b3:=HW.rooms.row
  rw[map_append,map_append,sum_append,sum_append,length_append,length_append]
  rw[length_map]at b2 ⊢
  show _ + _ + _ + (tr.length + 1 + s.done.length) * 1 <= _
  simp only[map_cons,map_nil,sum_cons,List.sum_nil]
  omega
inductive Dd
 | post (p g:Nat) (l u:Int) | mv (m:Mv)
noncomputable def iy:Dd->List V
 | .post p g l u=>[.str "post", .int p, .int g, .int l, .int u]
 | .mv m=>eI m
noncomputable def kD (a:YA)(s:YS):Dd->Prop
 | .post p g l u=>p < a.n/\g < a.n/\p ≠ g/\a.wy p g none ≠ []/\(1 <= l/\l <= 60)/\zE (.int u)=true/\s.Am.length < 60
 | .mv m=>m ∈ b0 a s
noncomputable def Bp (a:YA)(s:YS)(d:Dd)(s':YS):Prop:=match d with
 | .post p g l u=>s' = kT s p g l u
 | .mv m=>∃ s1,Cw a s m s1/\s' = { s1 with done:=s.done ++ [eI m] }
inductive C0 (a:YA)(rv:List V):List Dd->YS->Prop
 | nil:C0 a rv [] (Y0 rv a.n)
 | cons {ds:List Dd} {s s':YS} {d:Dd} (h:C0 a rv ds s) (l:kD a s d) (st:Bp a s d s'):C0 a rv (ds ++ [d]) s'
theorem Cw.det {a:YA}{s s1 s2:YS}{m:Mv}(h1:Cw a s m s1)(h2:Cw a s m s2):s1=s2:=by
 cases h1 with
 | Bx ht hg hl AX ho =>
  cases h2 with
  | Bx Kf hg' C2 Cv EU =>
   rw[ht]at Kf;cases Kf
   rw[AX]at Cv;cases Cv
   rfl
 | on hk hq ht hl AX ho =>
  cases h2 with
  | on G7 Cj Kf C2 Cv EU =>
   rw[hk]at G7;cases G7
   rw[hq]at Cj
   injection Cj with Cj
   injection Cj with e1 e2
   have e1:=Int.ofNat.inj e1
   subst e1 e2
   rw[ht]at Kf;cases Kf
   rw[AX]at Cv;cases Cv
   rfl
 | Ca hk hq ht hg he Cy =>
  cases h2 with
  | Ca G7 Cj Kf hg' WH MQ =>
   rw[hk]at G7;cases G7
   rw[hq]at Cj
   injection Cj with Cj
   injection Cj with e1 e2
   have e1:=Int.ofNat.inj e1
   subst e1 e2
   rw[he]at WH
   have e3:=Int.ofNat.inj WH
   subst e3
   rw[Cy]at MQ;cases MQ
   rfl
 | back hk hb =>
  cases h2 with
  | back G7 Dg=>rw[hk]at G7;cases G7;rfl
theorem Bp.det {a:YA}{s s1 s2:YS}{d:Dd}(h1:Bp a s d s1)(h2:Bp a s d s2):s1=s2:=by
 cases d with
 | post p g l u=>exact h1.trans h2.symm
 | mv m =>
  obtain⟨x,hx,e1⟩:=h1
  obtain⟨y,hy,e2⟩:=h2
  rw[e1,e2,hx.det hy]
theorem ud {α:Type}{l l':List α}{x y:α}(h:l ++ [x]=l' ++ [y]):l=l'/\x=y:=by
 have:=List.append_inj' h rfl
 exact⟨this.1,by injection this.2⟩
theorem C0.det {a:YA}{rv:List V}:∀ {ds:List Dd}{s s':YS},C0 a rv ds s->C0 a rv ds s'->s=s':=by
 intro ds s s' h1
 induction h1 generalizing s' with
 | nil =>
  intro h2
  generalize e:([]:List Dd)=z at h2
  cases h2 with
  | nil=>rfl
  | cons h l st=>exact absurd e.symm (by simp)
 | @cons ds s s1 d h l st ih =>
  intro h2
  generalize e:ds ++ [d]=z at h2
  cases h2 with
  | nil=>exact absurd e (by simp)
  | @cons ds2 t t' d2 h' l' Dp =>
   obtain⟨rfl,rfl⟩:=ud e
   have:=ih h'
   subst this
   exact st.det Dp
theorem C0.at {a:YA}{rv:List V}{ds:List Dd}{s:YS}(h:C0 a rv ds s):∀ {i:Nat}{d:Dd},ds[i]? = some d->∃ t,C0 a rv (ds.take i) t/\kD a t d:=by
 induction h with
 | nil=>intro i d h;cases h
 | @cons ds s s1 d h l st ih =>
  intro i e hi
  by_cases Bg:i < ds.length
  ·rw[getElem?_append_left Bg]at hi
   obtain⟨t,h1,h2⟩:=ih hi
   exact⟨t,by rw[List.take_append_of_le_length (by omega)];exact h1,h2⟩
  ·have hi':i=ds.length:=by
    have:=(gQ0 hi)
    rw[length_append]at this
    have:i < ds.length + 1:=this
    omega
   subst hi'
   rw[getElem?_concat_length]at hi
   cases hi
   exact⟨s,by rw[List.take_left];exact h,l⟩
theorem C0.done {a:YA}{rv:List V}{ds:List Dd}{s:YS}(h:C0 a rv ds s):s.done=ds.map iy/\s.rooms=rv:=by
 induction h with
 | nil=>exact⟨rfl,rfl⟩
 | @cons ds s s1 d h l st ih =>
  rw[map_append]
  cases d with
  | post p g l u =>
   cases st
   exact⟨by show s.done ++ _=_;rw[ih.1];rfl,ih.2⟩
  | mv m =>
   obtain⟨x,hx,rfl⟩:=st
   exact⟨by show s.done ++ _=_;rw[ih.1];rfl,by show x.rooms=rv;rw[hx.rooms];exact ih.2⟩
theorem Bp.DK {a:YA}{s s':YS}{d:Dd}(J:Br a s)(l:kD a s d)(st:Bp a s d s'):Br a s':=by
 cases d with
 | post p g l' u =>
  cases st
  obtain⟨h1,h2,_,_,h5,_,h7⟩:=l
  exact J.post h1 h2 ⟨by omega,h5.2⟩ h7
 | mv m =>
  obtain⟨x,hx,rfl⟩:=st
  exact(J.step hx).done _
theorem C0.to {a a':YA}{rv:List V}(h1:a'.ps=a.ps)(h2:a'.wy=a.wy)(h3:a'.n=a.n){ds:List Dd}{s:YS}(h:C0 a rv ds s):C0 a' rv ds s:=by
 obtain⟨y,dy,tb,ro,la,le,li,dn,lx,AL,lt,n,Az,ps,wy⟩:=a
 obtain⟨y',WI,WJ,WK,WL,WM,WN,WO,WQ,MR,lt',n',CV,WR,WS⟩:=a'
 simp only at h1 h2 h3
 subst h1 h2 h3
 induction h with
 | nil=>exact .nil
 | @cons ds s s1 d h l st ih =>
  refine .cons ih ?_ ?_
  ·cases d with
   | post p g l' u=>exact l
   | mv m=>exact l
  ·cases d with
   | post p g l' u=>exact st
   | mv m =>
    obtain⟨x,hx,e⟩:=st
    refine⟨x,?_,e⟩
    cases hx with
    | Bx ht hg hl AX ho=>exact .Bx ht hg hl AX ho
    | on hk hq ht hl AX ho=>exact .on hk hq ht hl AX ho
    | Ca hk hq ht hg he Cy=>exact .Ca hk hq ht hg he Cy
    | back hk hb=>exact .back hk hb
noncomputable def Kg:Dd->Prop
 | .post p g l u=>p < 100/\g < 100/\(1 <= l/\l <= 60)/\u.natAbs < 10 ^ 60
 | .mv (.Bx k l)=>k < 100/\l < 100
 | .mv (.on k l)=>k < 100/\l < 100
 | .mv (.Ca k)=>k < 100
 | .mv (.back k)=>k < 100
theorem SW {i:Int}(h:i.natAbs < 10 ^ 60):Wd (.int i)/\(wT (.int i)).length <= 62/\vY (wT (.int i)):=by
 have Jd:i.natAbs.log2 < 1920:=by have:=ip h;rw[natAbs_natCast]at this;exact this
 refine⟨.int _ Jd,?_⟩
 rcases Int.lt_or_le i 0 with h0 | h0
 ·obtain⟨k,rfl⟩:∃ k:Nat,i = -((k + 1:Nat):Int):=⟨(-i - 1).toNat,by omega⟩
  have hk:k + 1 < 10 ^ 60:=by rw[Int.natAbs_neg,natAbs_natCast]at h;exact h
  rw[tD]
  refine⟨?_,?_⟩
  ·rw[oO,show(⟨#[45]⟩:Str).length=1 from rfl]
   have:=fK (m:=k + 1) (k:=60) (by decide) hk
   omega
  ·obtain⟨h1,h2⟩:=cS (k + 1)
   have e:tl (⟨#[45]⟩ ++ aU (k + 1))=45 :: tl (aU (k + 1)):=pc _ _
   refine⟨?_,?_⟩
   ·rw[e];intro z;rcases mem_cons.mp z with z | z
    ·cases z
    ·exact h1 z
   ·rw[e];intro z;rcases mem_cons.mp z with z | z
    ·cases z
    ·exact h2 z
 ·obtain⟨m,rfl⟩:=eq_ofNat_of_zero_le h0
  rw[natAbs_natCast]at h
  exact⟨le_trans (fK (k:=60) (by decide) h) (by decide),cS m⟩
theorem vW {k:Nat}(h:k < 100):Wd (.int (k:Int))/\(wT (.int (k:Int))).length <= 62/\vY (wT (.int (k:Int))):=SW (by rw[natAbs_natCast];exact lt_trans h (by decide))
theorem Kh {x:Str}(h1:x.length <= 62)(h2:10 ∉ tl x)(h3:32 ∉ tl x):Wd (.str x)/\(wT (.str x)).length <= 62/\vY (wT (.str x)):=⟨.str x,h1,h2,h3⟩
theorem k4 {d:Dd}(h:Kg d):(∀ v ∈ iy d,Wd v/\(wT v).length <= 62/\vY (wT v))/\(iy d).length <= 5:=by
 cases d with
 | post p g l u =>
  obtain⟨h1,h2,h3,h4⟩:=h
  refine⟨fun v hv=>?_,by show 5 <= 5;decide⟩
  simp only[iy,mem_cons,not_mem_nil,or_false]at hv
  rcases hv with rfl | rfl | rfl | rfl | rfl
  ·exact Kh (by decide) (by decide) (by decide)
  ·exact vW h1
  ·exact vW h2
  ·exact SW (lt_of_le_of_lt (show l.natAbs <= 60 by omega) (by decide))
  ·exact SW h4
 | mv m =>
  cases m with
  | Bx k l =>
   refine⟨fun v hv=>?_,by show 3 <= 5;decide⟩
   simp only[iy,eI,mem_cons,not_mem_nil,or_false]at hv
   rcases hv with rfl | rfl | rfl
   ·exact Kh (by decide) (by decide) (by decide)
   ·exact vW h.1
   ·exact vW h.2
  | on k l =>
   refine⟨fun v hv=>?_,by show 3 <= 5;decide⟩
   simp only[iy,eI,mem_cons,not_mem_nil,or_false]at hv
   rcases hv with rfl | rfl | rfl
   ·exact Kh (by decide) (by decide) (by decide)
   ·exact vW h.1
   ·exact vW h.2
  | Ca k =>
   refine⟨fun v hv=>?_,by show 2 <= 5;decide⟩
   simp only[iy,eI,mem_cons,not_mem_nil,or_false]at hv
   rcases hv with rfl | rfl
   ·exact Kh (by decide) (by decide) (by decide)
   ·exact vW h
  | back k =>
   refine⟨fun v hv=>?_,by show 2 <= 5;decide⟩
   simp only[iy,eI,mem_cons,not_mem_nil,or_false]at hv
   rcases hv with rfl | rfl
   ·exact Kh (by decide) (by decide) (by decide)
   ·exact vW h
theorem C0.DK {a:YA}{rv:List V}(h0:Br a (Y0 rv a.n)){ds:List Dd}{s:YS}(h:C0 a rv ds s):Br a s:=by
 induction h with
 | nil=>exact h0
 | cons h l st ih=>exact st.DK ih l
theorem cb {α:Type}{l:List α}{i:Nat}{x:α}(h:l[i]? = some x):i < l.length:=(gQ0 h)
theorem zD {u:Int}(h:zE (.int u)=true):u.natAbs < 10 ^ 60:=by
 have h:(if u < 0 then -u else u) < 10 ^ 60:=of_decide_eq_true h
 split at h<;>omega
theorem Bp.GR {a:YA}{s s':YS}{d:Dd}(J:Br a s)(hn:a.n <= 12)(l:kD a s d)(st:Bp a s d s'):Kg d:=by
 have hf:=J.Ba
 have hp:=J.EL
 have hl:=J.lanes
 cases d with
 | post p g l' u =>
  obtain⟨h1,h2,_,_,h5,h6,_⟩:=l
  exact⟨by omega,by omega,h5,zD h6⟩
 | mv m =>
  obtain⟨x,hx,_⟩:=st
  cases hx with
  | Bx ht hg C2 AX ho=>exact⟨by have:=cb ht;omega,by have:=cb AX;omega⟩
  | on hk hq ht C2 AX ho=>exact⟨by have:=cb hk;omega,by have:=cb AX;rw[length_set]at this;omega⟩
  | Ca hk hq ht hg he Cy=>show _ < 100;have:=cb hk;omega
  | back hk hb=>show _ < 100;have:=cb hk;omega
theorem C0.GR {a:YA}{rv:List V}(h0:Br a (Y0 rv a.n))(hn:a.n <= 12){ds:List Dd}{s:YS}(h:C0 a rv ds s):∀ d ∈ ds,Kg d:=by
 induction h with
 | nil=>intro d hd;cases hd
 | @cons ds s s1 d h l st ih =>
  intro e he
  rcases mem_append.mp he with he | he
  ·exact ih e he
  ·rw[mem_singleton.mp he];exact st.GR (h.DK h0) hn l
noncomputable def ot (d:Dd):List Str:=(iy d).map wT
noncomputable def p6 (P:Program)(w:World)(K:Frag)(c:Cs)(ts:Ts)(ys:Ys):Sp:=fun vs H Q _=>∃ (a:YA)(s:YS)(wa:Addr)(d:Dd),vs=[.ref a.y, .ref wa]/\C4 K c ts.told (A0 P w ts) ys H a s/\H wa=some (.lst ((ot d).map V.str))/\kD a s d/\Kg d/\RS s/\s.done.length <= 10000 /\
 ∀ (H':Hp)(s':YS),Bp a s d s'->AA a.four H H'->Bf K ys H' a s'->Q .AG H'
noncomputable def yt (s:Stmt):Scope:=match s with
 | .Assign _ (.Call _ [.BinOp _ _ (.ListComp _ _ sc _) _] _ _) _=>sc
 | _=>c8
abbrev WT:List Str:=["yard", "words", "deed"]
noncomputable def gc:Dd->List Int
 | .post p g l u=>[p,g,l,u]
 | .mv (.Bx k l)=>[k,l]
 | .mv (.on k l)=>[k,l]
 | .mv (.Ca k)=>[k]
 | .mv (.back k)=>[k]
noncomputable def mP:Dd->Str
 | .post _ _ _ _ => "post"
 | .mv (.Bx _ _) => "in"
 | .mv (.on _ _) => "on"
 | .mv (.Ca _) => "lie"
 | .mv (.back _) => "back"
theorem MT (m:Mv):decide (V.str (mP (.mv m))=V.str (Str.ofString "post"))=false:=by
 cases m with
 | Bx k l=>exact dI (x:=Str.ofString "in") (by decide)
 | on k l=>exact dI (x:=Str.ofString "on") (by decide)
 | Ca k=>exact dI (x:=Str.ofString "lie") (by decide)
 | back k=>exact dI (x:=Str.ofString "back") (by decide)
theorem k7 (d:Dd):iy d = .str (mP d) :: (gc d).map V.int:=by
 cases d with
 | post p g l u=>rfl
 | mv m=>cases m<;>rfl
theorem vL {d:Dd}(h:Kg d):(∀ i ∈ gc d,i.natAbs < 10 ^ 60)/\(gc d).length <= 4:=by
 have small:∀ k:Nat,k < 100->((k:Int)).natAbs < 10 ^ 60:=fun k hk=>by rw[natAbs_natCast];exact lt_trans hk (by decide)
 cases d with
 | post p g l u =>
  obtain⟨h1,h2,h3,h4⟩:=h
  refine⟨fun i hi=>?_,by show 4 <= 4;decide⟩
  simp only[gc,mem_cons,not_mem_nil,or_false]at hi
  rcases hi with rfl | rfl | rfl | rfl
  ·exact small p h1
  ·exact small g h2
  ·exact lt_of_le_of_lt (show i.natAbs <= 60 by omega) (by decide)
  ·exact h4
 | mv m =>
  cases m with
  | Bx k l =>
   refine⟨fun i hi=>?_,by show 2 <= 4;decide⟩
   simp only[gc,mem_cons,not_mem_nil,or_false]at hi
   rcases hi with rfl | rfl
   ·exact small k h.1
   ·exact small l h.2
  | on k l =>
   refine⟨fun i hi=>?_,by show 2 <= 4;decide⟩
   simp only[gc,mem_cons,not_mem_nil,or_false]at hi
   rcases hi with rfl | rfl
   ·exact small k h.1
   ·exact small l h.2
  | Ca k=>exact⟨fun i hi=>by simp only[gc,mem_cons,not_mem_nil,or_false]at hi;subst hi;exact small k h,by show 1 <= 4;decide⟩
  | back k=>exact⟨fun i hi=>by simp only[gc,mem_cons,not_mem_nil,or_false]at hi;subst hi;exact small k h,by show 1 <= 4;decide⟩
theorem MU:ao WT ["yard", "words"] (af nu):=L2.AQ
theorem SX:Bi WT (af nu) (yt ((aG nu).getD 0 (.Pass ⟨0,0,0,0⟩))) [] []:=L2.B0
theorem SY:(["word"]:List Str).Nodup:=by decide +kernel
theorem xo {c:Cs}{ts:Ts}{ys:Ys}{f fs fp fo fw:Addr}{fd ds dp FO dw:FuncData}(F:AM K "do_deed" "do_deed" nu f fd)(T:Txt mg)(Y:gS K ys)(W:Wy K ts.told fw dw (A0 P w ts))(ms:mg "signed_of" = some (.ref fs))(ks:keepIn K (.ref fs)=true)(bs:Binds K ds ["word"] [])(Gs:Ao P w K mg base aA 2 fs ds ["word"] na)
  (mp:bB K ys.Aq "post" fp) (bp:Binds K dp Ah []) (Gp:Ao P w K mg base aA 4 fp dp Ah (lJ K c ts.told (A0 P w ts) ys)) (mo:bB K ys.Aq "do" fo) (bo:Binds K FO ["self", "move"] []) (Go:Ao P w K mg base aA 8 fo FO ["self", "move"] (uc K c ts.told (A0 P w ts) ys)) :
  Ao P w K mg base aA 9 f fd ["yard", "words"] (p6 P w K c ts ys):=by
 refine F.ok MU (fun vs H Q E h=>?_) (fun cdv A outer s0 H vs Q E hr h=>?_)
 ·obtain⟨a,s,wa,d,rfl,_⟩:=h
  rfl
 ·obtain⟨a,s,wa,d,rfl,hI,gw,hL,hOk,hS,Cd,q⟩:=h
  have Bu:Ax 2 _:=hr.mono (by decide)
  have D3:Ax 4 _:=hr.mono (by decide)
  refine⟨_,ae (aC (i:=2) MU.nd rfl (Or.inl rfl) (aY cU rfl T.tuple PySem.Pv.boot_tuple (aa (aB jR (aO (aa (ax aJ (pv 1) ag (fun _ _=>rfl)) ad)) (aS (own:=["word"]) (capN:=[]) (cap:=[]) SX rfl (aR (cx dB (pv 1) (c6 ag) dD))
    (fun C s' H' fp=>⟨av (i:=0) SY rfl (Or.inl rfl),bc,ap Gs Bu rfl ms ks bs .nil al (aa (pv 0) ad)⟩))) ad)))
   (ah (aP (PW.pt (dY (au bj (ax aJ (pv 1) ag (fun _ _=>rfl)) aV (aw _)) (dC (au bj (az ay rfl T.len PySem.boot_len (aa (pv 1) ad)) ag (aw _)))))
    (ah (aN (aH (pv 0) Y.cl mp Gp D3 bp .nil al (aa (ax aF (pv 2) ag (fun _ _=>rfl)) (aa (ax aF (pv 2) ag (fun _ _=>rfl)) (aa (ax aF (pv 2) ag (fun _ _=>rfl)) (aa (ax aF (pv 2) ag (fun _ _=>rfl)) ad)))))))
    (ah (aN (aH (pv 0) Y.cl mo Go hr bo .nil al (aa (pv 2) ad)))))),?_⟩
  have ew:(ot d).map V.str=V.str (mP d) :: (gc d).map fun i=>V.str (wT (.int i)):=by
   unfold ot
   rw[k7,map_cons,map_cons,map_map,map_map]
   rfl
  rw[ew]at gw
  obtain⟨Mc,hi2⟩:=vL hOk
  refine⟨_,rfl,wa,_,0,_,rfl,rfl,Ap.of gw,ak (j:=0) rfl,by show 1 <= sizeLine;decide,fun o1 FN=>?_⟩
  have s1:=(An.refl H).new (o := .lst [.str (mP d)]) FN
  have g1:(upd H o1 (.lst [.str (mP d)])) o1=some (.lst [.str (mP d)]):=ac
  generalize upd H o1 (.lst [.str (mP d)])=H1 at s1 g1 ⊢
  refine⟨_,rfl,1,rfl,wa,_,rfl,Ap.of (s1 _ _ gw),fun D hD=>?_⟩
  have ec:eA (V.str (mP d) :: (gc d).map fun i=>V.str (wT (.int i))) (some 1) none=(gc d).map fun i=>V.str (wT (.int i)):=i0 1 [V.str (mP d)] _ rfl
  rw[ec]
  have s2:=s1.new (o := .lst ((gc d).map fun i=>V.str (wT (.int i)))) hD
  have DI:=(An.refl H1).new (o := .lst ((gc d).map fun i=>V.str (wT (.int i)))) hD
  have g2:(upd H1 D (.lst ((gc d).map fun i=>V.str (wT (.int i))))) D=some (.lst ((gc d).map fun i=>V.str (wT (.int i)))):=ac
  refine⟨D,rfl,⟨_,Ap.of g2⟩,?_⟩
  dsimp only
  generalize upd H1 D (.lst ((gc d).map fun i=>V.str (wT (.int i))))=H2 at s2 DI g2 ⊢
  refine aX (gc d).length (by rw[sizeLine_eq];omega) (fun i acc H'=>An H2 H'/\acc=((gc d).take i).map V.int) ⟨An.refl _,rfl⟩ (fun i acc H' h=>by rw[h.2,length_map];exact length_take_le _ _) (fun i acc H' hi h=>?_) (fun acc H' h=>?_)
  ·obtain⟨s3,rfl⟩:=h
   have hdi:=getElem?_eq_getElem hi
   refine⟨⟨_,V.str (wT (.int (gc d)[i])),Ap.of (s3 _ _ g2),by rw[getElem?_map,hdi];rfl⟩,fun v H4 y=>?_⟩
   obtain⟨rfl,y⟩:=y
   have hv:=y _ (Ap.of (s3 _ _ g2))
   rw[getElem?_map,hdi]at hv
   cases hv
   refine⟨_,rfl,(gc d)[i],rfl,Mc _ (getElem_mem hi),fun H5 s5=>⟨s3.trans s5,?_⟩⟩
   rw[take_succ,hdi,map_append]
   rfl
  obtain⟨s3,rfl⟩:=h
  rw[take_length]
  refine⟨⟨_,Ap.of (s3 _ _ g2),by rw[length_map];exact le_refl _⟩,fun o2 B9=>?_⟩
  have s4:=(s2.trans s3).new (o := .lst ((gc d).map V.int)) B9
  have WU:=s3.new (o := .lst ((gc d).map V.int)) B9
  have g4:(upd H' o2 (.lst ((gc d).map V.int))) o2=some (.lst ((gc d).map V.int)):=ac
  generalize upd H' o2 (.lst ((gc d).map V.int))=H4 at s4 WU g4 ⊢
  refine⟨o1,o2,_,_,rfl,rfl,WU _ _ (DI _ _ g1),g4,by rw[length_map,sizeLine_eq];show 1 + _ <= _;omega,fun Cm MF=>?_⟩
  have s5:=s4.new (o := .lst ([V.str (mP d)] ++ (gc d).map V.int)) MF
  have g5:(upd H4 Cm (.lst ([V.str (mP d)] ++ (gc d).map V.int))) Cm=some (.lst ([V.str (mP d)] ++ (gc d).map V.int)):=ac
  generalize upd H4 Cm (.lst ([V.str (mP d)] ++ (gc d).map V.int))=H5 at s5 g5 ⊢
  refine⟨Cm,_,rfl, .inl ⟨Ap.of g5,fun td htd=>?_⟩⟩
  have s6:=s5.new (o := .tup ([V.str (mP d)] ++ (gc d).map V.int)) htd
  have g6:(upd H5 td (.tup ([V.str (mP d)] ++ (gc d).map V.int))) td=some (.tup (iy d)):=by rw[ac,k7];rfl
  show cz 2 (V.ref td) _ (upd H5 td (.tup ([V.str (mP d)] ++ (gc d).map V.int))) _
  generalize upd H5 td (.tup ([V.str (mP d)] ++ (gc d).map V.int))=H6 at s6 g6 ⊢
  have MV:=hI.same W s6
  have Ta:=s6 _ _ gw
  cases d with
  | post p g l u =>
   obtain⟨h1,h2,h3,h4,h5,h7,h8⟩:=hL
   refine⟨_,rfl,wa,_,0,_,rfl,rfl,Ap.of Ta,ak (j:=0) rfl,rfl,_,rfl,?_⟩
   rw[decide_eq_true (show V.str (mP (.post p g l u))=V.str (Str.ofString "post") from rfl)]
   refine aL ⟨_,rfl,wa,_,rfl, .inl (Ap.of Ta),rfl,_,rfl,?_⟩
   rw[decide_eq_true (show V.int ((V.str (mP (.post p g l u)) :: (gc (.post p g l u)).map fun i=>V.str (wT (.int i))).length:Nat)=V.int 5 from rfl)]
   have g6:H6 td=some (.tup [.str "post", .int p, .int g, .int l, .int u]):=g6
   have Bl:=kX (n:=a.n) (wy:=a.wy) h1 h2 h5 h7 h3 h4 h8
   refine aL ⟨_,rfl,a.y,a.dy,_,rfl,MV.Y.ins,rfl,_,rfl,td,_,1,_,rfl,rfl,Ay.of g6,ak (j:=1) rfl,_,rfl,td,_,2,_,rfl,rfl,Ay.of g6,ak (j:=2) rfl,_,rfl,td,_,3,_,rfl,rfl,Ay.of g6,ak (j:=3) rfl,_,rfl,td,_,4,_,rfl,rfl,Ay.of g6,ak (j:=4) rfl,
    a.y,a.dy,a.tb,a.ro,a.la,a.le,a.li,a.dn,a.lx,a.AL,a.lt,a.n,a.Az,a.ps,a.wy,s,_,_,_,_,rfl,MV.Y,MV.T, .int _, .int _, .int _, .int _,by omega,Cd,(fun h=>by rw[Bl]at h;cases h),(fun h=>by rw[Bl]at h;cases h),(fun h=>by rw[Bl]at h;cases h),(fun h=>by rw[Bl]at h;cases h),(fun h=>by rw[Bl]at h;cases h),fun _ H7 off HY=>?_⟩
   refine q H7 _ rfl (fun b o nb e=>off b o (fun z=>nb ?_) (s6 _ _ e)) HY
   simp only[mem_cons,not_mem_nil,or_false]at z ⊢
   rcases z with z | z
   ·exact .inr (.inl z)
   ·exact .inr (.inr (.inr z))
  | mv m =>
   refine⟨_,rfl,wa,_,0,_,rfl,rfl,Ap.of Ta,ak (j:=0) rfl,rfl,_,rfl,?_⟩
   rw[MT m]
   refine aE (aE ⟨_,rfl,a.y,a.dy,_,rfl,MV.Y.ins,rfl,_,rfl,a,s,td,m,rfl,MV,g6,hL,hS,fun H7 s7 st off HY=>?_⟩)
   exact q H7 _ ⟨s7,st,rfl⟩ (fun b o nb e=>off b o nb (s6 _ _ e)) HY
end K82
namespace L2
open PySem PySem.Spec PyProof.Rows
theorem uB {X:Cx}{body:List Stmt}{h₀:ExceptHandler}{hs:List ExceptHandler}{pos:Pos}{tb:TS}(hx:∀ ev s,X.xe ev s->False)(hb:Ee X body tb):PS X (.Try body (h₀ :: hs) [] [] pos) tb:=by
 intro pins s σ H D I h
 refine wpAny_Try_except (wpAny_mono (hb pins s σ H D I h) (fun f s1 q=>?_) fun ev s1 z=>(hx _ _ z).elim)
 cases f with
 | next=>exact wpAny_execs_nil q
 | ret v=>exact q
 | brk=>exact q
 | cont=>exact q
end L2
namespace K82
open PySem L2
variable {P:Program}{w:World}{K:Frag}{mg:Str->Option Value}{base:Heap}
noncomputable def cM (rm:List Nat):List Str:=Str.ofString "rooms" :: rm.map aU
noncomputable def yW (n:Nat)(ps:List (Int × Int))(wy:bV->Nat)(rm:List Nat)(ds:List Dd):List (List Str):=cX n ps wy ++ [cM rm] ++ ds.map ot
structure Bb (n:Nat)(ps:List (Int × Int))(rs:List Rw)(rm:List Nat)(ds:List Dd)(s:YS):Prop where
 DF:1 <= n/\n <= 12
 Ba:ps.length <= 40
 Jf:∀ q ∈ ps,gR n q=true
 fit:yp n ps rs
 HZ:rm.length=ps.length
 Ki:∀ r ∈ rm,1 <= r/\r <= 60
 MW:∃ a0:YA,a0.ps=ps/\a0.wy=kG rs/\a0.n=n/\C0 a0 (nV rm) ds s
 many:ds.length <= 100
theorem Bb.pairs {n:Nat}{ps:List (Int × Int)}{rs:List Rw}{rm:List Nat}{ds:List Dd}{s:YS}(h:Bb n ps rs rm ds s):∀ pr ∈ ps,∃ a b:Nat,pr=((a:Int),(b:Int))/\a < 12/\b < 12:=fun pr Cr=>jU h.DF.2 (h.Jf pr Cr)
theorem Bb.GR {n:Nat}{ps:List (Int × Int)}{rs:List Rw}{rm:List Nat}{ds:List Dd}{s:YS}(h:Bb n ps rs rm ds s):∀ d ∈ ds,Kg d:=by
 obtain⟨a0,e1,e2,e3,t⟩:=h.MW
 refine t.GR ?_ (by rw[e3];exact h.DF.2)
 have hl:(nV rm).length=a0.ps.length:=by rw[du,h.HZ,e1]
 exact(wJ hl).DK (zero_le _) (by rw[e1];exact h.Ba)
theorem Bb.done {n:Nat}{ps:List (Int × Int)}{rs:List Rw}{rm:List Nat}{ds:List Dd}{s:YS}(h:Bb n ps rs rm ds s):s.done=ds.map iy/\s.rooms=nV rm:=by
 obtain⟨a0,e1,e2,e3,t⟩:=h.MW
 exact t.done
theorem Bb.Ia {n:Nat}{ps:List (Int × Int)}{rs:List Rw}{rm:List Nat}{ds:List Dd}{s:YS}(h:Bb n ps rs rm ds s):WE s:=by
 obtain⟨e1,e2⟩:=h.done
 have hr:∀ v ∈ V.str (Str.ofString "rooms") :: s.rooms,Wd v/\(wT v).length <= 62/\vY (wT v):=fun v hv=>by
  rcases mem_cons.mp hv with rfl | hv
  ·exact Kh (by decide) (by decide) (by decide)
  ·rw[e2]at hv
   obtain⟨r,hr,rfl⟩:=iH hv
   exact vW (by have:=h.Ki r hr;omega)
 refine⟨⟨fun v hv=>(hr v hv).1,fun v hv=>(hr v hv).2.1,?_⟩,fun d hd=>?_,?_⟩
 ·rw[length_cons,e2,du,h.HZ];have:=h.Ba;omega
 ·rw[e1]at hd
  obtain⟨x,hx,rfl⟩:=mem_map.mp hd
  obtain⟨h1,h2⟩:=k4 (h.GR x hx)
  exact⟨fun v hv=>(h1 v hv).1,fun v hv=>(h1 v hv).2.1,by omega⟩
 ·rw[e1,length_map];exact h.many
theorem lE (rm:List Nat):(nV rm).map wT=rm.map aU:=by unfold nV;rw[map_map];rfl
theorem lB {n:Nat}{ps:List (Int × Int)}{rs:List Rw}{rm:List Nat}{ds:List Dd}{s:YS}(h:Bb n ps rs rm ds s):cK n ps (aI rs) s=(yW n ps (aI rs) rm ds).map (Txt.join blank):=by
 obtain⟨e1,e2⟩:=h.done
 unfold cK yW
 rw[qS (cE h.fit),map_append,map_append,e1,map_map,map_map]
 congr 1
 congr 1
 unfold bW cM
 rw[map_cons,e2,lE]
 rfl
theorem jv {n:Nat}{ps:List (Int × Int)}{rs:List Rw}{rm:List Nat}{ds:List Dd}{s:YS}(h:Bb n ps rs rm ds s):∀ ws ∈ yW n ps (aI rs) rm ds,ws ≠ []/\(∀ x ∈ ws,vY x)/\ws.length <= 100:=by
 intro ws hw
 rcases mem_append.mp hw with hw | hw
 ·rcases mem_append.mp hw with hw | hw
  ·obtain⟨h1,h2⟩:=mV h.pairs ws hw
   refine⟨h1,h2,?_⟩
   rcases mem_append.mp hw with hw | hw
   ·rcases mem_append.mp hw with hw | hw
    ·rw[mem_singleton.mp hw];show 2 <= 100;decide
    ·obtain⟨pr,_,e⟩:=mem_map.mp hw
     rw[← e];show 3 <= 100;decide
   ·obtain⟨r,hr,e⟩:=mem_map.mp hw
    rw[← e]
    unfold fz bY
    rw[length_cons,length_append,length_map]
    have:=((lX (cE h.fit)).lanes r hr).2
    have:=h.Ba
    show 3 + r.s.length + 1 <= 100
    omega
  ·rw[mem_singleton.mp hw]
   refine⟨cons_ne_nil _ _,fun x hx=>?_,?_⟩
   ·rcases mem_cons.mp hx with rfl | hx
    ·exact⟨by decide,by decide⟩
    ·obtain⟨m,_,rfl⟩:=mem_map.mp hx
     exact cS m
   ·unfold cM
    rw[length_cons,length_map,h.HZ]
    have:=h.Ba
    omega
 ·obtain⟨d,hd,rfl⟩:=mem_map.mp hw
  obtain⟨h1,h2⟩:=k4 (h.GR d hd)
  refine⟨?_,fun x hx=>?_,?_⟩
  ·unfold ot
   rw[k7]
   exact cons_ne_nil _ _
  ·obtain⟨v,hv,rfl⟩:=mem_map.mp hx
   exact(h1 v hv).2.2
  ·unfold ot
   rw[length_map]
   omega
theorem MX {n:Nat}{ps:List (Int × Int)}{rs:List Rw}{rm:List Nat}{ds:List Dd}{s:YS}(h:Bb n ps rs rm ds s) :
  Txt.split (yT n ps (aI rs) s) newline=cK n ps (aI rs) s/\(cK n ps (aI rs) s).map (fun r=>Txt.split r blank)=yW n ps (aI rs) rm ds:=by
 have hw:=jv h
 constructor
 ·refine j0 (by decide) (fun z=>by rw[lB h]at z;exact absurd (map_eq_nil_iff.mp z) (by unfold yW;simp)) fun y hy=>?_
  rw[lB h]at hy
  obtain⟨ws,OZ,rfl⟩:=mem_map.mp hy
  show 10 ∉ tl (Txt.join ⟨#[32]⟩ ws)
  rw[jc]
  refine rG (by decide) fun p hp=>?_
  obtain⟨x,hx,rfl⟩:=mem_map.mp hp
  exact((hw ws OZ).2.1 x hx).1
 ·rw[lB h,map_map]
  refine(List.map_congr_left fun ws OZ=>?_).trans (List.map_id _)
  exact j0 (by decide) (hw ws OZ).1 fun y hy=>((hw ws OZ).2.1 y hy).2
theorem MY {n:Nat}{ps:List (Int × Int)}{rs:List Rw}{rm:List Nat}{ds:List Dd}{s:YS}(h:Bb n ps rs rm ds s):(yT n ps (aI rs) s).length <= 4000000/\(cK n ps (aI rs) s).length <= 6101/\∀ r ∈ cK n ps (aI rs) s,r.length <= 2583:=by
 obtain⟨l1,l2⟩:=eE h.DF.2 h.Ba h.pairs (lD (cE h.fit) h.Ba)
 have hR:=h.Ia
 have hm:=hR.many
 have b1:((aZ n ps (aI rs)).map (·.length)).sum <= (aZ n ps (aI rs)).length * 500:=StrLaws.sumLen_le _ l2
 have b2:((s.done.map bW).map (·.length)).sum <= (s.done.map bW).length * 2583:=StrLaws.sumLen_le _ fun y hy=>by obtain⟨d,hd,rfl⟩:=mem_map.mp hy;exact(hR.done d hd).row
 have b3:=hR.rooms.row
 have hlen:(cK n ps (aI rs) s).length=(aZ n ps (aI rs)).length + 1 + s.done.length:=by
  unfold cK
  rw[length_append,length_append,length_map]
  rfl
 have hsum:((cK n ps (aI rs) s).map (·.length)).sum=((aZ n ps (aI rs)).map (·.length)).sum + (bW (.str (Str.ofString "rooms") :: s.rooms)).length + ((s.done.map bW).map (·.length)).sum:=by
  unfold cK
  rw[map_append,map_append,sum_append,sum_append]
  simp only[map_cons,map_nil,sum_cons,List.sum_nil,Nat.add_zero]
 rw[length_map]at b2
 refine⟨?_,by rw[hlen];omega,fun r hr=>?_⟩
 ·unfold yT
  rw[show Txt.join newline (cK n ps (aI rs) s)=Str.join newline (cK n ps (aI rs) s) from StrLaws.glued_eq_join _ _]
  have h3:=StrLaws.join_length_le newline (cK n ps (aI rs) s)
  have h5:(cK n ps (aI rs) s).length * newline.length=(cK n ps (aI rs) s).length:=mul_one _
  omega
 ·rcases mem_append.mp hr with hr | hr
  ·rcases mem_append.mp hr with hr | hr
   ·exact le_trans (l2 r hr) (by decide)
   ·rw[mem_singleton.mp hr];exact b3
  ·obtain⟨d,hd,rfl⟩:=mem_map.mp hr
   exact(hR.done d hd).row
theorem wf {n:Nat}{ps:List (Int × Int)}{rs:List Rw}(h:yp n ps rs):kG (cp n ps (aI rs))=kG rs:=by
 funext p g c
 show wl (aI (cp n ps (aI rs))) (cZ ((p:Int),(g:Int),c))=wl (aI rs) (cZ ((p:Int),(g:Int),c))
 by_cases Ft:p < n/\g < n/\c ∈ bS ps p
 ·exact xF (cE h) Ft.1 Ft.2.1 Ft.2.2
 ·have out:∀ E9:List Rw,yp n ps E9->wl (aI E9) (cZ ((p:Int),(g:Int),c))=[]:=fun E9 h'=>by
   refine eq_nil_iff_forall_not_mem.mpr fun z hz=>Ft ?_
   obtain⟨r,e,_⟩:=BA.mp hz
   obtain⟨x,y,h1,h2,_,e1,e2,e3⟩:=h'.key r (cy e)
   have ek:eY r=((p:Int),(g:Int),c):=fJ (iq e)
   have a1:r.p=p:=congrArg (·.1) ek
   have a2:r.g=g:=congrArg (·.2.1) ek
   have a3:r.c=c:=congrArg (·.2.2) ek
   have hx:x=p:=by omega
   have hy:y=g:=by omega
   subst hx hy
   rw[a3]at e3
   exact⟨h1,h2,e3⟩
  rw[out _ (lX (cE h)),out _ h]
theorem heads {n:Nat}{ps:List (Int × Int)}{wy:bV->Nat}:∀ x ∈ cX n ps wy,decide (V.str (x.headD blank)=V.str (Str.ofString "rooms"))=false:=by
 intro x hx
 rcases mem_append.mp hx with hx | hx
 ·rcases mem_append.mp hx with hx | hx
  ·rw[mem_singleton.mp hx];exact dI (x:=Str.ofString "places") (by decide)
  ·obtain⟨pr,_,rfl⟩:=mem_map.mp hx
   exact dI (x:=AI) (by decide)
 ·obtain⟨r,_,rfl⟩:=mem_map.mp hx
  exact dI (x:=way) (by decide)
noncomputable def kR:Sp:=fun vs H Q _=>∃ (D:Addr)(us:List V)(ws:List (List Str))(at_:Nat)(x:List Str),vs=[.ref D]/\H D=some (.lst us)/\Bd H us ws/\0 < at_/\ws[at_]? = some x/\decide (V.str (x.headD blank)=V.str (Str.ofString "rooms"))=true/\(∀ j y,ws[j]? = some y->j < at_->decide (V.str (y.headD blank)=V.str (Str.ofString "rooms"))=false)/\(∀ y ∈ ws,y ≠ []) /\
 ∀ H',An H H'->Q (.int at_) H'
abbrev NRa:List Str:=["rows", "number", "words"]
theorem Jg:ao NRa ["rows"] (af jH):=L2.AQ
theorem pV {f:Addr}{fd:FuncData}(F:AM K "rooms_at" "rooms_at" jH f fd)(T:Txt mg):Ao P w K mg base aA 1 f fd ["rows"] kR:=by
 refine F.ok Jg (fun vs H Q E h=>?_) (fun cdv A outer s0 H vs Q E hr h=>?_)
 ·obtain⟨D,us,ws,at_,x,rfl,_⟩:=h
  rfl
 ·obtain⟨D,us,ws,at_,x,rfl,gD,hW,h0,hx,hxr,JX,Bj,q⟩:=h
  refine⟨_,ae (bN PassesOwn.never rfl (jN rfl T.enum (aa (pv 0) ad)) (gK rfl (bC (av (i:=1) Jg.nd rfl (Or.inl rfl)) (bC (av (i:=2) Jg.nd rfl (Or.inl rfl)) eV)))
    (ah (aP (PW.pt (dY (au iV (pv 1) ag (aw _)) (dC (au bj (ax aJ (pv 2) ag (fun _ _=>rfl)) aV (aw _))))) (ah (aq (pv 1))) aD)))
   (ah b5),?_⟩
  have hlen:us.length=ws.length:=Paired.length hW
  have Tb:at_ < ws.length:=cb hx
  refine⟨_,rfl,D,rfl,⟨_,Ap.of gD⟩,ku (sq:=fun H=>Ap K H D) (xs:=us) (fun i σ H3=>∃ (a b:Option V),An H H3/\i <= at_/\σ=[some (.ref D),a,b]) ⟨none,none,An.refl _,zero_le _,rfl⟩ (fun i σ H3 _ Au=>by obtain⟨_,_,s,_⟩:=Au;exact Ap.of (s _ _ gD)) ?_ ?_⟩
  ·rintro i v qa σ H3 hv ⟨a,b,s3,hi,rfl⟩ hqa
   have WV:i < ws.length:=by have:=cb hv;omega
   have Kb:=getElem?_eq_getElem WV
   obtain⟨v',BJ,u,rfl,gu⟩:=Bd.get hW Kb
   rw[hv]at BJ
   cases BJ
   have s4:An H3 (upd H3 qa (.tup [.int i, .ref u])):=(An.refl H3).new hqa
   refine⟨qa,_,rfl,Ay.of ac,rfl,_,_,rfl,_,_,rfl,rfl,?_⟩
   generalize upd H3 qa (.tup [.int i, .ref u])=H4 at s4 ⊢
   have EN:=s3.trans s4
   refine⟨_,rfl,_,_,rfl,rfl,_,rfl,?_⟩
   by_cases hi0:i=0
   ·subst hi0
    exact aE (aE ⟨_,_,EN,by omega,rfl⟩)
   rw[decide_eq_true (show (0:Int) < (i:Int) by omega)]
   refine aL ⟨_,rfl,u,_,0,_,rfl,rfl,Ap.of (EN _ _ gu),mJ (Bj _ (getElem_mem WV)),rfl,_,rfl,?_⟩
   by_cases he:i=at_
   ·subst he
    rw[Kb]at hx
    cases hx
    rw[hxr]
    exact aL ⟨_,rfl,q H4 EN⟩
   ·rw[JX i _ Kb (by omega)]
    exact aE ⟨_,_,EN,by omega,rfl⟩
  ·rintro σ H3 ⟨a,b,s3,hi,rfl⟩
   omega
noncomputable def j5 (P:Program)(w:World)(K:Frag)(c:Cs)(ts:Ts)(ys:Ys):Sp:=fun vs H Q _=>∃ (D:Addr)(us:List V)(n:Nat)(ps:List (Int × Int))(rs:List Rw)(rm:List Nat)(ds:List Dd)(s:YS)(ex:List Addr),vs=[.ref D]/\H D=some (.lst us)/\Bd H us (yW n ps (aI rs) rm ds)/\Bb n ps rs rm ds s/\(∀ b ∈ ex,∃ xs,H b=some (.lst xs)) /\
 ∀ (a:YA)(H':Hp),a.ps=ps->a.wy=kG rs->a.n=n->An H H'->(∀ z ∈ a.four,H z=none)->C4 K c ts.told (A0 P w ts) (yx ys ex) H' a s->Br a s->Q (.ref a.y) H'
abbrev WW:List Str:=["rows", "at", "yard", "words"]
theorem Bd.take {H:Hp}:∀ {vs:List V}{ws:List (List Str)}(k:Nat),Bd H vs ws->Bd H (vs.take k) (ws.take k)
 | _,_,0,_ => .nil
 | _,_,_ + 1, .nil => .nil
 | _,_,k + 1, .cons h r => .cons h (Bd.take k r)
theorem Bd.drop {H:Hp}:∀ {vs:List V}{ws:List (List Str)}(k:Nat),Bd H vs ws->Bd H (vs.drop k) (ws.drop k)
 | _,_,0,h=>h
 | _,_,_ + 1, .nil => .nil
 | _,_,k + 1, .cons _ r=>Bd.drop k r
theorem xD (xs:List V)(k:Nat):eA xs none (some (k:Int))=xs.take k:=by
 unfold eA
 rw[HT.Dt,HT.BN]
 show List.take (min k xs.length - 0) (List.drop 0 xs)=_
 rw[drop_zero,Nat.sub_zero]
 by_cases h:k <= xs.length
 ·rw[min_eq_left h]
 ·rw[min_eq_right (by omega),take_length,take_of_length_le (by omega)]
theorem sY (xs:List V)(k:Nat):eA xs (some (k:Int)) none=xs.drop k:=by
 unfold eA
 rw[HT.Dt,HT.BN]
 by_cases h:k <= xs.length
 ·rw[min_eq_left h]
  exact take_of_length_le (by rw[List.length_drop];omega)
 ·rw[min_eq_right (by omega),List.drop_length,drop_eq_nil_of_le (by omega),List.take_nil]
theorem ju {K:Frag}{c:Cs}{TC:Addr}{J:TJ}{ys:Ys}{vs:List V}{H:Hp}{Q Q':VK}{E E':XK}(h:iR K c TC J ys vs H Q E)(m:∀ v H',Q v H'->Q' v H'):iR K c TC J ys vs H Q' E':=by
 obtain⟨y,dy,tb,lx,AL,lt,n,Az,ps,wy,rv,AH,h1,h2,h3,h4,h5,h6⟩:=h
 exact⟨y,dy,tb,lx,AL,lt,n,Az,ps,wy,rv,AH,h1,h2,h3,h4,h5,fun ok ro la le li dn H' a b c' d e f=>m _ _ (h6 ok ro la le li dn H' a b c' d e f)⟩
noncomputable def Tc (P:Program)(w:World)(K:Frag)(c:Cs)(ts:Ts)(ys:Ys)(ex:List Addr)(H:Hp)(ps:List (Int × Int))(n:Nat)(wy:Wf)(rv:List V):VK:=fun v H'=>∃ a:YA,v = .ref a.y/\a.ps=ps/\a.wy=wy/\a.n=n/\An H H'/\(∀ z ∈ a.four,H z=none)/\C4 K c ts.told (A0 P w ts) (yx ys ex) H' a (Y0 rv n)/\Br a (Y0 rv n)
noncomputable def MZ (s:Stmt):Scope:=match s with
 | .Assign _ (.Call _ [_, .ListComp _ _ sc _] _ _) _=>sc
 | _=>c8
theorem GS:ao WW ["rows"] (af ik):=L2.AQ
theorem Td:Bi WW (af ik) (MZ ((aG ik).getD 1 (.Pass ⟨0,0,0,0⟩))) [] []:=L2.B0
theorem Te:(["word"]:List Str).Nodup:=by decide +kernel
theorem sI {c:Cs}{ts:Ts}{ys:Ys}{f fa fm fn fy fe fw:Addr}{fd da dm dn dy de dw:FuncData}(F:AM K "make_yard" "make_yard" ik f fd)(W:Wy K ts.told fw dw (A0 P w ts))(ma:mg "rooms_at" = some (.ref fa))(ka:keepIn K (.ref fa)=true)(ba:Binds K da ["rows"] [])(Ga:Ao P w K mg base aA 1 fa da ["rows"] kR)
  (mm:mg "make_table" = some (.ref fm)) (km:keepIn K (.ref fm)=true) (bm:Binds K dm ["rows"] []) (Gm:Ao P w K mg base aA 7 fm dm ["rows"] (lL P w c ts)) (mn:mg "number_of" = some (.ref fn)) (kn:keepIn K (.ref fn)=true) (bn:Binds K dn ["word"] []) (Gn:Ao P w K mg base aA 1 fn dn ["word"] fB)
  (my:mg "Yard" = some (.ref ys.Aq)) (My:Mk K ys.Aq fy) (SJ:Binds K dy ["self", "table", "rooms"] []) (Gy:∀ ex,Ao P w K mg base aA 4 fy dy ["self", "table", "rooms"] (iR K c ts.told (A0 P w ts) (yx ys ex)))
  (me:mg "do_deed" = some (.ref fe)) (ke:keepIn K (.ref fe)=true) (be:Binds K de ["yard", "words"] []) (Ge:∀ ex,Ao P w K mg base aA 9 fe de ["yard", "words"] (p6 P w K c ts (yx ys ex))):Ao P w K mg base aA 10 f fd ["rows"] (j5 P w K c ts ys):=by
 refine F.ok GS (fun vs H Q E h=>?_) (fun cdv A outer s0 H vs Q E hr h=>?_)
 ·obtain⟨D,us,n,ps,rs,rm,ds,s,ex,rfl,_⟩:=h
  rfl
 ·obtain⟨D,us,n,ps,rs,rm,ds,s,ex,rfl,gD,hW,hP,hex,q⟩:=h
  have AY:Ax 1 _:=hr.mono (by decide)
  have GL:Ax 5 _:=hr.mono (by decide)
  have EO:Ax 7 _:=hr.mono (by decide)
  refine⟨_,ae (aC (i:=1) GS.nd rfl (Or.inl rfl) (ap Ga AY rfl ma ka ba .nil al (aa (pv 0) ad)))
   (ae (aC (i:=2) GS.nd rfl (Or.inl rfl) (eW (c7 My (Gy ex) GL rfl my SJ .nil al (aa (ap Gm EO rfl mm km bm .nil al (aa (cx dB (pv 0) dD (c6 (pv 1))) ad)) (aa (aS (own:=["word"]) (capN:=[]) (cap:=[]) Td rfl (aR (cx dB (ax aJ (pv 0) (pv 1) (fun _ _=>rfl)) (c6 ag) dD))
     (fun C s' H' fp=>⟨av (i:=0) Te rfl (Or.inl rfl),bc,ap Gn AY rfl mn kn bn .nil al (aa (pv 0) ad)⟩)) ad)))))
   (ae (bN PassesOwn.never rfl (aR (cx dB (pv 0) (c6 (aB bR (pv 1) ag)) dD)) (av (i:=3) GS.nd rfl (Or.inl rfl))
    (ah (aN (ap (Ge ex) hr rfl me ke be .nil al (aa (pv 2) (aa (pv 3) ad))))))
   (ah (aq (pv 2))))),?_⟩
  have hT:=cE hP.fit
  have E8:=lD hT hP.Ba
  obtain⟨l1,_⟩:=eE hP.DF.2 hP.Ba hP.pairs E8
  rw[qS hT,length_map]at l1
  have HX:=hP.many
  have ey:yW n ps (aI rs) rm ds=cX n ps (aI rs) ++ ([cM rm] ++ ds.map ot):=by unfold yW;rw[append_assoc]
  have E7:0 < (cX n ps (aI rs)).length:=by unfold cX;simp
  have WX:=heads (n:=n) (ps:=ps) (wy:=aI rs)
  have Bj:=fun y hy=>(jv hP y hy).1
  rw[ey]at hW Bj
  generalize WY:cX n ps (aI rs)=tw at hW Bj l1 E7 WX
  have Tb:(tw ++ ([cM rm] ++ ds.map ot))[tw.length]? = some (cM rm):=by rw[getElem?_append_right (le_refl _),Nat.sub_self];rfl
  refine⟨_,rfl,D,us,_,tw.length,cM rm,rfl,gD,hW,E7,Tb,rfl,(fun j y hj Bg=>?_),Bj,fun H1 s1=>?_⟩
  ·rw[getElem?_append_left Bg]at hj
   exact WX y (mem_of_getElem? hj)
  have gD1:=s1 _ _ gD
  refine⟨Tc P w K c ts ys ex H ps n (kG rs) (nV rm),?_,?_⟩
  ·refine⟨_,rfl,_,rfl,(tw.length:Int),rfl,D,us,rfl,Ap.of gD1,fun p hp=>?_⟩
   rw[xD]
   have s2:=s1.new (o := .lst (us.take tw.length)) hp
   have g2:(upd H1 p (.lst (us.take tw.length))) p=some (.lst (us.take tw.length)):=ac
   have Kd:Bd H (us.take tw.length) tw:=by
    have:=Bd.take tw.length hW
    rw[List.take_left]at this
    exact this
   generalize upd H1 p (.lst (us.take tw.length))=H2 at s2 g2 ⊢
   refine⟨p,_,n,ps,aI rs,rfl,g2,(by rw[WY];exact Bd.same s2 Kd),hP.DF,hP.Ba,hP.Jf,hT,(by rw[WY];exact l1),fun x lx AL lt Az H3 s3 ER=>?_⟩
   rw[wf hP.fit]at ER
   have Jh:=s2.trans s3
   obtain⟨u,hu,ar,rfl,gar⟩:=Bd.get hW Tb
   refine⟨_,rfl,_,rfl,D,us,(tw.length:Int),_,rfl,rfl,Ap.of (Jh _ _ gD),ak hu,1,rfl,ar,_,rfl,Ap.of (Jh _ _ gar),fun p2 JT=>?_⟩
   have ec:eA ((cM rm).map V.str) (some 1) none=(rm.map aU).map V.str:=i0 1 [V.str (Str.ofString "rooms")] _ rfl
   rw[ec]
   have s4:=Jh.new (o := .lst ((rm.map aU).map V.str)) JT
   have DJ:=(An.refl H3).new (o := .lst ((rm.map aU).map V.str)) JT
   have g4:(upd H3 p2 (.lst ((rm.map aU).map V.str))) p2=some (.lst ((rm.map aU).map V.str)):=ac
   refine⟨p2,rfl,⟨_,Ap.of g4⟩,?_⟩
   dsimp only
   generalize upd H3 p2 (.lst ((rm.map aU).map V.str))=H4 at s4 DJ g4 ⊢
   have CI:=hP.HZ
   have hfw:=hP.Ba
   refine aX rm.length (by rw[sizeLine_eq];omega) (fun i acc H'=>An H4 H'/\acc=nV (rm.take i)) ⟨An.refl _,rfl⟩ (fun i acc H' h=>by rw[h.2,du];exact length_take_le _ _) (fun i acc H' hi h=>?_) (fun acc H' h=>?_)
   ·obtain⟨s5,rfl⟩:=h
    have hri:=getElem?_eq_getElem hi
    refine⟨⟨_,V.str (aU rm[i]),Ap.of (s5 _ _ g4),by rw[getElem?_map,getElem?_map,hri];rfl⟩,fun v H6 y=>?_⟩
    obtain⟨rfl,y⟩:=y
    have hv:=y _ (Ap.of (s5 _ _ g4))
    rw[getElem?_map,getElem?_map,hri]at hv
    cases hv
    refine⟨_,rfl,rm[i],rfl,lt_of_le_of_lt (hP.Ki _ (getElem_mem hi)).2 (by decide),fun H7 s7=>⟨s5.trans s7,?_⟩⟩
    rw[take_succ,hri,vi]
    rfl
   obtain⟨s5,rfl⟩:=h
   rw[take_length]
   refine⟨⟨_,Ap.of (s5 _ _ g4),by rw[length_map,length_map];exact le_refl _⟩,fun ra Pa=>?_⟩
   have s6:=(s4.trans s5).new (o := .lst (nV rm)) Pa
   have F0:=(DJ.trans s5).new (o := .lst (nV rm)) Pa
   have g6:(upd H' ra (.lst (nV rm))) ra=some (.lst (nV rm)):=ac
   generalize upd H' ra (.lst (nV rm))=H6 at s6 F0 g6 ⊢
   have ez:nV rm=(iz rm).map V.int:=m8 rm
   intro y dy ny GO GP
   refine ju (q5 (P:=P) (w:=w) (E:=fun _ _ _=>False) W (ER.keep W (An.AF F0)) (fun p g k=>le_trans (oT (fun r hr k hk=>lt_of_lt_of_le (gO ((hP.fit.lanes r hr).1 k hk)) hP.Ba) p g k).2 (by decide)) hP.Jf (by rw[← ez];exact Ap.of g6) (by unfold iz;rw[length_map];exact hP.HZ) (fun r hr=>by obtain⟨k,hk,rfl⟩:=Bq.mp hr;have:=hP.Ki k hk;omega) hP.Ba (fun b hb=>let ⟨xs,hz⟩:=hex b hb; ⟨xs,s6 _ _ hz⟩) y dy ny GO GP) ?_
   rintro v H7 ⟨rfl,a,e1,e2,e3,e4,e5,s7,DL,Dc,hJ⟩
   rw[← ez]at Dc hJ
   exact⟨rfl,a,e1,e3,e5,e4,s6.trans s7,fun z hz=>s6.free (DL z hz),Dc,hJ⟩
  rintro _ H2 ⟨a,rfl,e1,e2,e3,s2,DL,Dc,hJ⟩
  have gD2:=s2 _ _ gD
  refine⟨_,rfl,_,rfl,_,_,rfl,rfl,(tw.length:Int) + 1,rfl,D,us,rfl,Ap.of gD2,fun sl OB=>?_⟩
  rw[show((tw.length:Int) + 1)=((tw.length + 1:Nat):Int) from rfl,sY]
  have Tf:Bd H (us.drop (tw.length + 1)) (ds.map ot):=by
   have ed:(tw ++ ([cM rm] ++ ds.map ot)).drop (tw.length + 1)=ds.map ot:=by
    rw[List.drop_append,drop_eq_nil_of_le (le_succ _),Nat.add_sub_cancel_left]
    rfl
   have:=Bd.drop (tw.length + 1) hW
   rw[ed]at this
   exact this
  generalize us.drop (tw.length + 1)=Ji at Tf ⊢
  have s3:=s2.new (o := .lst Ji) OB
  have Fz:=(An.refl H2).new (o := .lst Ji) OB
  have g3:(upd H2 sl (.lst Ji)) sl=some (.lst Ji):=ac
  have Tg:sl ∉ a.four:=jS Dc.Y OB
  generalize upd H2 sl (.lst Ji)=H3 at s3 Fz g3 ⊢
  refine⟨sl,rfl,⟨_,Ap.of g3⟩,?_⟩
  have DZ:=Dc.same W Fz
  obtain⟨a0,f1,f2,f3,ES⟩:=hP.MW
  have ES:C0 a (nV rm) ds s:=ES.to (by rw[e1,f1]) (by rw[e2,f2]) (by rw[e3,f3])
  have GU:Br a (Y0 (nV rm) a.n):=by rw[e3];exact hJ
  have HV:Ji.length=ds.length:=by rw[Paired.length Tf,length_map]
  refine fN (K:=K) (a:=sl) (xs:=Ji) (fun i σ H'=>∃ (t:YS)(a3:Option V),AA a.four H3 H'/\Bf K (yx ys ex) H' a t/\C0 a (nV rm) (ds.take i) t/\σ=[some (.ref D),some (.int (tw.length:Nat)),some (.ref a.y),a3])
   ⟨_,none,An.AW (An.refl _),DZ.Y,by rw[List.take_zero,← e3];exact .nil,rfl⟩ (fun i σ H' _ Au=>by obtain⟨_,_,o,_⟩:=Au;exact Ap.of (o _ _ Tg g3)) ?_ ?_
  ·rintro i v σ H' hv ⟨t,a3,o,hY,ht,rfl⟩
   have hi:i < ds.length:=by have:=cb hv;omega
   have hdi:=getElem?_eq_getElem hi
   obtain⟨v',BJ,u,rfl,gu⟩:=Bd.get Tf (show(ds.map ot)[i]? = some (ot ds[i]) by rw[getElem?_map,hdi];rfl)
   rw[hv]at BJ
   cases BJ
   have hu4:u ∉ a.four:=fun z=>by rw[DL u z]at gu;cases gu
   obtain⟨t',h1,hL⟩:=ES.at hdi
   have:=h1.det ht
   subst this
   have Na:=ht.DK GU
   have Cd:t'.done.length <= 100:=by rw[ht.done.1,length_map,length_take];omega
   have kp:=AA.AF (fun z hz=>DZ.Y.Bw z hz) o
   have BS:ds.take (i + 1)=ds.take i ++ [ds[i]]:=by rw[take_succ,hdi];rfl
   refine⟨_,rfl,_,rfl,a,t',u,ds[i],rfl,⟨hY,DZ.T.keep W kp,DZ.O,Na.ok⟩,o _ _ hu4 (s3 _ _ gu),hL,hP.GR _ (getElem_mem hi),Na.OQ (by omega),by omega,fun H'' s' st off GI=>?_⟩
   exact⟨s',_,o.trans off,GI,by rw[BS];exact .cons ht hL st,rfl⟩
  ·rintro σ H' ⟨t,a3,o,hY,ht,rfl⟩
   rw[HV,take_length]at ht
   have:=ht.det ES
   subst this
   have kp:=AA.AF (fun z hz=>DZ.Y.Bw z hz) o
   have Na:=ht.DK GU
   exact⟨_,rfl,q a H' e1 e2 e3 (uj s3 o DL) DL ⟨hY,DZ.T.keep W kp,DZ.O,Na.ok⟩ Na⟩
noncomputable def gG (P:Program)(w:World)(K:Frag)(c:Cs)(ts:Ts)(ys:Ys):Sp:=fun vs H Q _=>∃ (n:Nat)(ps:List (Int × Int))(rs:List Rw)(rm:List Nat)(ds:List Dd)(s:YS)(ex:List Addr),vs=[.str (yT n ps (aI rs) s)]/\Bb n ps rs rm ds s/\(∀ b ∈ ex,∃ xs,H b=some (.lst xs)) /\
 ∀ (a:YA)(H':Hp),a.ps=ps->a.wy=kG rs->a.n=n->An H H'->(∀ z ∈ a.four,H z=none)->C4 K c ts.told (A0 P w ts) (yx ys ex) H' a s->Br a s->Q (.ref a.y) H'
theorem F2:ao ["text", "rows", "yard"] ["text"] (af iA):=L2.AQ
theorem nJ {c:Cs}{ts:Ts}{ys:Ys}{f fr fm ft fw:Addr}{fd dr dm dt dw:FuncData}(F:AM K "read_yard" "read_yard" iA f fd)(W:Wy K ts.told fw dw (A0 P w ts))(mr:mg "rows_of" = some (.ref fr))(kr:keepIn K (.ref fr)=true)(br:Binds K dr ["text"] [])(Gr:Ao P w K mg base aA 2 fr dr ["text"] nc)
  (mm:mg "make_yard" = some (.ref fm)) (km:keepIn K (.ref fm)=true) (bm:Binds K dm ["rows"] []) (Gm:Ao P w K mg base aA 10 fm dm ["rows"] (j5 P w K c ts ys)) (mt:mg "yard_text" = some (.ref ft)) (kt:keepIn K (.ref ft)=true) (bt:Binds K dt ["yard"] []) (Gt:∀ ex,Ao P w K mg base aA 6 ft dt ["yard"] (gY P w K c ts (yx ys ex))) :
  Ao P w K mg base aA 11 f fd ["text"] (gG P w K c ts ys):=by
 refine F.ok F2 (fun vs H Q E h=>?_) (fun cdv A outer s0 H vs Q E hr h=>?_)
 ·obtain⟨n,ps,rs,rm,ds,s,ex,rfl,_⟩:=h
  rfl
 ·obtain⟨n,ps,rs,rm,ds,s,ex,rfl,hP,hex,q⟩:=h
  have Bu:Ax 2 _:=hr.mono (by decide)
  have Fu:Ax 6 _:=hr.mono (by decide)
  refine⟨_,ae (aC (i:=1) F2.nd rfl (Or.inl rfl) (ap Gr Bu rfl mr kr br .nil al (aa (pv 0) ad)))
   (ae (uB (fun _ _ z=>z) (ah (aC (i:=2) F2.nd rfl (Or.inl rfl) (ap Gm hr rfl mm km bm .nil al (aa (pv 1) ad)))))
   (ae (aP (au jQ (ap (Gt ex) Fu rfl mt kt bt .nil al (aa (pv 2) ad)) (pv 0) (aw _)) (ah b5) aD)
   (ah (aq (pv 2))))),?_⟩
  obtain⟨c1,c2⟩:=MX hP
  obtain⟨l0,l1,l2⟩:=MY hP
  refine⟨_,rfl,_,rfl,l0,?_⟩
  rw[c1,c2]
  refine⟨by omega,fun r Cp=>⟨le_trans (l2 r Cp) (by decide),?_⟩,fun D us H1 s1 gD hW=>?_⟩
  ·have hm:Txt.split r blank ∈ yW n ps (aI rs) rm ds:=by rw[← c2];exact mem_map.mpr ⟨r,Cp,rfl⟩
   exact le_trans (jv hP _ hm).2.2 (by decide)
  refine⟨_,rfl,D,us,n,ps,rs,rm,ds,s,ex,rfl,gD,hW,hP,(fun b hb=>let ⟨xs,hz⟩:=hex b hb; ⟨xs,s1 _ _ hz⟩),fun a H2 e1 e2 e3 s2 DL Dc hJ=>?_⟩
  refine⟨_,rfl,a,s,rs,rfl,Dc,e2,(by rw[e1,e3];exact cE hP.fit),(by rw[e1,e3];exact hP.Jf),hP.Ia,fun H3 s3=>⟨_,rfl,rfl,_,rfl,?_⟩⟩
  rw[e1,e3,decide_eq_true rfl]
  exact aE ⟨_,rfl,q a H3 e1 e2 e3 (s1.trans (s2.trans s3)) (fun z hz=>s1.free (DL z hz)) (Dc.same W s3) hJ⟩
noncomputable def tX (K:Frag):Sp:=fun vs H Q _=>∃ (a:Addr)(ns:List Int),vs=[.ref a]/\Ap K H a (ns.map V.int) /\
 ∀ (t l:Addr)(n:Nat)(AB:List V)(ps:List (Int × Int))(H':Hp),An H H'->H' t=some (.tup [.int n, .ref l])->H' l=some (.lst AB)->AN H' AB ps->ps.length <= 40->(2 <= n/\n <= 12)->(∀ q ∈ ps,gR n q=true)->Q (.ref t) H'
noncomputable def tQ (K:Frag):Sp:=fun vs H Q _=>∃ (a l:Addr)(ns:List Int)(n:Nat)(AB:List V)(ps:List (Int × Int)),vs=[.ref a, .int n, .ref l]/\Ap K H a (ns.map V.int)/\H l=some (.lst AB)/\AN H AB ps/\ps.length <= 40/\(2 <= n/\n <= 12) /\
 ∀ (D:Addr)(AH:List V)(rs:List Rw)(H':Hp),An H H'->H' D=some (.lst AH)->By H' AH rs->CZ n ps rs->rs.length <= 10000->Q (.ref D) H'
abbrev NLd:List Str:=["_law_script", "_law_places", "_law_lanes", "_law_k", "_law_draw_here"]
abbrev Nb:List Str:=["_law_script", "_law_places", "_law_lanes", "_law_rising", "_law_rows_here", "_law_place", "_law_begin", "_law_cames", "_law_goal", "_law_came", "_law_draw_here", "_law_some"]
noncomputable def yR (i:Nat):Stmt:=(jq ((aG iS).getD 2 (.Pass ⟨0,0,0,0⟩))).getD i (.Pass ⟨0,0,0,0⟩)
noncomputable def Nc (i:Nat):Stmt:=(jq ((jq (yR 2)).getD 0 (.Pass ⟨0,0,0,0⟩))).getD i (.Pass ⟨0,0,0,0⟩)
noncomputable def Th (s:Stmt):Stmt:=match s with
 | .If _ (b :: _) _ _=>b
 | _ => .Pass ⟨0,0,0,0⟩
theorem F3:ao NLd ["_law_script"] (af uz):=L2.AQ
theorem xg {f fd:Addr}{df dd:FuncData}(F:AM K "_law_land" "_law_land" uz f df)(T:Txt mg)(md:mg "_law_draw" = some (.ref fd))(kd:keepIn K (.ref fd)=true)(bd:Binds K dd ["_law_script", "_law_k"] [])
  (Gd:Ao P w K mg base aA 1 fd dd ["_law_script", "_law_k"] (hZ K)):Ao P w K mg base aA 2 f df ["_law_script"] (tX K):=by
 refine F.ok F3 (fun _ _ _ _ h=>?_) (fun _ _ _ s H _ Q E hr h=>?_)
 ·obtain⟨a,ns,rfl,_⟩:=h
  rfl
 ·obtain⟨a,ns,rfl,hS,q⟩:=h
  have AY:Ax 1 _:=hr.mono (by decide)
  refine⟨_,ae (aC (i:=1) F3.nd rfl (Or.inl rfl) (aB bR ag (aB bA (ap Gd AY rfl md kd bd .nil al (aa (pv 0) (aa ag ad))) ag)))
   (ae (aC (i:=2) F3.nd rfl (Or.inl rfl) (aO ad))
   (ae (bN PassesOwn.never rfl (aT rfl T.range (aa (aB bA (ap Gd AY rfl md kd bd .nil al (aa (pv 0) (aa ag ad))) ag) ad)) (av (i:=3) F3.nd rfl (Or.inl rfl))
    (ae (aC (i:=4) F3.nd rfl (Or.inl rfl) (ap Gd AY rfl md kd bd .nil al (aa (pv 0) (aa (aB bR ag (pv 3)) ad))))
    (ah (aN (bJ plainAttrs_list PySem.F.slot_list_append PySem.F.type_list_append bG (pv 2) (aa (bI (aa (aB bA (pv 4) (pv 1))
     (aa (aB bA (aB bR (aB bR (aB bA (pv 4) (pv 1)) ag) (aB bA (aB dE (pv 4) ag) (aB e6 (pv 1) ag))) (pv 1)) ad))) ad))))))
   (ah (aq (bI (aa (pv 1) (aa (pv 2) ad))))))),?_⟩
  refine⟨_,rfl,a,ns,0,rfl,hS,by decide,by decide,fun d0 H0 s0 _=>⟨_,_,rfl,rfl,(by show (0:Int) < 4;decide),_,_,rfl,rfl,?_⟩⟩
  obtain⟨n,hn,Il⟩:∃ n:Nat,(2:Int) + d0 % 4=(n:Int)/\2 <= n/\n <= 12:=⟨(2 + d0 % 4).toNat,by omega,by omega,by omega⟩
  show cz 1 (V.int (2 + d0 % 4)) _ _ _
  rw[hn]
  refine⟨zero_le _,fun l hl=>?_⟩
  have s6:=s0.new (o := .lst []) hl
  have g6:(upd H0 l (.lst [])) l=some (.lst []):=ac
  have hHl:H l=none:=s0.free hl
  show cz 2 (V.ref l) _ (upd H0 l (.lst [])) _
  generalize upd H0 l (.lst [])=H6 at s6 g6 ⊢
  have h1:2 <= n:=Il.1
  refine⟨_,rfl,a,ns,1,rfl,s6.seq hS,by decide,by decide,fun d1 H7 WZ _=>⟨_,_,rfl,rfl,(by show (0:Int) < 11;decide),?_⟩⟩
  obtain⟨m,hm,Rj⟩:∃ m:Nat,d1 % 11=(m:Int)/\m <= 40:=⟨(d1 % 11).toNat,by omega,by omega⟩
  refine⟨d1 % 11,rfl,by omega,by omega,?_⟩
  rw[show(d1 % 11).toNat=m by omega]
  refine bH (n:=m) (fun i σ H3=>∃ (a1 a2:Option V)(AB:List V)(ps:List (Int × Int)),An H H3/\H3 l=some (.lst AB)/\AN H3 AB ps/\ps.length=i/\(∀ q ∈ ps,gR n q=true)/\σ=[some (.ref a),some (.int n),some (.ref l),a1,a2])
   ⟨none,none,[],[],s6.trans WZ,WZ _ _ g6, .nil,rfl,(fun q hq=>by cases hq),rfl⟩ ?_ ?_
  ·rintro i σ H3 hi ⟨a1,a2,AB,ps,s7,g3,HM,hlen,AD,rfl⟩
   refine⟨_,rfl,_,rfl,_,_,rfl,rfl,a,ns,_,rfl,s7.seq hS,by omega,by omega,fun d H4 s8 _=>?_⟩
   have Nd:0 <= d % (n:Int)/\d % (n:Int) < n:=⟨emod_nonneg _ (by omega),emod_lt_of_pos _ (by omega)⟩
   have Ib:0 <= d / 16 % ((n:Int) - 1)/\d / 16 % ((n:Int) - 1) < (n:Int) - 1:=⟨emod_nonneg _ (by omega),emod_lt_of_pos _ (by omega)⟩
   have np:(0:Int) < (n:Int):=by omega
   refine⟨_,rfl, .inl ⟨rfl,_,Ap.of (s8 _ _ g3)⟩,_,rfl,_,rfl,_,_,rfl,rfl,np,_,rfl,_,rfl,_,_,rfl,rfl,np,_,_,rfl,rfl,_,rfl,_,_,rfl,rfl,⟨by decide,by decide⟩,_,rfl,_,_,rfl,rfl,_,_,rfl,rfl,(by show (0:Int) < (n:Int) - 1;omega),_,_,rfl,rfl,_,rfl,_,_,rfl,rfl,np,?_⟩
   refine⟨by show 2 <= sizeLine;decide,fun t ht=>?_⟩
   have s9:=s8.new (o := .tup [.int (d % (n:Int)), .int ((d % (n:Int) + 1 + d / 16 % ((n:Int) - 1)) % (n:Int))]) ht
   have CA:AB.length=ps.length:=Paired.length HM
   refine⟨l,AB,_,rfl,rfl,s9 _ _ g3,by rw[sizeLine_eq];omega,?_⟩
   have nlt:l ≠ t:=aj (s8 _ _ g3) ht
   refine⟨_,_,AB ++ [.ref t],ps ++ [(d % (n:Int),(d % (n:Int) + 1 + d / 16 % ((n:Int) - 1)) % (n:Int))],fun b o e=>?_,ac,?_,by rw[length_append,hlen];rfl,fun q hq=>?_,rfl⟩
   ·rw[ai (aj e hHl)];exact s9 _ _ (s7 _ _ e)
   ·refine AN.snoc ⟨t,rfl,by rw[ai (Ne.symm nlt)];exact ac⟩ ?_
    have z:AN _ AB ps:=AN.same s9 HM
    exact xx (s9 _ _ g3) z
   ·rcases mem_append.mp hq with z | z
    ·exact AD q z
    ·rw[mem_singleton.mp z];exact vb Nd.1 Nd.2 Ib.1 Ib.2
  ·rintro σ H3 ⟨a1,a2,AB,ps,s7,g3,HM,hlen,AD,rfl⟩
   refine⟨_,rfl,_,rfl,by show 2 <= sizeLine;decide,fun t ht=>?_⟩
   have s8:=(An.refl H3).new (o := .tup [.int n, .ref l]) ht
   exact q t l n AB ps _ (s7.trans s8) ac (s8 _ _ g3) (AN.same s8 HM) (by omega) Il AD
theorem C1:ao Nb ["_law_script", "_law_places", "_law_lanes"] (af iS):=L2.AQ
theorem Nf:Bi Nb (af iS) (eO (yR 0)) ["_law_lanes", "_law_place"] [2,5]:=L2.B0
theorem Ng:Bi Nb (af iS) (vM (yR 1)) ["_law_lanes", "_law_place"] [2,5]:=L2.B0
theorem Nh:Bi Nb (af iS) (eO (Nc 1)) ["_law_draw_here"] [10]:=L2.B0
theorem Ni:Bi Nb (af iS) (eO (Th (Nc 2))) ["_law_came"] [9]:=L2.B0
theorem Xa:(["_law_k", "_law_lanes", "_law_place"]:List Str).Nodup:=by decide +kernel
theorem Ti:(["_law_k", "_law_draw_here"]:List Str).Nodup:=by decide +kernel
theorem Tj:(["_law_k", "_law_came"]:List Str).Nodup:=by decide +kernel
theorem wU {f fd:Addr}{df dd:FuncData}(F:AM K "_law_rows" "_law_rows" iS f df)(T:Txt mg)(md:mg "_law_draw" = some (.ref fd))(kd:keepIn K (.ref fd)=true)(bd:Binds K dd ["_law_script", "_law_k"] [])
  (Gd:Ao P w K mg base aA 1 fd dd ["_law_script", "_law_k"] (hZ K)):Ao P w K mg base aA 2 f df ["_law_script", "_law_places", "_law_lanes"] (tQ K):=by
 refine F.ok C1 (fun _ _ _ _ h=>?_) (fun _ _ _ s H _ Q E hr h=>?_)
 ·obtain⟨a,l,ns,n,AB,ps,rfl,_⟩:=h
  rfl
 ·obtain⟨a,l,ns,n,AB,ps,rfl,hS,hl,Ff,Be,hn,q⟩:=h
  have AY:Ax 1 _:=hr.mono (by decide)
  refine⟨_,ae (aC (i:=3) C1.nd rfl (Or.inl rfl) (cj iV (aB bA (ap Gd AY rfl md kd bd .nil al (aa (pv 0) (aa ag ad))) ag) ag (aw _)))
   (ae (aC (i:=4) C1.nd rfl (Or.inl rfl) (aO ad))
   (ae (bN PassesOwn.never rfl (aT rfl T.range (aa (pv 1) ad)) (av (i:=5) C1.nd rfl (Or.inr rfl))
    (ae (bZ (i:=6) (own:=["_law_k"]) (capN:=["_law_lanes", "_law_place"]) (cap:=[2,5]) Nf rfl C1.nd rfl rfl (aT rfl T.range (aa (az ay rfl T.len PySem.boot_len (aa (pv 2) ad)) ad))
     (fun C s' H' fp=>⟨av (i:=0) Xa rfl (Or.inl rfl),ci (au bj (ax (show kE _ (iC K) from aF) (ax (show kE _ (lY K) from aJ) (pv 1) (pv 0) (fun _ _=>rfl)) ag (fun _ _=>rfl)) (pv 2) (aw _)),pv 0⟩))
    (ae (aC (i:=7) C1.nd rfl (Or.inl rfl) (aB jR (aO (aa bQ ad)) (aS (own:=["_law_k"]) (capN:=["_law_lanes", "_law_place"]) (cap:=[2,5]) Ng rfl (aT rfl T.range (aa (az ay rfl T.len PySem.boot_len (aa (pv 2) ad)) ad))
     (fun C s' H' fp=>⟨av (i:=0) Xa rfl (Or.inl rfl),ci (au bj (ax (show kE _ (iC K) from aF) (ax (show kE _ (lY K) from aJ) (pv 1) (pv 0) (fun _ _=>rfl)) ag (fun _ _=>rfl)) (pv 2) (aw _)),pv 0⟩))))
    (ah (bN PassesOwn.never rfl (aT rfl T.range (aa (pv 1) ad)) (av (i:=8) C1.nd rfl (Or.inl rfl))
     (ah (bN PassesOwn.never rfl (aR (pv 7)) (av (i:=9) C1.nd rfl (Or.inr rfl))
      (ae (aC (i:=10) C1.nd rfl (Or.inr rfl) (ap Gd AY rfl md kd bd .nil al (aa (pv 0) (aa (aB bR ag (az ay rfl T.len PySem.boot_len (aa (pv 4) ad))) ad))))
      (ae (bZ (i:=11) (own:=["_law_k"]) (capN:=["_law_draw_here"]) (cap:=[10]) Nh rfl C1.nd rfl rfl (aR (pv 6))
       (fun C s' H' fp=>⟨av (i:=0) Ti rfl (Or.inl rfl),ci (PW.pt (eG (au bj (aB uG (aB pN (aB dE (pv 1) ag) (pv 0)) ag) ag (aw _)) (dc (au iV (aB bA (pv 1) ag) ag (aw _))))),pv 0⟩))
      (ae (jj (aP (PW.pt (dY (bF (pv 3)) (dC (au qU (pv 9) bQ (aw _)))))
       (ah (bZ (i:=11) (own:=["_law_k"]) (capN:=["_law_came"]) (cap:=[9]) Ni rfl C1.nd rfl rfl (aR (pv 11))
        (fun C s' H' fp=>⟨av (i:=0) Tj rfl (Or.inl rfl),ci (au iV (aB bA (aB fI (pv 0) ag) ag) (aB bA (aB fI (pv 1) ag) ag) (aw _)),pv 0⟩))) aD))
      (ah (aP (au jQ (pv 8) (pv 5) (aw _))
       (ah (aN (bJ plainAttrs_list PySem.F.slot_list_append PySem.F.type_list_append bG (pv 4) (aa (bI (aa (pv 5) (aa (pv 8) (aa (pv 9) (aa (pv 11) ad))))) ad)))) aD))))))))))))
   (ah (aq (pv 4))))),?_⟩
  have CA:AB.length=ps.length:=Paired.length Ff
  refine⟨_,rfl,a,ns,2,rfl,hS,by decide,by decide,fun d2 H00 Xb _=>⟨_,_,rfl,rfl,(by show (0:Int) < 3;decide),_,_,rfl,rfl,?_⟩⟩
  show cz 3 (V.bl (decide (0 < d2 % 3))) _ _ _
  generalize decide (0 < d2 % 3)=rb
  refine⟨zero_le _,fun D O7=>?_⟩
  have s0:=Xb.new (o := .lst []) O7
  have hD:H D=none:=Xb.free O7
  refine⟨_,rfl,(n:Int),rfl,by omega,by omega,?_⟩
  rw[toNat_natCast]
  refine bH (n:=n) (fun i σ H2=>∃ (a4 a5 a6 a7 a8 a9 F4:Option V)(AH:List V)(rs:List Rw),An H H2/\H2 D=some (.lst AH)/\Cg D H2 AH rs/\rs.map eY=bO ps n i/\mU ps rs/\σ=[some (.ref a),some (.int n),some (.ref l),some (.bl rb),some (.ref D),a4,a5,a6,a7,a8,a9,F4])
   ⟨none,none,none,none,none,none,none,[],[],s0,ac, .nil,rfl,(fun r hr=>by cases hr),rfl⟩ ?_ ?_
  ·rintro i σ H2 hi ⟨a4,a5,a6,a7,a8,a9,F4,AH,rs,s2,gD,hR,hk,O3,rfl⟩
   rw[zero_add]
   have AI:∀ {j:Nat}{pr:Int × Int}{H':Hp},An H H'->ps[j]? = some pr->∃ u,AB[j]? = some (.ref u)/\Ay K H' u [.int pr.1, .int pr.2]:=fun {j pr H'} s' hj=>by
    obtain⟨v,hv,u,rfl,hu⟩:=AN.ID Ff hj
    exact⟨u,hv,Ay.of (s' _ _ hu)⟩
   refine⟨_,rfl,l,_,rfl, .inl (Ap.of (s2 _ _ hl)),(AB.length:Int),rfl,by omega,by omega,?_⟩
   rw[toNat_natCast,CA]
   refine rP (sel:=Prod.fst) (pl:=(i:Int)) (by rw[sizeLine_eq];omega) (fun j acc N pr hj h=>?_) fun B hB=>?_
   ·obtain⟨u,hv,hu⟩:=AI s2 hj
    refine⟨_,rfl,_,rfl,l,AB,_,_,rfl,rfl,Ap.of (s2 _ _ hl),ak hv,u,_,0,_,rfl,rfl,hu,ak (j:=0) rfl,_,rfl,rfl,_,rfl,?_⟩
    rw[gP]
    cases hd:decide (pr.1=(i:Int)) with
    | true=>rw[hd]at h;exact aL ⟨_,rfl,h⟩
    | false=>rw[hd]at h;exact aE h
   have Fz:An H2 (upd H2 B (.lst (c5 (dM Prod.fst ps i)))):=(An.refl H2).new hB
   have gB:(upd H2 B (.lst (c5 (dM Prod.fst ps i)))) B=some (.lst (c5 (dM Prod.fst ps i))):=ac
   have nB:B ≠ D:=Ne.symm (aj gD hB)
   generalize upd H2 B (.lst (c5 (dM Prod.fst ps i)))=H3 at Fz gB ⊢
   have s3:=s2.trans Fz
   refine⟨by show 1 <= sizeLine;decide,fun o1 FN=>?_⟩
   have DJ:An H3 (upd H3 o1 (.lst [.AG])):=(An.refl H3).new FN
   have g1:(upd H3 o1 (.lst [.AG])) o1=some (.lst [.AG]):=ac
   generalize upd H3 o1 (.lst [.AG])=H4 at DJ g1 ⊢
   have s4:=s3.trans DJ
   refine⟨_,rfl,l,_,rfl, .inl (Ap.of (s4 _ _ hl)),(AB.length:Int),rfl,by omega,by omega,?_⟩
   rw[toNat_natCast,CA]
   refine rP (sel:=Prod.snd) (pl:=(i:Int)) (by rw[sizeLine_eq];omega) (fun j acc N pr hj h=>?_) fun o2 B9=>?_
   ·obtain⟨u,hv,hu⟩:=AI s4 hj
    refine⟨_,rfl,_,rfl,l,AB,_,_,rfl,rfl,Ap.of (s4 _ _ hl),ak hv,u,_,1,_,rfl,rfl,hu,ak (j:=1) rfl,_,rfl,rfl,_,rfl,?_⟩
    rw[gP]
    cases hd:decide (pr.2=(i:Int)) with
    | true=>rw[hd]at h;exact aL ⟨_,rfl,h⟩
    | false=>rw[hd]at h;exact aE h
   have DN:An H4 (upd H4 o2 (.lst (c5 (dM Prod.snd ps i)))):=(An.refl H4).new B9
   have g2:(upd H4 o2 (.lst (c5 (dM Prod.snd ps i)))) o2=some (.lst (c5 (dM Prod.snd ps i))):=ac
   generalize upd H4 o2 (.lst (c5 (dM Prod.snd ps i)))=H5 at DN g2 ⊢
   have Ej:(c5 (dM Prod.snd ps i)).length <= 40:=by unfold c5;rw[length_map];have:=jo Prod.snd ps (i:Int);omega
   refine⟨o1,o2,_,_,rfl,rfl,DN _ _ g1,g2,by rw[sizeLine_eq];simp only[length_singleton];omega,fun C hC=>?_⟩
   rw[vN]
   have FH:An H5 (upd H5 C (.lst ((bS ps i).map cV))):=(An.refl H5).new hC
   have gC:(upd H5 C (.lst ((bS ps i).map cV))) C=some (.lst ((bS ps i).map cV)):=ac
   have Xc:=(Fz.trans DJ).trans DN
   have nC:C ≠ D:=Ne.symm (aj (Xc _ _ gD) hC)
   generalize upd H5 C (.lst ((bS ps i).map cV))=H6 at FH gC ⊢
   have Tn:=Xc.trans FH
   have gB6:=FH _ _ (DN _ _ (DJ _ _ gB))
   have s6:=s2.trans Tn
   refine⟨_,rfl,(n:Int),rfl,by omega,by omega,?_⟩
   rw[toNat_natCast]
   refine bH (n:=n) (fun j σ H7=>∃ (a7 a8 a9 F4:Option V)(AH:List V)(rs:List Rw),Off D H6 H7/\H7 D=some (.lst AH)/\Cg D H7 AH rs/\rs.map eY=bO ps n i ++ cv ps j i/\mU ps rs/\σ=[some (.ref a),some (.int n),some (.ref l),some (.bl rb),some (.ref D),some (.int i),some (.ref B),some (.ref C),a7,a8,a9,F4])
    ⟨_,_,_,_,AH,rs,fun _ _ _ e=>e,Tn _ _ gD,Cg.same Tn hR,by rw[hk];simp[cv],O3,rfl⟩ ?_ ?_
   ·rintro j σ H7 hj ⟨a7,a8,a9,F4,AH,rs,GV,Tp,Tq,Tr,Jj,rfl⟩
    rw[zero_add]
    refine⟨_,rfl,C,rfl,⟨_,Ap.of (GV _ _ nC gC)⟩,?_⟩
    refine fN (K:=K) (a:=C) (xs:=(bS ps i).map cV) (fun t σ H8=>∃ (a8 a9 F4:Option V)(AH:List V)(rs:List Rw),Off D H6 H8/\H8 D=some (.lst AH)/\Cg D H8 AH rs /\
      rs.map eY=(bO ps n i ++ cv ps j i) ++ (if j=i then [] else ((bS ps i).take t).map fun c=>((i:Int),(j:Int),c))/\mU ps rs/\σ=[some (.ref a),some (.int n),some (.ref l),some (.bl rb),some (.ref D),some (.int i),some (.ref B),some (.ref C),some (.int j),a8,a9,F4])
     ⟨_,_,_,AH,rs,GV,Tp,Tq,by rw[Tr];split<;>simp,Jj,rfl⟩ (fun t σ H8 _ Au=>by obtain⟨_,_,_,_,_,CD,_⟩:=Au;exact Ap.of (CD _ _ nC gC)) ?_ ?_
    ·rintro t v σ H8 hv ⟨a8,a9,F4,AH,rs,CD,Pb,Nj,Nk,GX,rfl⟩
     rw[getElem?_map]at hv
     obtain⟨c,hc,rfl⟩:∃ c,(bS ps i)[t]? = some c/\v=cV c:=by
      cases e:(bS ps i)[t]? with
      | none=>rw[e]at hv;cases hv
      | some c=>rw[e]at hv;exact⟨c,rfl,(Option.some.inj hv).symm⟩
     have OX:t < (bS ps i).length:=(gQ0 hc)
     have HU:AH.length=rs.length:=Paired.length Nj
     have CI:rs.length <= 6500:=by
      have e1:rs.length=(rs.map eY).length:=by rw[length_map]
      rw[e1,Nk,length_append,length_append]
      obtain⟨b1,b2⟩:=j6 (ps:=ps) (n:=n) (i:=i) (j:=j) Be hn.2 (by omega) (by omega)
      have b3:(if j=i then [] else ((bS ps i).take t).map fun c=>((i:Int),(j:Int),c)).length <= 41:=by
       split
       ·exact zero_le _
       ·rw[length_map]
        have:=length_take_le t (bS ps i)
        have:=lz ps i
        rw[length_take]
        omega
      omega
     have s8:An H H8:=fun b o e=>CD b o (aj e hD) (s6 _ _ e)
     refine⟨_,rfl,_,rfl,D,_,rfl, .inl (Ap.of Pb),_,_,rfl,rfl,a,ns,_,rfl,s8.seq hS,by omega,by omega,fun d H9 s9 _=>?_⟩
     have Pc:=s9 _ _ Pb
     have Jk:Off D H6 H9:=fun b o nb e=>s9 _ _ (CD b o nb e)
     have Xd:H9 B=some (.lst (nV (dM Prod.fst ps i))):=Jk _ _ nB gB6
     have hil:=jo Prod.fst ps (i:Int)
     refine⟨_,rfl,B,rfl,⟨_,Ap.of Xd⟩,?_⟩
     refine oB (fun k:Nat=>decide (V.int (Builtin.bitAnd (d / 8 / 2 ^ ((k:Int)).toNat) 1)=V.int 1) || decide (1 < d % 4)) (by omega) Xd (fun k acc N hk h=>?_) fun S1 Pe=>?_
     ·refine⟨_,rfl,_,_,rfl,rfl,⟨by decide,by decide⟩,_,rfl,_,_,rfl,rfl,(by show (0:Int) <= (k:Int);omega),_,_,rfl,rfl,rfl,_,rfl,?_⟩
      cases e1:decide (V.int (Builtin.bitAnd (d / 8 / 2 ^ ((k:Int)).toNat) 1)=V.int 1) with
      | true=>rw[e1,Bool.true_or]at h;exact aL (aL ⟨_,rfl,h⟩)
      | false =>
       rw[e1,Bool.false_or]at h
       refine aE ⟨_,rfl,_,_,rfl,rfl,(by show (0:Int) < 4;decide),_,_,rfl,rfl,_,rfl,?_⟩
       cases e2:decide (1 < d % 4) with
       | true=>rw[e2]at h;exact aL ⟨_,rfl,h⟩
       | false=>rw[e2]at h;exact aE h
     generalize Nl:(dM Prod.fst ps (i:Int)).filter (fun k:Nat=>decide (V.int (Builtin.bitAnd (d / 8 / 2 ^ ((k:Int)).toNat) 1)=V.int 1) || decide (1 < d % 4))=D8
     have JU:∀ k ∈ D8,k ∈ dM Prod.fst ps (i:Int):=fun k hk=>by rw[← Nl]at hk;exact(mem_filter.mp hk).1
     have Fm:D8.length <= (dM Prod.fst ps (i:Int)).length:=by rw[← Nl];exact length_filter_le _ _
     have BY:=(An.refl H9).new (o := .lst (nV D8)) Pe
     have E4:(upd H9 S1 (.lst (nV D8))) S1=some (.lst (nV D8)):=ac
     show cz 11 (V.ref S1) _ (upd H9 S1 (.lst (nV D8))) _
     generalize upd H9 S1 (.lst (nV D8))=C9 at BY E4 ⊢
     refine⟨fun σ H'=>∃ U us,An H9 H'/\H9 U=none/\H' U=some (.lst (c5 us))/\(∀ k ∈ us,k ∈ dM Prod.fst ps (i:Int))/\us.length <= (dM Prod.fst ps (i:Int)).length/\σ=[some (.ref a),some (.int n),some (.ref l),some (.bl rb),some (.ref D),some (.int i),some (.ref B),some (.ref C),some (.int j),some (cV c),some (.int d),some (.ref U)],?_,?_⟩
     ·have keep:∃ U us,An H9 C9/\H9 U=none/\C9 U=some (.lst (c5 us))/\(∀ k ∈ us,k ∈ dM Prod.fst ps (i:Int))/\us.length <= (dM Prod.fst ps (i:Int)).length/\[some (V.ref a),some (.int n),some (.ref l),some (.bl rb),some (.ref D),some (.int i),some (.ref B),some (.ref C),some (.int j),some (cV c),some (.int d),some (.ref S1)]=[some (.ref a),some (.int n),some (.ref l),some (.bl rb),some (.ref D),some (.int i),some (.ref B),some (.ref C),some (.int j),some (cV c),some (.int d),some (.ref U)]:=⟨S1,D8,BY,Pe,E4,JU,Fm,rfl⟩
      refine⟨_,rfl,_,rfl,?_⟩
      cases Xe:rb with
      | false=>rw[Xe]at keep;exact aE (aE keep)
      | true =>
       rw[Xe]at keep
       refine aL ⟨_,rfl,rfl,_,rfl,?_⟩
       cases Hj:c with
       | none=>rw[Hj]at keep;exact aE keep
       | some z =>
        refine aL ⟨_,rfl,S1,rfl,⟨_,Ap.of E4⟩,?_⟩
        refine oB (fun k:Nat=>decide ((z:Int) * 7 % 11 < (k:Int) * 7 % 11)) (by omega) E4 (fun k acc N hk h=>?_) fun S2 Xf=>?_
        ·refine⟨_,rfl,_,_,rfl,rfl, .inr ⟨by decide,by decide⟩,_,_,rfl,rfl,(by show (0:Int) < 11;decide),_,rfl,_,_,rfl,rfl, .inr ⟨by decide,by decide⟩,_,_,rfl,rfl,(by show (0:Int) < 11;decide),_,_,rfl,rfl,_,rfl,?_⟩
         cases e2:decide ((z:Int) * 7 % 11 < (k:Int) * 7 % 11) with
         | true=>rw[e2]at h;exact aL ⟨_,rfl,h⟩
         | false=>rw[e2]at h;exact aE h
        refine⟨S2,_,BY.new Xf,BY.free Xf,ac,fun k hk=>JU k (mem_filter.mp hk).1,le_trans (length_filter_le _ _) Fm,rfl⟩
     rintro σ Ha ⟨U,us,sa,hU,gU,Fx,Mq,rfl⟩
     have s9a:=s9.trans sa
     have Tt:=sa _ _ Pc
     have Tu:Off D H6 Ha:=fun b o nb e=>sa _ _ (Jk b o nb e)
     refine⟨_,rfl,_,rfl,rfl,_,rfl,?_⟩
     rw[gP]
     by_cases Pf:j=i
     ·refine v7 (show (j:Int)=(i:Int) by omega) ?_
      refine⟨_,_,_,AH,rs,Tu,Tt,Cg.same s9a Nj,?_,GX,rfl⟩
      rw[Nk,if_pos Pf,if_pos Pf]
     ·rw[decide_eq_false (show ¬ (j:Int)=(i:Int) by omega)]
      refine aL ?_
      refine⟨_,rfl, .inl ⟨rfl,_,Ap.of Tt⟩,_,rfl,_,rfl,_,rfl,_,rfl,by show 4 <= sizeLine;decide,fun tt FF=>?_⟩
      have sb:=(An.refl Ha).new (o := .tup [.int i, .int j,cV c, .ref U]) FF
      have gT:(upd Ha tt (.tup [.int i, .int j,cV c, .ref U])) tt=some (.tup [.int i, .int j,cV c, .ref U]):=ac
      have nT:tt ≠ D:=Ne.symm (aj Tt FF)
      generalize upd Ha tt (.tup [.int i, .int j,cV c, .ref U])=Hb at sb gT ⊢
      have Pg:=sa.trans sb
      have s9b:=s9.trans Pg
      have nU:U ≠ D:=Ne.symm (aj Pc hU)
      refine⟨D,AH,_,rfl,rfl,Pg _ _ Pc,by rw[sizeLine_eq];omega,?_⟩
      refine⟨_,_,_,AH ++ [.ref tt],rs ++ [⟨(i:Int),(j:Int),c,us⟩],fun b o nb e=>by rw[ai nb];exact Pg _ _ (Jk b o nb e),ac,?_,?_,?_,rfl⟩
      ·refine Cg.snoc ⟨tt,U,rfl,⟨by rw[ai nT];exact gT,by rw[ai nU];exact sb _ _ gU⟩,nU⟩ ?_
       exact Cg.off (Pg _ _ Pc) (Cg.same s9b Nj)
      ·rw[map_append,Nk,if_neg Pf,if_neg Pf,take_succ,hc,map_append,append_assoc]
       rfl
      ·intro r Cp
       rcases mem_append.mp Cp with h | h
       ·exact GX r h
       ·rw[mem_singleton.mp h]
        exact⟨Fx,le_trans Mq (jo _ _ _)⟩
    ·rintro σ H8 ⟨a8,a9,F4,AH,rs,CD,Pb,Nj,Nk,GX,rfl⟩
     refine⟨_,_,_,_,AH,rs,CD,Pb,Nj,?_,GX,rfl⟩
     rw[Nk,kA,append_assoc]
     congr 2
     unfold eC
     rw[length_map,take_length]
   ·rintro σ H7 ⟨a7,a8,a9,F4,AH,rs,GV,Tp,Tq,Tr,Jj,rfl⟩
    refine⟨_,_,_,_,_,_,_,AH,rs,fun b o e=>GV b o (aj e hD) (s6 _ _ e),Tp,Tq,?_,Jj,rfl⟩
    rw[Tr,lh]
  ·rintro σ H2 ⟨a4,a5,a6,a7,a8,a9,F4,AH,rs,s2,gD,hR,hk,O3,rfl⟩
   refine⟨_,rfl,q D AH rs H2 s2 gD (Cg.rws hR) ⟨hk,O3⟩ ?_⟩
   have e1:rs.length=(rs.map eY).length:=by rw[length_map]
   rw[e1,hk]
   have:=(j6 (ps:=ps) (n:=n) (i:=n) (j:=n) Be hn.2 (le_refl _) (le_refl _)).1
   omega
noncomputable def eR (c:Int):Int:=c % (2 * 10 ^ 60 - 1) - 10 ^ 60 + 1
noncomputable def qN:Sp:=fun vs H Q _=>∃ c:Int,vs=[.int c]/\Q (.int (eR c)) H
theorem qA (c:Int):zE (.int (eR c))=true:=by
 have h1:=emod_nonneg c (b:=2 * 10 ^ 60 - 1) (by decide)
 have h2:=emod_lt_of_pos c (b:=2 * 10 ^ 60 - 1) (by decide)
 refine decide_eq_true ?_
 show(if eR c < 0 then -eR c else eR c) < 10 ^ 60
 unfold eR
 split<;>omega
noncomputable def cF (r:Rw):Bool:=decide (r.c=none) && !decide (r.s=[])
noncomputable def cD:Option Nat->PyData
 | none => .none
 | some k => .int k
noncomputable def Tv (r:Rw):PyData := .tuple [.int r.p, .int r.g,cD r.c, .list (r.s.map fun z:Nat=>PyData.int z)]
theorem zX {K:Frag}{H:Hp}(c:Option Nat):Den K H (cV c) (cD c):=by
 cases c with
 | none=>exact .AG
 | some k=>exact .int _
theorem vH {K:Frag}{H:Hp}:∀ {vs:List V}{rs:List Rw},By H vs rs->AO K H vs (rs.map Tv):=fun Au=>by
 induction Au with
 | nil=>exact .nil
 | cons zz r ih=>obtain⟨t,l,e,h1,h2⟩:=zz;exact .cons (by subst e;exact .tup (Ay.of h1) (.cons (.int _) (.cons (.int _) (.cons (zX _) (.cons (.lst (Ap.of h2) (mO _)) .nil))))) ih
theorem ww (rs:List Rw):BZ (.list (rs.map Tv)) 64:=(bX (m:=2) fun z hz=>by
 obtain⟨r,_,rfl⟩:=mem_map.mp hz
 exact cP (m:=1) fun y hy=>by
  simp only[mem_cons,not_mem_nil,or_false]at hy
  rcases hy with rfl | rfl | rfl | rfl
  ·exact(bE _).le (by decide)
  ·exact(bE _).le (by decide)
  ·cases r.c with
   | none=>exact Dy.le (by decide)
   | some k=>exact(bE _).le (by decide)
  ·exact bX (m:=0) fun x hx=>by obtain⟨k,_,rfl⟩:=mem_map.mp hx;exact bE _).le (by decide)
noncomputable def lN (P:Program)(w:World)(K:Frag)(c:Cs)(ts:Ts)(ys:Ys):Sp:=fun vs H Q _=>∃ (a:YA)(s:YS)(rl:Addr)(AH:List V)(rs:List Rw)(cell d:Int),vs=[.ref a.y, .ref rl, .int cell, .int d]/\C4 K c ts.told (A0 P w ts) ys H a s/\Br a s/\s.done.length <= 10000/\H rl=some (.lst AH)/\By H AH rs/\CZ a.n a.ps rs/\a.wy=kG rs/\rs.length <= 10000 /\
 (∀ (D:Addr)(H':Hp),An H H'->H D=none->H' D=some (.lst [])->Q (.ref D) H') /\
 (∀ (D:Addr)(H':Hp)(x:Dd)(s':YS),kD a s x->Bp a s x s'->AA a.four H H'->Bf K ys H' a s'->H D=none->H' D=some (.lst (iy x))->Q (.ref D) H')
abbrev Xg:List Str:=["_law_yard", "_law_rows_here", "_law_cell", "_law_draw_here", "_law_begin", "_law_moves", "_law_place", "_law_goal", "_law_came", "_law_some", "_law_length", "_law_move"]
theorem Nm:ao ["_law_cell"] ["_law_cell"] (af pE):=L2.AQ
theorem uR {f:Addr}{fd:FuncData}(F:AM K "_law_word" "_law_word" pE f fd):Ao P w K mg base aA 1 f fd ["_law_cell"] qN:=by
 refine F.ok Nm (fun vs H Q E h=>?_) (fun cdv A outer s0 H vs Q E hr h=>?_)
 ·obtain⟨c,rfl,_⟩:=h
  rfl
 ·obtain⟨c,rfl,q⟩:=h
  refine⟨_,ah (aq (aB bR (aB e6 (aB bA (pv 0) (aB e6 (aB fI ag (aB mj ag ag)) ag)) (aB mj ag ag)) ag)),?_⟩
  refine⟨_,rfl,_,_,rfl,rfl,⟨by decide,by decide,by decide⟩,_,_,rfl,rfl, .inl ⟨by decide,by decide⟩,_,_,rfl,rfl,_,_,rfl,rfl,(by show (0:Int) < 2 * 10 ^ 60 - 1;decide),_,_,rfl,rfl,⟨by decide,by decide,by decide⟩,_,_,rfl,rfl,_,_,rfl,rfl,q⟩
theorem De:ao Xg ["_law_yard", "_law_rows_here", "_law_cell", "_law_draw_here"] (af jJ):=L2.AQ
theorem Tw:Bi Xg (af jJ) (eO ((aG jJ).getD 0 (.Pass ⟨0,0,0,0⟩))) [] []:=L2.B0
theorem Tx:(["_law_row"]:List Str).Nodup:=by decide +kernel
theorem uT {c:Cs}{ts:Ts}{ys:Ys}{f fm fp fo fq fl fw:Addr}{fd dm dp FO dq dl dw:FuncData}(F:AM K "_law_deed" "_law_deed" jJ f fd)(T:Txt mg)(Y:gS K ys)(W:Wy K ts.told fw dw (A0 P w ts))(mm:bB K ys.Aq "moves" fm)(bm:Binds K dm ["self"] [])(Gm:Ao P w K mg base aA 7 fm dm ["self"] (hG K c ts.told (A0 P w ts) ys))
  (mp:bB K ys.Aq "post" fp) (bp:Binds K dp Ah []) (Gp:Ao P w K mg base aA 4 fp dp Ah (lJ K c ts.told (A0 P w ts) ys)) (mo:bB K ys.Aq "do" fo) (bo:Binds K FO ["self", "move"] []) (Go:Ao P w K mg base aA 8 fo FO ["self", "move"] (uc K c ts.told (A0 P w ts) ys))
  (mq:bB K ys.Aq "posted" fq) (bq:Binds K dq ["self"] []) (Gq:Ao P w K mg base aA 1 fq dq ["self"] (j3 K ys)) (ml:mg "_law_word" = some (.ref fl)) (kl:keepIn K (.ref fl)=true) (bl:Binds K dl ["_law_cell"] []) (Gl:Ao P w K mg base aA 1 fl dl ["_law_cell"] qN) :
  Ao P w K mg base aA 9 f fd ["_law_yard", "_law_rows_here", "_law_cell", "_law_draw_here"] (lN P w K c ts ys):=by
 refine F.ok De (fun vs H Q E h=>?_) (fun cdv A outer s0 H vs Q E hr h=>?_)
 ·obtain⟨a,s,rl,AH,rs,cell,d,rfl,_⟩:=h
  rfl
 ·obtain⟨a,s,rl,AH,rs,cell,d,rfl,hI,hJ,Cd,Jl,hR,AD,SR,CI,q0,q1⟩:=h
  have hu:=hr.units
  have AY:Ax 1 _:=hr.mono (by decide)
  have D3:Ax 4 _:=hr.mono (by decide)
  have EO:Ax 7 _:=hr.mono (by decide)
  refine⟨_,ae (bZ (i:=4) (own:=["_law_row"]) (capN:=[]) (cap:=[]) Tw rfl De.nd rfl rfl (aR (pv 1))
    (fun C s' H' fp=>⟨av (i:=0) Tx rfl (Or.inl rfl),ci (PW.pt (dY (au gL (ax (show kE _ (iC K) from aF) (pv 0) ag (fun _ _=>rfl)) bQ (aw _)) (dC (au (show eD _ (compareOp .NotEq) (Ld K) from pO hu) (ax (show kE _ (iC K) from aF) (pv 0) ag (fun _ _=>rfl)) (aO ad) (aw _))))),pv 0⟩))
   (ae (aC (i:=5) De.nd rfl (Or.inl rfl) (bu (pv 0) Y.cl mm Gm EO bm .nil al))
   (ae (aP (fX (PW.pt (dY (fX (PW.pt (eG (au bj (aB bA (pv 3) ag) ag (aw _)) (dc (au (uF hu) (pv 5) (aO ad) (aw _)))))) (dY (au (jP hu) (pv 4) (aO ad) (aw _)) (dC (au qV (bu (pv 0) Y.cl mq Gq AY bq .nil al) ag (aw _)))))))
    (ae (jM (ax aJ (pv 4) (aB bA (aB dE (pv 3) ag) (az ay rfl T.len PySem.boot_len (aa (pv 4) ad))) (fun _ _=>rfl)) (gK rfl (bC (av (i:=6) De.nd rfl (Or.inl rfl)) (bC (av (i:=7) De.nd rfl (Or.inl rfl)) (bC (av (i:=8) De.nd rfl (Or.inl rfl)) (bC (av (i:=9) De.nd rfl (Or.inl rfl)) eV))))))
    (ae (aC (i:=10) De.nd rfl (Or.inl rfl) (aB bR ag (aB bA (aB dE (pv 3) ag) ag)))
    (ae (aN (aH (pv 0) Y.cl mp Gp D3 bp .nil al (aa (pv 6) (aa (pv 7) (aa (pv 10) (aa (ap Gl AY rfl ml kl bl .nil al (aa (pv 2) ad)) ad))))))
    (ah (aq (aO (aa aV (aa (pv 6) (aa (pv 7) (aa (pv 10) (aa (ap Gl AY rfl ml kl bl .nil al (aa (pv 2) ad)) ad)))))))))) ) aD)
   (ae (aP (fX (au (uF hu) (pv 5) (aO ad) (aw _))) (ah (aq (aO ad))) aD)
   (ae (aC (i:=11) De.nd rfl (Or.inl rfl) (ax aJ (pv 5) (aB bA (aB dE (pv 3) ag) (az ay rfl T.len PySem.boot_len (aa (pv 5) ad))) (fun _ _=>rfl)))
   (ae (aN (aH (pv 0) Y.cl mo Go hr bo .nil al (aa (pv 11) ad)))
   (ah (aq (aY bL rfl T.list PySem.Pv.boot_list (aa (pv 11) ad))))))))),?_⟩
  have HU:AH.length=rs.length:=Paired.length hR
  refine⟨_,rfl,rl,rfl,⟨_,Ap.of Jl⟩,?_⟩
  refine aX rs.length (by rw[sizeLine_eq];omega) (fun i acc H'=>An H H'/\By H' acc ((rs.take i).filter cF)) ⟨An.refl _, .nil⟩ (fun i acc H' h=>by rw[Paired.length h.2];exact le_trans (length_filter_le _ _) (length_take_le _ _)) (fun i acc H' hi h=>?_) (fun acc H' h=>?_)
  ·obtain⟨s1,hA⟩:=h
   have hri:=getElem?_eq_getElem hi
   obtain⟨v,hv,t,l,rfl,hT⟩:=Paired.at2 (By.same s1 hR) hri
   refine⟨⟨_,_,Ap.of (s1 _ _ Jl),hv⟩,fun v' H2 y=>?_⟩
   obtain⟨rfl,y⟩:=y
   have BJ:=y _ (Ap.of (s1 _ _ Jl))
   rw[hv]at BJ
   cases BJ
   have BS:(rs.take (i + 1)).filter cF=(rs.take i).filter cF ++ (if cF rs[i] then [rs[i]] else []):=by
    rw[take_succ,hri,filter_append]
    show _ ++ List.filter cF [rs[i]]=_
    rw[filter_cons]
    rfl
   generalize rs[i]=r at hT BS
   rw[BS]
   refine⟨_,rfl,t,_,2,_,rfl,rfl,Ay.of hT.1,ak (j:=2) rfl,rfl,_,rfl,?_⟩
   cases hc:r.c with
   | some k =>
    have F5:cF r=false:=by unfold cF;rw[hc];rfl
    rw[F5]
    show if decide (V.int (k:Int)=V.AG)=true then _ else _
    rw[decide_eq_false (show ¬ (V.int (k:Int)=V.AG) by intro z;cases z)]
    exact aE (aE ⟨s1,by rw[if_neg (by decide),append_nil];exact hA⟩)
   | none =>
    refine aL ⟨_,rfl,t,_,3,_,rfl,rfl,Ay.of hT.1,ak (j:=3) rfl,zero_le _,fun e he=>?_⟩
    have s2:=(An.refl H2).new (o := .lst []) he
    refine⟨l,e,iz r.s,[],rfl,rfl,by rw[← m8];exact Ap.of (s2 _ _ hT.2),Ap.of ac,_,rfl,?_⟩
    by_cases hs:r.s=[]
    ·have F5:cF r=false:=by unfold cF;rw[hc,hs];rfl
     rw[F5,show(!decide (iz r.s=[]))=false by rw[hs];rfl]
     exact aE ⟨s1.trans s2,by rw[if_neg (by decide),append_nil];exact By.same s2 hA⟩
    ·have F5:cF r=true:=by unfold cF;rw[hc,decide_eq_false hs];rfl
     rw[F5,show(!decide (iz r.s=[]))=true by rw[decide_eq_false (show ¬ iz r.s=[] from fun z=>hs (map_eq_nil_iff.mp z))];rfl]
     exact aL ⟨_,rfl,s1.trans s2,By.snoc ⟨t,l,rfl,hT.same s2⟩ (By.same s2 hA)⟩
  obtain⟨s1,hA⟩:=h
  rw[take_length]at hA
  refine⟨⟨_,Ap.of (s1 _ _ Jl),by omega⟩,fun B hB=>?_⟩
  have s2:=s1.new (o := .lst acc) hB
  have Tz:=By.same ((An.refl H').new (o := .lst acc) hB) hA
  have gB:(upd H' B (.lst acc)) B=some (.lst acc):=ac
  show cz 4 (V.ref B) _ (upd H' B (.lst acc)) _
  generalize upd H' B (.lst acc)=H2 at s2 Tz gB ⊢
  have Xh:∀ r ∈ rs.filter cF,r ∈ rs/\r.c=none/\r.s ≠ []:=fun r hr=>by
   obtain⟨h1,h2⟩:=mem_filter.mp hr
   unfold cF at h2
   rw[Bool.and_eq_true,decide_eq_true_eq,Bool.not_eq_true',decide_eq_false_iff_not]at h2
   exact⟨h1,h2⟩
  generalize rs.filter cF=Jm at Tz Xh
  have C5:=hI.same W s2
  refine⟨_,rfl,a.y,a.dy,_,rfl,C5.Y.ins,rfl,a,s,rfl,C5,fun M AZ H3 s3 hM gM pM=>?_⟩
  have Jh:=s2.trans s3
  have Xi:=s3 _ _ gB
  have Xj:=By.same s3 Tz
  refine⟨fun b H'=>An H3 H'/\(b=true->Jm ≠ []/\s.Am.length < 5),?_,?_⟩
  ·refine⟨fun b H'=>An H3 H',?_,fun b H4 s4=>?_⟩
   ·refine⟨_,rfl,_,_,rfl,rfl,(by show (0:Int) < 4;decide),rfl,_,rfl,?_⟩
    refine zO (fun _=>An.refl _) fun _=>?_
    refine⟨_,rfl,zero_le _,fun e he=>?_⟩
    have s4:=(An.refl H3).new (o := .lst []) he
    exact Wz (f:=sJ) (l:=b0 a s) (.lst (Ap.of (s4 _ _ gM)) (gb (Paired.mono (fun _ _ z=>z.keep (An.AF s4)) pM))) (.lst (Ap.of ac) .nil) (lR _) ⟨_,rfl,s4⟩
   cases b with
   | false=>exact aE ⟨s4,fun z=>by cases z⟩
   | true =>
    refine aL ⟨_,rfl,zero_le _,fun e he=>?_⟩
    have s5:=s4.new (o := .lst []) he
    have DN:=(An.refl H4).new (o := .lst []) he
    refine neN (f:=Tv) (l:=Jm) (.lst (Ap.of (s5 _ _ Xi)) (vH (By.same s5 Xj))) (.lst (Ap.of ac) .nil) (ww _) ⟨_,rfl,?_⟩
    generalize upd H4 e (.lst [])=H5 at s5 ⊢
    cases Et:Jm.isEmpty with
    | true=>exact aE ⟨s5,fun z=>by cases z⟩
    | false =>
     have Bj:Jm ≠ []:=fun z=>by rw[z]at Et;cases Et
     refine aL ⟨_,rfl,a.y,a.dy,_,rfl,(Jh.trans s5) _ _ hI.Y.ins,rfl,a.y,a.dy,a.tb,a.ro,a.la,a.le,a.li,a.dn,s,rfl,Av.same hI.Y (Jh.trans s5),_,_,rfl,rfl,_,rfl,s5,fun z=>⟨Bj,?_⟩⟩
     have:=of_decide_eq_true z
     omega
  rintro b H4 ⟨s4,hb⟩
  have EN:=Jh.trans s4
  have Jn:=hI.same W EN
  have Xk:=s4 _ _ Xi
  have Xl:=By.same s4 Xj
  cases b with
  | true =>
   obtain⟨Bj,Bg⟩:=hb rfl
   have hal:acc.length=Jm.length:=Paired.length Xl
   have E7:0 < acc.length:=by rw[hal];exact length_pos_iff.mpr Bj
   obtain⟨k,hk⟩:∃ k:Nat,d / 8 % (acc.length:Int)=(k:Int):=pY (emod_nonneg _ (by omega))
   have C3:k < Jm.length:=by have:=emod_lt_of_pos (d / 8) (show (0:Int) < (acc.length:Int) by omega);omega
   obtain⟨v,hv,t,l,rfl,hT⟩:=Paired.at2 Xl (getElem?_eq_getElem C3)
   obtain⟨T1,Nn,JL⟩:=Xh _ (getElem_mem C3)
   generalize Jm[k]=r at hT T1 Nn JL
   have Ik:eY r ∈ bO a.ps a.n a.n:=by rw[← AD.keys];exact mem_map.mpr ⟨r,T1,rfl⟩
   obtain⟨p,g,hp,hg,S6,e1,e2,e3⟩:=io Ik
   have hnd:(rs.map eY).Nodup:=by rw[AD.keys];exact gN _ _ _
   have Np:=rq hnd T1
   have hkr:aM r=cZ ((p:Int),(g:Int),none):=by
    show cZ (eY r)=_
    unfold eY
    have e1:r.p=(p:Int):=e1
    have e2:r.g=(g:Int):=e2
    rw[e1,e2,Nn]
   have hw:a.wy p g none ≠ []:=by
    rw[SR]
    intro z
    obtain⟨q,hq⟩:=List.exists_mem_of_ne_nil _ JL
    have hz:q ∈ wl (aI rs) (cZ ((p:Int),(g:Int),none)):=BA.mpr ⟨r,by rw[← hkr];exact Np,hq⟩
    have z:wl (aI rs) (cZ ((p:Int),(g:Int),none))=[]:=z
    rw[z]at hz
    cases hz
   obtain⟨rp,rg,rc,rS⟩:=r
   have e1:rp=(p:Int):=e1
   have e2:rg=(g:Int):=e2
   have Nn:rc=none:=Nn
   subst e1 e2 Nn
   have JQ:1 <= 1 + d / 4096 % 4/\1 + d / 4096 % 4 <= 60:=by omega
   refine aL ⟨_,rfl,_,rfl,_,_,rfl,rfl,⟨by decide,by decide⟩,_,rfl,B,_,rfl, .inl (Ap.of Xk),_,_,rfl,rfl,(by show (0:Int) < (acc.length:Int);omega),B,_,_,_,rfl,rfl,Ap.of Xk,(by rw[hk];exact ak hv),?_⟩
   refine⟨t,_,rfl,Ay.of hT.1,rfl,_,_,rfl,_,_,rfl,_,_,rfl,_,_,rfl,rfl,?_⟩
   refine⟨_,rfl,_,_,rfl,rfl,⟨by decide,by decide⟩,_,_,rfl,rfl,(by show (0:Int) < 4;decide),_,_,rfl,rfl,?_⟩
   have Bl:=kX (n:=a.n) (wy:=a.wy) (l:=1 + d / 4096 % 4) (u:=eR cell) hp hg JQ (qA cell) (Ne.symm S6) hw (show s.Am.length < 60 by omega)
   refine⟨_,rfl,a.y,a.dy,_,rfl,Jn.Y.ins,rfl,_,rfl,_,rfl,_,rfl,_,rfl,cell,rfl,a.y,a.dy,a.tb,a.ro,a.la,a.le,a.li,a.dn,a.lx,a.AL,a.lt,a.n,a.Az,a.ps,a.wy,s,_,_,_,_,rfl,Jn.Y,Jn.T, .int _, .int _, .int _, .int _,by omega,Cd,(fun h=>by rw[Bl]at h;cases h),(fun h=>by rw[Bl]at h;cases h),(fun h=>by rw[Bl]at h;cases h),(fun h=>by rw[Bl]at h;cases h),(fun h=>by rw[Bl]at h;cases h),fun _ H5 off Fl=>?_⟩
   refine⟨_,rfl,_,rfl,_,rfl,_,rfl,cell,rfl,by show 5 <= sizeLine;decide,fun D hD=>?_⟩
   have Nq:AA a.four H H5:=fun b o nb e=>off b o (fun z=>nb (by
    simp only[mem_cons,not_mem_nil,or_false]at z ⊢
    rcases z with z | z
    ·exact .inr (.inl z)
    ·exact .inr (.inr (.inr z)))) (EN _ _ e)
   have Nr:H D=none:=by
    cases e:H D with
    | none=>rfl
    | some o =>
     by_cases hm:D ∈ a.four
     ·obtain⟨xs,hz⟩:=Fl.Bw D hm
      rw[hD]at hz;cases hz
     ·rw[Nq D o hm e]at hD;cases hD
   have sD:=(An.refl H5).new (o := .lst [.str (Str.ofString "post"), .int (p:Int), .int (g:Int), .int (1 + d / 4096 % 4), .int (eR cell)]) hD
   exact q1 D _ (.post p g (1 + d / 4096 % 4) (eR cell)) _ ⟨hp,hg,Ne.symm S6,hw,JQ,qA cell,by omega⟩ rfl (Nq.trans (An.AW sD)) (Av.same Fl sD) Nr ac
  | false =>
   refine aE ⟨fun b H'=>An H4 H'/\b=(b0 a s).isEmpty,?_,?_⟩
   ·refine⟨_,rfl,zero_le _,fun e he=>?_⟩
    have s5:=(An.refl H4).new (o := .lst []) he
    exact Wz (f:=sJ) (l:=b0 a s) (.lst (Ap.of (s5 _ _ (s4 _ _ gM))) (gb (Paired.mono (fun _ _ z=>z.keep (An.AF (s4.trans s5))) pM))) (.lst (Ap.of ac) .nil) (lR _) ⟨_,rfl,s5,rfl⟩
   rintro b H5 ⟨s5,rfl⟩
   have Ph:=EN.trans s5
   cases Ka:(b0 a s).isEmpty with
   | true=>exact aL ⟨zero_le _,fun D hD=>q0 D _ (Ph.new hD) (Ph.free hD) ac⟩
   | false =>
    have Bj:b0 a s ≠ []:=fun z=>by rw[z]at Ka;cases Ka
    have T2:=hI.same W Ph
    have Pj:=s4.trans s5
    have pM5:=Paired.mono (fun _ _ z=>BL.keep (An.AF Pj) z) pM
    have Xm:=Pj _ _ gM
    have FK:AZ.length=(b0 a s).length:=by rw[Paired.length pM,length_map]
    have E7:0 < AZ.length:=by rw[FK];exact length_pos_iff.mpr Bj
    obtain⟨k,hk⟩:∃ k:Nat,d / 8 % (AZ.length:Int)=(k:Int):=pY (emod_nonneg _ (by omega))
    have C3:k < (b0 a s).length:=by have:=emod_lt_of_pos (d / 8) (show (0:Int) < (AZ.length:Int) by omega);omega
    obtain⟨v,hv,tm,rfl,Jo⟩:=Paired.at2 pM5 (show((b0 a s).map eI)[k]? = some (eI (b0 a s)[k]) by rw[getElem?_map,getElem?_eq_getElem C3];rfl)
    have GY:=getElem_mem C3
    generalize (b0 a s)[k]=m at Jo GY
    refine aE ⟨_,rfl,_,rfl,_,_,rfl,rfl,⟨by decide,by decide⟩,_,rfl,M,_,rfl, .inl (Ap.of Xm),_,_,rfl,rfl,(by show (0:Int) < (AZ.length:Int);omega),M,_,_,_,rfl,rfl,Ap.of Xm,(by rw[hk];exact ak hv),?_⟩
    refine⟨_,rfl,a.y,a.dy,_,rfl,T2.Y.ins,rfl,_,rfl,a,s,tm,m,rfl,T2,Jo,GY,hJ.OQ (by omega),fun H6 s6 st off Kj=>?_⟩
    have hk5:=AA.AF (fun z hz=>T2.Y.Bw z hz) off
    refine⟨_,rfl,tm,_,rfl, .inr (Ay.of (hk5 _ _ Jo True.intro)),fun D hD=>?_⟩
    have Nt:AA a.four H H6:=fun b o nb e=>off b o nb (Ph _ _ e)
    have Nr:H D=none:=by
     cases e:H D with
     | none=>rfl
     | some o =>
      by_cases hm:D ∈ a.four
      ·obtain⟨xs,hz⟩:=Kj.Bw D hm
       rw[hD]at hz;cases hz
      ·rw[Nt D o hm e]at hD;cases hD
    have sD:=(An.refl H6).new (o := .lst (eI m)) hD
    exact q1 D _ (.mv m) _ GY ⟨s6,st,rfl⟩ (Nt.trans (An.AW sD)) (Av.same Kj sD) Nr ac
theorem lp (c:Nat):∀ {xs ys:List (List Nat)},xs ≠ []->dX c (dX c xs :: ys)=dX c (xs ++ ys)
 | [],_,h=>absurd rfl h
 | [x],_,_=>rfl
 | x :: y :: l,[],_=>by rw[append_nil];rfl
 | x :: y :: l,z :: r,_=>by
  have ih:=lp c (xs:=y :: l) (ys:=z :: r) (cons_ne_nil _ _)
  show(x ++ c :: dX c (y :: l)) ++ c :: dX c (z :: r)=x ++ c :: dX c ((y :: l) ++ (z :: r))
  rw[← ih,append_assoc]
  rfl
theorem sP {xs ys:List Str}(h:xs ≠ []):Txt.join newline (Txt.join newline xs :: ys)=Txt.join newline (xs ++ ys):=by
 refine tK ?_
 show tl (Txt.join ⟨#[10]⟩ _)=tl (Txt.join ⟨#[10]⟩ _)
 rw[jc,jc,map_cons,map_append]
 show dX 10 (tl (Txt.join ⟨#[10]⟩ xs) :: _)=_
 rw[jc]
 exact lp 10 fun z=>h (map_eq_nil_iff.mp z)
noncomputable def DlV (H:Hp)(v:V)(d:Dd):Prop:=∃ t,v = .ref t/\H t=some (.lst (iy d))
noncomputable def lM (P:Program)(w:World)(K:Frag)(c:Cs)(ts:Ts):Sp:=fun vs H Q _=>∃ (tb lx AL lt ra dl:Addr)(n:Nat)(Az dvs:List V)(ps:List (Int × Int))(rs:List Rw)(rm:List Nat)(ds:List Dd)(s:YS),vs=[.ref tb, .ref ra, .ref dl]/\BH c ts.told (A0 P w ts) H tb lx AL lt n Az ps (kG rs)/\Bb n ps rs rm ds s/\H ra=some (.lst (nV rm))/\H dl=some (.lst dvs)/\Paired (DlV H) dvs ds /\
 ∀ H',An H H'->Q (.str (yT n ps (aI rs) s)) H'
noncomputable def xw (s:Stmt):Scope:=match s with
 | .Assign _ (.List [_, .Call _ [.BinOp _ _ (.ListComp _ _ sc _) _] _ _] _) _=>sc
 | _=>c8
noncomputable def xH (s:Stmt):Scope:=match s with
 | .Expr (.Call _ [.Call _ [.ListComp _ _ sc _] _ _] _ _) _=>sc
 | _=>c8
abbrev T3:List Str:=["_law_table", "_law_rooms", "_law_deeds", "_law_rows_here", "_law_deed_here"]
abbrev Nu (i:Nat):Stmt:=(aG iB).getD i (.Pass ⟨0,0,0,0⟩)
theorem Jp:ao T3 ["_law_table", "_law_rooms", "_law_deeds"] (af iB):=L2.AQ
theorem Nv:Bi T3 (af iB) (xw (Nu 0)) [] []:=L2.B0
theorem Nw:Bi T3 (af iB) (xH ((jq (Nu 1)).getD 0 (.Pass ⟨0,0,0,0⟩))) [] []:=L2.B0
theorem Nx:(["_law_room"]:List Str).Nodup:=by decide +kernel
theorem Ny:(["_law_word_here"]:List Str).Nodup:=by decide +kernel
theorem uS {c:Cs}{ts:Ts}{f ft:Addr}{fd dt:FuncData}(F:AM K "_law_text" "_law_text" iB f fd)(T:Txt mg)(mt:mg "table_text" = some (.ref ft))(kt:keepIn K (.ref ft)=true)(bt:Binds K dt ["table"] [])(Gt:Ao P w K mg base aA 6 ft dt ["table"] (i9 c ts.told (fu P w ts))) :
  Ao P w K mg base aA 7 f fd ["_law_table", "_law_rooms", "_law_deeds"] (lM P w K c ts):=by
 refine F.ok Jp (fun vs H Q E h=>?_) (fun cdv A outer s0 H vs Q E hr h=>?_)
 ·obtain⟨tb,lx,AL,lt,ra,dl,n,Az,dvs,ps,rs,rm,ds,s,rfl,_⟩:=h
  rfl
 ·obtain⟨tb,lx,AL,lt,ra,dl,n,Az,dvs,ps,rs,rm,ds,s,rfl,ER,hP,Pk,Xn,RV,q⟩:=h
  refine⟨_,ae (aC (i:=3) Jp.nd rfl (Or.inl rfl) (aO (aa (ap Gt hr rfl mt kt bt .nil al (aa (pv 0) ad)) (aa (bJ plainAttrs_str slot_str_join type_str_join fZ aV (aa (aB jR (aO (aa aV ad)) (aS (own:=["_law_room"]) (capN:=[]) (cap:=[]) Nv rfl (aR (pv 1))
    (fun C s' H' fp=>⟨av (i:=0) Nx rfl (Or.inl rfl),bc,aY Bh rfl T.str PySem.Pv.boot_str (aa (pv 0) ad)⟩))) ad)) ad))))
   (ae (bN PassesOwn.never rfl (aR (pv 2)) (av (i:=4) Jp.nd rfl (Or.inl rfl))
    (ah (aN (bJ plainAttrs_list PySem.F.slot_list_append PySem.F.type_list_append bG (pv 3) (aa (bJ plainAttrs_str slot_str_join type_str_join fZ aV (aa (aS (own:=["_law_word_here"]) (capN:=[]) (cap:=[]) Nw rfl (aR (pv 4))
     (fun C s' H' fp=>⟨av (i:=0) Ny rfl (Or.inl rfl),bc,aY (Bh.or gA) rfl T.str PySem.Pv.boot_str (aa (pv 0) ad)⟩)) ad)) ad)))))
   (ah (aq (bJ plainAttrs_str slot_str_join type_str_join fZ aV (aa (pv 3) ad))))),?_⟩
  have hT:=cE hP.fit
  have hR:=hP.Ia
  have HX:=hP.many
  have Ck:=hP.Ba
  have F6:=hP.HZ
  obtain⟨E9,e',SS,OW⟩:=qC ER.j
  obtain⟨SU,SV,Ll,OX,_⟩:=ER.i
  have er:aZ n ps (aI E9)=aZ n ps (aI rs):=nv e'.symm
  have BG:=hP.pairs
  refine⟨_,rfl,tb,SU,lx,AL,lt,SV,n,Az,ps,aI E9,rfl,SS,Ll,OX,ER.l,ER.DF,ER.Ba,BG,OW,fun H1 s1=>?_⟩
  rw[er]
  refine⟨rfl,by show 1 <= sizeLine;decide,fun o1 FN=>?_⟩
  have s2:=s1.new (o := .lst [.str (Str.ofString "rooms")]) FN
  have g2:(upd H1 o1 (.lst [.str (Str.ofString "rooms")])) o1=some (.lst [.str (Str.ofString "rooms")]):=ac
  generalize upd H1 o1 (.lst [.str (Str.ofString "rooms")])=H2 at s2 g2 ⊢
  have Nz:Ap K H2 ra (nV rm):=Ap.of (s2 _ _ Pk)
  refine⟨_,rfl,ra,rfl,⟨_,Nz⟩,?_⟩
  refine mR (fun v => .str (wT v)) (by rw[sizeLine_eq,du];omega) Nz (fun x N hx h=>?_) fun o2 B9=>?_
  ·obtain⟨r,Cp,rfl⟩:=iH hx
   exact⟨_,rfl,(r:Int),rfl,ip (lt_of_le_of_lt (hP.Ki r Cp).2 (by decide)),h⟩
  have ern:(nV rm).map (fun v=>V.str (wT v))=(rm.map aU).map V.str:=by rw[← lE,map_map];rfl
  rw[ern]
  have s3:=s2.new (o := .lst ((rm.map aU).map V.str)) B9
  have Fz:=(An.refl H2).new (o := .lst ((rm.map aU).map V.str)) B9
  have g3:(upd H2 o2 (.lst ((rm.map aU).map V.str))) o2=some (.lst ((rm.map aU).map V.str)):=ac
  generalize upd H2 o2 (.lst ((rm.map aU).map V.str))=H3 at s3 Fz g3 ⊢
  refine⟨o1,o2,_,_,rfl,rfl,Fz _ _ g2,g3,by rw[length_map,length_map,sizeLine_eq];show 1 + _ <= _;omega,fun o3 ho3=>?_⟩
  have ec:[V.str (Str.ofString "rooms")] ++ (rm.map aU).map V.str=(cM rm).map V.str:=rfl
  rw[ec]
  have s4:=s3.new (o := .lst ((cM rm).map V.str)) ho3
  have g4:(upd H3 o3 (.lst ((cM rm).map V.str))) o3=some (.lst ((cM rm).map V.str)):=ac
  generalize upd H3 o3 (.lst ((cM rm).map V.str))=H4 at s4 g4 ⊢
  have T4:Txt.join blank (cM rm)=bW (.str (Str.ofString "rooms") :: s.rooms):=by
   unfold bW cM
   rw[map_cons,hP.done.2,lE]
   rfl
  have hsz:∀ (ws:List Str),(∀ y ∈ ws,y.length <= 62)->ws.length <= 100->(ws.map (·.length)).sum + ws.length * blank.length <= 16777216:=fun ws h1 h2=>by
   have b1:(ws.map (·.length)).sum <= ws.length * 62:=StrLaws.sumLen_le _ h1
   show _ + ws.length * 1 <= _
   omega
  refine⟨blank,o3,cM rm,rfl,rfl,Ap.of g4,hsz _ (fun y hy=>?_) (by unfold cM;rw[length_cons,length_map];omega),?_⟩
  ·rcases mem_cons.mp hy with rfl | hy
   ·decide
   ·obtain⟨r,Cp,rfl⟩:=mem_map.mp hy
    exact(vW (k:=r) (by have:=(hP.Ki r Cp).2;omega)).2.1
  rw[T4]
  refine⟨by show 2 <= sizeLine;decide,fun D hD=>?_⟩
  have Nr:H D=none:=s4.free hD
  unfold yT cK at q
  have Bj:aZ n ps (aI rs) ≠ []:=fun z=>by unfold aZ at z;cases z
  have hlen:=(eE hP.DF.2 hP.Ba BG (lD hT hP.Ba))
  have T5:(Txt.join newline (aZ n ps (aI rs))).length <= 4000000:=tL hP.DF.2 hP.Ba BG (lD hT hP.Ba)
  generalize Lv:Txt.join newline (aZ n ps (aI rs))=TT at T5
  have hrw:=hR.rooms.row
  generalize hRR:bW (.str (Str.ofString "rooms") :: s.rooms)=RR at hrw
  have s5:=s4.new (o := .lst [V.str TT, .str RR]) hD
  have g5:(upd H4 D (.lst [V.str TT, .str RR])) D=some (.lst ((TT :: RR :: (ds.take 0).map fun d=>bW (iy d)).map V.str)):=ac
  show cz 3 (V.ref D) _ (upd H4 D (.lst [V.str TT, .str RR])) _
  generalize upd H4 D (.lst [V.str TT, .str RR])=H5 at s5 g5 ⊢
  have DU:dvs.length=ds.length:=Paired.length RV
  refine⟨_,rfl,dl,rfl,⟨_,Ap.of (s5 _ _ Xn)⟩,?_⟩
  refine fN (K:=K) (a:=dl) (xs:=dvs) (fun i σ H'=>∃ a4:Option V,An H H'/\H' D=some (.lst ((TT :: RR :: (ds.take i).map fun d=>bW (iy d)).map V.str))/\σ=[some (.ref tb),some (.ref ra),some (.ref dl),some (.ref D),a4])
   ⟨none,s5,g5,rfl⟩ (fun i σ H' _ Au=>by obtain⟨_,s,_⟩:=Au;exact Ap.of (s _ _ Xn)) ?_ ?_
  ·rintro i v σ H' hv ⟨a4,s6,g6,rfl⟩
   obtain⟨d,hdi,t,rfl,gt⟩:=Paired.at RV hv
   have hi:=cb hdi
   have Xo:=mem_of_getElem? hdi
   obtain⟨EJ,LX⟩:=k4 (hP.GR d Xo)
   obtain⟨Mc,hi2⟩:=vL (hP.GR d Xo)
   have Xp:Ap K H' t (iy d):=Ap.of (s6 _ _ gt)
   refine⟨_,rfl, .inl ⟨rfl,_,Ap.of g6⟩,rfl,_,rfl,t,rfl,⟨_,Xp⟩,?_⟩
   refine mR (fun v => .str (wT v)) (by rw[sizeLine_eq];omega) Xp (fun x N hx h=>?_) fun o ho=>?_
   ·rw[k7]at hx
    rcases mem_cons.mp hx with rfl | hx
    ·exact⟨_,rfl, .inr ⟨_,rfl,h⟩⟩
    ·obtain⟨z,hz,rfl⟩:=mem_map.mp hx
     exact⟨_,rfl, .inl ⟨z,rfl,by have:=ip (Mc z hz);rw[natAbs_natCast]at this;exact this,h⟩⟩
   have s7:=(An.refl H').new (o := .lst ((iy d).map fun v=>V.str (wT v))) ho
   have g7:(upd H' o (.lst ((iy d).map fun v=>V.str (wT v)))) o=some (.lst ((ot d).map V.str)):=by rw[ac];unfold ot;rw[map_map];rfl
   generalize upd H' o (.lst ((iy d).map fun v=>V.str (wT v)))=H7 at s7 g7 ⊢
   refine⟨blank,o,ot d,rfl,rfl,Ap.of g7,hsz _ (fun y hy=>?_) (by unfold ot;rw[length_map];omega),?_⟩
   ·obtain⟨v,BJ,rfl⟩:=mem_map.mp hy
    exact(EJ v BJ).2.1
   have g67:=s7 _ _ g6
   refine⟨D,_,_,rfl,rfl,g67,by rw[length_map,length_cons,length_cons,length_map,length_take,sizeLine_eq];omega,?_⟩
   refine⟨_,fun b o' e=>by rw[ai (aj e Nr)];exact s7 _ _ (s6 _ _ e),?_,rfl⟩
   rw[ac,take_succ,hdi,map_append,map_cons,map_cons,map_cons,map_cons,map_append (f:=V.str)]
   rfl
  rintro σ H' ⟨a4,s6,g6,rfl⟩
  rw[DU,take_length]at g6
  refine⟨rfl,_,rfl,newline,D,_,rfl,rfl,Ap.of g6,?_,?_⟩
  ·have b2:((ds.map fun d=>bW (iy d)).map (·.length)).sum <= (ds.map fun d=>bW (iy d)).length * 2583:=StrLaws.sumLen_le _ fun y hy=>by
    obtain⟨d,hd,rfl⟩:=mem_map.mp hy
    exact(hR.done (iy d) (by rw[hP.done.1];exact mem_map.mpr ⟨d,hd,rfl⟩)).row
   rw[length_map]at b2
   simp only[map_cons,sum_cons,length_cons,length_map]
   show _ + _ * 1 <= _
   omega
  ·have ef:Txt.join newline (TT :: RR :: ds.map fun d=>bW (iy d))=Txt.join newline (aZ n ps (aI rs) ++ [RR] ++ s.done.map bW):=by
    rw[← Lv,sP Bj,hP.done.1,map_map,append_assoc]
    rfl
   rw[ef,← hRR]
   exact q H' s6
mutual
theorem Den.same {K:Frag}{H H':Hp}(s:An H H'):∀ {v:V}{d:PyData},Den K H v d->Den K H' v d
 | _,_, .AG => .AG
 | _,_, .bl b => .bl b
 | _,_, .int i => .int i
 | _,_, .str x => .str x
 | _,_, .lst h r => .lst (s.seq h) (AO.same s r)
 | _,_, .tup h r => .tup (b8 s h) (AO.same s r)
theorem AO.same {K:Frag}{H H':Hp}(s:An H H'):∀ {vs:List V}{ds:List PyData},AO K H vs ds->AO K H' vs ds
 | _,_, .nil=>.nil
 | _,_, .cons h r=>.cons (Den.same s h) (AO.same s r)
end
theorem AO.snoc {K:Frag}{H:Hp}{v:V}{d:PyData}(h:Den K H v d):∀ {vs:List V}{ds:List PyData},AO K H vs ds->AO K H (vs ++ [v]) (ds ++ [d])
 | _,_, .nil=>.cons h .nil
 | _,_, .cons a r=>.cons a (AO.snoc h r)
theorem AO.len {K:Frag}{H:Hp}:∀ {vs:List V}{ds:List PyData},AO K H vs ds->vs.length=ds.length
 | _,_, .nil=>rfl
 | _,_, .cons _ r=>by rw[length_cons,length_cons,AO.len r]
noncomputable def dN (L:Addr)(H:Hp):Hp:=fun b=>if b=L then none else H b
theorem iu {L b:Addr}{H:Hp}{o:HO}(n:b ≠ L)(h:H b=some o):dN L H b=some o:=by unfold dN;rw[if_neg n];exact h
theorem kc (L:Addr)(H:Hp)(o:HO):dN L (upd H L o)=dN L H:=by
 funext b
 unfold dN
 by_cases e:b=L
 ·rw[if_pos e,if_pos e]
 ·rw[if_neg e,if_neg e,ai e]
theorem lm {L:Addr}{H H':Hp}(s:An H H'):An (dN L H) (dN L H'):=fun b o e=>by
 unfold dN at e ⊢
 by_cases h:b=L
 ·rw[if_pos h]at e;cases e
 ·rw[if_neg h]at e ⊢;exact s _ _ e
theorem x5 (L:Addr)(H:Hp):An (dN L H) H:=fun b o e=>by
 unfold dN at e
 by_cases h:b=L
 ·rw[if_pos h]at e;cases e
 ·rw[if_neg h]at e;exact e
noncomputable def hD:Option Int->PyData
 | none => .none
 | some i => .int i
noncomputable def Pl (ln:cW):PyData := .tuple [.int ln.r, .int ln.b,hD ln.h, .list (ln.qs.map qT)]
noncomputable def Xq (qs:List (Int × Int)):PyData := .list (qs.map qT)
noncomputable def Xr (t:cI):PyData := .tuple [.tuple [.int t.start, .int t.goal, .int t.len, .int t.word], .list (t.way.map fun z:Nat => .int z)]
noncomputable def vD:V->PyData
 | .int i => .int i
 | .str x => .str x
 | _ => .none
noncomputable def wD (m:List V):PyData := .tuple (m.map vD)
noncomputable def cC (s:YS)(i j:Nat):List PyData:=s.lanes.map Pl ++ (s.Am.take i).map Xr ++ (s.lies.take j).map Xq
noncomputable def N0 (a:YA)(s:YS):PyData := .list [.list (cC s s.Am.length s.lies.length), .list ((b0 a s).map sJ), .list (s.done.map wD), .bool (zW s), .int (s.Am.length:Nat)]
theorem xC {K:Frag}{H:Hp}{α:Type}{R:V->α->Prop}{f:α->PyData}(h:∀ v a,R v a->Den K H v (f a)):∀ {vs:List V}{as:List α},Paired R vs as->AO K H vs (as.map f):=fun Au=>by
 induction Au with
 | nil=>exact .nil
 | cons x r ih=>exact .cons (h _ _ x) ih
theorem N1 {K:Frag}{H:Hp}(h:Option Int):Den K H (hV h) (hD h):=by cases h<;>first | exact .AG | exact .int _
theorem kz {K:Frag}{H:Hp}:∀ {m:List V},(∀ x ∈ m,vZ x)->AO K H m (m.map vD)
 | [],_ => .nil
 | x :: m,h => .cons (by rcases h x mem_cons_self with ⟨i,rfl⟩ | ⟨t,rfl,_⟩<;>first | exact .int _ | exact .str _) (kz fun y hy=>h y (mem_cons_of_mem _ hy))
theorem lw {K:Frag}{H:Hp}:∀ {vs:List V}{ms:List (List V)},Paired (BL H) vs ms->(∀ m ∈ ms,∀ x ∈ m,vZ x)->AO K H vs (ms.map wD)
 | _,_, .nil,_ => .nil
 | _,_, .cons ⟨t,e,h⟩ r,hs => .cons (by subst e;exact .tup (Ay.of h) (kz (hs _ mem_cons_self))) (lw r fun d hd=>hs d (mem_cons_of_mem _ hd))
theorem ue {m:List V}(h:∀ x ∈ m,vZ x):BZ (wD m) 1:=by
 unfold wD
 refine cP (m:=0) fun y hy=>?_
 obtain⟨x,hx,rfl⟩:=mem_map.mp hy
 rcases h x hx with ⟨i,rfl⟩ | ⟨t,rfl,ht⟩
 ·exact bE _
 ·exact fV ht
theorem qP (qs:List (Int × Int)):BZ (.list (qs.map qT)) 2:=bX (m:=1) fun z hz=>by
 obtain⟨p,_,rfl⟩:=mem_map.mp hz
 exact cP (m:=0) fun y hy=>by
  simp only[mem_cons,not_mem_nil,or_false]at hy
  rcases hy with rfl | rfl<;>exact bE _
theorem y9 {a:YA}{s:YS}(G9:∀ d ∈ s.done,∀ x ∈ d,vZ x):BZ (N0 a s) 64:=(bX (m:=4) fun y hy=>by
 simp only[mem_cons,not_mem_nil,or_false]at hy
 rcases hy with rfl | rfl | rfl | rfl | rfl
 ·refine bX (m:=3) fun z hz=>?_
  unfold cC at hz
  rcases mem_append.mp hz with hz | hz
  ·rcases mem_append.mp hz with hz | hz
   ·obtain⟨ln,_,rfl⟩:=mem_map.mp hz
    refine cP (m:=2) fun y hy=>?_
    simp only[mem_cons,not_mem_nil,or_false]at hy
    rcases hy with rfl | rfl | rfl | rfl
    ·exact(bE _).le (by decide)
    ·exact(bE _).le (by decide)
    ·cases ln.h with
     | none=>exact Dy.le (by decide)
     | some z=>exact(bE _).le (by decide)
    ·exact qP _
   ·obtain⟨t,_,rfl⟩:=mem_map.mp hz
    refine(cP (m:=1) fun y hy=>?_).le (by decide)
    simp only[mem_cons,not_mem_nil,or_false]at hy
    rcases hy with rfl | rfl
    ·refine cP (m:=0) fun x hx=>?_
     simp only[mem_cons,not_mem_nil,or_false]at hx
     rcases hx with rfl | rfl | rfl | rfl<;>exact bE _
    ·refine bX (m:=0) fun x hx=>?_
     obtain⟨u,_,rfl⟩:=mem_map.mp hx
     exact bE _
  ·obtain⟨qs,_,rfl⟩:=mem_map.mp hz
   exact(qP _).le (by decide)
 ·refine(bX (m:=1) fun z hz=>?_).le (by decide)
  obtain⟨m,_,rfl⟩:=mem_map.mp hz
  exact j7 m
 ·refine(bX (m:=1) fun z hz=>?_).le (by decide)
  obtain⟨m,hm,rfl⟩:=mem_map.mp hz
  exact ue (G9 m hm)
 ·exact(uf _).le (by decide)
 ·exact(bE _).le (by decide)).le (by decide)
theorem ui (d:Dd):∀ x ∈ iy d,vZ x:=by
 cases d with
 | mv m=>exact M6 m
 | post p g l u =>
  intro x hx
  simp only[iy,mem_cons,not_mem_nil,or_false]at hx
  rcases hx with rfl | rfl | rfl | rfl | rfl
  ·exact .inr ⟨_,rfl,by decide +kernel⟩
  ·exact .inl ⟨_,rfl⟩
  ·exact .inl ⟨_,rfl⟩
  ·exact .inl ⟨_,rfl⟩
  ·exact .inl ⟨_,rfl⟩
structure Xs (P:Program)(w:World)(K:Frag)(mg:Str->Option Value)(base:Heap)(c:Cs)(TC:Addr)(J:TJ)(ys:Ys)(ft fw fp fy fl fm fh fe:Addr)(dt dw dp dy dl dm dh de:FuncData):Prop where
 mt:bB K ys.Aq "lane_told" ft
 bt:Binds K dt ["self", "lane"] []
 Gt:Ao P w K mg base aA 2 ft dt ["self", "lane"] (qM K ys)
 mw:bB K ys.Aq "way_told" fw
 bw:Binds K dw ["self", "number"] []
 Gw:Ao P w K mg base aA 1 fw dw ["self", "number"] (tO K ys)
 mp:bB K ys.Aq "posted" fp
 bp:Binds K dp ["self"] []
 Gp:Ao P w K mg base aA 1 fp dp ["self"] (j3 K ys)
 my:bB K ys.Aq "lying" fy
 RT:Binds K dy ["self", "place"] []
 Gy:Ao P w K mg base aA 1 fy dy ["self", "place"] (qK K ys)
 ml:bB K ys.Aq "letter_told" fl
 bl:Binds K dl ["self", "number"] []
 Gl:Ao P w K mg base aA 1 fl dl ["self", "number"] (tW K ys)
 mm:bB K ys.Aq "moves" fm
 bm:Binds K dm ["self"] []
 Gm:Ao P w K mg base aA 7 fm dm ["self"] (hG K c TC J ys)
 mh:bB K ys.Aq "history" fh
 bh:Binds K dh ["self"] []
 Gh:Ao P w K mg base aA 1 fh dh ["self"] (p5 K ys)
 me:bB K ys.Aq "ended" fe
 be:Binds K de ["self"] []
 Ge:Ao P w K mg base aA 1 fe de ["self"] (lP K ys)
noncomputable def lI (K:Frag)(c:Cs)(TC:Addr)(J:TJ)(ys:Ys):Sp:=fun vs H Q _=>∃ (a:YA)(s:YS)(ll:Addr)(AB:List V),vs=[.ref a.y, .int (s.lies.length:Nat), .ref ll]/\H ll=some (.lst AB)/\AB.length=s.lanes.length/\C4 K c TC J ys H a s/\s.lanes.length <= 900/\s.lies.length <= 900/\s.Am.length <= 900/\(∀ d ∈ s.done,∀ x ∈ d,vZ x) /\
 ∀ (v:V)(H':Hp),An H H'->Den K H' v (N0 a s)->Q v H'
abbrev Xt:List Str:=["_law_yard", "_law_places", "_law_lanes", "_law_found", "_law_number", "_law_place"]
theorem GZ:ao Xt ["_law_yard", "_law_places", "_law_lanes"] (af jF):=L2.AQ
theorem T6:Bi Xt (af jF) (eO ((aG jF).getD 0 (.Pass ⟨0,0,0,0⟩))) ["_law_yard"] [0]:=L2.B0
theorem T7:(["_law_lane", "_law_yard"]:List Str).Nodup:=by decide +kernel
theorem uK {c:Cs}{ys:Ys}{J:TJ}{TC f fw' ft fw fp fy fl fm fh fe:Addr}{fd dw' dt dw dp dy dl dm dh de:FuncData}(F:AM K "_law_stand" "_law_stand" jF f fd)(T:Txt mg)(Y:gS K ys)(W':Wy K TC fw' dw' J)(S:Xs P w K mg base c TC J ys ft fw fp fy fl fm fh fe dt dw dp dy dl dm dh de) :
  Ao P w K mg base aA 8 f fd ["_law_yard", "_law_places", "_law_lanes"] (lI K c TC J ys):=by
 refine F.ok GZ (fun vs H Q E h=>?_) (fun cdv A outer s0 H vs Q E hr h=>?_)
 ·obtain⟨a,s,ll,AB,rfl,_⟩:=h
  rfl
 ·obtain⟨a,s,ll,AB,rfl,gll,CA,hI,Fm,Df,HM,G9,q⟩:=h
  have AY:Ax 1 _:=hr.mono (by decide)
  have Bu:Ax 2 _:=hr.mono (by decide)
  refine⟨_,ae (bZ (i:=3) (own:=["_law_lane"]) (capN:=["_law_yard"]) (cap:=[0]) T6 rfl GZ.nd rfl rfl (aT rfl T.range (aa (az ay rfl T.len PySem.boot_len (aa (pv 2) ad)) ad)) (fun C s' H' fp=>⟨av (i:=0) T7 rfl (Or.inl rfl),bc,aH (pv 1) Y.cl S.mt S.Gt Bu S.bt .nil al (aa (pv 0) ad)⟩))
   (ae (bN PassesOwn.never rfl (aT rfl T.range (aa (bu (pv 0) Y.cl S.mp S.Gp AY S.bp .nil al) ad)) (av (i:=4) GZ.nd rfl (Or.inl rfl))
    (ah (aN (bJ plainAttrs_list PySem.F.slot_list_append PySem.F.type_list_append bG (pv 3) (aa (bI (aa (aH (pv 0) Y.cl S.ml S.Gl AY S.bl .nil al (aa (pv 4) ad)) (aa (aH (pv 0) Y.cl S.mw S.Gw AY S.bw .nil al (aa (pv 4) ad)) ad))) ad)))))
   (ae (bN PassesOwn.never rfl (aT rfl T.range (aa (pv 1) ad)) (av (i:=5) GZ.nd rfl (Or.inl rfl))
    (ah (aN (bJ plainAttrs_list PySem.F.slot_list_append PySem.F.type_list_append bG (pv 3) (aa (aH (pv 0) Y.cl S.my S.Gy AY S.RT .nil al (aa (pv 5) ad)) ad)))))
   (ah (aq (aO (aa (pv 3) (aa (bu (pv 0) Y.cl S.mm S.Gm hr S.bm .nil al) (aa (bu (pv 0) Y.cl S.mh S.Gh AY S.bh .nil al) (aa (bu (pv 0) Y.cl S.me S.Ge AY S.be .nil al) (aa (bu (pv 0) Y.cl S.mp S.Gp AY S.bp .nil al) ad)))))))))),?_⟩
  have hY:=hI.Y
  refine⟨_,rfl,ll,_,rfl, .inl (Ap.of gll),(AB.length:Int),rfl,by omega,by omega,?_⟩
  rw[toNat_natCast,CA]
  refine oA (R:=fun H v ln=>Den K H v (Pl ln)) (fun s v ln h=>Den.same s h) s.lanes (by rw[sizeLine_eq];omega) (fun i ln H1 N AX s1 hN=>?_) (fun L vs H1 s1 hL pL=>?_)
  ·have BO:=Av.same hY s1
   exact⟨_,rfl,a.y,a.dy,_,rfl,BO.ins,rfl,_,rfl,a.y,a.dy,a.tb,a.ro,a.la,a.le,a.li,a.dn,s,i,ln,rfl,BO,AX,fun t ql AJ H2 s2 Hw gt Ru T8=>hN _ H2 s2 (.tup (Ay.of gt) (.cons (.int _) (.cons (.int _) (.cons (N1 _) (.cons (.lst (Ap.of Ru) (om T8)) .nil)))))⟩
  have Xu:H L=none:=s1.free hL
  have s2:=s1.new (o := .lst vs) hL
  have g2:(upd H1 L (.lst vs)) L=some (.lst vs):=ac
  have d2:AO K (dN L (upd H1 L (.lst vs))) vs (cC s 0 0):=by
   rw[kc]
   have:dN L H1=H1:=by
    funext b
    unfold dN
    by_cases e:b=L
    ·rw[if_pos e,e,hL]
    ·rw[if_neg e]
   rw[this]
   have:=xC (K:=K) (H:=H1) (f:=Pl) (fun v ln h=>h) pL
   show AO K H1 vs (s.lanes.map Pl ++ [] ++ [])
   rw[append_nil,append_nil]
   exact this
  show cz 3 (V.ref L) _ (upd H1 L (.lst vs)) _
  generalize upd H1 L (.lst vs)=H2 at s2 g2 d2 ⊢
  have N2:∀ i j,(cC s i j).length <= 2700:=fun i j=>by
   unfold cC
   rw[length_append,length_append,length_map,length_map,length_map,length_take,length_take]
   omega
  have fi:∀ {i:Nat}{t:cI},s.Am[i]? = some t->cC s (i + 1) 0=cC s i 0 ++ [Xr t]:=fun {i t} h=>by
   unfold cC
   rw[take_succ,h,map_append]
   simp
  have fj:∀ {n j:Nat}{qs:List (Int × Int)},s.lies[j]? = some qs->cC s n (j + 1)=cC s n j ++ [Xq qs]:=fun {n j qs} h=>by
   unfold cC
   rw[take_succ,h,map_append,← append_assoc]
   rfl
  have D7:=Av.same hY s2
  refine⟨_,rfl,a.y,a.dy,_,rfl,D7.ins,rfl,a.y,a.dy,a.tb,a.ro,a.la,a.le,a.li,a.dn,s,rfl,D7,(s.Am.length:Int),rfl,by omega,by omega,?_⟩
  rw[toNat_natCast]
  refine bH (n:=s.Am.length) (fun i σ H'=>∃ (vs:List V)(a4:Option V),An H H'/\H' L=some (.lst vs)/\AO K (dN L H') vs (cC s i 0)/\σ=[some (.ref a.y),some (.int (s.lies.length:Nat)),some (.ref ll),some (.ref L),a4,none])
   ⟨vs,none,s2,g2,d2,rfl⟩ ?_ ?_
  ·rintro i σ H3 hi ⟨vs,a4,s3,g3,d3,rfl⟩
   rw[zero_add]
   have Pm:=getElem?_eq_getElem hi
   generalize s.Am[i]=t at Pm
   have CB:=Av.same hY s3
   refine⟨_,rfl, .inl ⟨rfl,_,Ap.of g3⟩,_,rfl,a.y,a.dy,_,rfl,CB.ins,rfl,_,rfl,a.y,a.dy,a.tb,a.ro,a.la,a.le,a.li,a.dn,s,i,t,rfl,CB,Pm,fun x H4 s4 gx=>?_⟩
   have IL:=Av.same CB s4
   refine⟨_,rfl,a.y,a.dy,_,rfl,IL.ins,rfl,_,rfl,a.y,a.dy,a.tb,a.ro,a.la,a.le,a.li,a.dn,s,i,t,rfl,IL,Pm,fun y H5 s5 hy gy=>?_⟩
   refine⟨by show 2 <= sizeLine;decide,fun z hz=>?_⟩
   have Pj:=s4.trans s5
   have F0:=Pj.new (o := .tup [.ref x, .ref y]) hz
   have gz:(upd H5 z (.tup [.ref x, .ref y])) z=some (.tup [.ref x, .ref y]):=ac
   have FH:=(An.refl H5).new (o := .tup [.ref x, .ref y]) hz
   generalize upd H5 z (.tup [.ref x, .ref y])=H6 at F0 gz FH ⊢
   have g6:=F0 _ _ g3
   have E5:vs.length <= 2700:=by rw[AO.len d3];exact N2 i 0
   refine⟨L,vs,_,rfl,rfl,g6,by rw[sizeLine_eq];omega,?_⟩
   have Xv:=FH _ _ (s5 _ _ gx)
   have gy6:=FH _ _ gy
   have nx:x ≠ L:=bz Xv g6 (by intro e;cases e)
   have ny:y ≠ L:=fun e=>by rw[e]at hy;rw[s4 _ _ g3]at hy;cases hy
   have nz:z ≠ L:=bz gz g6 (by intro e;cases e)
   refine⟨_,_,fun b o e=>by rw[ai (aj e Xu)];exact F0 _ _ (s3 _ _ e),ac,?_,rfl⟩
   rw[kc,fi Pm]
   exact AO.snoc (.tup (Ay.of (iu nz gz)) (.cons (.tup (Ay.of (iu nx Xv)) (.cons (.int _) (.cons (.int _) (.cons (.int _) (.cons (.int _) .nil))))) (.cons (.lst (Ap.of (iu ny gy6)) (mO _)) .nil))) (AO.same (lm F0) d3)
  rintro σ H3 ⟨RK,a4,s3,g3,d3,rfl⟩
  refine⟨_,rfl,(s.lies.length:Int),rfl,by omega,by omega,?_⟩
  rw[toNat_natCast]
  refine bH (n:=s.lies.length) (fun j σ H'=>∃ (vs:List V)(a5:Option V),An H H'/\H' L=some (.lst vs)/\AO K (dN L H') vs (cC s s.Am.length j)/\σ=[some (.ref a.y),some (.int (s.lies.length:Nat)),some (.ref ll),some (.ref L),a4,a5])
   ⟨RK,none,s3,g3,d3,rfl⟩ ?_ ?_
  ·rintro j σ H4 hj ⟨vs,a5,s4,g4,d4,rfl⟩
   rw[zero_add]
   have T9:=getElem?_eq_getElem hj
   generalize s.lies[j]=qs at T9
   have IL:=Av.same hY s4
   refine⟨_,rfl, .inl ⟨rfl,_,Ap.of g4⟩,_,rfl,a.y,a.dy,_,rfl,IL.ins,rfl,_,rfl,a,s,j,qs,rfl,IL,T9,fun D AJ H5 s5 hD gD T8=>?_⟩
   have g5:=s5 _ _ g4
   have E5:vs.length <= 2700:=by rw[AO.len d4];exact N2 _ j
   refine⟨L,vs,_,rfl,rfl,g5,by rw[sizeLine_eq];omega,?_⟩
   have nD:D ≠ L:=fun e=>by rw[e,g4]at hD;cases hD
   refine⟨_,_,fun b o e=>by rw[ai (aj e Xu)];exact s5 _ _ (s4 _ _ e),ac,?_,rfl⟩
   rw[kc,fj T9]
   refine AO.snoc (.lst (Ap.of (iu nD gD)) (om (AN.imp (fun v q Au=>by obtain⟨t,e,h⟩:=Au;exact⟨t,e,iu (bz h g5 (by intro z;cases z)) h⟩) T8))) (AO.same (lm s5) d4)
  rintro σ H4 ⟨vs4,a5,s4,g4,d4,rfl⟩
  have dL:AO K H4 vs4 (cC s s.Am.length s.lies.length):=AO.same (x5 L H4) d4
  have Jn:=hI.same W' s4
  refine⟨_,rfl,_,rfl,a.y,a.dy,_,rfl,Jn.Y.ins,rfl,a,s,rfl,Jn,fun M AZ H5 s5 hM gM pM=>?_⟩
  have Fl:=Av.same Jn.Y s5
  refine⟨_,rfl,a.y,a.dy,_,rfl,Fl.ins,rfl,a.y,a.dy,a.tb,a.ro,a.la,a.le,a.li,a.dn,s,rfl,Fl,fun Dh DH H6 s6 hDh gDh pDh=>?_⟩
  have Kj:=Av.same Fl s6
  refine⟨_,rfl,a.y,a.dy,_,rfl,Kj.ins,rfl,a.y,a.dy,a.tb,a.ro,a.la,a.le,a.li,a.dn,s,rfl,Kj,HM,Df,fun H7 s7=>?_⟩
  have HY:=Av.same Kj s7
  refine⟨_,rfl,a.y,a.dy,_,rfl,HY.ins,rfl,a.y,a.dy,a.tb,a.ro,a.la,a.le,a.li,a.dn,s,rfl,HY,by show 5 <= sizeLine;decide,fun R hR=>?_⟩
  have Ke:=s6.trans s7
  have Xw:=s5.trans Ke
  have s8:=(An.refl H7).new (o := .lst [.ref L, .ref M, .ref Dh, .bl (zW s), .int (s.Am.length:Nat)]) hR
  have FP:=Xw.trans s8
  refine q _ _ ((s4.trans Xw).trans s8) (.lst (Ap.of ac) (.cons (.lst (Ap.of (FP _ _ g4)) (AO.same FP dL)) (.cons (.lst (Ap.of ((Ke.trans s8) _ _ gM)) (gb (Paired.mono (fun _ _ z=>z.keep (An.AF (Ke.trans s8))) pM))) (.cons (.lst (Ap.of ((s7.trans s8) _ _ gDh)) ?_) (.cons (.bl _) (.cons (.int _) .nil))))))
  exact lw (Paired.mono (fun _ _ z=>BL.keep (An.AF (s7.trans s8)) z) pDh) G9
noncomputable def tq (m:Nat)(A:Nat->YA)(j:Nat):List Addr:=((List.range m).filter fun k=>decide (k ≠ j)).flatMap fun k=>(A k).four
noncomputable def kC (m:Nat)(A:Nat->YA):List Addr:=(List.range m).flatMap fun k=>(A k).four
theorem BP {m:Nat}{A:Nat->YA}{j:Nat}{z:Addr}:z ∈ tq m A j↔∃ k,k < m/\k ≠ j/\z ∈ (A k).four:=by
 unfold tq
 rw[mem_flatMap]
 constructor
 ·rintro⟨k,hk,hz⟩
  obtain⟨h1,h2⟩:=mem_filter.mp hk
  exact⟨k,mem_range.mp h1,of_decide_eq_true h2,hz⟩
 ·rintro⟨k,h1,h2,hz⟩
  exact⟨k,mem_filter.mpr ⟨mem_range.mpr h1,decide_eq_true h2⟩,hz⟩
theorem BQ {m:Nat}{A:Nat->YA}{z:Addr}:z ∈ kC m A↔∃ k,k < m/\z ∈ (A k).four:=by
 unfold kC
 rw[mem_flatMap]
 constructor
 ·rintro⟨k,hk,hz⟩
  exact⟨k,mem_range.mp hk,hz⟩
 ·rintro⟨k,h1,hz⟩
  exact⟨k,mem_range.mpr h1,hz⟩
structure CJ (K:Frag)(c:Cs)(TC:Addr)(J:TJ)(ys:Ys)(m:Nat)(H:Hp)(A:Nat->YA)(S:Nat->YS):Prop where
 Y:∀ j,j < m->C4 K c TC J (yx ys (tq m A j)) H (A j) (S j)
 J:∀ j,j < m->Br (A j) (S j)
 dj:∀ j k,j < m->k < m->j ≠ k->∀ z ∈ (A j).four,z ∉ (A k).four
noncomputable def yA (S:Nat->YS)(j:Nat)(s:YS):Nat->YS:=fun k=>if k=j then s else S k
theorem jh (S:Nat->YS)(j:Nat)(s:YS):yA S j s j=s:=if_pos rfl
theorem fW {S:Nat->YS}{j k:Nat}{s:YS}(h:k ≠ j):yA S j s k=S k:=if_neg h
noncomputable def mT {α:Type}(A:Nat->α)(m:Nat)(a:α):Nat->α:=fun k=>if k=m then a else A k
theorem fc {α:Type}(A:Nat->α)(m:Nat)(a:α):mT A m a m=a:=if_pos rfl
theorem rV {α:Type}{A:Nat->α}{m k:Nat}{a:α}(h:k < m):mT A m a k=A k:=if_neg (by omega)
section
variable {K:Frag}{c:Cs}{TC fw:Addr}{dw:FuncData}{J:TJ}{ys:Ys}{m:Nat}{H H':Hp}{A:Nat->YA}{S:Nat->YS}
theorem CJ.same (W:Wy K TC fw dw J)(h:CJ K c TC J ys m H A S)(e:An H H'):CJ K c TC J ys m H' A S:=⟨fun j hj=>(h.Y j hj).same W e,h.J,h.dj⟩
theorem CJ.Bw (h:CJ K c TC J ys m H A S):∀ z ∈ kC m A,∃ xs,H z=some (.lst xs):=fun z hz=>by
 obtain⟨k,hk,hz⟩:=BQ.mp hz
 exact(h.Y k hk).Y.Bw z hz
theorem og {j:Nat}(hj:j < m):∀ z ∈ (A j).four,z ∈ kC m A:=fun z hz=>BQ.mpr ⟨j,hj,hz⟩
theorem CJ.step (W:Wy K TC fw dw J)(h:CJ K c TC J ys m H A S){j:Nat}(hj:j < m){s':YS}(o:AA (A j).four H H')(hY:Bf K (yx ys (tq m A j)) H' (A j) s')(hJ:Br (A j) s'):CJ K c TC J ys m H' A (yA S j s'):=by
 have kp:=AA.AF (fun z hz=>(h.Y j hj).Y.Bw z hz) o
 refine⟨fun k hk=>?_,fun k hk=>?_,h.dj⟩
 ·by_cases e:k=j
  ·subst e
   rw[jh]
   exact⟨hY,BH.keep W (h.Y k hk).T kp,(h.Y k hk).O,hJ.ok⟩
  ·rw[fW e]
   refine⟨Bf.M7 (h.Y k hk).Y o (fun b hb=>BP.mpr ⟨j,hj,Ne.symm e,hb⟩) (fun b hb Dg=>h.dj k j hk hj e b hb Dg) (fun b hb=>hY.Bw b hb),BH.keep W (h.Y k hk).T kp,(h.Y k hk).O,(h.Y k hk).G⟩
 ·by_cases e:k=j
  ·subst e;rw[jh];exact hJ
  ·rw[fW e];exact h.J k hk
theorem CJ.add (W:Wy K TC fw dw J)(h:CJ K c TC J ys m H A S)(e:An H H'){a:YA}{s:YS}(hY:C4 K c TC J (yx ys (kC m A)) H' a s)(hJ:Br a s)(fr:∀ z ∈ a.four,H z=none):CJ K c TC J ys (m + 1) H' (mT A m a) (mT S m s):=by
 have A1:∀ {k:Nat},k < m->mT A m a k=A k:=fun hk=>rV hk
 have S1:∀ {k:Nat},k < m->mT S m s k=S k:=fun hk=>rV hk
 have cs:∀ {k:Nat},k < m + 1->k=m∨k < m:=fun hk=>by omega
 refine⟨fun k hk=>?_,fun k hk=>?_,fun j k hj hk hn z hz=>?_⟩
 ·rcases cs hk with rfl | hk
  ·rw[fc,fc]
   refine⟨Bf.OR hY.Y (An.refl _) fun b hb => .inl ?_,hY.T,hY.O,hY.G⟩
   obtain⟨i,h1,h2,h3⟩:=BP.mp hb
   rw[A1 (by omega)]at h3
   exact BQ.mpr ⟨i,by omega,h3⟩
  ·rw[A1 hk,S1 hk]
   have hI:=(h.Y k hk).same W e
   refine⟨Bf.OR (h.Y k hk).Y e fun b hb=>?_,hI.T,hI.O,hI.G⟩
   obtain⟨i,h1,h2,h3⟩:=BP.mp hb
   rcases cs h1 with rfl | h1
   ·rw[fc]at h3
    exact .inr ⟨fr b h3,hY.Y.Bw b h3⟩
   ·rw[A1 h1]at h3
    exact .inl (BP.mpr ⟨i,h1,h2,h3⟩)
 ·rcases cs hk with rfl | hk
  ·rw[fc,fc];exact hJ
  ·rw[A1 hk,S1 hk];exact h.J k hk
 ·have old:∀ {i:Nat},i < m->∀ z ∈ (A i).four,z ∉ a.four:=fun hi z hz EZ=>by
   obtain⟨xs,hx⟩:=(h.Y _ hi).Y.Bw z hz
   rw[fr z EZ]at hx;cases hx
  rcases cs hj with rfl | hj
  ·rcases cs hk with rfl | hk
   ·exact absurd rfl hn
   ·rw[fc]at hz
    rw[A1 hk]
    exact fun EZ=>old hk z EZ hz
  ·rw[A1 hj]at hz
   rcases cs hk with rfl | hk
   ·rw[fc];exact old hj z hz
   ·rw[A1 hk];exact h.dj j k hj hk hn z hz
theorem CJ.one {a:YA}{s:YS}(hI:C4 K c TC J (yx ys []) H a s)(hJ:Br a s):CJ K c TC J ys 1 H (fun _=>a) (fun _=>s):=by
 refine⟨fun j hj=>?_,fun j hj=>hJ,fun j k hj hk hn=>absurd (show j=k by omega) hn⟩
 have e:tq 1 (fun _=>a) j=[]:=by
  refine eq_nil_iff_forall_not_mem.mpr fun z hz=>?_
  obtain⟨k,h1,h2,_⟩:=BP.mp hz
  omega
 rw[e]
 exact hI
end
theorem nP {a a':YA}{s:YS}(h1:a'.ps=a.ps)(h2:a'.wy=a.wy):b0 a' s=b0 a s:=by
 obtain⟨y,dy,tb,ro,la,le,li,dn,lx,AL,lt,n,Az,ps,wy⟩:=a
 obtain⟨y',WI,WJ,WK,WL,WM,WN,WO,WQ,MR,lt',n',CV,WR,WS⟩:=a'
 simp only at h1 h2
 subst h1 h2
 rfl
theorem Cw.to {a a':YA}{s s':YS}{m:Mv}(h1:a'.ps=a.ps)(h2:a'.wy=a.wy)(h:Cw a s m s'):Cw a' s m s':=by
 obtain⟨y,dy,tb,ro,la,le,li,dn,lx,AL,lt,n,Az,ps,wy⟩:=a
 obtain⟨y',WI,WJ,WK,WL,WM,WN,WO,WQ,MR,lt',n',CV,WR,WS⟩:=a'
 simp only at h1 h2
 subst h1 h2
 cases h with
 | Bx ht hg hl AX ho=>exact .Bx ht hg hl AX ho
 | on hk hq ht hl AX ho=>exact .on hk hq ht hl AX ho
 | Ca hk hq ht hg he Cy=>exact .Ca hk hq ht hg he Cy
 | back hk hb=>exact .back hk hb
structure Of (a:YA)(n:Nat)(ps:List (Int × Int))(rs:List Rw):Prop where
 ps:a.ps=ps
 wy:a.wy=kG rs
 n:a.n=n
theorem Bb.step {n:Nat}{ps:List (Int × Int)}{rs:List Rw}{rm:List Nat}{ds:List Dd}{s s':YS}{a:YA}{d:Dd}(h:Bb n ps rs rm ds s)(o:Of a n ps rs)(l:kD a s d)(st:Bp a s d s')(hm:ds.length < 100):Bb n ps rs rm (ds ++ [d]) s':=by
 obtain⟨a0,f1,f2,f3,ES⟩:=h.MW
 have ES:C0 a (nV rm) ds s:=ES.to (by rw[o.ps,f1]) (by rw[o.wy,f2]) (by rw[o.n,f3])
 exact⟨h.DF,h.Ba,h.Jf,h.fit,h.HZ,h.Ki,⟨a,o.ps,o.wy,o.n, .cons ES l st⟩,by rw[length_append];show _ + 1 <= 100;omega⟩
theorem Bb.sc {n:Nat}{ps:List (Int × Int)}{rs:List Rw}{rm:List Nat}{ds:List Dd}{s:YS}(h:Bb n ps rs rm ds s):∀ d ∈ s.done,∀ x ∈ d,vZ x:=by
 rw[h.done.1]
 intro d hd
 obtain⟨z,_,rfl⟩:=mem_map.mp hd
 exact ui z
theorem Bb.dl {n:Nat}{ps:List (Int × Int)}{rs:List Rw}{rm:List Nat}{ds:List Dd}{s:YS}(h:Bb n ps rs rm ds s):s.done.length=ds.length:=by rw[h.done.1,length_map]
abbrev NSm:List Str:=["_law_yard", "_law_other", "_law_script", "_law_places", "_law_lanes", "_law_k", "_law_moves", "_law_move"]
noncomputable def pj (P:Program)(w:World)(K:Frag)(c:Cs)(ts:Ts)(ys:Ys):Sp:=fun vs H Q _=>∃ (A:Nat->YA)(S:Nat->YS)(p0 ll:Addr)(ns:List Int)(AB:List V)(n:Nat)(ps:List (Int × Int))(rs:List Rw)(rm:List Nat)(ds:List Dd)(s:YS),vs=[.ref (A 0).y, .ref (A 1).y, .ref p0, .int n, .ref ll]/\CJ K c ts.told (A0 P w ts) ys 3 H A S/\S 0=s/\S 1=s/\Of (A 0) n ps rs/\Of (A 1) n ps rs/\Bb n ps rs rm ds s/\ds.length <= 60 /\
 H p0=some (.lst (ns.map V.int))/\p0 ∉ kC 3 A/\H ll=some (.lst AB)/\ll ∉ kC 3 A/\AB.length=ps.length /\
 ∀ (H':Hp)(S':Nat->YS),CJ K c ts.told (A0 P w ts) ys 3 H' A S'->S' 2=S 2->Q (.bl true) H'
theorem Hc:ao NSm ["_law_yard", "_law_other", "_law_script", "_law_places", "_law_lanes"] (af pF):=L2.AQ
theorem wS {c:Cs}{ts:Ts}{ys:Ys}{f fs fm fo ft TB fw:Addr}{fd Pn dm FO dt dd dw:FuncData}(F:AM K "_law_same" "_law_same" pF f fd)(T:Txt mg)(Y:gS K ys)(W:Wy K ts.told fw dw (A0 P w ts))(ms:mg "_law_stand" = some (.ref fs))(ks:keepIn K (.ref fs)=true)(bs:Binds K Pn ["_law_yard", "_law_places", "_law_lanes"] [])(Gs:∀ ex,Ao P w K mg base aA 8 fs Pn ["_law_yard", "_law_places", "_law_lanes"] (lI K c ts.told (A0 P w ts) (yx ys ex)))
  (mm:bB K ys.Aq "moves" fm) (bm:Binds K dm ["self"] []) (Gm:∀ ex,Ao P w K mg base aA 7 fm dm ["self"] (hG K c ts.told (A0 P w ts) (yx ys ex))) (mo:bB K ys.Aq "do" fo) (bo:Binds K FO ["self", "move"] []) (Go:∀ ex,Ao P w K mg base aA 8 fo FO ["self", "move"] (uc K c ts.told (A0 P w ts) (yx ys ex)))
  (mt:mg "yard_text" = some (.ref ft)) (kt:keepIn K (.ref ft)=true) (bt:Binds K dt ["yard"] []) (Gt:∀ ex,Ao P w K mg base aA 6 ft dt ["yard"] (gY P w K c ts (yx ys ex))) (md:mg "_law_draw" = some (.ref TB)) (kd:keepIn K (.ref TB)=true) (bd:Binds K dd ["_law_script", "_law_k"] []) (Gd:Ao P w K mg base aA 1 TB dd ["_law_script", "_law_k"] (hZ K)) :
  Ao P w K mg base aA 9 f fd ["_law_yard", "_law_other", "_law_script", "_law_places", "_law_lanes"] (pj P w K c ts ys):=by
 refine F.ok Hc (fun vs H Q E h=>?_) (fun cdv A' outer s0 H vs Q E hr h=>?_)
 ·obtain⟨A,S,p0,ll,ns,AB,n,ps,rs,rm,ds,s,rfl,_⟩:=h
  rfl
 ·obtain⟨A,S,p0,ll,ns,AB,n,ps,rs,rm,ds,s,rfl,hD,hS0,Pe,DO,EA,hP,DU,gp,np,gl,nl,CA,q⟩:=h
  have hu:=hr.units
  have AY:Ax 1 _:=hr.mono (by decide)
  have Fu:Ax 6 _:=hr.mono (by decide)
  have EO:Ax 7 _:=hr.mono (by decide)
  refine⟨_,ae (bN PassesOwn.never rfl (aT rfl T.range (aa ag ad)) (av (i:=5) Hc.nd rfl (Or.inl rfl))
    (ae (aP (au (jP hu) (ap (Gs (tq 3 A 0)) hr rfl ms ks bs .nil al (aa (pv 0) (aa (pv 3) (aa (pv 4) ad)))) (ap (Gs (tq 3 A 1)) hr rfl ms ks bs .nil al (aa (pv 1) (aa (pv 3) (aa (pv 4) ad)))) (aw _)) (ah (aq kW)) aD)
    (ae (aC (i:=6) Hc.nd rfl (Or.inl rfl) (bu (pv 0) Y.cl mm (Gm (tq 3 A 0)) EO bm .nil al))
    (ah (aP (au (jP hu) (pv 6) (aO ad) (aw _))
     (ae (aC (i:=7) Hc.nd rfl (Or.inl rfl) (ax aJ (pv 6) (aB bA (ap Gd AY rfl md kd bd .nil al (aa (pv 2) (aa (aB bR ag (pv 5)) ad))) (az ay rfl T.len PySem.boot_len (aa (pv 6) ad))) (fun _ _=>rfl)))
     (ae (aN (aH (pv 0) Y.cl mo (Go (tq 3 A 0)) hr bo .nil al (aa (pv 7) ad)))
     (ah (aN (aH (pv 1) Y.cl mo (Go (tq 3 A 1)) hr bo .nil al (aa (pv 7) ad)))))) aD)))))
   (ah (aq (cj bj (ap (Gt (tq 3 A 0)) Fu rfl mt kt bt .nil al (aa (pv 0) ad)) (ap (Gt (tq 3 A 1)) Fu rfl mt kt bt .nil al (aa (pv 1) ad)) (aw _)))),?_⟩
  refine⟨6,rfl,by decide,by decide,?_⟩
  refine bH (n:=6) (fun i σ H'=>∃ (S':Nat->YS)(Xx:List Dd)(s':YS)(a5 a6 a7:Option V),CJ K c ts.told (A0 P w ts) ys 3 H' A S'/\S' 0=s'/\S' 1=s'/\S' 2=S 2/\Bb n ps rs rm Xx s'/\Xx.length <= 60 + i/\H' p0=some (.lst (ns.map V.int))/\H' ll=some (.lst AB)/\σ=[some (.ref (A 0).y),some (.ref (A 1).y),some (.ref p0),some (.int n),some (.ref ll),a5,a6,a7])
   ⟨S,ds,s,none,none,none,hD,hS0,Pe,rfl,hP,DU,gp,gl,rfl⟩ ?_ ?_
  ·rintro i σ H1 hi ⟨S1,TF,s1,a5,a6,a7,DY,e0,e1,e2,Eo,Fm,Po,Jc,rfl⟩
   rw[zero_add]
   have FL:=DY.Y 0 (by decide)
   have GU:=DY.J 0 (by decide)
   have BO:=DY.Y 1 (by decide)
   have N3:=DY.J 1 (by decide)
   rw[e0]at FL GU
   rw[e1]at BO N3
   have BD:s1.lanes.length=ps.length:=by rw[GU.lanes,DO.ps]
   have Cu:s1.lies.length=n:=by rw[GU.lies,DO.n]
   have Be:=Eo.Ba
   have Rk:=Eo.DF.2
   have hfw:=GU.Ba
   have hdl1:=Eo.dl
   refine⟨_,rfl,_,rfl,_,rfl,A 0,s1,ll,AB,by rw[Cu];rfl,Jc,by omega,FL,by omega,by omega,by omega,Eo.sc,fun v H2 s2 d2=>?_⟩
   refine⟨_,rfl,_,rfl,_,rfl,A 1,s1,ll,AB,by rw[Cu];rfl,s2 _ _ Jc,by omega,BO.same W s2,by omega,by omega,by omega,Eo.sc,fun v3 H3 s3 d3=>?_⟩
   have est:N0 (A 1) s1=N0 (A 0) s1:=by unfold N0;rw[nP (a:=A 0) (a':=A 1) (by rw[DO.ps,EA.ps]) (by rw[DO.wy,EA.wy])]
   rw[est]at d3
   refine neS (Den.same s3 d2) d3 (y9 Eo.sc) ⟨_,rfl,aE ?_⟩
   have DA:=s2.trans s3
   have N4:=FL.same W DA
   refine⟨_,rfl,(A 0).y,(A 0).dy,_,rfl,N4.Y.ins,rfl,A 0,s1,rfl,N4,fun M AZ H4 s4 hM gM pM=>?_⟩
   have Pp:=DA.trans s4
   refine⟨_,rfl,zero_le _,fun e he=>?_⟩
   have s5:=Pp.new (o := .lst []) he
   have DN:=(An.refl H4).new (o := .lst []) he
   refine neN (f:=sJ) (l:=b0 (A 0) s1) (.lst (Ap.of (DN _ _ gM)) (gb (Paired.mono (fun _ _ z=>z.keep (An.AF DN)) pM))) (.lst (Ap.of ac) .nil) (lR _) ⟨_,rfl,?_⟩
   generalize upd H4 e (.lst [])=H5 at s5 DN ⊢
   cases Ka:(b0 (A 0) s1).isEmpty with
   | true=>exact aE ⟨S1,TF,s1,_,_,_,DY.same W s5,e0,e1,e2,Eo,by omega,s5 _ _ Po,s5 _ _ Jc,rfl⟩
   | false =>
    have Bj:b0 (A 0) s1 ≠ []:=fun z=>by rw[z]at Ka;cases Ka
    have FK:AZ.length=(b0 (A 0) s1).length:=by rw[Paired.length pM,length_map]
    have E7:0 < AZ.length:=by rw[FK];exact length_pos_iff.mpr Bj
    refine aL ⟨_,rfl,_,rfl,_,rfl,_,_,rfl,rfl,p0,ns,_,rfl,Ap.of (s5 _ _ Po),by omega,by omega,fun d H6 s6 _=>?_⟩
    have Pq:=s5.trans s6
    have Xy:=DN.trans s6
    have Xz:=Xy _ _ gM
    have pM6:=Paired.mono (fun _ _ z=>BL.keep (An.AF Xy) z) pM
    obtain⟨k,hk⟩:∃ k:Nat,d % (AZ.length:Int)=(k:Int):=pY (emod_nonneg _ (by omega))
    have C3:k < (b0 (A 0) s1).length:=by have:=emod_lt_of_pos d (show (0:Int) < (AZ.length:Int) by omega);omega
    obtain⟨v,hv,tm,rfl,Jo⟩:=Paired.at2 pM6 (show((b0 (A 0) s1).map eI)[k]? = some (eI (b0 (A 0) s1)[k]) by rw[getElem?_map,getElem?_eq_getElem C3];rfl)
    have GY:=getElem_mem C3
    generalize (b0 (A 0) s1)[k]=m at Jo GY
    refine⟨_,rfl,M,_,rfl, .inl (Ap.of Xz),_,_,rfl,rfl,(by show (0:Int) < (AZ.length:Int);omega),M,_,_,_,rfl,rfl,Ap.of Xz,(by rw[hk];exact ak hv),?_⟩
    have hD6:=DY.same W Pq
    have Jq:=FL.same W Pq
    refine⟨_,rfl,(A 0).y,(A 0).dy,_,rfl,Jq.Y.ins,rfl,_,rfl,A 0,s1,tm,m,rfl,Jq,Jo,GY,GU.OQ (by omega),fun H7 s' st off HY=>?_⟩
    have X0:Bp (A 0) s1 (.mv m) { s' with done:=s1.done ++ [eI m] }:=⟨s',st,rfl⟩
    have hP2:=Eo.step DO (d := .mv m) GY X0 (by omega)
    have hJ7:=Bp.DK (a:=A 0) (d := .mv m) GU GY X0
    have X1:=hD6.step W (j:=0) (by decide) off HY hJ7
    have kp:=AA.AF (fun z hz=>Jq.Y.Bw z hz) off
    have TH:=kp _ _ Jo True.intro
    have Jr:=X1.Y 1 (by decide)
    rw[fW (by decide),e1]at Jr
    have N5:m ∈ b0 (A 1) s1:=by rw[nP (a:=A 0) (by rw[DO.ps,EA.ps]) (by rw[DO.wy,EA.wy])];exact GY
    refine⟨_,rfl,(A 1).y,(A 1).dy,_,rfl,Jr.Y.ins,rfl,_,rfl,A 1,s1,tm,m,rfl,Jr,TH,N5,N3.OQ (by omega),fun H8 Mw Hm CD hY8=>?_⟩
    have es:Mw = s':=(Cw.to (a':=A 0) (by rw[DO.ps,EA.ps]) (by rw[DO.wy,EA.wy]) Hm).det st
    subst es
    have hJ8:=Bp.DK (a:=A 1) (d := .mv m) N3 N5 ⟨Mw,Hm,rfl⟩
    have hD8:=X1.step W (j:=1) (by decide) CD hY8 hJ8
    have n0:∀ z,z ∉ kC 3 A->z ∉ (A 0).four/\z ∉ (A 1).four:=fun z hz=>⟨fun h=>hz (og (by decide) z h),fun h=>hz (og (by decide) z h)⟩
    refine⟨_,TF ++ [.mv m],_,_,_,_,hD8,?_,jh _ _ _,?_,hP2,by rw[length_append];show _ + 1 <= _;omega,CD _ _ (n0 p0 np).2 (off _ _ (n0 p0 np).1 (Pq _ _ Po)),CD _ _ (n0 ll nl).2 (off _ _ (n0 ll nl).1 (Pq _ _ Jc)),rfl⟩
    ·rw[fW (by decide),jh]
    ·rw[fW (by decide),fW (by decide)];exact e2
  rintro σ H1 ⟨S1,TF,s1,a5,a6,a7,DY,e0,e1,e2,Eo,Fm,Po,Jc,rfl⟩
  have FL:=DY.Y 0 (by decide)
  have BO:=DY.Y 1 (by decide)
  rw[e0]at FL
  rw[e1]at BO
  have hT:=cE Eo.fit
  refine⟨_,rfl,A 0,s1,rs,rfl,FL,DO.wy,(by rw[DO.ps,DO.n];exact hT),(by rw[DO.ps,DO.n];exact Eo.Jf),Eo.Ia,fun H2 s2=>?_⟩
  refine⟨_,rfl,A 1,s1,rs,rfl,BO.same W s2,EA.wy,(by rw[EA.ps,EA.n];exact hT),(by rw[EA.ps,EA.n];exact Eo.Jf),Eo.Ia,fun H3 s3=>⟨rfl,?_⟩⟩
  rw[DO.ps,DO.n,EA.ps,EA.n,decide_eq_true rfl]
  exact q H3 S1 (DY.same W (s2.trans s3)) e2
end K82
namespace L2
open PySem PySem.Spec
theorem Ao.any {α:Type}{P:Program}{w:World}{K:Frag}{mg:Str->Option Value}{base:Heap}{CX:rX}{k:Nat}{f:Addr}{fd:FuncData}{ps:List Str}{sp:α->Sp}(F:∀ x,Ao P w K mg base CX k f fd ps (sp x))(x₀:α):Ao P w K mg base CX k f fd ps (fun vs H Q E=>∃ x,sp x vs H Q E) :=
 ⟨fun vs H Q E Au=>by obtain⟨x,q⟩:=Au;exact(F x).len vs H Q E q,fun A outer s H args us vs Q E hr he hb hv Au=>by obtain⟨x,hs⟩:=Au;exact(F x).run A outer s H args us vs Q E hr he hb hv hs⟩
end L2
namespace K82
open PySem L2
variable {P:Program}{w:World}{K:Frag}{mg:Str->Option Value}{base:Heap}
theorem t8 {P:Program}{w:World}{K:Frag}{c:Cs}{TC fw:Addr}{dw:FuncData}{J:TJ}{ys:Ys}{ex:List Addr}{H:Hp}{tb lx AL lt:Addr}{n:Nat}{Az:List V}{ps:List (Int × Int)}{wy:Wf}{rs:List Int}{E:XK}(W:Wy K TC fw dw J)
  (hT:BH c TC J H tb lx AL lt n Az ps wy) (Ck:∀ p g k,(wy p g k).length <= 400) (AD:∀ p ∈ ps,gR n p=true) (hR:rs=List.replicate ps.length 1) (CI:rs.length=ps.length) (HU:∀ r ∈ rs,1 <= r/\r <= 60) (hp:ps.length <= 40) (hex:∀ b ∈ ex,∃ xs,H b=some (.lst xs)) :
  ∀ y dy,H y=none->H dy=none->dy ≠ y->iR K c TC J (yx ys ex) [.ref y, .ref tb, .AG] (upd (upd H dy (.own y)) y (.ins ys.Aq dy [])) (fun v H2=>v = .AG/\W2 K c TC J ys ex H tb ps n wy rs (.ref y) H2) E:=by
 intro y dy ny GO GP
 have s4:An H (upd (upd H dy (.own y)) y (.ins ys.Aq dy [])):=An.new (An.new (An.refl H) GO) (by rw[ai (Ne.symm GP)];exact ny)
 have M8:=va CI HU
 refine⟨y,dy,tb,lx,AL,lt,n,Az,ps,wy,_,rs.map V.int,rfl,ac,hT.keep W (An.AF s4),(fun b hb=>let ⟨xs,hz⟩:=hex b hb; ⟨xs,s4 _ _ hz⟩), .inl ⟨rfl,by rw[hR,map_replicate]⟩,fun _ ro la le li dn H5 o5 FI GD II GF hY=>⟨rfl,?_⟩⟩
 have s5:An H H5:=fun b o e=>o5 b o (fun z=>by rw[mem_singleton.mp z,ny]at e;cases e) (s4 _ _ e)
 have hO:JV ⟨y,dy,tb,ro,la,le,li,dn,lx,AL,lt,n,Az,ps,wy⟩:=by
  refine⟨fun l pr hl=>?_,Ck⟩
  have Fw:=AD pr (mem_of_getElem? hl)
  unfold gR at Fw
  simp only[Bool.and_eq_true,decide_eq_true_eq,Bool.not_eq_true',decide_eq_false_iff_not]at Fw
  exact⟨pr.2.toNat,by omega,by show pr.2.toNat < n;omega⟩
 have hJ:Br ⟨y,dy,tb,ro,la,le,li,dn,lx,AL,lt,n,Az,ps,wy⟩ (Y0 (rs.map V.int) n):=(wJ (a:=⟨y,dy,tb,ro,la,le,li,dn,lx,AL,lt,n,Az,ps,wy⟩) (by rw[length_map];exact CI)).DK (zero_le _) (by show ps.length <= 40;omega)
 refine⟨⟨y,dy,tb,ro,la,le,li,dn,lx,AL,lt,n,Az,ps,wy⟩,rfl,rfl,rfl,rfl,rfl,s5,fun z hz=>?_,⟨hY,hT.keep W (An.AF s5),hO,hJ.ok⟩,hJ⟩
 have hz:z ∈ [la,le,li,dn]:=hz
 simp only[mem_cons,not_mem_nil,or_false]at hz
 rcases hz with rfl | rfl | rfl | rfl
 ·exact s4.free FI
 ·exact s4.free GD
 ·exact s4.free II
 ·exact s4.free GF
noncomputable def qL (K:Frag):Sp:=fun vs H Q _=>∃ (a:Addr)(ns:List Int),vs=[.ref a]/\Ap K H a (ns.map V.int)/\ns.length <= 63/\∀ H',Q (.bl true) H'
abbrev X2:List Str:=["_law_script", "_law_places", "_law_lanes", "_law_rows_here", "_law_table", "_law_rooms", "_law_yard", "_law_deeds", "_law_k", "_law_deed_here", "_law_text_here", "_law_other", "_law_beside"]
theorem CZ.fit {n:Nat}{ps:List (Int × Int)}{rs:List Rw}(h:CZ n ps rs):yp n ps rs where
 nd:=by rw[h.keys];exact gN ps n n
 key r hr:=by
  have:eY r ∈ bO ps n n:=by rw[← h.keys];exact mem_map.mpr ⟨r,hr,rfl⟩
  obtain⟨p,g,h1,h2,h3,h4,h5,h6⟩:=io this
  exact⟨p,g,h1,h2,h3,h4,h5,h6⟩
 lanes r hr:=h.lanes r hr
theorem sX (ns:List Int)(lo hi:Option Int):eA (ns.map V.int) lo hi=((ns.drop (HT.BK ns.length 0 lo)).take (HT.BK ns.length ns.length hi - HT.BK ns.length 0 lo)).map V.int:=by
 unfold eA
 rw[length_map,map_take,List.map_drop]
structure Fns (P:Program)(w:World)(K:Frag)(mg:Str->Option Value)(base:Heap)(c:Cs)(ts:Ts)(ys:Ys)(fd fl fr fy fe ft fx fk fs fw:Addr)(dd dl dr dy de dt dx dk ds dw:FuncData):Prop where
 md:mg "_law_draw" = some (.ref fd)
 kd:keepIn K (.ref fd)=true
 bd:Binds K dd ["_law_script", "_law_k"] []
 Gd:Ao P w K mg base aA 1 fd dd ["_law_script", "_law_k"] (hZ K)
 ml:mg "_law_land" = some (.ref fl)
 kl:keepIn K (.ref fl)=true
 bl:Binds K dl ["_law_script"] []
 Gl:Ao P w K mg base aA 2 fl dl ["_law_script"] (tX K)
 mr:mg "_law_rows" = some (.ref fr)
 kr:keepIn K (.ref fr)=true
 br:Binds K dr ["_law_script", "_law_places", "_law_lanes"] []
 Gr:Ao P w K mg base aA 2 fr dr ["_law_script", "_law_places", "_law_lanes"] (tQ K)
 my:mg "Yard" = some (.ref ys.Aq)
 My:Mk K ys.Aq fy
 Pr:Binds K dy ["self", "table", "rooms"] []
 TK:Binds K dy ["self", "table", "rooms"] [Value.none]
 Gy:∀ ex,Ao P w K mg base aA 4 fy dy ["self", "table", "rooms"] (iR K c ts.told (A0 P w ts) (yx ys ex))
 me:mg "_law_deed" = some (.ref fe)
 ke:keepIn K (.ref fe)=true
 be:Binds K de ["_law_yard", "_law_rows_here", "_law_cell", "_law_draw_here"] []
 Ge:Ao P w K mg base aA 9 fe de ["_law_yard", "_law_rows_here", "_law_cell", "_law_draw_here"] (fun vs H Q E=>∃ ex,lN P w K c ts (yx ys ex) vs H Q E)
 mt:mg "yard_text" = some (.ref ft)
 kt:keepIn K (.ref ft)=true
 bt:Binds K dt ["yard"] []
 Gt:Ao P w K mg base aA 6 ft dt ["yard"] (fun vs H Q E=>∃ ex,gY P w K c ts (yx ys ex) vs H Q E)
 mx:mg "_law_text" = some (.ref fx)
 kx:keepIn K (.ref fx)=true
 bx:Binds K dx ["_law_table", "_law_rooms", "_law_deeds"] []
 Gx:Ao P w K mg base aA 7 fx dx ["_law_table", "_law_rooms", "_law_deeds"] (lM P w K c ts)
 mq:mg "read_yard" = some (.ref fk)
 kk:keepIn K (.ref fk)=true
 bk:Binds K dk ["text"] []
 Gk:Ao P w K mg base aA 11 fk dk ["text"] (gG P w K c ts ys)
 ms:mg "_law_same" = some (.ref fs)
 ks:keepIn K (.ref fs)=true
 bs:Binds K ds ["_law_yard", "_law_other", "_law_script", "_law_places", "_law_lanes"] []
 Gs:Ao P w K mg base aA 9 fs ds ["_law_yard", "_law_other", "_law_script", "_law_places", "_law_lanes"] (pj P w K c ts ys)
 W:Wy K ts.told fw dw (A0 P w ts)
 S3:kitOne K (.type "str") (.type "str")=some true
theorem n8 {H:Hp}:∀ {vs as:List V},Paired (fun v (_:V)=>∃ r:Nat,v = .int (r:Int)/\1 <= r/\r <= 60) vs as->∃ rm:List Nat,vs=nV rm/\rm.length=as.length/\∀ r ∈ rm,1 <= r/\r <= 60
 | _,_, .nil=>⟨[],rfl,rfl,fun r hr=>by cases hr⟩
 | _,_, .cons ⟨r,e,h⟩ q=>by
  obtain⟨rm,e1,e2,e3⟩:=n8 (H:=H) q
  refine⟨r :: rm,by rw[e,e1];rfl,by rw[length_cons,length_cons,e2],fun z hz=>?_⟩
  rcases mem_cons.mp hz with rfl | hz
  ·exact h
  ·exact e3 z hz
noncomputable def Aj (P:Program)(w:World)(K:Frag)(c:Cs)(ts:Ts)(ys:Ys)(H4:Hp)(n:Nat)(ps:List (Int × Int))(rs:List Rw)(a:YA)(ra:Addr)(rm:List Nat)(H':Hp):Prop:=An H4 H'/\H' ra=some (.lst (nV rm))/\ra ∉ a.four/\rm.length=ps.length/\(∀ r ∈ rm,1 <= r/\r <= 60)/\Of a n ps rs/\(∀ z ∈ a.four,H4 z=none)/\C4 K c ts.told (A0 P w ts) (yx ys []) H' a (Y0 (nV rm) n)/\Br a (Y0 (nV rm) n)
theorem Bb.DK {n:Nat}{ps:List (Int × Int)}{rs:List Rw}{rm:List Nat}{ds:List Dd}{s:YS}{a:YA}(h:Bb n ps rs rm ds s)(o:Of a n ps rs):Br a s:=by
 obtain⟨a0,f1,f2,f3,ES⟩:=h.MW
 have ES:C0 a (nV rm) ds s:=ES.to (by rw[o.ps,f1]) (by rw[o.wy,f2]) (by rw[o.n,f3])
 refine ES.DK ((wJ (a:=a) ?_).DK (zero_le _) (by rw[o.ps];exact h.Ba))
 rw[du,h.HZ,o.ps]
theorem y8 {m:List V}(h:∀ x ∈ m,vZ x):BZ (.list (m.map vD)) 64:=(bX (m:=0) fun y hy=>by
 obtain⟨x,hx,rfl⟩:=mem_map.mp hy
 rcases h x hx with ⟨i,rfl⟩ | ⟨t,rfl,ht⟩
 ·exact bE _
 ·exact fV ht).le (by decide)
noncomputable def X3 (a:YA)(dl:Addr)(H:Hp)(v:V)(d:Dd):Prop:=∃ t,v = .ref t/\H t=some (.lst (iy d))/\t ∉ a.four/\t ≠ dl
theorem BF:ao X2 ["_law_script"] (af jI):=L2.AQ
theorem TL:Bi X2 (af jI) (eO ((aG jI).getD 4 (.Pass ⟨0,0,0,0⟩))) ["_law_script"] [0]:=L2.B0
theorem TM:(["_law_k", "_law_script"]:List Str).Nodup:=by decide +kernel
theorem zA {c:Cs}{ts:Ts}{ys:Ys}{f fd fl fr fy fe ft fx fk fs fw fi fo:Addr}{df dd dl dr dy de dt dx dk Pn dw di FO:FuncData}(F:AM K "law" "law" jI f df)(T:Txt mg)(M:S8 P w K mg base c ts fi fo di FO)(D:Fns P w K mg base c ts ys fd fl fr fy fe ft fx fk fs fw dd dl dr dy de dt dx dk Pn dw) :
  Ao P w K mg base aA 12 f df ["_law_script"] (qL K):=by
 refine F.ok BF (fun vs H Q E h=>?_) (fun cdv A' outer s0 H vs Q E hr h=>?_)
 ·obtain⟨a,ns,rfl,_⟩:=h
  rfl
 ·obtain⟨sa,ns,rfl,hS,hlen,q⟩:=h
  have hu:=hr.units
  have AY:Ax 1 _:=hr.mono (by decide)
  have Bu:Ax 2 _:=hr.mono (by decide)
  have GL:Ax 5 _:=hr.mono (by decide)
  have Fu:Ax 6 _:=hr.mono (by decide)
  have EO:Ax 7 _:=hr.mono (by decide)
  have X4:Ax 9 _:=hr.mono (by decide)
  have W:=D.W
  refine⟨_,ae (aC (i:=0) BF.nd rfl (Or.inr rfl) (cx dB (pv 0) dD (c6 ag)))
   (ae (jM (ap D.Gl Bu rfl D.ml D.kl D.bl .nil al (aa (pv 0) ad)) (gK rfl (bC (av (i:=1) BF.nd rfl (Or.inl rfl)) (bC (av (i:=2) BF.nd rfl (Or.inl rfl)) eV))))
   (ae (aC (i:=3) BF.nd rfl (Or.inl rfl) (ap D.Gr Bu rfl D.mr D.kr D.br .nil al (aa (pv 0) (aa (pv 1) (aa (pv 2) ad)))))
   (ae (aC (i:=4) BF.nd rfl (Or.inl rfl) (c7 M.Mt M.Gt Fu rfl M.mt M.bt .nil al (aa (c7 M.Mi M.Gi GL rfl M.mi M.bi .nil al (aa (pv 1) (aa (pv 2) ad))) (aa (pv 3) ad))))
   (ae (bZ (i:=5) (own:=["_law_k"]) (capN:=["_law_script"]) (cap:=[0]) TL rfl BF.nd rfl rfl (aT rfl T.range (aa (az ay rfl T.len PySem.boot_len (aa (pv 2) ad)) ad))
    (fun C s' H' fp=>⟨av (i:=0) TM rfl (Or.inl rfl),bc,aB bR ag (aB bA (ap D.Gd AY rfl D.md D.kd D.bd .nil al (aa (pv 1) (aa (aB bR ag (pv 0)) ad))) ag)⟩))
   (ae (aC (i:=6) BF.nd rfl (Or.inl rfl) (eW (c7 D.My (D.Gy []) GL rfl D.my D.Pr .nil al (aa (pv 4) (aa (aY bL rfl T.list PySem.Pv.boot_list (aa (pv 5) ad)) ad)))))
   (ae (jj (aP (au bj (aB bA (ap D.Gd AY rfl D.md D.kd D.bd .nil al (aa (pv 0) (aa ag ad))) ag) ag (aw _))
    (ae (aC (i:=5) BF.nd rfl (Or.inl rfl) (aB zi (aO (aa ag ad)) (az ay rfl T.len PySem.boot_len (aa (pv 2) ad))))
    (ah (aC (i:=6) BF.nd rfl (Or.inl rfl) (eW (c7 D.My (D.Gy []) GL rfl D.my D.TK (dvs:=[.AG]) (.cons rfl .nil) al (aa (pv 4) ad)))))) aD))
   (ae (aC (i:=7) BF.nd rfl (Or.inl rfl) (aO ad))
   (ae (bN PassesOwn.never rfl (aT rfl T.range (aa (az (tf rfl) rfl T.min PyProof.Rows.boot_min (aa ag (aa (az ay rfl T.len PySem.boot_len (aa (pv 0) ad)) ad))) ad)) (av (i:=8) BF.nd rfl (Or.inl rfl))
    (ae (aC (i:=9) BF.nd rfl (Or.inl rfl) (ap D.Ge X4 rfl D.me D.ke D.be .nil al (aa (pv 6) (aa (pv 3) (aa (ax aJ (pv 0) (pv 8) (fun _ _=>rfl)) (aa (ap D.Gd AY rfl D.md D.kd D.bd .nil al (aa (pv 0) (aa (aB bR ag (pv 8)) ad))) ad))))))
    (ah (aP (au (jP hu) (pv 9) (aO ad) (aw _)) (ah (aN (bJ plainAttrs_list PySem.F.slot_list_append PySem.F.type_list_append bG (pv 7) (aa (pv 9) ad)))) aD))))
   (ae (aC (i:=10) BF.nd rfl (Or.inl rfl) (ap D.Gt Fu rfl D.mt D.kt D.bt .nil al (aa (pv 6) ad)))
   (ae (aP (PW.pt (eG (bM (bF (az eN rfl T.Hr PyProof.Rows.boot_isinstance (aa (pv 10) (aa (dU (v := .ty "str") rfl T.str PySem.Pv.boot_str rfl) ad))))) (dc (au jQ (pv 10) (ap D.Gx EO rfl D.mx D.kx D.bx .nil al (aa (pv 4) (aa (pv 5) (aa (pv 7) ad)))) (aw _))))) (ah (aq kW)) aD)
   (ae (aC (i:=11) BF.nd rfl (Or.inl rfl) (ap D.Gk hr rfl D.mq D.kk D.bk .nil al (aa (pv 10) ad)))
   (ae (aC (i:=12) BF.nd rfl (Or.inl rfl) (ap D.Gk hr rfl D.mq D.kk D.bk .nil al (aa (pv 10) ad)))
   (ae (aP (PW.pt (eG (au jQ (ap D.Gt Fu rfl D.mt D.kt D.bt .nil al (aa (pv 11) ad)) (pv 10) (aw _)) (dc (bM (bF (ap D.Gs X4 rfl D.ms D.ks D.bs .nil al (aa (pv 6) (aa (pv 11) (aa (pv 0) (aa (pv 1) (aa (pv 2) ad)))))))))) ) (ah (aq kW)) aD)
   (ah (aq (cj bj (ap D.Gt Fu rfl D.mt D.kt D.bt .nil al (aa (pv 12) ad)) (pv 10) (aw _))))))))))))))))),?_⟩
  refine⟨_,rfl,_,rfl,sa,_,rfl,hS,fun p0 hp0=>?_⟩
  rw[sX]
  generalize (ns.drop (HT.BK ns.length 0 none)).take (HT.BK ns.length ns.length (some 63) - HT.BK ns.length 0 none)=ms
  have g0:(upd H p0 (.lst (ms.map V.int))) p0=some (.lst (ms.map V.int)):=ac
  generalize upd H p0 (.lst (ms.map V.int))=H0 at g0 ⊢
  refine⟨_,rfl,p0,ms,rfl,Ap.of g0,fun t0 l n AB ps H1 s1 gt gl Ff Be hn Ea=>?_⟩
  refine⟨t0,_,rfl,Ay.of gt,rfl,_,_,rfl,_,_,rfl,rfl,?_⟩
  have CA:AB.length=ps.length:=Paired.length Ff
  refine⟨_,rfl,_,rfl,_,rfl,p0,l,ms,n,AB,ps,rfl,Ap.of (s1 _ _ g0),gl,Ff,Be,hn,fun rl AH rs H2 s2 Jl hR AD CI=>?_⟩
  have BX:=AD.fit
  refine⟨_,rfl,_,rfl,fun x dx nx E3 DG=>rh nx E3 DG (s2 _ _ gl) (AN.same s2 Ff) ⟨by omega,hn.2⟩ Be Ea fun H3 lt Az s3 hL=>⟨rfl,_,rfl,?_⟩⟩
  refine fun y dy ny GO GP=>rf ny GO GP hL (s3 _ _ Jl) (By.same s3 hR) hn.2 Be BX CI fun H4 s4 ER=>⟨rfl,?_⟩
  have DJ:=s3.trans s4
  have Pp:=s2.trans DJ
  have Js:=Pp _ _ (s1 _ _ g0)
  have Pt:=Pp _ _ gl
  have TN:=DJ _ _ Jl
  have hR4:=By.same DJ hR
  have TQ:∀ r ∈ rs,∀ k ∈ r.s,k < 40:=fun r Cp k hk=>lt_of_lt_of_le (gO ((BX.lanes r Cp).1 k hk)) Be
  have Ck:∀ p g k,(kG rs p g k).length <= 400:=fun p g k=>le_trans (oT TQ p g k).2 (by decide)
  refine⟨_,rfl,l,_,rfl, .inl (Ap.of Pt),(AB.length:Int),rfl,by omega,by omega,?_⟩
  rw[toNat_natCast]
  refine oA (R:=fun _ v (_:V)=>∃ r:Nat,v = .int (r:Int)/\1 <= r/\r <= 60) (fun _ _ _ h=>h) AB (by rw[sizeLine_eq];omega) (fun i v H5 N hv s5 hN=>?_) (fun ra vs H5 s5 Pa pR=>?_)
  ·have hi:=cb hv
   refine⟨_,rfl,_,rfl,_,_,rfl,rfl,p0,ms,_,rfl,Ap.of (s5 _ _ Js),by omega,by omega,fun d H6 s6 _=>⟨_,_,rfl,rfl,(by show (0:Int) < 4;decide),_,_,rfl,rfl,?_⟩⟩
   refine hN _ H6 s6 ⟨(1 + d % 4).toNat,?_,by omega,by omega⟩
   show V.int (1 + d % 4)=_
   congr 1
   omega
  obtain⟨rm,rfl,F6,N6⟩:=n8 (H:=H5) pR
  have F6:rm.length=ps.length:=by rw[F6,CA]
  have DN:=s5.new (o := .lst (nV rm)) Pa
  have g5:(upd H5 ra (.lst (nV rm))) ra=some (.lst (nV rm)):=ac
  show cz 5 (V.ref ra) _ (upd H5 ra (.lst (nV rm))) _
  generalize upd H5 ra (.lst (nV rm))=H6 at DN g5 ⊢
  have ez:∀ rm:List Nat,nV rm=(iz rm).map V.int:=fun rm=>m8 rm
  refine⟨fun v H'=>∃ a:YA,v = .ref a.y/\Aj P w K c ts ys H4 n ps rs a ra rm H',?_,?_⟩
  ·refine⟨_,rfl,_,rfl,ra,_,rfl, .inl (Ap.of g5),fun lc hlc=>?_⟩
   have s6:=(An.refl H6).new (o := .lst (nV rm)) hlc
   have g6:(upd H6 lc (.lst (nV rm))) lc=some (.lst (nV rm)):=ac
   show ∀ y dy,(upd H6 lc (.lst (nV rm))) y=none->_
   generalize upd H6 lc (.lst (nV rm))=H7 at s6 g6 ⊢
   intro z dz nz TU TV
   refine ju (q5 (P:=P) (w:=w) (E:=fun _ _ _=>False) W (ER.keep W (An.AF (DN.trans s6))) Ck Ea (by rw[← ez];exact Ap.of g6) (by unfold iz;rw[length_map];exact F6) (fun r Cp=>by obtain⟨k,hk,rfl⟩:=Bq.mp Cp;have:=N6 k hk;omega) Be (fun b hb=>by cases hb) z dz nz TU TV) ?_
   rintro v H8 ⟨rfl,a,e1,e2,e3,e4,e5,s8,DL,Dc,hJ⟩
   rw[← ez]at Dc hJ
   have FP:=DN.trans (s6.trans s8)
   refine⟨rfl,a,e1,FP,s8 _ _ (s6 _ _ g5),fun hz=>?_,F6,N6,⟨e3,e5,e4⟩,fun q hq=>(DN.trans s6).free (DL q hq),Dc,hJ⟩
   have:=DL ra hz
   rw[s6 _ _ g5]at this
   cases this
  rintro _ H7 ⟨a0,rfl,TX⟩
  refine⟨fun σ H'=>∃ (a:YA)(ra:Addr)(rm:List Nat),Aj P w K c ts ys H4 n ps rs a ra rm H'/\σ=[some (.ref p0),some (.int n),some (.ref l),some (.ref rl),some (.ref y),some (.ref ra),some (.ref a.y),none,none,none,none,none,none],?_,?_⟩
  ·refine⟨_,rfl,p0,ms,3,rfl,Ap.of (TX.1 _ _ Js),by decide,by decide,fun d H8 s8 _=>⟨_,_,rfl,rfl,(by show (0:Int) < 4;decide),rfl,_,rfl,?_⟩⟩
   have FP:=TX.1.trans s8
   refine zO (fun _=>?_) fun _=>?_
   ·refine⟨by show 1 <= sizeLine;decide,fun o1 FN=>?_⟩
    have s9:=FP.new (o := .lst [.int 1]) FN
    have g9:(upd H8 o1 (.lst [.int 1])) o1=some (.lst [.int 1]):=ac
    generalize upd H8 o1 (.lst [.int 1])=H9 at s9 g9 ⊢
    refine⟨_,rfl,l,_,rfl, .inl (Ap.of (s9 _ _ Pt)),o1,(AB.length:Int),_,rfl,rfl,g9,by omega,by omega,by rw[toNat_natCast,sizeLine_eq];show 1 * _ <= _;omega,fun o2 B9=>?_⟩
    have er:(List.replicate ((AB.length:Int)).toNat [V.int 1]).flatten=nV (List.replicate ps.length 1):=by
     rw[toNat_natCast,CA]
     unfold nV
     rw[map_replicate]
     generalize ps.length=k
     induction k with
     | zero=>rfl
     | succ k ih=>rw[replicate_succ,flatten_cons,ih];rfl
    rw[er]
    have BY:=s9.new (o := .lst (nV (List.replicate ps.length 1))) B9
    have E4:(upd H9 o2 (.lst (nV (List.replicate ps.length 1)))) o2=some (.lst (nV (List.replicate ps.length 1))):=ac
    show cz 5 (V.ref o2) _ (upd H9 o2 (.lst (nV (List.replicate ps.length 1)))) _
    generalize upd H9 o2 (.lst (nV (List.replicate ps.length 1)))=C9 at BY E4 ⊢
    refine⟨fun v H'=>∃ a:YA,v = .ref a.y/\Aj P w K c ts ys H4 n ps rs a o2 (List.replicate ps.length 1) H',?_,?_⟩
    ·refine⟨_,rfl,fun z dz nz TU TV=>?_⟩
     have hiz:iz (List.replicate ps.length 1)=List.replicate ps.length 1:=by unfold iz;rw[map_replicate];rfl
     refine ju (t8 (P:=P) (w:=w) (E:=fun _ _ _=>False) (rs:=List.replicate ps.length 1) W (ER.keep W (An.AF BY)) Ck Ea rfl (length_replicate ..) (fun r Cp=>by rw[eq_of_mem_replicate Cp];decide) Be (fun b hb=>by cases hb) z dz nz TU TV) ?_
     rintro v FQ ⟨rfl,a,e1,e2,e3,e4,e5,DB,DL,Dc,hJ⟩
     rw[← hiz,← ez]at Dc hJ
     refine⟨rfl,a,e1,BY.trans DB,DB _ _ E4,fun hz=>?_,length_replicate ..,fun r Cp=>by rw[eq_of_mem_replicate Cp];decide,⟨e3,e5,e4⟩,fun q hq=>BY.free (DL q hq),Dc,hJ⟩
     have:=DL o2 hz
     rw[E4]at this
     cases this
    rintro _ FQ ⟨a,rfl,hN⟩
    exact⟨a,o2,_,hN,rfl⟩
   ·obtain⟨h1,h2,h3,h4,h5,h6,h7,h8,h9⟩:=TX
    exact⟨a0,ra,rm,⟨FP,s8 _ _ h2,h3,h4,h5,h6,h7,h8.same W s8,h9⟩,rfl⟩
  clear g5 DN
  rintro σ H8 ⟨a,Pu,Hd,⟨FP,Pk,nra,N7,N8,hO,DL,Dc,hJ⟩,rfl⟩
  refine⟨zero_le _,fun dl DU=>?_⟩
  have X5:dl ∉ a.four:=jS Dc.Y DU
  have TY:H4 dl=none:=FP.free DU
  have N9:=(An.refl H8).new (o := .lst []) DU
  have TZ:=FP.trans N9
  have g9:(upd H8 dl (.lst [])) dl=some (.lst []):=ac
  have nrd:Pu ≠ dl:=aj Pk DU
  have Ua:Bf K (yx ys [dl]) (upd H8 dl (.lst [])) a (Y0 (nV Hd) n):=Bf.OR Dc.Y N9 fun b hb=>by
   rw[mem_singleton.mp hb]
   exact .inr ⟨DU,_,ac⟩
  have Ub:=Dc.T.keep W (An.AF N9)
  have NA:=Dc.O
  show cz 7 (V.ref dl) _ (upd H8 dl (.lst [])) _
  generalize upd H8 dl (.lst [])=H9 at N9 TZ g9 Ua Ub ⊢
  have gp9:=TZ _ _ Js
  have hP0:Bb n ps rs Hd [] (Y0 (nV Hd) n):=⟨⟨by omega,hn.2⟩,Be,Ea,BX,N7,N8,⟨a,hO.ps,hO.wy,hO.n,by rw[← hO.n];exact .nil⟩,by decide⟩
  obtain⟨kk,hkk,hk28,C3⟩:∃ kk:Nat,(if (((ms.map V.int).length:Nat):Int) < 28 then (((ms.map V.int).length:Nat):Int) else 28)=(kk:Int)/\kk <= 28/\kk <= ms.length:=by
   rw[length_map]
   by_cases h:(ms.length:Int) < 28
   ·exact⟨ms.length,by rw[if_pos h],by omega,le_refl _⟩
   ·exact⟨28,by rw[if_neg h];rfl,le_refl _,by omega⟩
  refine⟨_,rfl,p0,_,rfl, .inl (Ap.of gp9),28,_,rfl,(kk:Int),congrArg (fun z=>[V.int z]) hkk,by omega,by omega,?_⟩
  rw[toNat_natCast]
  refine bH (n:=kk) (fun i σ H'=>∃ (s:YS)(ds:List Dd)(dvs:List V)(a8 a9:Option V),An H4 H'/\AV H9 H'/\Bf K (yx ys [dl]) H' a s/\Bb n ps rs Hd ds s/\ds.length <= i/\H' Pu = some (.lst (nV Hd))/\H' dl=some (.lst dvs)/\Paired (X3 a dl H') dvs ds/\σ=[some (.ref p0),some (.int n),some (.ref l),some (.ref rl),some (.ref y),some (.ref Pu),some (.ref a.y),some (.ref dl),a8,a9,none,none,none])
   ⟨_,[],[],none,none,TZ,fun _ _ e _=>e,Ua,hP0,le_refl _,N9 _ _ Pk,g9, .nil,rfl⟩ ?_ ?_
  ·rintro i σ C9 hi ⟨s,ds,dvs,a8,a9,BY,Kk,EB,hP,hdi,Ep,DC,pD,rfl⟩
   rw[zero_add]
   have F7:=hP.DK hO
   have He:C4 K c ts.told (A0 P w ts) (yx ys [dl]) C9 a s:=⟨EB,Ub.keep W Kk,NA,F7.ok⟩
   have him:i < ms.length:=by omega
   have hmi:(ms.map V.int)[i]? = some (V.int ms[i]):=by rw[getElem?_map,getElem?_eq_getElem him];rfl
   refine⟨_,rfl,_,rfl,_,rfl,_,rfl,p0,_,(i:Int),_,rfl,rfl,Ap.of (BY _ _ Js),ak hmi,_,rfl,_,rfl,_,_,rfl,rfl,p0,ms,_,rfl,Ap.of (BY _ _ Js),by omega,by omega,fun d FQ DB _=>?_⟩
   have Jt:=BY.trans DB
   have Ju:=He.same W DB
   have hdl0:=hP.dl
   have Uc:Paired (X3 a dl FQ) dvs ds:=Paired.mono (fun v x Au=>by obtain⟨t,e,h,nt⟩:=Au;exact⟨t,e,DB _ _ h,nt⟩) pD
   refine⟨[dl],a,s,rl,AH,rs,ms[i],d,rfl,Ju,F7,by omega,Jt _ _ TN,By.same Jt hR4,by rw[hO.n,hO.ps];exact AD,hO.wy,CI,fun Dn F8 DI Hf HH=>?_,fun Dn F8 xd s' hLg hSt off Ud Hf HH=>?_⟩
   ·refine⟨_,rfl,zero_le _,fun e he=>?_⟩
    have DA:=DI.new (o := .lst []) he
    have Ue:=(An.refl F8).new (o := .lst []) he
    refine neN (f:=vD) (l:=[]) (.lst (Ap.of (Ue _ _ HH)) .nil) (.lst (Ap.of ac) .nil) CY ⟨_,rfl,aE ?_⟩
    have CK:=DB.trans DA
    exact⟨s,ds,dvs,_,_,BY.trans CK,Kk.trans (An.AF CK),Av.same EB CK,hP,by omega,CK _ _ Ep,CK _ _ DC,Paired.mono (fun v x Au=>by obtain⟨t,e,h,nt⟩:=Au;exact⟨t,e,CK _ _ h,nt⟩) pD,rfl⟩
   ·refine⟨_,rfl,zero_le _,fun e he=>?_⟩
    have DA:=(An.refl F8).new (o := .lst []) he
    refine neN (f:=vD) (l:=iy xd) (.lst (Ap.of (DA _ _ HH)) (kz (ui xd))) (.lst (Ap.of ac) .nil) (y8 (ui xd)) ⟨_,rfl,?_⟩
    rw[show(iy xd).isEmpty=false by rw[k7];rfl]
    generalize upd F8 e (.lst [])=FR at DA ⊢
    have DD:AA a.four FQ FR:=off.trans (An.AW DA)
    have F9:=DD _ _ X5 (DB _ _ DC)
    have hlen:dvs.length=ds.length:=Paired.length pD
    refine aL ⟨_,rfl, .inl ⟨rfl,_,Ap.of F9⟩,_,rfl,dl,dvs,_,rfl,rfl,F9,by rw[sizeLine_eq];omega,?_⟩
    have GF:Dn ≠ dl:=fun z=>by rw[z,DB _ _ DC]at Hf;cases Hf
    have nd4:Dn ∉ a.four:=jS Ju.Y Hf
    have kU:AV FR (upd FR dl (.lst (dvs ++ [.ref Dn]))):=nW F9
    have k13:AV H9 FR:=(Kk.trans (An.AF DB)).trans (AA.AF (fun z hz=>Ju.Y.Bw z hz) DD)
    refine⟨s',ds ++ [xd],dvs ++ [.ref Dn],_,_,fun b o e'=>?_,k13.trans kU,?_,hP.step hO hLg hSt (by omega),by rw[length_append];show _ + 1 <= _;omega,?_,ac,?_,rfl⟩
    ·rw[ai (aj e' TY)]
     exact DD b o (fun z=>by rw[DL b z]at e';cases e') (Jt _ _ e')
    ·refine Bf.M7 (e:=[dl]) (Av.same Ud DA) (fun b o nb e'=>by rw[ai (fun z=>nb (by rw[z];exact mem_singleton.mpr rfl))];exact e') (fun b hb=>hb) (fun b hb Dg=>X5 (by rw[← mem_singleton.mp Dg];exact hb)) (fun b hb=>⟨dvs ++ [.ref Dn],by rw[mem_singleton.mp hb];exact ac⟩)
    ·rw[ai nrd]
     exact DD _ _ nra (DB _ _ Ep)
    ·refine Paired.snoc ⟨Dn,rfl,by rw[ai GF];exact DA _ _ HH,nd4,GF⟩ (Paired.mono (fun v x Au=>by obtain⟨t,e',h,nt,ht⟩:=Au;exact⟨t,e',by rw[ai ht];exact DD _ _ nt h,nt,ht⟩) Uc)
  rintro σ C9 ⟨s,ds,dvs,a8,a9,BY,Kk,EB,hP,hdi,Ep,DC,pD,rfl⟩
  have F7:=hP.DK hO
  have EB:Bf K (yx ys []) C9 a s:=Bf.OR EB (An.refl _) fun b hb=>by cases hb
  have He:C4 K c ts.told (A0 P w ts) (yx ys []) C9 a s:=⟨EB,Ub.keep W Kk,NA,F7.ok⟩
  have Ug:=cE BX
  have NB:=BY _ _ Js
  have NC:=BY _ _ Pt
  have X6:∀ {z:Addr},H4 z ≠ none->z ∉ a.four:=fun hz h=>hz (DL _ h)
  have npp:p0 ∉ a.four:=X6 (by rw[Js];intro z;cases z)
  have nll:l ∉ a.four:=X6 (by rw[Pt];intro z;cases z)
  clear Kk Ua
  refine⟨_,rfl,[],a,s,rs,rfl,He,hO.wy,(by rw[hO.ps,hO.n];exact Ug),(by rw[hO.ps,hO.n];exact Ea),hP.Ia,fun FQ DB=>?_⟩
  rw[hO.ps,hO.n]
  refine⟨_,rfl,_,_,_,_,rfl, .str _,D.S3,_,rfl,aE ?_⟩
  have NG:=ER.keep W (An.AF (BY.trans DB))
  refine⟨_,rfl,_,rfl,_,rfl,_,rfl,y,x,dx,lt,Pu,dl,n,Az,dvs,ps,rs,Hd,ds,s,rfl,NG,hP,DB _ _ Ep,DB _ _ DC,Paired.mono (fun v x Au=>by obtain⟨t,e,h,_,_⟩:=Au;exact⟨t,e,DB _ _ h⟩) pD,fun F8 DI=>⟨rfl,_,rfl,?_⟩⟩
  rw[decide_eq_true rfl]
  refine aE ?_
  have Er:=DB.trans DI
  have DY:CJ K c ts.told (A0 P w ts) ys 1 F8 (fun _=>a) (fun _=>s):=CJ.one (He.same W Er) F7
  refine⟨_,rfl,n,ps,rs,Hd,ds,s,kC 1 (fun _=>a),rfl,hP,DY.Bw,fun b1 FR e1 e2 e3 DA X7 DX N3=>?_⟩
  have BB:=CJ.add W DY DA DX N3 X7
  refine⟨_,rfl,n,ps,rs,Hd,ds,s,kC 2 (mT (fun _=>a) 1 b1),rfl,hP,BB.Bw,fun b2 Es f1 f2 f3 NH X8 C5 hJ2=>?_⟩
  have X9:=CJ.add W BB NH C5 hJ2 X8
  have NJ:=Er.trans (DA.trans NH)
  refine⟨_,rfl,_,b1,s,rs,rfl,(X9.Y 1 (by decide)),e2,(by rw[e1,e3];exact Ug),(by rw[e1,e3];exact Ea),hP.Ia,fun NK XA=>⟨_,rfl,rfl,_,rfl,?_⟩⟩
  rw[e1,e3,decide_eq_true rfl]
  refine aE ?_
  have Uh:=X9.same W XA
  have Ic:=NJ.trans XA
  have nF:∀ {z:Addr}{o:HO},z ∉ a.four->C9 z=some o->z ∉ kC 3 (mT (mT (fun _=>a) 1 b1) 2 b2):=fun {z o} hn hz hm=>by
   obtain⟨k,hk,EZ⟩:=BQ.mp hm
   have hk:k=0∨k=1∨k=2:=by omega
   rcases hk with rfl | rfl | rfl
   ·exact hn EZ
   ·have:=X7 z EZ
    rw[Er _ _ hz]at this
    cases this
   ·have:=X8 z EZ
    rw[DA _ _ (Er _ _ hz)]at this
    cases this
  refine⟨_,rfl,_,rfl,_,rfl,_,rfl,_,rfl,_,_,p0,l,ms,AB,n,ps,rs,Hd,ds,s,rfl,Uh,rfl,rfl,hO,⟨e1,e2,e3⟩,hP,by omega,Ic _ _ NB,nF npp NB,Ic _ _ NC,nF nll NC,CA,fun NM S16 Ui e16=>?_⟩
  refine⟨_,rfl,aE ?_⟩
  have NN:=Ui.Y 2 (by decide)
  rw[e16]at NN
  refine⟨_,rfl,_,b2,s,rs,rfl,NN,f2,(by rw[f1,f3];exact Ug),(by rw[f1,f3];exact Ea),hP.Ia,fun FA s17=>⟨_,rfl,rfl,?_⟩⟩
  rw[f1,f3,decide_eq_true rfl]
  exact q _
theorem len_of1 {α:Type}{P:List α->Prop}(h:∀ a0,P [a0]):∀ us:List α,us.length=1->P us
 | [a0],_=>h a0
theorem len_of2 {α:Type}{P:List α->Prop}(h:∀ a0 a1,P [a0,a1]):∀ us:List α,us.length=2->P us
 | [a0,a1],_=>h a0 a1
theorem len_of3 {α:Type}{P:List α->Prop}(h:∀ a0 a1 a2,P [a0,a1,a2]):∀ us:List α,us.length=3->P us
 | [a0,a1,a2],_=>h a0 a1 a2
theorem len_of4 {α:Type}{P:List α->Prop}(h:∀ a0 a1 a2 a3,P [a0,a1,a2,a3]):∀ us:List α,us.length=4->P us
 | [a0,a1,a2,a3],_=>h a0 a1 a2 a3
theorem len_of5 {α:Type}{P:List α->Prop}(h:∀ a0 a1 a2 a3 a4,P [a0,a1,a2,a3,a4]):∀ us:List α,us.length=5->P us
 | [a0,a1,a2,a3,a4],_=>h a0 a1 a2 a3 a4
structure FT (K:Frag)(mg:Str->Option Value)(n:Str)(st:Stmt)(ps:List Str)(f:Addr)(fd:FuncData):Prop where
 F:AM K n n st f fd
 m:mg n=some (.ref f)
 k:keepIn K (.ref f)=true
 b:Binds K fd ps []
structure FM (K:Frag)(C:Addr)(n q:Str)(st:Stmt)(ps:List Str)(f:Addr)(fd:FuncData):Prop where
 F:AM K n q st f fd
 m:bB K C n f
 b:Binds K fd ps []
section
variable {K:Frag}{mg:Str->Option Value}{C f:Addr}{n q:Str}{st:Stmt}{ps:List Str}{h:Heap}{oc:Value}{od an:Option Addr}{Eg:Array (Option Value)}{kV doc pm cdv ct:Value}
theorem mkT (X:K.In h)(G:h.Ns mainGlobals mg)(hb:∀ (kV doc pm:Value) (an:Option Addr) (cdv ct:Value) (us:List Value),us.length=ps.length->bindArgs (fnOf n n (bP st) (aG st) (af st) .none kV doc pm an cdv ct) ⟨us,[]⟩ = pure (ps.zip us))
  (a:nsIn K mainGlobals n=some (some (.ref f))) (l:K.lookup f=some ⟨oc,od, .func (fnOf n n (bP st) (aG st) (af st) .none kV doc pm an cdv ct),Eg⟩) (c:codeIn K cdv n=true) (k:keepIn K (.ref f)=true):∃ fd,FT K mg n st ps f fd :=
 ⟨_,kj l c k,mg_of X G a,k,(kj l c k).binds hb⟩
theorem mkM (hb:∀ (kV doc pm:Value) (an:Option Addr) (cdv ct:Value) (us:List Value),us.length=ps.length->bindArgs (fnOf n q (bP st) (aG st) (af st) .none kV doc pm an cdv ct) ⟨us,[]⟩ = pure (ps.zip us))
  (a:findIn K (.ref C) n=some (some (.ref f))) (l:K.lookup f=some ⟨oc,od, .func (fnOf n q (bP st) (aG st) (af st) .none kV doc pm an cdv ct),Eg⟩) (c:codeIn K cdv q=true) (k:keepIn K (.ref f)=true) (i:isFn K (.ref f)=true):∃ fd,FM K C n q st ps f fd :=
 ⟨_,kj l c k,⟨a,i,k⟩,(kj l c k).binds hb⟩
end
section
variable {l:PySem.W.OpenLaw}{w:World}{K:Frag}{h:Heap}{mg:Str->Option Value}{fa cL cB cD cA cH cJ f1 f2 f3 f4 f5 f6 f7 f8 f9 XB O8 XC XD XE XF XG XH XI XJ XM XN XO XQ XR XS XT XU XW XX XY XZ Ya Yb Yc Ye Yf Uj Pw Uk Yg Ul Px Py NO Um Yh Uo Yi Up Uq Yj Yk Ur Yl Jv Kl Us Ut Uu Uv Uw Ym Ux Yn Uy Uz U0 U1 U2 U3 U4 U5 U6 U7 U8 U9:Addr}{t1 t2 t3 t4 t5 t6 t7:Tok}
theorem all_mk (X:K.In h)(G:h.Ns mainGlobals mg)(hfa:mg "law" = some (.ref fa))
  {UA NP UB Jw UC NQ:Option Addr} {UD UE UG:Array (Option Value)} {UH NR NS NU Jx NV UI Jy Jz J0 Hg J4 UJ NW NX NY J5 NZ:Value}
  {Oa Ob:Addr} {UK UL:Value} {UM UN:Option Addr} {UO UP:Nat} {UQ:Tok}  {UR US:Array (Option Value)}
  (gcL:nsIn K mainGlobals "Land" = some (some (.ref cL)))
  (gcB:nsIn K mainGlobals "Table" = some (some (.ref cB)))
  (gcD:nsIn K mainGlobals "Told" = some (some (.ref cD)))
  (gcA:nsIn K mainGlobals "Lane" = some (some (.ref cA)))
  (gcH:nsIn K mainGlobals "Letter" = some (some (.ref cH)))
  (gcJ:nsIn K mainGlobals "Yard" = some (some (.ref cJ)))
  (h1:∃ d,FT K mg "has" wB ["some", "number"] f1 d)
  (h2:∃ d,FT K mg "members" uu ["some"] f2 d)
  (h3:∃ d,FT K mg "set_of" yJ ["numbers"] f3 d)
  (h4:∃ d,FT K mg "is_whole" gH ["value"] f4 d)
  (h5:∃ d,FT K mg "is_within" ji ["value", "least", "most"] f5 d)
  (h6:∃ d,FT K mg "is_one_of" yL ["value", "numbers"] f6 d)
  (h7:∃ d,FT K mg "are_two_places" yH ["places", "one", "other"] f7 d)
  (h8:∃ d,FT K mg "row_fits" nr ["land", "row"] f8 d)
  (h9:∃ d,FT K mg "onward" QV ["table", "lane", "goal"] f9 d)
  (h10:∃ d,FT K mg "rooms_of" gI ["land", "rooms"] XB d)
  (h11:∃ d,FT K mg "is_word" uk ["word"] O8 d)
  (h12:∃ d,FT K mg "is_move" nk ["move"] XC d)
  (h13:∃ d,FT K mg "words_of" p7 ["row"] XD d)
  (h14:∃ d,FT K mg "number_of" ij ["word"] XE d)
  (h15:∃ d,FT K mg "signed_of" lT ["word"] XF d)
  (h16:∃ d,FT K mg "written" jC ["thing"] XG d)
  (h17:∃ d,FT K mg "row_of" jG ["things"] XH d)
  (h18:∃ d,FT K mg "way_rows" jD ["table", "place", "goal"] XI d)
  (h19:∃ d,FT K mg "table_rows" fD ["table"] XJ d)
  (h20:∃ d,FT K mg "table_text" jE ["table"] XM d)
  (h21:∃ d,FT K mg "yard_text" jB ["yard"] XN d)
  (h22:∃ d,FT K mg "rows_of" ie ["text"] XO d)
  (h23:∃ d,FT K mg "read_way" fE ["words"] XQ d)
  (h24:∃ d,FT K mg "make_table" fF ["rows"] XR d)
  (h25:∃ d,FT K mg "do_deed" nu ["yard", "words"] XS d)
  (h26:∃ d,FT K mg "rooms_at" jH ["rows"] XT d)
  (h27:∃ d,FT K mg "make_yard" ik ["rows"] XU d)
  (h28:∃ d,FT K mg "read_yard" iA ["text"] XW d)
  (h29:∃ d,FT K mg "_law_draw" u5 ["_law_script", "_law_k"] XX d)
  (h30:∃ d,FT K mg "_law_land" uz ["_law_script"] XY d)
  (h31:∃ d,FT K mg "_law_rows" iS ["_law_script", "_law_places", "_law_lanes"] XZ d)
  (h32:∃ d,FT K mg "_law_word" pE ["_law_cell"] Ya d)
  (h33:∃ d,FT K mg "_law_deed" jJ ["_law_yard", "_law_rows_here", "_law_cell", "_law_draw_here"] Yb d)
  (h34:∃ d,FT K mg "_law_text" iB ["_law_table", "_law_rooms", "_law_deeds"] Yc d)
  (h35:∃ d,FT K mg "_law_stand" jF ["_law_yard", "_law_places", "_law_lanes"] Ye d)
  (h36:∃ d,FT K mg "_law_same" pF ["_law_yard", "_law_other", "_law_script", "_law_places", "_law_lanes"] Yf d)
  (a37:nsIn K mainGlobals "law" = some (some (.ref Uj)))
  (l37:K.lookup Uj=some ⟨UH,UA, .func (fnOf "law" "law" (bP jI) (aG jI) (af jI) .none NR NS NU NP Jx NV),UD⟩)
  (c37:codeIn K Jx "law" = true)
  (k37:keepIn K (.ref Uj)=true)
  (h38:∃ d,FM K cL "__init__" "Land.__init__" nq ["self", "places", "lanes"] Pw d)
  (h39:∃ d,FM K cL "end_of" "Land.end_of" yQ ["self", "lane"] Uk d)
  (h40:∃ d,FM K cL "out_of" "Land.out_of" ur ["self", "place"] Yg d)
  (h41:∃ d,FM K cL "into" "Land.into" nn ["self", "place"] Ul d)
  (h42:∃ d,FM K cB "__init__" "Table.__init__" yI ["self", "land"] Px d)
  (h43:∃ d,FM K cD "__init__" "Told.__init__" um ["self", "land", "rows"] Py d)
  (h44:∃ d,FM K cD "ways" "Told.ways" p8 ["self", "place", "goal", "came"] NO d)
  (h45:∃ d,FM K cA "__init__" "Lane.__init__" yO ["self", "room"] Um d)
  (h46:∃ d,FM K cA "open_to" "Lane.open_to" ut ["self", "letter", "count"] Yh d)
  (h47:∃ d,FM K cA "put" "Lane.put" yK ["self", "letter", "count", "last"] Uo d)
  (h48:∃ d,FM K cA "front" "Lane.front" pG ["self"] Yi d)
  (h49:∃ d,FM K cA "pull" "Lane.pull" uo ["self"] Up d)
  (h50:∃ d,FM K cA "bring" "Lane.bring" pI ["self"] Uq d)
  (h51:∃ d,FM K cA "told" "Lane.told" yN ["self"] Yj d)
  (h52:∃ d,FM K cA "twin" "Lane.twin" yM ["self"] Yk d)
  (h53:∃ d,FM K cH "__init__" "Letter.__init__" uy ["self", "start", "goal", "length", "word"] Ur d)
  (h54:∃ d,FM K cH "twin" "Letter.twin" uw ["self"] Yl d)
  (a55:findIn K (.ref cJ) "__init__" = some (some (.ref Jv)))
  (l55:K.lookup Jv=some ⟨UI,UB, .func (fnOf "__init__" "Yard.__init__" (bP gf) (aG gf) (af gf) (.ref Oa) Jy Jz J0 Jw Hg J4),UE⟩)
  (d55:K.lookup Oa=some ⟨UK,UM, .seq #[Value.none] UO,UR⟩)
  (c55:codeIn K Hg "Yard.__init__" = true)
  (k55:keepIn K (.ref Jv)=true)
  (i55:isFn K (.ref Jv)=true)
  (a56:findIn K (.ref cJ) "post" = some (some (.ref Kl)))
  (l56:K.lookup Kl=some ⟨UJ,UC, .func (fnOf "post" "Yard.post" (bP ig) (aG ig) (af ig) (.ref Ob) NW NX NY NQ J5 NZ),UG⟩)
  (d56:K.lookup Ob=some ⟨UL,UN, .seq #[Value.int 0 UQ] UP,US⟩)
  (c56:codeIn K J5 "Yard.post" = true)
  (k56:keepIn K (.ref Kl)=true)
  (i56:isFn K (.ref Kl)=true)
  (h57:∃ d,FM K cJ "moves" "Yard.moves" pA ["self"] Us d)
  (h58:∃ d,FM K cJ "moves_in" "Yard.moves_in" nj ["self", "number"] Ut d)
  (h59:∃ d,FM K cJ "moves_on" "Yard.moves_on" nh ["self", "lane"] Uu d)
  (h60:∃ d,FM K cJ "moves_lie" "Yard.moves_lie" p9 ["self", "lane"] Uv d)
  (h61:∃ d,FM K cJ "moves_back" "Yard.moves_back" lV ["self", "lane"] Uw d)
  (h62:∃ d,FM K cJ "wanted" "Yard.wanted" ia ["self", "lane"] Ym d)
  (h63:∃ d,FM K cJ "moves_like" "Yard.moves_like" uv ["self", "move"] Ux d)
  (h64:∃ d,FM K cJ "do" "Yard.do" QW ["self", "move"] Yn d)
  (h65:∃ d,FM K cJ "go_in" "Yard.go_in" u4 ["self", "number", "lane"] Uy d)
  (h66:∃ d,FM K cJ "enter" "Yard.enter" pH ["self", "piece", "lane"] Uz d)
  (h67:∃ d,FM K cJ "lay" "Yard.lay" yP ["self", "piece", "place"] U0 d)
  (h68:∃ d,FM K cJ "own_lane" "Yard.own_lane" uq ["self", "lane"] U1 d)
  (h69:∃ d,FM K cJ "own_letter" "Yard.own_letter" up ["self", "number"] U2 d)
  (h70:∃ d,FM K cJ "lane_told" "Yard.lane_told" pC ["self", "lane"] U3 d)
  (h71:∃ d,FM K cJ "letter_told" "Yard.letter_told" ux ["self", "number"] U4 d)
  (h72:∃ d,FM K cJ "way_told" "Yard.way_told" ul ["self", "number"] U5 d)
  (h73:∃ d,FM K cJ "lying" "Yard.lying" pB ["self", "place"] U6 d)
  (h74:∃ d,FM K cJ "posted" "Yard.posted" lU ["self"] U7 d)
  (h75:∃ d,FM K cJ "history" "Yard.history" u1 ["self"] U8 d)
  (h76:∃ d,FM K cJ "ended" "Yard.ended" gJ ["self"] U9 d)
  (mp:nsIn K mainGlobals "MOST_PLACES" = some (some (.int 12 t1)))
  (ml:nsIn K mainGlobals "MOST_LANES" = some (some (.int 40 t2)))
  (mr:nsIn K mainGlobals "MOST_ROOM" = some (some (.int 60 t3)))
  (mh:nsIn K mainGlobals "MOST_LENGTH" = some (some (.int 60 t4)))
  (mk:nsIn K mainGlobals "MOST_LETTERS" = some (some (.int 60 t5)))
  (mq:nsIn K mainGlobals "MOST_FIGURES" = some (some (.int 60 t6)))
  (p1cL:plainGet K cL Str.empty=true)
  (p2cL:hasDictIn K cL=true)
  (p3cL:plainOver K cL=true)
  (p4cL:findIn K (.ref cL) "__setattr__" = some (some (.builtin "object.__setattr__")))
  (p5cL:makesIn K cL=true)
  (p6cL:keepIn K (.ref cL)=true)
  (ncLplaces:findIn K (.ref cL) "places" = some none)
  (ncLlanes:findIn K (.ref cL) "lanes" = some none)
  (p1cB:plainGet K cB Str.empty=true)
  (p2cB:hasDictIn K cB=true)
  (p3cB:plainOver K cB=true)
  (p4cB:findIn K (.ref cB) "__setattr__" = some (some (.builtin "object.__setattr__")))
  (p5cB:makesIn K cB=true)
  (p6cB:keepIn K (.ref cB)=true)
  (ncBland:findIn K (.ref cB) "land" = some none)
  (p1cD:plainGet K cD Str.empty=true)
  (p2cD:hasDictIn K cD=true)
  (p3cD:plainOver K cD=true)
  (p4cD:findIn K (.ref cD) "__setattr__" = some (some (.builtin "object.__setattr__")))
  (p5cD:makesIn K cD=true)
  (p6cD:keepIn K (.ref cD)=true)
  (ncDland:findIn K (.ref cD) "land" = some none)
  (ncDentries:findIn K (.ref cD) "entries" = some none)
  (p1cA:plainGet K cA Str.empty=true)
  (p2cA:hasDictIn K cA=true)
  (p3cA:plainOver K cA=true)
  (p4cA:findIn K (.ref cA) "__setattr__" = some (some (.builtin "object.__setattr__")))
  (p5cA:makesIn K cA=true)
  (p6cA:keepIn K (.ref cA)=true)
  (ncArights:findIn K (.ref cA) "rights" = some none)
  (ncAreturning:findIn K (.ref cA) "returning" = some none)
  (ncAholder:findIn K (.ref cA) "holder" = some none)
  (ncApieces:findIn K (.ref cA) "pieces" = some none)
  (p1cH:plainGet K cH Str.empty=true)
  (p2cH:hasDictIn K cH=true)
  (p3cH:plainOver K cH=true)
  (p4cH:findIn K (.ref cH) "__setattr__" = some (some (.builtin "object.__setattr__")))
  (p5cH:makesIn K cH=true)
  (p6cH:keepIn K (.ref cH)=true)
  (ncHstart:findIn K (.ref cH) "start" = some none)
  (ncHgoal:findIn K (.ref cH) "goal" = some none)
  (ncHlength:findIn K (.ref cH) "length" = some none)
  (ncHword:findIn K (.ref cH) "word" = some none)
  (ncHgone:findIn K (.ref cH) "gone" = some none)
  (ncHway:findIn K (.ref cH) "way" = some none)
  (p1cJ:plainGet K cJ Str.empty=true)
  (p2cJ:hasDictIn K cJ=true)
  (p3cJ:plainOver K cJ=true)
  (p4cJ:findIn K (.ref cJ) "__setattr__" = some (some (.builtin "object.__setattr__")))
  (p5cJ:makesIn K cJ=true)
  (p6cJ:keepIn K (.ref cJ)=true)
  (ncJtable:findIn K (.ref cJ) "table" = some none)
  (ncJrooms:findIn K (.ref cJ) "rooms" = some none)
  (ncJlanes:findIn K (.ref cJ) "lanes" = some none)
  (ncJletters:findIn K (.ref cJ) "letters" = some none)
  (ncJlies:findIn K (.ref cJ) "lies" = some none)
  (ncJdone:findIn K (.ref cJ) "done" = some none)
  (mf:nsIn K mainGlobals "FIGURES" = some (some (.str (Str.ofString "0123456789") t7)))
  (w1cB:PySem.W.readsIn K cB (.type "type")=true)
  (w2cB:PySem.W.findCls K (.ref cB) (.type "type") "__init__" = some (.val (.ref Px)))
  (w3cB:PySem.W.specialIn K (.ref cB) "__getattribute__" = some (some (.builtin "type.__getattribute__")))
  (kk1:kitOne K (.type "int") (.type "int")=some true)
  (kk2:kitOne K (.type "int") (.type "bool")=some false)
  (kk3:kitOne K (.type "bool") (.type "int")=some true)
  (kk4:kitOne K (.type "bool") (.type "bool")=some true)
  (kk5:kitOne K (.type "NoneType") (.type "int")=some false)
  (kk6:kitOne K (.type "str") (.type "str")=some true)
  (kk7:kitOne K (.type "int") (.type "str")=some false)
  (kk8:kitOne K (.type "tuple") (.type "tuple")=some true)
  (z0:nsIn K mainGlobals "isinstance" = some none)
  (z1:nsIn K mainGlobals "int" = some none)
  (z2:nsIn K mainGlobals "bool" = some none)
  (z3:nsIn K mainGlobals "len" = some none)
  (z4:nsIn K mainGlobals "enumerate" = some none)
  (z5:nsIn K mainGlobals "tuple" = some none)
  (z6:nsIn K mainGlobals "range" = some none)
  (z7:nsIn K mainGlobals "list" = some none)
  (z8:nsIn K mainGlobals "all" = some none)
  (z9:nsIn K mainGlobals "sum" = some none)
  (z10:nsIn K mainGlobals "abs" = some none)
  (z11:nsIn K mainGlobals "str" = some none)
  (z12:nsIn K mainGlobals "min" = some none)
  : ∃ fd:FuncData,(∀ (s:Shared)(v:Value),BindsTo s fd ⟨[v],[]⟩ [("_law_script",v)])/\∀ base:Heap,K.In base->base.Ns mainGlobals mg->Ao l.prog w K mg base aA 12 fa fd ["_law_script"] (qL K):=by
 have e:=hfa.symm.trans (mg_of X G a37)
 cases e
 have T:Txt mg:=⟨mg_none_of X G z0,mg_none_of X G z1,mg_none_of X G z2,mg_none_of X G z3,mg_none_of X G z4,mg_none_of X G z5,mg_none_of X G z6,mg_none_of X G z7,mg_none_of X G z8,mg_none_of X G z9,mg_none_of X G z10,mg_none_of X G z11,mg_none_of X G z12⟩
 obtain⟨d1,H1⟩:=h1
 obtain⟨d2,H2⟩:=h2
 obtain⟨d3,H3⟩:=h3
 obtain⟨d4,H4⟩:=h4
 obtain⟨d5,H5⟩:=h5
 obtain⟨d6,H6⟩:=h6
 obtain⟨d7,H7⟩:=h7
 obtain⟨d8,H8⟩:=h8
 obtain⟨d9,H9⟩:=h9
 obtain⟨d10,C9⟩:=h10
 obtain⟨d11,FQ⟩:=h11
 obtain⟨d12,F8⟩:=h12
 obtain⟨d13,FR⟩:=h13
 obtain⟨d14,Es⟩:=h14
 obtain⟨d15,NK⟩:=h15
 obtain⟨d16,NM⟩:=h16
 obtain⟨d17,FA⟩:=h17
 obtain⟨d18,Pz⟩:=h18
 obtain⟨d19,J6⟩:=h19
 obtain⟨d20,P0⟩:=h20
 obtain⟨d21,FU⟩:=h21
 obtain⟨d22,P1⟩:=h22
 obtain⟨d23,P2⟩:=h23
 obtain⟨d24,P4⟩:=h24
 obtain⟨d25,P5⟩:=h25
 obtain⟨d26,P6⟩:=h26
 obtain⟨d27,P7⟩:=h27
 obtain⟨d28,P8⟩:=h28
 obtain⟨d29,EC⟩:=h29
 obtain⟨d30,P9⟩:=h30
 obtain⟨d31,PB⟩:=h31
 obtain⟨d32,PD⟩:=h32
 obtain⟨d33,PF⟩:=h33
 obtain⟨d34,PH⟩:=h34
 obtain⟨d35,PJ⟩:=h35
 obtain⟨d36,PK⟩:=h36
 obtain⟨d38,PL⟩:=h38
 obtain⟨d39,UT⟩:=h39
 obtain⟨d40,UU⟩:=h40
 obtain⟨d41,Oc⟩:=h41
 obtain⟨d42,UW⟩:=h42
 obtain⟨d43,PM⟩:=h43
 obtain⟨d44,Od⟩:=h44
 obtain⟨d45,Oe⟩:=h45
 obtain⟨d46,J7⟩:=h46
 obtain⟨d47,UX⟩:=h47
 obtain⟨d48,J8⟩:=h48
 obtain⟨d49,UY⟩:=h49
 obtain⟨d50,UZ⟩:=h50
 obtain⟨d51,Va⟩:=h51
 obtain⟨d52,Vb⟩:=h52
 obtain⟨d53,Og⟩:=h53
 obtain⟨d54,Vc⟩:=h54
 obtain⟨d57,J9⟩:=h57
 obtain⟨d58,Vd⟩:=h58
 obtain⟨d59,Ve⟩:=h59
 obtain⟨d60,Vf⟩:=h60
 obtain⟨d61,Vg⟩:=h61
 obtain⟨d62,Vh⟩:=h62
 obtain⟨d63,Vi⟩:=h63
 obtain⟨d64,JA⟩:=h64
 obtain⟨d65,Vj⟩:=h65
 obtain⟨d66,Oh⟩:=h66
 obtain⟨d67,Vk⟩:=h67
 obtain⟨d68,Vl⟩:=h68
 obtain⟨d69,Vm⟩:=h69
 obtain⟨d70,Vn⟩:=h70
 obtain⟨d71,Vo⟩:=h71
 obtain⟨d72,Vp⟩:=h72
 obtain⟨d73,Vq⟩:=h73
 obtain⟨d74,Oi⟩:=h74
 obtain⟨d75,Oj⟩:=h75
 obtain⟨d76,Vr⟩:=h76
 have F37:=kj (st:=jI) l37 c37 k37
 have F55:Ex K "__init__" "Yard.__init__" gf Jv _:=⟨⟨_,_,_,_,_,_,_,_,_,_,rfl,l55,c55⟩,k55⟩
 have F56:Ex K "post" "Yard.post" ig Kl _:=⟨⟨_,_,_,_,_,_,_,_,_,_,rfl,l56,c56⟩,k56⟩
 have L:rW K ⟨cL⟩:=⟨⟨p1cL,p2cL,p3cL,p4cL⟩,ncLplaces,ncLlanes⟩
 have Z:vU K:=⟨kk1,kk2,kk3,kk4,kk5⟩
 have ZS:Mx K:=⟨kk6,kk7,kk8⟩
 have B:QX K mg ⟨cB,cD⟩ Px _:=⟨⟨p1cB,p2cB,p3cB,p4cB⟩,ncBland,⟨p1cD,p2cD,p3cD,p4cD⟩,ncDland,ncDentries,(mg_of X G gcB),⟨w1cB,w2cB,w3cB,UW.m.kp⟩,UW.b⟩
 have M:Ls K ⟨cL⟩ Yg Ul _ _:=⟨UU.m,Oc.m,UU.b,Oc.b⟩
 have ME:xO K ⟨cL⟩ Uk _:=⟨UT.m,UT.b⟩
 have Y:∀ ex:List Addr,gS K ⟨cJ,cA,cH,ex⟩:=fun _=>⟨⟨p1cJ,p2cJ,p3cJ,p4cJ⟩,ncJtable,ncJrooms,ncJlanes,ncJletters,ncJlies,ncJdone,⟨p1cH,p2cH,p3cH,p4cH⟩,ncHstart,ncHgoal,ncHlength,ncHword,ncHgone,ncHway,⟨⟨p1cA,p2cA,p3cA,p4cA⟩,ncArights,ncAreturning,ncAholder,ncApieces⟩⟩
 have Pr:=qy (kV:=Jy) (doc:=Jz) (pm:=J0) (cdv:=Hg) (ct:=J4) (an:=Jw) d55 rfl
 have TK:=qx (kV:=Jy) (doc:=Jz) (pm:=J0) (cdv:=Hg) (ct:=J4) (an:=Jw) d55 rfl
 have Yo:=oK (kV:=NW) (doc:=NX) (pm:=NY) (cdv:=J5) (ct:=NZ) (an:=NQ) d56 rfl
 have Mi:Mk K cL Pw:=⟨p5cL,PL.m.at_,PL.m.fn,p6cL⟩
 have Mt:Mk K cD Py:=⟨p5cD,PM.m.at_,PM.m.fn,p6cD⟩
 have My:Mk K cJ Jv:=⟨p5cJ,a55,i55,p6cJ⟩
 have Ma:Mk K cA Um:=⟨p5cA,Oe.m.at_,Oe.m.fn,p6cA⟩
 have Mh:Mk K cH Ur:=⟨p5cH,Og.m.at_,Og.m.fn,p6cH⟩
 refine⟨fnOf "law" "law" (bP jI) (aG jI) (af jI) .none NR NS NU NP Jx NV,fun s v => .of_eq rfl,fun base _ _=>?_⟩
 have Wn:Wy K cD NO _ (A0 l.prog w ⟨cB,cD⟩):=⟨⟨p1cD,p2cD,p3cD,p4cD⟩,ncDland,Od.m,Od.b,fun H H' x n wy h k=>A0.keep (n:=n) (wy:=wy) h k⟩
 have W1:Way K cD NO _ (fu l.prog w ⟨cB,cD⟩):=⟨B.cd,Od.m,Od.b,fun H x wy Au=>by obtain⟨dx,de,lv,Aw,h1,_⟩:=Au;exact⟨dx,_,h1,rfl⟩,fun H H' x wy ⟨dx,de,lv,Aw,h1,h2,h3⟩ s=>⟨dx,de,lv,Aw,s _ _ h1,h2.same s,h3⟩⟩
 have Gm:Ao l.prog w K mg base aA 2 f2 _ _ _:=zr H2.F T H1.m H1.F H1.b
 have Yp:=uJ (ts:=⟨cB,cD⟩) (P:=l.prog) (w:=w) (base:=base) Od.F B H2.m H2.k H2.b Gm
 have Gb:Ao l.prog w K mg base aA 3 NO _ _ _:=oZ Yp
 have Gw1:Ao l.prog w K mg base aA 3 NO _ _ (pf (fu l.prog w ⟨cB,cD⟩)):=rZ Yp
 have Gw:Ao l.prog w K mg base aA 2 f5 _ _ _:=sy H5.F T H4.m H4.F H4.b
 have Vs:Ao l.prog w K mg base aA 2 f5 _ _ _:=pQ H5.F T Z H4.m H4.F H4.b
 have GW:Ao l.prog w K mg base aA 1 f4 _ _ _:=kZ H4.F T Z
 have G2:Ao l.prog w K mg base aA 3 f7 _ _ _:=zk H7.F H5.m H5.k H5.b Gw
 have Gi:Ao l.prog w K mg base aA 4 Pw _ _ _:=xj PL.F T L H5.m H5.k H5.b Gw H7.m H7.k H7.b G2 (mg_of X G mp) (mg_of X G ml)
 have Go:Ao l.prog w K mg base aA 2 f6 _ _ _:=zp H6.F T H4.m H4.F H4.b
 have Yq:Ao l.prog w K mg base aA 1 Ul _ _ _:=xi Oc.F T L
 have Gf:Ao l.prog w K mg base aA 4 f8 _ _ _:=xn H8.F T L M H7.m H7.k H7.b G2 H6.m H6.k H6.b Go (zo UU.F T L) Yq
 have G1:Ao l.prog w K mg base aA 1 Px _ _ _:=zl UW.F
 have Gse:Ao l.prog w K mg base aA 1 f3 _ _ _:=zm H3.F
 have Gt:Ao l.prog w K mg base aA 5 Py _ _ _:=wR PM.F T B G1 H8.m H8.k H8.b Gf H3.m H3.k H3.b Gse
 have Ge:Ao l.prog w K mg base aA 1 Uk _ _ _:=zC UT.F L
 have Gro:Ao l.prog w K mg base aA 3 XB _ _ _:=uM C9.F T L H5.m H5.k H5.b Vs (mg_of X G mr)
 have Rp:Ao l.prog w K mg base aA 2 O8 _ _ _:=wP FQ.F T H4.m H4.k H4.b GW
 have Yr:Ao l.prog w K mg base aA 1 Um _ _ _:=zx Oe.F (Y []).L
 have Glt:Ao l.prog w K mg base aA 1 Yj _ _ _:=zw Va.F T (Y []).L
 have Vt:Ao l.prog w K mg base aA 1 Yh _ _ _:=wZ J7.F (Y []).L
 have Vu:Ao l.prog w K mg base aA 1 Yi _ _ _:=uV J8.F (Y []).L
 have Gpu:Ao l.prog w K mg base aA 2 Uo _ _ _:=zn UX.F (Y []).L J7.m J7.b Vt
 have Gpl:Ao l.prog w K mg base aA 1 Up _ _ _:=wV UY.F (Y []).L
 have Gbr:Ao l.prog w K mg base aA 1 Uq _ _ _:=uZ UZ.F (Y []).L
 have Gtw:Ao l.prog w K mg base aA 3 Yk _ _ _:=zv Vb.F T (Y []).L (mg_of X G gcA) Ma Oe.b Yr
 have Yt:Ao l.prog w K mg base aA 1 Ur _ _ _:=zu Og.F (Y [])
 have Gtx:Ao l.prog w K mg base aA 3 Yl _ _ _:=zt Vc.F T (Y []) (mg_of X G gcH) Mh Og.b Yt
 have Gy:∀ ex:List Addr,Ao l.prog w K mg base aA 4 Jv _ _ (iR K ⟨cL⟩ cD (A0 l.prog w ⟨cB,cD⟩) ⟨cJ,cA,cH,ex⟩):=fun ex=>zj F55 T L (Y ex) Wn C9.m C9.k C9.b Gro (mg_of X G gcA) Ma Oe.b Yr
 have Gp:∀ ex:List Addr,Ao l.prog w K mg base aA 4 Kl _ _ (lJ K ⟨cL⟩ cD (A0 l.prog w ⟨cB,cD⟩) ⟨cJ,cA,cH,ex⟩):=fun ex=>wW F56 T L (Y ex) Wn Gb H5.m H5.k H5.b Vs FQ.m FQ.k FQ.b Rp (mg_of X G gcH) Mh Og.b Yt (mg_of X G mh) (mg_of X G mk)
 have Gol:∀ ex:List Addr,Ao l.prog w K mg base aA 4 U1 _ _ _:=fun ex=>wY Vl.F (Y ex) Vb.m Vb.b Gtw
 have Got:∀ ex:List Addr,Ao l.prog w K mg base aA 4 U2 _ _ _:=fun ex=>wX Vm.F (Y ex) Vc.m Vc.b Gtx
 have O:∀ ex:List Addr,Own l.prog w K mg base ⟨cJ,cA,cH,ex⟩ U1 U2 Uo _ _ _:=fun ex=>⟨Vl.m,Vl.b,Gol ex,Vm.m,Vm.b,Got ex,UX.m,UX.b,Gpu⟩
 have Gly:∀ ex:List Addr,Ao l.prog w K mg base aA 1 U0 _ _ _:=fun ex=>zy Vk.F (Y ex)
 have Glg:∀ ex:List Addr,Ao l.prog w K mg base aA 1 U6 _ _ _:=fun ex=>uQ Vq.F T (Y ex)
 have Gen:∀ ex:List Addr,Ao l.prog w K mg base aA 5 Uz _ _ _:=fun ex=>uW Oh.F (Y ex) (O ex)
 have Ggi:∀ ex:List Addr,Ao l.prog w K mg base aA 6 Uy _ _ _:=fun ex=>xm Vj.F (Y ex) (O ex) Oh.m Oh.b (Gen ex)
 have Gon:Ao l.prog w K mg base aA 4 f9 _ _ _:=zq H9.F L Wn Gb ME Ge
 have Gmi:∀ ex:List Addr,Ao l.prog w K mg base aA 4 Ut _ _ (py K ⟨cL⟩ cD (A0 l.prog w ⟨cB,cD⟩) ⟨cJ,cA,cH,ex⟩):=fun ex=>xb Vd.F (Y ex) Wn Gb J7.m J7.b Vt
 have Gwa:∀ ex:List Addr,Ao l.prog w K mg base aA 5 Ym _ _ (j2 K ⟨cL⟩ cD (A0 l.prog w ⟨cB,cD⟩) ⟨cJ,cA,cH,ex⟩):=fun ex=>sA Vh.F (Y ex) Wn J8.m J8.b Vu H9.m H9.k H9.b Gon
 have Gmo:∀ ex:List Addr,Ao l.prog w K mg base aA 6 Uu _ _ (pw K ⟨cL⟩ cD (A0 l.prog w ⟨cB,cD⟩) ⟨cJ,cA,cH,ex⟩):=fun ex=>xa Ve.F (Y ex) Wn J8.m J8.b Vu Vh.m Vh.b (Gwa ex) J7.m J7.b Vt
 have Gml:∀ ex:List Addr,Ao l.prog w K mg base aA 2 Uv _ _ _:=fun ex=>uN Vf.F (Y ex) L Wn J8.m J8.b Vu ME Ge
 have Gmb:∀ ex:List Addr,Ao l.prog w K mg base aA 1 Uw _ _ (j4 K ⟨cL⟩ cD (A0 l.prog w ⟨cB,cD⟩) ⟨cJ,cA,cH,ex⟩):=fun ex=>sH Vg.F (Y ex)
 have MM:∀ ex:List Addr,RE l.prog w K mg base ⟨cL⟩ cD (A0 l.prog w ⟨cB,cD⟩) ⟨cJ,cA,cH,ex⟩ Ut Uu Uv Uw _ _ _ _:=fun ex=>⟨Vd.m,Vd.b,Gmi ex,Ve.m,Ve.b,Gmo ex,Vf.m,Vf.b,Gml ex,Vg.m,Vg.b,Gmb ex⟩
 have Vv:∀ ex:List Addr,Ao l.prog w K mg base aA 7 Us _ _ (hG K ⟨cL⟩ cD (A0 l.prog w ⟨cB,cD⟩) ⟨cJ,cA,cH,ex⟩):=fun ex=>uO J9.F T (Y ex) Wn (MM ex)
 have Gim:Ao l.prog w K mg base aA 2 XC _ _ _:=xh F8.F T ZS H4.m H4.k H4.b GW
 have Glk:∀ ex:List Addr,Ao l.prog w K mg base aA 7 Ux _ _ _:=fun ex=>xc Vi.F T (Y ex) Wn (MM ex) F8.m F8.k F8.b Gim H5.m H5.k H5.b Vs
 have DM:∀ ex:List Addr,Wu l.prog w K mg base ⟨cL⟩ cD (A0 l.prog w ⟨cB,cD⟩) ⟨cJ,cA,cH,ex⟩ Ux Uy Uz Up Uq U0 _ _ _ _ _ _:=fun ex=>⟨Vi.m,Vi.b,Glk ex,Vj.m,Vj.b,Ggi ex,Oh.m,Oh.b,Gen ex,UY.m,UY.b,Gpl,UZ.m,UZ.b,Gbr,Vk.m,Vk.b,Gly ex⟩
 have Vw:∀ ex:List Addr,Ao l.prog w K mg base aA 8 Yn _ _ (uc K ⟨cL⟩ cD (A0 l.prog w ⟨cB,cD⟩) ⟨cJ,cA,cH,ex⟩):=fun ex=>Mz JA.F (Y ex) L Wn (O ex) (DM ex) ME Ge
 have Vx:∀ ex:List Addr,Ao l.prog w K mg base aA 2 U3 _ _ _:=fun ex=>uU Vn.F (Y ex) Va.m Va.b Glt
 have Vy:∀ ex:List Addr,Ao l.prog w K mg base aA 1 U4 _ _ _:=fun ex=>xf Vo.F (Y ex)
 have Gwt:∀ ex:List Addr,Ao l.prog w K mg base aA 1 U5 _ _ _:=fun ex=>wQ Vp.F T (Y ex)
 have Yu:∀ ex:List Addr,Ao l.prog w K mg base aA 1 U7 _ _ _:=fun ex=>sF Oi.F T (Y ex)
 have Yv:∀ ex:List Addr,Ao l.prog w K mg base aA 1 U8 _ _ _:=fun ex=>xk Oj.F T (Y ex)
 have Ged:∀ ex:List Addr,Ao l.prog w K mg base aA 1 U9 _ _ (lP K ⟨cJ,cA,cH,ex⟩):=fun ex=>uX Vr.F T (Y ex)
 have Gws:Ao l.prog w K mg base aA 1 XD _ _ _:=uI FR.F
 have PN:Ao l.prog w K mg base aA 1 XE _ _ _:=sG Es.F T (mg_of X G mf) (mg_of X G mq)
 have Gsg:Ao l.prog w K mg base aA 2 XF _ _ _:=sC NK.F Es.m Es.k Es.b PN
 have Gwr:Ao l.prog w K mg base aA 1 XG _ _ _:=pP NM.F T
 have Vz:Ao l.prog w K mg base aA 2 XH _ _ _:=uL FA.F NM.m NM.k NM.b Gwr
 have Gy1:Ao l.prog w K mg base aA 4 XI _ _ (i8 ⟨cL⟩ cD (fu l.prog w ⟨cB,cD⟩)):=pS Pz.F T L W1 ncDland Gw1 Oc.m Oc.b Yq FA.m FA.k FA.b Vz
 have Yw:Ao l.prog w K mg base aA 5 XJ _ _ (fT ⟨cL⟩ cD (fu l.prog w ⟨cB,cD⟩)):=pU J6.F T L W1 ncDland FA.m FA.k FA.b Vz Pz.m Pz.k Pz.b Gy1
 have Gx1:Ao l.prog w K mg base aA 6 XM _ _ (i9 ⟨cL⟩ cD (fu l.prog w ⟨cB,cD⟩)):=pT P0.F J6.m J6.k J6.b Yw
 have V0:∀ ex:List Addr,Ao l.prog w K mg base aA 6 XN _ _ (gY l.prog w K ⟨cL⟩ ⟨cB,cD⟩ ⟨cJ,cA,cH,ex⟩):=fun ex=>uH FU.F (Y ex) Wn FA.m FA.k FA.b Vz J6.m J6.k J6.b Yw Oj.m Oj.b (Yv ex)
 have Grf:Ao l.prog w K mg base aA 2 XO _ _ _:=sE P1.F T kk6 FR.m FR.k FR.b Gws
 have Grw:Ao l.prog w K mg base aA 2 XQ _ _ _:=pW P2.F Es.m Es.k Es.b PN
 have MS:S8 l.prog w K mg base ⟨cL⟩ ⟨cB,cD⟩ Pw Py _ _:=⟨(mg_of X G gcL),Mi,PL.b,Gi,(mg_of X G gcD),Mt,PM.b,Gt⟩
 have Gmt:Ao l.prog w K mg base aA 7 XR _ _ (lL l.prog w ⟨cL⟩ ⟨cB,cD⟩):=uP P4.F T MS Es.m Es.k Es.b PN P2.m P2.k P2.b Grw
 have Gde:∀ ex:List Addr,Ao l.prog w K mg base aA 9 XS _ _ (p6 l.prog w K ⟨cL⟩ ⟨cB,cD⟩ ⟨cJ,cA,cH,ex⟩):=fun ex=>xo P5.F T (Y ex) Wn NK.m NK.k NK.b Gsg ⟨a56,i56,k56⟩ Yo (Gp ex) JA.m JA.b (Vw ex)
 have Gra:Ao l.prog w K mg base aA 1 XT _ _ _:=pV P6.F T
 have Gmk:Ao l.prog w K mg base aA 10 XU _ _ (j5 l.prog w K ⟨cL⟩ ⟨cB,cD⟩ ⟨cJ,cA,cH,[]⟩):=sI (ys:=⟨cJ,cA,cH,[]⟩) P7.F Wn P6.m P6.k P6.b Gra P4.m P4.k P4.b Gmt Es.m Es.k Es.b PN (mg_of X G gcJ) My Pr Gy P5.m P5.k P5.b Gde
 have Gry:Ao l.prog w K mg base aA 11 XW _ _ (gG l.prog w K ⟨cL⟩ ⟨cB,cD⟩ ⟨cJ,cA,cH,[]⟩):=nJ (ys:=⟨cJ,cA,cH,[]⟩) P8.F Wn P1.m P1.k P1.b Grf P7.m P7.k P7.b Gmk FU.m FU.k FU.b V0
 have Gd:Ao l.prog w K mg base aA 1 XX _ _ _:=uY EC.F T
 have Gld:Ao l.prog w K mg base aA 2 XY _ _ _:=xg P9.F T EC.m EC.k EC.b Gd
 have Grs:Ao l.prog w K mg base aA 2 XZ _ _ _:=wU PB.F T EC.m EC.k EC.b Gd
 have Glw:Ao l.prog w K mg base aA 1 Ya _ _ _:=uR PD.F
 have Gdd:∀ ex:List Addr,Ao l.prog w K mg base aA 9 Yb _ _ (lN l.prog w K ⟨cL⟩ ⟨cB,cD⟩ ⟨cJ,cA,cH,ex⟩):=fun ex=>uT PF.F T (Y ex) Wn J9.m J9.b (Vv ex) ⟨a56,i56,k56⟩ Yo (Gp ex) JA.m JA.b (Vw ex) Oi.m Oi.b (Yu ex) PD.m PD.k PD.b Glw
 have Glx:Ao l.prog w K mg base aA 7 Yc _ _ (lM l.prog w K ⟨cL⟩ ⟨cB,cD⟩):=uS PH.F T P0.m P0.k P0.b Gx1
 have SM:∀ ex:List Addr,Xs l.prog w K mg base ⟨cL⟩ cD (A0 l.prog w ⟨cB,cD⟩) ⟨cJ,cA,cH,ex⟩ U3 U5 U7 U6 U4 Us U8 U9 _ _ _ _ _ _ _ _:=fun ex=>⟨Vn.m,Vn.b,Vx ex,Vp.m,Vp.b,Gwt ex,Oi.m,Oi.b,Yu ex,Vq.m,Vq.b,Glg ex,Vo.m,Vo.b,Vy ex,J9.m,J9.b,Vv ex,Oj.m,Oj.b,Yv ex,Vr.m,Vr.b,Ged ex⟩
 have Gsd:∀ ex:List Addr,Ao l.prog w K mg base aA 8 Ye _ _ (lI K ⟨cL⟩ cD (A0 l.prog w ⟨cB,cD⟩) ⟨cJ,cA,cH,ex⟩):=fun ex=>uK PJ.F T (Y ex) Wn (SM ex)
 have Gsm:Ao l.prog w K mg base aA 9 Yf _ _ (pj l.prog w K ⟨cL⟩ ⟨cB,cD⟩ ⟨cJ,cA,cH,[]⟩):=wS (ys:=⟨cJ,cA,cH,[]⟩) PK.F T (Y []) Wn PJ.m PJ.k PJ.b Gsd J9.m J9.b Vv JA.m JA.b Vw FU.m FU.k FU.b V0 EC.m EC.k EC.b Gd
 exact zA (c:=⟨cL⟩) (ts:=⟨cB,cD⟩) (ys:=⟨cJ,cA,cH,[]⟩) F37 T MS ⟨EC.m,EC.k,EC.b,Gd,P9.m,P9.k,P9.b,Gld,PB.m,PB.k,PB.b,Grs,(mg_of X G gcJ),My,Pr,TK,Gy,PF.m,PF.k,PF.b,Ao.any Gdd [],FU.m,FU.k,FU.b,Ao.any V0 [],PH.m,PH.k,PH.b,Glx,P8.m,P8.k,P8.b,Gry,PK.m,PK.k,PK.b,Gsm,Wn,kk6⟩
end
theorem walk {l:PySem.W.OpenLaw}{q:Program}{loose:List Str}{XP:(Str->Option Value)->Heap->Prop}{YP:World->Heap->Prop}{d:DefRec}{K:Params->Frag}(hn:l.most=some 63)(KS:d.params.defaults=[])
  (hY:∀ (w:World)(h:Heap),YP w h->(K w.params).In h)
  (F:∀ (w:World)(mg:Str->Option Value)(fa:Addr)(h:Heap),(K w.params).In h->h.Ns mainGlobals mg->mg d.name=some (.ref fa) ->
   ∃ fd:FuncData,(∀ (s:Shared)(u:Value),BindsTo s fd ⟨[u],[]⟩ [("_law_script",u)])/\∀ base:Heap,(K w.params).In base->base.Ns mainGlobals mg->Ao l.prog w (K w.params) mg base aA 12 fa fd ["_law_script"] (qL (K w.params))) :
  PySem.W.WalkO q loose XP YP l.row.toRowW d [] (fun f vs=>PySem.call f vs) :=
 L2.Gj (n:=63) (k:=12) (x := "_law_script") (CX:=fun _=>aA) (sp:=fun w=>qL (K w.params)) hn (by decide) KS ⟨rfl,by decide,by decide⟩ hY F (fun _ _ a ns hl _ hS=>⟨a,ns,rfl,hS,hl,fun _=>rfl⟩) fun _ _ _ _ _ z=>z
end K82
structure PySem.W.Fast:Prop where
 (tw2177369768684196429 tw14856989888105648528 tw3144322273066123156 tw17358125648938852960 tw2436806691735160222 tw11490180149830486570 tw2489854731697646927 tw10808215604463560760 tw10205588498737941219 tw5112895324492148271 tw10262641513221660825 tw3764532425813103968 tw8051669771586654264 tw13374813887234644760 tw9309703811559487267 tw7929019829461949159 tw4141152841332309780 tw17247010157696540775 tw14867064309968274375 tw5562184888705737727 tw12369768387447575809 tw14216750329565049500 tw17176911445791004782 tw18332865744314189236 tw13422145881167810879 tw16718479518458749478 tw8801642806226316853 tw9266810565596449633 tw413875699242651420 tw7540449032916901423 tw7812574711250002784 tw18252030135598188298 tw10853922093342690133 tw1761995256280099904 tw4331678430676058702 tw2205665398426939298 tw12674226866828037997 tw9073277787572808636 tw11684255858864075666 tw3414734831210662564 tw562081393998751471 tw12397611365060230557 tw10526951222585963413 tw9817335592780751811 tw10994637688787813082 tw12870167875949092752 tw11439950883441426530 tw179448521628207192 tw131921342952276037 tw3906721576595390945 tw15503991994608504264 tw6634957883263833634 tw6542737978306362028 tw17914356142266366724 tw6692274946710438810 tw15338654714551182743 tw10000734675229352747 tw5437648970673073780 tw8836674925530928938 tw491137424021628329 tw16122484543740912993 tw10508501359341462207 tw17266613395074820736 tw11743691703589188812 tw17366308026052731592 tw12548636666397788765 tw15566297953466971670 tw13986226697723169936 tw12140807532257387537 tw10809156623087804289 tw6441221080361004463 tw12049707551805772114 tw9119521575070675143 tw15939983425472882647 tw12618006534599880326 tw6211243775201363012 tw10958135768031602739 tw656579307265991316 tw8684003395059616604 tw1459429823087830532 tw12445571000757663483 tw9705073746915499812 tw7618345984237497633 tw9395277872290325085 tw17464026916406199299 tw6483736469092377095 tw2531624096714579383 tw13214329848539842072 tw12315024797058727564 tw8744655834720052307 tw380003867089953511 tw10198980891872181393 tw10838043594607289316 tw1275516070262355908 tw6128197261930572785 tw15567272065475039674 tw14254875854103110864 tw10857518486057169033 tw15063591173428600362 tw1919300907793678440 tw13711926703525763871 tw544161188107617523 tw13884830784871473239 tw17282429064297428094 tw17060320440474162001 tw12185562453732664776 tw18191153676580690966 tw6709160490817547172 tw12413717636582421168 tw8910258151242569904 tw8329823718874693585 tw6179265516168266229 tw13938904386195433388 tw12850120090631273636 tw8636577423600808302 tw4829780405552328027 tw8820355108186479452 tw15981044890877256532 tw6233964508737421657 tw13759899740560743379 tw1756580268572181840 tw9390115266747918190 tw15729800835037402887 tw10748144773655019997 tw9637571666061158557 tw2115056754133249007 tw17067871246221482027 tw2878414705040498108 tw9537993561180015741 tw13597998176758209366 tw11388199113320940126 tw13847882832870290834 tw9873676401051928675 tw9584569100429734517 tw7465792781501421983 tw884292939009018320 tw2963639102217314037 tw7778481390271361875 tw9752144408105145118 tw17542023807299598370 tw1629925380973955472 tw10541948508752406481 tw3701864892461021130 tw15332220565346510867 tw17579272645075343980 tw10808132936259393803 tw18154207131656523550 tw4840207302547710469 tw14079871934962059169 tw17039950423633519197 tw15038092742943132682 tw5631744558191781281 tw15533335766228049456 tw169423100355356598 tw16100189469306733638 tw11977785955141465045 tw3110706926746985638 tw11177500659121661378 tw5790012973872588597 tw7053726652489569799 tw14149142438207605869 tw6265368951822643 tw11139369440280106807 tw14810215793230063905 tw2337529248667381299 tw6570162576097359570 tw13282625872516350890 tw3049584846553360950 tw9376466935400352329 tw17854401409803073360 tw7440021789604982584 tw17575855266432228634 tw8779776451805232931 tw1914310889083978091 tw11200084605738487489 tw17598479403626711804 tw1749712107491276702 tw9092151623124163164 tw2455366359528704103 tw5386249021024366870 tw13066739673709578546 tw10044141395455066475 tw12015640993447536611 tw15236222316923106138 tw15089142260955694641 tw3249455033105796389 tw704064740936566007 tw15057860250344375927 tw1738975538716897898 tw9084869743818921197 tw17925813583024749018 tw17728530344726640693 tw16701179146824567643 tw15788801995199085906 tw5034321875416610728 tw1962939389373340492 tw7294259993704580182 tw12082927435715303325 tw11054552219443951171 tw1784975989424245088 tw9195194348742886284 tw3867831993043535769 tw1873121744254063683 tw2826436440465492482 tw14065453100277318197 tw8622291476412963117 tw5583503284321730337 tw17697298208253550893 tw10143898846098851749 tw11272110552547739263 tw10314787241877508870 tw8533475816338694919 tw4306419433901471785 tw9165620610230147468 tw3130676211985634413 tw9185384153267746369 tw6017181641784201717 tw16821592561300173313 tw14103841774569471038 tw926461217207006498 tw15103868436080377498 tw4803103822858655731 tw18052874454104039566 tw12234638124090454394 tw1184499347842064416 tw6231697849875367248 tw15257760162657383443 tw4569527970581623624 tw1823349547854560972 tw10107934133510737827 tw6633835475756982277 tw10985921308280189875 tw10540362005068925298 tw2362137936456593262 tw12216878494357597355 tw14230064549369709239 tw14455929210682449982 tw1797131858829761804 tw9923703380843290032 tw11567688094451956646 tw5487383336562328107 tw10223064796687937234 tw14497472607652253319 tw5605007419367173722 tw3759705435873275068 tw6458762609498031282 tw4710144448687141194 tw5279711690637797198 tw7764689465993321313 tw13505706898153339847 tw972350499922530397 tw16328071783106988831 tw1050786693949037655 tw1946960990888220098 tw6130486709722575501 tw11648286480949485196 tw13231952556295132025 tw7912942800869718961 tw4433179860668755935 tw18198380770984261763 tw17098274064165574431 tw16523019575740084213 tw12353745458315147827 tw6493966372745120514 tw12615482149951784358 tw9078223214518771781 tw3772702213404195532 tw269434355654891982 tw11178483120109356847 tw8492747300834467784 tw7188753660148595522 tw5859678580222749439 tw2207902861328504967 tw6017105652525899017 tw17274052885191048169 tw17808224238464408019 tw2212131110905598906 tw13141038554085355867 tw11029967891397469150 tw454861321502483261 tw13215478186761725802 tw16092172113064825096 tw13961731482811872290 tw11338274904043235872 tw346158653308038371 tw15520498606287503957 tw2596387265915707878 tw9298251870888471647 tw383647699736691073 tw11769018998295906652 tw6574864651774939277 tw3232686408422100434 tw17482429227150670869 tw13651143756913404797 tw13080880370545045917 tw12648822921672934274 tw10776757174197016416 tw17558222784105703728 tw3354359078647527406 tw1352136925497300666 tw9849962250304720770 tw7186421917437819902 tw13940301131903467152 tw5507766870707488115 tw1603425768603263318 tw14871218237608217919 tw5321803460157481633 tw1464455208373777919 tw15524913910172915548 tw741800955949396357 tw12053232123285582923 tw11501824453419162193 tw15899436418988892743 tw6112730003755153939 tw3915633821230953498 tw12548371036126872170 tw12012099696440711195 tw11336455396389161408 tw12196763482140055101 tw14096979183589714706 tw8703971733660256778 tw4835638040822276894 tw527442671381338332 tw7965784922477527628 tw2451131641204621443 tw7837123762573609759 tw4750237890551236587 tw11003031521621978997 tw10247904597553211058 tw2443353000312581449 tw11391640750241746005 tw3044263056771491236 tw2573077131806784339 tw3969980101923050115 tw6263596320835806392 tw16143855549684601968 tw12965474795840529528 tw8350260445862336570 tw10147981798137737883 tw6482897701464580270 tw367397855452357547 tw969576207305917902 tw11907283037874148693 tw14225666123295048712 tw15917460469624362177 tw15629133016882507902 tw14890533490762134957 tw1207380368899646343 tw17584546249961413738 tw11044358052976476420 tw3337947912404096270 tw6581291151739159694 tw16780951353574886629 tw9324492866279364101 tw13308106896491231873 tw11432254347978758496 tw11862644371116860029 tw8922207902428282456 tw8513840420190442957 tw332571493436054759 tw16348659307837286747 tw17945791677904960126 tw11432449900370798256 tw10313845318115985689 tw14824806301950258684 tw6291000096277437099 tw5655172491976827783 tw16278684364798344414 tw15920721413268816645 tw13971683066239677289 tw13463557010207856488 tw18350419439861608998 tw16080456779971827064 tw9484378158795837401 tw765602618400274729 tw3624658045104886730 tw3573869778323264478 tw1928848021665189367 tw6130369921175233597 tw13521840902133482879 tw12027920547025401945 tw9125412110779796330 tw8811439449117073065 tw7208584504577829300 tw15350272746517884439 tw15219866934436173365 tw17049870878623836578 tw8106328306430653360 tw9327645568032542487 tw4765437408501550572 tw18009120475037619794 tw2580387580509639472 tw1902565329686083226 tw6436617524778973620 tw3854409442462627034 tw1949405003756752334 tw16545601968281068783 tw6201644596929406150 tw15431070134601169135 tw3190214257106848400 tw18066844262332585858 tw15231624676328899136 tw13669089856879251436 tw11449736129740695994 tw9817015132611598953 tw6181425587741255266 tw6922480389715246460 tw395562446266764695 tw716459728089777353 tw7736354412000808987 tw56718156297880383 tw16982446223643558762 tw15766542689833168973 tw13667529481917969491 tw8241067511412048870 tw2570337195151591510 tw17193304735022730246 tw3125018936239383344 tw16159945865304088795 tw12022853913944856816 tw4294092242859331732 tw3679946590590981430 tw9486260538300870036 tw15656183668917460796 tw14267290404374334822 tw17758297945430065246 tw7250816968595114034 tw12906892052081529865 tw16174982710019032289 tw2685439389400693560 tw10473738245121120327 tw8069434033595400324 tw14851811920922112581 tw14484551442171396321 tw7668292032561401162 tw7246460557157234190 tw6211400310009340388 tw12746671359278979067 tw7527797300236260428 tw7347939499467891648 tw2644931869149456191 tw10635883951653010100 tw8460813891600151423 tw11830271782089654309 tw5032361816304032947 tw13135506817904652070 tw652770906180753499 tw6243913033180645153 tw14904329898568924716 tw11217232726732017858 tw10108969838894514748 tw16763853596984987725 tw15903072283362638886 tw11570542590738898373 tw15892478256897367223 tw9643498486779843251 tw4010912225285199661 tw283808580013909569 tw178049508564721619 tw17073142601034174916 tw12202647871968872728 tw11977654678842738795 tw7130322019328290448 tw8520518020751717535 tw4693624422629981525 tw15112782939544913129 tw11448907021312352449 tw7286135607399852678 tw3551825016538112574 tw8509400865513450501 tw2294126503798441553 tw11098094937114142528 tw11070236582317204182 tw6842702029694728481 tw18019286457409729898 tw9059771161120322750 tw6470387268361272627 tw14194651184766411594 tw13332995409074134783 tw4535305322972703685 tw8944364886693734922 tw5253599370769696065 tw4825490779768199411 tw18194537582904602918 tw14042645048411110111 tw2386762416839241431 tw7873919725192816294 tw5097405786898342728 tw15667803780132184021 tw14061175672027249680 tw17871931131235193025 tw17990714202793587849 tw8239884167065133430 tw4083144049219629867 tw7569196716316609370 tw7437087359163152452 tw5231474701296597576 tw3189181384634742360 tw14683487963681857662 tw13921813584985467364 tw2948779479065942606 tw3798327092957664820 tw3294626682892792062 tw14717494482842635128 tw11576740000494471895 tw17225459082321129393 tw9811571048432920881 tw9297910080093536005 tw7309794984184016069 tw7094849425072583100 tw5660102502589802592 tw4435113217013050675 tw1935196342295980168 tw17276831632025932776 tw16532266329848259492 tw14394486364744692754 tw11927365870491994034 tw9363577150707928204 tw7922293614537942623 tw17169409096120326629 tw12312285823835941740 tw9477101352411156591 tw15250467616971804082 tw10210227680664901354 tw9508610135063131694 tw5404910831105608946 tw11962850661840990451 tw7349559658572763315 tw3700781401697769208 tw3414488659109277327 tw7349958710006957181 tw667299498637182826 tw18142350989259346606 tw17654073950995031388 tw16411113934435022368 tw14412114838322462926 tw17260923277324178246 tw8553241493428734038 tw6075361550375228700 tw534545940553103478 tw2015964262587862830 tw1715706847463209650 tw1693383490307312506 tw13925329513266969285 tw1820672343422547870 tw16091852629218150306 tw12678846654291132052 tw18258398116099616044 tw7991251011032044079 tw7747994208855033966 tw5096860576244383642 tw344567140403647957 tw8969846628118436214 tw8007907903992609001 tw7930559143061463984 tw4119563106341279060 tw17068379474223127211 tw16186777801104104810 tw12868915802048751581 tw12774215821725654911 tw11760591705512346945 tw11363900087307264429 tw8278894512837100536 tw16035091590569727094 tw5744390378419495370 tw12177730178668726056 tw9538060982228459744 tw8928864700587812381 tw884948540039276341 tw8560535074271193739 tw8485444114475692211 tw6734250430688825885 tw4038944212734178203 tw3418729388793908815 tw2318003116942486386 tw1795932824811479877 tw17677442609816903476 tw16830759379187955305 tw16714084847213339563 tw14988256245691621683 tw14619721137154755675 tw1460080121428931515 tw14157577444749765481 tw13193230372993505332 tw12565126808860639531 tw12278891165497038660 tw8352492374381788896 tw734505883282564889 tw5421475344098901178 tw345017131367502009 tw3441655065302683170 tw273165350108498004 tw192634631451033864 tw1811399149369829539 tw17406490038458227113 tw17098282779076253438 tw1654984739278750817 tw160485171149899202 tw14821962594333946821 tw14601234742564181473 tw13673738790289450723 tw13150010597667202325 tw13002430357897409583 tw10764041027961742899 tw10495022902556735876 tw12185524541463841310 tw7763118928850729009 tw16443175173522774242 tw9624542388935218175 tw8543395196451953711 tw8087263176536107544 tw5725387056469182597 tw4818290063365208779 tw32857971767418112 tw2712989683104069356 tw18043952973528679880 tw17572317686984238240 tw17461689497058530465 tw15481483222099171276 tw1263597478423474338 tw10214035641400124659 tw9595588370561771096 tw7687165095782258828 tw7050907838127105427 tw7047555501279646136 tw697777851211753988 tw6843459434345786663 tw6657916882597060614 tw4493409362539411226 tw4289130756226478958 tw2544456258693366412 tw18398041939097344979 tw17972727372464593700 tw17404034624218894524 tw16900569162589304202 tw13169315424958801946 tw12074714713161401145 tw11354208129123551867 tw10948194871611699473 tw10320909266298740128 tw16695736601233652167 tw13298788827621558433 tw9996708123621212026 tw9739951563853222800 tw9717456253973471325 tw9589558752322593702 tw9448533721524180909 tw9446532109386621630 tw9384637906770911036 tw9304696039493004723 tw9261212096334145302 tw9217977049805862934 tw8978695643093244912 tw8952069078525490748 tw8835732399266751290 tw8809825777838095998 tw864960060847614701 tw8564161834096437645 tw848569687027590015 tw8334126751262631132 tw8276063086742320947 tw8112573138370212593 tw8103408483023322821 tw8085236228013628829 tw8040553743680426269 tw8027089372863889103 tw7927571189938889979 tw7927261531607204021 tw7783925174873609021 tw7701824576550270487 tw7680873984531047583 tw76698089063431267 tw7652309075117704446 tw7621772390077957157 tw7581761436329928094 tw7579704092411611200 tw7361478448819920846 tw7029580256869209785 tw7027628044913235785 tw6892901119068547849 tw681189184657369803 tw6803358183047796096 tw6751247205530728053 tw6720159557559253715 tw6602676907369124257 tw6559890608567468074 tw6535007922860000190 tw6045534859368093540 tw5883579331907185529 tw5791192590935597518 tw5652469723155149540 tw5637553316041656045 tw5617716804462043324 tw5575602190084240019 tw5450739591391275562 tw5283396770952054950 tw5269326917326465311 tw5218174291932317899 tw5100262677214586052 tw5021481348691990186 tw5014816632038097304 tw5002876573026509743 tw4852543727764313940 tw4788852569678769027 tw4684807067806350332 tw4602977041266320238 tw4590177234066411199 tw4576636532541100089 tw4472314462713935795 tw445906173268308767 tw4252379381016092196 tw4120456071560627342 tw4105316754054371774 tw4012594656016654396 tw4011326501772245581 tw4007420369474317138 tw3960801856661293594 tw390022580448298988 tw3808641002471313354 tw3667429968828710933 tw3448154496269759931 tw3424434548405002747 tw3413747669472268526 tw3411743366456049979 tw3403045869740402936 tw3193815841137430119 tw3134236040843819189 tw3089888667861290846 tw3063926062256322620 tw3021943873858450839 tw2972778573674501440 tw2862227941239739762 tw2735740164037314732 tw2702233844142676501 tw261290375812035358 tw2554067059995295397 tw2490199731696505350 tw2437068303664540027 tw2435307733327221395 tw2380994587592349578 tw2298724443425932339 tw2295921478266017848 tw2289700231142500635 tw2197127759366907302 tw2188948721497881597 tw18413645002036749609 tw18356653661029057728 tw18153139132271911153 tw18012495297289520073 tw17982726089275036951 tw17932601730017685844 tw17893393942422279181 tw17777065977984136659 tw17717874875487097640 tw17701317765190980952 tw17675713731763417166 tw17521878192221191372 tw1742551011135016323 tw17211463122601764265 tw17077648750616201210 tw16761407231693422414 tw16381416265203354654 tw16307771529236543185 tw1613040128173546725 tw15998546053476135844 tw15931315544299011211 tw15909036623824809691 tw15795985490805459125 tw15756021862112005892 tw15727179763305039258 tw15664468899570673612 tw15581631659099541204 tw15497487302370900405 tw15343040879095213258 tw15234906223112644359 tw15112507649904065157 tw14947073677222338034 tw14854181051327815599 tw14804320437416110300 tw14774201700282774031 tw14755507490460424946 tw14589827827730320242 tw14573067012331670808 tw14501885966158992108 tw14393549508104884428 tw14219063964027483971 tw14202964417765385955 tw14135907553331586727 tw14110714545343744615 tw14093560985144757076 tw14073526519503822522 tw14062505272243382476 tw14034537724850213573 tw13812006424702769933 tw13758075805513447479 tw13561691401421367334 tw13554947410578461532 tw13429566716098835771 tw13315306509632916816 tw13280286648133386816 tw13258212816148294477 tw13137562001393510307 tw13133686031769676225 tw13039171503436244975 tw13033316195776170118 tw1299490065849999281 tw12937518438351163129 tw12874186389544091735 tw1277532262244993111 tw12601451097786213214 tw12585168854462506361 tw12544760339679280622 tw12425897981928328104 tw12369738971808014108 tw12193896633356014142 tw12041084444732819410 tw11988691659817853087 tw11756863592884221038 tw11577785461930076384 tw11518530998866955454 tw11278045914203829976 tw11235217490474599601 tw11190252277320531509 tw11160424438736702640 tw1106881787720595968 tw11066953594877869385 tw11060409754930735691 tw10949753686132275171 tw10943987284024935179 tw10901510829226757663 tw10897617722850456181 tw10689992692854201412 tw10641270631421967089 tw10640609844887990930 tw10637070299906984091 tw10480482269892107155 tw10402313166699498571 tw10339191346457491472 tw10310411850458231318 tw10258450385557198203 tw10000131197245788521:True)
open PySem PySem.W PyProof.Rows
set_option maxRecDepth 100000 in
set_option maxHeartbeats 0 in
theorem PySem.Challenge.cw_wormyard_k82_whole_yards_shown_holds : PySem.Challenge.rw_wormyard_k82_whole_yards_shown.Holds := by
 w_on;o_law;k_head; (case hw=>w_witness2)
 k_fill
 refine K82.walk (l:=PySem.Challenge.rw_wormyard_k82_whole_yards_shown) rfl rfl (fun w h Y=>PySem.W.kIn_of Y) ?F
 case F =>
  intro w mg fa h KX G hmg
  refine' K82.all_mk KX G hmg ?Aa ?Ab ?Ac ?Ad ?Ae ?Af ?Ag ?Ah ?Ai ?Aj ?Ak ?Al ?Am ?An ?Ao ?Ap ?Aq ?Ar ?As ?At ?Au ?Av ?Aw ?Ax ?Ay ?Az ?Ba ?Bb ?Bc ?Bd ?Be ?Bf ?Bg ?Bh ?Bi ?Bj ?Bk ?Bl ?Bm ?Bn ?Bo ?Bp ?Bq ?Br ?Bs ?Bt ?Bu ?Bv ?Bw ?Bx ?By ?Bz ?Ca ?Cb ?Cc ?Cd ?Ce ?Cf ?Cg ?Ch ?Ci ?Cj ?Ck ?Cl ?Cm ?Cn ?Co ?Cp ?Cq ?Cr ?Cs ?Ct ?Cu ?Cv ?Cw ?Cx ?Cy ?Cz ?Da ?Db ?Dc ?Dd ?De ?Df ?Dg ?Dh ?Di ?Dj ?Dk ?Dl ?Dm ?Dn ?Do ?Dp ?Dq ?Dr ?Ds ?Dt ?Du ?Dv ?Dw ?Dx ?Dy ?Dz ?Ea ?Eb ?Ec ?Ed ?Ee ?Ef ?Eg ?Eh ?Ei ?Ej ?Ek ?El ?Em ?En ?Eo ?Ep ?Eq ?Er ?Es ?Et ?Eu ?Ev ?Ew ?Ex ?Ey ?Ez ?Fa ?Fb ?Fc ?Fd ?Fe ?Ff ?Fg ?Fh ?Fi ?Fj ?Fk ?Fl ?Fm ?Fn ?Fo ?Fp ?Fq ?Fr ?Fs ?Ft ?Fu ?Fv ?Fw ?Fx ?Fy ?Fz ?Ga ?Gb ?Gc ?Gd ?Ge ?Gf ?Gg ?Gh ?Gi ?Gj ?Gk ?Gl ?Gm ?Gn ?Go ?Gp ?Gq ?Gr ?Gs ?Gt ?Gu ?Gv ?Gw ?Gx ?Gy ?Gz ?Ha
  case Aa|Ab|Ac|Ad|Ae|Af=>k_is
  case Ag|Ah|Ai|Aj|Ak|Al|Am|An|Ao|Ap|Aq|Ar|As|At|Au|Av|Aw|Ax|Ay|Az|Ba|Bb|Bc|Bd|Be|Bf|Bg|Bh|Bi|Bj|Bk|Bl|Bm|Bn|Bo|Bp|Bq|Br|Bs|Bt|Bu|Bv|Bw|Bx|By|Bz|Ca|Cb|Cc|Cd|Ce|Cf|Cg|Ch|Ci|Cj|Ck|Cl|Cm|Cn|Co|Cp|Cq|Cr|Cs|Ct|Cu|Cv|Cw|Cx|Cy|Cz|Da|Db|Dc|Dd|De|Df|Dg|Dh|Di|Dj|Dk|Dl|Dm|Dn|Do|Dp|Dq=>first |(refine' K82.mkT (by assumption) (by assumption) ?b ?a ?l ?c ?k;(case b=>first|exact fun _ _ _ _ _ _=>K82.len_of1 (fun _=>rfl)|exact fun _ _ _ _ _ _=>K82.len_of2 (fun _ _=>rfl)|exact fun _ _ _ _ _ _=>K82.len_of3 (fun _ _ _=>rfl)|exact fun _ _ _ _ _ _=>K82.len_of4 (fun _ _ _ _=>rfl)|exact fun _ _ _ _ _ _=>K82.len_of5 (fun _ _ _ _ _=>rfl));(case a=>k_is);(case l=>k_is);(case c=>k_is);(case k=>k_is))|(refine' K82.mkM ?b ?a ?l ?c ?k ?i;(case b=>first|exact fun _ _ _ _ _ _=>K82.len_of1 (fun _=>rfl)|exact fun _ _ _ _ _ _=>K82.len_of2 (fun _ _=>rfl)|exact fun _ _ _ _ _ _=>K82.len_of3 (fun _ _ _=>rfl)|exact fun _ _ _ _ _ _=>K82.len_of4 (fun _ _ _ _=>rfl)|exact fun _ _ _ _ _ _=>K82.len_of5 (fun _ _ _ _ _=>rfl));(case a=>k_is);(case l=>k_is);(case c=>k_is);(case k=>k_is);(case i=>k_is))|k_is
  case Dr|Ds|Dt|Du|Dv|Dw|Dx|Dy|Dz|Ea|Eb|Ec|Ed|Ee|Ef|Eg|Eh|Ei|Ej|Ek|El|Em|En|Eo|Ep|Eq|Er|Es|Et|Eu|Ev|Ew|Ex|Ey|Ez|Fa|Fb|Fc|Fd|Fe|Ff|Fg|Fh|Fi|Fj|Fk|Fl|Fm|Fn|Fo|Fp|Fq|Fr|Fs|Ft|Fu|Fv|Fw|Fx|Fy|Fz|Ga|Gb|Gc=>k_is
  case Gd|Ge|Gf=>first | k_is | kernel_rfl
  case Gg|Gh|Gi|Gj|Gk|Gl|Gm|Gn=>kit_is
  case Go|Gp|Gq|Gr|Gs|Gt|Gu|Gv|Gw|Gx|Gy|Gz|Ha=>k_is
