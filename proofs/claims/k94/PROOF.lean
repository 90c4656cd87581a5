import PyProof.Rows.All
import Wide.All
import OpenK.AllK
import Wide.FinOn
import Lean
import PyProof.EqAt
import PyProof.EqKinds
import PyProof.TupleCall
import PyProof.ExcBaseAll.ValueError
import PyProof.EnumMake
import PyProof.Rows.EnumRows
import PyProof.TupleIter
import PyProof.DictValues
import PyProof.CollectStr
import PySem.Builtin.Int.W1All
import PyProof.DictRoadsH
import PyProof.DictKinds
import PyProof.FactsAll.NoneType
import KE.KRevIter
import PyProof.FactsAll.list_3
import KE.KDictList
import PyProof.DictIter
import PyProof.DictWalks
import PyProof.ListRange
import PyProof.Rows.SumAny
import PyProof.Rows.SeqCalls
import PyProof.P3In
import PyProof.DictItems
import KE.KPairComp
import PyProof.FactsAll.dict_3
import PyProof.CollectIter
import PyProof.TupleOfGen
import PyProof.TupleOfSeq
import PyProof.FactsAll.subtypes_4
import PyProof.ZipIter
import KE.KDictLaws
import PyProof.Rows.StrJoin2
import PyProof.StrBlockH
import KE.KIntText
import PyProof.StrWalks
import PyProof.CallStr
import PyProof.StrLawsChain
import PyProof.FitsInt
import PyProof.Rows.StrClose3
import PySem.Challenge.RW_wormyard_k94_whole_cut_and_read
set_option compiler.extract_closed false
set_option Elab.async false
set_option linter.all false
set_option maxRecDepth 100000
set_option maxHeartbeats 4000000
theorem η0(h:1=1:=by rfl):1=1:=h
def η:=η0._auto_1
theorem θ0(h:1=1:=by decide):1=1:=h
def θ:=θ0._auto_1
theorem ζ0(h:1=1:=by first | exact .inl rfl | exact .inr rfl | assumption):1=1:=h
def ζ:=ζ0._auto_1
theorem ξ0(h:1=1:=by decide +kernel):1=1:=h
def ξ:=ξ0._auto_1
theorem ψ0(h:1=1:=by intro _;rfl):1=1:=h
def ψ:=ψ0._auto_1
open PySem.W (Frag keepIn findIn fnOf codeIn nsIn mg_of isFn kitOne hasDictIn mg_none_of plainGet plainOver makesIn)
open List (getElem?_eq_getElem getElem?_map getElem?_append_left find?_cons getElem?_set_ne getElem?_concat_length getElem?_append_right all_cons all_eq_true all_map any_cons any_eq_false any_eq_true append_assoc append_nil cons_ne_nil drop_eq_nil_of_le drop_zero eq_nil_iff_forall_not_mem eq_of_mem_replicate filterMap_cons filter_append filter_congr filter_cons filter_eq_self flatMap_append flatMap_cons forIn_cons getD_eq_getElem?_getD getElem_map getElem_mem getElem_of_mem length_append length_cons length_drop length_filter_le length_map length_pos_iff length_range length_replicate length_set length_singleton length_take length_take_le lookup_cons map_append map_congr_left map_cons map_eq_nil_iff map_map map_nil map_take mem_append mem_append_left mem_append_right mem_cons mem_cons_of_mem mem_cons_self mem_filter mem_flatMap mem_map mem_of_getElem? mem_of_head? mem_of_mem_take mem_range mem_reverse mem_singleton mem_take_iff_getElem nodup_cons nodup_nil not_mem_nil of_mem_zip pairwise_cons pairwise_iff_getElem pairwise_lt_range range_succ replicate_succ' size_toArray sum_append sum_cons take_length take_of_length_le take_succ)
open Nat (le_of_eq le_of_lt le_refl le_succ le_trans lt_irrefl lt_of_le_of_lt lt_of_lt_of_le lt_or_ge lt_succ_self lt_trans min_eq_left min_eq_right mul_le_mul_right mul_one ne_of_gt ne_of_lt not_lt_zero pow_le_pow_right testBit_lt_two_pow zero_le)
open Int (emod_lt_of_pos emod_nonneg lt_or_le natAbs_natCast toNat_natCast zero_add)
open PySem.F (args_tuple_add_2 entry_dict_get entry_tuple_add plainAttrs_list plainAttrs_str slot_dict_get slot_list_extend slot_tuple_add type_list_extend)
open PySem.Heap (lt_size size_push)
noncomputable section
abbrev L2.zQ0:PySem.Scope:={kind:=.function,names:=[],isGenerator:=false,isCoroutine:=false}
theorem L2.gQ0{α:Type}{l:List α}{a:α}(h:l[i]?=some a):i<l.length:=(List.getElem?_eq_some_iff.mp h).1
namespace L2
theorem Jf{α:Type}{l:List α}(h:l.length=n + 1):∃a t,l=a :: t/\t.length=n:=by
 cases l with
 | nil=>cases h
 | cons a t=>exact⟨a,t,rfl,Nat.succ.inj h⟩
open PySem PySem.Spec PyProof.Rows
abbrev Key:=Sum Int Str
noncomputable def kK:Key->Value->Bool
 | .inl k,v=>Value.isInt k v
 | .inr x,v=>Value.isStrOf x v
noncomputable def Sw(w:World):Key->Int
 | .inl k=>hashInt k
 | .inr x=>hashStr w x
theorem bH:∀{k:Key}{v:Value},kK k v=true->(∃i t,k=Sum.inl i/\v=Value.int i t)∨(∃x t,k=Sum.inr x/\v=Value.str x t)
 | .inl i,v,h=>by
  obtain⟨t,e⟩:=Value.isInt_shape (k:=i) (v:=v) h
  exact .inl ⟨i,t,rfl,e⟩
 | .inr x,v,h=>by
  obtain⟨t,e⟩:=Value.isStrOf_shape (x:=x) (v:=v) h
  exact .inr ⟨x,t,rfl,e⟩
theorem tT(i:Int)(t:Tok):kK (.inl i) (.int i t)=true:=by simp[kK,Value.isInt]
theorem tS(x:Str)(t:Tok):kK (.inr x) (.str x t)=true:=by simp[kK,Value.isStrOf]
theorem B4(a b:Int):decide ((Sum.inl a:Key)=Sum.inl b)=(a == b):=by
 by_cases e:a=b
 ·subst e;simp
 ·have h:¬(Sum.inl a:Key)=Sum.inl b:=λq=>e (Sum.inl.inj q)
  rw[decide_eq_false h]
  exact(beq_eq_false_iff_ne.mpr e).symm
theorem Bz(a b:Str):decide ((Sum.inr a:Key)=Sum.inr b)=decide (a=b):=by
 by_cases e:a=b
 ·subst e;simp
 ·have h:¬(Sum.inr a:Key)=Sum.inr b:=λq=>e (Sum.inr.inj q)
  rw[decide_eq_false h,decide_eq_false e]
theorem B3(a:Int)(b:Str):decide ((Sum.inl a:Key)=Sum.inr b)=false:=decide_eq_false (λq=>nomatch q)
theorem B0(a:Str)(b:Int):decide ((Sum.inr a:Key)=Sum.inl b)=false:=decide_eq_false (λq=>nomatch q)
noncomputable def aY(prog:Program)(w:World):PySem.KeyKind prog w Key where
 is:=kK
 hash:=Sw w
 inj:=λv a b ha hb=>by
  rcases bH ha with ⟨i,t,rfl,rfl⟩ | ⟨x,t,rfl,rfl⟩
  ·rcases bH hb with ⟨j,u,rfl,e⟩ | ⟨y,u,rfl,e⟩
   ·injection e with e1 _;rw[e1]
   ·exact nomatch e
  ·rcases bH hb with ⟨j,u,rfl,e⟩ | ⟨y,u,rfl,e⟩
   ·exact nomatch e
   ·injection e with e1 _;rw[e1]
 byValue:=λk v h=>by
  rcases bH h with ⟨i,t,rfl,rfl⟩ | ⟨x,t,rfl,rfl⟩<;>rfl
 pyHash:=λhv h=>by
  rcases bH hv with ⟨i,t,rfl,rfl⟩ | ⟨x,t,rfl,rfl⟩
  ·exact wpAny_pyHash_int h
  ·exact wpAny_pyHash_str h
 eqBool:=λhu hv h=>by
  rcases bH hu with ⟨i,t,rfl,rfl⟩ | ⟨x,t,rfl,rfl⟩
  ·rcases bH hv with ⟨j,u,rfl,rfl⟩ | ⟨y,u,rfl,rfl⟩
   ·rw[B4]at h;exact wpAny_eqBool_int h
   ·rw[B3]at h;exact SeqAt.EqAt.int_str i t y u _ _ _ _ h
  ·rcases bH hv with ⟨j,u,rfl,rfl⟩ | ⟨y,u,rfl,rfl⟩
   ·rw[B0]at h;exact SeqAt.EqAt.str_int x t j u _ _ _ _ h
   ·rw[Bz]at h;exact wpAny_eqBool_str h
 «strs»:=λk x t v h=>by
  rcases bH h with ⟨i,u,rfl,e⟩ | ⟨y,u,rfl,e⟩
  ·exact nomatch e
  ·injection e with e1 _
   subst e1
   cases v<;>rfl
theorem oN(prog:Program)(w:World)(i:Int)(t:Tok):(aY prog w).is (.inl i) (.int i t)=true:=tT i t
theorem oM(prog:Program)(w:World)(x:Str)(t:Tok):(aY prog w).is (.inr x) (.str x t)=true:=tS x t
open PySem.Spec PyProof.Rows
inductive V where
 | Cp | bl (b:Bool) | int (i:Int) | str (x:Str) | FH (b:Array UInt8) | JZ (b:UInt64) | ref (a:Addr) | ty (n:String)
 deriving DecidableEq
def RelV:V->Value->Prop
 | .Cp,u=>u=Value.none
 | .bl b,u=>u=Value.bool b
 | .int i,u=>∃t,u=Value.int i t
 | .str x,u=>∃t,u=Value.str x t
 | .FH b,u=>∃t,u=Value.bytes b t
 | .JZ b,u=>∃t,u=Value.float b t
 | .ref a,u=>u=Value.ref a
 | .ty n,u=>u=Value.type n
abbrev Vals:List V->List Value->Prop:=Paired RelV
theorem Vals.length(r:Vals xs us):xs.length=us.length:=Paired.length r
theorem Vals.get:∀{xs:List V}{us:List Value}{i:Nat}{x:V},Vals xs us->xs[i]? = some x->∃u,us[i]? = some u/\RelV x u
 | _,_,_,_, .nil,e=>by simp at e
 | _,_,0,_, .cons r _,e=>by simp at e;subst e;exact⟨_,rfl,r⟩
 | _,_,i + 1,x, .cons _ t,e=>by
  obtain⟨u,h1,h2⟩:=Vals.get (i:=i) (x:=x) t (by simpa using e)
  exact⟨u,by simpa using h1,h2⟩
theorem Vals.set(r:RelV x u):∀{xs:List V}{us:List Value}(i:Nat),Vals xs us->Vals (xs.set i x) (us.set i u)
 | _,_,_, .nil => .nil
 | _,_,0, .cons _ t => .cons r t
 | _,_,i + 1, .cons q t => .cons q (Vals.set r i t)
theorem Vals.append:∀{xs ys:List V}{us ws:List Value},Vals xs us->Vals ys ws->Vals (xs ++ ys) (us ++ ws)
 | _,_,_,_, .nil,s=>s
 | _,_,_,_, .cons r t,s => .cons r (Vals.append t s)
theorem Vals.take:∀{xs:List V}{us:List Value}(n:Nat),Vals xs us->Vals (xs.take n) (us.take n)
 | _,_,0,_ => .nil
 | _,_,_ + 1, .nil => .nil
 | _,_,n + 1, .cons r t => .cons r (Vals.take n t)
theorem Vals.drop:∀{xs:List V}{us:List Value}(n:Nat),Vals xs us->Vals (xs.drop n) (us.drop n)
 | _,_,0,r=>r
 | _,_,_ + 1, .nil => .nil
 | _,_,n + 1, .cons _ t=>Vals.drop n t
def CV:Option V->Option Value->Prop
 | some v,some u=>RelV v u
 | none,none=>True
 | _,_=>False
def KV{κ:Type}:List (κ × V)->List (κ × Value)->Prop:=Paired λ(p:κ × V)(q:κ × Value)=>p.1=q.1/\RelV p.2 q.2
noncomputable def kV:Key->V
 | .inl i => .int i
 | .inr x => .str x
inductive HO where
  | lst (xs:List V)
  | tup (xs:List V)
  | dK (kvs:List (Key × V)) | dT (kvs:List (List Key × V))
  | set (S:Int->Bool) (n:Nat)
  | ins (C dx:Addr) (fs:List (Str × V))
  | own (x:Addr)
  | xd (fs:List (Str × V))
  | met (f x:Addr)
  | Sy (lo hi:Int)
  | DT (o:Obj) (u:HO)
  | Jg (ps:Array Value)
  | ext (φ:Heap->Prop)
abbrev Hp:=Addr->Option HO
noncomputable def upd(H:Hp)(a:Addr)(o:HO):Hp:=λb=>if b=a then some o else H b
theorem ad :upd H a o a=some o:=by unfold upd;rw[if_pos rfl]
theorem ah(h:b ≠ a):upd H a o b=H b:=by unfold upd;rw[if_neg h]
theorem b9{H:Hp}(h:H a=some o)(h':H b=some u)(d:o ≠ u):a ≠ b:=by
 intro e;subst e;rw[h]at h';exact d (Option.some.inj h')
theorem aj{H:Hp}(h:H a=some o)(h':H b=none):a ≠ b:=by
 intro e;subst e;rw[h]at h';cases h'
def Dm(h:Heap)(a:Addr)(items:Array Value):Prop:=∃o,h.get? a=some o/\(o.cls = .type "tuple"/\∃n,o.data = .seq items n)/\o.dict=none
theorem Dm.isTup :Dm h a items->IsTup h a items:=λCc=>by obtain⟨o,e,c,_⟩:=Cc;exact⟨o,e,c⟩
theorem Dm.new(h:Heap)(items:Array Value):Dm (h.push { cls := .type "tuple",data := .seq items }) h.objs.size items:=⟨_,Heap.get?_push_size _ rfl,⟨rfl,_,rfl⟩,rfl⟩
section
variable (P:Program)(w:World)
def C1(H:Hp)(h:Heap)(a:Addr):HO->Prop
 | .lst xs=>xs.length <= sizeLine/\∃(Cd:List Value)(n:Nat),Vals xs Cd/\h.get? a=some { cls := .type "list",data := .seq Cd.toArray n }
 | .tup xs=>xs.length <= sizeLine/\∃Cd:List Value,Vals xs Cd/\Dm h a Cd.toArray
 | .dK kvs=>kvs.length <= sizeLine/\(a == sysModules)=false/\∃vs,KV kvs vs/\h.DictOf (aY P w) a vs
 | .dT kvs=>kvs.length <= sizeLine/\(a == sysModules)=false/\∃xs:List (List Key × Addr × Value),
   Paired (λ(p:List Key × V)(q:List Key × Addr × Value)=>p.1=q.1/\H q.2.1=some (.tup (p.1.map kV))/\RelV p.2 q.2.2) kvs xs /\
   ∃o es ep,h.get? a=some o/\o.ExactDict/\o.data = .dict es ep/\es.toList=xs.map (entryOfKey (tupleKind (aY P w)))/\(xs.map (·.1)).Nodup
 | .set S n=>h.SetOf (intKind P w) a S n
 | .ins C dx fs=>H dx=some (.own a)/\fs.length <= 1000/\dx ≠ a/\h.get? a=some (PySem.W.instObj C dx) /\
   ∃mA,h.Ns1 dx mA/\(∀f,CV (fs.lookup f) (mA f))/\PySem.Within mA (fs.map (·.1))
 | .own _=>∃o,h.get? a=some o
 | .xd fs=>∃mA,h.Ns1 a mA/\∀f,CV (fs.lookup f) (mA f)
 | .Sy lo hi=>∃t u v,h.get? a=some { cls := .type "range",data := .fields #[.int lo t, .int hi u, .int 1 v] }
 | .DT o u=>h.get? a=some o/\C1 H h a u
 | .Jg ps=>h.get? a=some { cls := .none,data := .fields ps }
 | .met f x=>h.get? a=some (PySem.W.methodObj (.ref f) (.ref x))
 | .ext φ=>φ h/\(∃o,h.get? a=some o)/\∀h1 h2:Heap,φ h1->(∀o,h1.get? a=some o->h2.get? a=some o)->φ h2
def D4(H:Hp)(h:Heap):Prop:=∀a o,H a=some o->C1 P w H h a o
end
section
variable {P:Program}{w:World}{H H':Hp}{h h':Heap}{a:Addr}{o:HO}
theorem C1.lt(x:C1 P w H h a o):a < h.objs.size:=by
 cases o with
 | lst xs=>obtain⟨_,_,_,_,e⟩:=x;exact lt_size e
 | tup xs=>obtain⟨_,_,_,p⟩:=x;exact p.isTup.lt
 | dK kvs=>obtain⟨_,_,_,_,o,_,_,e,_⟩:=x;exact lt_size e
 | dT kvs=>obtain⟨_,_,_,_,o,_,_,e,_⟩:=x;exact lt_size e
 | set S n=>obtain⟨o,_,_,_,e,_⟩:=x;exact lt_size e
 | ins C dx fs=>obtain⟨_,_,_,e,_⟩:=x;exact lt_size e
 | own y=>obtain⟨_,e⟩:=x;exact lt_size e
 | xd fs=>obtain⟨_,⟨_,_,_,e,_⟩,_⟩:=x;exact lt_size e
 | Sy lo hi=>obtain⟨_,_,_,e⟩:=x;exact lt_size e
 | DT ob u=>obtain⟨e,_⟩:=x;exact lt_size e
 | Jg ps=>exact lt_size (show h.get? a=some _ from x)
 | met f y=>exact lt_size (show h.get? a=some _ from x)
 | ext φ=>obtain⟨_,⟨_,e⟩,_⟩:=x;exact lt_size e
theorem Paired.Ka :∀{l₁:List α}{l₂:List β},Paired F l₁ l₂->(∀a b,F a b->G a b)->Paired G l₁ l₂
 | _,_, .nil,_ => .nil
 | _,_, .cons r t,f => .cons (f _ _ r) (Paired.Ka t f)
theorem C1.Ef(x:C1 P w H h a o)(k:∀b u,(b=a∨H b=some (.own a))->h.get? b=some u->h'.get? b=some u)
  (ho:∀b,H b=some (.own a)->H' b=some (.own a)) (ht:∀b xs,H b=some (.tup xs)->H' b=some (.tup xs)):C1 P w H' h' a o:=by
 induction o with
 | lst xs=>obtain⟨z,Cd,n,r,e⟩:=x;exact⟨z,Cd,n,r,k _ _ (.inl rfl) e⟩
 | tup xs=>obtain⟨z,Cd,r,ob,e,c⟩:=x;exact⟨z,Cd,r,ob,k _ _ (.inl rfl) e,c⟩
 | dK kvs=>obtain⟨z,y,vs,r,ob,es,ep,e,c⟩:=x;exact⟨z,y,vs,r,ob,es,ep,k _ _ (.inl rfl) e,c⟩
 | dT kvs =>
  obtain⟨z,y,xs,r,ob,es,ep,e,c⟩:=x
  exact⟨z,y,xs,Paired.Ka r λp q z=>⟨z.1,ht _ _ z.2.1,z.2.2⟩,ob,es,ep,k _ _ (.inl rfl) e,c⟩
 | set S n=>obtain⟨ob,es,ep,t,e,c⟩:=x;exact⟨ob,es,ep,t,k _ _ (.inl rfl) e,c⟩
 | ins C dx fs =>
  obtain⟨d,z,ne,e,mA,⟨od,es,ep,e2,c⟩,r⟩:=x
  exact⟨ho _ d,z,ne,k _ _ (.inl rfl) e,mA,⟨od,es,ep,k _ _ (.inr d) e2,c⟩,r⟩
 | own y=>obtain⟨ob,e⟩:=x;exact⟨ob,k _ _ (.inl rfl) e⟩
 | xd fs=>obtain⟨mA,⟨od,es,ep,e,c⟩,r⟩:=x;exact⟨mA,⟨od,es,ep,k _ _ (.inl rfl) e,c⟩,r⟩
 | Sy lo hi=>obtain⟨t,u,v,e⟩:=x;exact⟨t,u,v,k _ _ (.inl rfl) e⟩
 | DT ob u ih=>obtain⟨e,q⟩:=x;exact⟨k _ _ (.inl rfl) e,ih q⟩
 | Jg ps =>
  have e:h.get? a=some { cls := .none,data := .fields ps }:=x
  show h'.get? a=some { cls := .none,data := .fields ps }
  exact k a _ (.inl rfl) e
 | met f y =>
  have e:h.get? a=some (PySem.W.methodObj (.ref f) (.ref y)):=x
  show h'.get? a=some (PySem.W.methodObj (.ref f) (.ref y))
  exact k a _ (.inl rfl) e
 | ext φ=>obtain⟨p,⟨o,e⟩,st⟩:=x;exact⟨st _ _ p λo q=>k _ _ (.inl rfl) q,⟨o,k _ _ (.inl rfl) e⟩,st⟩
theorem D4.lt(x:D4 P w H h)(e:H a=some o):a < h.objs.size:=(x a o e).lt
theorem D4.fresh(x:D4 P w H h)(e:h.objs.size <= a):H a=none:=by
 cases q:H a with
 | none=>rfl
 | some u=>exact absurd (lt_of_lt_of_le (x.lt q) e) (lt_irrefl _)
theorem D4.kept(x:D4 P w H h)(k:∀b u,h.get? b=some u->h'.get? b=some u):D4 P w H h':=λa o e =>
 (x a o e).Ef (λb u _ q=>k b u q) (λ_ q=>q) λ_ _ q=>q
theorem D4.laid(x:D4 P w H h)(k:∀b u,h.get? b=some u->h'.get? b=some u)(hp:h.objs.size <= a)(new:C1 P w (upd H a o) h' a o):D4 P w (upd H a o) h':=λb u e=>by
 have hn:=x.fresh hp
 by_cases hb:b=a
 ·subst hb;rw[ad]at e;cases e;exact new
 ·rw[ah hb]at e
  exact(x b u e).Ef (λc v _ q=>k c v q) (λc q=>by rw[ah (aj q hn)];exact q) λc xs q=>by rw[ah (aj q hn)];exact q
end
def Rd(H:Hp)(a:Addr)(u:HO):Prop:=H a=some u∨∃o,H a=some (.DT o u)
theorem Rd.ok(r:Rd H a u)(x:D4 P w H h):C1 P w H h a u:=by
 rcases r with r | ⟨o,r⟩
 ·exact x a u r
 ·obtain⟨_,q⟩:=x a _ r
  exact q
def M0:Option HO->Prop
 | some (.lst _)=>True
 | some (.dK _)=>True
 | some (.dT _)=>True
 | some (.set _ _)=>True
 | some (.ins _ _ _)=>True
 | some (.ext _)=>True
 | _=>False
section
theorem D4.write(ok:D4 P w H h)(mu:M0 (H x))(he:e=x∨H e=some (.own x))(k:∀b u,b ≠ e->h.get? b=some u->h'.get? b=some u)(Lw:∃u,h'.get? e=some u)
  (new:C1 P w (upd H x o') h' x o'):D4 P w (upd H x o') h':=λb u q=>by
 have M3:∀c y,H c=some (.own y)->c ≠ x:=λc y r z=>by subst z;rw[r]at mu;exact mu
 have Sz:∀c xs,H c=some (.tup xs)->c ≠ x:=λc xs r z=>by subst z;rw[r]at mu;exact mu
 by_cases hb:b=x
 ·subst hb;rw[ad]at q;cases q;exact new
 ·rw[ah hb]at q
  by_cases FI:b=e
  ·have q':H b=some (.own x):=by
    rcases he with z | z
    ·exact absurd (FI.trans z) hb
    ·rw[FI];exact z
   rw[q]at q';cases q'
   obtain⟨v,hv⟩:=Lw
   exact⟨v,by rw[FI];exact hv⟩
  ·refine(ok b u q).Ef (λc v hc r=>k c v ?_ r) (λc r=>by rw[ah (M3 c b r)];exact r) λc xs r=>by rw[ah (Sz c xs r)];exact r
   rcases hc with rfl | hc
   ·exact FI
   ·rintro rfl
    rcases he with z | z
    ·exact M3 c b hc z
    ·rw[hc]at z;cases z;exact hb rfl
end
structure Un(fs ex:List Addr)(H H':Hp)(h h':Heap):Prop where
 keep:∀b o,h.get? b=some o->H b=none->b ∉ fs->b ∉ ex->h'.get? b=some o
 slot:∀b o,h.get? b=some o->H b=none->b ∈ fs->b ∉ ex->∃sl,h'.get? b=some { o with slots:=sl }
 free:∀b o,h.get? b=some o->H b=none->b ∉ ex->H' b=none
 there:∀b o,h.get? b=some o->b ∉ ex->∃o',h'.get? b=some o'
 EH:∀b xs,H b=some (.tup xs)->H' b=some (.tup xs)
 Ex:∀b o u,H b=some (.DT o u)->H' b=some (.DT o u)
 EI:∀b ps,H b=some (.Jg ps)->∃more,H' b=some (.Jg (ps ++ more))
section
variable {fs CH ex Lx:List Addr}{H H1 H2:Hp}{h h1 h2 h':Heap}{a x e:Addr}{o:HO}
theorem Un.any(u:Un fs ex H H1 h h1)(q:h.get? b=some ob)(n:H b=none)(hx:b ∉ ex):∃sl,h1.get? b=some { ob with slots:=sl }:=by
 by_cases hb:b ∈ fs
 ·exact u.slot b ob q n hb hx
 ·exact⟨ob.slots,u.keep b ob q n hb hx⟩
theorem Un.kept(k:∀b u,h.get? b=some u->h'.get? b=some u):Un fs ex H H h h' :=
 ⟨λb ob q _ _ _=>k b ob q,λb ob q _ _ _=>⟨ob.slots,k b ob q⟩,λ_ _ _ n _=>n,λb ob q _=>⟨ob,k b ob q⟩,λ_ _ q=>q,λ_ _ _ q=>q,λ_ ps q=>⟨#[],by rw[q];simp⟩⟩
theorem Un.refl:Un fs ex H H h h:=Un.kept λ_ _ q=>q
theorem Un.laid(k:∀b u,h.get? b=some u->h'.get? b=some u)(hp:h.objs.size <= a)(hn:H a=none):Un fs ex H (upd H a o) h h' where
 keep:=λb u q _ _ _=>k b u q
 slot:=λb u q _ _ _=>⟨u.slots,k b u q⟩
 free:=λb u q n _=>by rw[ah (ne_of_lt (lt_of_lt_of_le (lt_size q) hp))];exact n
 there:=λb u q _=>⟨u,k b u q⟩
 EH:=λb xs q=>by rw[ah (aj q hn)];exact q
 Ex:=λb u xs q=>by rw[ah (aj q hn)];exact q
 EI:=λb ps q=>⟨#[],by rw[ah (aj q hn),q];simp⟩
theorem Un.write(mu:M0 (H x))(he:e=x∨H e=some (.own x))(k:∀b u,b ≠ e->h.get? b=some u->h'.get? b=some u)(Lw:∃u,h'.get? e=some u):Un fs ex H (upd H x o) h h':=by
 have hx:∀b,H b=none->b ≠ x:=λb n z=>by subst z;rw[n]at mu;exact mu
 have hb:∀b,H b=none->b ≠ e:=λb n z=>by
  subst z
  rcases he with r | r
  ·exact hx b n r
  ·rw[n]at r;cases r
 have hm:∀b u,H b=some u->¬M0 (some u)->b ≠ x:=λb u q nm z=>by subst z;rw[q]at mu;exact nm mu
 refine⟨λb u q n _ _=>k b u (hb b n) q,λb u q n _ _=>⟨u.slots,k b u (hb b n) q⟩,λb u q n _=>by rw[ah (hx b n)];exact n,λb u q _=>?_,
  λb xs q=>by rw[ah (hm b _ q λz=>z)];exact q,λb u xs q=>by rw[ah (hm b _ q λz=>z)];exact q,λb ps q=>⟨#[],by rw[ah (hm b _ q λz=>z),q];simp⟩⟩
 by_cases FI:b=e
 ·subst FI;exact Lw
 ·exact⟨u,k b u FI q⟩
end
noncomputable def QB(h:Heap)(H:Hp):List Addr:=(List.range h.objs.size).filter λa=>(H a).isSome
noncomputable def nq(h:Heap)(H:Hp):Heap:=PySem.W.hideAll h (QB h H)
theorem tW(h:Heap)(H:Hp):(nq h H).objs.size=h.objs.size:=PySem.W.hideAll_size _ _
theorem wP(e:h.get? b=some o)(n:H b=none):(nq h H).get? b=some o :=
 PySem.W.hideAll_get _ e λhm=>by
  have q:(H b).isSome=true:=(mem_filter.mp hm).2
  rw[n]at q;simp at q
theorem yE(e:(nq h H).get? b=some o):h.get? b=some o/\H b=none:=by
 have e':h.get? b=some o:=PySem.W.of_hideAll (QB h H) e
 refine⟨e',?_⟩
 cases q:H b with
 | none=>rfl
 | some x =>
  have hm:b ∈ QB h H:=mem_filter.mpr ⟨mem_range.mpr (lt_size e'),by simp[q]⟩
  have z:(nq h H).get? b=none:=PySem.W.hideAll_none (QB h H) hm
  rw[z]at e;cases e
structure Mod(K:Frag)(mg:Str->Option Value)(base:Heap):Prop where
 HQ:K.In base
 glob:base.Ns mainGlobals mg
 blt:∃mb,base.Ns builtinsNs mb/\∀x:Str,x ≠ "__name__"->mb x=bootBuiltins x
 nolimit:base.NoLimit
structure Cx where
 prog:Program
 w:World
 K:Frag
 mg:Str->Option Value
 base:Heap
 A:Around
 N:List Str
 s₀:Shared
 H₀:Hp
 env:Env
 outer:List Env
 stack:List Env
 ex:List Addr
 fn:Str->Bool
 calm:Bool
 pn:List (Addr × Obj)
 xe:Value->Shared->Prop
noncomputable def sr(l:List Env):List Addr:=l.filterMap (·.frame)
abbrev Cx.fs(X:Cx):List Addr:=sr X.outer
def QC(sc:Scope)(x:Str):Prop:=sc.names.lookup x=some .local∨sc.names.lookup x=some .cell∨sc.names.lookup x=some .free
def Loc(sc:Scope)(x:Str):Prop:=sc.names.lookup x=some .local∨sc.names.lookup x=some .cell
def Look(env:Env)(h:Heap)(m:Str->Option Value)(x:Str)(u:Value):Prop :=
 (env.kindOf x=some .local/\m x=some u)∨((env.kindOf x=some .cell∨env.kindOf x=some .free)/\∃c,env.cells.lookup x=some c/\h.IsCell c (some u))
structure Cx.Ok(X:Cx):Prop where
 mod:Mod X.K X.mg X.base
 kind:X.env.scope.kind = .function
 glob:X.env.globals=mainGlobals
 blt:X.env.builtins=builtinsNs
 above:X.s₀.heap.objs.size <= X.env.locals
 inj:∀x y c,X.env.cells.lookup x=some c->X.env.cells.lookup y=some c->x=y
 has:∀x,(X.env.kindOf x=some .cell∨X.env.kindOf x=some .free)->∃c,X.env.cells.lookup x=some c
 M4:∀x c,X.fn x=true->X.env.cells.lookup x=some c->X.s₀.heap.objs.size <= c
 hd:X.calm=true->X.A.handled=none
 frames:X.A.frames=some X.stack
 QD:X.stack=X.outer∨(X.stack=X.env :: X.outer/\X.env.frame=some X.env.locals)
 Yb:∀b ∈ X.ex,b ≠ X.env.locals/\∀x c,X.env.cells.lookup x=some c->c ≠ b
 bs:∀b o,X.base.get? b=some o->X.s₀.heap.get? b=some o/\X.H₀ b=none
 Ij:X.base.objs.size <= X.s₀.heap.objs.size
 Hk:∀b o,X.base.get? b=some o->b ∉ X.ex
 Ik:∀b ∈ X.ex,b ∉ X.fs
 DU:X.s₀.heap.FunFrames X.base X.outer
 Kb:∀b ∈ X.fs,X.H₀ b=none
structure Inv(X:Cx)(pins:List (Addr × Obj))(σ:List (Option V))(H:Hp)(s:Shared):Prop where
 ok:X.Ok
 os:s.os=X.s₀.os
 bare:AllBare s.gens
 base:Un X.fs X.ex X.H₀ H X.s₀.heap s.heap
 loc:∃m,s.heap.Ns X.env.locals m/\∀(i:Nat)(x:Str)(v:V),X.N[i]? = some x->σ[i]? = some (some v)->QC X.env.scope x->∃u,RelV v u/\Look X.env s.heap m x u
 cell:∀x c,X.env.cells.lookup x=some c->∃v,s.heap.IsCell c v
 free:H X.env.locals=none
 CU:∀x c,X.env.cells.lookup x=some c->H c=none
 pin:∀p ∈ X.pn ++ pins,s.heap.get? p.1=some p.2/\H p.1=none/\p.1 ≠ X.env.locals/\p.1 ∉ X.fs/\∀v,p.2.data ≠ .cell v
 Ci:D4 X.prog X.w H s.heap
 len:σ.length=X.N.length
section
variable {X:Cx}{pins:List (Addr × Obj)}{σ:List (Option V)}{H H':Hp}{s:Shared}{h':Heap}
theorem Cx.Ok.S0(ok:X.Ok)(e:X.base.get? b=some o):b ∉ X.fs:=λhb=>by
 have:=(ok.DU.mem hb).1
 rw[e]at this;cases this
theorem Inv.bs(I:Inv X pins σ H s):∀b o,X.base.get? b=some o->s.heap.get? b=some o/\H b=none:=λb o e =>
 ⟨I.base.keep b o (I.ok.bs b o e).1 (I.ok.bs b o e).2 (I.ok.S0 e) (I.ok.Hk b o e),I.base.free b o (I.ok.bs b o e).1 (I.ok.bs b o e).2 (I.ok.Hk b o e)⟩
theorem Inv.bk(I:Inv X pins σ H s):∀b o,X.base.get? b=some o->s.heap.get? b=some o:=λb o e=>(I.bs b o e).1
theorem Inv.mod(I:Inv X pins σ H s):Mod X.K X.mg X.base:=I.ok.mod
theorem Inv.DJ(I:Inv X pins σ H s):X.K.In s.heap:=I.ok.mod.HQ.keeps I.bk
theorem Inv.lt(I:Inv X pins σ H s):X.env.locals < s.heap.objs.size:=let ⟨_,hn,_⟩:=I.loc;hn.lt
theorem Inv.sz(I:Inv X pins σ H s):X.s₀.heap.objs.size <= s.heap.objs.size:=le_trans I.ok.above (le_of_lt I.lt)
theorem Inv.S1(I:Inv X pins σ H s){a:Addr}(h:s.heap.objs.size <= a):a ∉ X.fs:=λhb=>by
 obtain⟨_,o,ho,_⟩:=I.ok.DU.mem hb
 exact absurd (lt_of_lt_of_le (lt_size ho) (le_trans I.sz h)) (lt_irrefl _)
theorem Inv.Kc(I:Inv X pins σ H s):∀x c,X.env.cells.lookup x=some c->c ≠ X.env.locals:=λx c e z=>by
 obtain⟨v,o,ho,hd⟩:=I.cell x c e
 obtain⟨m,⟨o',es,ep,Hl,S2,_⟩,_⟩:=I.loc
 rw[z,Hl]at ho;cases ho;rw[S2]at hd;cases hd
theorem Inv.DU(I:Inv X pins σ H s):s.heap.FunFrames X.base X.outer:=by
 have all:∀(l:List Env),(∀b ∈ sr l,b ∈ X.fs)->X.s₀.heap.FunFrames X.base l->s.heap.FunFrames X.base l:=by
  intro l
  induction l with
  | nil=>intro _ _;trivial
  | cons env r ih =>
   intro hs hl
   obtain⟨hk,⟨L,o,hf,hn,ho,hd⟩,hr⟩:=hl
   have hL:L ∈ X.fs:=hs L (by unfold sr;rw[filterMap_cons,hf];exact mem_cons_self)
   obtain⟨sl,e⟩:=I.base.slot L o ho (I.ok.Kb L hL) hL λz=>I.ok.Ik L z hL
   exact⟨hk,⟨L,_,hf,hn,e,hd⟩,ih (λb hb=>hs b (by unfold sr;rw[filterMap_cons,hf];exact mem_cons_of_mem _ hb)) hr⟩
 exact all X.outer (λ_ hb=>hb) I.ok.DU
theorem Inv.stack(I:Inv X pins σ H s):s.heap.FunFrames X.base X.stack:=by
 rcases I.ok.QD with e | ⟨e,hf⟩
 ·rw[e];exact I.DU
 ·rw[e]
  obtain⟨m,hn,_⟩:=I.loc
  refine .cons (by rw[I.ok.kind];decide) hf hn ?_ I.DU
  exact Heap.get?_none_of_le (le_trans I.ok.Ij I.ok.above)
theorem Inv.EJ(I:Inv X pins σ H s):∀b ∈ sr X.stack,b ∈ X.env.locals :: X.fs:=λb hb=>by
 rcases I.ok.QD with e | ⟨e,hf⟩
 ·rw[e]at hb;exact mem_cons_of_mem _ hb
 ·rw[e]at hb
  unfold sr at hb
  rw[filterMap_cons,hf]at hb
  exact hb
theorem Inv.FJ(I:Inv X pins σ H s):∀b ∈ sr X.stack,H b=none:=λb hb=>by
 rcases mem_cons.mp (I.EJ b hb) with e | hb
 ·rw[e];exact I.free
 ·obtain⟨_,o,ho,_⟩:=I.ok.DU.mem hb
  exact I.base.free b o ho (I.ok.Kb b hb) λz=>I.ok.Ik b z hb
theorem Inv.step{ch:List Addr}(I:Inv X pins σ H s)
  (GN:∀b ∈ ch,(b ∈ X.ex∨X.s₀.heap.objs.size <= b)/\b ≠ X.env.locals/\(∀x c,X.env.cells.lookup x=some c->c ≠ b)/\∀p ∈ X.pn ++ pins,p.1 ≠ b)
  (keep:∀b o,b ≠ X.env.locals->b ∉ X.fs->b ∉ ch->s.heap.get? b=some o->H b=none->h'.get? b=some o)
  (slot:∀b o,b ≠ X.env.locals->b ∈ X.fs->b ∉ ch->s.heap.get? b=some o->H b=none->∃sl,h'.get? b=some { o with slots:=sl }) (free:∀b o,b ∉ ch->s.heap.get? b=some o->H b=none->H' b=none)
  (there:∀b o,b ∉ ch->s.heap.get? b=some o->∃o',h'.get? b=some o')
  (EH:∀b xs,H b=some (.tup xs)->H' b=some (.tup xs)) (Ex:∀b o u,H b=some (.DT o u)->H' b=some (.DT o u)) (EI:∀b ps,H b=some (.Jg ps)->∃more,H' b=some (.Jg (ps ++ more)))
  (ns:∀m,s.heap.Ns X.env.locals m->h'.Ns X.env.locals m) (Ci:D4 X.prog X.w H' h') (hg:AllBare g') :
  Inv X pins σ H' { s with heap:=h',gens:=g',drawn:=d',toks:=t' }:=by
 have Yc:∀b o,X.s₀.heap.get? b=some o->b ≠ X.env.locals:=λb o e=>ne_of_lt (lt_of_lt_of_le (lt_size e) I.ok.above)
 have QE:∀b o,X.s₀.heap.get? b=some o->b ∉ X.ex->b ∉ ch:=λb o e hx hb=>by
  rcases (GN b hb).1 with z | z
  ·exact hx z
  ·exact absurd (lt_of_lt_of_le (lt_size e) z) (lt_irrefl _)
 have cellK:∀x c,X.env.cells.lookup x=some c->∀v,s.heap.IsCell c v->h'.IsCell c v:=λx c e v ⟨o,ho,hd⟩=>by
  have M5:c ∉ ch:=λz=>(GN c z).2.2.1 x c e rfl
  by_cases hc:c ∈ X.fs
  ·obtain⟨sl,q⟩:=slot c o (I.Kc x c e) hc M5 ho (I.CU x c e)
   exact⟨_,q,hd⟩
  ·exact⟨o,keep c o (I.Kc x c e) hc M5 ho (I.CU x c e),hd⟩
 refine⟨I.ok,I.os,hg,⟨λb o e n hb hx=>?_,λb o e n hb hx=>?_,λb o e n hx=>?_,λb o e hx=>?_,λb xs e=>EH b xs (I.base.EH b xs e),λb o xs e=>Ex b o xs (I.base.Ex b o xs e),λb ps e=>?_⟩,?_,λx c e=>?_,?_,λx c e=>?_,λp hp=>?_,Ci,I.len⟩
 ·exact keep b o (Yc b o e) hb (QE b o e hx) (I.base.keep b o e n hb hx) (I.base.free b o e n hx)
 ·obtain⟨sl,e1⟩:=I.base.slot b o e n hb hx
  obtain⟨sl',e2⟩:=slot b _ (Yc b o e) hb (QE b o e hx) e1 (I.base.free b o e n hx)
  exact⟨sl',e2⟩
 ·obtain⟨o',e1⟩:=I.base.there b o e hx
  exact free b o' (QE b o e hx) e1 (I.base.free b o e n hx)
 ·obtain⟨o',e1⟩:=I.base.there b o e hx
  exact there b o' (QE b o e hx) e1
 ·obtain⟨m1,e1⟩:=I.base.EI b ps e
  obtain⟨m2,e2⟩:=EI b _ e1
  exact⟨m1 ++ m2,by rw[e2,Array.append_assoc]⟩
 ·obtain⟨m,hn,hl⟩:=I.loc
  refine⟨m,ns m hn,λi x v e1 e2 e3=>?_⟩
  obtain⟨u,r,l⟩:=hl i x v e1 e2 e3
  refine⟨u,r,?_⟩
  rcases l with l | ⟨k,c,e,z⟩
  ·exact .inl l
  ·exact .inr ⟨k,c,e,cellK x c e _ z⟩
 ·obtain⟨v,z⟩:=I.cell x c e
  exact⟨v,cellK x c e v z⟩
 ·obtain⟨m,⟨o,_,_,ho,_⟩,_⟩:=I.loc
  exact free _ o (λz=>(GN _ z).2.1 rfl) ho I.free
 ·obtain⟨v,o,ho,hd⟩:=I.cell x c e
  exact free c o (λz=>(GN c z).2.2.1 x c e rfl) ho (I.CU x c e)
 ·obtain⟨e,n,ne,nf,d⟩:=I.pin p hp
  have M5:p.1 ∉ ch:=λz=>(GN p.1 z).2.2.2 p hp rfl
  exact⟨keep p.1 p.2 ne nf M5 e n,free p.1 p.2 M5 e n,ne,nf,d⟩
theorem Inv.un(I:Inv X pins σ H s)(u:Un X.fs [] H H' s.heap h')(Ci:D4 X.prog X.w H' h'):Inv X pins σ H' { s with heap:=h',toks:=t' }:=by
 obtain⟨m,⟨o,es,ep,ho,r⟩,_⟩:=id I.loc
 obtain⟨sl,hL⟩:=u.any ho I.free (by simp)
 exact I.step (g':=s.gens) (d':=s.drawn) (ch:=[]) (λ_ z=>nomatch z) (λb o _ hb _ e n=>u.keep b o e n hb (by simp)) (λb o _ hb _ e n=>u.slot b o e n hb (by simp)) (λb o _ e n=>u.free b o e n (by simp)) (λb o _ e=>u.there b o e (by simp)) u.EH u.Ex u.EI (λm' hm=>by
  obtain⟨o',S3,S4,Hl,r'⟩:=hm
  rw[ho]at Hl;cases Hl
  exact⟨_,S3,S4,hL,r'⟩) Ci I.bare
theorem Inv.call(I:Inv X pins σ H s)(u:Un (sr X.stack) ch H H' s.heap h')(Ci:D4 X.prog X.w H' h')(hg:AllBare g')
  (GN:∀b ∈ ch,(b ∈ X.ex∨X.s₀.heap.objs.size <= b)/\b ≠ X.env.locals/\(∀x c,X.env.cells.lookup x=some c->c ≠ b)/\∀p ∈ X.pn ++ pins,p.1 ≠ b) :
  Inv X pins σ H' { s with heap:=h',gens:=g',drawn:=d',toks:=t' }:=by
 obtain⟨m,⟨o,es,ep,ho,r⟩,_⟩:=id I.loc
 obtain⟨sl,hL⟩:=u.any ho I.free λz=>(GN _ z).2.1 rfl
 exact I.step (ch:=ch) GN (λb o hL hb hc e n=>u.keep b o e n (λz=>(mem_cons.mp (I.EJ b z)).elim hL hb) hc) (λb o _ _ hc e n=>u.any e n hc) (λb o hc e n=>u.free b o e n hc) (λb o hc e=>u.there b o e hc) u.EH u.Ex u.EI (λm' hm=>by
  obtain⟨o',S3,S4,Hl,r'⟩:=hm
  rw[ho]at Hl;cases Hl
  exact⟨_,S3,S4,hL,r'⟩) Ci hg
theorem Inv.turned(I:Inv X pins σ H s)(k:∀b o,b ≠ it->s.heap.get? b=some o->h'.get? b=some o)(hn:H it=none)(hL:it ≠ X.env.locals)
  (h1:it ∈ X.ex∨X.s₀.heap.objs.size <= it) (h2:∀x c,X.env.cells.lookup x=some c->c ≠ it) (h3:∀p ∈ X.pn ++ pins,p.1 ≠ it):Inv X pins σ H { s with heap:=h',toks:=t' }:=by
 have Ye:∀b u,H b=some u->b ≠ it:=λb u e z=>by rw[z,hn]at e;cases e
 refine I.step (g':=s.gens) (d':=s.drawn) (ch:=[it]) (λb hb=>?_) (λb o _ _ hc e _=>k b o (λz=>hc (by simp[z])) e) (λb o _ _ hc e _=>⟨o.slots,k b o (λz=>hc (by simp[z])) e⟩) (λ_ _ _ _ n=>n)
  (λb o hc e=>⟨o,k b o (λz=>hc (by simp[z])) e⟩) (λ_ _ e=>e) (λ_ _ _ e=>e) (λb ps e=>⟨#[],by rw[e];simp⟩) (λm hm=>?_) (λb u e=>?_) I.bare
 ·have e:b=it:=by simpa using hb
  subst e
  exact⟨h1,hL,h2,h3⟩
 ·obtain⟨o,es,ep,ho,r⟩:=hm
  exact⟨o,es,ep,k _ o (Ne.symm hL) ho,r⟩
 ·refine(I.Ci b u e).Ef (λc v hc q=>k c v ?_ q) (λ_ q=>q) λ_ _ q=>q
  rcases hc with z | z
  ·rw[z];exact Ye b u e
  ·exact Ye c _ z
theorem Inv.tok(I:Inv X pins σ H s)(t:Nat):Inv X pins σ H { s with toks:=t }:=I.un (h':=s.heap) (t':=t) Un.refl I.Ci
theorem Inv.kept(I:Inv X pins σ H s)(k:∀b u,s.heap.get? b=some u->h'.get? b=some u):Inv X pins σ H { s with heap:=h',toks:=t' }:=I.un (Un.kept k) (I.Ci.kept k)
theorem Inv.laid{a:Addr}(I:Inv X pins σ H s)(k:∀b u,s.heap.get? b=some u->h'.get? b=some u)(hp:s.heap.objs.size <= a)(new:C1 X.prog X.w (upd H a o) h' a o) :
  Inv X pins σ (upd H a o) { s with heap:=h',toks:=t' }:=I.un (Un.laid k hp (I.Ci.fresh hp)) (I.Ci.laid k hp new)
theorem Inv.write(I:Inv X pins σ H s)(mu:M0 (H x))(he:e=x∨H e=some (.own x))(k:∀b u,b ≠ e->s.heap.get? b=some u->h'.get? b=some u)(Lw:∃u,h'.get? e=some u)
  (new:C1 X.prog X.w (upd H x o) h' x o):Inv X pins σ (upd H x o) { s with heap:=h',toks:=t' }:=I.un (Un.write mu he k Lw) (I.Ci.write mu he k Lw new)
theorem Inv.Dv(I:Inv X pins σ H s)(h:∀p ∈ Fb,s.heap.get? p.1=some p.2/\H p.1=none/\p.1 ≠ X.env.locals/\p.1 ∉ X.fs/\∀v,p.2.data ≠ .cell v):Inv X Fb σ H s :=
 ⟨I.ok,I.os,I.bare,I.base,I.loc,I.cell,I.free,I.CU,λp hp=>(mem_append.mp hp).elim (λz=>I.pin p (mem_append_left _ z)) (h p),I.Ci,I.len⟩
theorem oI{N:List Str}(hN:N.Nodup){i j:Nat}(a:N[i]? = some x)(b:N[j]? = some x):i=j:=by
 obtain⟨h1,e1⟩:=List.getElem?_eq_some_iff.mp a
 obtain⟨h2,e2⟩:=List.getElem?_eq_some_iff.mp b
 exact(List.getElem_inj hN).mp (e1.trans e2.symm)
theorem lu(I:Inv X pins σ H s)(hN:X.N.Nodup)(hi:X.N[i]? = some x)(hx:Loc X.env.scope x)(r:RelV v u)
  (h:∀s',Inv X pins (σ.set i (some v)) H s'->(∃a,Heap.SameBut a s.heap s'.heap/\(a=X.env.locals∨X.env.cells.lookup x=some a))->Q () s') (hf:autoParam (X.fn x=true∨X.env.scope.names.lookup x=some .local) ζ):wpAny M A (storeName X.env x u) Q E s:=by
 obtain⟨m,hn,hl⟩:=id I.loc
 have S5:(X.env.scope.kind == .class || (X.env.scope.kind == .module && X.env.locals != X.env.globals))=false:=by rw[I.ok.kind];rfl
 have M6:i < σ.length:=by rw[I.len];exact(gQ0 hi)
 have Kc:=I.Kc
 have tracked:∀{a:Addr}{h':Heap},(∃o,s.heap.get? a=some o/\H a=none)->Heap.SameBut a s.heap h'->D4 X.prog X.w H h':=λ{a h'} ha hs b ob e=>by
  obtain⟨_,_,Jh⟩:=ha
  refine(I.Ci b ob e).Ef (λc w' hc q=>(hs.2 c ?_).trans q) (λ_ q=>q) λ_ _ q=>q
  rintro rfl
  rcases hc with rfl | hc
  ·rw[Jh]at e;cases e
  ·rw[Jh]at hc;cases hc
 rcases hx with hk | hk
 ·refine wpAny_storeName_local hk hn (λh' S6 hs=>?_) S5
  obtain⟨oL,_,_,hoL,_⟩:=id hn
  refine h _ ⟨I.ok,I.os,I.bare,⟨λb o e n hb hx=>?_,λb o e n hb hx=>?_,I.base.free,λb o e hx=>?_,I.base.EH,I.base.Ex,I.base.EI⟩,⟨_,S6,λj y v' e1 e2 e3=>?_⟩,λy c e=>?_,I.free,I.CU,λp hp=>?_,tracked ⟨oL,hoL,I.free⟩ hs,by simpa using I.len⟩ ⟨_,hs, .inl rfl⟩
  ·exact(hs.2 b (ne_of_lt (lt_of_lt_of_le (lt_size e) I.ok.above))).trans (I.base.keep b o e n hb hx)
  ·obtain⟨sl,e1⟩:=I.base.slot b o e n hb hx
   exact⟨sl,(hs.2 b (ne_of_lt (lt_of_lt_of_le (lt_size e) I.ok.above))).trans e1⟩
  ·obtain⟨o',e1⟩:=I.base.there b o e hx
   exact⟨o',(hs.2 b (ne_of_lt (lt_of_lt_of_le (lt_size e) I.ok.above))).trans e1⟩
  ·by_cases hj:j=i
   ·subst hj
    rw[hi]at e1;cases e1
    rw[List.getElem?_set_self M6]at e2
    cases e2
    exact⟨u,r, .inl ⟨hk,by simp⟩⟩
   ·rw[getElem?_set_ne (Ne.symm hj)]at e2
    obtain⟨u',r',q⟩:=hl j y v' e1 e2 e3
    refine⟨u',r',?_⟩
    rcases q with ⟨k,e⟩ | ⟨k,c,e,z⟩
    ·refine .inl ⟨k,?_⟩
     have:y ≠ x:=λe=>hj (oI hN e1 (e ▸ hi))
     simp[this,e]
    ·exact .inr ⟨k,c,e,z.sameBut hs (Kc y c e)⟩
  ·obtain⟨w',z⟩:=I.cell y c e
   exact⟨w',z.sameBut hs (Kc y c e)⟩
  ·obtain⟨e,n,ne,nf,d⟩:=I.pin p hp
   exact⟨(hs.2 p.1 ne).trans e,n,ne,nf,d⟩
 ·have S7:X.fn x=true:=by
   rcases hf with z | z
   ·exact z
   ·rw[z]at hk;cases hk
  obtain⟨c,hc⟩:=I.ok.has x (.inl hk)
  obtain⟨w',z⟩:=I.cell x c hc
  refine wpAny_storeName_cell I.ok.kind hk hc z (λh' Ly hs=>?_)
  obtain⟨oc,Yf,S8⟩:=id z
  refine h { s with heap:=h' } ⟨I.ok,I.os,I.bare,⟨λb o e n hb hx=>?_,λb o e n hb hx=>?_,I.base.free,λb o e hx=>?_,I.base.EH,I.base.Ex,I.base.EI⟩,⟨m,hn.sameBut hs (Ne.symm (Kc x c hc)),λj y v' e1 e2 e3=>?_⟩,λy c' e=>?_,I.free,I.CU,λp hp=>?_,tracked ⟨oc,Yf,I.CU x c hc⟩ hs,by simpa using I.len⟩ ⟨c,hs, .inr hc⟩
  ·exact(hs.2 b (ne_of_lt (lt_of_lt_of_le (lt_size e) (I.ok.M4 x c S7 hc)))).trans (I.base.keep b o e n hb hx)
  ·obtain⟨sl,e1⟩:=I.base.slot b o e n hb hx
   exact⟨sl,(hs.2 b (ne_of_lt (lt_of_lt_of_le (lt_size e) (I.ok.M4 x c S7 hc)))).trans e1⟩
  ·obtain⟨o',e1⟩:=I.base.there b o e hx
   exact⟨o',(hs.2 b (ne_of_lt (lt_of_lt_of_le (lt_size e) (I.ok.M4 x c S7 hc)))).trans e1⟩
  ·by_cases hj:j=i
   ·subst hj
    rw[hi]at e1;cases e1
    rw[List.getElem?_set_self M6]at e2
    cases e2
    exact⟨u,r, .inr ⟨.inl hk,c,hc,Ly⟩⟩
   ·rw[getElem?_set_ne (Ne.symm hj)]at e2
    obtain⟨u',r',q⟩:=hl j y v' e1 e2 e3
    refine⟨u',r',?_⟩
    rcases q with q | ⟨k,c',e,z'⟩
    ·exact .inl q
    ·refine .inr ⟨k,c',e,z'.sameBut hs ?_⟩
     rintro rfl
     exact hj (oI hN e1 (I.ok.inj _ _ _ e hc ▸ hi))
  ·by_cases Ji:c' = c
   ·subst Ji;exact⟨_,Ly⟩
   ·obtain⟨w2,z2⟩:=I.cell y c' e
    exact⟨w2,z2.sameBut hs Ji⟩
  ·obtain⟨e,n,ne,nf,d⟩:=I.pin p hp
   refine⟨(hs.2 p.1 ?_).trans e,n,ne,nf,d⟩
   intro q
   rw[q,Yf]at e
   have q':oc=p.2:=Option.some.inj e
   exact d w' (by rw[←q'];exact S8)
theorem jK(I:Inv X pins σ H s)(hN:X.N.Nodup)(hi:X.N[i]? = some x)(hx:Loc X.env.scope x)(r:RelV v u)
  (h:∀s',Inv X pins (σ.set i (some v)) H s'->Q () s') (hf:autoParam (X.fn x=true∨X.env.scope.names.lookup x=some .local) ζ):wpAny M A (storeName X.env x u) Q E s :=
 lu I hN hi hx r (λs' I' _=>h s' I') hf
theorem Inv.M7(I:Inv X pins σ H s)(ho:s'.os=s.os)(u:Un (sr X.stack) ch H H' s.heap s'.heap)(Ci:D4 X.prog X.w H' s'.heap)(hg:AllBare s'.gens)
  (GN:∀b ∈ ch,(b ∈ X.ex∨X.s₀.heap.objs.size <= b)/\b ≠ X.env.locals/\(∀x c,X.env.cells.lookup x=some c->c ≠ b)/\∀p ∈ X.pn ++ pins,p.1 ≠ b):Inv X pins σ H' s':=by
 obtain⟨h',g',d',t',o'⟩:=s'
 have e:o' = s.os:=ho
 subst e
 exact I.call (g':=g') (t':=t') (d':=d') u Ci hg GN
end
abbrev XK:=Value->Option Addr->Hp->Prop
abbrev St:=List (Option V)
abbrev VK:=V->Hp->Prop
abbrev TE:=St->Hp->VK->Prop
abbrev TT:=St->Hp->(Bool->Hp->Prop)->Prop
abbrev TA:=St->Hp->(List V->Hp->Prop)->Prop
structure nG where
 nx:St->Hp->Prop
 rt:VK
 bk:St->Hp->Prop:=λ_ _=>False
 ct:St->Hp->Prop:=λ_ _=>False
abbrev TS:=nG->St->Hp->Prop
def EP(X:Cx)(pins:List (Addr × Obj))(σ:St)(Q:VK)(u:Value)(s':Shared):Prop:=∃v H',Inv X pins σ H' s'/\RelV v u/\Q v H'
def TP(X:Cx)(pins:List (Addr × Obj))(σ:St)(Q:Bool->Hp->Prop)(b:Bool)(s':Shared):Prop:=∃H',Inv X pins σ H' s'/\Q b H'
def AP(X:Cx)(pins:List (Addr × Obj))(σ:St)(Q:List V->Hp->Prop)(us:List Value)(s':Shared):Prop:=∃vs H',Inv X pins σ H' s'/\Vals vs us/\Q vs H'
def SP(X:Cx)(pins:List (Addr × Obj))(D:nG)(f:Flow)(s':Shared):Prop :=
 match f with
 | .next=>∃σ' H',Inv X pins σ' H' s'/\D.nx σ' H'
 | .brk=>∃σ' H',Inv X pins σ' H' s'/\D.bk σ' H'
 | .cont=>∃σ' H',Inv X pins σ' H' s'/\D.ct σ' H'
 | .ret u=>∃v σ' H',Inv X pins σ' H' s'/\RelV v u/\D.rt v H'
def PE(X:Cx)(e:Expr)(t:TE):Prop :=
 ∀(pins:List (Addr × Obj))(s:Shared)(σ:St)(H:Hp)(Q:VK),Inv X pins σ H s->t σ H Q->wpAny (model X.prog X.w) X.A (eval e X.env) (EP X pins σ Q) X.xe s
def PT(X:Cx)(e:Expr)(t:TT):Prop :=
 ∀(pins:List (Addr × Obj))(s:Shared)(σ:St)(H:Hp)(Q:Bool->Hp->Prop),Inv X pins σ H s->t σ H Q->wpAny (model X.prog X.w) X.A (isTrue e X.env (eval e X.env)) (TP X pins σ Q) X.xe s
def PW(X:Cx)(e:Expr)(t:TT):Prop :=
 ∀(whole:Sem Value)(pins:List (Addr × Obj))(s:Shared)(σ:St)(H:Hp)(Q:Bool->Hp->Prop),Inv X pins σ H s->t σ H Q->wpAny (model X.prog X.w) X.A (isTrue e X.env whole) (TP X pins σ Q) X.xe s
theorem PW.pt(h:PW X e t):PT X e t:=h _
def PA(X:Cx)(es:List Expr)(t:TA):Prop :=
 ∀(pos:Pos)(pins:List (Addr × Obj))(s:Shared)(σ:St)(H:Hp)(Q:List V->Hp->Prop),Inv X pins σ H s->t σ H Q->wpAny (model X.prog X.w) X.A (spliced (backTo pos (starEach es X.env))) (AP X pins σ Q) X.xe s
def PS(X:Cx)(st:Stmt)(t:TS):Prop :=
 ∀(pins:List (Addr × Obj))(s:Shared)(σ:St)(H:Hp)(D:nG),Inv X pins σ H s->t D σ H->wpAny (model X.prog X.w) X.A (exec st X.env) (SP X pins D) X.xe s
def Ey(X:Cx)(st:List Stmt)(t:TS):Prop :=
 ∀(pins:List (Addr × Obj))(s:Shared)(σ:St)(H:Hp)(D:nG),Inv X pins σ H s->t D σ H->wpAny (model X.prog X.w) X.A (execs st X.env) (SP X pins D) X.xe s
theorem bj{M:Model}{A:Around}{E:Value->Shared->Prop}{s:Shared}(h:wpAny M A t Q E s)(hQ:∀a s,Q a s->Q' a s):wpAny M A t Q' E s:=wpAny_mono h hQ λ_ _ x=>x
section
def sP(i:Nat):TE:=λσ H Q=>∃v,σ[i]? = some (some v)/\Q v H
def tC(v:V):TE:=λ_ H Q=>Q v H
theorem AO(hN:X.N[i]? = some x)(hv:QC X.env.scope x)(hd:autoParam ((x == ("__debug__":Str))=false) θ)(Fx:autoParam ((x == ("__classdict__":Str))=false) θ):PE X (.Name x pos) (sP i):=by
 intro pins s σ H Q I h
 obtain⟨v,e,h⟩:=h
 obtain⟨m,hn,hl⟩:=I.loc
 obtain⟨u,r,l⟩:=hl i x v hN e hv
 have fin:EP X pins σ Q u s:=⟨v,H,I,r,h⟩
 rcases l with ⟨hk,hm⟩ | ⟨hk,c,hc,FK⟩
 ·exact wpAny_Name (wpAny_loadName_local I.ok.kind hk hn hm fin) hd
 ·rcases hk with hk | hk
  ·exact wpAny_Name (wpAny_loadName_cell I.ok.kind hk hc FK fin) hd
  ·exact wpAny_Name (wpAny_loadName_free I.ok.kind hk hc FK fin Fx) hd
theorem ak :PE X (.Constant (.int i) j pos) (tC (.int i)):=λ_ _ _ H _ I h=>wpAny_Constant_int ⟨.int i,H,I.tok _,⟨_,rfl⟩,h⟩
theorem jj :PE X (.Constant (.bool b) j pos) (tC (.bl b)):=λ_ _ _ H _ I h=>Constant_bool ⟨.bl b,H,I,rfl,h⟩
theorem bP :PE X (.Constant .none j pos) (tC .Cp):=λ_ _ _ H _ I h=>Constant_none ⟨.Cp,H,I,rfl,h⟩
theorem b8 :PE X (.Constant (.str x) j pos) (tC (.str x)):=λ_ _ _ H _ I h=>Calls.Constant_str ⟨.str x,H,I.tok _,⟨_,rfl⟩,h⟩
def Gl(X:Cx)(x:Str):Prop:=X.env.kindOf x=some .globalImplicit
theorem nh{σ:St}(I:Inv X pins σ H s)(hg:Gl X x)(hm:X.mg x=some u)(h:Q u s)
  (hd:autoParam ((x == ("__debug__":Str))=false) θ):wpAny (model X.prog X.w) X.A (eval (.Name x pos) X.env) Q E s :=
 Calls.Name_function_global I.ok.kind hg (Calls.loadGlobal_global (by rw[I.ok.glob];exact I.mod.glob.keeps I.bk) hm h) hd
theorem gZ{σ:St}(I:Inv X pins σ H s)(hg:Gl X x)(hm:X.mg x=none)(hv:bootBuiltins x=some u)(h:Q u s)
  (hn:autoParam (x ≠ "__name__") θ) (hd:autoParam ((x == ("__debug__":Str))=false) θ):wpAny (model X.prog X.w) X.A (eval (.Name x pos) X.env) Q E s:=by
 obtain⟨mb,h1,h2⟩:=I.mod.blt
 exact Calls.Name_function_global I.ok.kind hg (Calls.loadGlobal_builtin (by rw[I.ok.glob];exact I.mod.glob.keeps I.bk) hm (by rw[I.ok.blt];exact h1.keeps I.bk) ((h2 x hn).trans hv) h) hd
theorem dH(hg:Gl X x)(hm:X.mg x=some u)(r:RelV v u)(hd:autoParam ((x == ("__debug__":Str))=false) θ):PE X (.Name x pos) (tC v) :=
 λ_ _ _ H _ I h=>nh I hg hm ⟨v,H,I,r,h⟩ hd
theorem fu(hg:Gl X x)(hm:X.mg x=none)(hv:bootBuiltins x=some u)(r:RelV v u)(hn:autoParam (x ≠ "__name__") θ)(hd:autoParam ((x == ("__debug__":Str))=false) θ):PE X (.Name x pos) (tC v) :=
 λ_ _ _ H _ I h=>gZ I hg hm hv ⟨v,H,I,r,h⟩ hn hd
def PC(X:Cx)(op:CmpOp)(a b:Expr)(t:TE):Prop :=
 ∀(pins:List (Addr × Obj))(s:Shared)(σ:St)(H:Hp)(Q:VK),Inv X pins σ H s->t σ H Q ->
  wpAny (model X.prog X.w) X.A (eval a X.env) (λv s₁=>wpAny (model X.prog X.w) X.A (eval b X.env) (λu s₂=>wpAny (model X.prog X.w) X.A (compareOp op v u) (EP X pins σ Q) X.xe s₂) X.xe s₁) X.xe s
def tB(t:TE):TT:=λσ H Q=>t σ H λx H1=>∃c,x = .bl c/\Q c H1
theorem vC(h:PC X op a b t)(h1:behindInMarks op b=false:=by first | exact M8 _ (by decide) (by decide) | rfl):PT X (.Compare a [op] [b] pos) (tB t):=by
 intro pins s σ H Q I hw
 refine wpAny_isTrue_Compare1 (bj (h pins s σ H _ I hw) λv s1 h1=>bj h1 λu s2 h2=>bj h2 λc s3 Cc=>?_) h1
 obtain⟨x,H1,I1,r1,q1⟩:=Cc
 obtain⟨d,rfl,q⟩:=q1
 cases r1
 exact wpAny_truthy_bool ⟨H1,I1,q⟩
theorem bJ(h:PE X e t)(he:autoParam (∀whole,isTrue e X.env whole=(do let v ← whole;standAt e.pos;holding [v] (truthy v))) ψ):PT X e (tB t):=by
 intro pins s σ H Q I hw
 refine isTrue_plain (bj (h pins s σ H _ I hw) λv s1 Cc=>?_) (he _)
 obtain⟨x,H1,I1,r1,q1⟩:=Cc
 obtain⟨d,rfl,q⟩:=q1
 cases r1
 exact wpAny_truthy_bool ⟨H1,I1,q⟩
def S9(t u:TT):TT:=λσ H Q=>t σ H λc H1=>if c=true then u σ H1 Q else Q false H1
def tOr(t u:TT):TT:=λσ H Q=>t σ H λc H1=>if c=true then Q true H1 else u σ H1 Q
def SA(t:TT):TT:=λσ H Q=>t σ H λc H1=>Q (!c) H1
theorem gn(ha:PT X a tA):PW X (.BoolOp .And [a] pos) tA:=by
 intro wh pins s σ H Q I h
 refine isTrue_and (bj (ha pins s σ H Q I h) λc s1 e=>?_)
 cases c with
 | true=>exact isTrue_and_nil e
 | false=>exact e
theorem dP(ha:PT X a tA):PW X (.BoolOp .Or [a] pos) tA:=by
 intro wh pins s σ H Q I h
 refine isTrue_or (bj (ha pins s σ H Q I h) λc s1 e=>?_)
 cases c with
 | false=>exact isTrue_or_nil e
 | true=>exact e
theorem iQ(ha:PT X a tA)(hb:PW X (.BoolOp .And (b :: rest) pos) QF):PW X (.BoolOp .And (a :: b :: rest) pos) (S9 tA QF):=by
 intro wh pins s σ H Q I h
 refine isTrue_and (bj (ha pins s σ H _ I h) λc s1 Cc=>?_)
 obtain⟨H1,I1,q1⟩:=Cc
 cases c with
 | true=>exact hb wh pins s1 σ H1 Q I1 q1
 | false=>exact⟨H1,I1,q1⟩
theorem fE(ha:PT X a tA)(hb:PW X (.BoolOp .Or (b :: rest) pos) QF):PW X (.BoolOp .Or (a :: b :: rest) pos) (tOr tA QF):=by
 intro wh pins s σ H Q I h
 refine isTrue_or (bj (ha pins s σ H _ I h) λc s1 Cc=>?_)
 obtain⟨H1,I1,q1⟩:=Cc
 cases c with
 | true=>exact⟨H1,I1,q1⟩
 | false=>exact hb wh pins s1 σ H1 Q I1 q1
theorem bO(ha:PT X a tA):PT X (.UnaryOp .Not a pos) (SA tA):=by
 intro pins s σ H Q I h
 exact isTrue_not (ha pins s σ H (λc H1=>Q (!c) H1) I h)
def M9(ta tb:TE):TE:=λσ H Q=>ta σ H λx H1=>∃c,x = .bl c/\if c=true then tb σ H1 Q else Q (.bl false) H1
def SD(ta tb:TE):TE:=λσ H Q=>ta σ H λx H1=>∃c,x = .bl c/\if c=true then Q (.bl true) H1 else tb σ H1 Q
def MA(ta:TE):TE:=λσ H Q=>ta σ H λx H1=>∃c,x = .bl c/\Q (.bl (!c)) H1
theorem dQ(h:PE X a t):PE X (.BoolOp op [a] pos) t:=λpins s σ H Q I hw=>BoolOp_one (h pins s σ H Q I hw)
theorem dR(ha:PE X a ta)(hb:PE X (.BoolOp .And (b :: rest) pos) tb):PE X (.BoolOp .And (a :: b :: rest) pos) (M9 ta tb):=by
 intro pins s σ H Q I h
 refine BoolOp_and (bj (ha pins s σ H _ I h) λv s1 Cc=>?_)
 obtain⟨x,H1,I1,r1,q1⟩:=Cc
 obtain⟨c,rfl,q1⟩:=q1
 cases r1
 refine wpAny_truthy_bool ?_
 cases c with
 | true=>exact hb pins s1 σ H1 Q I1 q1
 | false=>exact⟨.bl false,H1,I1,rfl,q1⟩
theorem MB(ha:PE X a ta)(hb:PE X (.BoolOp .Or (b :: rest) pos) tb):PE X (.BoolOp .Or (a :: b :: rest) pos) (SD ta tb):=by
 intro pins s σ H Q I h
 refine BoolOp_or (bj (ha pins s σ H _ I h) λv s1 Cc=>?_)
 obtain⟨x,H1,I1,r1,q1⟩:=Cc
 obtain⟨c,rfl,q1⟩:=q1
 cases r1
 refine wpAny_truthy_bool ?_
 cases c with
 | false=>exact hb pins s1 σ H1 Q I1 q1
 | true=>exact⟨.bl true,H1,I1,rfl,q1⟩
theorem vH(ha:PE X a ta):PE X (.UnaryOp .Not a pos) (MA ta):=by
 intro pins s σ H Q I h
 refine UnaryOp_ (bj (ha pins s σ H _ I h) λv s1 Cc=>?_)
 obtain⟨x,H1,I1,r1,q1⟩:=Cc
 obtain⟨c,rfl,q1⟩:=q1
 cases r1
 exact not_of (wpAny_truthy_bool ⟨.bl (!c),H1,I1,rfl,q1⟩)
def tIf(t:TT)(ta tb:TE):TE:=λσ H Q=>t σ H λc H1=>if c=true then ta σ H1 Q else tb σ H1 Q
theorem ce(hc:PT X c tA)(ha:PE X a ta)(hb:PE X b tb):PE X (.IfExp c a b pos) (tIf tA ta tb):=by
 intro pins s σ H Q I h
 refine wpAny_IfExp (bj (hc pins s σ H _ I h) λd s1 Cc=>?_)
 obtain⟨H1,I1,q1⟩:=Cc
 cases d with
 | true=>exact ha pins s1 σ H1 Q I1 q1
 | false=>exact hb pins s1 σ H1 Q I1 q1
end
def Cb(K:Frag)(H:Hp)(a:Addr)(xs:List V):Prop :=
 Rd H a (.lst xs) ∨
  ∃(o:Obj)(Cd:Array Value)(n:Nat),K.lookup a=some o/\o.cls = .type "list"/\o.dict=none/\o.data = .seq Cd n/\Cd.size <= sizeLine/\Vals xs Cd.toList
def Ck(K:Frag)(H:Hp)(a:Addr)(xs:List V):Prop :=
 Rd H a (.tup xs) ∨
  ∃(o:Obj)(Cd:Array Value)(n:Nat),K.lookup a=some o/\o.cls = .type "tuple"/\o.data = .seq Cd n/\Cd.size <= sizeLine/\Vals xs Cd.toList
noncomputable def SE:Value->Option V
 | .none=>some .Cp
 | .bool b=>some (.bl b)
 | .int i _=>some (.int i)
 | .str x _=>some (.str x)
 | .bytes b _=>some (.FH b)
 | .float b _=>some (.JZ b)
 | .ref a=>some (.ref a)
 | .type n=>some (.ty n)
 | _=>none
theorem RelV.abs(r:RelV x u):SE u=some x:=by
 cases x with
 | Cp=>cases r;rfl
 | bl _=>cases r;rfl
 | int _=>obtain⟨t,rfl⟩:=r;rfl
 | str _=>obtain⟨t,rfl⟩:=r;rfl
 | FH _=>obtain⟨t,rfl⟩:=r;rfl
 | JZ _=>obtain⟨t,rfl⟩:=r;rfl
 | ref _=>cases r;rfl
 | ty _=>cases r;rfl
theorem RelV.inj(r:RelV x u)(q:RelV y u):x=y:=Option.some.inj (r.abs.symm.trans q.abs)
theorem Vals.inj:∀{xs ys:List V}{us:List Value},Vals xs us->Vals ys us->xs=ys
 | _,_,_, .nil, .nil=>rfl
 | _,_,_, .cons r t, .cons r' t'=>by rw[r.inj r',Vals.inj t t']
section
variable {X:Cx}{pins:List (Addr × Obj)}{σ:St}{H:Hp}{s:Shared}{a:Addr}{xs ys:List V}
theorem Cb.of{K:Frag}(h:H a=some (.lst xs)):Cb K H a xs := .inl (.inl h)
theorem Ck.of{K:Frag}(h:H a=some (.tup xs)):Ck K H a xs := .inl (.inl h)
theorem Inv.list(I:Inv X pins σ H s)(h:Cb X.K H a xs):∃Cd:List Value,Vals xs Cd/\PlainL s.heap a Cd.toArray/\xs.length <= sizeLine:=by
 rcases h with h | ⟨o,Cd,n,hk,hc,hd,hs,hz,r⟩
 ·obtain⟨z,Cd,n,r,e⟩:=h.ok I.Ci
  exact⟨Cd,r,⟨_,n,e,rfl,rfl,rfl⟩,z⟩
 ·refine⟨Cd.toList,r,⟨o,n,I.DJ a o hk,hc,hd,by simpa using hs⟩,?_⟩
  have e:=r.length
  simp only[Array.length_toList]at e
  omega
theorem Inv.tuple(I:Inv X pins σ H s)(h:Ck X.K H a xs):∃Cd:List Value,Vals xs Cd/\IsTup s.heap a Cd.toArray/\xs.length <= sizeLine:=by
 rcases h with h | ⟨o,Cd,n,hk,hc,hs,hz,r⟩
 ·obtain⟨z,Cd,r,p⟩:=h.ok I.Ci
  exact⟨Cd,r,p.isTup,z⟩
 ·refine⟨Cd.toList,r,⟨o,I.DJ a o hk,hc,n,by simpa using hs⟩,?_⟩
  have e:=r.length
  simp only[Array.length_toList]at e
  omega
theorem Inv.Fc(I:Inv X pins σ H s)(h:Cb X.K H a xs)(h':Cb X.K H a ys):xs=ys:=by
 obtain⟨Cd,r,⟨o,n,e,_,_,d⟩,_⟩:=I.list h
 obtain⟨its',r',⟨o',n',e',_,_,d'⟩,_⟩:=I.list h'
 rw[e]at e';cases e'
 rw[d]at d'
 injection d' with d1 _
 have:Cd=its':=by simpa using congrArg Array.toList d1
 subst this
 exact r.inj r'
theorem Inv.EB(I:Inv X pins σ H s)(h:Ck X.K H a xs)(h':Ck X.K H a ys):xs=ys:=by
 obtain⟨Cd,r,⟨o,e,_,n,d⟩,_⟩:=I.tuple h
 obtain⟨its',r',⟨o',e',_,n',d'⟩,_⟩:=I.tuple h'
 rw[e]at e';cases e'
 rw[d]at d'
 injection d' with d1 _
 have:Cd=its':=by simpa using congrArg Array.toList d1
 subst this
 exact r.inj r'
end
abbrev Cx.Ez(X:Cx)(E:Value->Shared->Prop):Cx:={ X with xe:=E }
abbrev Cx.Lz(X:Cx):Cx:=X.Ez λ_ _=>False
theorem Cx.Ok.Ez{X:Cx}(ok:X.Ok)(E:Value->Shared->Prop):(X.Ez E).Ok :=
 ⟨ok.mod,ok.kind,ok.glob,ok.blt,ok.above,ok.inj,ok.has,ok.M4,ok.hd,ok.frames,ok.QD,ok.Yb,ok.bs,ok.Ij,ok.Hk,ok.Ik,ok.DU,ok.Kb⟩
theorem Cx.Ok.Dn{X:Cx}(ok:(X.Ez E).Ok):X.Ok :=
 ⟨ok.mod,ok.kind,ok.glob,ok.blt,ok.above,ok.inj,ok.has,ok.M4,ok.hd,ok.frames,ok.QD,ok.Yb,ok.bs,ok.Ij,ok.Hk,ok.Ik,ok.DU,ok.Kb⟩
section
variable {X:Cx}{pins:List (Addr × Obj)}{σ:St}{H:Hp}{s:Shared}{E:Value->Shared->Prop}
theorem Inv.Ez(I:Inv X pins σ H s)(E:Value->Shared->Prop):Inv (X.Ez E) pins σ H s:=⟨I.ok.Ez E,I.os,I.bare,I.base,I.loc,I.cell,I.free,I.CU,I.pin,I.Ci,I.len⟩
theorem Inv.Dn(I:Inv (X.Ez E) pins σ H s):Inv X pins σ H s:=⟨I.ok.Dn,I.os,I.bare,I.base,I.loc,I.cell,I.free,I.CU,I.pin,I.Ci,I.len⟩
theorem SP.Dn(h:SP (X.Ez E) pins D f s'):SP X pins D f s':=by
 cases f with
 | next=>obtain⟨σ',H',I,q⟩:=h;exact⟨σ',H',I.Dn,q⟩
 | brk=>obtain⟨σ',H',I,q⟩:=h;exact⟨σ',H',I.Dn,q⟩
 | cont=>obtain⟨σ',H',I,q⟩:=h;exact⟨σ',H',I.Dn,q⟩
 | ret u=>obtain⟨v,σ',H',I,r,q⟩:=h;exact⟨v,σ',H',I.Dn,r,q⟩
theorem Ey.Lz{st:List Stmt}(h:Ey X.Lz st t):Ey X st t:=λpins s σ H D I hw =>
 wpAny_mono (h pins s σ H D (I.Ez _) hw) (λ_ _ q=>q.Dn) λ_ _ z=>False.elim z
end
section
variable {X:Cx}{st:Stmt}{rest:List Stmt}{t u:TS}{e:Expr}{te:TE}{pos:Pos}
def MC:TS:=λD σ H=>D.nx σ H
def xH(t u:TS):TS:=λD σ H=>t { D with nx:=u D } σ H
theorem aF:Ey X [] MC:=λ_ _ σ H _ I h=>wpAny_execs_nil ⟨σ,H,I,h⟩
theorem ae(h1:PS X st t)(h2:Ey X rest u):Ey X (st :: rest) (xH t u):=by
 intro pins s σ H D I h
 refine wpAny_execs_cons (bj (h1 pins s σ H { D with nx:=u D } I h) λf s1 q=>?_)
 cases f with
 | next =>
  obtain⟨σ',H',I',q⟩:=q
  exact h2 pins s1 σ' H' D I' q
 | ret v=>exact q
 | brk=>exact q
 | cont=>exact q
theorem af(h1:PS X st t):Ey X [st] t:=by
 intro pins s σ H D I h
 refine wpAny_execs_cons (bj (h1 pins s σ H D I h) λf s1 q=>?_)
 cases f with
 | next=>exact wpAny_execs_nil q
 | ret v=>exact q
 | brk=>exact q
 | cont=>exact q
theorem Inv.quiet{σ:St}(I:Inv X pins σ H s):interactive X.env=false:=by simp[interactive,I.ok.kind]
def MD(te:TE):TS:=λD σ H=>te σ H λ_ H1=>D.nx σ H1
theorem aP(he:PE X e te)(hs:autoParam (swapsWith e none pos.line X.env=pure false) η):PS X (.Expr e pos) (MD te):=by
 intro pins s σ H D I h
 exact wpAny_Expr_any (bj (he pins s σ H _ I h) λv s1 Cc=>by obtain⟨x,H1,I1,r1,q1⟩:=Cc;exact⟨σ,H1,I1,q1⟩) I.quiet hs
def SF(te:TE):TS:=λD σ H=>te σ H D.rt
theorem av(he:PE X e te):PS X (.Return (some e) pos) (SF te):=by
 intro pins s σ H D I h
 exact wpAny_Return_some (bj (he pins s σ H _ I h) λv s1 Cc=>by obtain⟨x,H1,I1,r1,q1⟩:=Cc;exact⟨x,σ,H1,I1,r1,q1⟩)
def SG(c:TT)(t u:TS):TS:=λD σ H=>c σ H λb H1=>if b=true then t D σ H1 else u D σ H1
theorem aR(hc:PT X c tc)(ha:Ey X a t)(hb:Ey X b u):PS X (.If c a b pos) (SG tc t u):=by
 intro pins s σ H D I h
 refine wpAny_If (bj (hc pins s σ H _ I h) λd s1 Cc=>?_)
 obtain⟨H1,I1,q1⟩:=Cc
 cases d with
 | true=>exact ha pins s1 σ H1 D I1 q1
 | false=>exact hb pins s1 σ H1 D I1 q1
def Ae:TS:=λ_ _ _=>False
theorem bA:PS X st Ae:=λ_ _ _ _ _ _ h=>h.elim
end
abbrev TG:=V->St->Hp->(St->Hp->Prop)->Prop
abbrev BR:=List V->St->Hp->(St->Hp->Prop)->Prop
def PG(X:Cx)(target:Expr)(t:TG):Prop :=
 ∀(pins:List (Addr × Obj))(s:Shared)(σ:St)(H:Hp)(v:V)(u:Value)(Q:St->Hp->Prop),Inv X pins σ H s->RelV v u->t v σ H Q ->
  wpAny (model X.prog X.w) X.A (assign target X.env u) (λ_ s'=>∃σ' H',Inv X pins σ' H' s'/\Q σ' H') X.xe s
def QG(X:Cx)(ts:List Expr)(t:BR):Prop :=
 ∀(pins:List (Addr × Obj))(s:Shared)(σ:St)(H:Hp)(vs:List V)(us:List Value)(Q:St->Hp->Prop),Inv X pins σ H s->Vals vs us->t vs σ H Q ->
  wpAny (model X.prog X.w) X.A (assignInOrder ((assignEach ts X.env).map (·.2)) us) (λ_ s'=>∃σ' H',Inv X pins σ' H' s'/\Q σ' H') X.xe s
abbrev BQ:=V->V->V->Hp->(Hp->Prop)->Prop
def MF(X:Cx)(t:BQ):Prop :=
 ∀(pins:List (Addr × Obj))(s:Shared)(σ:St)(H:Hp)(o i v:V)(ov iv u:Value)(Q:Hp->Prop),Inv X pins σ H s->RelV o ov->RelV i iv->RelV v u->t o i v H Q ->
  wpAny (model X.prog X.w) X.A (setItem ov iv u) (λ_ s'=>∃H',Inv X pins σ H' s'/\Q H') X.xe s
abbrev QH:=V->V->Hp->VK->Prop
def Yg(X:Cx)(op:Operator)(t:QH):Prop :=
 ∀(pins:List (Addr × Obj))(s:Shared)(σ:St)(H:Hp)(x y:V)(v u:Value)(Q:VK),Inv X pins σ H s->RelV x v->RelV y u->t x y H Q ->
  wpAny (model X.prog X.w) X.A (inplaceOp op v u) (EP X pins σ Q) X.xe s
section
def dF(i:Nat):TG:=λv σ H Q=>Q (σ.set i (some v)) H
theorem aw(hN:X.N.Nodup)(hi:X.N[i]? = some x)(hx:Loc X.env.scope x)(hf:autoParam (X.fn x=true∨X.env.scope.names.lookup x=some .local) ζ):PG X (.Name x pos) (dF i):=by
 intro pins s σ H v u Q I r h
 exact wpAny_assign_Name (jK I hN hi hx r (λs' I'=>⟨_,H,I',h⟩) hf)
noncomputable def SH:BR:=λvs σ H Q=>vs=[]/\Q σ H
noncomputable def MG(t:TG)(u:BR):BR:=λvs σ H Q=>∃v r,vs=v :: r/\t v σ H λσ' H'=>u r σ' H' Q
theorem gq:QG X [] SH:=by
 intro pins s σ H vs us Q I r h
 obtain⟨e,h⟩:=h
 subst e
 cases r
 exact assignInOrder_nil ⟨σ,H,I,h⟩
theorem bV(h1:PG X e t)(h2:QG X es u)
  (hs:autoParam ((assignEach (e :: es) X.env).map (·.2)=assign e X.env :: (assignEach es X.env).map (·.2)) η):QG X (e :: es) (MG t u):=by
 intro pins s σ H vs us Q I r h
 obtain⟨v,vr,e1,h⟩:=h
 subst e1
 cases r with
 | cons r rr =>
  rw[hs]
  refine assignInOrder_cons (bj (h1 pins s σ H _ _ _ I r h) λ_ s1 Cc=>?_)
  obtain⟨σ1,H1,I1,q1⟩:=Cc
  exact h2 pins s1 σ1 H1 _ _ Q I1 rr q1
def BB(K:Frag)(n:Nat)(t:BR):TG:=λv σ H Q=>∃a xs,v = .ref a/\Ck K H a xs/\xs.length=n/\t xs σ H Q
theorem iS(hc:X.calm=true)(h:QG X es t)
  (hn:autoParam ((assignEach es X.env).length=n) η) (GR:autoParam ((assignEach es X.env).findIdx? (·.1)=none) η):PG X (.Tuple es k pos) (BB X.K n t):=by
 intro pins s σ H v u Q I r hw
 obtain⟨a,xs,e1,hq,hl,hw⟩:=hw
 subst e1
 cases r
 obtain⟨Cd,rv,ht,hz⟩:=I.tuple hq
 refine assign_Tuple_tuple (I.ok.hd hc) ht (by simp[hn,←hl,rv.length]) GR λh' hx=>?_
 have I1:Inv X pins σ H { s with heap:=h' }:=I.kept (t':=s.toks) λb o e=>hx b o (ne_of_lt (lt_size e)) e
 exact h pins _ σ H xs _ Q I1 (by simpa using rv) hw
def SI(to ti:TE)(t:BQ):TG:=λv σ H Q=>to σ H λo H1=>ti σ H1 λi H2=>t o i v H2 λH3=>Q σ H3
theorem qt(ho:PE X o to)(hi:PE X i ti)(hs:MF X t)
  (ha:∀v,assign (.Subscript o i pos) X.env v=(do
   let ov ← holding [v] (eval o X.env)
   let iv ← holding [v,ov] (eval i X.env)
   standAt pos
   holding [v,ov,iv] (setItem ov iv v)
   release [v,ov,iv] []):=by intro _;rfl):PG X (.Subscript o i pos) (SI to ti t):=by
 intro pins s σ H v u Q I r h
 rw[ha]
 refine wpAny_bind (wpAny_holding (bj (ho pins s σ H _ I h) λov s1 Cc=>?_))
 obtain⟨x,H1,I1,r1,q1⟩:=Cc
 refine wpAny_bind (wpAny_holding (bj (hi pins s1 σ H1 _ I1 q1) λiv s2 Cc=>?_))
 obtain⟨y,H2,I2,r2,q2⟩:=Cc
 refine wpAny_bind (wpAny_standAt (wpAny_bind (wpAny_holding (bj (hs pins s2 σ H2 x y v ov iv u _ I2 r1 r2 r q2) λ_ s3 Cc=>?_))))
 obtain⟨H3,I3,q3⟩:=Cc
 exact wpAny_release ⟨σ,H3,I3,q3⟩
def Aj(te:TE)(g:TG):TS:=λD σ H=>te σ H λx H1=>g x σ H1 D.nx
theorem mQ(he:PE X e te)(hg:PG X tg g)(hs:autoParam (swapsWithSole [tg] e pos.line X.env=pure false) η)(hw:autoParam (swappedStores [tg] e X.env=pure none) η)
  (h1:autoParam ((assignEach [tg] X.env).map (·.2)=[assign tg X.env]) η):PS X (.Assign [tg] e pos) (Aj te g):=by
 intro pins s σ H D I h
 refine wpAny_Assign_stores (bj (he pins s σ H _ I h) λv s1 Cc=>?_) hs hw
 obtain⟨x,H1,I1,r1,q1⟩:=Cc
 rw[h1]
 exact bj (hg pins s1 σ H1 x v _ I1 r1 q1) λ_ s2 q=>q
theorem aD(hN:X.N.Nodup)(hi:X.N[i]? = some x)(hx:Loc X.env.scope x)(he:PE X e te)(hs:autoParam (swapsWith e (some (.Name x pos')) pos.line X.env=pure false) η)(hf:autoParam (X.fn x=true∨X.env.scope.names.lookup x=some .local) ζ) :
  PS X (.Assign [.Name x pos'] e pos) (Aj te (dF i)):=by
 intro pins s σ H D I h
 refine wpAny_Assign_Name (bj (he pins s σ H _ I h) λv s1 Cc=>?_) hs
 obtain⟨y,H1,I1,r1,q1⟩:=Cc
 exact jK I1 hN hi hx r1 (λs2 I2=>⟨_,H1,I2,q1⟩) hf
def SJ(i:Nat)(te:TE)(ti:QH):TS:=λD σ H=>∃x,σ[i]? = some (some x)/\te σ H λy H1=>ti x y H1 λz H2=>D.nx (σ.set i (some z)) H2
theorem AL(hN:X.N.Nodup)(hi:X.N[i]? = some x)(hx:Loc X.env.scope x)(he:PE X e te)(ho:Yg X op ti)(hf:autoParam (X.fn x=true∨X.env.scope.names.lookup x=some .local) ζ) :
  PS X (.AugAssign (.Name x pos') op e pos) (SJ i te ti):=by
 intro pins s σ H D I h
 obtain⟨v,e1,h⟩:=h
 obtain⟨m,hn,hl⟩:=I.loc
 have vis:QC X.env.scope x:=by rcases hx with k | k;exact .inl k;exact .inr (.inl k)
 obtain⟨u,r,l⟩:=hl i x v hi e1 vis
 refine wpAny_AugAssign_Name ?_
 have go:wpAny (model X.prog X.w) X.A (eval e X.env) (λw s₂=>wpAny (model X.prog X.w) X.A (inplaceOp op u w) (λr s₃=>wpAny (model X.prog X.w) X.A (storeName X.env x r) (λ_=>SP X pins D .next) X.xe s₃) X.xe s₂) X.xe s:=by
  refine bj (he pins s σ H _ I h) λw s1 Cc=>?_
  obtain⟨y,H1,I1,r1,q1⟩:=Cc
  refine bj (ho pins s1 σ H1 v y u w _ I1 r r1 q1) λz s2 Cc=>?_
  obtain⟨zv,H2,I2,r2,q2⟩:=Cc
  exact jK I2 hN hi hx r2 (λs3 I3=>⟨_,H2,I3,q2⟩) hf
 rcases l with ⟨hk,hm⟩ | ⟨hk,c,hc,FK⟩
 ·exact wpAny_loadName_local I.ok.kind hk hn hm go
 ·rcases hk with hk | hk
  ·exact wpAny_loadName_cell I.ok.kind hk hc FK go
  ·rcases hx with k | k
   ·have:X.env.scope.names.lookup x=some .free:=hk
    rw[k]at this;cases this
   ·have:X.env.scope.names.lookup x=some .free:=hk
    rw[k]at this;cases this
noncomputable def ipI(f:Int->Int->Int):QH:=λx y H Q=>∃i j,x = .int i/\y = .int j/\Q (.int (f i j)) H
theorem B6:Yg X .Add (ipI λi j=>i + j):=by
 intro pins s σ H x y v u Q I r1 r2 h
 obtain⟨i,j,e1,e2,q⟩:=h
 subst e1;subst e2
 obtain⟨t,rfl⟩:=r1
 obtain⟨t',rfl⟩:=r2
 exact iadd_int ⟨.int _,H,I.tok _,⟨_,rfl⟩,q⟩
end
section
def Aa(c:TT)(tb:TS):TS:=λD σ H=>∃W:Nat->St->Hp->Prop,(∃m,W m σ H)/\∀m σ H,W m σ H ->
 c σ H λb H1=>if b=true then ∃N:St->Hp->Prop,(∀σ' H',N σ' H'->∃m',m' < m/\W m' σ' H')/\tb { D with nx:=N,ct:=N,bk:=D.nx } σ H1 else D.nx σ H1
theorem vE(hp:PassesOwn (model X.prog X.w) X.A X.env X.xe)(hc:PT X c tc)(hb:Ey X body tb):PS X (.While c body [] pos) (Aa tc tb):=by
 intro pins s σ H D I h
 obtain⟨W,⟨m0,w0⟩,turn⟩:=h
 refine wpAny_While (codeAny_whileLoop (λn s'=>∃σ' H',Inv X pins σ' H' s'/\W n σ' H') ?_ m0 ⟨σ,H,I,w0⟩)
 rintro n s1 ⟨σ1,H1,I1,w1⟩
 refine wpAny_passesOwn hp (bj (hc pins s1 σ1 H1 _ I1 (turn n σ1 H1 w1)) λb s2 Cc=>?_)
 obtain⟨H2,I2,q2⟩:=Cc
 cases b with
 | true =>
  obtain⟨N,hN,q2⟩:=q2
  rw[if_pos rfl]
  refine wpAny_passesOwn hp (bj (hb pins s2 σ1 H2 _ I2 q2) λf s3 q3=>?_)
  cases f with
  | next =>
   obtain⟨σ3,H3,I3,n3⟩:=q3
   obtain⟨m',hm,w3⟩:=hN σ3 H3 n3
   exact⟨m',hm,σ3,H3,I3,w3⟩
  | cont =>
   obtain⟨σ3,H3,I3,n3⟩:=q3
   obtain⟨m',hm,w3⟩:=hN σ3 H3 n3
   exact⟨m',hm,σ3,H3,I3,w3⟩
  | brk=>exact q3
  | ret v=>exact q3
 | false =>
  rw[if_neg Bool.false_ne_true]
  exact wpAny_execs_nil ⟨σ1,H2,I2,q2⟩
end
structure It where
 go:Nat->Hp->Prop
 Hm:Nat->Hp->V->Hp->Prop
 stop:Nat->Hp->Prop
def gF(X:Cx)(pins:List (Addr × Obj))(H:Hp)(b:Addr):Prop :=
 H b=none/\b ≠ X.env.locals/\b ∉ X.fs/\(b ∈ X.ex∨X.s₀.heap.objs.size <= b)/\(∀x c,X.env.cells.lookup x=some c->c ≠ b)/\∀p ∈ X.pn ++ pins,p.1 ≠ b
theorem Inv.F2{σ:St}{b:Addr}(I:Inv X pins σ H s)(hb:s.heap.objs.size <= b)(hn:H' b=none):gF X pins H' b:=by
 refine⟨hn,ne_of_gt (lt_of_lt_of_le I.lt hb),I.S1 hb, .inr (le_trans I.sz hb),λx c e z=>?_,λp hp z=>?_⟩
 ·obtain⟨v,q⟩:=I.cell x c e
  exact absurd (lt_of_lt_of_le q.lt (by rw[z];exact hb)) (lt_irrefl _)
 ·exact absurd (lt_of_lt_of_le (lt_size (I.pin p hp).1) (by rw[z];exact hb)) (lt_irrefl _)
structure nD(P:Program)(w:World)(K:Frag)(tg:Expr)(J:It)(fp:List Addr)(it:Addr)(tn:Nat->Heap->Prop):Prop where
 mem:it ∈ fp
 obj:∀i h,tn i h->∀b ∈ fp,∃o,h.get? b=some o/\∀v,o.data ≠ .cell v
 keep:∀i h h',tn i h->(∀b ∈ fp,∀o,h.get? b=some o->h'.get? b=some o)->tn i h'
 item:∀(X:Cx),X.prog=P->X.w=w->X.K=K->X.calm=true->∀(i:Nat)(pins:List (Addr × Obj))(s:Shared)(σ:St)(H:Hp)(E:Value->Shared->Prop),Inv X pins σ H s->(∀b ∈ fp,gF X pins H b)->tn i s.heap->J.go i H ->
  wpAny (model P w) X.A (pyNext (.ref it)) (λr s1=>∃u,r=some u /\
   wpAny (model P w) X.A (letOwnedTupleGo tg (.ref it) u) (λ_ s2=>∃x H',Inv X pins σ H' s2/\RelV x u/\J.Hm i H x H'/\tn (i + 1) s2.heap/\∀b ∈ fp,H' b=none) E s1) E s
 done:∀(X:Cx),X.prog=P->X.w=w->X.K=K->X.calm=true->∀(i:Nat)(pins:List (Addr × Obj))(s:Shared)(σ:St)(H:Hp)(E:Value->Shared->Prop),Inv X pins σ H s->(∀b ∈ fp,gF X pins H b)->tn i s.heap->J.stop i H ->
  wpAny (model P w) X.A (pyNext (.ref it)) (λr s1=>r=none/\Inv X pins σ H s1) E s
 self:∀(A:Around)(i:Nat)(s:Shared)(Q:Value->Shared->Prop)(E:Value->Shared->Prop),tn i s.heap->Q (.ref it) s->wpAny (model P w) A (pyIter (.ref it)) Q E s
abbrev TI:=St->Hp->(It->Hp->Prop)->Prop
def Yh(X:Cx)(pins:List (Addr × Obj))(σ:St)(tg:Expr)(R:It->Hp->Prop)(QI:Value)(s2:Shared):Prop :=
 ∃(it:Addr)(fp:List Addr)(tn:Nat->Heap->Prop)(J:It)(H':Hp),QI = .ref it/\Inv X pins σ H' s2/\nD X.prog X.w X.K tg J fp it tn/\tn 0 s2.heap/\(∀b ∈ fp,gF X pins H' b)/\R J H'
def PI(X:Cx)(tg iter:Expr)(wi:TI):Prop :=
 ∀(pins:List (Addr × Obj))(s:Shared)(σ:St)(H:Hp)(R:It->Hp->Prop),Inv X pins σ H s->wi σ H R ->
  wpAny (model X.prog X.w) X.A (eval iter X.env) (λv s1=>wpAny (model X.prog X.w) X.A (pyIter v) (Yh X pins σ tg R) X.xe s1) X.xe s
theorem oX(ho:s.heap.get? it=some o)(hc:o.cls = .type n)(hd:o.data = .fields vs)
  (hn:["enumerate", "zip", "dict_itemiterator", "dict_reverseitemiterator", "odict_iterator", "itertools.zip_longest", "itertools.pairwise"].contains n=false) (hQ:Q () s):wpAny M A (letOwnedTupleGo tg (.ref it) u) Q E s:=by
 unfold letOwnedTupleGo
 cases tg<;>first
  | exact wpAny_pure hQ
  | (cases u<;>first
    | exact wpAny_pure hQ
    | (refine wpAny_bind (wpAny_load ho ?_)
       rw[hc,hd]
       show wpAny M A (if (["enumerate", "zip", "dict_itemiterator", "dict_reverseitemiterator", "odict_iterator", "itertools.zip_longest", "itertools.pairwise"].contains n && vs[0]? == some (rawInt _))=true then _ else _) Q E s
       rw[if_neg (by intro h;rw[hn,Bool.false_and]at h;cases h)]
       exact wpAny_pure hQ))
noncomputable def xz(K:Frag)(a:Addr):It :=
 ⟨λi H=>∃xs x,Cb K H a xs/\xs[i]? = some x,λi H x H'=>H' = H/\∀xs,Cb K H a xs->xs[i]? = some x,λi H=>∃xs,Cb K H a xs/\xs.length <= i⟩
noncomputable def QJ(K:Frag)(a:Addr):It :=
 ⟨λi H=>∃xs x,Ck K H a xs/\xs[i]? = some x,λi H x H'=>H' = H/\∀xs,Ck K H a xs->xs[i]? = some x,λi H=>∃xs,Ck K H a xs/\xs.length <= i⟩
noncomputable def uu(lo:Int)(n:Nat):It:=⟨λi _=>i < n,λi H x H'=>H' = H/\x = .int (lo + i),λi _=>n <= i⟩
theorem sM{K:Frag}(a it:Addr):nD P w K tg (xz K a) [it] it (λi h=>h.IsListIter it a i) where
 mem:=by simp
 obj:=λi h st b hb=>by
  have e:b=it:=by simpa using hb
  subst e
  obtain⟨o,e,c,d⟩:=st
  exact⟨o,e,λv z=>by rw[d]at z;cases z⟩
 keep:=λi h h' st k=>st.at λo e=>k it (by simp) o e
 item:=by
  intro X hP hw hK hc i pins s σ H E I hf st hg
  subst hP hw hK
  obtain⟨xs,x,hq,hx⟩:=hg
  obtain⟨Cd,rv,p,hz⟩:=I.list hq
  obtain⟨u,hu,ru⟩:=rv.get hx
  obtain⟨f0,f1,f2,f3,f4,f5⟩:=hf it (by simp)
  refine wpAny_pyNext_list_item st p.isList (x:=u) (by simpa using hu) λh' Eg sb=>?_
  have I1:Inv X pins σ H { s with heap:=h' }:=I.turned (t':=s.toks) (λb o hb e=>(sb.2 b hb).trans e) f0 f1 f3 f4 f5
  obtain⟨o,e,c,d⟩:=id Eg
  exact⟨u,rfl,oX (s:={ s with heap:=h' }) e c d (by decide) ⟨x,H,I1,ru,⟨rfl,λys hy=>by rw[I.Fc hy hq];exact hx⟩,Eg,λb hb=>(hf b hb).1⟩⟩
 done:=by
  intro X hP hw hK hc i pins s σ H E I hf st hg
  subst hP hw hK
  obtain⟨xs,hq,hx⟩:=hg
  obtain⟨Cd,rv,p,hz⟩:=I.list hq
  obtain⟨f0,f1,f2,f3,f4,f5⟩:=hf it (by simp)
  have hl:=rv.length
  exact wpAny_pyNext_list_end (I.ok.hd hc) st p.isList (by simp;omega) λh' eb=>⟨rfl,I.turned (t':=s.toks) (λb o hb e=>eb b o hb e) f0 f1 f3 f4 f5⟩
 self:=λ_ _ _ _ _ st h=>wpAny_pyIter_listiter st h
theorem pJ{K:Frag}(a it:Addr):nD P w K tg (QJ K a) [it] it (λi h=>h.IsTupleIter it a i) where
 mem:=by simp
 obj:=λi h st b hb=>by
  have e:b=it:=by simpa using hb
  subst e
  obtain⟨o,e,c,d⟩:=st
  exact⟨o,e,λv z=>by rw[d]at z;cases z⟩
 keep:=λi h h' st k=>st.at λo e=>k it (by simp) o e
 item:=by
  intro X hP hw hK hc i pins s σ H E I hf st hg
  subst hP hw hK
  obtain⟨xs,x,hq,hx⟩:=hg
  obtain⟨Cd,rv,p,hz⟩:=I.tuple hq
  obtain⟨u,hu,ru⟩:=rv.get hx
  obtain⟨f0,f1,f2,f3,f4,f5⟩:=hf it (by simp)
  refine wpAny_pyNext_tuple_item st (show s.heap.IsTuple a Cd.toArray from p) (x:=u) (by simpa using hu) λh' Eg sb=>?_
  have I1:Inv X pins σ H { s with heap:=h' }:=I.turned (t':=s.toks) (λb o hb e=>(sb.2 b hb).trans e) f0 f1 f3 f4 f5
  obtain⟨o,e,c,d⟩:=id Eg
  exact⟨u,rfl,oX (s:={ s with heap:=h' }) e c d (by decide) ⟨x,H,I1,ru,⟨rfl,λys hy=>by rw[I.EB hy hq];exact hx⟩,Eg,λb hb=>(hf b hb).1⟩⟩
 done:=by
  intro X hP hw hK hc i pins s σ H E I hf st hg
  subst hP hw hK
  obtain⟨xs,hq,hx⟩:=hg
  obtain⟨Cd,rv,p,hz⟩:=I.tuple hq
  obtain⟨f0,f1,f2,f3,f4,f5⟩:=hf it (by simp)
  have hl:=rv.length
  exact wpAny_pyNext_tuple_end (I.ok.hd hc) st (show s.heap.IsTuple a Cd.toArray from p) (by simp;omega) λh' eb=>⟨rfl,I.turned (t':=s.toks) (λb o hb e=>eb b o hb e) f0 f1 f3 f4 f5⟩
 self:=λ_ _ _ _ _ st h=>wpAny_pyIter_tupleiter st h
theorem pK{K:Frag}(it:Addr)(lo:Int)(n:Nat):nD P w K tg (uu lo n) [it] it (λi h=>IsRangeIter h it (lo + (i:Nat) * 1) ((n:Int) - (i:Nat)) 1) where
 mem:=by simp
 obj:=λi h st b hb=>by
  have e:b=it:=by simpa using hb
  subst e
  exact⟨_,st,λv z=>by
   have z':Data.fields _=Data.cell v:=z
   cases z'⟩
 keep:=λi h h' st k=>k it (by simp) _ st
 item:=by
  intro X hP hw hK hc i pins s σ H E I hf st hg
  subst hP hw hK
  obtain⟨f0,f1,f2,f3,f4,f5⟩:=hf it (by simp)
  have W:=Walks.range (prog:=X.prog) (w:=X.w) (I.ok.hd hc) it lo 1 n
  refine W.item i s _ _ hg st λv h' tk hv Eg kk=>?_
  obtain⟨t,rfl⟩:=hv
  have I1:Inv X pins σ H { s with heap:=h',toks:=tk }:=I.turned (λb o hb e=>kk b o (by simpa using hb) e) f0 f1 f3 f4 f5
  refine⟨_,rfl,oX (s:={ s with heap:=h',toks:=tk }) (n := "range_iterator") Eg rfl rfl (by decide) ⟨.int (lo + i),H,I1,⟨t,?_⟩,⟨rfl,rfl⟩,Eg,λb hb=>(hf b hb).1⟩⟩
  rw[Int.mul_one]
 done:=by
  intro X hP hw hK hc i pins s σ H E I hf st hg
  subst hP hw hK
  obtain⟨f0,f1,f2,f3,f4,f5⟩:=hf it (by simp)
  exact wpAny_pyNext_range_end (I.ok.hd hc) st (by have:n <= i:=hg;omega) λh' eb=>⟨rfl,I.turned (t':=s.toks) (λb o hb e=>eb b o hb e) f0 f1 f3 f4 f5⟩
 self:=λ_ _ _ _ _ st h=>wpAny_pyIter_rangeiter st h
section
def MH(K:Frag)(tl:TE):TI:=λσ H R=>tl σ H λx H1=>∃a,x = .ref a/\(∃xs,Cb K H1 a xs)/\R (xz K a) H1
def SK(K:Frag)(tl:TE):TI:=λσ H R=>tl σ H λx H1=>∃a,x = .ref a/\(∃xs,Ck K H1 a xs)/\R (QJ K a) H1
theorem aW(hl:PE X l tl):PI X tg l (MH X.K tl):=by
 intro pins s σ H R I h
 refine bj (hl pins s σ H _ I h) λv s1 Cc=>?_
 obtain⟨x,H1,I1,r1,q1⟩:=Cc
 obtain⟨a,e,⟨xs,hq⟩,q⟩:=q1
 subst e
 cases r1
 obtain⟨Cd,rv,p,hz⟩:=I1.list hq
 refine wpAny_pyIter_list p.isList ?_
 refine⟨s1.heap.objs.size,[s1.heap.objs.size],_,_,H1,rfl,I1.kept (t':=s1.toks) λb o e=>Heap.get?_push_of_some _ e,sM a _,⟨_,Heap.get?_push_size _ rfl,rfl,rfl⟩,λb hb=>?_,q⟩
 have e:b=s1.heap.objs.size:=by simpa using hb
 subst e
 exact I1.F2 (le_refl _) (I1.Ci.fresh (le_refl _))
theorem iR(hl:PE X l tl):PI X tg l (SK X.K tl):=by
 intro pins s σ H R I h
 refine bj (hl pins s σ H _ I h) λv s1 Cc=>?_
 obtain⟨x,H1,I1,r1,q1⟩:=Cc
 obtain⟨a,e,⟨xs,hq⟩,q⟩:=q1
 subst e
 cases r1
 obtain⟨Cd,rv,p,hz⟩:=I1.tuple hq
 refine wpAny_pyIter_tuple (show s1.heap.IsTuple a Cd.toArray from p) ?_
 refine⟨s1.heap.objs.size,[s1.heap.objs.size],_,_,H1,rfl,I1.kept (t':=s1.toks) λb o e=>Heap.get?_push_of_some _ e,pJ a _,⟨_,Heap.get?_push_size _ rfl,rfl,rfl⟩,λb hb=>?_,q⟩
 have e:b=s1.heap.objs.size:=by simpa using hb
 subst e
 exact I1.F2 (le_refl _) (I1.Ci.fresh (le_refl _))
theorem ou{σ:St}{lo hi:Int}(I:Inv X pins σ H s)(h1:-(2 ^ 62) <= lo)(h2:lo < 2 ^ 62)(h3:-(2 ^ 62) <= hi)(h4:hi < 2 ^ 62)
  (q:R (uu lo (hi - lo).toNat) H):wpAny (model X.prog X.w) X.A (pyIter (.ref s.heap.objs.size)) (Yh X pins σ tg R) E { s with heap:=s.heap.push { cls := .type "range",data := .fields #[.int lo t, .int hi u, .int 1 v] },toks:=tk }:=by
 refine wpAny_pyIter_range (IsRange.new ..) (small_one h1 h2 h3 h4) ?_
 have I1:Inv X pins σ H { s with heap:=s.heap.push { cls := .type "range",data := .fields #[.int lo t, .int hi u, .int 1 v] },toks:=tk }:=I.kept λb o e=>Heap.get?_push_of_some _ e
 refine⟨(s.heap.push { cls := .type "range",data := .fields #[.int lo t, .int hi u, .int 1 v] }).objs.size,[(s.heap.push { cls := .type "range",data := .fields #[.int lo t, .int hi u, .int 1 v] }).objs.size],_,_,H,rfl,
  I1.kept (t':=tk) λb o e=>Heap.get?_push_of_some _ e,pK _ lo (hi - lo).toNat,?_,λb hb=>?_,q⟩
 ·have e1:lo + ((0:Nat):Int) * 1=lo:=by simp
  have e2:(((hi - lo).toNat:Nat):Int) - ((0:Nat):Int)=Builtin.Range.rangeSize lo hi 1:=by rw[rangeSize_one];split<;>omega
  show IsRangeIter _ _ (lo + ((0:Nat):Int) * 1) ((((hi - lo).toNat:Nat):Int) - ((0:Nat):Int)) 1
  rw[e1,e2]
  exact Heap.get?_push_size _ rfl
 ·have e:b=(s.heap.push { cls := .type "range",data := .fields #[.int lo t, .int hi u, .int 1 v] }).objs.size:=by simpa using hb
  subst e
  exact I1.F2 (le_refl _) (I1.Ci.fresh (le_refl _))
def MI(ta:TA):TI:=λσ H R=>ta σ H λvs H1=>∃j:Int,vs=[.int j]/\-(2 ^ 62) <= j/\j < 2 ^ 62/\R (uu 0 j.toNat) H1
def MJ(ta:TA):TI:=λσ H R=>ta σ H λvs H1=>∃i j:Int,vs=[.int i, .int j]/\(-(2 ^ 62) <= i/\i < 2 ^ 62/\-(2 ^ 62) <= j/\j < 2 ^ 62)/\R (uu i (j - i).toNat) H1
theorem aO(hg:Gl X "range")(hm:X.mg "range" = none)(ha:PA X [a] ta)(hs:autoParam (starEach [a] X.env=[(false,eval a X.env)]) η):PI X tg (.Call (.Name "range" p) [a] [] pos) (MI ta):=by
 intro pins s σ H R I h
 refine Call_ (gZ I hg hm boot_range (PyProof.Rows.callWith_type1 (bj (ha pos pins s σ H _ I h) λus s1 Cc=>?_) hs rfl))
 obtain⟨vs,H1,I1,r1,q1⟩:=Cc
 obtain⟨j,e,q1,q2,q⟩:=q1
 subst e
 cases r1 with
 | cons r rr =>
  cases rr
  obtain⟨t,rfl⟩:=r
  exact call_range_1 (ou I1 (by omega) (by omega) q1 q2 (by simpa using q))
theorem sZ(hg:Gl X "range")(hm:X.mg "range" = none)(ha:PA X [a,b] ta)(hs:autoParam (starEach [a,b] X.env=[(false,eval a X.env),(false,eval b X.env)]) η)(F3:autoParam (starEach [b] X.env=[(false,eval b X.env)]) η) :
  PI X tg (.Call (.Name "range" p) [a,b] [] pos) (MJ ta):=by
 intro pins s σ H R I h
 refine Call_ (gZ I hg hm boot_range (PyProof.Rows.callWith_type1 (bj (ha pos pins s σ H _ I h) λus s1 Cc=>?_) (by rw[hs,F3]) (by rw[F3];rfl)))
 obtain⟨vs,H1,I1,r1,q1⟩:=Cc
 obtain⟨i,j,e,⟨q1,q2,q3,q4⟩,q⟩:=q1
 subst e
 cases r1 with
 | cons r rr =>
  cases rr with
  | cons r' rr =>
   cases rr
   obtain⟨t,rfl⟩:=r
   obtain⟨t',rfl⟩:=r'
   exact call_range_2 (ou I1 q1 q2 q3 q4 q)
def SN(wi:TI)(g:TG)(tb:TS):TS:=λD σ H=>wi σ H λJ H1=>∃W:Nat->Nat->St->Hp->Prop,(∃m,W 0 m σ H1)/\∀i m σ H,W i m σ H ->
 (J.stop i H/\D.nx σ H)∨(J.go i H/\∃N:St->Hp->Prop,(∀σ' H',N σ' H'->∃m',m' < m/\W (i + 1) m' σ' H')/\∀x H',J.Hm i H x H'->g x σ H' λσ2 H2=>tb { D with nx:=N,ct:=N,bk:=D.nx } σ2 H2)
noncomputable def fj(fp:List Addr)(h:Heap):List (Addr × Obj):=fp.filterMap λb=>(h.get? b).map λo=>(b,o)
theorem fA(hb:b ∈ fp)(e:h.get? b=some o):(b,o) ∈ fj fp h:=List.mem_filterMap.mpr ⟨b,hb,by rw[e];rfl⟩
theorem lB(hp:p ∈ fj fp h):p.1 ∈ fp/\h.get? p.1=some p.2:=by
 obtain⟨b,hb,e⟩:=List.mem_filterMap.mp hp
 cases q:h.get? b with
 | none=>rw[q]at e;cases e
 | some o =>
  rw[q]at e
  have e':(b,o)=p:=Option.some.inj e
  subst e'
  exact⟨hb,q⟩
theorem Inv.pinned{σ:St}(I:Inv X pins σ H s)(hf:∀b ∈ fp,gF X pins H b)(ho:∀b ∈ fp,∃o,s.heap.get? b=some o/\∀v,o.data ≠ .cell v):Inv X (pins ++ fj fp s.heap) σ H s :=
 I.Dv λp hp=>(mem_append.mp hp).elim (λz=>I.pin p (mem_append_right _ z)) λz=>by
  obtain⟨hb,e⟩:=lB z
  obtain⟨f0,f1,f2,_⟩:=hf p.1 hb
  obtain⟨o,e',d⟩:=ho p.1 hb
  rw[e]at e';cases e'
  exact⟨e,f0,f1,f2,d⟩
theorem Inv.DC{σ:St}(I:Inv X (pins ++ pl) σ H s):Inv X pins σ H s:=I.Dv λp hp=>I.pin p (mem_append_right _ (mem_append_left _ hp))
theorem b0(hp:PassesOwn (model X.prog X.w) X.A X.env X.xe)(hc:X.calm=true)(hi:PI X tg iter wi)(hg:PG X tg g)(hb:Ey X body tb)
  (hs:autoParam (∀x,foldedSetIterable iter X.env x=pure x) ψ):PS X (.For tg iter body [] pos) (SN wi g tb):=by
 intro pins s σ H D I h
 refine wpAny_For (bj (hi pins s σ H _ I h) λv s1 h1=>bj h1 λQI s2 h2=>?_) hs
 obtain⟨it,fp,tn,J,H2,e,I2,T,Jj,f2,W,⟨m0,w0⟩,turn⟩:=h2
 subst e
 have stat:∀{H':Hp},(∀b ∈ fp,H' b=none)->∀b ∈ fp,gF X pins H' b:=λhn b hb=>⟨hn b hb,(f2 b hb).2⟩
 refine codeAny_forLoop_any (λn s'=>∃i σ' H',Inv X pins σ' H' s'/\tn i s'.heap/\(∀b ∈ fp,H' b=none)/\W i n σ' H') ?_ m0 ⟨0,σ,H2,I2,Jj,λb hb=>(f2 b hb).1,w0⟩
 rintro n s3 ⟨i,σ3,H3,I3,Yi,Yj,w3⟩
 rcases turn i n σ3 H3 w3 with ⟨stop,qn⟩ | ⟨go,N,hN,step⟩
 ·refine wpAny_passesOwn hp (bj (T.done X rfl rfl rfl hc i pins s3 σ3 H3 X.xe I3 (stat Yj) Yi stop) λr s4 Cc=>?_)
  obtain⟨hr,I4⟩:=Cc
  subst hr
  exact wpAny_execs_nil ⟨σ3,H3,I4,qn⟩
 ·refine wpAny_passesOwn hp (bj (T.item X rfl rfl rfl hc i pins s3 σ3 H3 X.xe I3 (stat Yj) Yi go) λr s4 Cc=>?_)
  obtain⟨u,hr,h4⟩:=Cc
  subst hr
  refine wpAny_passesOwn hp (bj h4 λ_ s5 Cc=>?_)
  obtain⟨x,H5,I5,r5,y5,L0,QK⟩:=Cc
  have I5':=I5.pinned (stat QK) (T.obj _ _ L0)
  refine wpAny_passesOwn hp (bj (hg _ s5 σ3 H5 x u _ I5' r5 (step x H5 y5)) λ_ s6 Cc=>?_)
  obtain⟨σ6,H6,I6,q6⟩:=Cc
  refine wpAny_passesOwn hp (bj (hb _ s6 σ6 H6 _ I6 q6) λf s7 q7=>?_)
  have again:∀{σ7:St}{H7:Hp},Inv X (pins ++ fj fp s5.heap) σ7 H7 s7->N σ7 H7->∃m,m < n/\∃i σ' H',Inv X pins σ' H' s7/\tn i s7.heap/\(∀b ∈ fp,H' b=none)/\W i m σ' H':=λ{σ7 H7} I7 n7=>by
   obtain⟨m',hm,w7⟩:=hN σ7 H7 n7
   refine⟨m',hm,i + 1,σ7,H7,I7.DC,T.keep _ _ _ L0 λb hb o e=>(I7.pin (b,o) (mem_append_right _ (mem_append_right _ (fA hb e)))).1,λb hb=>?_,w7⟩
   obtain⟨o,e,d⟩:=T.obj _ _ L0 b hb
   exact(I7.pin (b,o) (mem_append_right _ (mem_append_right _ (fA hb e)))).2.1
  cases f with
  | next=>obtain⟨σ7,H7,I7,n7⟩:=q7;exact again I7 n7
  | cont=>obtain⟨σ7,H7,I7,n7⟩:=q7;exact again I7 n7
  | brk=>obtain⟨σ7,H7,I7,q7⟩:=q7;exact⟨σ7,H7,I7.DC,q7⟩
  | ret v=>obtain⟨x7,σ7,H7,I7,r7,q7⟩:=q7;exact⟨x7,σ7,H7,I7.DC,r7,q7⟩
end
theorem dB{K:Frag}{g:TG}{tb:TS}{D:nG}(Pv:Nat->St->Hp->Prop)(h0:Pv 0 σ H)(hl:∀i σ H,i <= xs.length->Pv i σ H->Cb K H a xs)
  (hs:∀i x σ H,xs[i]? = some x->Pv i σ H->g x σ H λσ2 H2=>tb { D with nx:=Pv (i + 1),ct:=Pv (i + 1),bk:=D.nx } σ2 H2) (hd:∀σ H,Pv xs.length σ H->D.nx σ H) :
  ∃W:Nat->Nat->St->Hp->Prop,(∃m,W 0 m σ H)/\∀i m σ H,W i m σ H ->
   ((xz K a).stop i H/\D.nx σ H)∨((xz K a).go i H/\∃N:St->Hp->Prop,(∀σ' H',N σ' H'->∃m',m' < m/\W (i + 1) m' σ' H')/\∀x H',(xz K a).Hm i H x H'->g x σ H' λσ2 H2=>tb { D with nx:=N,ct:=N,bk:=D.nx } σ2 H2):=by
 refine⟨λi m σ H=>m=xs.length - i/\i <= xs.length/\Pv i σ H,⟨xs.length,by simp,zero_le _,h0⟩,?_⟩
 rintro i m σ H ⟨rfl,hi,p⟩
 have q:=hl i σ H hi p
 by_cases CS:i < xs.length
 ·refine .inr ⟨⟨xs,xs[i],q,by simp[CS]⟩,Pv (i + 1),λσ' H' p'=>⟨xs.length - (i + 1),by omega,rfl,CS,p'⟩,λx H' y=>?_⟩
  obtain⟨e,y⟩:=y
  subst e
  exact hs i x σ _ (y xs q) p
 ·have e:i=xs.length:=by omega
  subst e
  exact .inl ⟨⟨xs,q,le_refl _⟩,hd σ H p⟩
theorem bu{lo:Int}{g:TG}{tb:TS}{D:nG}(Pv:Nat->St->Hp->Prop)(h0:Pv 0 σ H)
  (hs:∀i σ H,i < n->Pv i σ H->g (.int (lo + i)) σ H λσ2 H2=>tb { D with nx:=Pv (i + 1),ct:=Pv (i + 1),bk:=D.nx } σ2 H2) (hd:∀σ H,Pv n σ H->D.nx σ H) :
  ∃W:Nat->Nat->St->Hp->Prop,(∃m,W 0 m σ H)/\∀i m σ H,W i m σ H ->
   ((uu lo n).stop i H/\D.nx σ H)∨((uu lo n).go i H/\∃N:St->Hp->Prop,(∀σ' H',N σ' H'->∃m',m' < m/\W (i + 1) m' σ' H')/\∀x H',(uu lo n).Hm i H x H'->g x σ H' λσ2 H2=>tb { D with nx:=N,ct:=N,bk:=D.nx } σ2 H2):=by
 refine⟨λi m σ H=>m=n - i/\i <= n/\Pv i σ H,⟨n,by simp,zero_le _,h0⟩,?_⟩
 rintro i m σ H ⟨rfl,hi,p⟩
 by_cases CS:i < n
 ·refine .inr ⟨CS,Pv (i + 1),λσ' H' p'=>⟨n - (i + 1),by omega,rfl,CS,p'⟩,λx H' y=>?_⟩
  obtain⟨e,y⟩:=y
  subst e y
  exact hs i σ _ CS p
 ·have e:i=n:=by omega
  subst e
  exact .inl ⟨le_refl _,hd σ H p⟩
abbrev R2:=V->V->Hp->VK->Prop
def eW(X:Cx)(f:Value->Value->Sem Value)(r:R2):Prop :=
 ∀(pins:List (Addr × Obj))(s:Shared)(σ:St)(H:Hp)(x y:V)(v u:Value)(Q:VK),Inv X pins σ H s->RelV x v->RelV y u->r x y H Q ->
  wpAny (model X.prog X.w) X.A (f v u) (EP X pins σ Q) X.xe s
def SO(X:Cx)(f:Value->Sem Value)(r:V->Hp->VK->Prop):Prop :=
 ∀(pins:List (Addr × Obj))(s:Shared)(σ:St)(H:Hp)(x:V)(v:Value)(Q:VK),Inv X pins σ H s->RelV x v->r x H Q ->
  wpAny (model X.prog X.w) X.A (f v) (EP X pins σ Q) X.xe s
def CA(X:Cx)(f:Value)(r:List V->Hp->VK->Prop):Prop :=
 ∀(pins:List (Addr × Obj))(s:Shared)(σ:St)(H:Hp)(xs:List V)(us:List Value)(Q:VK),Inv X pins σ H s->Vals xs us->r xs H Q ->
  wpAny (model X.prog X.w) X.A (call f us) (EP X pins σ Q) X.xe s
def SQ(X:Cx)(r:V->Hp->(Bool->Hp->Prop)->Prop):Prop :=
 ∀(pins:List (Addr × Obj))(s:Shared)(σ:St)(H:Hp)(x:V)(v:Value)(Q:Bool->Hp->Prop),Inv X pins σ H s->RelV x v->r x H Q ->
  wpAny (model X.prog X.w) X.A (truthy v) (TP X pins σ Q) X.xe s
def QL(r:R2)(ta tb:TE):TE:=λσ H Q=>ta σ H λx H1=>tb σ H1 λy H2=>r x y H2 Q
def tUn(r:V->Hp->VK->Prop)(ta:TE):TE:=λσ H Q=>ta σ H λx H1=>r x H1 Q
def rI(C:Int->Int->Prop)(g:Int->Int->V):R2:=λx y H Q=>∃i j,x = .int i/\y = .int j/\C i j/\Q (g i j) H
def uq(g:Int->Int->V):R2:=λx y H Q=>∃i j,x = .int i/\y = .int j/\Q (g i j) H
def rU(g:Int->V):V->Hp->VK->Prop:=λx H Q=>∃i,x = .int i/\Q (g i) H
section
theorem BK(ha:PE X a ta)(hb:PE X b tb){σ:St}{R:V->V->Hp->Prop}(I:Inv X pins σ H s)
  (h:ta σ H λx H1=>tb σ H1 λy H2=>R x y H2) {f:Value->Value->Sem Value}
  (hf:∀v u s2 x y H2,Inv X pins σ H2 s2->RelV x v->RelV y u->R x y H2->wpAny (model X.prog X.w) X.A (f v u) Q X.xe s2) :
  wpAny (model X.prog X.w) X.A (eval a X.env) (λv s₁=>wpAny (model X.prog X.w) X.A (eval b X.env) (λu s₂=>wpAny (model X.prog X.w) X.A (f v u) Q X.xe s₂) X.xe s₁) X.xe s:=by
 refine bj (ha pins s σ H _ I h) λv s1 Cc=>?_
 obtain⟨x,H1,I1,r1,q1⟩:=Cc
 refine bj (hb pins s1 σ H1 _ I1 q1) λu s2 Cc=>?_
 obtain⟨y,H2,I2,r2,q2⟩:=Cc
 exact hf v u s2 x y H2 I2 r1 r2 q2
theorem aJ(ho:eW X (binaryOp op) r)(ha:PE X a ta)(hb:PE X b tb):PE X (.BinOp a op b pos) (QL r ta tb):=by
 intro pins s σ H Q I h
 exact wpAny_BinOp (BK ha hb I h λv u s2 x y H2 I2 rx ry q=>ho pins s2 σ H2 x y v u Q I2 rx ry q)
theorem zI(ho:SO X (unaryOp op) r)(ha:PE X a ta):PE X (.UnaryOp op a pos) (tUn r ta):=by
 intro pins s σ H Q I h
 exact UnaryOp_ (bj (ha pins s σ H _ I h) λv s1 Cc=>by obtain⟨x,H1,I1,r1,q1⟩:=Cc;exact ho pins s1 σ H1 x v Q I1 r1 q1)
theorem L1{g:Int->Int->Int}
  (rule:∀(i j:Int)(t u:Tok)(s:Shared)(Q:Value->Shared->Prop)(E:Value->Shared->Prop),C i j->Q (.int (g i j) s.toks) { s with toks:=s.toks + 1 }->wpAny (model X.prog X.w) X.A (f (.int i t) (.int j u)) Q E s) :
  eW X f (rI C λi j => .int (g i j)):=by
 intro pins s σ H x y v u Q I rx ry h
 obtain⟨i,j,rfl,rfl,hc,q⟩:=h
 obtain⟨t,rfl⟩:=rx
 obtain⟨t',rfl⟩:=ry
 exact rule i j t t' s _ _ hc ⟨.int (g i j),H,I.tok _,⟨_,rfl⟩,q⟩
theorem tu{g:Int->Int->Int}
  (rule:∀(i j:Int)(t u:Tok)(s:Shared)(Q:Value->Shared->Prop)(E:Value->Shared->Prop),Q (.int (g i j) s.toks) { s with toks:=s.toks + 1 }->wpAny (model X.prog X.w) X.A (f (.int i t) (.int j u)) Q E s) :
  eW X f (uq λi j => .int (g i j)):=by
 intro pins s σ H x y v u Q I rx ry h
 obtain⟨i,j,rfl,rfl,q⟩:=h
 obtain⟨t,rfl⟩:=rx
 obtain⟨t',rfl⟩:=ry
 exact rule i j t t' s _ _ ⟨.int (g i j),H,I.tok _,⟨_,rfl⟩,q⟩
theorem yj{g:Int->Int->Bool}
  (rule:∀(i j:Int)(t u:Tok)(s:Shared)(Q:Value->Shared->Prop)(E:Value->Shared->Prop),Q (.bool (g i j)) s->wpAny (model X.prog X.w) X.A (f (.int i t) (.int j u)) Q E s) :
  eW X f (uq λi j => .bl (g i j)):=by
 intro pins s σ H x y v u Q I rx ry h
 obtain⟨i,j,rfl,rfl,q⟩:=h
 obtain⟨t,rfl⟩:=rx
 obtain⟨t',rfl⟩:=ry
 exact rule i j t t' s _ _ ⟨.bl (g i j),H,I,rfl,q⟩
def SR(i j:Int):Prop:=0 < j/\j < 1073741824
def MK(i j:Int):Prop:=0 <= j/\j <= 1000000/\i.natAbs < 2 ^ 64
def Kd(i j:Int):Prop:=(-(2 ^ 64) < i/\i < 2 ^ 64)∨(-(2 ^ 64) < j/\j < 2 ^ 64)
theorem Kd.ok(h:Kd i j):IntMulOk i j:=by
 rcases h with ⟨h1,h2⟩ | ⟨h1,h2⟩
 ·exact .of_left (intBits_le_64 h1 h2)
 ·exact .of_right (intBits_le_64 h1 h2)
theorem pI(k:Nat):(0:Int) <= 2 ^ k:=by
 rw[two_pow_cast]
 exact Int.natCast_nonneg _
theorem cn:eW X (binaryOp .Add) (uq λi j => .int (i + j)):=tu λ_ _ _ _ _ _ _ q=>add_int q
theorem fz:eW X (binaryOp .Sub) (uq λi j => .int (i - j)):=tu λ_ _ _ _ _ _ _ q=>sub_int q
theorem mV:eW X (binaryOp .Mult) (rI Kd λi j => .int (i * j)):=L1 λ_ _ _ _ _ _ _ hc q=>mul_int q hc.ok
theorem eA:eW X (binaryOp .FloorDiv) (rI SR λi j => .int (i / j)):=L1 λi j _ _ _ _ _ hc q=>by
 have h1:(0:Int) < j:=hc.1
 have h2:j < 1073741824:=hc.2
 exact floordiv_int (by omega) (by rw[Int.fdiv_eq_ediv_of_nonneg i (by omega)];exact q) (.inl (PyProof.noPylong_small (by omega)))
theorem bL:eW X (binaryOp .Mod) (rI (λ_ j=>0 < j) λi j => .int (i % j)):=L1 λi j _ _ _ _ _ hc q=>by
 have h1:(0:Int) < j:=hc
 exact mod_int' (by omega) (by rw[Int.fmod_eq_emod_of_nonneg i (by omega)];exact q)
theorem qv:eW X (binaryOp .Pow) (rI MK λi j => .int (i ^ j.toNat)):=L1 λ_ _ _ _ _ _ _ hc q=>pow_int_small hc.1 hc.2.1 hc.2.2 q
theorem AW:eW X (binaryOp .LShift) (rI MK λi j => .int (i * 2 ^ j.toNat)):=L1 λ_ _ _ _ _ _ _ hc q=>lshift_int_small hc.1 hc.2.1 hc.2.2 q
theorem qu:eW X (binaryOp .RShift) (rI (λ_ j=>0 <= j) λi j => .int (i / 2 ^ j.toNat)):=L1 λi j _ _ _ _ _ hc q =>
 rshift_int hc (by rw[Int.fdiv_eq_ediv_of_nonneg i (pI _)];exact q)
theorem vO:eW X (binaryOp .BitAnd) (uq λi j => .int (Builtin.bitAnd i j)):=tu λ_ _ _ _ _ _ _ q=>and_int q
theorem ML:eW X (binaryOp .BitOr) (uq λi j => .int (Builtin.bitOr i j)):=tu λ_ _ _ _ _ _ _ q=>or_int q
theorem nk:eW X (inplaceOp .Add) (uq λi j => .int (i + j)):=tu λ_ _ _ _ _ _ _ q=>iadd_int q
theorem sj:eW X (inplaceOp .Sub) (uq λi j => .int (i - j)):=tu λ_ _ _ _ _ _ _ q=>isub_int q
theorem unI{g:Int->Int}
  (rule:∀(i:Int)(t:Tok)(s:Shared)(Q:Value->Shared->Prop)(E:Value->Shared->Prop),Q (.int (g i) s.toks) { s with toks:=s.toks + 1 }->wpAny (model X.prog X.w) X.A (f (.int i t)) Q E s) :
  SO X f (rU λi => .int (g i)):=by
 intro pins s σ H x v Q I rx h
 obtain⟨i,rfl,q⟩:=h
 obtain⟨t,rfl⟩:=rx
 exact rule i t s _ _ ⟨.int (g i),H,I.tok _,⟨_,rfl⟩,q⟩
theorem uz:SO X (unaryOp .USub) (rU λi => .int (-i)):=unI λ_ _ _ _ _ q=>neg_int q
end
noncomputable def An:V->V->Bool
 | .Cp, .Cp=>true | .Cp, .int _=>true | .int _, .Cp=>true | .Cp, .bl _=>true | .bl _, .Cp=>true | .Cp, .str _=>true | .str _, .Cp=>true
 | .int _, .int _=>true | .bl _, .bl _=>true | .str _, .str _=>true | .FH _, .FH _=>true
 | .int _, .str _=>true | .str _, .int _=>true | .bl _, .str _=>true | .str _, .bl _=>true
 | _,_=>false
def rEq:R2:=λx y H Q=>An x y=true/\Q (.bl (decide (x=y))) H
def rNe:R2:=λx y H Q=>An x y=true/\Q (.bl (!decide (x=y))) H
theorem sC :decide (V.int i=V.int j)=(i == j):=by
 rw[Bool.eq_iff_iff]
 simp
theorem xh :decide (V.bl i=V.bl j)=(i == j):=by
 rw[Bool.eq_iff_iff]
 simp
theorem sA :decide (V.str i=V.str j)=(i == j):=by
 rw[Bool.eq_iff_iff]
 simp
theorem sD :decide (V.FH i=V.FH j)=(i.toList == j.toList):=by
 rw[Bool.eq_iff_iff]
 cases i
 cases j
 simp
section
variable {X:Cx}{a b c:Expr}{ta tb tc:TE}{pos:Pos}
theorem aV{σ:St}(I:Inv X pins σ H s)(q:Q (.bl k) H)(e:k=k'):EP X pins σ Q (.bool k') s:=by
 subst e
 exact⟨.bl k,H,I,rfl,q⟩
theorem bz:eW X (compareOp .Eq) rEq:=by
 intro pins s σ H x y v u Q I rx ry h
 obtain⟨hs,q⟩:=h
 cases x with
 | Cp =>
  cases rx
  cases y with
  | Cp=>cases ry;exact PySem.EqNone.eq_none_none (aV I q (by simp))
  | bl j=>cases ry;exact PySem.EqNone.eq_none_bool (aV I q (by simp))
  | int j=>obtain⟨t',rfl⟩:=ry;exact PySem.EqNone.eq_none_int (aV I q (by simp))
  | str j=>obtain⟨t',rfl⟩:=ry;exact PySem.EqNone.eq_none_str (aV I q (by simp))
  | _=>exact absurd (show false=true from hs) Bool.false_ne_true
 | bl i =>
  cases rx
  cases y with
  | Cp=>cases ry;exact PySem.EqNone.eq_bool_none (aV I q (by simp))
  | bl j=>cases ry;exact eq_bool (aV I q xh)
  | str j=>obtain⟨t',rfl⟩:=ry;exact PySem.EqMixed.eq_bool_str (aV I q (by simp))
  | _=>exact absurd (show false=true from hs) Bool.false_ne_true
 | int i =>
  obtain⟨t,rfl⟩:=rx
  cases y with
  | Cp=>cases ry;exact PySem.EqNone.eq_int_none (aV I q (by simp))
  | int j=>obtain⟨t',rfl⟩:=ry;exact eq_int (aV I q sC)
  | str j=>obtain⟨t',rfl⟩:=ry;exact PySem.EqMixed.eq_int_str (aV I q (by simp))
  | _=>exact absurd (show false=true from hs) Bool.false_ne_true
 | str i =>
  obtain⟨t,rfl⟩:=rx
  cases y with
  | Cp=>cases ry;exact PySem.EqNone.eq_str_none (aV I q (by simp))
  | bl j=>cases ry;exact PySem.EqMixed.eq_str_bool (aV I q (by simp))
  | int j=>obtain⟨t',rfl⟩:=ry;exact PySem.EqMixed.eq_str_int (aV I q (by simp))
  | str j=>obtain⟨t',rfl⟩:=ry;exact eq_str (aV I q sA)
  | _=>exact absurd (show false=true from hs) Bool.false_ne_true
 | FH i =>
  obtain⟨t,rfl⟩:=rx
  cases y with
  | FH j=>obtain⟨t',rfl⟩:=ry;exact PySem.W.eq_bytes (aV I q sD)
  | _=>exact absurd (show false=true from hs) Bool.false_ne_true
 | _=>cases y<;>exact absurd (show false=true from hs) Bool.false_ne_true
theorem jk:eW X (compareOp .NotEq) rNe:=by
 intro pins s σ H x y v u Q I rx ry h
 obtain⟨hs,q⟩:=h
 cases x with
 | Cp =>
  cases rx
  cases y with
  | Cp=>cases ry;exact PySem.EqNone.ne_none_none (aV I q (by simp))
  | bl j=>cases ry;exact PySem.EqNone.ne_none_bool (aV I q (by simp))
  | int j=>obtain⟨t',rfl⟩:=ry;exact PySem.EqNone.ne_none_int (aV I q (by simp))
  | str j=>obtain⟨t',rfl⟩:=ry;exact PySem.EqNone.ne_none_str (aV I q (by simp))
  | _=>exact absurd (show false=true from hs) Bool.false_ne_true
 | bl i =>
  cases rx
  cases y with
  | Cp=>cases ry;exact PySem.EqNone.ne_bool_none (aV I q (by simp))
  | bl j=>cases ry;exact ne_bool (aV I q (congrArg not xh))
  | str j=>obtain⟨t',rfl⟩:=ry;exact PySem.EqMixed.ne_bool_str (aV I q (by simp))
  | _=>exact absurd (show false=true from hs) Bool.false_ne_true
 | int i =>
  obtain⟨t,rfl⟩:=rx
  cases y with
  | Cp=>cases ry;exact PySem.EqNone.ne_int_none (aV I q (by simp))
  | int j=>obtain⟨t',rfl⟩:=ry;exact ne_int (aV I q (congrArg not sC))
  | str j=>obtain⟨t',rfl⟩:=ry;exact PySem.EqMixed.ne_int_str (aV I q (by simp))
  | _=>exact absurd (show false=true from hs) Bool.false_ne_true
 | str i =>
  obtain⟨t,rfl⟩:=rx
  cases y with
  | Cp=>cases ry;exact PySem.EqNone.ne_str_none (aV I q (by simp))
  | bl j=>cases ry;exact PySem.EqMixed.ne_str_bool (aV I q (by simp))
  | int j=>obtain⟨t',rfl⟩:=ry;exact PySem.EqMixed.ne_str_int (aV I q (by simp))
  | str j=>obtain⟨t',rfl⟩:=ry;exact ne_str (aV I q (congrArg not sA))
  | _=>exact absurd (show false=true from hs) Bool.false_ne_true
 | FH i =>
  obtain⟨t,rfl⟩:=rx
  cases y with
  | FH j=>obtain⟨t',rfl⟩:=ry;exact PySem.W.ne_bytes (aV I q (congrArg not sD))
  | _=>exact absurd (show false=true from hs) Bool.false_ne_true
 | _=>cases y<;>exact absurd (show false=true from hs) Bool.false_ne_true
theorem rO:eW X (compareOp .Lt) (uq λi j => .bl (decide (i < j))):=yj λ_ _ _ _ _ _ _ q=>lt_int q
theorem rP:eW X (compareOp .LtE) (uq λi j => .bl (decide (i <= j))):=yj λ_ _ _ _ _ _ _ q=>le_int q
theorem oE:eW X (compareOp .Gt) (uq λi j => .bl (decide (j < i))):=yj λ_ _ _ _ _ _ _ q=>gt_int q
theorem zJ:eW X (compareOp .GtE) (uq λi j => .bl (decide (j <= i))):=yj λ_ _ _ _ _ _ _ q=>ge_int q
theorem tp:eW X (compareOp .In) (λx y H Q=>∃i j,x = .str i/\y = .str j/\Q (.bl (!(Builtin.Str.occurrences j i 0 j.length 1).isEmpty)) H):=by
 intro pins s σ H x y v u Q I rx ry h
 obtain⟨i,j,rfl,rfl,q⟩:=h
 obtain⟨t,rfl⟩:=rx
 obtain⟨t',rfl⟩:=ry
 exact in_str (aV I q rfl)
theorem iV:eW X (compareOp .Is) (λx y H Q=>y = .Cp/\Q (.bl (decide (x = .Cp))) H):=by
 intro pins s σ H x y v u Q I rx ry h
 obtain⟨rfl,q⟩:=h
 cases ry
 refine is_none_gen (aV I q ?_)
 cases x<;>first
  | (cases rx;rfl)
  | (obtain⟨t,rfl⟩:=rx;rfl)
theorem yh:eW X (compareOp .IsNot) (λx y H Q=>y = .Cp/\Q (.bl (!decide (x = .Cp))) H):=by
 intro pins s σ H x y v u Q I rx ry h
 obtain⟨rfl,q⟩:=h
 cases ry
 refine isnot_none_gen (aV I q ?_)
 cases x<;>first
  | (cases rx;rfl)
  | (obtain⟨t,rfl⟩:=rx;rfl)
theorem aA(b:Expr)(h:autoParam (op ≠ .In) θ)(h2:autoParam (op ≠ .NotIn) θ):behindInMarks op b=false:=by
 have e1:(op == CmpOp.In)=false:=by cases op<;>first | rfl | exact absurd rfl h
 have e2:(op == CmpOp.NotIn)=false:=by cases op<;>first | rfl | exact absurd rfl h2
 cases b<;>simp[behindInMarks,e1,e2]
theorem c9(ho:eW X (compareOp op) r)(ha:PE X a ta)(hb:PE X b tb)(hm:behindInMarks op b=false):PE X (.Compare a [op] [b] pos) (QL r ta tb):=by
 intro pins s σ H Q I h
 exact wpAny_Compare1 (BK ha hb I h λv u s2 x y H2 I2 rx ry q=>ho pins s2 σ H2 x y v u Q I2 rx ry q) hm
def MN(t:TE):TT:=λσ H Q=>t σ H λx H'=>∃k,x = .bl k/\Q k H'
theorem ax(ho:eW X (compareOp op) r)(ha:PE X a ta)(hb:PE X b tb)(hm:behindInMarks op b=false):PT X (.Compare a [op] [b] pos) (MN (QL r ta tb)):=by
 intro pins s σ H Q I h
 refine wpAny_isTrue_Compare1 (bj (ha pins s σ H _ I h) λv s1 ⟨x,H1,I1,r1,q1⟩=>bj (hb pins s1 σ H1 _ I1 q1) λu s2 ⟨y,H2,I2,r2,q2⟩ =>
  bj (ho pins s2 σ H2 x y v u _ I2 r1 r2 q2) λc s3 ⟨z,H3,I3,r3,k,e,q3⟩=>?_) hm
 subst e
 cases r3
 exact wpAny_truthy_bool ⟨H3,I3,q3⟩
def Ah(r r':R2)(ta tb tc:TE):TE:=λσ H Q=>ta σ H λx H1=>tb σ H1 λy H2=>r x y H2 λz H3=>∃k,z = .bl k /\
 (if k=true then tc σ H3 λw' H4=>r' y w' H4 Q else Q (.bl false) H3)
theorem oA(ho:eW X (compareOp op) r)(Hl:eW X (compareOp SS) r')(ha:PE X a ta)(hb:PE X b tb)(hc:PE X c tc)
  (hm:lastMarks [op,SS] [b,c]=false:=by with_unfolding_all rfl):PE X (.Compare a [op,SS] [b,c] pos) (Ah r r' ta tb tc):=by
 intro pins s σ H Q I h
 refine Compare_chain (bj (ha pins s σ H _ I h) λv s1 ⟨x,H1,I1,r1,q1⟩=>chain_link (bj (hb pins s1 σ H1 _ I1 q1) λu s2 ⟨y,H2,I2,r2,q2⟩ =>
  bj (ho pins s2 σ H2 x y v u _ I2 r1 r2 q2) λd s3 ⟨z,H3,I3,r3,k,e,q3⟩=>?_)) hm
 subst e
 cases r3
 refine wpAny_truthy_bool ?_
 cases k with
 | false=>exact ite_ff ⟨.bl false,H3,I3,rfl,q3⟩
 | true=>exact ite_tt (chain_last (bj (hc pins s3 σ H3 _ I3 q3) λw' s4 Cc=>by obtain⟨z',H4,I4,r4,q4⟩:=Cc;exact Hl pins s4 σ H4 y z' u w' Q I4 r2 r4 q4))
def MO(K:Frag)(x:V)(H:Hp)(k:Bool):Prop :=
 match x with
 | .Cp=>k=false
 | .bl b=>k=b
 | .int i=>k=(i != 0)
 | .str y=>y.length <= sizeLine/\k=((y.length:Int) != 0)
 | .FH y=>y.size <= sizeLine/\k=((y.size:Int) != 0)
 | .ref p=>(∃xs,Cb K H p xs/\k = !xs.isEmpty)∨(∃xs,Ck K H p xs/\k = !xs.isEmpty)∨∃kvs,H p=some (.dK kvs)/\k = !kvs.isEmpty
 | _=>False
theorem qO(r:KV kvs vs):(!vs.isEmpty) = !kvs.isEmpty:=by
 cases r<;>rfl
theorem kM(r:Vals xs Cd):(!Cd.toArray.isEmpty) = !xs.isEmpty:=by
 cases r<;>simp
theorem iY:(sizeLine:Nat) < 2 ^ 63:=by rw[sizeLine_eq];decide
theorem zY:SQ X (λx H Q=>∃k,MO X.K x H k/\Q k H):=by
 intro pins s σ H x v Q I rx h
 obtain⟨k,e,q⟩:=h
 have hl:=iY
 have hs:sizeLine=16777216:=sizeLine_eq
 cases x with
 | Cp =>
  cases rx
  have e':k=false:=e
  subst e'
  exact truthy_none ⟨H,I,q⟩
 | bl b =>
  cases rx
  have e':k=b:=e
  subst e'
  exact wpAny_truthy_bool ⟨H,I,q⟩
 | int i =>
  obtain⟨t,rfl⟩:=rx
  have e':k=(i != 0):=e
  subst e'
  exact PySem.P.truthy_int ⟨H,I,q⟩
 | str y =>
  obtain⟨t,rfl⟩:=rx
  obtain⟨hy,e'⟩:y.length <= sizeLine/\k=((y.length:Int) != 0):=e
  subst e'
  exact PySem.P.truthy_str (by omega) ⟨H,I.tok _,q⟩
 | FH y =>
  obtain⟨t,rfl⟩:=rx
  obtain⟨hy,e'⟩:y.size <= sizeLine/\k=((y.size:Int) != 0):=e
  subst e'
  exact PySem.W.truthy_bytes (by omega) ⟨H,I.tok _,q⟩
 | ref p =>
  cases rx
  have e':(∃xs,Cb X.K H p xs/\k = !xs.isEmpty)∨(∃xs,Ck X.K H p xs/\k = !xs.isEmpty)∨∃kvs,H p=some (.dK kvs)/\k = !kvs.isEmpty:=e
  rcases e' with ⟨xs,hx,e'⟩ | ⟨xs,hx,e'⟩ | ⟨kvs,hx,e'⟩
  ·subst e'
   obtain⟨Cd,r,pl,hz⟩:=I.list hx
   have hlen:=r.length
   exact wpAny_truthy_list pl.isList (by simp only[size_toArray];omega) ⟨H,I.tok _,by rw[kM r];exact q⟩
  ·subst e'
   obtain⟨Cd,r,pl,hz⟩:=I.tuple hx
   have hlen:=r.length
   exact truthy_tuple pl (by simp only[size_toArray];omega) ⟨H,I.tok _,by rw[kM r];exact q⟩
  ·subst e'
   obtain⟨hz,hS,vs,r,m⟩:kvs.length <= sizeLine/\(p == sysModules)=false/\∃vs,KV kvs vs/\s.heap.DictOf (aY X.prog X.w) p vs:=I.Ci p _ hx
   have hlen:kvs.length=vs.length:=Paired.length r
   exact wpAny_truthy_dict hS m (by omega) ⟨H,I.tok _,by rw[qO r];exact q⟩
 | _=>exact(show False from e).elim
theorem fR(ha:PE X a ta)(he:∀whole,isTrue a X.env whole=(do let v ← whole;standAt a.pos;holding [v] (truthy v))) :
  PT X a (λσ H Q=>ta σ H λx H'=>∃k,MO X.K x H' k/\Q k H'):=by
 intro pins s σ H Q I h
 exact isTrue_plain (bj (ha pins s σ H _ I h) λv s1 Cc=>by obtain⟨x,H1,I1,r1,q1⟩:=Cc;exact zY pins s1 σ H1 x v Q I1 r1 q1) (he _)
theorem ig(r:Vals [x] us):∃u,us=[u]/\RelV x u:=by
 cases r with
 | cons r1 r2=>cases r2;exact⟨_,rfl,r1⟩
theorem vals2(r:Vals [x,y] us):∃u w',us=[u,w']/\RelV x u/\RelV y w':=by
 cases r with
 | cons r1 r2 =>
  cases r2 with
  | cons r3 r4=>cases r4;exact⟨_,_,rfl,r1,r3⟩
theorem xk:CA X (.builtin "abs") (λxs H Q=>∃i,xs=[.int i]/\Q (.int (if i < 0 then -i else i)) H):=by
 intro pins s σ H xs us Q I r h
 obtain⟨i,rfl,q⟩:=h
 obtain⟨u,rfl,t,rfl⟩:=ig r
 exact call_abs_int λu tk=>⟨.int (if i < 0 then -i else i),H,I.tok _,⟨_,rfl⟩,q⟩
theorem uk(hc:X.calm=true):CA X (.builtin "min") (λxs H Q=>∃i j,xs=[.int i, .int j]/\Q (.int (if j < i then j else i)) H):=by
 intro pins s σ H xs us Q I r h
 obtain⟨i,j,rfl,q⟩:=h
 obtain⟨u,w',rfl,⟨t,rfl⟩,⟨t',rfl⟩⟩:=vals2 r
 refine min_two_ints (I.ok.hd hc) λh' tk k=>⟨_,H,I.kept k,?_,q⟩
 by_cases hj:j < i
 ·rw[if_pos hj,if_pos hj];exact⟨_,rfl⟩
 ·rw[if_neg hj,if_neg hj];exact⟨_,rfl⟩
theorem DD:CA X (.type "str") (λxs H Q=>∃i,xs=[.int i]/\i.natAbs.log2 < 1920/\Q (.str (toString i)) H):=by
 intro pins s σ H xs us Q I r h
 obtain⟨i,rfl,hz,q⟩:=h
 obtain⟨u,rfl,t,rfl⟩:=ig r
 exact PySem.P.str_of_int hz ⟨.str _,H,I.tok _,⟨_,rfl⟩,q⟩
end
structure F4(h:Heap)(x dx C:Addr)(mA:Str->Option Value):Prop where
 obj:h.get? x=some (PySem.W.instObj C dx)
 ns:h.Ns1 dx mA
 ne:dx ≠ x
theorem tQ{h:Heap}(n:h.Ns1 dx mA):∃od,h.get? dx=some od/\∀name,PySem.W.lookIn name od=some (mA name):=by
 obtain⟨o,es,ep,ho,hd,hk,_,hm⟩:=n
 refine⟨o,ho,λname=>?_⟩
 have e:=hm name
 unfold nsFind findBy at e
 rw[←Array.find?_toList]at e
 unfold PySem.W.lookIn
 rw[hd]
 dsimp only
 split
 ·rename_i y q
  rw[q]at e
  exact congrArg some e
 ·rename_i q
  rw[q]at e
  have a:es.toList.any (·.refKey)=false:=by
   rw[any_eq_false]
   intro y hy
   obtain⟨z,t,SU⟩:=hk y (Array.mem_toList_iff.mp hy)
   simp[DictEntry.refKey,SU]
  have a':¬es.toList.any (·.refKey)=true:=by rw[a];exact Bool.false_ne_true
  rw[if_neg a']
  exact congrArg some e
theorem F4.look(I:F4 h x dx C mA):∃od,PySem.W.InstAt h x (PySem.W.instObj C dx) C (some od)/\∀name,PySem.W.lookIn name od=some (mA name) :=
 let ⟨od,ho,hl⟩:=tQ I.ns
 ⟨od,⟨I.obj,rfl,rfl,ho⟩,hl⟩
section
variable {prog:Program}{w:World}{A:Around}{E:Value->Shared->Prop}{s:Shared}{K:Frag}{x dx C f:Addr}{mA:Str->Option Value}{name:Str}{v:Value}
theorem yX(X:K.In s.heap)(I:F4 s.heap x dx C mA)(hg:plainGet K C name=true)(hh:hasDictIn K C=true)
  (ha:findIn K (.ref C) name=some none) (hv:mA name=some v) (DN:PySem.W.handedIn v=true) (h:Q v { s with toks:=s.toks + 1 }) :
  wpAny (model prog w) A (getAttr (.ref x) name expr) Q E s:=by
 obtain⟨od,J,hl⟩:=I.look
 exact PySem.W.get_value X J (PySem.W.plainGet_of hg).1 (PySem.W.findObj_own hh ha rfl (by rw[hl,hv])) DN h
theorem wR(X:K.In s.heap)(I:F4 s.heap x dx C mA)(hg:plainGet K C name=true)
  (hf:findIn K (.ref C) name=some (some (.ref f))) (ht:isFn K (.ref f)=true) (hv:mA name=none) (h:Q (.ref f,[.ref x]) s) :
  wpAny (model prog w) A (getMethod (.ref x) name pl) Q E s:=by
 obtain⟨od,J,hl⟩:=I.look
 exact PySem.W.method_fn X J (PySem.W.plainGet_of hg).1 (PySem.W.plainGet_of hg).2 hf (beq_iff_eq.mp ht) (by show(PySem.W.lookIn name od).map (·.isSome)=some false;rw[hl,hv];rfl) h
theorem xN(X:K.In s.heap)(I:F4 s.heap x dx C mA)
  (hs:findIn K (.ref C) "__setattr__" = some (some (.builtin "object.__setattr__"))) (hp:plainOver K C=true) (ht:PySem.W.takerIn K C name=some none) (hh:hasDictIn K C=true)
  (hw:PySem.Within mA ns) (hsz:ns.length <= sizeLine)
  (h:∀h',F4 h' x dx C (λy=>if y=name then some v else mA y)->Heap.SameBut dx s.heap h'->Q () { s with heap:=h',toks:=s.toks + 2 }) :
  wpAny (model prog w) A (setAttr (.ref x) name v) Q E s:=by
 obtain⟨od,J,hl⟩:=I.look
 refine PySem.W.set_plain X J hs (PySem.W.osa_open (s:={ s with toks:=s.toks + 1 }) (r:=none) X J hp ht λb=>?_)
 obtain⟨cd,hc,S2⟩:=PySem.W.any_some hh
 have hx:s.heap.get? x=some ⟨.ref C,some dx, .plain,#[]⟩:=I.obj
 refine wpAny_bind (wpAny_pure (wpAny_bind (wpAny_bind (wpAny_loadPart hx (wpAny_bind (PySem.W.Looks.here (s:={ s with toks:=s.toks + 1 }) (PySem.W.looks_clsIn X hc) ?_))))))
 rw[S2]
 refine wpAny_pure (a:=some dx) (wpAny_bind (wpAny_pure (wpAny_bind ?_)))
 refine wpAny_nsSet1 (s:={ s with toks:=s.toks + 1 }) I.ns λh' Gz F3=>?_
 obtain⟨oD,esD,epD,hoD,hdD,hcD⟩:=Gz.count (PySem.Within.cons name v hw)
 refine wpAny_bind (wpAny_lookBehind hoD (by rw[hdD];exact pastItsLine_dict (le_trans hcD (by rw[length_cons];omega))) ?_)
 exact wpAny_pure (h _ ⟨(F3.2 _ (Ne.symm I.ne)).trans I.obj,Gz,I.ne⟩ F3)
theorem wF(X:K.In s.heap)(hm:makesIn K C=true)
  (hi:findIn K (.ref C) "__init__" = some (some (.ref f))) (hf:PySem.W.typeIn K (.ref f)=some (.type "function"))
  (h:codeAny (model prog w) (A.under (.builtin "type.__call__" ⟨.ref C :: vs,kw⟩)) (.call (.ref f) ⟨.ref (s.heap.objs.size + 1) :: vs,kw⟩) (PySem.W.InitBack (s.heap.objs.size + 1) R)
   { s with heap:=(s.heap.push PySem.W.emptyDict).push (PySem.W.instObj C s.heap.objs.size) }) :
  codeAny (model prog w) A (.call (.ref C) ⟨vs,kw⟩) R s:=by
 obtain⟨hh,g,d,t,os⟩:=s
 exact PySem.W.make_core (PySem.W.makes_of X hm) (PySem.W.looks_findIn X hi) (λself=>PySem.W.bind_fn X self hf) (.inl rfl) h
end
noncomputable def aS(f:Str)(v:V):List (Str × V)->List (Str × V)
 | []=>[(f,v)]
 | (g,x) :: r=>if g=f then (g,v) :: r else (g,x) :: aS f v r
theorem jn(f g:Str)(v:V):∀fs:List (Str × V),(aS f v fs).lookup g=if g=f then some v else fs.lookup g
 | []=>by
  show List.lookup g [(f,v)]=_
  by_cases h:g=f
  ·have hb:(g == f)=true:=beq_iff_eq.mpr h
   simp only[List.lookup,hb,if_pos h]
  ·have hb:(g == f)=false:=beq_eq_false_iff_ne.mpr h
   simp only[List.lookup,hb,if_neg h]
 | (k,x) :: r=>by
  have ih:=jn f g v r
  rw[show aS f v ((k,x) :: r)=(if k=f then (k,v) :: r else (k,x) :: aS f v r) from rfl]
  by_cases hk:k=f
  ·rw[if_pos hk]
   by_cases h:g=k
   ·have hb:(g == k)=true:=beq_iff_eq.mpr h
    simp only[List.lookup,hb,if_pos (h.trans hk)]
   ·have hb:(g == k)=false:=beq_eq_false_iff_ne.mpr h
    simp only[List.lookup,hb,if_neg (λe:g=f=>h (e.trans hk.symm))]
  ·rw[if_neg hk]
   by_cases h:g=k
   ·have hb:(g == k)=true:=beq_iff_eq.mpr h
    simp only[List.lookup,hb,if_neg (λe:g=f=>hk (h.symm.trans e))]
   ·have hb:(g == k)=false:=beq_eq_false_iff_ne.mpr h
    simp only[List.lookup,hb]
    exact ih
theorem iZ(f:Str)(v:V):∀fs:List (Str × V),f ∈ (aS f v fs).map (·.1)/\∀g,g ∈ fs.map (·.1)->g ∈ (aS f v fs).map (·.1)
 | []=>⟨by simp[aS],λg h=>by simp at h⟩
 | (k,x) :: r=>by
  obtain⟨i1,i2⟩:=iZ f v r
  rw[show aS f v ((k,x) :: r)=(if k=f then (k,v) :: r else (k,x) :: aS f v r) from rfl]
  by_cases hk:k=f
  ·rw[if_pos hk]
   subst hk
   exact⟨by simp,λg h=>by simpa using h⟩
  ·rw[if_neg hk]
   refine⟨?_,λg h=>?_⟩
   ·rw[map_cons]
    exact mem_cons_of_mem _ i1
   ·rw[map_cons]at h ⊢
    rcases mem_cons.mp h with e | e
    ·exact mem_cons.mpr (.inl e)
    ·exact mem_cons_of_mem _ (i2 g e)
theorem jo(f:Str)(v:V):∀fs:List (Str × V),(aS f v fs).length <= fs.length + 1
 | []=>by simp[aS]
 | (k,x) :: r=>by
  have ih:=jo f v r
  rw[show aS f v ((k,x) :: r)=(if k=f then (k,v) :: r else (k,x) :: aS f v r) from rfl]
  by_cases hk:k=f
  ·rw[if_pos hk,length_cons,length_cons];omega
  ·rw[if_neg hk,length_cons,length_cons];omega
theorem CV.some_of(r:CV (some v) o):∃u,o=some u/\RelV v u:=by
 cases o with
 | none=>exact(show False from r).elim
 | some u=>exact⟨u,rfl,r⟩
theorem CV.none_of(r:CV none o):o=none:=by
 cases o with
 | none=>rfl
 | some u=>exact(show False from r).elim
theorem tY(r:RelV v u):PySem.W.handedIn u=true:=by
 cases v with
 | Cp=>cases (show u=Value.none from r);rfl
 | bl b=>cases (show u=Value.bool b from r);rfl
 | int i=>obtain⟨t,e⟩:=(show ∃t,u=Value.int i t from r);cases e;rfl
 | str x=>obtain⟨t,e⟩:=(show ∃t,u=Value.str x t from r);cases e;rfl
 | FH b=>obtain⟨t,e⟩:=(show ∃t,u=Value.bytes b t from r);cases e;rfl
 | JZ b=>obtain⟨t,e⟩:=(show ∃t,u=Value.float b t from r);cases e;rfl
 | ref a=>cases (show u=Value.ref a from r);rfl
 | ty n=>cases (show u=Value.type n from r);rfl
section
theorem j6(Ci:D4 P w H h)(e:H a=some (.ins C dx fs)):∃mA,F4 h a dx C mA/\(∀f,CV (fs.lookup f) (mA f))/\PySem.Within mA (fs.map (·.1))/\fs.length <= 1000/\H dx=some (.own a):=by
 obtain⟨d,z,ne,ob,mA,n,r,q⟩:=(show C1 P w H h a (.ins C dx fs) from Ci a _ e)
 exact⟨mA,⟨ob,n,ne⟩,r,q,z,d⟩
end
structure EC(K:Frag)(C:Addr):Prop where
 pg:plainGet K C Str.empty=true
 hd:hasDictIn K C=true
 po:plainOver K C=true
 sa:findIn K (.ref C) "__setattr__" = some (some (.builtin "object.__setattr__"))
theorem EC.get{K:Frag}(c:EC K C)(f:Str):plainGet K C f=true:=c.pg
def Co(K:Frag)(C:Addr)(f:Str):Prop:=findIn K (.ref C) f=some none
theorem Co.MP{K:Frag}(n:Co K C f):PySem.W.takerIn K C f=some none:=by
 unfold PySem.W.takerIn
 rw[show findIn K (.ref C) f=some none from n]
 rfl
structure bC(K:Frag)(C:Addr)(m:Str)(f:Addr):Prop where
 at_:findIn K (.ref C) m=some (some (.ref f))
 fn:isFn K (.ref f)=true
 kp:keepIn K (.ref f)=true
section
variable {X:Cx}{pins:List (Addr × Obj)}{σ:St}{H:Hp}{s:Shared}{a C dx:Addr}{fs:List (Str × V)}{f:Str}{v:V}{A:Around}{E:Value->Shared->Prop}
theorem kP(I:Inv X pins σ H s)(e:H a=some (.ins C dx fs))(c:EC X.K C)(n:Co X.K C f)(l:fs.lookup f=some v)
  (h:∀u s',Inv X pins σ H s'->RelV v u->Q u s'):wpAny (model X.prog X.w) A (getAttr (.ref a) f b) Q E s:=by
 obtain⟨mA,O,r,_,_,_⟩:=j6 I.Ci e
 obtain⟨u,hu,ru⟩:=CV.some_of (v:=v) (o:=mA f) (by rw[←l];exact r f)
 exact yX I.DJ O (c.get f) c.hd n hu (tY ru) (h u _ (I.tok _) ru)
theorem kO(I:Inv X pins σ H s)(e:H a=some (.ins C dx fs))(c:EC X.K C)(k:bC X.K C m g)(l:fs.lookup m=none)
  (h:Q (.ref g,[.ref a]) s):wpAny (model X.prog X.w) A (getMethod (.ref a) m pl) Q E s:=by
 obtain⟨mA,O,r,_,_,_⟩:=j6 I.Ci e
 have hn:mA m=none:=CV.none_of (by rw[←l];exact r m)
 exact wR I.DJ O (c.get m) k.at_ k.fn hn h
theorem jT(I:Inv X pins σ H s)(e:H a=some (.ins C dx fs))(c:EC X.K C)(n:Co X.K C f)(hl:fs.length < 1000)(ry:RelV y u)
  (h:∀s',Inv X pins σ (upd H a (.ins C dx (aS f y fs))) s'->Q () s'):wpAny (model X.prog X.w) A (setAttr (.ref a) f u) Q E s:=by
 obtain⟨mA,O,r,wi,_,ho⟩:=j6 I.Ci e
 have hz:(fs.map (·.1)).length <= sizeLine:=by rw[length_map,sizeLine_eq];omega
 refine xN I.DJ O c.sa c.po n.MP c.hd wi hz λh' O' sb=>h _ ?_
 have hd:∃o,h'.get? dx=some o:=let ⟨o,_,_,e',_⟩:=O'.ns; ⟨o,e'⟩
 refine I.write (x:=a) (e:=dx) (by rw[e];exact True.intro) (.inr ho) (λb q hb z=>(sb.2 b hb).trans z) hd ?_
 refine⟨by rw[ah O.ne];exact ho,?_,O.ne,O'.obj,_,O'.ns,λg=>?_,λg hg=>?_⟩
 ·have:=jo f y fs;omega
 ·show CV ((aS f y fs).lookup g) (if g=f then some u else mA g)
  rw[jn]
  by_cases q:g=f
  ·rw[if_pos q,if_pos q];exact ry
  ·rw[if_neg q,if_neg q];exact r g
 ·by_cases q:g=f
  ·rw[q];exact(iZ f y fs).1
  ·refine(iZ f y fs).2 g (wi g λz=>hg ?_)
   show(if g=f then some u else mA g)=none
   rw[if_neg q];exact z
theorem Inv.made(I:Inv X pins σ H s):Inv X pins σ (upd (upd H s.heap.objs.size (.own (s.heap.objs.size + 1))) (s.heap.objs.size + 1) (.ins C s.heap.objs.size []))
  { s with heap:=(s.heap.push PySem.W.emptyDict).push (PySem.W.instObj C s.heap.objs.size) }:=by
 have e1:(s.heap.push PySem.W.emptyDict).get? s.heap.objs.size=some PySem.W.emptyDict:=Heap.get?_push_size s.heap rfl
 have e2:((s.heap.push PySem.W.emptyDict).push (PySem.W.instObj C s.heap.objs.size)).get? (s.heap.objs.size + 1)=some (PySem.W.instObj C s.heap.objs.size):=by
  have:=Heap.get?_push_size (s.heap.push PySem.W.emptyDict) (o:=PySem.W.instObj C s.heap.objs.size) rfl
  rwa [size_push]at this
 have e3:(s.heap.push PySem.W.emptyDict).Ns s.heap.objs.size (λ_=>none):=⟨PySem.W.emptyDict,#[],_,e1,rfl,(λe he=>absurd he (by simp)),λ_=>rfl⟩
 have I1:=I.laid (a:=s.heap.objs.size) (o := .own (s.heap.objs.size + 1)) (h':=s.heap.push PySem.W.emptyDict) (t':=s.toks) (λb u q=>Heap.get?_push_of_some _ q) (le_refl _) ⟨_,e1⟩
 refine I1.laid (a:=s.heap.objs.size + 1) (o := .ins C s.heap.objs.size []) (t':=s.toks) (λb u q=>Heap.get?_push_of_some _ q) (le_of_eq (size_push _ _)) ?_
 have ne:s.heap.objs.size ≠ s.heap.objs.size + 1:=ne_of_lt (lt_succ_self _)
 refine⟨by rw[ah ne,ad],zero_le _,ne,e2,λ_=>none,(Heap.Ns1.of_empty e3).at λo q=>Heap.get?_push_of_some _ q,λ_=>True.intro,λy hy=>absurd rfl hy⟩
theorem zh(hb:attributeBase e f env (eval e env)=eval e env)
  (h:wpAny (model prog w) A (eval e env) (λo s₁=>wpAny (model prog w) A (getAttr o f true) Q E s₁) E s):wpAny (model prog w) A (eval (.Attribute e f pos) env) Q E s :=
 Attribute_any_ h (by rw[arm_eval_Attribute,hb])
end
def uG(K:Frag)(ta:TE)(f:Str):TE:=λσ H Q=>ta σ H λx H1=>∃a C dx fs v,x = .ref a/\H1 a=some (.ins C dx fs)/\EC K C/\Co K C f/\fs.lookup f=some v/\Q v H1
def SV(K:Frag)(ta tv:TE)(f:Str):TS:=λD σ H=>tv σ H λy H1=>ta σ H1 λx H2=>∃a C dx fs,x = .ref a/\H2 a=some (.ins C dx fs)/\EC K C/\Co K C f/\fs.length < 1000 /\
 D.nx σ (upd H2 a (.ins C dx (aS f y fs)))
def SW(X:Cx)(op:Operator)(rd:V->V->Hp->VK->Prop):Prop :=
 ∀(pins:List (Addr × Obj))(s:Shared)(σ:St)(H:Hp)(x y:V)(u v:Value)(Q:VK),Inv X pins σ H s->RelV x u->RelV y v->rd x y H Q->wpAny (model X.prog X.w) X.A (inplaceOp op u v) (EP X pins σ Q) X.xe s
def xT(K:Frag)(ta tv:TE)(rd:V->V->Hp->VK->Prop)(f:Str):TS:=λD σ H=>ta σ H λx H1=>∃a C dx fs v,x = .ref a/\H1 a=some (.ins C dx fs)/\EC K C/\Co K C f/\fs.lookup f=some v /\
 tv σ H1 λy H2=>rd v y H2 λz H3=>∃Fe CH,H3 a=some (.ins C Fe CH)/\CH.length < 1000/\D.nx σ (upd H3 a (.ins C Fe (aS f z CH)))
section
theorem al(he:PE X e ta)(hb:attributeBase e f X.env (eval e X.env)=eval e X.env):PE X (.Attribute e f pos) (uG X.K ta f):=by
 intro pins s σ H Q I h
 refine zh hb (bj (he pins s σ H _ I h) λu s1 Cc=>?_)
 obtain⟨x,H1,I1,rx,a,C,dx,fs,v,ex,ea,c,n,l,q⟩:=Cc
 subst ex
 obtain rfl:u=Value.ref a:=rx
 exact kP I1 ea c n l λu' s2 I2 ru=>⟨v,H1,I2,ru,q⟩
theorem b7(ha:PE X o ta)(hv:PE X value tv)(hs:swapsWith value (some (.Attribute o f pos')) pos.line X.env=pure false):PS X (.Assign [.Attribute o f pos'] value pos) (SV X.K ta tv f):=by
 intro pins s σ H D I h
 refine plainObj_wpAny_Assign_Attribute (bj (hv pins s σ H _ I h) λu s1 ⟨y,H1,I1,ry,q⟩=>bj (ha pins s1 σ H1 _ I1 q) λov s2 Cc=>?_) hs
 obtain⟨x,H2,I2,rx,a,C,dx,fs,ex,ea,c,n,l,q2⟩:=Cc
 subst ex
 obtain rfl:ov=Value.ref a:=rx
 exact jT I2 ea c n l ry λs3 I3=>⟨σ,_,I3,q2⟩
theorem eM(ha:PE X o ta)(hv:PE X value tv)(MQ:SW X op rd):PS X (.AugAssign (.Attribute o f Ff) op value pos) (xT X.K ta tv rd f):=by
 intro pins s σ H D I h
 refine wpAny_AugAssign_AttributeAny (bj (ha pins s σ H _ I h) λov s1 Cc=>?_)
 obtain⟨x,H1,I1,rx,a,C,dx,fs,v,ex,ea,c,n,l,q⟩:=Cc
 subst ex
 obtain rfl:ov=Value.ref a:=rx
 refine kP I1 ea c n l λu s2 I2 ru=>bj (hv pins s2 σ H1 _ I2 q) λw3 s3 ⟨y,H2,I3,ry,q3⟩=>bj (MQ pins s3 σ H2 v y u w3 _ I3 ru ry q3) λw4 s4 Cc=>?_
 obtain⟨z,H3,I4,rz,Fe,CH,ea',l',q4⟩:=Cc
 exact jT I4 ea' c n l' rz λs5 I5=>⟨σ,_,I5,q4⟩
end
section
variable {X:Cx}{pins:List (Addr × Obj)}{σ:St}{H:Hp}{s:Shared}{A:Around}{E:Value->Shared->Prop}{Q:Value->Shared->Prop}{c:Value}{b:Bool}
inductive jg(K:Frag)(H:Hp):V->Value->Prop where
 | Cp:jg K H .Cp (.type "NoneType")
 | bl (x:Bool):jg K H (.bl x) (.type "bool")
 | int (i:Int):jg K H (.int i) (.type "int")
 | str (x:Str):jg K H (.str x) (.type "str")
 | JZ (x:UInt64):jg K H (.JZ x) (.type "float")
 | lst {a:Addr} {xs:List V} (e:H a=some (.lst xs)):jg K H (.ref a) (.type "list")
 | DT {a:Addr} {o:Obj} {xs:List V} (e:H a=some (.DT o (.lst xs))):jg K H (.ref a) (.type "list")
 | tup {a:Addr} {xs:List V} (e:H a=some (.tup xs)):jg K H (.ref a) (.type "tuple")
 | dK {a:Addr} {kvs:List (Key × V)} (e:H a=some (.dK kvs)):jg K H (.ref a) (.type "dict")
 | dT {a:Addr} {kvs:List (List Key × V)} (e:H a=some (.dT kvs)):jg K H (.ref a) (.type "dict")
 | ins {a C dx:Addr} {fs:List (Str × V)} (e:H a=some (.ins C dx fs)) (cl:EC K C) (ha:findIn K (.ref C) "__class__" = some (some (.builtin "object.__class__")))
   (hn:PySem.W.specialIn K (.builtin "object.__class__") "__get__" = some (some (.builtin "getset_descriptor.__get__"))) (DV:PySem.W.takesIn K (.builtin "object.__class__")=some true)
   (hm:PySem.W.mroIn K C (.type "object")=some true):jg K H (.ref a) (.ref C)
theorem tU(I:Inv X pins σ H s)(rx:RelV x u)(ty:jg X.K H x t)(e:kitOne X.K t c=some b)(h:∀tk,Q (.bool b) { s with toks:=tk }) :
  wpAny (model X.prog X.w) A (call (.builtin "isinstance") [u,c]) Q E s:=by
 cases ty with
 | Cp=>cases (show u=Value.none from rx);exact PySem.W.kia_one PySem.W.kitx_none I.DJ True.intro e (λz=>nomatch z) h
 | bl y=>cases (show u=Value.bool y from rx);exact PySem.W.kia_one PySem.W.kitx_bool I.DJ True.intro e (λz=>nomatch z) h
 | int i=>obtain⟨t,q⟩:=(show ∃t,u=Value.int i t from rx);cases q;exact PySem.W.kia_one PySem.W.kitx_int I.DJ True.intro e (λz=>nomatch z) h
 | str y=>obtain⟨t,q⟩:=(show ∃t,u=Value.str y t from rx);cases q;exact PySem.W.kia_one PySem.W.kitx_str I.DJ True.intro e (λz=>nomatch z) h
 | JZ y=>obtain⟨t,q⟩:=(show ∃t,u=Value.float y t from rx);cases q;exact PySem.W.kia_one PySem.W.kitx_float I.DJ True.intro e (λz=>nomatch z) h
 | @lst a xs ea =>
  cases (show u=Value.ref a from rx)
  obtain⟨_,_,n,_,h1⟩:=(show C1 X.prog X.w H s.heap a (.lst xs) from I.Ci a _ ea)
  exact PySem.W.kia_one PySem.W.kitx_list I.DJ ⟨_,h1,rfl⟩ e (λz=>nomatch z) h
 | @DT a ob xs ea =>
  cases (show u=Value.ref a from rx)
  obtain⟨_,_,_,n,_,h1⟩:=(show C1 X.prog X.w H s.heap a (.DT ob (.lst xs)) from I.Ci a _ ea)
  exact PySem.W.kia_one PySem.W.kitx_list I.DJ ⟨_,h1,rfl⟩ e (λz=>nomatch z) h
 | @tup a xs ea =>
  cases (show u=Value.ref a from rx)
  obtain⟨_,_,_,p⟩:=(show C1 X.prog X.w H s.heap a (.tup xs) from I.Ci a _ ea)
  obtain⟨o,h1,⟨h2,_⟩,_⟩:=p
  exact PySem.W.kia_one PySem.W.kitx_tuple I.DJ ⟨o,h1,h2⟩ e (λz=>nomatch z) h
 | @dK a kvs ea =>
  cases (show u=Value.ref a from rx)
  obtain⟨_,_,vs,_,p⟩:=(show C1 X.prog X.w H s.heap a (.dK kvs) from I.Ci a _ ea)
  obtain⟨o,es,ep,h1,h2,_⟩:=p
  exact PySem.W.kia_one PySem.W.kitx_dict I.DJ ⟨o,h1,h2.1⟩ e (λz=>nomatch z) h
 | @dT a kvs ea =>
  cases (show u=Value.ref a from rx)
  obtain⟨_,_,xs,_,o,es,ep,h1,h2,_⟩:=(show C1 X.prog X.w H s.heap a (.dT kvs) from I.Ci a _ ea)
  exact PySem.W.kia_one PySem.W.kitx_dict I.DJ ⟨o,h1,h2.1⟩ e (λz=>nomatch z) h
 | @ins a C dx fs ea cl ha hn DV hm =>
  cases (show u=Value.ref a from rx)
  obtain⟨mA,O,_⟩:=j6 I.Ci ea
  obtain⟨od,J,_⟩:=O.look
  exact PySem.W.kia_one (PySem.W.kitx_own (cl.get _) cl.hd ha hn DV hm) I.DJ J e (λz=>nomatch z) h
end
structure Cj(k:Nat)(A:Around):Prop where
 hd:A.handled=none
 dp:A.depth + 3 * k + 5 < recursionLimit
 un:A.units + 16 * k + 200 < cLine
theorem Cj.mono(r:Cj k A)(h:j <= k):Cj j A:=⟨r.hd,by have:=r.dp;omega,by have:=r.un;omega⟩
theorem Cj.deeper(r:Cj (k + 1) A)(env:Env):Cj k (A.deeper env) :=
 ⟨r.hd,by have:=r.dp;show A.depth + 1 + 3 * k + 5 < _;omega,by have:=r.un;show A.units + 3 + 16 * k + 200 < _;omega⟩
theorem qI{A:Around}:(A.under (.builtin "type.__call__" ⟨.ref C :: us,kw⟩)).depth=A.depth + 1:=by
 first | rfl | simp[Around.under,Code.weight,Code.isCreation,Code.isGuard,Code.isCaller,Code.frames,Code.isFrame,guardIds]
theorem qH{A:Around}:(A.under (.builtin "type.__call__" ⟨.ref C :: us,kw⟩)).units=A.units + 1:=by
 first | rfl | simp[Around.under,Code.cUnits,Code.frames,Code.isFrame]
theorem Cj.make(r:Cj (k + 1) A)(C:Addr)(us:List Value)(kw:List (Str × Value)):Cj k (A.under (.builtin "type.__call__" ⟨.ref C :: us,kw⟩)) :=
 ⟨r.hd,by have:=r.dp;rw[qI];omega,by have:=r.un;rw[qH];omega⟩
theorem Cj.depth(r:Cj k A):A.depth < recursionLimit:=by have:=r.dp;omega
theorem Cj.units(r:Cj k A):A.units + 64 < cLine:=by have:=r.un;omega
def MR:TA:=λ_ H Q=>Q [] H
def MT(ta:TE)(tr:TA):TA:=λσ H Q=>ta σ H λx H1=>tr σ H1 λxs H2=>Q (x :: xs) H2
section
theorem ac:PA X [] MR:=λ_ _ _ _ H Q I h=>Calls.spliced_nil ⟨[],H,I, .nil,h⟩
theorem aa(ha:PE X e te)(hr:PA X es t)(hs:autoParam (starEach (e :: es) X.env=(false,eval e X.env) :: starEach es X.env) η):PA X (e :: es) (MT te t):=by
 intro pos pins s σ H Q I h
 rw[hs]
 show wpAny _ _ (spliced ((false,eval e X.env) :: backTo pos (starEach es X.env))) _ _ s
 refine Calls.spliced_cons (bj (ha pins s σ H _ I h) λu s1 Cc=>?_)
 obtain⟨x,H1,I1,r1,q1⟩:=Cc
 exact bj (hr pos pins s1 σ H1 _ I1 q1) λus s2 Cc=>by obtain⟨xs,H2,I2,r2,q2⟩:=Cc;exact⟨x :: xs,H2,I2, .cons r1 r2,q2⟩
def SX(t:TA):TE:=λσ H Q=>t σ H λxs H1=>xs.length <= sizeLine/\∀p,H1 p=none->Q (.ref p) (upd H1 p (.tup xs))
def SY(t:TA):TE:=λσ H Q=>t σ H λxs H1=>xs.length <= sizeLine/\∀p,H1 p=none->Q (.ref p) (upd H1 p (.lst xs))
theorem bF(h:PA X es t):PE X (.Tuple es x1 pos) (SX t):=by
 intro pins s σ H Q I hq
 refine wpAny_Tuple_spliced (bj (h pos pins s σ H _ I hq) λus s1 ⟨xs,H1,I1,r,z,q⟩=>⟨by rw[←r.length];exact z,?_⟩)
 have hf:H1 s1.heap.objs.size=none:=I1.Ci.fresh (le_refl _)
 refine⟨.ref s1.heap.objs.size,upd H1 s1.heap.objs.size (.tup xs),I1.laid (t':=s1.toks) (λb u e=>Heap.get?_push_of_some _ e) (le_refl _) ?_,rfl,q _ hf⟩
 exact⟨z,us,r,⟨_,Heap.get?_push_size _ rfl,⟨rfl,_,rfl⟩,rfl⟩⟩
theorem aU(h:PA X es t):PE X (.List es pos) (SY t):=by
 intro pins s σ H Q I hq
 refine wpAny_List_spliced (bj (h pos pins s σ H _ I hq) λus s1 ⟨xs,H1,I1,r,z,q⟩=>⟨by rw[←r.length];exact z,?_⟩)
 have hf:H1 s1.heap.objs.size=none:=I1.Ci.fresh (le_refl _)
 refine⟨.ref s1.heap.objs.size,upd H1 s1.heap.objs.size (.lst xs),I1.laid (t':=s1.toks) (λb u e=>Heap.get?_push_of_some _ e) (le_refl _) ?_,rfl,q _ hf⟩
 exact⟨z,us,0,r,Heap.get?_push_size _ rfl⟩
end
abbrev Sp:=List V->Hp->VK->XK->Prop
abbrev sL:=List Env->Hp->Shared->XK->Value->Shared->Prop
structure F5(P:Program)(w:World)(K:Frag)(mg:Str->Option Value)(base:Heap)(A:Around)(outer:List Env)(s:Shared)(H:Hp):Prop where
 frames:A.frames=some outer
 mod:Mod K mg base
 bs:∀b o,base.get? b=some o->s.heap.get? b=some o/\H b=none
 Ij:base.objs.size <= s.heap.objs.size
 DU:s.heap.FunFrames base outer
 Kb:∀b ∈ sr outer,H b=none
 Ci:D4 P w H s.heap
 bare:AllBare s.gens
def CE(outer:List Env)(P:Program)(w:World)(H:Hp)(s:Shared)(Q:VK)(u:Value)(s':Shared):Prop :=
 ∃v H',s'.os=s.os/\AllBare s'.gens/\Un (sr outer) [] H H' s.heap s'.heap/\D4 P w H' s'.heap/\RelV v u/\Q v H'
def CR(CX:sL)(outer:List Env)(P:Program)(w:World)(H:Hp)(s:Shared)(Q:VK)(E:XK)(r:Result)(s':Shared):Prop :=
 match r with
 | .ok (.ret u)=>CE outer P w H s Q u s'
 | .ok _=>False
 | .error e=>CX outer H s E e s'
structure BY(P:Program)(w:World)(K:Frag)(mg:Str->Option Value)(base:Heap)(CX:sL)(k:Nat)(f:Addr)(fd:FuncData)(ps:List Str)(sp:Sp):Prop where
 len:∀vs H Q E,sp vs H Q E->vs.length=ps.length
 run:∀(A:Around)(outer:List Env)(s:Shared)(H:Hp)(args:Args)(us:List Value)(vs:List V)(Q:VK)(E:XK),Cj k A->F5 P w K mg base A outer s H->BindsTo s fd args (ps.zip us)->Vals vs us->sp vs H Q E ->
  codeAny (model P w) A (.call (.ref f) args) (CR CX outer P w H s Q E) s
theorem BY.imp{K:Frag}(F:BY P w K mg base CX k f fd ps sp)
  (h:∀vs H Q E,Yk vs H Q E->sp vs H Q E):BY P w K mg base CX k f fd ps Yk :=
 ⟨λvs H Q E q=>F.len vs H Q E (h _ _ _ _ q),λA outer s H args us vs Q E hr he hb hv hs=>F.run A outer s H args us vs Q E hr he hb hv (h _ _ _ _ hs)⟩
theorem F5.make{K:Frag}(e:F5 P w K mg base A outer s H)(C:Addr)(us:List Value)(kw:List (Str × Value)) :
  F5 P w K mg base (A.under (.builtin "type.__call__" ⟨.ref C :: us,kw⟩)) outer s H:=⟨by first | exact e.frames | (simpa [Around.under,Code.envs,Code.isFrame,pushEnvs] using e.frames),e.mod,e.bs,e.Ij,e.DU,e.Kb,e.Ci,e.bare⟩
section
variable {X:Cx}{pins:List (Addr × Obj)}{σ:St}{H:Hp}{s s':Shared}
theorem Inv.MU(I:Inv X pins σ H s):F5 X.prog X.w X.K X.mg X.base X.A X.stack s H :=
 ⟨I.ok.frames,I.ok.mod,I.bs,le_trans I.ok.Ij I.sz,I.stack,I.FJ,I.Ci,I.bare⟩
theorem Inv.after(I:Inv X pins σ H s)(h:CE X.stack X.prog X.w H s Q u s'):EP X pins σ Q u s':=by
 obtain⟨v,H',os,bare,un,Ci,r,q⟩:=h
 obtain⟨hh,g,d,t,os'⟩:=s'
 obtain rfl:os' = s.os:=os
 exact⟨v,H',I.call (h':=hh) (g':=g) (d':=d) (t':=t) (ch:=[]) un Ci bare (λb z=>absurd z (by simp)),r,q⟩
end
def MV(sp:Sp)(Dk:List V)(E:XK)(t:TA):TE:=λσ H Q=>t σ H λvs H1=>sp (vs ++ Dk) H1 Q E
def zr(C:Addr)(m:Str)(sp:Sp)(Dk:List V)(E:XK)(ta:TE)(t:TA):TE:=λσ H Q=>ta σ H λx H1=>∃a dx fs,x = .ref a/\H1 a=some (.ins C dx fs)/\fs.lookup m=none /\
 t σ H1 λvs H2=>sp (x :: (vs ++ Dk)) H2 Q E
def MW(C:Addr)(sp:Sp)(Dk:List V)(E:XK)(t:TA):TE:=λσ H Q=>t σ H λvs H1=>∀x dx,H1 x=none->H1 dx=none->dx ≠ x ->
 sp (.ref x :: (vs ++ Dk)) (upd (upd H1 dx (.own x)) x (.ins C dx [])) (λv H2=>v = .Cp/\Q (.ref x) H2) E
def Binds(K:Frag)(fd:FuncData)(ps:List Str)(ds:List Value):Prop :=
 ∀(s:Shared)(us:List Value),K.In s.heap->(us ++ ds).length=ps.length->BindsTo s fd ⟨us,[]⟩ (ps.zip (us ++ ds))
theorem Binds.all{K:Frag}(h:∀us:List Value,us.length=ps.length->bindArgs fd ⟨us,[]⟩ = pure (ps.zip us)):Binds K fd ps []:=λs us _ hl=>by
 rw[append_nil]at hl ⊢
 exact .of_eq (h us hl)
def gj(CX:sL)(X:Cx)(E:XK):Prop:=∀(pins:List (Addr × Obj))(σ:St)(H:Hp)(s:Shared)(e:Value)(s':Shared),Inv X pins σ H s->CX X.stack H s E e s'->X.xe e s'
section
theorem mK{σ:St}(F:BY X.prog X.w X.K X.mg X.base CX k f fd ps sp)(hr:Cj k X.A)(hb:Binds X.K fd ps ds)(hd:Vals Dk ds)(hx:gj CX X E)
  (I:Inv X pins σ H s) (r:Vals vs us) (h:sp (vs ++ Dk) H Q E):wpAny (model X.prog X.w) X.A (call (.ref f) us) (EP X pins σ Q) X.xe s:=by
 have r2:Vals (vs ++ Dk) (us ++ ds):=r.append hd
 have hl:(us ++ ds).length=ps.length:=by rw[←r2.length];exact F.len _ _ _ _ h
 refine wpAny_call (codeAny_mono (F.run X.A X.stack s H ⟨us,[]⟩ (us ++ ds) (vs ++ Dk) Q E hr I.MU (hb s us I.DJ hl) r2 h) λr s' hq=>?_)
 cases r with
 | error e=>exact hx pins σ H s e s' I hq
 | ok fl =>
  cases fl with
  | ret u=>exact I.after hq
  | next=>exact False.elim hq
  | brk=>exact False.elim hq
  | cont=>exact False.elim hq
theorem aq(F:BY X.prog X.w X.K X.mg X.base CX k f fd ps sp)(hr:Cj k X.A)(hg:Gl X x)(hm:X.mg x=some (.ref f))(hk:keepIn X.K (.ref f)=true)(hb:Binds X.K fd ps ds)(hd:Vals Dk ds)(hx:gj CX X E)
  (ha:PA X (e :: es) t) (Ke:autoParam ((x == ("__debug__":Str))=false) θ) (he:autoParam (starEach (e :: es) X.env=(false,eval e X.env) :: starEach es X.env) η) (Df:autoParam ((backTo pos (starEach es X.env)).any (·.1)=false) η) :
  PE X (.Call (.Name x p) (e :: es) [] pos) (MV sp Dk E t):=by
 intro pins s σ H Q I h
 refine wpAny_Call_Name_kw (nh I hg hm ?_ Ke)
 refine PySem.W.callWith_K (h₀:=X.base) I.ok.mod.HQ hk (bj (ha pos pins s σ H _ I h) λus s1 ⟨vs,H1,I1,r,q⟩=>⟨I1.DJ,?_⟩) he Df
 exact mK F hr hb hd hx I1 r q
theorem aC(he:PE X o ta)(c:EC X.K C)(hm:bC X.K C m f)(F:BY X.prog X.w X.K X.mg X.base CX k f fd ps sp)(hr:Cj k X.A)(hb:Binds X.K fd ps ds)(hd:Vals Dk ds)(hx:gj CX X E)(ha:PA X (e :: es) t)
  (GR:autoParam (starEach (e :: es) X.env=(false,eval e X.env) :: starEach es X.env) η) (Df:autoParam ((backTo pos (starEach es X.env)).any (·.1)=false) η)
  (ht:eval (.Call (.Attribute o m apos) (e :: es) [] pos) X.env=(do
   let ov ← eval o X.env
   standAt apos.atName
   let (f,first) ← holding [ov] (getMethod ov m pl)
   callWith pos f first (backTo pos (starEach (e :: es) X.env)) (backToKw pos (keywordEach [] X.env))):=by rfl) :
  PE X (.Call (.Attribute o m apos) (e :: es) [] pos) (zr C m sp Dk E ta t):=by
 intro pins s σ H Q I h
 refine PySem.W.methodCall_KW (pl:=pl) (bj (he pins s σ H _ I h) λu s1 Cc=>?_) ht
 obtain⟨x,H1,I1,rx,a,dx,fs,ex,ea,l,q⟩:=Cc
 subst ex
 obtain rfl:u=Value.ref a:=rx
 refine kO I1 ea c hm l ?_
 refine PySem.W.callWith_K (first:=[.ref a]) (h₀:=X.base) I.ok.mod.HQ hm.kp (bj (ha pos pins s1 σ H1 _ I1 q) λus s2 ⟨vs,H2,I2,r,q2⟩=>⟨I2.DJ,?_⟩) GR Df
 exact mK (us := .ref a :: us) (vs := .ref a :: vs) F hr hb hd hx I2 (.cons rfl r) q2
theorem b6(he:PE X o ta)(c:EC X.K C)(hm:bC X.K C m f)(F:BY X.prog X.w X.K X.mg X.base CX k f fd ps sp)(hr:Cj k X.A)(hb:Binds X.K fd ps ds)(hd:Vals Dk ds)(hx:gj CX X E)
  (ht:eval (.Call (.Attribute o m apos) [] [] pos) X.env=(do
   let ov ← eval o X.env
   standAt apos.atName
   let (f,first) ← holding [ov] (getMethod ov m pl)
   callWith pos f first (backTo pos (starEach [] X.env)) (backToKw pos (keywordEach [] X.env))):=by rfl) :
  PE X (.Call (.Attribute o m apos) [] [] pos) (zr C m sp Dk E ta MR):=by
 intro pins s σ H Q I h
 refine PySem.W.methodCall_KW (pl:=pl) (bj (he pins s σ H _ I h) λu s1 Cc=>?_) ht
 obtain⟨x,H1,I1,rx,a,dx,fs,ex,ea,l,q⟩:=Cc
 subst ex
 obtain rfl:u=Value.ref a:=rx
 refine kO I1 ea c hm l ?_
 exact PySem.W.callWith_K0 (first:=[.ref a]) I1.DJ hm.kp (mK (us:=[.ref a]) (vs:=[.ref a]) F hr hb hd hx I1 (.cons rfl .nil) q)
structure Mk(K:Frag)(C f:Addr):Prop where
 makes:makesIn K C=true
 init:findIn K (.ref C) "__init__" = some (some (.ref f))
 fn:isFn K (.ref f)=true
 kp:keepIn K (.ref C)=true
theorem v5{σ:St}(M:Mk X.K C f)(F:BY X.prog X.w X.K X.mg X.base CX k f fd ps sp)(hr:Cj (k + 1) X.A)(hb:Binds X.K fd ps ds)(hd:Vals Dk ds)
  (hx:gj CX X E) (I:Inv X pins σ H s) (r:Vals vs us)
  (h:∀x dx,H x=none->H dx=none->dx ≠ x->sp (.ref x :: (vs ++ Dk)) (upd (upd H dx (.own x)) x (.ins C dx [])) (λv H2=>v = .Cp/\Q (.ref x) H2) E) :
  wpAny (model X.prog X.w) X.A (call (.ref C) us) (EP X pins σ Q) X.xe s:=by
 have hq:=h (s.heap.objs.size + 1) s.heap.objs.size (I.Ci.fresh (le_succ _)) (I.Ci.fresh (le_refl _)) (ne_of_lt (lt_succ_self _))
 have I2:=Inv.made (C:=C) I
 have r2:Vals (V.ref (s.heap.objs.size + 1) :: (vs ++ Dk)) (Value.ref (s.heap.objs.size + 1) :: (us ++ ds)) := .cons rfl (r.append hd)
 have hl:(Value.ref (s.heap.objs.size + 1) :: us ++ ds).length=ps.length:=by
  have e:=r2.length
  rw[F.len _ _ _ _ hq]at e
  exact e.symm
 refine wpAny_call (wF (f:=f) I.DJ M.makes M.init (beq_iff_eq.mp M.fn) (codeAny_mono (F.run _ X.stack _ _ ⟨Value.ref (s.heap.objs.size + 1) :: us,[]⟩ (Value.ref (s.heap.objs.size + 1) :: (us ++ ds)) _ _ E (hr.make C us [])
  (I2.MU.make C us []) (hb _ (Value.ref (s.heap.objs.size + 1) :: us) I2.DJ hl) r2 hq) λr s' Eh=>?_))
 cases r with
 | error e=>exact hx pins σ _ _ e s' I2 Eh
 | ok fl =>
  cases fl with
  | ret u =>
   obtain⟨v,H',I3,rv,ev,q3⟩:=I2.after Eh
   subst ev
   exact⟨rv,⟨V.ref (s.heap.objs.size + 1),H',I3,rfl,q3⟩⟩
  | next=>exact False.elim Eh
  | brk=>exact False.elim Eh
  | cont=>exact False.elim Eh
theorem c8(M:Mk X.K C f)(F:BY X.prog X.w X.K X.mg X.base CX k f fd ps sp)(hr:Cj (k + 1) X.A)(hg:Gl X x)(hm:X.mg x=some (.ref C))(hb:Binds X.K fd ps ds)(hd:Vals Dk ds)(hx:gj CX X E)
  (ha:PA X (e :: es) t) (Ke:autoParam ((x == ("__debug__":Str))=false) θ) (he:autoParam (starEach (e :: es) X.env=(false,eval e X.env) :: starEach es X.env) η) (Df:autoParam ((backTo pos (starEach es X.env)).any (·.1)=false) η) :
  PE X (.Call (.Name x p) (e :: es) [] pos) (MW C sp Dk E t):=by
 intro pins s σ H Q I h
 refine wpAny_Call_Name_kw (nh I hg hm ?_ Ke)
 refine PySem.W.callWith_K (h₀:=X.base) I.ok.mod.HQ M.kp (bj (ha pos pins s σ H _ I h) λus s1 ⟨vs,H1,I1,r,q⟩=>⟨I1.DJ,?_⟩) he Df
 exact v5 M F hr hb hd hx I1 r q
end
section
end
structure au(N P:List Str)(sc:Scope):Prop where
 kind:sc.kind = .function
 co:sc.isCoroutine=false
 gen:sc.isGenerator=false
 nd:N.Nodup
 pre:N.take P.length=P
 par:∀x ∈ P,sc.names.lookup x=some .local∨sc.names.lookup x=some .cell
 Kf:∀y ∈ sc.names,y.2 ≠ .free
theorem lR{kindOf:Str->Option NameKind}:∀{binds:List (Str × Value)}{m:Str->Option Value},(∀v,(x,v) ∉ binds)->bindL kindOf binds m x=m x
 | [],_,_=>rfl
 | (n,v) :: r,m,h=>by
  unfold bindL
  rw[lR λw hw=>h w (mem_cons_of_mem _ hw)]
  split
  ·have:x ≠ n:=by rintro rfl;exact h v mem_cons_self
   simp[this]
  ·rfl
theorem lT{kindOf:Str->Option NameKind}:∀{binds:List (Str × Value)}{m:Str->Option Value},(∀v,(x,v) ∉ binds)->bindC kindOf binds m x=m x
 | [],_,_=>rfl
 | (n,v) :: r,m,h=>by
  unfold bindC
  rw[lT λw hw=>h w (mem_cons_of_mem _ hw)]
  split
  ·rfl
  ·have:x ≠ n:=by rintro rfl;exact h v mem_cons_self
   simp[this]
theorem lS{kindOf:Str->Option NameKind}:∀{P:List Str}{vs:List Value}{i:Nat}{m:Str->Option Value},P.Nodup->P[i]? = some x->vs[i]? = some v->kindOf x=some .local ->
  bindL kindOf (P.zip vs) m x=some v
 | [],_,_,_,_,h,_,_=>by simp at h
 | _ :: _,[],_,_,_,_,h,_=>by simp at h
 | p :: P,w :: vs,0,m,nd,h1,h2,hk=>by
  simp at h1 h2;subst h1;subst h2
  show bindL kindOf ((p,w) :: P.zip vs) m p=_
  unfold bindL
  rw[lR λv hv=>(nodup_cons.mp nd).1 (of_mem_zip hv).1,if_pos hk]
  simp
 | p :: P,w :: vs,i + 1,m,nd,h1,h2,hk=>by
  show bindL kindOf ((p,w) :: P.zip vs) m x=_
  unfold bindL
  exact lS (i:=i) (nodup_cons.mp nd).2 (by simpa using h1) (by simpa using h2) hk
theorem lU{kindOf:Str->Option NameKind}:∀{P:List Str}{vs:List Value}{i:Nat}{m:Str->Option Value},P.Nodup->P[i]? = some x->vs[i]? = some v->kindOf x ≠ some .local ->
  bindC kindOf (P.zip vs) m x=some v
 | [],_,_,_,_,h,_,_=>by simp at h
 | _ :: _,[],_,_,_,_,h,_=>by simp at h
 | p :: P,w :: vs,0,m,nd,h1,h2,hk=>by
  simp at h1 h2;subst h1;subst h2
  show bindC kindOf ((p,w) :: P.zip vs) m p=_
  unfold bindC
  rw[lT λv hv=>(nodup_cons.mp nd).1 (of_mem_zip hv).1,if_neg hk]
  simp
 | p :: P,w :: vs,i + 1,m,nd,h1,h2,hk=>by
  show bindC kindOf ((p,w) :: P.zip vs) m x=_
  unfold bindC
  exact lU (i:=i) (nodup_cons.mp nd).2 (by simpa using h1) (by simpa using h2) hk
noncomputable def start(N:List Str)(vs:List V):St:=vs.map some ++ List.replicate (N.length - vs.length) none
noncomputable def qU(CX:sL)(P:Program)(w:World)(K:Frag)(mg:Str->Option Value)(base:Heap)(N:List Str)(qual:Str)(scope:Scope)(f:Addr)(cd:Value)(A:Around)(outer:List Env)(s:Shared)(H:Hp)(E:XK):Cx where
 prog:=P
 w:=w
 K:=K
 mg:=mg
 base:=base
 A:=A.deeper (envOfC qual scope s.heap.objs.size f cd)
 N:=N
 s₀:=s
 H₀:=H
 env:=envOfC qual scope s.heap.objs.size f cd
 outer:=outer
 stack:=envOfC qual scope s.heap.objs.size f cd :: outer
 ex:=[]
 calm:=true
 fn:=λ_=>true
 pn:=[]
 xe:=λe s'=>wpAny (model P w) (A.deeper (envOfC qual scope s.heap.objs.size f cd)) (leaving (envOfC qual scope s.heap.objs.size f cd) e) (λ_ MX=>CX outer H s E e MX) (λe' MX=>CX outer H s E e' MX) s'
theorem p6{sc:Scope}(h:sc.names.lookup x=some .cell):∃c,(cellsFrom n sc.names []).lookup x=some c:=by
 have q:=PySem.W.cellsFrom_some sc.names n [] (.inl h)
 exact Option.isSome_iff_exists.mp q
theorem tV{K:Frag}
  (S:au N ps scope) (hd:A.handled=none) (e0:F5 P w K mg base A outer s H) (hl:vs.length=ps.length) (r:Vals vs us)
  (x:InCallC s s.heap.objs.size (bindL (envOfC qual scope s.heap.objs.size f cd).kindOf (ps.zip us) λ_=>none) (cellsFrom (s.heap.objs.size + 1) scope.names []) (bindC (envOfC qual scope s.heap.objs.size f cd).kindOf (ps.zip us) λ_=>none) s1) :
  Inv (qU CX P w K mg base N qual scope f cd A outer s H E) [] (start N vs) H s1:=by
 have Df:ps.length <= N.length:=by have:=congrArg List.length S.pre;rw[length_take]at this;omega
 obtain⟨h1,tk,rfl,hk⟩:=x.done
 have MY:∀b:Addr,b ∉ (qU CX P w K mg base N qual scope f cd A outer s H E).ex:=λb z=>absurd (show b ∈ ([]:List Addr) from z) (by simp)
 refine⟨⟨e0.mod,S.kind,rfl,rfl,le_refl _,λy z c h1 h2=>?_,λy hy=>?_,λy c _ h=>?_,λ_=>hd,Around.frames_deeper e0.frames, .inr ⟨rfl,rfl⟩,λb z=>absurd z (MY b),e0.bs,e0.Ij,λb _ _=>MY b,λb z=>absurd z (MY b),e0.DU,e0.Kb⟩,
  rfl,e0.bare,Un.kept hk,⟨_,x.toInCall.ns,λi y v h1 h2 h3=>?_⟩,λy c h=>⟨_,x.cell y c h⟩,e0.Ci.fresh (le_refl _),λy c h=>?_,λp hp=>absurd (show p ∈ ([]:List (Addr × Obj)) from hp) (by simp),e0.Ci.kept hk,?_⟩
 ·exact name_of_addr x.apart (PySem.mem_of_lookup h1) (PySem.mem_of_lookup h2)
 ·have hy:scope.names.lookup y=some .cell∨scope.names.lookup y=some .free:=hy
  rcases hy with hy | hy
  ·exact p6 hy
  ·exact absurd rfl (S.Kf _ (PySem.mem_of_lookup hy))
 ·exact le_of_lt (x.above y c (PySem.mem_of_lookup h))
 ·have hi:i < vs.length:=by
   unfold start at h2
   by_cases hi:i < vs.length
   ·exact hi
   ·rw[getElem?_append_right (by simpa using hi)]at h2
    rw[List.getElem?_replicate]at h2
    split at h2<;>cases h2
  have ha:vs[i]? = some v:=by
   unfold start at h2
   rw[getElem?_append_left (by simpa using hi),getElem?_map]at h2
   cases e:vs[i]? with
   | none=>rw[e]at h2;cases h2
   | some a=>rw[e]at h2;cases h2;rfl
  obtain⟨u,hu,rv⟩:=r.get ha
  have hp:ps[i]? = some y:=by
   rw[←S.pre,List.getElem?_take_of_lt (by omega)];exact h1
  have Ym:ps.Nodup:=by rw[←S.pre];exact S.nd.sublist (List.take_sublist _ _)
  refine⟨u,rv,?_⟩
  rcases S.par y (mem_of_getElem? hp) with k | k
  ·exact .inl ⟨k,lS Ym hp hu k⟩
  ·obtain⟨c,e⟩:=p6 (n:=s.heap.objs.size + 1) k
   refine .inr ⟨.inl k,c,e,?_⟩
   have q:=x.cell y c e
   rw[lU Ym hp hu (by show scope.names.lookup y ≠ _;rw[k];decide)]at q
   exact q
 ·exact e0.Ci.fresh (le_of_lt (x.above y c (PySem.mem_of_lookup h)))
 ·unfold start
  show _=N.length
  rw[length_append,length_map,length_replicate]
  omega
theorem zP{K:Frag}{dV kV doc pm cdv ct oc:Value}
  (lk:K.lookup f=some ⟨oc,od, .func (fnOf name qual params body scope dV kV doc pm an cdv ct),FL⟩) (Fx:codeIn K cdv qual=true) (S:au N ps scope)
  (len:∀vs H Q E,sp vs H Q E->vs.length=ps.length)
  (Fg:∀(A:Around)(outer:List Env)(s:Shared)(H:Hp)(vs:List V)(Q:VK)(E:XK),Cj k (A.deeper (envOfC qual scope s.heap.objs.size f cdv))->sp vs H Q E ->
   ∃t,Ey (qU CX P w K mg base N qual scope f cdv A outer s H E) body t/\t { nx:=λ_ H'=>Q .Cp H',rt:=Q } (start N vs) H) :
  BY P w K mg base CX (k + 1) f (fnOf name qual params body scope dV kV doc pm an cdv ct) ps sp:=by
 refine⟨len,λA outer s H args us vs Q E hr e0 hb r HR=>?_⟩
 have hl:=len _ _ _ _ HR
 have KX:K.In s.heap:=e0.mod.HQ.keeps λb o e=>(e0.bs b o e).1
 have lim:s.heap.NoLimit:=e0.mod.nolimit.keeps λb o e=>(e0.bs b o e).1
 have MZ:∀y ∈ ps.zip us,scope.names.lookup y.1=some .local∨(scope.names.lookup y.1=some .cell/\((cellsFrom (s.heap.objs.size + 1) scope.names []).lookup y.1).isSome=true):=fun⟨n,v⟩ hy=>by
  rcases S.par n (of_mem_zip hy).1 with q | q
  ·exact .inl q
  ·exact .inr ⟨q,PySem.W.cellsFrom_some _ _ _ (.inl q)⟩
 refine codeAny_call_function hr.depth (KX _ _ lk) rfl S.co S.gen rfl (PySem.W.codeRec_of KX Fx) (hb _ _ _ _ ?_)
 refine wpAny_newFunctionEnv_cells S.kind MZ λenv he s1 x=>?_
 subst he
 refine⟨lim.keeps x.toInCall.keep,codeAny_func ?_⟩
 obtain⟨t,ht,hq⟩:=Fg A outer s H vs Q E (hr.deeper _) HR
 have I:Inv (qU CX P w K mg base N qual scope f cdv A outer s H E) [] (start N vs) H s1:=tV S hr.hd e0 hl r x
 refine wpAny_mono (ht [] s1 (start N vs) H _ I hq) (λfl s' hs=>?_) λe s' hs=>hs
 have fin:∀{σ':St}{H':Hp}{v:V}{u:Value},Inv (qU CX P w K mg base N qual scope f cdv A outer s H E) [] σ' H' s'->RelV v u->Q v H'->CE outer P w H s Q u s' :=
  λ{σ' H' v u} J rv q=>⟨v,H',J.os,J.bare,J.base,J.Ci,rv,q⟩
 cases fl with
 | ret u =>
  obtain⟨v,σ',H',J,rv,q⟩:=hs
  exact fin J rv q
 | next =>
  obtain⟨σ',H',J,q⟩:=hs
  exact fin (v:=V.Cp) (u:=Value.none) J rfl q
 | brk =>
  obtain⟨_,_,_,q⟩:=hs
  exact False.elim q
 | cont =>
  obtain⟨_,_,_,q⟩:=hs
  exact False.elim q
section
variable {X:Cx}{x:Str}{p pos:Pos}{e:Expr}{es:List Expr}{t:TA}{id T:String}{r:List V->Hp->VK->Prop}
def Yn(r:List V->Hp->VK->Prop)(t:TA):TE:=λσ H Q=>t σ H λvs H1=>r vs H1 Q
theorem aE(hc:CA X (.builtin id) r)(hg:Gl X x)(hm:X.mg x=none)(hv:bootBuiltins x=some (.builtin id))(ha:PA X (e :: es) t)(hn:autoParam (x ≠ "__name__") θ)(Ke:autoParam ((x == ("__debug__":Str))=false) θ)
  (he:autoParam (starEach (e :: es) X.env=(false,eval e X.env) :: starEach es X.env) η) (Df:autoParam ((backTo pos (starEach es X.env)).any (·.1)=false) η):PE X (.Call (.Name x p) (e :: es) [] pos) (Yn r t):=by
 intro pins s σ H Q I h
 refine wpAny_Call_Name_kw (gZ I hg hm hv ?_ hn Ke)
 exact PyProof.Rows.callWith_builtin1 (bj (ha pos pins s σ H _ I h) λus s1 Cc=>by obtain⟨vs,H1,I1,r1,q1⟩:=Cc;exact hc pins s1 σ H1 vs us Q I1 r1 q1) he Df
theorem bI(hc:CA X (.type T) r)(hg:Gl X x)(hm:X.mg x=none)(hv:bootBuiltins x=some (.type T))(ha:PA X (e :: es) t)(hn:autoParam (x ≠ "__name__") θ)(Ke:autoParam ((x == ("__debug__":Str))=false) θ)
  (he:autoParam (starEach (e :: es) X.env=(false,eval e X.env) :: starEach es X.env) η) (Df:autoParam ((backTo pos (starEach es X.env)).any (·.1)=false) η):PE X (.Call (.Name x p) (e :: es) [] pos) (Yn r t):=by
 intro pins s σ H Q I h
 refine wpAny_Call_Name_kw (gZ I hg hm hv ?_ hn Ke)
 exact PyProof.Rows.callWith_type1 (bj (ha pos pins s σ H _ I h) λus s1 Cc=>by obtain⟨vs,H1,I1,r1,q1⟩:=Cc;exact hc pins s1 σ H1 vs us Q I1 r1 q1) he Df
end
end L2
namespace HT
open PySem PyProof.Rows
section
open PySem.SeqAt
open PySem.AutoSeq1 (wpAny_loadPart')
open PySem.MeetsSeq PySem.MeetsSeq2 PySem.MeetsSeq3
end
section
theorem Il(ht:IsTup s.heap t vs.toArray)(hb:IsTup s.heap b ws.toArray)(hv:vs ≠ [])
  (h1:ws=[]->Q (.ref t) s) (h2:ws ≠ []->Q (.ref s.heap.objs.size) { s with heap:=s.heap.push { cls := .type "tuple",data := .seq (vs ++ ws).toArray } })
  (hsz:vs.length + ws.length <= sizeLine):wpAny (model prog w) A (binaryOp .Add (.ref t) (.ref b)) Q E s:=by
 obtain⟨⟨cls,dd,data,sl⟩,ho,hc,n,hd⟩:=id ht
 obtain⟨⟨Ta,QM,data2,QN⟩,D5,Fi,n2,hd2⟩:=id hb
 simp only at hc hd Fi hd2
 subst hc hd Fi hd2
 have e:vs.toArray ++ ws.toArray=(vs ++ ws).toArray:=by simp
 by_cases hw:ws=[]
 ·exact concat_meets ⟨_,ho,rfl⟩ ⟨_,D5,rfl⟩ noFill_tuple_add seq_tuple_add slot_tuple_add entry_tuple_add (args_tuple_add_2 _ _)
   (tuple_addW1 t b vs.toArray ws.toArray n n2 dd QM sl QN (by simpa using hv) (by simp[hw])) ⟨ho,D5,h1 hw⟩
 ·refine concat_meets ⟨_,ho,rfl⟩ ⟨_,D5,rfl⟩ noFill_tuple_add seq_tuple_add slot_tuple_add entry_tuple_add (args_tuple_add_2 _ _)
   (tuple_addW2 t b vs.toArray ws.toArray n n2 dd QM sl QN (by simpa using hv) (by simpa using hw) (by rw[size_toArray,size_toArray];exact hsz)) ⟨ho,D5,?_⟩
  rw[e]
  exact h2 hw
noncomputable def DO(n d:Nat):Option Int->Nat
 | none=>d
 | some v=>if v < 0 then (v + (n:Int)).toNat else min v.toNat n
theorem Fj(n d:Nat):DO n d none=d:=rfl
theorem DE(n d k:Nat):DO n d (some (k:Int))=min k n:=by
 show(if (k:Int) < 0 then ((k:Int) + (n:Int)).toNat else min (k:Int).toNat n)=min k n
 rw[if_neg (by omega),toNat_natCast]
end
end HT
namespace L2
open PySem PySem.Spec PyProof.Rows
abbrev TO:=St->Hp->(Option Int->Hp->Prop)->Prop
def PO(X:Cx)(e:Option Expr)(t:TO):Prop :=
 ∀(pins:List (Addr × Obj))(s:Shared)(σ:St)(H:Hp)(Q:Option Int->Hp->Prop),Inv X pins σ H s->t σ H Q ->
  wpAny (model X.prog X.w) X.A (evalPart e X.env) (λu s'=>∃o H',Inv X pins σ H' s'/\IsPart u o/\Q o H') X.xe s
def xI:TO:=λ_ H Q=>Q none H
def Na(t:TE):TO:=λσ H Q=>t σ H λx H1=>∃i,x = .int i/\Q (some i) H1
theorem qP :∀{us:List Value},Vals (ns.map V.int) us->IntsAre us ns:=by
 induction ns with
 | nil=>intro us r;rw[map_nil]at r;cases r;exact .nil
 | cons n ns ih =>
  intro us r
  rw[map_cons]at r
  cases r with
  | cons r1 r2 =>
   obtain⟨t,e⟩:=r1
   subst e
   exact .cons n t (ih r2)
section
variable {X:Cx}{e:Expr}{te:TE}{lo hi:Option Expr}{tl th:TO}{pos p2:Pos}
theorem cW:PO X none xI:=by
 intro pins s σ H Q I h
 rw[evalPart_none]
 exact wpAny_pure ⟨none,H,I, .none,h⟩
theorem c3(h:PE X e te):PO X (some e) (Na te):=by
 intro pins s σ H Q I hw
 rw[evalPart_some]
 refine bj (h pins s σ H _ I hw) λu s1 Cc=>?_
 obtain⟨x,H1,I1,r1,q1⟩:=Cc
 obtain⟨i,rfl,q⟩:=q1
 obtain⟨t,rfl⟩:=r1
 exact⟨some i,H1,I1, .int i t,q⟩
def QO(X:Cx)(r:V->Option Int->Option Int->Hp->VK->Prop):Prop :=
 ∀(pins:List (Addr × Obj))(s:Shared)(σ:St)(H:Hp)(x:V)(v vl vu:Value)(lo hi:Option Int)(sl:Addr)(Q:VK),Inv X pins σ H s->RelV x v->s.heap.IsSliceOf sl vl vu .none->IsPart vl lo->IsPart vu hi->r x lo hi H Q ->
  ∃T id,typeLookup (.type T) "__getitem__" = pure (some (.builtin id))/\s.TypeIs v T/\wpAny (model X.prog X.w) X.A (getItem v (.ref sl)) (EP X pins σ Q) X.xe s
def tSl(r:V->Option Int->Option Int->Hp->VK->Prop)(te:TE)(tl th:TO):TE:=λσ H Q=>te σ H λx H1=>tl σ H1 λl H2=>th σ H2 λu H3=>r x l u H3 Q
theorem cb(hr:QO X r)(he:PE X e te)(hl:PO X lo tl)(hu:PO X hi th):PE X (.Subscript e (.Slice lo hi none p2) pos) (tSl r te tl th):=by
 intro pins s σ H Q I h
 refine Subscript_ (bj (he pins s σ H _ I h) λv s1 Cc=>?_)
 obtain⟨x,H1,I1,r1,q1⟩:=Cc
 refine wpAny_Slice (bj (hl pins s1 σ H1 _ I1 q1) λvl s2 ⟨l,H2,I2,pl,q2⟩=>bj (hu pins s2 σ H2 _ I2 q2) λvu s3 Cc=>?_)
 obtain⟨u,H3,I3,pu,q3⟩:=Cc
 rw[evalPart_none]
 refine wpAny_pure ?_
 have I4:Inv X pins σ H3 { s3 with heap:=s3.heap.push { cls := .type "slice",data := .fields #[vl,vu, .none] } }:=I3.kept (t':=s3.toks) λb ob q=>Heap.get?_push_of_some _ q
 obtain⟨T,id,hT,ht,hg⟩:=hr pins { s3 with heap:=s3.heap.push { cls := .type "slice",data := .fields #[vl,vu, .none] } } σ H3 x v vl vu l u s3.heap.objs.size Q I4 r1 (Heap.IsSliceOf.new ..) pl pu q3
 show wpAny (model X.prog X.w) X.A (subscriptTail e (.Slice lo hi none p2) v (.ref s3.heap.objs.size)) (EP X pins σ Q) X.xe { s3 with heap:=s3.heap.push { cls := .type "slice",data := .fields #[vl,vu, .none] } }
 exact tail_any (ops:=[.ref s3.heap.objs.size,v]) ht hT hg (by with_unfolding_all rfl)
noncomputable def eK(xs:List V)(lo hi:Option Int):List V:=(xs.drop (HT.DO xs.length 0 lo)).take (HT.DO xs.length xs.length hi - HT.DO xs.length 0 lo)
theorem pk(xs:List V)(lo hi:Option Int):(eK xs lo hi).length <= xs.length:=by
 unfold eK
 rw[length_take,length_drop]
 omega
def Nb(K:Frag):R2:=λx y H Q=>∃a b xs ys,x = .ref a/\y = .ref b/\Ck K H a xs/\Ck K H b ys/\xs ≠ []/\xs.length + ys.length <= sizeLine /\
 (ys=[]->Q (.ref a) H)/\(ys ≠ []->∀p,H p=none->Q (.ref p) (upd H p (.tup (xs ++ ys))))
theorem Vals.Ea(r:Vals xs us):us=[]↔xs=[]:=by
 cases r with
 | nil=>simp
 | cons _ _=>simp
theorem rQ:eW X (binaryOp .Add) (Nb X.K):=by
 intro pins s σ H x y v u Q I rx ry h
 obtain⟨a,b,xs,ys,rfl,rfl,ha,hb,hx,hz,q1,q2⟩:=h
 cases rx
 cases ry
 obtain⟨Cd,r1,p1,_⟩:=I.tuple ha
 obtain⟨E3,r2,p2,_⟩:=I.tuple hb
 refine HT.Il p1 p2 (λz=>hx (r1.Ea.mp z)) (λz=>⟨.ref a,H,I,rfl,q1 (r2.Ea.mp z)⟩) (λz=>?_) (by rw[←r1.length,←r2.length];exact hz)
 refine⟨.ref s.heap.objs.size,_,I.laid (t':=s.toks) (o := .tup (xs ++ ys)) (λb ob q=>Heap.get?_push_of_some _ q) (le_refl _) ?_,rfl,q2 (λw=>z (r2.Ea.mpr w)) _ (I.Ci.fresh (le_refl _))⟩
 exact⟨by rw[length_append];exact hz,_,r1.append r2,Dm.new _ _⟩
end
noncomputable def wN(n:Nat)(i:Int):Option Nat:=if 0 <= i then (if i < n then some i.toNat else none) else if -(n:Int) <= i then some (i + n).toNat else none
noncomputable def xw{α:Type}(xs:List α)(i:Int):Option α:=(wN xs.length i).bind λj=>xs[j]?
theorem sg(h:wN n i=some j):seqIndex? i n=some j/\j < n/\-(n:Int) <= i/\i < n:=by
 unfold wN at h
 by_cases h0:0 <= i
 ·rw[if_pos h0]at h
  by_cases h1:i < n
  ·rw[if_pos h1]at h
   have e:i.toNat=j:=Option.some.inj h
   exact⟨by rw[seqIndex_of h0 h1,e],by omega,by omega,h1⟩
  ·rw[if_neg h1]at h;cases h
 ·rw[if_neg h0]at h
  by_cases h1:-(n:Int) <= i
  ·rw[if_pos h1]at h
   have e:(i + n).toNat=j:=Option.some.inj h
   exact⟨by rw[seqIndex_neg (by omega) h1,e],by omega,h1,by omega⟩
  ·rw[if_neg h1]at h;cases h
theorem sI(h:xw xs i=some v):∃j,seqIndex? i xs.length=some j/\xs[j]? = some v/\j < xs.length/\-(xs.length:Int) <= i/\i < xs.length:=by
 unfold xw at h
 cases e:wN xs.length i with
 | none=>rw[e]at h;cases h
 | some j =>
  rw[e]at h
  obtain⟨h1,h2,h3,h4⟩:=sg e
  exact⟨j,h1,h,h2,h3,h4⟩
theorem ao{j:Nat}{v:α}(h:xs[j]? = some v):xw xs (j:Int)=some v:=by
 have hj:j < xs.length:=(gQ0 h)
 have e:wN xs.length (j:Int)=some j:=by
  unfold wN
  rw[if_pos (by omega),if_pos (by omega)];simp
 unfold xw;rw[e];exact h
theorem xn(xs:List α)(v:α):xw (xs ++ [v]) (-1)=some v:=by
 have hl:(xs ++ [v]).length=xs.length + 1:=by simp
 have e:wN (xs ++ [v]).length (-1)=some xs.length:=by
  unfold wN
  rw[hl,if_neg (by decide),if_pos (by omega)]
  congr 1
  omega
 unfold xw
 rw[e]
 show(xs ++ [v])[xs.length]? = some v
 simp
def zk(b:Expr):Prop:=∀o i,subscripted b false o i=operate [o,i] (getItem o i)
def lp(X:Cx)(r:R2):Prop :=
 ∀(value slice:Expr)(pins:List (Addr × Obj))(s:Shared)(σ:St)(H:Hp)(x y:V)(v u:Value)(Q:VK),Inv X pins σ H s->RelV x v->RelV y u->r x y H Q ->
  subscripted slice false v u=operate [v,u] (getItem v u)->wpAny (model X.prog X.w) X.A (subscriptTail value slice v u) (EP X pins σ Q) X.xe s
def QP(X:Cx)(id:String)(r:V->List V->Hp->VK->Prop):Prop :=
 ∀(pins:List (Addr × Obj))(s:Shared)(σ:St)(H:Hp)(x:V)(xs:List V)(v:Value)(us:List Value)(Q:VK),Inv X pins σ H s->RelV x v->Vals xs us->r x xs H Q ->
  wpAny (model X.prog X.w) X.A (call (.builtin id) (v :: us)) (EP X pins σ Q) X.xe s
section
theorem az(hr:lp X r)(ha:PE X a ta)(hb:PE X b tb)(hs:zk b):PE X (.Subscript a b pos) (QL r ta tb):=by
 intro pins s σ H Q I h
 exact Subscript_ (BK ha hb I h λv u s2 x y H2 I2 rx ry q=>hr a b pins s2 σ H2 x y v u Q I2 rx ry q (hs _ _))
def mP(K:Frag):R2:=λx y H Q=>∃p xs i v,x = .ref p/\y = .int i/\Cb K H p xs/\xw xs i=some v/\Q v H
def k4(K:Frag):R2:=λx y H Q=>∃p xs i v,x = .ref p/\y = .int i/\Ck K H p xs/\xw xs i=some v/\Q v H
theorem aK:lp X (mP X.K):=by
 intro value slice pins s σ H x y v u Q I rx ry h hs
 obtain⟨p,xs,i,z,rfl,rfl,hq,he,q⟩:=h
 cases rx
 obtain⟨t,rfl⟩:=ry
 obtain⟨Cd,r,pl,hz⟩:=I.list hq
 obtain⟨j,h1,h2,h3,h4,h5⟩:=sI he
 obtain⟨w,ew,Fl⟩:=r.get h2
 have hl:=r.length
 have hn:=iY
 have fin:EP X pins σ Q w s:=⟨z,H,I,Fl,q⟩
 by_cases h0:0 <= i
 ·have hj:i.toNat=j:=by
   rw[seqIndex_of h0 h5]at h1
   exact Option.some.inj h1
  exact item_listR pl.isList h0 (by omega) (by rw[hj];simpa using ew) fin hs
 ·have hj:(i + (Cd.toArray.size:Int)).toNat=j:=by
   rw[seqIndex_neg (by omega) h4]at h1
   rw[size_toArray,←hl]
   exact Option.some.inj h1
  exact subscriptTail_builtinR (x:=w) pl.isList.typeIs slot_list_getitem.lookup
   (wpAny_getItem_list_neg (Q:=λr s'=>r=w/\EP X pins σ Q r s') pl.isList (by omega) (by rw[size_toArray]<;>omega) (by omega) (by rw[hj];simpa using ew) ⟨rfl,fin⟩) hs
theorem aG:lp X (k4 X.K):=by
 intro value slice pins s σ H x y v u Q I rx ry h hs
 obtain⟨p,xs,i,z,rfl,rfl,hq,he,q⟩:=h
 cases rx
 obtain⟨t,rfl⟩:=ry
 obtain⟨Cd,r,pl,hz⟩:=I.tuple hq
 obtain⟨j,h1,h2,h3,h4,h5⟩:=sI he
 obtain⟨w,ew,Fl⟩:=r.get h2
 have hl:=r.length
 have hn:=iY
 have fin:EP X pins σ Q w s:=⟨z,H,I,Fl,q⟩
 exact subscriptTail_builtinR (x:=w) pl.typeIs slot_tuple_getitem.lookup
  (getItem_tuple (j:=j) (Q:=λr s'=>r=w/\EP X pins σ Q r s') pl (by omega) (by omega) (by rw[size_toArray,←hl];exact h1) (by simpa using ew) ⟨rfl,fin⟩) hs
theorem qG(Cd:List Value)(n j:Nat)(u:Value):Obj.mapSeq (·.setIfInBounds j u) { cls := .type "list",data := .seq Cd.toArray n } = { cls := .type "list",data := .seq (Cd.set j u).toArray n }:=by
 simp[Obj.mapSeq]
theorem Inv.lst{σ:St}{H:Hp}{s:Shared}{p:Addr}{xs:List V}(I:Inv X pins σ H s)(h:H p=some (.lst xs)) :
  ∃(Cd:List Value)(n:Nat),Vals xs Cd/\s.heap.get? p=some { cls := .type "list",data := .seq Cd.toArray n }/\xs.length <= sizeLine:=by
 obtain⟨z,Cd,n,r,e⟩:=I.Ci p _ h
 exact⟨Cd,n,r,e,z⟩
theorem Inv.Kg{σ:St}{Cd its':List Value}(I:Inv X pins σ H s)(h:H p=some (.lst xs))
  (ho:s.heap.get? p=some { cls := .type "list",data := .seq Cd.toArray n }) (hf:f { cls := .type "list",data := .seq Cd.toArray n } = { cls := .type "list",data := .seq its'.toArray n' }) (r:Vals ys its') (hz:ys.length <= sizeLine) (t:Nat) :
  Inv X pins σ (upd H p (.lst ys)) { s with heap:=s.heap.update p f,toks:=t }:=by
 have e:(s.heap.update p f).get? p=some { cls := .type "list",data := .seq its'.toArray n' }:=by
  rw[Heap.get?_update_self f ho (by rw[hf]<;>rfl),hf]
 refine I.write (x:=p) (e:=p) (by rw[h];trivial) (.inl rfl) (λb u hb q=>(Heap.get?_update_other _ _ (Ne.symm hb)).trans q) ⟨_,e⟩ ?_
 exact⟨hz,its',n',r,e⟩
def Nc:V->V->V->Hp->(Hp->Prop)->Prop:=λo i v H Q=>∃p xs k j,o = .ref p/\i = .int k/\H p=some (.lst xs)/\wN xs.length k=some j/\Q (upd H p (.lst (xs.set j v)))
theorem jU:MF X Nc:=by
 intro pins s σ H o i v ov iv u Q I ro ri rv h
 obtain⟨p,xs,k,j,rfl,rfl,hp,hj,q⟩:=h
 cases ro
 obtain⟨t,rfl⟩:=ri
 obtain⟨Cd,n,r,ho,hz⟩:=I.lst hp
 obtain⟨h1,h2,h3,h4⟩:=sg hj
 have hl:=r.length
 have hn:=iY
 have I':Inv X pins σ (upd H p (.lst (xs.set j v))) { s with heap:=s.heap.update p (Obj.mapSeq (·.setIfInBounds j u)) } :=
  I.Kg hp ho (qG Cd n j u) (r.set rv j) (by rw[length_set];exact hz) s.toks
 by_cases h0:0 <= k
 ·have hk:k.toNat=j:=by
   rw[seqIndex_of h0 h4]at h1
   exact Option.some.inj h1
  exact PySem.W.ki_setAt ho h0 (by omega) (by rw[size_toArray,←hl];exact h4) (by rw[hk];exact⟨_,I',q⟩)
 ·have hk:(k + (Cd.toArray.size:Int)).toNat=j:=by
   rw[seqIndex_neg (by omega) h3]at h1
   rw[size_toArray,←hl]
   exact Option.some.inj h1
  exact PySem.W.ki_setBack ho (by omega) (by rw[size_toArray,←hl];exact h3) (by omega) (by rw[hk];exact⟨_,I',q⟩)
theorem mE(lo hi:Option Int)(n:Nat):(sliceBounds lo hi none n).1=((HT.DO n 0 lo:Nat):Int)/\(sliceBounds lo hi none n).2.1=((HT.DO n n hi:Nat):Int)/\(sliceBounds lo hi none n).2.2=1:=by
 refine⟨?_,?_,rfl⟩
 ·cases lo with
  | none=>simp[sliceBounds,HT.DO]
  | some i =>
   simp only[sliceBounds,HT.DO,Option.getD_none,show (1:Int) > 0 by decide,if_true]
   by_cases h:i < 0
   ·simp only[h,if_true]<;>omega
   ·simp only[h,if_false]<;>omega
 ·cases hi with
  | none=>simp[sliceBounds,HT.DO]
  | some i =>
   simp only[sliceBounds,HT.DO,Option.getD_none,show (1:Int) > 0 by decide,if_true]
   by_cases h:i < 0
   ·simp only[h,if_true]<;>omega
   ·simp only[h,if_false]<;>omega
theorem lf(Cd:List Value)(lo hi:Option Int):slicePick Cd.toArray lo hi none=((Cd.drop (HT.DO Cd.length 0 lo)).take (HT.DO Cd.length Cd.length hi - HT.DO Cd.length 0 lo)).toArray:=by
 obtain⟨h1,h2,h3⟩:=mE lo hi Cd.toArray.size
 unfold slicePick
 rw[h1,h2,h3]
 simp only[sliceRange_one,pick_run,size_toArray]<;>rfl
def Nd(K:Frag):V->Option Int->Option Int->Hp->VK->Prop:=λx lo hi H Q=>∃a xs,x = .ref a/\Cb K H a xs/\∀p,H p=none->Q (.ref p) (upd H p (.lst (eK xs lo hi)))
theorem cU:QO X (Nd X.K):=by
 intro pins s σ H x v vl vu lo hi sl Q I rx hs pl pu h
 obtain⟨a,xs,rfl,hx,q⟩:=h
 cases rx
 obtain⟨Cd,r,ht,hz⟩:=I.list hx
 have hlen:=r.length
 refine⟨"list",_,slot_list_getitem.lookup,ht.isList.typeIs,?_⟩
 refine wpAny_getItem_list_slice ht.isList hs pl pu .none (by simp) ?_ (by rw[size_toArray]<;>omega)
 rw[lf,←hlen]
 refine⟨.ref s.heap.objs.size,_,I.laid (t':=s.toks) (o := .lst (eK xs lo hi)) (λb ob q=>Heap.get?_push_of_some _ q) (le_refl _) ?_,rfl,q _ (I.Ci.fresh (le_refl _))⟩
 exact⟨le_trans (pk xs lo hi) hz,_,0,(r.drop (HT.DO xs.length 0 lo)).take (HT.DO xs.length xs.length hi - HT.DO xs.length 0 lo),Heap.get?_push_size _ rfl⟩
noncomputable def iE:V->Bool
 | .Cp=>true
 | .bl _=>true
 | .int _=>true
 | .str _=>true
 | _=>false
noncomputable def zQ:V->V->Bool
 | .Cp, .Cp=>true
 | .bl a, .bl b=>a == b
 | .bl a, .int b=>(if a then 1 else 0) == b
 | .int a, .bl b=>a == (if b then 1 else 0)
 | .int a, .int b=>a == b
 | .str a, .str b=>a == b
 | _,_=>false
theorem BD(ry:RelV y u)(rx:RelV x v)(fy:iE y=true)(fx:iE x=true):SeqAt.EqAt A s u v (zQ y x):=by
 cases y with
 | Cp =>
  cases ry
  cases x with
  | Cp=>cases rx;exact SeqAt.EqAt.same _
  | bl b=>cases rx;exact SeqAt.EqAt.none_bool b
  | int b=>obtain⟨t,rfl⟩:=rx;exact SeqAt.EqAt.none_int b t
  | str b=>obtain⟨t,rfl⟩:=rx;exact SeqAt.EqAt.none_str b t
  | _=>exact absurd (show false=true from fx) Bool.false_ne_true
 | bl a =>
  cases ry
  cases x with
  | Cp=>cases rx;exact SeqAt.EqAt.bool_none a
  | bl b=>cases rx;exact SeqAt.EqAt.bool_bool a b
  | int b=>obtain⟨t,rfl⟩:=rx;exact SeqAt.EqAt.bool_int a b t
  | str b=>obtain⟨t,rfl⟩:=rx;exact SeqAt.EqAt.bool_str a b t
  | _=>exact absurd (show false=true from fx) Bool.false_ne_true
 | int a =>
  obtain⟨t',rfl⟩:=ry
  cases x with
  | Cp=>cases rx;exact SeqAt.EqAt.int_none a t'
  | bl b=>cases rx;exact SeqAt.EqAt.int_bool a t' b
  | int b=>obtain⟨t,rfl⟩:=rx;exact SeqAt.EqAt.int_int a t' b t
  | str b=>obtain⟨t,rfl⟩:=rx;exact SeqAt.EqAt.int_str a t' b t
  | _=>exact absurd (show false=true from fx) Bool.false_ne_true
 | str a =>
  obtain⟨t',rfl⟩:=ry
  cases x with
  | Cp=>cases rx;exact SeqAt.EqAt.str_none a t'
  | bl b=>cases rx;exact SeqAt.EqAt.str_bool a t' b
  | int b=>obtain⟨t,rfl⟩:=rx;exact SeqAt.EqAt.str_int a t' b t
  | str b=>obtain⟨t,rfl⟩:=rx;exact SeqAt.EqAt.str_str a t' b t
  | _=>exact absurd (show false=true from fx) Bool.false_ne_true
 | _=>exact absurd (show false=true from fy) Bool.false_ne_true
noncomputable def qS(x:V)(u:Value):Bool:=match u with
 | .none=>zQ .Cp x
 | .bool b=>zQ (.bl b) x
 | .int i _=>zQ (.int i) x
 | .str z _=>zQ (.str z) x
 | _=>false
theorem wV(r:RelV y u)(f:iE y=true):qS x u=zQ y x:=by
 cases y with
 | Cp=>cases r;rfl
 | bl b=>cases r;rfl
 | int i=>obtain⟨t,rfl⟩:=r;rfl
 | str z=>obtain⟨t,rfl⟩:=r;rfl
 | _=>exact absurd (show false=true from f) Bool.false_ne_true
theorem iK :∀{xs:List V}{us:List Value},Vals xs us->xs.all iE=true->us.any (qS x)=xs.any λy=>zQ y x
 | _,_, .nil,_=>rfl
 | y :: xs,u :: us, .cons r t,f=>by
  rw[all_cons,Bool.and_eq_true]at f
  rw[any_cons,any_cons,wV r f.1,iK t f.2]
theorem fV(rx:RelV x v)(fx:iE x=true):∀{xs:List V}{us:List Value},Vals xs us->xs.all iE=true->∀u ∈ us,SeqAt.EqAt A s u v (qS x u)
 | _,_, .nil,_=>λu hu=>by cases hu
 | y :: xs,u :: us, .cons r t,f=>λu' hu=>by
  rw[all_cons,Bool.and_eq_true]at f
  rcases mem_cons.mp hu with rfl | hu
  ·rw[wV r f.1];exact BD r rx f.1 fx
  ·exact fV rx fx t f.2 u' hu
noncomputable def L3(x:V)(xs:List V):Bool:=xs.any λy=>zQ y x
def Tb(K:Frag)(neg:Bool):R2:=λx y H Q=>∃p xs,y = .ref p/\(Cb K H p xs∨Ck K H p xs)/\iE x=true/\xs.all iE=true/\Q (.bl (if neg then !L3 x xs else L3 x xs)) H
theorem tq:eW X (compareOp .In) (Tb X.K false):=by
 intro pins s σ H x y v u Q I rx ry h
 obtain⟨p,xs,rfl,hq,fx,fs,q⟩:=h
 cases ry
 rcases hq with hq | hq
 ·obtain⟨Cd,r,pl,hz⟩:=I.list hq
  refine SeqAt.in_listAt (qS x) pl.isList (λw hw=>fV rx fx r fs w (by simpa using hw)) ⟨.bl _,H,I,rfl,?_⟩
  rw[show Cd.toArray.any (qS x)=Cd.any (qS x) by simp,iK r fs]
  exact q
 ·obtain⟨Cd,r,pl,hz⟩:=I.tuple hq
  refine SeqAt.in_tupleAt (qS x) pl (λw hw=>fV rx fx r fs w (by simpa using hw)) ⟨.bl _,H,I,rfl,?_⟩
  rw[show Cd.toArray.any (qS x)=Cd.any (qS x) by simp,iK r fs]
  exact q
theorem mU:eW X (compareOp .NotIn) (Tb X.K true):=by
 intro pins s σ H x y v u Q I rx ry h
 obtain⟨p,xs,rfl,hq,fx,fs,q⟩:=h
 cases ry
 rcases hq with hq | hq
 ·obtain⟨Cd,r,pl,hz⟩:=I.list hq
  refine SeqAt.notIn_listAt (qS x) pl.isList (λw hw=>fV rx fx r fs w (by simpa using hw)) ⟨.bl _,H,I,rfl,?_⟩
  rw[show Cd.toArray.any (qS x)=Cd.any (qS x) by simp,iK r fs]
  exact q
 ·obtain⟨Cd,r,pl,hz⟩:=I.tuple hq
  refine SeqAt.notIn_tupleAt (qS x) pl (λw hw=>fV rx fx r fs w (by simpa using hw)) ⟨.bl _,H,I,rfl,?_⟩
  rw[show Cd.toArray.any (qS x)=Cd.any (qS x) by simp,iK r fs]
  exact q
theorem aB:CA X (.builtin "len") (λxs H Q=>∃p ys,xs=[.ref p]/\(Cb X.K H p ys∨Ck X.K H p ys)/\Q (.int ys.length) H):=by
 intro pins s σ H xs us Q I r h
 obtain⟨p,ys,rfl,hq,q⟩:=h
 obtain⟨u,rfl,rx⟩:=ig r
 cases rx
 have hn:=iY
 rcases hq with hq | hq
 ·obtain⟨Cd,r',pl,hz⟩:=I.list hq
  have hlen:=r'.length
  exact Calls.call_len_list pl.isList (by simp only[size_toArray]<;>omega) ⟨.int ys.length,H,I.tok _,⟨s.toks + 1,by rw[size_toArray,hlen]⟩,q⟩
 ·obtain⟨Cd,r',pl,hz⟩:=I.tuple hq
  have hlen:=r'.length
  exact len_tuple pl (by simp only[size_toArray]<;>omega) ⟨.int ys.length,H,I.tok _,⟨s.toks + 1,by rw[size_toArray,hlen]⟩,q⟩
theorem nA:CA X (.builtin "len") (λxs H Q=>∃z,xs=[.str z]/\z.length <= sizeLine/\Q (.int z.length) H):=by
 intro pins s σ H xs us Q I r h
 obtain⟨z,rfl,hz,q⟩:=h
 obtain⟨u,rfl,t,rfl⟩:=ig r
 have hn:=iY
 exact len_str (by omega) ⟨.int z.length,H,I.tok _,⟨_,rfl⟩,q⟩
theorem CA.or(h:CA X f r)(h':CA X f r'):CA X f (λxs H Q=>r xs H Q∨r' xs H Q):=by
 intro pins s σ H xs us Q I rs q
 rcases q with q | q
 ·exact h pins s σ H xs us Q I rs q
 ·exact h' pins s σ H xs us Q I rs q
theorem ck:CA X (.type "list") (λxs H Q=>∃p ys,xs=[.ref p]/\(Cb X.K H p ys∨Ck X.K H p ys)/\∀l,H l=none->Q (.ref l) (upd H l (.lst ys))):=by
 intro pins s σ H xs us Q I r h
 obtain⟨p,ys,rfl,hq,q⟩:=h
 obtain⟨u,rfl,rx⟩:=ig r
 cases rx
 have fin:∀(Cd:List Value),Vals ys Cd->ys.length <= sizeLine->∀(h':Heap)(c':Nat),(∀b o',s.heap.get? b=some o'->h'.get? b=some o') ->
   h'.get? s.heap.objs.size=some { cls := .type "list",dict:=none,data := .seq Cd.toArray c',slots:=#[] }->EP X pins σ Q (.ref s.heap.objs.size) { s with heap:=h' }:=λCd r' hz h' c' kp e =>
  ⟨.ref s.heap.objs.size,_,I.laid (t':=s.toks) kp (le_refl _) (show C1 X.prog X.w _ h' _ (.lst ys) from ⟨hz,Cd,c',r',e⟩),rfl,q _ (I.Ci.fresh (le_refl _))⟩
 rcases hq with hq | hq
 ·obtain⟨Cd,r',pl,hz⟩:=I.list hq
  have hlen:=r'.length
  obtain⟨o,ho,hc,n,hd⟩:=pl.isList
  exact call_list_seq p (.inl rfl) ho hc hd (λh' c' kp e=>fin Cd r' hz h' c' kp e) (by simp only[size_toArray]<;>omega)
 ·obtain⟨Cd,r',pl,hz⟩:=I.tuple hq
  have hlen:=r'.length
  obtain⟨o,ho,hc,n,hd⟩:=pl
  exact call_list_seq p (.inr rfl) ho hc hd (λh' c' kp e=>fin Cd r' hz h' c' kp e) (by simp only[size_toArray]<;>omega)
theorem cY:CA X (.type "tuple") (λxs H Q=>∃p ys,xs=[.ref p]/\((Cb X.K H p ys/\∀l,H l=none->Q (.ref l) (upd H l (.tup ys)))∨(Ck X.K H p ys/\Q (.ref p) H))):=by
 intro pins s σ H xs us Q I r h
 obtain⟨p,ys,rfl,h⟩:=h
 obtain⟨u,rfl,rx⟩:=ig r
 cases rx
 rcases h with ⟨hq,q⟩ | ⟨hq,q⟩
 ·obtain⟨Cd,r',pl,hz⟩:=I.list hq
  have hlen:=r'.length
  refine call_tuple_list pl.isList (λh' kp=>?_) (by simp only[size_toArray]<;>omega)
  have I1:Inv X pins σ H { s with heap:=h' }:=I.kept (t':=s.toks) kp
  have I2:Inv X pins σ (upd H h'.objs.size (.tup ys)) { s with heap:=h'.push { cls := .type "tuple",data := .seq Cd.toArray } } :=
   I1.laid (t':=s.toks) (λb o e=>Heap.get?_push_of_some _ e) (le_refl _) (show C1 X.prog X.w _ _ _ (.tup ys) from ⟨hz,Cd,r',Dm.new _ _⟩)
  exact⟨.ref h'.objs.size,_,I2,rfl,q _ (I1.Ci.fresh (le_refl _))⟩
 ·obtain⟨Cd,r',pl,hz⟩:=I.tuple hq
  exact call_tuple_same pl ⟨.ref p,H,I,rfl,q⟩
def Tc(K:Frag)(T:String)(x:V)(H:Hp):Prop:=match x with
 | .str _=>T = "str"
 | .int _=>T = "int"
 | .ref p=>(T = "list"/\∃xs,Cb K H p xs)∨(T = "tuple"/\∃o,K.lookup p=some o/\o.cls = .type "tuple"/\o.dict=none) ∨
   (T = "dict"/\((∃kvs,H p=some (.dK kvs))∨∃kvs,H p=some (.dT kvs)))∨(T = "set"/\∃S n,H p=some (.set S n))
 | _=>False
theorem u7{σ:St}(I:Inv X pins σ H s)(r:RelV x v)(ty:Tc X.K T x H) :
  s.TypeIs v T/\∀a,v = .ref a->∃ob,s.heap.get? a=some ob/\ob.dict=none:=by
 cases x with
 | str z =>
  obtain⟨t,rfl⟩:=r
  cases (show T = "str" from ty)
  exact⟨typeIs_str s z t,λ_ e=>nomatch e⟩
 | int i =>
  obtain⟨t,rfl⟩:=r
  cases (show T = "int" from ty)
  exact⟨typeIs_int s i t,λ_ e=>nomatch e⟩
 | ref p =>
  cases r
  rcases ty with ⟨rfl,xs,hq⟩ | ⟨rfl,o,hk,hc,hd⟩ | ⟨rfl,hk⟩ | ⟨rfl,S,n,hk⟩
  ·obtain⟨Cd,_,pl,_⟩:=I.list hq
   refine⟨pl.isList.typeIs,λa e=>?_⟩
   cases e
   obtain⟨o,n,e,c,hd,_⟩:=pl
   exact⟨o,e,hd⟩
  ·refine⟨⟨o,I.DJ p o hk,hc⟩,λa e=>?_⟩
   cases e
   exact⟨o,I.DJ _ o hk,hd⟩
  ·have z:∃o,s.heap.get? p=some o/\o.ExactDict:=by
    rcases hk with ⟨kvs,hk⟩ | ⟨kvs,hk⟩
    ·obtain⟨_,_,_,_,o,_,_,e,ex,_⟩:=I.Ci p _ hk
     exact⟨o,e,ex⟩
    ·obtain⟨_,_,_,_,o,_,_,e,ex,_⟩:=I.Ci p _ hk
     exact⟨o,e,ex⟩
   obtain⟨o,e,ex⟩:=z
   refine⟨⟨o,e,ex.1⟩,λa e2=>?_⟩
   cases e2
   exact⟨o,e,ex.2.1⟩
  ·obtain⟨o,_,_,_,e,ex,_⟩:=I.Ci p _ hk
   refine⟨⟨o,e,ex.1⟩,λa e2=>?_⟩
   cases e2
   exact⟨o,e,ex.2.1⟩
 | _=>exact False.elim ty
def Td(K:Frag)(T:String)(r:V->List V->Hp->VK->Prop)(to:TE):TE:=λσ H Q=>to σ H λx H1=>Tc K T x H1/\r x [] H1 Q
def tBM(K:Frag)(T:String)(r:V->List V->Hp->VK->Prop)(to:TE)(t:TA):TE:=λσ H Q=>to σ H λx H1=>Tc K T x H1/\t σ H1 λxs H2=>r x xs H2 Q
variable {o e:Expr}{es:List Expr}{to:TE}{t:TA}{name:Str}{apos CM:Pos}{T id:String}{r:V->List V->Hp->VK->Prop}
theorem AQ(pa:PlainAttrs T)(slot:Slot T name id)(Te:typeOf (.builtin id)=pure (.type "method_descriptor"))(hm:QP X id r)(ho:PE X o to)
  (Hn:autoParam (attributeBase o name X.env (eval o X.env)=eval o X.env) η) (Ho:autoParam ((apos.endLine == CM.line)=true) η):PE X (.Call (.Attribute o name apos) [] [] CM) (Td X.K T r to):=by
 intro pins s σ H Q I h
 refine wpAny_Call_method0_late Hn Ho (bj (ho pins s σ H _ I h) λv s1 Cc=>?_)
 obtain⟨x,H1,I1,r1,ty,q1⟩:=Cc
 obtain⟨h1,h2⟩:=u7 I1 r1 ty
 exact⟨T,id,pa,slot,Te,h1,h2,Calls.callWith_builtin rfl (PySem.evalArgs_none (hm pins s1 σ H1 x [] v [] Q I1 r1 .nil q1))⟩
theorem bW(pa:PlainAttrs T)(slot:Slot T name id)(Te:typeOf (.builtin id)=pure (.type "method_descriptor"))(hm:QP X id r)(ho:PE X o to)(ha:PA X (e :: es) t)
  (Hn:autoParam (attributeBase o name X.env (eval o X.env)=eval o X.env) η)
  (EK:((backTo CM (starEach (e :: es) X.env)).all (λx=>!x.1) && (backToKw CM (keywordEach [] X.env)).all (λx=>x.1.isSome)
   && decide ((e :: es).length + ([]:List Keyword).length + (if ([]:List Keyword).isEmpty then 0 else 1) < 30))=true:=by rfl)
  (Ho:autoParam ((apos.endLine == CM.line)=true) η) (hs:autoParam (starEach (e :: es) X.env=(false,eval e X.env) :: starEach es X.env) η) (Kh:autoParam ((backTo CM (starEach es X.env)).any (·.1)=false) η) :
  PE X (.Call (.Attribute o name apos) (e :: es) [] CM) (tBM X.K T r to t):=by
 intro pins s σ H Q I h
 refine wpAny_Call_method_late Hn EK Ho rfl (bj (ho pins s σ H _ I h) λv s1 Cc=>?_)
 obtain⟨x,H1,I1,r1,ty,q1⟩:=Cc
 obtain⟨h1,h2⟩:=u7 I1 r1 ty
 refine⟨T,id,pa,slot,Te,h1,h2,?_⟩
 have hA:=ha CM pins s1 σ H1 _ I1 q1
 rw[hs]at hA ⊢
 refine Calls.callWith_builtin (by show(false || (backTo CM (starEach es X.env)).any (·.1))=false;rw[Kh]<;>rfl) (Calls.evalArgs_plain ?_)
 exact bj hA λus s2 Cc=>by obtain⟨vs,H2,I2,r2,q2⟩:=Cc;exact hm pins s2 σ H2 x vs v us Q I2 r1 r2 q2
end
def L4(X:Cx)(id:String)(r:V->List V->Hp->VK->Prop):Prop :=
 ∀(pins:List (Addr × Obj))(s:Shared)(σ:St)(H:Hp)(x:V)(xs:List V)(v:Value)(us:List Value)(Q:VK),Inv X pins σ H s->RelV x v->Vals xs us->r x xs H Q ->
  wpAny (model X.prog X.w) X.A (call (.builtin id) (v :: us)) (EP X pins σ Q) X.xe s
theorem Vals.one:∀{x:V}{us:List Value},Vals [x] us->∃u,us=[u]/\RelV x u:=by
 intro x us h
 cases h with
 | cons r t=>cases t;exact⟨_,rfl,r⟩
theorem Vals.eraseIdx:∀{xs:List V}{us:List Value}(i:Nat),Vals xs us->Vals (xs.eraseIdx i) (us.eraseIdx i)
 | _,_,_, .nil => .nil
 | _,_,0, .cons _ t=>t
 | _,_,i + 1, .cons r t => .cons r (Vals.eraseIdx i t)
theorem lF{α:Type}:∀(l:List α)(i:Nat),(l.eraseIdx i).length <= l.length
 | [],_=>le_refl _
 | _ :: _,0=>le_succ _
 | _ :: r,i + 1=>Nat.succ_le_succ (lF r i)
section
variable {X:Cx}{pins:List (Addr × Obj)}{σ:St}{H:Hp}{s:Shared}{l b:Addr}{xs ys zs:List V}
theorem Inv.Ki{Cd its':List Value}(I:Inv X pins σ H s)(hH:H l=some (.lst xs))
  (e:s.heap.get? l=some { cls := .type "list",data := .seq Cd.toArray n }) (hf:f Cd.toArray=its'.toArray) (hv:Vals ys its') (hz:ys.length <= sizeLine) :
  Inv X pins σ (upd H l (.lst ys)) { s with heap:=s.heap.update l (Obj.mapSeq f),toks:=t' }:=by
 have q:=PySem.IsL.update e f
 rw[hf]at q
 refine I.write (x:=l) (e:=l) (by rw[hH];exact trivial) (.inl rfl) (λb' u hb hu=>(Heap.get?_update_other s.heap (Obj.mapSeq f) (Ne.symm hb)).trans hu) ⟨_,q⟩ ?_
 exact⟨hz,its',_,hv,q⟩
theorem Inv.Tf(I:Inv X pins σ H s)(hv:Vals ys Cd)(hz:ys.length <= sizeLine) :
  Inv X pins σ (upd H s.heap.objs.size (.lst ys)) { s with heap:=s.heap.push { cls := .type "list",data := .seq Cd.toArray },toks:=t' } :=
 I.laid (λ_ _ q=>Heap.get?_push_of_some _ q) (le_refl _) ⟨hz,Cd,0,hv,Heap.get?_push_size _ rfl⟩
theorem Inv.fresh(I:Inv X pins σ H s):H s.heap.objs.size=none:=I.Ci.fresh (le_refl _)
theorem Inv.F6(I:Inv X pins σ H s)(hH:H l=some (.lst xs)):xs.length <= sizeLine/\∃(Cd:List Value)(n:Nat),Vals xs Cd/\xs.length=Cd.length/\s.heap.get? l=some { cls := .type "list",data := .seq Cd.toArray n }:=by
 obtain⟨z,Cd,n,r,e⟩:=I.Ci l _ hH
 exact⟨z,Cd,n,r,r.length,e⟩
theorem ww(h:n <= sizeLine):Builtin.List.listTooLong n=false:=by
 unfold Builtin.List.listTooLong
 exact decide_eq_false (by omega)
end
section
def xZ:V->List V->Hp->VK->Prop:=λx vs H Q=>∃l xs y,x = .ref l/\vs=[y]/\H l=some (.lst xs)/\xs.length < sizeLine/\Q .Cp (upd H l (.lst (xs ++ [y])))
theorem bQ:L4 X "list.append" xZ:=by
 intro pins s σ H x vs v us Q I rx rv h
 obtain⟨l,xs,y,rfl,rfl,hH,hz,q⟩:=h
 cases rx
 obtain⟨u,rfl,ru⟩:=rv.one
 obtain⟨z,Cd,n,r,hl,e⟩:=I.F6 hH
 refine call_meets F.slot_list_append ⟨_,e,rfl⟩ F.entry_list_append (F.args_list_append_2 _ _) (PySem.list_append l Cd.toArray n u (by rw[size_toArray];omega)) ⟨e,?_⟩
 refine⟨.Cp,_,I.Ki (its':=Cd ++ [u]) hH e (by simp) (r.append (.cons ru .nil)) ?_,rfl,q⟩
 rw[length_append,length_singleton]
 omega
def xY:V->List V->Hp->VK->Prop:=λx vs H Q=>∃l b xs zs,x = .ref l/\vs=[.ref b]/\H l=some (.lst xs)/\H b=some (.lst zs)/\xs.length + zs.length <= sizeLine/\Q .Cp (upd H l (.lst (xs ++ zs)))
theorem cN:L4 X "list.extend" xY:=by
 intro pins s σ H x vs v us Q I rx rv h
 obtain⟨l,b,xs,zs,rfl,rfl,hH,hB,hz,q⟩:=h
 cases rx
 obtain⟨u,rfl,ru⟩:=rv.one
 cases ru
 obtain⟨z,Cd,n,r,hl,e⟩:=I.F6 hH
 obtain⟨z2,E3,n2,r2,GU,e2⟩:=I.F6 hB
 have hsz:Cd.toArray.size + E3.toArray.size <= sizeLine:=by rw[size_toArray,size_toArray];omega
 have Nf:¬(!Cd.toArray.isEmpty && Builtin.List.listTooLong (Cd.toArray.size + E3.toArray.size))=true:=by
  rw[ww hsz,Bool.and_false]
  exact Bool.false_ne_true
 refine call_meets F.slot_list_extend ⟨_,e,rfl⟩ F.entry_list_extend (F.args_list_extend_2 _ _)
  (AutoSeq1.list_extend_list_list_0 l Cd.toArray n b E3.toArray n2 Nf (by rw[size_toArray];omega) (by omega)) ⟨e,e2,?_⟩
 refine⟨.Cp,_,I.Ki (its':=Cd ++ E3) hH e (by simp) (r.append r2) ?_,rfl,q⟩
 rw[length_append]
 omega
def AI:V->List V->Hp->VK->Prop:=λx vs H Q=>∃l xs i k y,x = .ref l/\vs=[.int i]/\H l=some (.lst xs)/\-(2 ^ 63) <= i/\i < 2 ^ 63/\seqIndex? i xs.length=some k/\xs[k]? = some y/\Q y (upd H l (.lst (xs.eraseIdx k)))
theorem wA:L4 X "list.pop" AI:=by
 intro pins s σ H x vs v us Q I rx rv h
 obtain⟨l,xs,i,k,y,rfl,rfl,hH,h1,h2,hk,hy,q⟩:=h
 cases rx
 obtain⟨u,rfl,ru⟩:=rv.one
 obtain⟨t,rfl⟩:=ru
 obtain⟨z,Cd,n,r,hl,e⟩:=I.F6 hH
 obtain⟨w,hw,Fl⟩:=r.get hy
 refine call_meets F.slot_list_pop ⟨_,e,rfl⟩ F.entry_list_pop (F.args_list_pop_2 _ _)
  (MeetsSeq.list_pop_at l Cd.toArray n i t k w (fitsIndex_both h1 h2) (by rw[size_toArray,←hl];exact hk) (by rw[←Array.getElem?_toList];exact hw) (by rw[size_toArray];omega)) ⟨e,?_⟩
 refine⟨y,_,I.Ki (its':=Cd.eraseIdx k) hH e ?_ (r.eraseIdx k) ?_,Fl,q⟩
 ·show Cd.toArray.eraseIdxIfInBounds k=(Cd.eraseIdx k).toArray
  rw[List.eraseIdxIfInBounds_toArray]
 ·have:=lF xs k
  omega
def Tg:R2:=λx y H Q=>∃l b xs zs,x = .ref l/\y = .ref b/\H l=some (.lst xs)/\H b=some (.lst zs)/\xs.length + zs.length <= sizeLine/\∀p,H p=none->Q (.ref p) (upd H p (.lst (xs ++ zs)))
theorem kD:eW X (binaryOp .Add) Tg:=by
 intro pins s σ H x y v u Q I rx ry h
 obtain⟨l,b,xs,zs,rfl,rfl,hH,hB,hz,q⟩:=h
 cases rx
 cases ry
 obtain⟨z,Cd,n,r,hl,e⟩:=I.F6 hH
 obtain⟨z2,E3,n2,r2,GU,e2⟩:=I.F6 hB
 refine PySem.P.add_list e e2 ?_ (by rw[size_toArray,size_toArray];omega)
 have ea:Cd.toArray ++ E3.toArray=(Cd ++ E3).toArray:=by simp
 rw[ea]
 exact⟨.ref _,_,I.Tf (t':=s.toks) (r.append r2) (by rw[length_append];omega),rfl,q _ I.fresh⟩
end
section
set_option maxRecDepth 100000 in
end
section
end
end L2
namespace Yo
open PySem PySem.W PySem.Calls PyProof.Rows
theorem js :∀(ns:List Int)(vs:List Value),WellAll P h vs (ns.map WData.int)->IntsAre vs ns:=by
 intro ns
 induction ns with
 | nil =>
  intro vs w
  rw[map_nil]at w
  cases w
  exact .nil
 | cons n ns ih =>
  intro vs w
  rw[map_cons]at w
  cases w with
  | cons a b =>
   cases a
   exact .cons _ _ (ih _ b)
theorem sT{l:OpenLaw}(hn:l.most=some n)
  (Im:l.row.toRowW.claim.pre args=true) (FN:WellAll P h vals args) :
  ∃a vs ns,vals=[Value.ref a]/\args=[WData.list (ns.map WData.int)]/\h.get? a=some { cls := .type "list",data := .seq vs.toArray }/\IntsAre vs ns/\ns.length <= n:=by
 have hsh:WShape.hasAll [] args [.list .int]=true:=(pre_splitW Im).1
 have hc:l.pre.holds [] { args:=args } = true:=(pre_splitW Im).2
 obtain⟨d,r,rfl,h1,h2⟩:=hasAllW_cons hsh
 obtain rfl:=hasAllW_nil h2
 obtain⟨xs,rfl,h3⟩:=hasW_list h1
 obtain⟨ns,rfl⟩:=items_int h3
 have hlen:ns.length <= n:=by
  unfold OpenLaw.pre at hc
  have h4:(WTm.not (.lt (.lit (.int (n:Int))) (.len (.arg 0)))).holds [] { args:=[.list (ns.map .int)] } = true:=by
   have h4:=(holds_andW hc).1
   rw[hn]at h4
   exact h4
  have h5:=condW_of h4 (w_not (w_lt w_lit (w_len_list (w_arg rfl))))
  rw[length_map]at h5
  refine Nat.le_of_not_lt λq=>?_
  have q':(n:Int) < ((ns.length:Nat):Int):=by omega
  first
   | (rw[decide_eq_true q']at h5;exact absurd h5 (by decide))
   | (simp at h5;omega)
 cases FN with
 | cons w1 w2 =>
  cases w2
  cases w1 with
  | list ho Dj=>exact⟨_,_,ns,rfl,rfl,ho,js ns _ Dj,hlen⟩
theorem sW(l:OpenLaw)(args:List WData):l.row.toRowW.claim.post args (.bool true) args=true :=
 postW_of (r:=l.row.toRowW) (X:=(true == true))
  (show WShape.has [] (.bool true) .bool=true by first | rfl | decide | simp[WShape.has,WShape.arms,WShape.armsAll])
  (show(WTm.eq .res (.lit (.bool true))).value [] { args:=args,res:=some (.bool true),after:=args } = some (.bool (true == true)) from w_eq_bool (w_res rfl) w_lit) rfl
theorem Fm{l:OpenLaw}
  (hn:l.most=some n) (Ng:d.params.defaults=[])
  (call:∀(w:World)(s₀ s₁:Shared)(mg mb:Str->Option Value)(fa:Addr)(o:Obj)(pm cd doc:Value)(a:Addr)(vs:List Value)(ns:List Int),
   Ground q loose [] XP w s₀ mg mb s₁.heap->YP w s₁.heap ->
   s₁.heap.get? fa=some o->o.data = .func (docDef d.name d.params d.body d.scope pm cd doc)->s₁.heap.CodeRec cd d.name->mg d.name=some (.ref fa) ->
   s₁.heap.get? a=some { cls := .type "list",data := .seq vs.toArray }->IntsAre vs ns->ns.length <= n->s₁.gens = #[] ->
   codeAny (model l.prog w) callerA (.call (.ref fa) ⟨[.ref a],[]⟩) (λr s'=>r = .ok (.ret (.bool true))/\OldK s₁.heap s'.heap/\s'.os=s₁.os/\AllBare s'.gens) s₁) :
  WalkO q loose XP YP l.row.toRowW d [] (λf vs=>PySem.call f vs):=by
 intro w s₀ s₁ mg mb G Y fa o pm cd doc dV kV ho hd Fx hD hmg hg args vals as Im hlay hrd FN hlo
 obtain rfl:dV = .none:=Dflts.none hD Ng
 obtain rfl:kV = .none:=Dflts.noKw hD
 obtain⟨a,vs,ns,rfl,rfl,Kj,hints,hlen⟩:=sT hn Im FN
 refine enter_call (codeAny_mono (call w s₀ s₁ mg mb fa o pm cd doc a vs ns G Y ho (fd_plain hd) Fx hmg Kj hints hlen hg) λr s' hq=>?_)
 obtain⟨rfl,h2,h3,h4⟩:=hq
 exact⟨.inl ⟨.bool true, .bool true,[],rfl,λ_=>rfl, .bool true,sW l _,λ_=>⟨List.Pairwise.nil,λ_ hm=>(nomatch hm)⟩⟩,h2,h3,h4⟩
section
end
end Yo
namespace L2
open PySem PySem.Spec PyProof.Rows
theorem lr:∀{vs:List Value}{ns:List Int},IntsAre vs ns->Vals (ns.map V.int) vs
 | _,_, .nil => .nil
 | _,_, .cons n t h => .cons ⟨t,rfl⟩ (lr h)
def BT(H:Hp):Prop:=∀b,H b=none∨∃o xs,H b=some (.DT o (.lst xs))
theorem wH{K:Frag}
  (KX:K.In s₁.heap) (L5:s₁.heap.Ns mainGlobals mg) (hb:s₁.heap.Ns builtinsNs mb) (hbb:∀x:Str,x ≠ "__name__"->mb x=bootBuiltins x) (Th:s₁.heap.NoLimit) (hg:s₁.gens = #[])
  (ha:s₁.heap.get? a=some { cls := .type "list",data := .seq vs.toArray }) (hi:IntsAre vs ns) (hl:ns.length <= sizeLine) (hr:Cj k callerA)
  (F:∀base:Heap,K.In base->base.Ns mainGlobals mg->BY P w K mg base CX k fa fd [x] sp) (Nh:∀(s:Shared)(u:Value),BindsTo s fd ⟨[u],[]⟩ [(x,u)])
  (HR:∀H:Hp,BT H->Cb K H a (ns.map V.int)->sp [.ref a] H (λv _=>v = .bl true) λ_ _ _=>False)
  (Ti:∀H e s',CX [] H s₁ (λ_ _ _=>False) e s'->False) :
  codeAny (model P w) callerA (.call (.ref fa) ⟨[.ref a],[]⟩) (λr s'=>r = .ok (.ret (.bool true))/\OldK s₁.heap s'.heap/\s'.os=s₁.os/\AllBare s'.gens) s₁:=by
 have rv:=lr hi
 have Tj:=hi.length
 have core:∀H:Hp,BT H->Cb K H a (ns.map V.int)->D4 P w H s₁.heap->(∀b,H b ≠ none->b=a)->(H a ≠ none->K.lookup a=none) ->
   codeAny (model P w) callerA (.call (.ref fa) ⟨[.ref a],[]⟩) (λr s'=>r = .ok (.ret (.bool true))/\OldK s₁.heap s'.heap/\s'.os=s₁.os/\AllBare s'.gens) s₁:=by
  intro H hO hS Ci hA hK
  have base_of:∀{b:Addr}{o:Obj},s₁.heap.get? b=some o->H b=none->(nq s₁.heap H).get? b=some o:=λe n=>wP e n
  have MY:∀{b:Addr}{o:Obj}{es:Array DictEntry}{ep:Nat},s₁.heap.get? b=some o->o.data = .dict es ep->H b=none:=λ{b o es ep} e d=>by
   cases q:H b with
   | none=>rfl
   | some u =>
    have e':b=a:=hA b (by rw[q];simp)
    subst e'
    rw[ha]at e;cases e
    have d':Data.seq vs.toArray _=Data.dict es ep:=d
    cases d'
  have QQ:∀{b:Addr}{m:Str->Option Value},s₁.heap.Ns b m->(nq s₁.heap H).Ns b m:=λ{b m} ⟨o,es,ep,e,d,r⟩=>⟨o,es,ep,base_of e (MY e d),d,r⟩
  have Yp:K.In (nq s₁.heap H):=λb o e=>base_of (KX b o e) (by
   cases q:H b with
   | none=>rfl
   | some u =>
    have e':b=a:=hA b (by rw[q];simp)
    subst e'
    rw[hK (by rw[q];simp)]at e;cases e)
  have hM:Mod K mg (nq s₁.heap H):=⟨Yp,QQ L5,⟨mb,QQ hb,hbb⟩,let ⟨mc,h1,h2⟩:=Th; ⟨mc,QQ h1,h2⟩⟩
  have e0:F5 P w K mg (nq s₁.heap H) callerA [] s₁ H:=⟨rfl,hM,λb o e=>yE e,le_of_eq (tW _ _),trivial,λb hb=>absurd (show b ∈ ([]:List Addr) from hb) (by simp),Ci, .of_eq hg⟩
  refine codeAny_mono ((F _ Yp (QQ L5)).run callerA [] s₁ H ⟨[.ref a],[]⟩ [.ref a] [.ref a] _ _ hr e0 (Nh s₁ (.ref a)) (.cons rfl .nil) (HR H hO hS)) λr s' h=>?_
  cases r with
  | error e=>exact(Ti H e s' h).elim
  | ok fl =>
   cases fl with
   | next=>exact False.elim h
   | brk=>exact False.elim h
   | cont=>exact False.elim h
   | ret u =>
    obtain⟨v,H',os,bare,un,Tn,r',q⟩:=h
    have q':v = .bl true:=q
    subst q'
    obtain rfl:u=Value.bool true:=r'
    refine⟨rfl,OldK.of_keep λb o e=>?_,os,bare⟩
    cases q:H b with
    | none=>exact un.keep b o e q (by intro z;exact absurd (show b ∈ ([]:List Addr) from z) (by simp)) (by simp)
    | some u =>
     rcases hO b with z | ⟨ob,xs,z⟩
     ·rw[q]at z;cases z
     ·have z2:=un.Ex b ob _ z
      obtain⟨e1,_⟩:=Ci b _ z
      obtain⟨e2,_⟩:=Tn b _ z2
      rw[e]at e1;cases e1
      exact e2
 cases hk:K.lookup a with
 | some o =>
  have e:=KX a o hk
  rw[ha]at e
  cases e
  refine core (λ_=>none) (λ_ => .inl rfl) (.inr ⟨_,vs.toArray,_,hk,rfl,rfl,rfl,by rw[size_toArray,Tj];exact hl,by simpa using rv⟩) (λb u z=>by have z':(none:Option HO)=some u:=z;cases z') (λb z=>absurd rfl z) λz=>absurd rfl z
 | none =>
  refine core (λb=>if b=a then some (.DT { cls := .type "list",data := .seq vs.toArray } (.lst (ns.map V.int))) else none) (λb=>?_) (.inl (.inr ⟨{ cls := .type "list",data := .seq vs.toArray },if_pos rfl⟩)) (λb u z=>?_) (λb z=>?_) λ_=>hk
  ·by_cases hb:b=a
   ·exact .inr ⟨_,_,if_pos hb⟩
   ·exact .inl (if_neg hb)
  ·by_cases hb:b=a
   ·have z':=(if_pos hb).symm.trans z
    cases z'
    subst hb
    exact⟨ha,by rw[length_map];exact hl,vs,_,rv,ha⟩
   ·have z':=(if_neg hb).symm.trans z
    cases z'
  ·by_cases hb:b=a
   ·exact hb
   ·exact absurd (if_neg hb) z
theorem Io{l:PySem.W.OpenLaw}{K:Params->Frag}{CX:World->sL}{sp:World->Sp}
  (hn:l.most=some n) (Gz:n <= sizeLine) (Ng:d.params.defaults=[]) (hr:Cj k callerA)
  (hY:∀(w:World)(h:Heap),YP w h->(K w.params).In h)
  (F:∀(w:World)(mg:Str->Option Value)(fa:Addr)(h:Heap),(K w.params).In h->h.Ns mainGlobals mg->mg d.name=some (.ref fa) ->
   ∃fd:FuncData,(∀(s:Shared)(u:Value),BindsTo s fd ⟨[u],[]⟩ [(x,u)]) /\
    ∀base:Heap,(K w.params).In base->base.Ns mainGlobals mg->BY l.prog w (K w.params) mg base (CX w) k fa fd [x] (sp w))
  (HR:∀(w:World)(H:Hp)(a:Addr)(ns:List Int),ns.length <= n->BT H->Cb (K w.params) H a (ns.map V.int)->sp w [.ref a] H (λv _=>v = .bl true) λ_ _ _=>False)
  (Ti:∀(w:World)(H:Hp)(s:Shared)(e:Value)(s':Shared),CX w [] H s (λ_ _ _=>False) e s'->False) :
  PySem.W.WalkO q loose XP YP l.row.toRowW d [] (λf vs=>PySem.call f vs):=by
 refine Yo.Fm hn Ng λw s₀ s₁ mg mb fa o pm cd doc a vs ns G Y ho hd Fx hmg Kj hints hlen hg=>?_
 have KX:=hY w _ Y
 obtain⟨fd,hb,hF⟩:=F w mg fa _ KX G.T.g hmg
 exact wH KX G.T.g G.T.b G.T.builtins G.T.nolimit hg Kj hints (le_trans hlen Gz) hr hF hb (λH hO hS=>HR w H a ns hlen hO hS) λH e s'=>Ti w H s₁ e s'
noncomputable def aL(s:Stmt)(j:Nat):Stmt:=match s with
 | .ClassDef _ _ _ body _ _ _ _ _ _ _=>body.getD j (.Pass ⟨0,0,0,0⟩)
 | _ => .Pass ⟨0,0,0,0⟩
noncomputable def bU(s:Stmt):Arguments:=match s with
 | .FunctionDef _ a _ _ _ _ _ _ _ _=>a
 | _=>{ posonlyargs:=[],args:=[],vararg:=none,kwonlyargs:=[],kw_defaults:=[],kwarg:=none,defaults:=[] }
noncomputable def aI(s:Stmt):List Stmt:=match s with
 | .FunctionDef _ _ b _ _ _ _ _ _ _=>b
 | _=>[]
noncomputable def ai(s:Stmt):Scope:=match s with
 | .FunctionDef _ _ _ _ _ _ sc _ _ _=>sc
 | _=>zQ0
abbrev ay:sL:=λ_ _ _ _ _ _=>False
abbrev E0:XK:=λ_ _ _=>False
theorem ap :gj ay X E0:=λ_ _ _ _ _ _ _ h=>h.elim
structure C2(K:Frag)(x qual:Str)(st:Stmt)(f:Addr)(fd:FuncData):Prop where
 ex:∃(oc:Value)(od:Option Addr)(kV doc pm:Value)(an:Option Addr)(cdv ct:Value)(FL:Array (Option Value)),
  fd=fnOf x qual (bU st) (aI st) (ai st) .none kV doc pm an cdv ct/\K.lookup f=some ⟨oc,od, .func fd,FL⟩/\codeIn K cdv qual=true
 kp:keepIn K (.ref f)=true
section
variable {P:Program}{w:World}{K:Frag}{mg:Str->Option Value}{base:Heap}
theorem C2.ok{st:Stmt}(F:C2 K x qual st f fd)(S:au N ps (ai st))(len:∀vs H Q E,sp vs H Q E->vs.length=ps.length)
  (Fg:∀(cdv:Value)(A:Around)(outer:List Env)(s:Shared)(H:Hp)(vs:List V)(Q:VK)(E:XK),Cj k (A.deeper (envOfC qual (ai st) s.heap.objs.size f cdv))->sp vs H Q E ->
   ∃t,Ey (qU ay P w K mg base N qual (ai st) f cdv A outer s H E).Lz (aI st) t/\t { nx:=λ_ H'=>Q .Cp H',rt:=Q } (start N vs) H):BY P w K mg base ay (k + 1) f fd ps sp:=by
 obtain⟨oc,od,kV,doc,pm,an,cdv,ct,FL,rfl,lk,Fx⟩:=F.ex
 refine zP lk Fx S len λA outer s H vs Q E hr HR=>?_
 obtain⟨t,h,q⟩:=Fg cdv A outer s H vs Q E hr HR
 exact⟨t,h.Lz,q⟩
theorem C2.binds{st:Stmt}(F:C2 K x qual st f fd)
  (h:∀(kV doc pm:Value)(an:Option Addr)(cdv ct:Value)(us:List Value),us.length=ps.length->bindArgs (fnOf x qual (bU st) (aI st) (ai st) .none kV doc pm an cdv ct) ⟨us,[]⟩ = pure (ps.zip us)):Binds K fd ps []:=by
 obtain⟨oc,od,kV,doc,pm,an,cdv,ct,FL,rfl,lk,Fx⟩:=F.ex
 exact .all (h kV doc pm an cdv ct)
theorem kQ{st:Stmt}{kV doc pm cdv ct:Value}(l:K.lookup f=some ⟨oc,od, .func (fnOf x qual (bU st) (aI st) (ai st) .none kV doc pm an cdv ct),FL⟩)
  (c:codeIn K cdv qual=true) (k:keepIn K (.ref f)=true):C2 K x qual st f (fnOf x qual (bU st) (aI st) (ai st) .none kV doc pm an cdv ct):=⟨⟨oc,od,kV,doc,pm,an,cdv,ct,FL,rfl,l,c⟩,k⟩
end
theorem lJ(hr:Cj k A):A.units + 1 < cLine:=lt_of_le_of_lt (Nat.add_le_add_left (by decide:1 <= 64) _) hr.units
section
theorem pv(i:Nat)(hN:autoParam (X.N[i]? = some x) η)(hv:QC X.env.scope x:=by first | exact Or.inl rfl | exact Or.inr (Or.inl rfl) | exact Or.inr (Or.inr rfl))(hd:autoParam ((x == ("__debug__":Str))=false) θ)
  (Fx:autoParam ((x == ("__classdict__":Str))=false) θ):PE X (.Name x pos) (sP i):=AO hN hv hd Fx
end
theorem aH{A B:Prop}(h:B):if false=true then A else B:=by
 rw[if_neg Bool.false_ne_true]
 exact h
theorem aN{A B:Prop}(h:A):if true=true then A else B:=by
 rw[if_pos rfl]
 exact h
theorem Tp{c A B:Prop}[Decidable c](h1:c->A)(h2:¬c->B):if c then A else B:=by
 by_cases h:c
 ·rw[if_pos h]
  exact h1 h
 ·rw[if_neg h]
  exact h2 h
def BX(H H':Hp):Prop:=∀b o,H b=some o->H' b=some o
theorem BX.refl(H:Hp):BX H H:=λ_ _ h=>h
theorem BX.trans(a:BX H H1)(b:BX H1 H2):BX H H2:=λc o h=>b c o (a c o h)
theorem BX.free(e:BX H H')(h:H' l=Option.none):H l=Option.none:=by
 cases q:H l with
 | none=>rfl
 | some o =>
  rw[e l o q]at h
  cases h
theorem BX.seq{K:Frag}(e:BX H H')(h:Cb K H a xs):Cb K H' a xs:=by
 rcases h with (h | ⟨o,h⟩) | h
 ·exact .inl (.inl (e _ _ h))
 ·exact .inl (.inr ⟨o,e _ _ h⟩)
 ·exact .inr h
end L2
namespace Yd
open PySem
theorem qZ(a b:Nat):Builtin.bitAnd (a:Int) (b:Int)=((a &&& b:Nat):Int):=by
 unfold Builtin.bitAnd
 simp
theorem dJ(x:Int):Builtin.bitNot x = -x - 1:=by
 unfold Builtin.bitNot
 omega
theorem G0(a b:Nat):Builtin.bitOr (a:Int) (b:Int)=((a ||| b:Nat):Int):=by
 unfold Builtin.bitOr
 have h1:Builtin.bitNot (a:Int) = -(a:Int) - 1:=dJ _
 have h2:Builtin.bitNot (b:Int) = -(b:Int) - 1:=dJ _
 unfold Builtin.bitAnd
 rw[h1,h2]
 have e1:decide (0 <= -(a:Int) - 1)=false:=decide_eq_false (by omega)
 have e2:decide (0 <= -(b:Int) - 1)=false:=decide_eq_false (by omega)
 rw[e1,e2]
 simp only[]
 have e3:Builtin.bitNot (-(a:Int) - 1)=a:=by rw[dJ];omega
 have e4:Builtin.bitNot (-(b:Int) - 1)=b:=by rw[dJ];omega
 rw[e3,e4]
 simp only[toNat_natCast]
 rw[dJ,dJ]
 omega
noncomputable def C5:List Nat->Nat->Nat
 | [],s=>s
 | n :: r,s=>C5 r (s ||| 2 ^ n)
theorem Dc(k:Nat):∀(l:List Nat)(s:Nat),(C5 l s).testBit k=(s.testBit k || decide (k ∈ l))
 | [],s=>by simp[C5]
 | n :: r,s=>by
  unfold C5
  rw[Dc k r]
  rw[Nat.testBit_or,Nat.testBit_two_pow]
  by_cases h:n=k
  ·subst h;simp
  ·have:¬k=n:=λz=>h z.symm
   simp[h,this]
theorem Hq(l r:List Nat)(s:Nat):C5 (l ++ r) s=C5 r (C5 l s):=by
 induction l generalizing s with
 | nil=>rfl
 | cons n t ih=>exact ih _
noncomputable def lh(l:List Nat):Nat->Nat
 | 0=>0
 | n + 1=>if n ∈ l then lh l n + 2 ^ n else lh l n
theorem EL(l:List Nat):∀n,lh l n < 2 ^ n
 | 0=>by simp[lh]
 | n + 1=>by
  have:=EL l n
  unfold lh
  rw[Nat.pow_succ]
  split<;>omega
theorem pc(l:List Nat)(k:Nat):∀n,(lh l n).testBit k=decide (k < n/\k ∈ l)
 | 0=>by simp[lh]
 | n + 1=>by
  have ih:=pc l k n
  have CS:=EL l n
  unfold lh
  by_cases hn:n ∈ l
  ·rw[if_pos hn,Nat.add_comm]
   rcases Nat.lt_trichotomy k n with h | h | h
   ·rw[Nat.testBit_two_pow_add_gt h,ih]
    simp[h,Nat.lt_succ_of_lt h]
   ·subst h
    rw[Nat.testBit_two_pow_add_eq,testBit_lt_two_pow CS]
    simp[hn]
   ·have hb:2 ^ n + lh l n < 2 ^ k:=by
     have:2 ^ (n + 1) <= 2 ^ k:=pow_le_pow_right (by decide) h
     rw[Nat.pow_succ]at this
     omega
    rw[testBit_lt_two_pow hb]
    have:¬k < n + 1:=by omega
    simp[this]
  ·rw[if_neg hn,ih]
   by_cases h:k=n
   ·subst h;simp[hn]
   ·have:k < n↔k < n + 1:=by omega
    simp[this]
theorem Ip(h:∀k ∈ l,k < n):lh l n=C5 l 0:=by
 apply Nat.eq_of_testBit_eq
 intro k
 rw[pc,Dc]
 by_cases hk:k ∈ l
 ·simp[hk,h k hk]
 ·simp[hk]
noncomputable def EM(m b:Nat):List Nat:=(List.range b).filter λk=>m.testBit k
theorem Ei(h:m < 2 ^ b):k ∈ EM m b↔m.testBit k=true:=by
 unfold EM
 rw[mem_filter,mem_range]
 constructor
 ·exact λz=>z.2
 ·intro z
  refine⟨?_,z⟩
  by_cases hk:k < b
  ·exact hk
  ·have:m < 2 ^ k:=lt_of_lt_of_le h (pow_le_pow_right (by decide) (by omega))
   rw[testBit_lt_two_pow this]at z
   cases z
theorem DP(m b:Nat):(EM m b).Pairwise (· < ·):=List.Pairwise.filter _ pairwise_lt_range
theorem Fn:∀{l r:List Int},l.Pairwise (· < ·)->r.Pairwise (· < ·)->(∀k,k ∈ l↔k ∈ r)->l=r
 | [],[],_,_,_=>rfl
 | [],y :: r,_,_,h=>by
  have:=(h y).mpr mem_cons_self
  cases this
 | x :: l,[],_,_,h=>by
  have:=(h x).mp mem_cons_self
  cases this
 | x :: l,y :: r,hl,hr,h=>by
  obtain⟨hx,Fo⟩:=pairwise_cons.mp hl
  obtain⟨hy,F7⟩:=pairwise_cons.mp hr
  have e:x=y:=by
   rcases mem_cons.mp ((h x).mp mem_cons_self) with z | z
   ·exact z
   ·rcases mem_cons.mp ((h y).mpr mem_cons_self) with z' | z'
    ·exact z'.symm
    ·have:=hx y z'
     have:=hy x z
     omega
  subst e
  congr 1
  refine Fn Fo F7 λk=>?_
  constructor
  ·intro z
   rcases mem_cons.mp ((h k).mp (mem_cons_of_mem _ z)) with q | q
   ·have:=hx k z;omega
   ·exact q
  ·intro z
   rcases mem_cons.mp ((h k).mpr (mem_cons_of_mem _ z)) with q | q
   ·have:=hy k z;omega
   ·exact q
theorem EN(m:Nat):m < 2 ^ (Builtin.Int.intBits (m:Int)):=by
 unfold Builtin.Int.intBits
 by_cases h:m=0
 ·subst h;simp
 ·have e:((m:Int) == 0)=false:=by simp[h]
  rw[e]
  simp only[Bool.false_eq_true,if_false,natAbs_natCast]
  exact Nat.lt_log2_self
theorem bits_le{m b:Nat}(h:m < 2 ^ b):Builtin.Int.intBits (m:Int) <= b:=by
 unfold Builtin.Int.intBits
 by_cases h0:m=0
 ·subst h0;simp
 ·have e:((m:Int) == 0)=false:=by simp[h0]
  rw[e]
  simp only[Bool.false_eq_true,if_false,natAbs_natCast]
  have:=(Nat.log2_lt h0).mpr h
  omega
theorem FO(m k:Nat):decide (Builtin.bitAnd ((m:Int) / 2 ^ k) 1=1)=m.testBit k:=by
 have e:((m:Int) / 2 ^ k)=((m / 2 ^ k:Nat):Int):=by
  rw[Int.natCast_ediv,Int.natCast_pow]
  rfl
 rw[e,show (1:Int)=((1:Nat):Int) from rfl,qZ,Nat.testBit_eq_decide_div_mod_eq]
 rw[Nat.and_one_is_mod]
 congr 1
 exact propext ⟨λz=>by exact_mod_cast z,λz=>by exact_mod_cast z⟩
end Yd
namespace L2
open PySem PySem.Spec PyProof.Rows
noncomputable def cp(cells:List (Str × Addr)):List (Str × NameKind)->List (Str × Addr)->List (Str × Addr)
 | [],acc=>acc
 | (n,k) :: r,acc=>if k == .free then cp cells r ((n,(cells.lookup n).getD 0) :: acc) else cp cells r acc
theorem gN(h:∀y ∈ scope.names,y.2 = .free->∃c,env.cells.lookup y.1=some c) :
  closureFor scope env=pure (cp env.cells scope.names []):=by
 unfold closureFor
 have key:∀(names:List (Str × NameKind))(acc:List (Str × Addr)),(∀y ∈ names,y.2 = .free->∃c,env.cells.lookup y.1=some c) ->
   (forIn names acc λ(x:Str × NameKind)(cs:List (Str × Addr))=>(match x with
    | (name,kind)=>if (kind == NameKind.free)=true then do
      let c ← cellOf env name
      pure (ForInStep.yield ((name,c) :: cs))
     else pure (ForInStep.yield cs):Sem (ForInStep (List (Str × Addr)))))=(pure (cp env.cells names acc):Sem (List (Str × Addr))):=by
  intro names
  induction names with
  | nil=>intro acc _;rfl
  | cons y r ih =>
   intro acc hy
   obtain⟨n,k⟩:=y
   rw[forIn_cons]
   by_cases hk:(k == NameKind.free)=true
   ·obtain⟨c,hc⟩:=hy (n,k) mem_cons_self (by simpa using hk)
    have e1:cellOf env n=pure c:=by
     unfold cellOf
     simp only[]at hc
     rw[hc]
    simp only[hk,if_true,e1,pure_bind]
    rw[ih _ λz hz=>hy z (mem_cons_of_mem _ hz)]
    unfold cp
    simp only[]at hc
    rw[if_pos hk,hc]
    conv=>rhs;unfold cp
    rfl
   ·simp only[hk,Bool.false_eq_true,if_false,pure_bind]
    rw[ih _ λz hz=>hy z (mem_cons_of_mem _ hz)]
    conv=>rhs;unfold cp
    rw[if_neg hk]
 exact(congrArg (λ(m:Sem (List (Str × Addr)))=>m >>= λz=>pure z) (key scope.names [] h)).trans (pure_bind _ _)
theorem eL :∀(names:List (Str × NameKind))(acc:List (Str × Addr)),(∀y ∈ names,y.2 = .free->∃c,cells.lookup y.1=some c) ->
  (∀c,acc.lookup x=some c->cells.lookup x=some c)->(cp cells names acc).lookup x=some c->cells.lookup x=some c
 | [],acc,_,ha,e=>ha c e
 | (n,k) :: r,acc,hn,ha,e=>by
  unfold cp at e
  have hr:=λz hz=>hn z (mem_cons_of_mem _ hz)
  split at e
  ·rename_i hk
   refine eL r _ hr (λc' e'=>?_) e
   rw[lookup_cons]at e'
   split at e'
   ·rename_i hx
    have Fy:x=n:=by simpa using hx
    subst Fy
    obtain⟨c0,Kk⟩:=hn (x,k) mem_cons_self (by simpa using hk)
    simp only[]at Kk
    rw[Kk]at e' ⊢
    exact e'
   ·exact ha c' e'
  ·exact eL r acc hr ha e
theorem fD :∀(names:List (Str × NameKind))(acc:List (Str × Addr)),((x,NameKind.free) ∈ names∨∃c,acc.lookup x=some c) ->
  ∃c,(cp cells names acc).lookup x=some c
 | [],acc,h=>by
  rcases h with h | h
  ·cases h
  ·exact h
 | (n,k) :: r,acc,h=>by
  unfold cp
  split
  ·rename_i hk
   refine fD r _ ?_
   rcases h with h | ⟨c,h⟩
   ·rcases mem_cons.mp h with h | h
    ·refine .inr ⟨(cells.lookup n).getD 0,?_⟩
     injection h with h1 h2
     rw[lookup_cons,h1]
     simp
    ·exact .inl h
   ·refine .inr ?_
    rw[lookup_cons]
    split
    ·exact⟨_,rfl⟩
    ·exact⟨c,h⟩
  ·rename_i hk
   refine fD r _ ?_
   rcases h with h | h
   ·rcases mem_cons.mp h with h | h
    ·injection h with h1 h2
     subst h2
     exact absurd rfl hk
    ·exact .inl h
   ·exact .inr h
theorem i7{env:Env}{x:Str}:∀{names:List (Str × NameKind)},names.lookup x=some .free ->
  (names.map λ(n,k)=>if (k == NameKind.free && env.scope.kind == .function && env.kindOf n == some .cell) then (n,NameKind.cell) else (n,k)).lookup x=some .cell ∨
  (names.map λ(n,k)=>if (k == NameKind.free && env.scope.kind == .function && env.kindOf n == some .cell) then (n,NameKind.cell) else (n,k)).lookup x=some .free
 | [],h=>by simp at h
 | (n,k) :: r,h=>by
  have ih:=@i7 env x r
  rw[map_cons]
  cases hx:x == n with
  | true =>
   rw[lookup_cons,hx]at h
   cases h
   simp only[]
   split
   ·left;rw[lookup_cons,hx]
   ·right;rw[lookup_cons,hx]
  | false =>
   rw[lookup_cons,hx]at h
   simp only[]
   split
   ·rw[lookup_cons,hx];exact ih h
   ·rw[lookup_cons,hx];exact ih h
theorem fO{env:Env}{x:Str}{k:NameKind}(hk:k = .cell∨k = .free):∀{names:List (Str × NameKind)},(∀y ∈ names,y.2 ≠ .cell) ->
  (names.map λ(n,k)=>if (k == NameKind.free && env.scope.kind == .function && env.kindOf n == some .cell) then (n,NameKind.cell) else (n,k)).lookup x=some k->(x,NameKind.free) ∈ names
 | [],_,h=>by simp at h
 | (n,k') :: r,hc,h=>by
  have ih:=@fO env x k hk r λy hy=>hc y (mem_cons_of_mem _ hy)
  rw[map_cons]at h
  simp only[]at h
  cases hx:x == n with
  | true =>
   have e:x=n:=by simpa using hx
   subst e
   split at h
   ·rename_i q
    have q':k' = .free:=by
     have:=(Bool.and_eq_true _ _ ▸ q:_/\_).1
     have:=(Bool.and_eq_true _ _ ▸ this:_/\_).1
     simpa using this
    rw[q']
    exact mem_cons_self
   ·rw[lookup_cons,hx]at h
    have e2:k' = k:=Option.some.inj h
    rcases hk with z | z
    ·exact absurd (e2.trans z) (hc (x,k') mem_cons_self)
    ·rw[e2,z];exact mem_cons_self
  | false =>
   split at h
   ·rw[lookup_cons,hx]at h;exact mem_cons_of_mem _ (ih h)
   ·rw[lookup_cons,hx]at h;exact mem_cons_of_mem _ (ih h)
section
abbrev md(ifs:List Expr)(env:Env):Sem Bool :=
 forIn ifs true λc r=>if r=true then do let ok ← isTrue c env (eval c env);pure (ForInStep.yield ok) else pure (ForInStep.yield r)
theorem p5(I:Nat->Shared->Prop)
  (turn:∀n s,I n s->wpAny (model prog w) A (pyNext it) (λr s1=>match r with
   | none=>R (.ok .next) s1
   | some v=>wpAny (model prog w) A (letOwnedTupleGo tg it v) (λ_ s2=>wpAny (model prog w) A (assign tg env v) (λ_ s3 =>
     wpAny (model prog w) A (md ifs env) (λok s4 =>
      if ok=true then wpAny (model prog w) A (eval elt env) (λx s5 =>
       wpAny (model prog w) A (call (.builtin "list.append") [acc,x]) (λ_ s6=>∃m,m < n/\I m s6) (λ_ _=>False) s5) (λ_ _=>False) s4
      else ∃m,m < n/\I m s4) (λ_ _=>False) s3) (λ_ _=>False) s2) (λ_ _=>False) s1) (λ_ _=>False) s)
  (n:Nat) (h:I n s):codeAny (model prog w) A (.compLoop (.ListComp elt [⟨tg,iter,ifs,0⟩] scope pos) 0 it acc env) R s:=by
 refine codeAny_loop rfl I (λn s hI=>?_) n h
 have no:∀{E':Value->Shared->Prop}(e:Value)(s':Shared),False->E' e s':=λ_ _ z=>z.elim
 show wpAny _ A (Sem.onRaise (compTurn (.ListComp elt [⟨tg,iter,ifs,0⟩] scope pos) 0 it acc env) λx=>do
  noteFrame x env
  theTreesLotGoes x) _ _ s
 refine wpAny_noted ?_
 rw[compTurn_list]
 refine wpAny_bind (wpAny_standAt (wpAny_bind (wpAny_mono (turn n s hI) (λr s1 h1=>?_) no)))
 cases r with
 | none=>exact wpAny_pure h1
 | some v =>
  refine wpAny_bind (wpAny_mono h1 (λ_ s2 h2=>?_) no)
  refine wpAny_bind (wpAny_mono h2 (λ_ s3 h3=>?_) no)
  refine wpAny_bind (wpAny_mono h3 (λok s4 h4=>?_) no)
  cases ok with
  | false=>exact wpAny_pure ⟨rfl,h4⟩
  | true =>
   refine wpAny_bind (wpAny_bind (wpAny_mono h4 (λx s5 h5=>?_) no))
   exact wpAny_bind (wpAny_mono h5 (λ_ s6 h6=>wpAny_pure (wpAny_pure ⟨rfl,h6⟩)) no)
end
def Ni(X:Cx)(ifs:List Expr)(t:TT):Prop :=
 ∀(pins:List (Addr × Obj))(s:Shared)(σ:St)(H:Hp)(Q:Bool->Hp->Prop),Inv X pins σ H s->t σ H Q->wpAny (model X.prog X.w) X.A (md ifs X.env) (TP X pins σ Q) X.xe s
def nP:TT:=λ_ H Q=>Q true H
theorem bd :Ni X [] nP:=λ_ _ _ H _ I h=>wpAny_pure ⟨H,I,h⟩
theorem cz(h:PT X c t):Ni X [c] t:=λpins s σ H Q I hw=>by
 simp only[md,forIn_cons,List.forIn_nil,if_true]
 exact wpAny_bind (wpAny_bind (bj (h pins s σ H Q I hw) λb s' hb=>wpAny_pure (wpAny_pure hb)))
structure CP(N:List Str)(sc scope:Scope)(capN:List Str)(cap:List Nat):Prop where
 kind:scope.kind = .function
 F8:∀y ∈ scope.names,y.2 ≠ .cell
 loc:∀y ∈ scope.names,y.2 = .local->scope.names.lookup y.1=some .local
 free:∀y ∈ scope.names,y.2 = .free->sc.names.lookup y.1=some .cell∨sc.names.lookup y.1=some .free
 len:cap.length=capN.length
 cap:∀p ∈ capN.zip cap,scope.names.lookup p.1=some .free/\N[p.2]? = some p.1
abbrev cj(X:Cx)(scope:Scope)(N:List Str)(C:Addr)(s:Shared)(H:Hp)(fp:List Addr):Cx :=
 { X with N:=N,s₀:=s,H₀:=H,env:=compEnvC scope (cp X.env.cells scope.names []) C X.env,outer:=X.stack,stack:=X.stack,ex:=fp,fn:=λ_=>false,pn:=[],xe:=λ_ _=>False }
noncomputable def jf(n:Nat)(cap:List Nat)(σ:St):St:=List.replicate n none ++ cap.map λj=>(σ[j]?).join
theorem pA(n:Nat)(cap:List Nat)(σ:St):(jf n cap σ).length=n + cap.length:=by simp[jf]
section
variable {X:Cx}{pins:List (Addr × Obj)}{σ:St}{H:Hp}{s:Shared}{scope:Scope}{own capN:List Str}{cap:List Nat}{fp:List Addr}
theorem CP.Kl(B:CP X.N X.env.scope scope capN cap)(ok:X.Ok):∀y ∈ scope.names,y.2 = .free->∃c,X.env.cells.lookup y.1=some c:=λy hy hf=>ok.has y.1 (B.free y hy hf)
theorem CP.cell(B:CP X.N X.env.scope scope capN cap)(ok:X.Ok)(h:(cp X.env.cells scope.names []).lookup x=some c):X.env.cells.lookup x=some c :=
 eL scope.names [] (B.Kl ok) (λ_ e=>by cases e) h
theorem CP.locs(I:Inv X pins σ H s)(B:CP X.N X.env.scope scope capN cap)(k:∀x c v,X.env.cells.lookup x=some c->s.heap.IsCell c v->h'.IsCell c v)(C:Addr)(m0:Str->Option Value) :
  ∀(i:Nat)(x:Str)(v:V),(own ++ capN)[i]? = some x->(jf own.length cap σ)[i]? = some (some v)->∃u,RelV v u/\Look (compEnvC scope (cp X.env.cells scope.names []) C X.env) h' m0 x u:=by
 intro i x v e1 e2
 have hi:own.length <= i:=by
  by_cases q:own.length <= i
  ·exact q
  ·unfold jf at e2
   rw[getElem?_append_left (by simp;omega),List.getElem?_replicate,if_pos (by omega)]at e2
   cases e2
 have e1':capN[i - own.length]? = some x:=by
  rwa [getElem?_append_right hi]at e1
 unfold jf at e2
 rw[getElem?_append_right (by simpa using hi),length_replicate,getElem?_map]at e2
 cases ej:cap[i - own.length]? with
 | none=>rw[ej]at e2;cases e2
 | some j =>
  rw[ej]at e2
  have QR:(σ[j]?).join=some v:=Option.some.inj e2
  have e3':σ[j]? = some (some v):=by
   cases q:σ[j]? with
   | none=>rw[q]at QR;cases QR
   | some u=>rw[q]at QR;exact congrArg some QR
  have hz:(x,j) ∈ capN.zip cap:=by
   refine List.mem_iff_getElem?.mpr ⟨i - own.length,?_⟩
   rw[List.getElem?_zip_eq_some]
   exact⟨e1',ej⟩
  obtain⟨c1,c2⟩:=B.cap (x,j) hz
  have Yq:(x,NameKind.free) ∈ scope.names:=PySem.mem_of_lookup c1
  have hX:=B.free _ Yq rfl
  obtain⟨m,hm,hl⟩:=I.loc
  obtain⟨u,ru,lk⟩:=hl j x v c2 e3' (hX.elim (λz => .inr (.inl z)) λz => .inr (.inr z))
  refine⟨u,ru, .inr ⟨i7 c1,?_⟩⟩
  rcases lk with ⟨q,_⟩ | ⟨_,c,ec,ic⟩
  ·have q':X.env.scope.names.lookup x=some .local:=q
   rcases hX with z | z
   ·rw[z]at q';cases q'
   ·rw[z]at q';cases q'
  ·obtain⟨c',Yr⟩:=fD (cells:=X.env.cells) (x:=x) scope.names [] (.inl Yq)
   have:=B.cell I.ok Yr
   rw[ec]at this
   cases this
   exact⟨c,Yr,k x c _ ec ic⟩
theorem Inv.blk{C:Addr}(I:Inv X pins σ H s)(B:CP X.N X.env.scope scope capN cap)(hC:s.heap.objs.size <= C)(k:∀b o,s.heap.get? b=some o->h4.get? b=some o)
  (hn:h4.Ns C m0) (hf:∀b ∈ fp,gF X pins H b) (CS:∀b ∈ fp,b < s.heap.objs.size) :
  Inv (cj X scope (own ++ capN) C s H fp) [] (jf own.length cap σ) H { s with heap:=h4,toks:=tk }:=by
 have Tq:∀b ∈ fp,b ∉ sr X.stack:=λb hb z=>by
  obtain⟨_,f1,f2,_⟩:=hf b hb
  rcases mem_cons.mp (I.EJ b z) with e | e
  ·exact f1 e
  ·exact f2 e
 have hinv:∀x,((relabel scope X.env).names.lookup x=some .cell∨(relabel scope X.env).names.lookup x=some .free)->(x,NameKind.free) ∈ scope.names:=λx hx=>by
  rcases hx with q | q
  ·exact fO (.inl rfl) B.F8 q
  ·exact fO (.inr rfl) B.F8 q
 refine⟨⟨I.ok.mod,B.kind,I.ok.glob,I.ok.blt,hC,λx y c h1 h2=>I.ok.inj x y c (B.cell I.ok h1) (B.cell I.ok h2),λx hx=>fD scope.names [] (.inl (hinv x hx)),λ_ _ z=>absurd z Bool.false_ne_true,I.ok.hd,I.ok.frames, .inl rfl,
  λb hb=>⟨ne_of_lt (lt_of_lt_of_le (CS b hb) hC),λx c e=>(hf b hb).2.2.2.2.1 x c (B.cell I.ok e)⟩,I.bs,le_trans I.ok.Ij I.sz,λb o e hb=>?_,λb hb=>Tq b hb,I.stack,I.FJ⟩,
  rfl,I.bare,Un.kept k,⟨m0,hn,λi x v e1 e2 _=>B.locs I (λ_ _ _ _ q=>q.keeps k) C m0 i x v e1 e2⟩,λx c e=>?_,I.Ci.fresh hC,λx c e=>I.CU x c (B.cell I.ok e),λp hp=>absurd (show p ∈ ([]:List (Addr × Obj)) from hp) (by simp),I.Ci.kept k,?_⟩
 ·rcases (hf b hb).2.2.2.1 with z | z
  ·exact I.ok.Hk b o e z
  ·exact absurd (lt_of_lt_of_le (lt_size e) (le_trans I.ok.Ij z)) (lt_irrefl _)
 ·obtain⟨v,q⟩:=I.cell x c (B.cell I.ok e)
  exact⟨v,q.keeps k⟩
 ·show(jf own.length cap σ).length=(own ++ capN).length
  rw[pA,length_append,B.len]
theorem Inv.reset{σ':St}(I:Inv X pins σ H s)(B:CP X.N X.env.scope scope capN cap)(hf:∀b ∈ fp,gF X pins H b)(J:Inv (cj X scope (own ++ capN) C s H fp) Fb σ' H' s') :
  Inv (cj X scope (own ++ capN) C s H fp) Fb (jf own.length cap σ) H' s':=by
 obtain⟨m,hn,_⟩:=J.loc
 refine⟨J.ok,J.os,J.bare,J.base,⟨m,hn,λi x v e1 e2 _=>?_⟩,J.cell,J.free,J.CU,J.pin,J.Ci,?_⟩
 ·refine B.locs I (λy c v' ec ic=>?_) C m i x v e1 e2
  obtain⟨o,ho,hd⟩:=ic
  have hx:c ∉ fp:=λz=>(hf c z).2.2.2.2.1 y c ec rfl
  obtain⟨sl,e⟩:=J.base.any ho (I.CU y c ec) hx
  exact⟨_,e,hd⟩
 ·show(jf own.length cap σ).length=(own ++ capN).length
  rw[pA,length_append,B.len]
theorem Inv.adopt(I:Inv X pins σ H s)(hn:H D=none)(h0:X.s₀.heap.objs.size <= D)(hL:D ≠ X.env.locals)(hc:∀x c,X.env.cells.lookup x=some c->c ≠ D)(hp:∀p ∈ X.pn ++ pins,p.1 ≠ D)
  (new:C1 X.prog X.w (upd H D o) s.heap D o):Inv X pins σ (upd H D o) s:=by
 have ne:∀b u,H b=some u->b ≠ D:=λb u e=>aj e hn
 refine⟨I.ok,I.os,I.bare,⟨I.base.keep,I.base.slot,λb ob e n hx=>?_,I.base.there,λb xs e=>?_,λb ob u e=>?_,λb ps e=>?_⟩,I.loc,I.cell,?_,λx c e=>?_,λp GX=>?_,λb u e=>?_,I.len⟩
 ·rw[ah (ne_of_lt (lt_of_lt_of_le (lt_size e) h0))]
  exact I.base.free b ob e n hx
 ·have q:=I.base.EH b xs e
  rw[ah (ne b _ q)];exact q
 ·have q:=I.base.Ex b ob u e
  rw[ah (ne b _ q)];exact q
 ·obtain⟨more,q⟩:=I.base.EI b ps e
  exact⟨more,by rw[ah (ne b _ q)];exact q⟩
 ·rw[ah (Ne.symm hL)];exact I.free
 ·rw[ah (hc x c e)];exact I.CU x c e
 ·obtain⟨e,n,r⟩:=I.pin p GX
  exact⟨e,by rw[ah (hp p GX)];exact n,r⟩
 ·by_cases hb:b=D
  ·subst hb;rw[ad]at e;cases e;exact new
  ·rw[ah hb]at e
   exact(I.Ci b u e).Ef (λ_ _ _ q=>q) (λc q=>by rw[ah (ne c _ q)];exact q) λc xs q=>by rw[ah (ne c _ q)];exact q
end
def dZ(J:It)(g:TG)(tt:TT)(te:TE)(σ0:St)(Q:VK)(H1:Hp):Prop:=∃W:Nat->Nat->List V->Hp->Prop,(∃m,W 0 m [] H1)/\∀i m acc H,W i m acc H ->
 acc.length < sizeLine/\((J.stop i H/\∀D,H D=none->Q (.ref D) (upd H D (.lst acc)))∨(J.go i H/\∃N:List V->Hp->Prop,(∀CT H',N CT H'->∃m',m' < m/\W (i + 1) m' CT H') /\
  ∀x H',J.Hm i H x H'->g x σ0 H' λσ2 H2=>tt σ2 H2 λb H3=>if b=true then te σ2 H3 λy H4=>N (acc ++ [y]) H4 else N acc H3))
def zt(wi:TI)(g:TG)(tt:TT)(te:TE)(n:Nat)(cap:List Nat):TE:=λσ H Q=>wi σ H λJ H1=>dZ J g tt te (jf n cap σ) Q H1
section
abbrev ng(Cd:List Value)(k:Nat):Obj:={ cls := .type "list",data := .seq Cd.toArray k }
theorem py{σ:St}{Q:VK}(B:CP X.N X.env.scope scope capN cap)(hc:X.calm=true)
  (hb:∀(C:Addr)(s:Shared)(H:Hp)(fp:List Addr),PG (cj X scope (own ++ capN) C s H fp) tg g/\Ni (cj X scope (own ++ capN) C s H fp) ifs tt/\PE (cj X scope (own ++ capN) C s H fp) elt te)
  (I:Inv X pins σ H s) (T:nD X.prog X.w X.K tg J fp it tn) (st:tn 0 s.heap) (hf:∀b ∈ fp,gF X pins H b) {W:Nat->Nat->List V->Hp->Prop} (w0:W 0 m0 [] H)
  (turn:∀i m acc H,W i m acc H->acc.length < sizeLine/\((J.stop i H/\∀D,H D=none->Q (.ref D) (upd H D (.lst acc)))∨(J.go i H/\∃N:List V->Hp->Prop,(∀CT H',N CT H'->∃m',m' < m/\W (i + 1) m' CT H') /\
   ∀x H',J.Hm i H x H'->g x (jf own.length cap σ) H' λσ2 H2=>tt σ2 H2 λb H3=>if b=true then te σ2 H3 λy H4=>N (acc ++ [y]) H4 else N acc H3)))
  {RR:Value->Addr->Result->Shared->Prop}
  (fin:∀(D C:Addr)(H':Hp)(s':Shared),Q (.ref D) H'->Inv X pins σ H' s'->(∃m,s'.heap.Ns C m)->H' C=none->C ≠ X.env.locals->X.s₀.heap.objs.size <= C->(∀x c,X.env.cells.lookup x=some c->c ≠ C)->(∀p ∈ X.pn ++ pins,p.1 ≠ C) ->
   RR (.ref D) C (.ok .next) s') :
  wpAny (model X.prog X.w) X.A (newList []) (λacc s3=>wpAny (model X.prog X.w) X.A (newFunctionEnv scope X.env.globals (cp X.env.cells scope.names []) [] X.env.qual none .none (some X.env)) (λNj s4 =>
   codeAny (model X.prog X.w) X.A (.compStart (.ListComp elt [⟨tg,iter,ifs,0⟩] scope pos) 0 (.ref it) acc { Nj with scope:=relabel scope X.env }) (RR acc Nj.locals) s4) X.xe s3) X.xe s:=by
 refine wpAny_newObj_type (wpAny_newFunctionEnv B.F8 (by intro y hy;simp at hy) (λh1 L5 Jk=>?_) B.kind)
 dsimp only at L5 Jk ⊢
 generalize Hr:s.heap.push { cls := .type "list",dict:=none,data := .seq ([]:List Value).toArray } = H2 at L5 Jk ⊢
 have hCs:H2.objs.size=s.heap.objs.size + 1:=by rw[←Hr,size_push]
 have F9:s.heap.objs.size <= H2.objs.size:=by omega
 have Iq:∀b ∈ fp,b < s.heap.objs.size:=λb hb=>by
  obtain⟨o,e,_⟩:=T.obj 0 s.heap st b hb
  exact lt_size e
 have old:∀b o,s.heap.get? b=some o->h1.get? b=some o:=λb o e =>
  Jk.extBut b o (ne_of_lt (lt_of_lt_of_le (lt_size e) F9)) (Heap.get?_push_of_some _ (Hr ▸ Heap.get?_push_of_some _ e))
 have QS:s.heap.objs.size ≠ H2.objs.size:=by omega
 have Tr:h1.get? s.heap.objs.size=some (ng [] 0):=Jk.extBut _ _ QS (Heap.get?_push_of_some _ (Hr ▸ Heap.get?_push_size _ rfl))
 have I4:Inv (cj X scope (own ++ capN) H2.objs.size s H fp) [] (jf own.length cap σ) H { s with heap:=h1,toks:=s.toks + ([]:List (Str × Value)).length }:=I.blk (own:=own) B F9 old L5 hf Iq
 have Tq:∀b ∈ fp,b ∉ sr X.stack:=λb hb z=>by
  obtain⟨_,f1,f2,_⟩:=hf b hb
  rcases mem_cons.mp (I.EJ b z) with e | e
  ·exact f1 e
  ·exact f2 e
 have Ir:∀b ∈ sr X.stack,b < s.heap.objs.size:=λb hb=>by
  obtain⟨_,o,ho,_⟩:=I.stack.mem hb
  exact lt_size ho
 have FA:∀x c,X.env.cells.lookup x=some c->c < s.heap.objs.size:=λx c e=>by
  obtain⟨v,q⟩:=I.cell x c e
  exact q.lt
 have Jl:∀(H':Hp)(h':Heap)(Cd:List Value)(k:Nat),H' s.heap.objs.size=none->h'.get? s.heap.objs.size=some (ng Cd k) ->
   ∀p ∈ [(s.heap.objs.size,ng Cd k)],h'.get? p.1=some p.2/\H' p.1=none/\p.1 ≠ (cj X scope (own ++ capN) H2.objs.size s H fp).env.locals/\p.1 ∉ (cj X scope (own ++ capN) H2.objs.size s H fp).fs/\∀v,p.2.data ≠ .cell v:=λH' h' Cd k hn he p hp=>by
  have e:p=(s.heap.objs.size,ng Cd k):=by simpa using hp
  subst e
  exact⟨he,hn,QS,λz=>absurd (Ir _ z) (lt_irrefl _),λv z=>by cases z⟩
 have stat:∀(H':Hp)(Cd:List Value)(k:Nat),(∀b ∈ fp,H' b=none)->∀b ∈ fp,gF (cj X scope (own ++ capN) H2.objs.size s H fp) [(s.heap.objs.size,ng Cd k)] H' b:=λH' Cd k hn b hb =>
  ⟨hn b hb,ne_of_lt (lt_of_lt_of_le (Iq b hb) F9),Tq b hb, .inl hb,λx c e=>(hf b hb).2.2.2.2.1 x c (B.cell I.ok e),λp hp=>by
   have e:p=(s.heap.objs.size,ng Cd k):=by simpa using hp
   subst e
   exact ne_of_gt (Iq b hb)⟩
 have loop:∀s3:Shared,s3 = { s with heap:=h1,toks:=s.toks + ([]:List (Str × Value)).length } ->
   codeAny (model X.prog X.w) X.A (.compLoop (.ListComp elt [⟨tg,iter,ifs,0⟩] scope pos) 0 (.ref it) (.ref s.heap.objs.size) (compEnvC scope (cp X.env.cells scope.names []) H2.objs.size X.env))
    (RR (.ref s.heap.objs.size) H2.objs.size) s3:=by
  rintro s3 rfl
  refine p5 (λn s'=>∃i acc Cd k H',Inv (cj X scope (own ++ capN) H2.objs.size s H fp) [(s.heap.objs.size,ng Cd k)] (jf own.length cap σ) H' s'/\tn i s'.heap/\(∀b ∈ fp,H' b=none)/\Vals acc Cd/\W i n acc H') ?_ m0
   ⟨0,[],[],0,H,I4.Dv (Jl _ _ _ _ (I.Ci.fresh (le_refl _)) Tr),T.keep 0 s.heap h1 st λb _ o e=>old b o e,λb hb=>(hf b hb).1, .nil,w0⟩
  rintro n s5 ⟨i,acc,Cd,k,H5,I5,L0,QK,rv,w5⟩
  obtain⟨hsz,Nk⟩:=turn i n acc H5 w5
  obtain⟨hgt,HS,hte⟩:=hb H2.objs.size s H fp
  rcases Nk with ⟨stop,q⟩ | ⟨go,N,hN,step⟩
  ·refine bj (T.done (cj X scope (own ++ capN) H2.objs.size s H fp) rfl rfl rfl hc i _ s5 _ H5 _ I5 (stat H5 Cd k QK) L0 stop) λr s6 Cc=>?_
   obtain⟨hr,I6⟩:=Cc
   subst hr
   obtain⟨hD,Iu,_⟩:=I6.pin (s.heap.objs.size,ng Cd k) (by simp)
   have J1:Inv X pins σ H5 s6:=I.M7 (s':=s6) (ch:=fp) I6.os I6.base I6.Ci I6.bare λb hb=>by
    obtain⟨_,f1,_,f3,f4,f5⟩:=hf b hb
    exact⟨f3,f1,f4,f5⟩
   have J2:Inv X pins σ (upd H5 s.heap.objs.size (.lst acc)) s6:=J1.adopt Iu I.sz (ne_of_gt I.lt) (λx c e=>ne_of_lt (FA x c e)) (λp hp=>ne_of_lt (lt_size (I.pin p hp).1)) ⟨le_of_lt hsz,Cd,k,rv,hD⟩
   obtain⟨mC,Nl,_⟩:=I6.loc
   refine fin _ _ _ s6 (q _ Iu) J2 ⟨mC,Nl⟩ (by rw[ah (Ne.symm QS)];exact I6.free) (ne_of_gt (lt_of_lt_of_le I.lt F9)) (le_trans I.sz F9) (λx c e=>ne_of_lt (lt_of_lt_of_le (FA x c e) F9)) λp hp =>
    ne_of_lt (lt_of_lt_of_le (lt_size (I.pin p hp).1) F9)
  ·refine bj (T.item (cj X scope (own ++ capN) H2.objs.size s H fp) rfl rfl rfl hc i _ s5 _ H5 _ I5 (stat H5 Cd k QK) L0 go) λr s6 Cc=>?_
   obtain⟨u,hr,h6⟩:=Cc
   subst hr
   refine bj h6 λ_ s7 Cc=>?_
   obtain⟨x,H7,I7,r7,y7,Tt,fr7⟩:=Cc
   have I7':=I7.pinned (stat H7 Cd k fr7) (T.obj _ _ Tt)
   refine bj (hgt _ s7 _ H7 x u _ I7' r7 (step x H7 y7)) λ_ s8 Cc=>?_
   obtain⟨σ8,H8,I8,q8⟩:=Cc
   refine bj (HS _ s8 σ8 H8 _ I8 q8) λb s9 Cc=>?_
   obtain⟨H9,I9,q9⟩:=Cc
   have Yt:∀{H':Hp}{s':Shared}{σ':St},Inv (cj X scope (own ++ capN) H2.objs.size s H fp) (fj fp s7.heap) σ' H' s'->tn (i + 1) s'.heap/\∀b ∈ fp,H' b=none:=λ{H' s' σ'} K=>by
    refine⟨T.keep _ _ _ Tt λb hb o e=>(K.pin (b,o) (fA hb e)).1,λb hb=>?_⟩
    obtain⟨o,e,_⟩:=T.obj _ _ Tt b hb
    exact(K.pin (b,o) (fA hb e)).2.1
   cases b with
   | false =>
    rw[if_neg Bool.false_ne_true]
    obtain⟨m',hm,w9⟩:=hN acc H9 (by simpa using q9)
    have K9:Inv (cj X scope (own ++ capN) H2.objs.size s H fp) (fj fp s7.heap) σ8 H9 s9:=I9.Dv λp hp=>I9.pin p (mem_append_right _ (mem_append_right _ hp))
    obtain⟨t9,f9⟩:=Yt K9
    exact⟨m',hm,i + 1,acc,Cd,k,H9,I.reset B hf I9.DC,t9,f9,rv,w9⟩
   | true =>
    rw[if_pos rfl]
    have q9':te σ8 H9 λy H4=>N (acc ++ [y]) H4:=by simpa using q9
    refine bj (hte _ s9 σ8 H9 _ I9 q9') λyv Jm Cc=>?_
    obtain⟨y,Hs,Tu,r10,q10⟩:=Cc
    obtain⟨hD,Iu,_⟩:=Tu.pin (s.heap.objs.size,ng Cd k) (by simp)
    have hlen:=rv.length
    refine wpAny_list_append_plain ⟨k,hD⟩ (λh' Df Km=>?_) (by rw[size_toArray];omega)
    obtain⟨k',hD'⟩:=Df
    obtain⟨m',hm,w10⟩:=hN (acc ++ [y]) Hs q10
    have K10:Inv (cj X scope (own ++ capN) H2.objs.size s H fp) (fj fp s7.heap) σ8 Hs Jm:=Tu.Dv λp hp=>Tu.pin p (mem_append_right _ (mem_append_right _ hp))
    have Yu:Inv (cj X scope (own ++ capN) H2.objs.size s H fp) (fj fp s7.heap) σ8 Hs { Jm with heap:=h' }:=K10.turned (t':=Jm.toks) (it:=s.heap.objs.size) (λb o hb e=>(Km.2 b hb).trans e) Iu QS (.inr (le_refl _))
     (λx c e=>ne_of_lt (FA x c (B.cell I.ok e))) λp hp=>by
      obtain⟨hb,_⟩:=lB (show p ∈ fj fp s7.heap from hp)
      exact ne_of_lt (Iq p.1 hb)
    obtain⟨t11,QT⟩:=Yt Yu
    refine⟨m',hm,i + 1,acc ++ [y],Cd ++ [yv],k',Hs,?_,t11,QT,rv.append (.cons r10 .nil),w10⟩
    refine I.reset B hf (Yu.Dv (Jl _ _ _ _ Iu ?_))
    show h'.get? s.heap.objs.size=some { cls := .type "list",data := .seq (Cd ++ [yv]).toArray k' }
    rw[show(Cd ++ [yv]).toArray=Cd.toArray.push yv by simp]
    exact hD'
 exact codeAny_compStart_list (loop _ rfl) (T.self X.A 0 _ _ _ (T.keep 0 s.heap h1 st λb _ o e=>old b o e) (loop _ rfl))
theorem aT(B:CP X.N X.env.scope scope capN cap)(hc:X.calm=true)(hi:PI X tg iter wi)
  (hb:∀(C:Addr)(s:Shared)(H:Hp)(fp:List Addr),PG (cj X scope (own ++ capN) C s H fp) tg g/\Ni (cj X scope (own ++ capN) C s H fp) ifs tt/\PE (cj X scope (own ++ capN) C s H fp) elt te)
  (hs:autoParam (∀x,foldedSetIterable iter X.env x=pure x) ψ):PE X (.ListComp elt [⟨tg,iter,ifs,0⟩] scope pos) (zt wi g tt te own.length cap):=by
 intro pins s σ H Q I h
 rw[eval_ListComp]
 refine wpAny_comprehension_free (use:=none) rfl hs (gN (B.Kl I.ok)) B.kind B.loc (bj (hi pins s σ H _ I h) λv s1 h1=>bj h1 λQI s2 h2=>?_)
 obtain⟨it,fp,tn,J,H2,e,I2,T,Jj,f2,W,⟨m0,w0⟩,turn⟩:=h2
 subst e
 refine py (own:=own) B hc hb I2 T Jj f2 w0 turn (RR:=λacc C=>compPost (model X.prog X.w) X.A X.xe none (EP X pins σ Q) acc C) λD C H' s' q J2 ⟨mC,Nl⟩ fC n1 n2 n3 n4=>?_
 refine⟨mC,Nl,λh' Jk=>⟨.ref D,H',?_,rfl,q⟩⟩
 exact J2.turned (t':=s'.toks) (it:=C) (λb o hb e=>(Jk.2 b hb).trans e) fC n1 (.inr n2) n3 n4
theorem ca(B:CP X.N X.env.scope scope capN cap)(hc:X.calm=true)(hN:X.N.Nodup)(hx:X.N[i]? = some x)(hl:X.env.scope.names.lookup x=some .local)(hi:PI X tg iter wi)
  (hb:∀(C:Addr)(s:Shared)(H:Hp)(fp:List Addr),PG (cj X scope (own ++ capN) C s H fp) tg g/\Ni (cj X scope (own ++ capN) C s H fp) ifs tt/\PE (cj X scope (own ++ capN) C s H fp) elt te)
  (hsw:autoParam (swapsWith (.ListComp elt [⟨tg,iter,ifs,0⟩] scope pos) (some (.Name x px)) Nm.line X.env=pure true) η)
  (hs:autoParam (∀x,foldedSetIterable iter X.env x=pure x) ψ):PS X (.Assign [.Name x px] (.ListComp elt [⟨tg,iter,ifs,0⟩] scope pos) Nm) (Aj (zt wi g tt te own.length cap) (dF i)):=by
 intro pins s σ H D0 I h
 rw[exec_Assign_Name_used _ _ _ _ hsw]
 refine wpAny_bind (wpAny_standAt (wpAny_bind ?_))
 show wpAny _ X.A (do
  let _ ← comprehension (.ListComp elt [⟨tg,iter,ifs,0⟩] scope pos) scope X.env _ (newList []) false (eval iter X.env) (some (assign (.Name x px) X.env))) _ _ s
 refine wpAny_bind (wpAny_mono (wpAny_comprehension_free (use:=some (assign (.Name x px) X.env)) (Q:=λ_ s'=>SP X pins D0 .next s') rfl hs (gN (B.Kl I.ok)) B.kind B.loc
  (bj (hi pins s σ H _ I h) λv s1 h1=>bj h1 λQI s2 h2=>?_)) (λ_ s' hq=>wpAny_pure (wpAny_pure hq)) λ_ _ e=>e)
 obtain⟨it,fp,tn,J,H2,e,I2,T,Jj,f2,W,⟨m0,w0⟩,turn⟩:=h2
 subst e
 refine py (own:=own) (Q:=λx H1=>dF i x σ H1 D0.nx) B hc hb I2 T Jj f2 w0 turn (RR:=λacc C=>compPost (model X.prog X.w) X.A X.xe (some (assign (.Name x px) X.env)) (λ_ s'=>SP X pins D0 .next s') acc C) λD C H' s' q J2 ⟨mC,Nl⟩ fC n1 n2 n3 n4=>?_
 show wpAny _ X.A (assign (.Name x px) X.env (.ref D)) _ _ s'
 refine wpAny_assign_Name (lu J2 hN hx (.inl hl) (show RelV (.ref D) (.ref D) from rfl) (λMX J3 Cc=>?_) (.inr hl))
 obtain⟨a,Jk,ha⟩:=Cc
 have hCa:C ≠ a:=by
  rcases ha with z | z
  ·rw[z];exact n1
  ·exact(n3 x a z).symm
 refine⟨mC,Nl.sameBut Jk hCa,λh' Km=>⟨_,H',?_,q⟩⟩
 exact J3.turned (t':=MX.toks) (it:=C) (λb o hb e=>(Km.2 b hb).trans e) fC n1 (.inr n2) n3 n4
end
mutual
inductive Den(K:Frag)(H:Hp):V->PyData->Prop
 | Cp:Den K H .Cp .none
 | bl (b:Bool):Den K H (.bl b) (.bool b)
 | int (i:Int):Den K H (.int i) (.int i)
 | str (x:Str):Den K H (.str x) (.str x)
 | lst {a:Addr} {xs:List V} {ds:List PyData}:Cb K H a xs->CW K H xs ds->Den K H (.ref a) (.list ds)
 | tup {a:Addr} {xs:List V} {ds:List PyData}:Ck K H a xs->CW K H xs ds->Den K H (.ref a) (.tuple ds)
inductive CW(K:Frag)(H:Hp):List V->List PyData->Prop
 | nil:CW K H [] []
 | cons {x:V} {d:PyData} {xs:List V} {ds:List PyData}:Den K H x d->CW K H xs ds->CW K H (x :: xs) (d :: ds)
end
section
mutual
theorem Inv.den(I:Inv X pins σ H s):∀{x:V}{d:PyData}{u:Value},Den X.K H x d->RelV x u->∃as,Reads s.heap u d as
 | _,_,_, .Cp,r=>by cases r;exact⟨_, .none⟩
 | _,_,_, .bl b,r=>by cases r;exact⟨_, .bool b⟩
 | _,_,_, .int i,r=>by obtain⟨t,rfl⟩:=r;exact⟨_, .int i t⟩
 | _,_,_, .str x,r=>by obtain⟨t,rfl⟩:=r;exact⟨_, .str x t⟩
 | _,_,_, .lst hq hd,r=>by
  cases r
  obtain⟨Cd,rv,⟨o,n,e,hc,_,Tv⟩,_⟩:=I.list hq
  obtain⟨as,q⟩:=I.Kn hd rv
  exact⟨_, .list e hc Tv (by simpa using q)⟩
 | _,_,_, .tup hq hd,r=>by
  cases r
  obtain⟨Cd,rv,⟨o,e,hc,n,Tv⟩,_⟩:=I.tuple hq
  obtain⟨as,q⟩:=I.Kn hd rv
  exact⟨_, .tuple e hc Tv (by simpa using q)⟩
theorem Inv.Kn(I:Inv X pins σ H s):∀{xs:List V}{ds:List PyData}{us:List Value},CW X.K H xs ds->Vals xs us->∃as,ReadsAll s.heap us ds as
 | _,_,_, .nil, .nil=>⟨_, .nil⟩
 | _,_,_, .cons hd hr, .cons r rr=>by
  obtain⟨as,q⟩:=I.den hd r
  obtain⟨bs,q'⟩:=I.Kn hr rr
  exact⟨_, .cons q q'⟩
end
def Nn(K:Frag):R2:=λx y H Q=>∃da db,Den K H x da/\Den K H y db/\SeqAt.shaped da=true/\SeqAt.shaped db=true/\Q (.bl (PyData.eqv da db)) H
def AJ(K:Frag):R2:=λx y H Q=>∃da db,Den K H x da/\Den K H y db/\SeqAt.shaped da=true/\SeqAt.shaped db=true/\Q (.bl (!PyData.eqv da db)) H
end
section
theorem AX(hu:X.A.units + 64 < cLine):eW X (compareOp .Eq) (Nn X.K):=by
 intro pins s σ H x y v u Q I rx ry h
 obtain⟨da,db,h1,h2,h3,h4,q⟩:=h
 obtain⟨as,r1⟩:=I.den h1 rx
 obtain⟨bs,r2⟩:=I.den h2 ry
 exact SeqAt.compareEq_shaped r1 r2 h3 h4 hu ⟨.bl _,H,I,rfl,q⟩
theorem iU(hu:X.A.units + 64 < cLine):eW X (compareOp .NotEq) (AJ X.K):=by
 intro pins s σ H x y v u Q I rx ry h
 obtain⟨da,db,h1,h2,h3,h4,q⟩:=h
 obtain⟨as,r1⟩:=I.den h1 rx
 obtain⟨bs,r2⟩:=I.den h2 ry
 exact SeqAt.compareNe_shaped r1 r2 h3 h4 hu ⟨.bl _,H,I,rfl,q⟩
theorem lP{K:Frag}:∀ns:List Int,CW K H (ns.map V.int) (ns.map PyData.int)
 | [] => .nil
 | n :: r => .cons (.int n) (lP r)
theorem ph{K:Frag}{ns:List Int}(h:Cb K H a (ns.map V.int)):Den K H (.ref a) (.list (ns.map PyData.int)) := .lst h (lP ns)
def Tw(K:Frag):R2:=λx y H Q=>∃(p q:Addr)(ns ms:List Int),x = .ref p/\y = .ref q/\Cb K H p (ns.map V.int)/\Cb K H q (ms.map V.int)/\Q (.bl (!decide (ns=ms))) H
theorem vM(hu:X.A.units + 64 < cLine):eW X (compareOp .NotEq) (Tw X.K):=by
 intro pins s σ H x y v u Q I rx ry h
 obtain⟨p,q,ns,ms,rfl,rfl,h1,h2,q⟩:=h
 refine iU hu pins s σ H _ _ v u Q I rx ry ⟨_,_,ph h1,ph h2,PySem.W.shaped_ints ns,PySem.W.shaped_ints ms,?_⟩
 simp only[PyData.eqv,PySem.W.ked_eqvAll]
 exact q
def Tx(K:Frag):List V->Hp->VK->Prop:=λxs H Q =>
 (∃i,xs=[.int i, .ty "int"]/\Q (.bl true) H)∨(∃i,xs=[.int i, .ty "bool"]/\Q (.bl false) H)∨(∃p ys,xs=[.ref p, .ty "list"]/\Cb K H p ys/\Q (.bl true) H)∨(∃p ys,xs=[.ref p, .ty "tuple"]/\Ck K H p ys/\Q (.bl true) H)
theorem p9:CA X (.builtin "isinstance") (Tx X.K):=by
 intro pins s σ H xs us Q I r h
 rcases h with ⟨i,rfl,q⟩ | ⟨i,rfl,q⟩ | ⟨p,ys,rfl,hq,q⟩ | ⟨p,ys,rfl,hq,q⟩
 ·cases r with
  | cons r1 r2 =>
   cases r2 with
   | cons r2 r3 =>
    cases r3
    obtain⟨t,rfl⟩:=r1
    cases r2
    exact IsiPair.int_int ⟨.bl true,H,I,rfl,q⟩
 ·cases r with
  | cons r1 r2 =>
   cases r2 with
   | cons r2 r3 =>
    cases r3
    obtain⟨t,rfl⟩:=r1
    cases r2
    exact IsiPair.int_bool ⟨.bl false,H,I.tok _,rfl,q⟩
 ·cases r with
  | cons r1 r2 =>
   cases r2 with
   | cons r2 r3 =>
    cases r3
    cases r1
    cases r2
    obtain⟨Cd,rv,⟨o,n,e,hc,_⟩,_⟩:=I.list hq
    exact IsiPair.list_list e hc ⟨.bl true,H,I,rfl,q⟩
 ·cases r with
  | cons r1 r2 =>
   cases r2 with
   | cons r2 r3 =>
    cases r3
    cases r1
    cases r2
    obtain⟨Cd,rv,⟨o,e,hc,_⟩,_⟩:=I.tuple hq
    exact IsiPair.tuple_tuple e hc ⟨.bl true,H,I,rfl,q⟩
theorem yH:QP X "int.bit_length" (λx xs H Q=>∃i,x = .int i/\xs=[]/\Q (.int (Builtin.Int.intBits i:Nat)) H):=by
 intro pins s σ H x xs v us Q I rx rv h
 obtain⟨i,rfl,rfl,q⟩:=h
 obtain⟨t,rfl⟩:=rx
 cases rv
 exact call_int_bit_length ⟨.int _,H,I.tok _,⟨_,rfl⟩,q⟩
theorem Inv.same{σ:St}(I:Inv X pins σ H s)(k:∀b o,s.heap.get? b=some o->s'.heap.get? b=some o)(g:s'.gens=s.gens)(ho:s'.os=s.os):Inv X pins σ H s':=by
 obtain⟨hh,gg,dd,tt,oo⟩:=s'
 simp only at k g ho
 subst g
 subst ho
 have J:Inv X pins σ H { s with heap:=hh,toks:=tt }:=I.kept k
 exact⟨J.ok,J.os,J.bare,J.base,J.loc,J.cell,J.free,J.CU,J.pin,J.Ci,J.len⟩
theorem iJ(hc:X.calm=true):CA X (.builtin "all") (λxs H Q=>∃(p:Addr)(bs:List Bool),xs=[.ref p]/\Cb X.K H p (bs.map V.bl)/\Q (.bl (bs.all id)) H):=by
 intro pins s σ H xs us Q I r h
 obtain⟨p,bs,rfl,hq,q⟩:=h
 obtain⟨u,rfl,rx⟩:=ig r
 cases rx
 obtain⟨Cd,rv,pl,hz⟩:=I.list hq
 have hlen:=rv.length
 rw[length_map]at hlen
 have CS:p < s.heap.objs.size:=by obtain⟨o,n,e,_⟩:=pl;exact lt_size e
 have Yv:∀(i:Nat)(v:Value),Cd.toArray[i]? = some v->v=Value.bool (bs.getD i false):=λi v hv=>by
  have DN:Cd[i]? = some v:=by simpa using hv
  have hi:i < bs.length:=by rw[hlen];exact(gQ0 DN)
  obtain⟨u,hu,ru⟩:=rv.get (i:=i) (x := .bl bs[i]) (by simp[hi])
  rw[DN]at hu
  cases hu
  rw[getD_eq_getElem?_getD,getElem?_eq_getElem hi]
  exact ru
 have hh1:X.A.in1.handled=none:=I.ok.hd hc
 refine call_all_walkS (wpAny_pyIter_list pl.isList ⟨s.heap.objs.size,[s.heap.objs.size,p],[s.heap.objs.size],λa b=>b=a,Cd.toArray.size,λi v=>Cd.toArray[i]? = some v,_,λi=>bs.getD i false,rfl,
  (Walks.list hh1 _ p (ne_of_lt CS) Cd.toArray).toS,⟨⟨_,Heap.get?_push_size _ rfl,rfl,rfl⟩,pl.isList.push _⟩,λi v s1 Q1 E1 hv hq1=>?_,λs' hm=>?_⟩)
 ·rw[Yv i v hv]
  exact wpAny_truthy_bool hq1
 ·have I1:Inv X pins σ H { s with heap:=s.heap.push { cls := .type "list_iterator",data := .fields #[.ref p, .int 0 0] } }:=I.kept (t':=s.toks) λb o e=>Heap.get?_push_of_some _ e
  refine⟨.bl _,H,I.same (λb o e=>hm.heap b o (λhb=>?_) (Heap.get?_push_of_some _ e)) hm.gens hm.os,rfl,?_⟩
  ·have Et:b=s.heap.objs.size:=by simpa using hb
   exact absurd (lt_size e) (by rw[Et];exact lt_irrefl _)
  ·have e:((List.range Cd.toArray.size).all λi=>bs.getD i false)=bs.all id:=by
    rw[size_toArray,←hlen]
    clear Yv hlen hq rv q
    have:(List.range bs.length).map (λi=>bs.getD i false)=bs:=by
     apply List.ext_getElem
     ·simp
     ·intro i h1 h2
      simp[h2]
    conv=>rhs;rw[←this]
    rw[all_map]
    rfl
   rw[e]
   exact q
end
section
end
section
end
section
open PySem.W in
open PySem.W in
end
end L2
namespace PySem
section
end
section
end
end PySem
namespace L2
open PySem PySem.Spec PyProof.Rows
section
end
section
open PySem.W in
open PySem.W in
end
section
end
section
end
section
end
section
end
section
end
section
end
end L2
namespace PySem
open Sem (wp)
open AutoSeq1 (wpAny_loadPart')
theorem eX(l:Addr)(items:Array Value)(n:Nat)(T2:Option Addr)(sl:Array (Option Value)) :
  Meets (Builtin.«enumerate.__new__» ⟨[.type "enumerate", .ref l],[]⟩) (λ_ R s=>s.heap.get? l=some { cls := .type "tuple",dict:=T2,data := .seq items n,slots:=sl } /\
   R (.ok (.ret (.ref (s.heap.push { cls := .type "tuple_iterator",data := .fields #[.ref l, .int 0 0] }).objs.size)))
    { s with heap:=(s.heap.push { cls := .type "tuple_iterator",data := .fields #[.ref l, .int 0 0] }).push { cls := .type "enumerate",data := .fields #[.none, .bool false, .ref s.heap.objs.size,rawInt 0, .none, .none] } }) :=
 .of_wp λprog w A R s h=>by
  obtain⟨hp,g,d,tk,os⟩:=s;obtain⟨hl,h⟩:=h
  have Np:=sub_enumerate
  have hL:Heap.IsTuple (Shared.heap ⟨hp,g,d,tk,os⟩) l items:=⟨_,hl,rfl,n,rfl⟩
  wp_walk using wpAny_loadPart' hl
  refine wpAny_stack_any λst=>wpAny_pure ?_
  split
  ·rename_i c _ _ _ _ _
   cases (c == Value.type "enumerate")
   ·wp_walk using wpAny_loadPart' hl,wpAny_pyIter_tuple hL
    exact⟨_,rfl,h⟩
   ·wp_walk using wpAny_loadPart' hl,wpAny_pyIter_tuple hL
    exact⟨_,rfl,h⟩
  ·wp_walk using wpAny_loadPart' hl,wpAny_pyIter_tuple hL
   exact⟨_,rfl,h⟩
section
variable {prog:Program}{w:World}{A:Around}{E:Value->Shared->Prop}{s:Shared}
theorem eY(hL:s.heap.IsTuple l items)
  (h:∀h',IsEnum h' (s.heap.objs.size + 1) s.heap.objs.size 0 .none->h'.IsTupleIter s.heap.objs.size l 0->h'.objs.size=s.heap.objs.size + 2 ->
   (∀b o,s.heap.get? b=some o->h'.get? b=some o)->Q (.ref (s.heap.objs.size + 1)) { s with heap:=h' }) :
  wpAny (model prog w) A (call (.type "enumerate") [.ref l]) Q E s:=by
 obtain⟨⟨c,T2,dt,sl⟩,hl,hc,n,hd⟩:=hL
 replace hc:c = .type "tuple":=hc
 replace hd:dt = .seq items n:=hd
 subst hc hd
 refine callType_new F.called_enumerate (by decide) (F.typeCall_enumerate_1 _) (F.newCall_enumerate_1 _) (λobj=>F.args_object_init_2 obj _) F.entry_enumerate_new
  (eX l items n T2 sl) ⟨hl,?_⟩
 have hz:(s.heap.push { cls := .type "tuple_iterator",data := .fields #[.ref l, .int 0 0] }).objs.size=s.heap.objs.size + 1:=size_push ..
 show _/\_
 rw[hz]
 have he:IsEnum ((s.heap.push { cls := .type "tuple_iterator",data := .fields #[.ref l, .int 0 0] }).push
   { cls := .type "enumerate",data := .fields #[.none, .bool false, .ref s.heap.objs.size,rawInt 0, .none, .none] }) (s.heap.objs.size + 1) s.heap.objs.size 0 .none:=by
  have:=Heap.get?_push_size (s.heap.push { cls := .type "tuple_iterator",data := .fields #[.ref l, .int 0 0] })
   (o:={ cls := .type "enumerate",data := .fields #[.none, .bool false, .ref s.heap.objs.size,rawInt 0, .none, .none] }) rfl
  rw[hz]at this;exact this
 refine⟨⟨_,he,rfl⟩,h _ he ⟨_,Heap.get?_push_of_some _ (Heap.get?_push_size _ rfl),rfl,rfl⟩ (by rw[size_push,hz]) λb o x=>Heap.get?_push_of_some _ (Heap.get?_push_of_some _ x)⟩
theorem gE(hit:s.heap.IsTupleIter it l i)
  (hl:s.heap.IsTuple l items) (hx:items[i]? = some x)
  (hQ:∀h',h'.IsTupleIter it l (i + 1)->Heap.SameBut it s.heap h'->Q x { s with heap:=h' }) :
  wpAny (model prog w) A (Builtin.SmallTypes.nextOf (.ref it)) Q E s:=by
 obtain⟨o,ho,hc,hd⟩:=id hit
 obtain⟨ol,Ko,_,nl,E4⟩:=hl
 unfold Builtin.SmallTypes.nextOf
 refine wpAny_bind (wpAny_callSpecial?_slot (name:=Str.ofString "__next__") hit.typeIs F.slot_tuple_iterator_next
  (wpAny_call_entry F.slot_tuple_iterator_next hit.typeIs F.entry_tuple_iterator_next ?_ (F.args_tuple_iterator_next_1 _)))
 show wpAny _ _ (field (.ref it) 0 >>= _) _ _ s
 refine wpAny_bind (wpAny_field ho hd (x := .ref l) rfl ?_)
 show wpAny _ _ (if (Value.ref l == Value.none)=true then _ else _) _ _ s
 rw[if_neg (show ¬((Value.ref l == Value.none)=true) from Bool.false_ne_true)]
 show wpAny _ _ (field (.ref it) 1 >>= _) _ _ s
 refine wpAny_bind (wpAny_field ho hd (x := .int i 0) rfl ?_)
 show wpAny _ _ (seqItems? (.ref l) >>= _) _ _ s
 refine wpAny_bind (wpAny_seqItems Ko E4 ?_)
 simp only[toNat_natCast,hx]
 refine wpAny_bind (wpAny_setField ho hd (by simp) (wpAny_pure ⟨x,rfl,wpAny_pure (hQ _ ?_ (Heap.SameBut.update ..))⟩))
 exact⟨_,Heap.get?_update_self _ ho (Obj.isFreed_of_fields (Obj.data_mapFields hd _)),(Obj.cls_mapFields ..).trans hc,by
  rw[Obj.data_mapFields hd];simp[rawInt]⟩
theorem gQ(hh:A.handled=none)
  (hit:s.heap.IsTupleIter it l i) (hl:s.heap.IsTuple l items) (hx:items[i]? = none)
  (hE:∀h' e,Heap.ExtBut it s.heap h'->(∃o,h'.get? e=some o/\o.cls = .type "StopIteration")->E (.ref e) { s with heap:=h' }) :
  wpAny (model prog w) A (Builtin.SmallTypes.nextOf (.ref it)) Q E s:=by
 obtain⟨o,ho,hc,hd⟩:=id hit
 obtain⟨ol,Ko,_,nl,E4⟩:=hl
 unfold Builtin.SmallTypes.nextOf
 refine wpAny_bind (wpAny_callSpecial?_slot (name:=Str.ofString "__next__") hit.typeIs F.slot_tuple_iterator_next
  (wpAny_call_entry F.slot_tuple_iterator_next hit.typeIs F.entry_tuple_iterator_next ?_ (F.args_tuple_iterator_next_1 _)))
 show wpAny _ _ (field (.ref it) 0 >>= _) _ _ s
 refine wpAny_bind (wpAny_field ho hd (x := .ref l) rfl ?_)
 show wpAny _ _ (if (Value.ref l == Value.none)=true then _ else _) _ _ s
 rw[if_neg (show ¬((Value.ref l == Value.none)=true) from Bool.false_ne_true)]
 show wpAny _ _ (field (.ref it) 1 >>= _) _ _ s
 refine wpAny_bind (wpAny_field ho hd (x := .int i 0) rfl ?_)
 show wpAny _ _ (seqItems? (.ref l) >>= _) _ _ s
 refine wpAny_bind (wpAny_seqItems Ko E4 ?_)
 simp only[toNat_natCast,hx]
 refine wpAny_bind (wpAny_rule (wpAny_bind (wpAny_setField ho hd (by simp) ?_)))
 show wpAny _ _ (newExc (.type "StopIteration") [] >>= _) _ _ _
 refine wpAny_bind ?_
 simp only[newExc,newTuple]
 refine wpAny_bind (wpAny_newObj_type ?_ (by size_fits))
 refine wpAny_bind (m:=firstArgMember _ _) (wpAny_of_eq (a:=Value.none) (by first | rfl | (simp only[firstArgMember];rfl)) ?_)
 refine wpAny_newObj_type ?_ (by size_fits)
 simp only[raiseNew]
 refine wpAny_bind (wpAny_handled ?_)
 first | rw[show A.in1.handled=none from hh] | rw[hh]
 refine wpAny_bind (wpAny_pure (wpAny_throw ?_))
 exact hE _ _ (((Heap.SameBut.update ..).extBut.push _).push _) ⟨_,Heap.get?_push_size _ rfl,rfl⟩
end
theorem gG(hh:A.handled=none)(it l:Addr)(Di:l ≠ it)(items:Array Value) :
  Draws prog w A it [it,l] items.size (λi v=>items[i]? = some v) (λi h=>h.IsTupleIter it l i/\h.IsTuple l items) where
 live:=λ_ _ st=>let ⟨o,ho,_⟩:=st.1; ⟨o,ho⟩
 frame:=λ_ _ _ st hk=>⟨st.1.at λo e=>hk it (by simp) o e,let ⟨o,ho,r⟩:=st.2; ⟨o,hk l (by simp) o ho,r⟩⟩
 item:=λi s Q E hi st hQ=>by
  refine gE st.1 st.2 (x:=items[i]) (by simp[hi]) λh' T3 L6=>?_
  exact hQ _ h' s.toks (by simp[hi]) ⟨T3,let ⟨o,ho,r⟩:=st.2; ⟨o,L6.extBut l o Di ho,r⟩⟩ L6
 done:=λs Q E st hE=>gQ hh st.1 st.2 (by simp) hE
end PySem
namespace L2
open PySem PySem.Spec PyProof.Rows
section
variable {X:Cx}{pins:List (Addr × Obj)}{σ:St}{H:Hp}{s:Shared}
theorem Inv.Kp{a b p:Addr}(I:Inv X pins σ H s)(fa:gF X pins H a)(fb:gF X pins H b)(hp:s.heap.objs.size <= p)
  (k:∀c o,c ≠ a->c ≠ b->s.heap.get? c=some o->h'.get? c=some o) (ka:∃o,h'.get? a=some o) (kb:∃o,h'.get? b=some o) (hl:xs.length <= sizeLine) (r:Vals xs us) (ht:Dm h' p us.toArray) :
  Inv X pins σ (upd H p (.tup xs)) { s with heap:=h',toks:=t' }:=by
 have hf:H p=none:=I.Ci.fresh hp
 have nt:∀c u,H c=some u->c ≠ p:=λc u q z=>by rw[z,hf]at q;cases q
 have lt:∀c o,s.heap.get? c=some o->c ≠ p:=λc o q=>ne_of_lt (lt_of_lt_of_le (lt_size q) hp)
 have ne:∀c,c ∉ [a,b]->c ≠ a/\c ≠ b:=λc hc=>by simpa using hc
 refine I.call (g':=s.gens) (d':=s.drawn) (ch:=[a,b]) ⟨λc o e n h1 h2=>k c o (ne c h2).1 (ne c h2).2 e,λc o e n h1 h2=>⟨o.slots,k c o (ne c h2).1 (ne c h2).2 e⟩,λc o e n h2=>by rw[ah (lt c o e)];exact n,
  λc o e h2=>⟨o,k c o (ne c h2).1 (ne c h2).2 e⟩,λc ys q=>by rw[ah (nt c _ q)];exact q,λc o u q=>by rw[ah (nt c _ q)];exact q,λc ps q=>⟨#[],by rw[ah (nt c _ q),q];simp⟩⟩ (λc u q=>?_) I.bare λc hc=>?_
 ·by_cases hc:c=p
  ·subst hc
   rw[ad]at q
   cases q
   exact⟨hl,us,r,ht⟩
  ·rw[ah hc]at q
   refine(I.Ci c u q).Ef (λd v hd z=>?_) (λd z=>by rw[ah (nt d _ z)];exact z) λd ys z=>by rw[ah (nt d _ z)];exact z
   have nd:∀e,H e=none->d ≠ e:=λe he w=>by
    rcases hd with rfl | hd
    ·rw[w,he]at q;cases q
    ·rw[w,he]at hd;cases hd
   exact k d v (nd a fa.1) (nd b fb.1) z
 ·have Ly:c=a∨c=b:=by simpa using hc
  rcases Ly with rfl | rfl
  ·obtain⟨_,f1,_,f3,f4,f5⟩:=fa;exact⟨f3,f1,f4,f5⟩
  ·obtain⟨_,f1,_,f3,f4,f5⟩:=fb;exact⟨f3,f1,f4,f5⟩
theorem Inv.FP(I:Inv X pins σ H s)(fa:gF X pins H a)(fb:gF X pins H b)
  (k:∀c o,c ≠ a->c ≠ b->s.heap.get? c=some o->h'.get? c=some o):Inv X pins σ H { s with heap:=h',toks:=t' }:=by
 have ne:∀c,c ∉ [a,b]->c ≠ a/\c ≠ b:=λc hc=>by simpa using hc
 refine I.call (g':=s.gens) (d':=s.drawn) (ch:=[a,b]) ⟨λc o e n h1 h2=>k c o (ne c h2).1 (ne c h2).2 e,λc o e n h1 h2=>⟨o.slots,k c o (ne c h2).1 (ne c h2).2 e⟩,λc o e n h2=>n,
  λc o e h2=>⟨o,k c o (ne c h2).1 (ne c h2).2 e⟩,λc ys q=>q,λc o u q=>q,λc ps q=>⟨#[],by rw[q];simp⟩⟩ (λc u q=>?_) I.bare λc hc=>?_
 ·refine(I.Ci c u q).Ef (λd v hd z=>?_) (λd z=>z) λd ys z=>z
  have nd:∀e,H e=none->d ≠ e:=λe he w=>by
   rcases hd with rfl | hd
   ·rw[w,he]at q;cases q
   ·rw[w,he]at hd;cases hd
  exact k d v (nd a fa.1) (nd b fb.1) z
 ·have Ly:c=a∨c=b:=by simpa using hc
  rcases Ly with rfl | rfl
  ·obtain⟨_,f1,_,f3,f4,f5⟩:=fa;exact⟨f3,f1,f4,f5⟩
  ·obtain⟨_,f1,_,f3,f4,f5⟩:=fb;exact⟨f3,f1,f4,f5⟩
theorem lL{n i:Nat}{xs:List V}
  (D:Draws X.prog X.w X.A.in1 it fp n P Sx) (I:Inv X pins σ H s) (he:IsEnum s.heap e it i old) (GR:Sx i s.heap) (CS:i < n) (Di:e ≠ it) (Yw:e ∉ fp) (fe:gF X pins H e) (fi:gF X pins H it)
  (hP:∀v,P i v->∃x,xs[i]? = some x/\RelV x v) :
  wpAny (model X.prog X.w) X.A (pyNext (.ref e)) (λr s1=>∃u,r=some u/\wpAny (model X.prog X.w) X.A (letOwnedTupleGo (.Tuple elts kk pos) (.ref e) u) (λ_ s2=>∃p x,xs[i]? = some x/\H p=none/\u = .ref p /\
   Inv X pins σ (upd H p (.tup [.int i,x])) s2/\(∃old,IsEnum s2.heap e it ((i + 1:Nat):Int) old)/\Sx (i + 1) s2.heap/\p ≠ e/\p ≠ it) E s1) E s:=by
 refine wpAny_pyNext_enum_itemD D he GR CS Di Yw λx h' tk hx ho L6 hT hsz hk=>⟨_,rfl,?_⟩
 refine wpAny_letOwnedTupleGo_enum ho λh2 Jn F3=>?_
 obtain⟨y,hy,ry⟩:=hP x hx
 have Yx:e < s.heap.objs.size:=lt_size he
 have hie:it < s.heap.objs.size:=by obtain⟨_,z⟩:=D.live _ _ GR;exact lt_size z
 have Nq:Sx (i + 1) h2:=D.frame _ _ _ L6 λb hb o z=>(F3.2 b λq=>Yw (q ▸ hb)).trans z
 refine⟨s.heap.objs.size,y,hy,I.Ci.fresh (le_refl _),rfl,?_,⟨x,by simpa using Jn⟩,Nq,ne_of_gt Yx,ne_of_gt hie⟩
 refine Inv.Kp (s:=s) (h':=h2) (t':=tk + 1) I fe fi (le_refl _) (λc o h1 h2' z=>(F3.2 c h1).trans (hk c o h1 h2' z)) ⟨_,Jn⟩ (let ⟨o,z⟩:=D.live _ _ Nq; ⟨o,z⟩) (by show 2 <= sizeLine;decide) (us:=[.int i tk,x]) (.cons ⟨tk,rfl⟩ (.cons ry .nil)) ?_
 exact⟨_,(F3.2 _ (ne_of_gt Yx)).trans hT,⟨rfl,_,rfl⟩,rfl⟩
end
noncomputable def BU(sq:Hp->List V->Prop):It :=
 ⟨λi H=>∃xs x,sq H xs/\xs[i]? = some x,λi H v H'=>∃p,H p=none/\v = .ref p/\∀xs,sq H xs->∃x,xs[i]? = some x/\H' = upd H p (.tup [.int i,x]),λi H=>∃xs,sq H xs/\xs.length=i⟩
theorem pN{K:Frag}(a e it:Addr)(Di:e ≠ it):nD P w K (.Tuple elts kk pos) (BU λH=>Cb K H a) [e,it] e (λi h=>(∃old,IsEnum h e it (i:Int) old)/\h.IsListIter it a i) where
 mem:=by simp
 obj:=λi h st b hb=>by
  obtain⟨⟨old,he⟩,o,ho,c,d⟩:=st
  have Et:b=e∨b=it:=by simpa using hb
  rcases Et with rfl | rfl
  ·exact⟨_,he,λv z=>by have z':Data.fields _=Data.cell v:=z;cases z'⟩
  ·exact⟨o,ho,λv z=>by rw[d]at z;cases z⟩
 keep:=λi h h' st k=>by
  obtain⟨⟨old,he⟩,hi⟩:=st
  exact⟨⟨old,k e (by simp) _ he⟩,hi.at λo z=>k it (by simp) o z⟩
 item:=by
  intro X hP hw hK hc i pins s σ H E I hf st hg
  subst hP hw hK
  obtain⟨xs,x,hq,hx⟩:=hg
  obtain⟨Cd,rv,p,hz⟩:=I.list hq
  obtain⟨⟨old,he⟩,hi⟩:=st
  have hl:i < Cd.toArray.size:=by
   have:=(gQ0 hx)
   have l2:=rv.length
   simp;omega
  have T4:e ≠ a:=by
   rintro rfl
   obtain⟨o,ho,ED,_⟩:=p.isList
   rw[he]at ho;cases ho
   injection ED with z;exact absurd z (by decide)
  have Kq:a ≠ it:=by
   rintro rfl
   obtain⟨o,ho,ED,_⟩:=p.isList
   obtain⟨o2,D5,Fi,_⟩:=hi
   rw[ho]at D5;cases D5;rw[ED]at Fi
   injection Fi with z;exact absurd z (by decide)
  refine bj (lL (xs:=xs) (Draws.list (A:=X.A.in1) (I.ok.hd hc) it a Kq Cd.toArray) I he ⟨hi,p.isList⟩ hl Di (by simp only[mem_cons,not_mem_nil,or_false,not_or];exact⟨Di,T4⟩) (hf e (by simp)) (hf it (by simp)) λv hv=>?_) λr s1 ⟨u,hr,h1⟩=>⟨u,hr,bj h1 λ_ s2 ⟨q,y,hy,T5,hu,I2,Jn,F3,n1,n2⟩=>?_⟩
  ·obtain⟨u,hu,ru⟩:=rv.get hx
   have e1:Cd[i]? = some v:=by simpa using hv
   rw[hu]at e1;cases e1
   exact⟨x,hx,ru⟩
  ·refine⟨.ref q,_,I2,hu,⟨q,T5,rfl,λzs Ht=>⟨y,by rw[I.Fc Ht hq];exact hy,rfl⟩⟩,⟨Jn,F3.1⟩,λb hb=>?_⟩
   have Et:b=e∨b=it:=by simpa using hb
   rcases Et with rfl | rfl
   ·rw[ah (Ne.symm n1)];exact(hf b (by simp)).1
   ·rw[ah (Ne.symm n2)];exact(hf b (by simp)).1
 done:=by
  intro X hP hw hK hc i pins s σ H E I hf st hg
  subst hP hw hK
  obtain⟨xs,hq,hx⟩:=hg
  obtain⟨Cd,rv,p,hz⟩:=I.list hq
  obtain⟨⟨old,he⟩,hi⟩:=st
  have hl:i=Cd.toArray.size:=by have l2:=rv.length;simp;omega
  have Kq:a ≠ it:=by
   rintro rfl
   obtain⟨o,ho,ED,_⟩:=p.isList
   obtain⟨o2,D5,Fi,_⟩:=hi
   rw[ho]at D5;cases D5;rw[ED]at Fi
   injection Fi with z;exact absurd z (by decide)
  refine wpAny_pyNext_enum_endD (Draws.list (A:=X.A.in1) (I.ok.hd hc) it a Kq Cd.toArray) he (by rw[←hl];exact⟨hi,p.isList⟩) λh' Fy=>⟨rfl,?_⟩
  exact I.FP (t':=s.toks) (hf e (by simp)) (hf it (by simp)) λc o h1 h2 z=>Fy c o h2 z
 self:=λ_ _ _ _ _ st h=>by
  obtain⟨⟨old,he⟩,_⟩:=st
  exact wpAny_pyIter_enum he h
theorem pL{K:Frag}(a e it:Addr)(Di:e ≠ it):nD P w K (.Tuple elts kk pos) (BU λH=>Ck K H a) [e,it] e (λi h=>(∃old,IsEnum h e it (i:Int) old)/\h.IsTupleIter it a i) where
 mem:=by simp
 obj:=λi h st b hb=>by
  obtain⟨⟨old,he⟩,o,ho,c,d⟩:=st
  have Et:b=e∨b=it:=by simpa using hb
  rcases Et with rfl | rfl
  ·exact⟨_,he,λv z=>by have z':Data.fields _=Data.cell v:=z;cases z'⟩
  ·exact⟨o,ho,λv z=>by rw[d]at z;cases z⟩
 keep:=λi h h' st k=>by
  obtain⟨⟨old,he⟩,hi⟩:=st
  exact⟨⟨old,k e (by simp) _ he⟩,hi.at λo z=>k it (by simp) o z⟩
 item:=by
  intro X hP hw hK hc i pins s σ H E I hf st hg
  subst hP hw hK
  obtain⟨xs,x,hq,hx⟩:=hg
  obtain⟨Cd,rv,p,hz⟩:=I.tuple hq
  have pt:s.heap.IsTuple a Cd.toArray:=p
  obtain⟨⟨old,he⟩,hi⟩:=st
  have hl:i < Cd.toArray.size:=by
   have:=(gQ0 hx)
   have l2:=rv.length
   simp;omega
  have T4:e ≠ a:=by
   rintro rfl
   obtain⟨o,ho,ED,_⟩:=pt
   rw[he]at ho;cases ho
   injection ED with z;exact absurd z (by decide)
  have Kq:a ≠ it:=by
   rintro rfl
   obtain⟨o,ho,ED,_⟩:=pt
   obtain⟨o2,D5,Fi,_⟩:=hi
   rw[ho]at D5;cases D5;rw[ED]at Fi
   injection Fi with z;exact absurd z (by decide)
  refine bj (lL (xs:=xs) (gG (A:=X.A.in1) (I.ok.hd hc) it a Kq Cd.toArray) I he ⟨hi,pt⟩ hl Di (by simp only[mem_cons,not_mem_nil,or_false,not_or];exact⟨Di,T4⟩) (hf e (by simp)) (hf it (by simp)) λv hv=>?_) λr s1 ⟨u,hr,h1⟩=>⟨u,hr,bj h1 λ_ s2 ⟨q,y,hy,T5,hu,I2,Jn,F3,n1,n2⟩=>?_⟩
  ·obtain⟨u,hu,ru⟩:=rv.get hx
   have e1:Cd[i]? = some v:=by simpa using hv
   rw[hu]at e1;cases e1
   exact⟨x,hx,ru⟩
  ·refine⟨.ref q,_,I2,hu,⟨q,T5,rfl,λzs Ht=>⟨y,by rw[I.EB Ht hq];exact hy,rfl⟩⟩,⟨Jn,F3.1⟩,λb hb=>?_⟩
   have Et:b=e∨b=it:=by simpa using hb
   rcases Et with rfl | rfl
   ·rw[ah (Ne.symm n1)];exact(hf b (by simp)).1
   ·rw[ah (Ne.symm n2)];exact(hf b (by simp)).1
 done:=by
  intro X hP hw hK hc i pins s σ H E I hf st hg
  subst hP hw hK
  obtain⟨xs,hq,hx⟩:=hg
  obtain⟨Cd,rv,p,hz⟩:=I.tuple hq
  have pt:s.heap.IsTuple a Cd.toArray:=p
  obtain⟨⟨old,he⟩,hi⟩:=st
  have hl:i=Cd.toArray.size:=by have l2:=rv.length;simp;omega
  have Kq:a ≠ it:=by
   rintro rfl
   obtain⟨o,ho,ED,_⟩:=pt
   obtain⟨o2,D5,Fi,_⟩:=hi
   rw[ho]at D5;cases D5;rw[ED]at Fi
   injection Fi with z;exact absurd z (by decide)
  refine wpAny_pyNext_enum_endD (gG (A:=X.A.in1) (I.ok.hd hc) it a Kq Cd.toArray) he (by rw[←hl];exact⟨hi,pt⟩) λh' Fy=>⟨rfl,?_⟩
  exact I.FP (t':=s.toks) (hf e (by simp)) (hf it (by simp)) λc o h1 h2 z=>Fy c o h2 z
 self:=λ_ _ _ _ _ st h=>by
  obtain⟨⟨old,he⟩,_⟩:=st
  exact wpAny_pyIter_enum he h
section
def T6(K:Frag)(t:TA):TI:=λσ H R=>t σ H λvs H1=>∃a,vs=[.ref a]/\(∃xs,Cb K H1 a xs)/\R (BU λH=>Cb K H a) H1
def T7(K:Frag)(t:TA):TI:=λσ H R=>t σ H λvs H1=>∃a,vs=[.ref a]/\(∃xs,Ck K H1 a xs)/\R (BU λH=>Ck K H a) H1
theorem kA(hg:Gl X "enumerate")(hm:X.mg "enumerate" = none)(ha:PA X [a] t)(hs:autoParam (starEach [a] X.env=[(false,eval a X.env)]) η):PI X (.Tuple elts kk Ff) (.Call (.Name "enumerate" p) [a] [] pos) (T6 X.K t):=by
 intro pins s σ H R I h
 refine Call_ (gZ I hg hm boot_enumerate (PyProof.Rows.callWith_type1 (bj (ha pos pins s σ H _ I h) λus s1 Cc=>?_) hs rfl))
 obtain⟨vs,H1,I1,r1,q1⟩:=Cc
 obtain⟨l,e,⟨xs,hq⟩,q⟩:=q1
 subst e
 cases r1 with
 | cons r rr =>
  cases rr
  cases r
  obtain⟨Cd,rv,pp,hz⟩:=I1.list hq
  refine call_enumerate_list pp.isList λh' he hit hsz hk=>?_
  have I2:Inv X pins σ H1 { s1 with heap:=h' }:=I1.kept (t':=s1.toks) hk
  refine wpAny_pyIter_enum (s:={ s1 with heap:=h' }) he ?_
  refine⟨_,_,_,_,H1,rfl,I2,pN l _ s1.heap.objs.size (Nat.succ_ne_self _),⟨⟨_,he⟩,hit⟩,λb hb=>?_,q⟩
  have Et:b=s1.heap.objs.size + 1∨b=s1.heap.objs.size:=by simpa using hb
  have hle:s1.heap.objs.size <= b:=by
   rcases Et with e | e
   ·rw[e];exact le_succ _
   ·rw[e];exact le_refl _
  exact I1.F2 hle (I1.Ci.fresh hle)
theorem ow(hg:Gl X "enumerate")(hm:X.mg "enumerate" = none)(ha:PA X [a] t)(hs:autoParam (starEach [a] X.env=[(false,eval a X.env)]) η):PI X (.Tuple elts kk Ff) (.Call (.Name "enumerate" p) [a] [] pos) (T7 X.K t):=by
 intro pins s σ H R I h
 refine Call_ (gZ I hg hm boot_enumerate (PyProof.Rows.callWith_type1 (bj (ha pos pins s σ H _ I h) λus s1 Cc=>?_) hs rfl))
 obtain⟨vs,H1,I1,r1,q1⟩:=Cc
 obtain⟨l,e,⟨xs,hq⟩,q⟩:=q1
 subst e
 cases r1 with
 | cons r rr =>
  cases rr
  cases r
  obtain⟨Cd,rv,pp,hz⟩:=I1.tuple hq
  refine eY (show s1.heap.IsTuple l Cd.toArray from pp) λh' he hit hsz hk=>?_
  have I2:Inv X pins σ H1 { s1 with heap:=h' }:=I1.kept (t':=s1.toks) hk
  refine wpAny_pyIter_enum (s:={ s1 with heap:=h' }) he ?_
  refine⟨_,_,_,_,H1,rfl,I2,pL l _ s1.heap.objs.size (Nat.succ_ne_self _),⟨⟨_,he⟩,hit⟩,λb hb=>?_,q⟩
  have Et:b=s1.heap.objs.size + 1∨b=s1.heap.objs.size:=by simpa using hb
  have hle:s1.heap.objs.size <= b:=by
   rcases Et with e | e
   ·rw[e];exact le_succ _
   ·rw[e];exact le_refl _
  exact I1.F2 hle (I1.Ci.fresh hle)
end
theorem kS{g:TG}{tb:TS}{D:nG}(Pv:Nat->St->Hp->Prop)(h0:Pv 0 σ H)(hl:∀i σ H,i <= xs.length->Pv i σ H->sq H xs)
  (hs:∀i x p σ H,xs[i]? = some x->Pv i σ H->H p=none->g (.ref p) σ (upd H p (.tup [.int i,x])) λσ2 H2=>tb { D with nx:=Pv (i + 1),ct:=Pv (i + 1),bk:=D.nx } σ2 H2) (hd:∀σ H,Pv xs.length σ H->D.nx σ H) :
  ∃W:Nat->Nat->St->Hp->Prop,(∃m,W 0 m σ H)/\∀i m σ H,W i m σ H ->
   ((BU sq).stop i H/\D.nx σ H)∨((BU sq).go i H/\∃N:St->Hp->Prop,(∀σ' H',N σ' H'->∃m',m' < m/\W (i + 1) m' σ' H')/\∀x H',(BU sq).Hm i H x H'->g x σ H' λσ2 H2=>tb { D with nx:=N,ct:=N,bk:=D.nx } σ2 H2):=by
 refine⟨λi m σ H=>m=xs.length - i/\i <= xs.length/\Pv i σ H,⟨xs.length,by simp,zero_le _,h0⟩,?_⟩
 rintro i m σ H ⟨rfl,hi,p⟩
 have q:=hl i σ H hi p
 by_cases CS:i < xs.length
 ·refine .inr ⟨⟨xs,xs[i],q,by simp[CS]⟩,Pv (i + 1),λσ' H' p'=>⟨xs.length - (i + 1),by omega,rfl,CS,p'⟩,λx H' y=>?_⟩
  obtain⟨pp,hn,rfl,hx⟩:=y
  obtain⟨x',Fy,e⟩:=hx xs q
  subst e
  exact hs i x' pp σ H Fy p hn
 ·have e:i=xs.length:=by omega
  subst e
  exact .inl ⟨⟨xs,q,rfl⟩,hd σ H p⟩
def DR(d:PyData)(m:Nat):Prop:=d.canLay0=true/\d.depth <= m
theorem DR.shaped(h:DR d m)(hm:m <= 64):SeqAt.shaped d=true:=by
 unfold SeqAt.shaped
 rw[h.1,decide_eq_true (le_trans h.2 hm)];rfl
theorem bS(i:Int):DR (.int i) 0:=⟨by simp[PyData.canLay0],by simp[PyData.depth]⟩
theorem Hu:DR .none 0:=⟨by simp[PyData.canLay0],by simp[PyData.depth]⟩
theorem mF :∀{ds:List PyData},(∀d ∈ ds,DR d m)->PyData.canLayAll0 ds=true/\PyData.depthAll ds <= m
 | [],_=>⟨by simp[PyData.canLayAll0],by simp[PyData.depthAll]⟩
 | d :: r,h=>by
  obtain⟨a,b⟩:=mF (ds:=r) λz hz=>h z (mem_cons_of_mem _ hz)
  obtain⟨c,e⟩:=h d mem_cons_self
  exact⟨by simp[PyData.canLayAll0,c,a],by simp only[PyData.depthAll];omega⟩
theorem bN(h:∀d ∈ ds,DR d m):DR (.list ds) (m + 1):=by
 obtain⟨a,b⟩:=mF h
 exact⟨by simp[PyData.canLay0,a],by simp only[PyData.depth];omega⟩
theorem c5(h:∀d ∈ ds,DR d m):DR (.tuple ds) (m + 1):=by
 obtain⟨a,b⟩:=mF h
 exact⟨by simp[PyData.canLay0,a],by simp only[PyData.depth];omega⟩
theorem Yy{K:Frag}(h1:Den K H x d)(h2:Den K H y d)(s:DR d 64)(q:Q (.bl false) H):AJ K x y H Q :=
 ⟨d,d,h1,h2,s.shaped (le_refl _),s.shaped (le_refl _),by rw[SeqAt.eqv_refl d s.1];exact q⟩
theorem eqS{K:Frag}(h1:Den K H x d)(h2:Den K H y d)(s:DR d 64)(q:Q (.bl true) H):Nn K x y H Q :=
 ⟨d,d,h1,h2,s.shaped (le_refl _),s.shaped (le_refl _),by rw[SeqAt.eqv_refl d s.1];exact q⟩
theorem DR.le(h:DR d m)(l:m <= n):DR d n:=⟨h.1,le_trans h.2 l⟩
end L2
namespace L2
open PySem
theorem pz(p:Nat->Bool)(f:Nat->V)(hn:n < sizeLine)
  (hs:∀(i:Nat)(acc:List V)(N:List V->Hp->Prop),i < n->N (if p i then acc ++ [f i] else acc) H->g (.int (lo + i)) σ0 H λσ2 H2=>tt σ2 H2 λb H3=>if b=true then te σ2 H3 λy H4=>N (acc ++ [y]) H4 else N acc H3)
  (hq:∀D,H D=none->Q (.ref D) (upd H D (.lst (((List.range n).filter p).map f)))) :
  dZ (uu lo n) g tt te σ0 Q H:=by
 refine⟨λi m acc H'=>m=n - i/\i <= n/\H' = H/\acc=((List.range i).filter p).map f,⟨n,by simp,zero_le _,rfl,rfl⟩,?_⟩
 rintro i m acc H' ⟨rfl,hi,rfl,rfl⟩
 have hl:(((List.range i).filter p).map f).length < sizeLine:=by
  rw[length_map]
  have:=length_filter_le p (List.range i)
  rw[length_range]at this
  omega
 refine⟨hl,?_⟩
 by_cases CS:i < n
 ·refine .inr ⟨CS,λCT H2=>H2=H'/\CT = ((List.range (i + 1)).filter p).map f,λCT H2 Cc=>by obtain⟨h1,h2⟩:=Cc;exact⟨n - (i + 1),by omega,rfl,CS,h1,h2⟩,λx H2 y=>?_⟩
  obtain⟨e,y⟩:=y
  subst e y
  refine hs i _ (λCT H3=>H3=H2/\CT = ((List.range (i + 1)).filter p).map f) CS ⟨rfl,?_⟩
  rw[range_succ,filter_append]
  cases hp:p i with
  | true=>simp[hp]
  | false=>simp[hp]
 ·have e:i=n:=by omega
  subst e
  exact .inl ⟨le_refl _,hq⟩
theorem ge(p:V->Bool)(f:V->V)(hn:xs.length < sizeLine)(ha:Cb K H a xs)
  (hs:∀(x:V)(acc:List V)(N:List V->Hp->Prop),x ∈ xs->N (if p x then acc ++ [f x] else acc) H->g x σ0 H λσ2 H2=>tt σ2 H2 λb H3=>if b=true then te σ2 H3 λy H4=>N (acc ++ [y]) H4 else N acc H3)
  (hq:∀D,H D=none->Q (.ref D) (upd H D (.lst ((xs.filter p).map f)))) :
  dZ (xz K a) g tt te σ0 Q H:=by
 refine⟨λi m acc H'=>m=xs.length - i/\i <= xs.length/\H' = H/\acc=((xs.take i).filter p).map f,⟨xs.length,by simp,zero_le _,rfl,rfl⟩,?_⟩
 rintro i m acc H' ⟨rfl,hi,rfl,rfl⟩
 have hl:(((xs.take i).filter p).map f).length < sizeLine:=by
  rw[length_map]
  have h1:=length_filter_le p (xs.take i)
  have h2:=length_take_le i xs
  omega
 refine⟨hl,?_⟩
 by_cases CS:i < xs.length
 ·refine .inr ⟨⟨xs,xs[i],ha,by simp[CS]⟩,λCT H2=>H2=H'/\CT = ((xs.take (i + 1)).filter p).map f,λCT H2 Cc=>by obtain⟨h1,h2⟩:=Cc;exact⟨xs.length - (i + 1),by omega,rfl,CS,h1,h2⟩,λx H2 y=>?_⟩
  obtain⟨e,y⟩:=y
  subst e
  have hx:=y xs ha
  refine hs x _ (λCT H3=>H3=H2/\CT = ((xs.take (i + 1)).filter p).map f) (mem_of_getElem? hx) ⟨rfl,?_⟩
  rw[take_succ,hx,filter_append]
  cases hp:p x with
  | true=>simp[hp]
  | false=>simp[hp]
 ·have e:i=xs.length:=by omega
  subst e
  rw[take_length]
  exact .inl ⟨⟨xs,ha,le_refl _⟩,hq⟩
theorem nn(k:Int):∀ns:List Int,L3 (.int k) (ns.map V.int)=decide (k ∈ ns)
 | []=>by simp[L3]
 | n :: r=>by
  have ih:=nn k r
  unfold L3 at ih ⊢
  rw[map_cons,any_cons,ih]
  show((n == k) || decide (k ∈ r))=decide (k ∈ n :: r)
  by_cases h:k=n
  ·subst h;simp
  ·have h':¬n=k:=λz=>h z.symm
   simp[h,h']
theorem jc:∀ns:List Int,(ns.map V.int).all iE=true
 | []=>rfl
 | n :: r=>by rw[map_cons,all_cons,jc r];rfl
open PySem.Spec PyProof.Rows
section
open PySem.W
end
section
end
end L2
namespace L2
open PySem
noncomputable def si:Option Int->Value->Bool
 | none,v=>v == .none
 | some k,v=>Value.isInt k v
noncomputable def yg:Option Int->Int
 | none=>4238894112
 | some k=>hashInt k
theorem cf(h:si k v=true):(k=none/\v = .none)∨∃i t,k=some i/\v = .int i t:=by
 cases k with
 | none=>exact .inl ⟨rfl,eq_of_beq h⟩
 | some i=>obtain⟨t,e⟩:=Value.isInt_shape h;exact .inr ⟨i,t,rfl,e⟩
section
theorem tX(h:Q 4238894112 { s with toks:=s.toks + 1 }):wpAny (model prog w) A (pyHash .none) Q E s:=by
 have hT:s.TypeIs .none "NoneType":=rfl
 unfold pyHash
 have hv:[Value.none].any Value.onHeap=false:=rfl
 refine wpAny_bind ?_
 rw[cRoomFor,if_neg (by rw[hv];exact Bool.false_ne_true)];refine wpAny_pure ?_
 refine wpAny_bind (wpAny_specialOf hT F.slot_NoneType_hash.lookup ?_)
 show wpAny _ _ (if (some (Value.builtin "NoneType.__hash__") == some Value.none)=true then _ else _) Q E s
 rw[if_neg (by rw[beq_builtin_none];exact Bool.false_ne_true)]
 refine wpAny_bind (wpAny_specialOf hT F.slot_NoneType_hash.lookup ?_)
 show wpAny _ _ (callSpecialIfBoundUnlessNone? .none "__hash__" _ >>= _) Q E s
 refine wpAny_bind (wpAny_callSpecialIfBoundUnlessNone?_slot hT F.slot_NoneType_hash (wpAny_call_entry F.slot_NoneType_hash hT F.entry_NoneType_hash
  (show wpAny _ _ (do ret (←mkInt 4238894112)) _ _ s from wpAny_ret_mkInt ?_) (F.args_NoneType_hash_1 _)))
 exact wpAny_pure h
theorem BC(hu:si a u=true)(hv:si b v=true)(h:Q (decide (a=b)) s):wpAny (model prog w) A (PySem.eqBool u v) Q E s:=by
 rcases cf hu with ⟨rfl,rfl⟩ | ⟨i,t,rfl,rfl⟩<;>rcases cf hv with ⟨rfl,rfl⟩ | ⟨j,t',rfl,rfl⟩
 ·unfold eqBool
  refine wpAny_holding ?_
  refine wpAny_ite_split (λ_=>wpAny_bind (wpAny_rule (wpAny_pure (by simpa using h)))) (λn=>absurd rfl n)
 ·exact PySem.SeqAt.EqAt.none_int j t' prog w E Q (by simpa using h)
 ·exact PySem.SeqAt.EqAt.int_none i t prog w E Q (by simpa using h)
 ·refine wpAny_eqBool_int ?_
  have e:(i == j)=decide (some i=some j):=by
   by_cases q:i=j
   ·simp[q]
   ·simp[q]
  rw[e];exact h
end
noncomputable def gs(prog:Program)(w:World):KeyKind prog w (Option Int) where
 is:=si
 hash:=yg
 inj:=λv a b ha hb=>by
  rcases cf ha with ⟨rfl,rfl⟩ | ⟨i,t,rfl,rfl⟩<;>rcases cf hb with ⟨rfl,e⟩ | ⟨j,t',rfl,e⟩
  ·rfl
  ·cases e
  ·cases e
  ·cases e;rfl
 byValue:=λk v h=>by
  rcases cf h with ⟨_,rfl⟩ | ⟨i,t,_,rfl⟩<;>rfl
 pyHash:=λ{A E s k v Q} hv h=>by
  rcases cf hv with ⟨rfl,rfl⟩ | ⟨i,t,rfl,rfl⟩
  ·exact tX h
  ·exact wpAny_pyHash_int h
 eqBool:=λhu hv h=>BC hu hv h
 «strs»:=λk x t v h=>by
  rcases cf h with ⟨_,e⟩ | ⟨i,t,_,e⟩<;>cases e
open PySem.Spec PyProof.Rows
abbrev bX:=List (Option Int)
noncomputable def ur:Option Int->V
 | none => .Cp
 | some i => .int i
abbrev eD:=bX × Addr × V
abbrev kZ(p:eD)(q:bX × Addr × Value):Prop:=p.1=q.1/\p.2.1=q.2.1/\RelV p.2.2 q.2.2
def BW(P:Program)(w:World)(a:Addr)(kvs:List eD):Heap->Prop:=λh=>kvs.length <= sizeLine/\(a == sysModules)=false/\∃xs,Paired kZ kvs xs /\
 ∃o es ep,h.get? a=some o/\o.ExactDict/\o.data = .dict es ep/\es.toList=xs.map (entryOfKey (tupleKind (gs P w)))/\(xs.map (·.1)).Nodup
noncomputable def lb(P:Program)(w:World)(a:Addr)(kvs:List eD):HO := .ext (BW P w a kvs)
def CO(P:Program)(w:World)(H:Hp)(a:Addr)(kvs:List eD):Prop:=H a=some (lb P w a kvs)/\∀x ∈ kvs,H x.2.1=some (.tup (x.1.map ur))
theorem CO.same(h:CO P w H a kvs)(s:BX H H'):CO P w H' a kvs:=⟨s _ _ h.1,λx hx=>s _ _ (h.2 x hx)⟩
noncomputable def cu(kvs:List eD)(k:bX):Option V:=(kvs.find? λx=>decide (x.1=k)).map (·.2.2)
noncomputable def sV(k:bX)(v:V)(x:eD):eD:=if x.1=k then (x.1,x.2.1,v) else x
noncomputable def fQ(kvs:List eD)(k:bX)(b:Addr)(v:V):List eD:=if (cu kvs k).isSome then kvs.map (sV k v) else kvs ++ [(k,b,v)]
theorem jH :cu [] k=none:=rfl
theorem c4 :cu (x :: kvs) k=if x.1=k then some x.2.2 else cu kvs k:=by
 unfold cu
 rw[find?_cons]
 by_cases h:x.1=k
 ·rw[decide_eq_true h,if_pos h];rfl
 ·rw[decide_eq_false h,if_neg h]
theorem uy :cu (kvs.map (sV k v)) k' = if k' = k then (cu kvs k).map (λ_=>v) else cu kvs k':=by
 induction kvs with
 | nil=>rw[map_nil,jH,jH];split<;>rfl
 | cons x kvs ih =>
  rw[map_cons,c4,ih,c4,c4]
  unfold sV
  by_cases h:x.1=k<;>by_cases h':k' = k
  ·have:x.1=k':=h.trans h'.symm
   simp[h,h']
  ·have:¬x.1=k':=λz=>h' (z.symm.trans h)
   rw[if_pos h,if_neg h',if_neg this,if_neg this,if_neg h']
  ·subst h'
   simp[h]
  ·simp[h,h']
theorem nM(h:cu kvs k=none):cu (kvs ++ [(k,b,v)]) k' = if k' = k then some v else cu kvs k':=by
 induction kvs with
 | nil =>
  rw[List.nil_append,c4,jH]
  by_cases e:k' = k
  ·rw[if_pos e,if_pos e.symm]
  ·rw[if_neg e,if_neg (Ne.symm e)]
 | cons x kvs ih =>
  rw[c4]at h
  by_cases hx:x.1=k
  ·rw[if_pos hx]at h;cases h
  ·rw[if_neg hx]at h
   rw[List.cons_append,c4,ih h,c4]
   by_cases e:k' = k
   ·subst e;rw[if_neg hx,if_pos rfl,if_pos rfl]
   ·rw[if_neg e,if_neg e]
theorem il :cu (fQ kvs k b v) k' = if k' = k then some v else cu kvs k':=by
 unfold fQ
 cases h:cu kvs k with
 | none=>rw[if_neg (by simp)];exact nM h
 | some u =>
  rw[if_pos (by simp),uy,h];rfl
theorem fP :(fQ kvs k b v).length <= kvs.length + 1:=by
 unfold fQ
 split
 ·rw[length_map];omega
 ·rw[length_append];exact le_refl _
theorem l4{F:bX->Addr->Prop}(h:∀x ∈ kvs,F x.1 x.2.1)(hk:F k b):∀x ∈ fQ kvs k b v,F x.1 x.2.1:=by
 intro x hx
 unfold fQ at hx
 split at hx
 ·obtain⟨y,hy,rfl⟩:=mem_map.mp hx
  unfold sV
  split
  ·exact h y hy
  ·exact h y hy
 ·rcases mem_append.mp hx with q | q
  ·exact h x q
  ·rw[mem_singleton.mp q];exact hk
theorem nv(r:Paired kZ kvs xs)(k:bX):CV (cu kvs k) ((atKey xs k).map (·.2)):=by
 induction r with
 | nil=>exact True.intro
 | @cons p q _ _ h1 _ ih =>
  rw[c4]
  unfold atKey at ih ⊢
  rw[find?_cons]
  by_cases e:p.1=k
  ·rw[if_pos e,decide_eq_true (h1.1.symm.trans e)];exact h1.2.2
  ·rw[if_neg e,decide_eq_false (λz=>e (h1.1.trans z))];exact ih
theorem ji(r:CV o u):o.isSome=u.isSome:=by
 cases o<;>cases u<;>first | rfl | exact r.elim
theorem sU(h:CV o u)(hd:RelV d r):RelV (o.getD d) (u.getD r):=by
 cases o<;>cases u<;>first | exact hd | exact h | exact h.elim
theorem za(r:Paired kZ kvs xs)(hv:RelV v u):Paired kZ (kvs.map (sV k v)) (xs.map (putAt k u)):=by
 induction r with
 | nil=>exact .nil
 | @cons p q _ _ h1 _ ih =>
  refine .cons ?_ ih
  unfold sV putAt
  by_cases e:p.1=k
  ·rw[if_pos e,if_pos (h1.1.symm.trans e)];exact⟨h1.1,h1.2.1,hv⟩
  ·rw[if_neg e,if_neg (λz=>e (h1.1.trans z))];exact h1
theorem wX(r:Paired kZ kvs xs)(h:kZ p q):Paired kZ (kvs ++ [p]) (xs ++ [q]):=by
 induction r with
 | nil=>exact .cons h .nil
 | cons h1 _ ih=>exact .cons h1 ih
theorem yZ(r:Paired kZ kvs xs)(hv:RelV v u):Paired kZ (fQ kvs k b v) (storedH xs k b u):=by
 have h:=ji (nv r k)
 rw[Option.isSome_map]at h
 unfold fQ storedH
 rw[h]
 split
 ·exact za r hv
 ·exact wX r ⟨rfl,rfl,hv⟩
section
variable {P:Program}{w:World}{H:Hp}{h:Heap}{a b:Addr}{kvs:List eD}{k:bX}
theorem iT:∀{k:bX}{us:List Value},Vals (k.map ur) us->ItemsAre (gs P w) k us
 | [],_, .nil => .nil
 | none :: _,_, .cons r t => .cons (by have e:_=Value.none:=r;subst e;rfl) (iT t)
 | some i :: _,_, .cons r t => .cons (by obtain⟨tk,e⟩:=(show ∃t,_=Value.int i t from r);subst e;exact beq_self_eq_true i) (iT t)
theorem j2(ok:D4 P w H h)(e:H b=some (.tup (k.map ur))):(tupleKind (gs P w)).is h k b:=by
 obtain⟨_,Cd,r,o,ho,⟨hc,n,hd⟩,_⟩:=ok _ _ e
 exact⟨o,Cd.toArray,n,ho,hc,hd,iT r⟩
theorem j9(ok:D4 P w H h)(e:CO P w H a kvs):kvs.length <= sizeLine/\(a == sysModules)=false/\∃xs,Paired kZ kvs xs/\h.DictOfH (tupleKind (gs P w)) a xs:=by
 obtain⟨e,ek⟩:=e
 obtain⟨⟨z,hs,xs,r,o,es,ep,h1,h2,h3,h4,h5⟩,_⟩:=ok _ _ e
 refine⟨z,hs,xs,r,o,es,ep,h1,h2,h3,h4,?_,h5⟩
 have all:∀{kvs:List eD}{xs:List (bX × Addr × Value)},Paired kZ kvs xs->(∀x ∈ kvs,H x.2.1=some (.tup (x.1.map ur)))->∀x ∈ xs,(tupleKind (gs P w)).is h x.1 x.2.1:=by
  intro kvs xs r
  induction r with
  | nil=>intro _ x hx;cases hx
  | @cons p q _ _ h1 _ ih =>
   intro hk x hx
   rcases mem_cons.mp hx with rfl | hx
   ·have:=hk p mem_cons_self
    rw[h1.1,h1.2.1]at this
    exact j2 ok this
   ·exact ih (λy hy=>hk y (mem_cons_of_mem _ hy)) x hx
 exact all r ek
theorem lO(h1 h2:Heap)(p:BW P w a kvs h1)(st:∀o,h1.get? a=some o->h2.get? a=some o):BW P w a kvs h2:=by
 obtain⟨z,hs,xs,r,o,es,ep,q,c⟩:=p
 exact⟨z,hs,xs,r,o,es,ep,st _ q,c⟩
theorem xf(hb:sysModules < h.objs.size):C1 P w H (h.push { cls := .type "dict",data := .dict #[] }) h.objs.size (lb P w h.objs.size []) :=
 ⟨⟨zero_le _,beq_eq_false_iff_ne.mpr (Ne.symm (ne_of_lt hb)),[], .nil,_,#[],0,Heap.get?_push_size _ rfl,⟨rfl,rfl,rfl⟩,rfl,rfl,nodup_nil⟩,⟨_,Heap.get?_push_size _ rfl⟩,λ_ _=>lO _ _⟩
end
def zl(P:Program)(w:World)(H:Hp)(a:Addr)(y:V)(r:Option V):Prop:=∃kvs k b,CO P w H a kvs/\y = .ref b/\H b=some (.tup (k.map ur))/\r=cu kvs k
section
variable {X:Cx}{pins:List (Addr × Obj)}{σ:St}{H:Hp}{s:Shared}{a b:Addr}{y v d:V}{u r:Value}{o:Option V}{A:Around}{E:Value->Shared->Prop}
theorem BL(I:Inv X pins σ H s):sysModules < s.heap.objs.size :=
 lt_trans (by decide) (show mainGlobals < s.heap.objs.size from (I.mod.glob.keeps I.bk).lt)
theorem T8(hu:A.units + 1 < cLine)(I:Inv X pins σ H s)(g:zl X.prog X.w H a y o)(ry:RelV y u)(h:∀s',Inv X pins σ H s'->Q (.bool o.isSome) s') :
  wpAny (model X.prog X.w) A (compareOp .In u (.ref a)) Q E s:=by
 obtain⟨kvs,k,b,e,rfl,eb,rfl⟩:=g
 cases (show u=Value.ref b from ry)
 obtain⟨_,hd,xs,rel,dd⟩:=j9 I.Ci e
 refine wpAny_in_heap (tupleKind_room_in1 hu) (j2 I.Ci eb) hd dd ?_
 have q:=ji (nv rel k)
 rw[Option.isSome_map]at q
 rw[←q]
 exact h _ (I.tok _)
theorem Bu(hu:A.units + 1 < cLine)(I:Inv X pins σ H s)(g:zl X.prog X.w H a y o)(ry:RelV y u)(rd:RelV d r)(h:∀w' s',Inv X pins σ H s'->RelV (o.getD d) w'->Q w' s') :
  wpAny (model X.prog X.w) A (call (.builtin "dict.get") [.ref a,u,r]) Q E s:=by
 obtain⟨kvs,k,b,e,rfl,eb,rfl⟩:=g
 cases (show u=Value.ref b from ry)
 obtain⟨_,hd,xs,rel,dd⟩:=j9 I.Ci e
 exact call_meetsIn slot_dict_get dd.typeIs entry_dict_get (PySem.F.args_dict_get_3 _ _ _) (meetsH_dict_get_default (tupleKind (gs X.prog X.w)) a b hd r)
  ⟨tupleKind_room_in1 hu,k,xs,j2 I.Ci eb,dd,h _ _ (I.tok _) (sU (nv rel k) rd)⟩
theorem Nr(hu:A.units + 1 < cLine)(I:Inv X pins σ H s)(e:CO X.prog X.w H a kvs)(eb:H b=some (.tup (k.map ur)))(hl:kvs.length < sizeLine)(rv:RelV v r)
  (h:∀s',Inv X pins σ (upd H a (lb X.prog X.w a (fQ kvs k b v))) s'->Q () s'):wpAny (model X.prog X.w) A (setItem (.ref a) (.ref b) r) Q E s:=by
 obtain⟨z,hd,xs,rel,dd⟩:=j9 I.Ci e
 have hz:xs.length <= sizeLine:=by rw[←Paired.length rel];exact z
 have Fo:(fQ kvs k b v).length <= sizeLine:=le_trans fP hl
 refine wpAny_setItem_heap (hsz:=hz) (tupleKind_room_in1 hu) (j2 I.Ci eb) dd λh' Iv hs=>h _ ?_
 obtain⟨q,es,ep,hq,h2,h3,h4,_,h5⟩:=Iv
 exact I.write (x:=a) (e:=a) (by rw[e.1];exact True.intro) (.inl rfl) (λc q hc z=>(hs.2 c hc).trans z) ⟨q,hq⟩
  ⟨⟨Fo,hd,_,yZ rel rv,q,es,ep,hq,h2,h3,h4,h5⟩,⟨q,hq⟩,λ_ _=>lO _ _⟩
theorem uc(I:Inv X pins σ H s)(e:CO X.prog X.w H a kvs):s.TypeIs (.ref a) "dict"/\∀b,Value.ref a = .ref b->∃ob,s.heap.get? b=some ob/\ob.dict=none:=by
 obtain⟨_,_,xs,_,dd⟩:=j9 I.Ci e
 refine⟨dd.typeIs,λb q=>?_⟩
 cases q
 obtain⟨ob,_,_,h1,h2,_⟩:=dd
 exact⟨ob,h1,h2.2.1⟩
end
def uF(P:Program)(w:World):TE:=λ_ H Q=>∀p,H p=none->Q (.ref p) (upd H p (lb P w p []))
def T9(P:Program)(w:World)(ty td:TE):TE:=λσ H Q=>ty σ H λy H1=>td σ H1 λx H2=>∃a o,x = .ref a/\zl P w H2 a y o/\Q (.bl o.isSome) H2
def Nt(P:Program)(w:World)(td ty tv:TE):TS:=λD σ H=>tv σ H λv H1=>td σ H1 λx H2=>ty σ H2 λy H3=>∃a kvs k b,x = .ref a/\CO P w H3 a kvs/\y = .ref b/\H3 b=some (.tup (k.map ur))/\kvs.length < sizeLine/\D.nx σ (upd H3 a (lb P w a (fQ kvs k b v)))
def Ad(P:Program)(w:World)(td:TE)(t:TA):TE:=λσ H Q=>td σ H λx H1=>∃a kvs,x = .ref a/\CO P w H1 a kvs/\t σ H1 λxs H2=>∃y z o,xs=[y,z]/\zl P w H2 a y o/\Q (o.getD z) H2
section
theorem rM:PE X (.Dict [] [] pos) (uF X.prog X.w):=λpins s σ H Q I h =>
 wpAny_Dict_empty ⟨.ref s.heap.objs.size,_,I.laid (a:=s.heap.objs.size) (o:=lb X.prog X.w s.heap.objs.size []) (t':=s.toks) (λ_ _ q=>Heap.get?_push_of_some _ q) (le_refl _) (xf (BL I)),rfl,h _ (I.Ci.fresh (le_refl _))⟩
theorem AR(hu:X.A.units + 1 < cLine)(hi:PE X i ty)(ho:PE X o td):PC X .In i o (T9 X.prog X.w ty td):=by
 intro pins s σ H Q I h
 refine bj (hi pins s σ H _ I h) λiv s1 ⟨y,H1,I1,ry,q1⟩=>bj (ho pins s1 σ H1 _ I1 q1) λu s2 Cc=>?_
 obtain⟨x,H2,I2,rx,a,ov,ex,g,q2⟩:=Cc
 subst ex
 obtain rfl:u=Value.ref a:=rx
 exact T8 hu I2 g ry λs3 I3=>⟨.bl ov.isSome,H2,I3,rfl,q2⟩
theorem rL(hu:X.A.units + 1 < cLine)(ho:PE X o td)(hi:PE X i ty)(hv:PE X value tv)(hs:swapsWith value (some (.Subscript o i pos')) pos.line X.env=pure false) :
  PS X (.Assign [.Subscript o i pos'] value pos) (Nt X.prog X.w td ty tv):=by
 intro pins s σ H D I h
 refine wpAny_Assign_Subscript (bj (hv pins s σ H _ I h) λr s1 ⟨v,H1,I1,rv,q1⟩=>bj (ho pins s1 σ H1 _ I1 q1) λu s2 ⟨x,H2,I2,rx,q2⟩=>bj (hi pins s2 σ H2 _ I2 q2) λiv s3 Cc=>?_) hs
 obtain⟨y,H3,I3,ry,a,kvs,k,b,ex,e,ey,eb,hl,q3⟩:=Cc
 subst ex ey
 obtain rfl:u=Value.ref a:=rx
 obtain rfl:iv=Value.ref b:=ry
 exact Nr hu I3 e eb hl rv λs4 I4=>⟨σ,_,I4,q3⟩
theorem oy(hu:X.A.units + 1 < cLine)(ho:PE X o td)(ha:PA X (e :: es) t)
  (h1:autoParam (attributeBase o "get" X.env (eval o X.env)=eval o X.env) η)
  (h2:autoParam (((backTo CM (starEach (e :: es) X.env)).all (λx=>!x.1) && (backToKw CM (keywordEach [] X.env)).all (λx=>x.1.isSome) && decide ((e :: es).length + ([]:List Keyword).length + (if ([]:List Keyword).isEmpty then 0 else 1) < 30))=true) η)
  (h3:autoParam ((apos.endLine == CM.line)=true) η) (h4:autoParam (starEach (e :: es) X.env=(false,eval e X.env) :: starEach es X.env) η) (h5:autoParam ((backTo CM (starEach es X.env)).any (·.1)=false) η) :
  PE X (.Call (.Attribute o "get" apos) (e :: es) [] CM) (Ad X.prog X.w td t):=by
 intro pins s σ H Q I h
 refine wpAny_Call_method_late h1 h2 h3 rfl (bj (ho pins s σ H _ I h) λv s1 Cc=>?_)
 obtain⟨x,H1,I1,r1,a,kvs,ex,e1,q1⟩:=Cc
 subst ex
 obtain rfl:v=Value.ref a:=r1
 obtain⟨t1,t2⟩:=uc I1 e1
 refine⟨"dict", "dict.get",PySem.F.plainAttrs_dict,slot_dict_get,PySem.F.type_dict_get,t1,t2,?_⟩
 have hA:=ha CM pins s1 σ H1 _ I1 q1
 rw[h4]at hA ⊢
 refine Calls.callWith_builtin (by show(false || (backTo CM (starEach es X.env)).any (·.1))=false;rw[h5]<;>rfl) (Calls.evalArgs_plain ?_)
 refine bj hA λus s2 Cc=>?_
 obtain⟨vs,H2,I2,r2,y,z,ov,evs,g,q2⟩:=Cc
 subst evs
 cases r2 with
 | cons ry r2=>cases r2 with
  | cons rz r2=>cases r2 with
   | nil=>exact Bu hu I2 g ry rz λw' s4 I4 Fl=>⟨_,H2,I4,Fl,q2⟩
end
structure xt(K:Frag)(C:Addr)(m:Str)(f:Addr):Prop where
 reads:PySem.W.readsIn K C (.type "type")=true
 found:PySem.W.findCls K (.ref C) (.type "type") m=some (.val (.ref f))
 spec:PySem.W.specialIn K (.ref C) "__getattribute__" = some (some (.builtin "type.__getattribute__"))
 kp:keepIn K (.ref f)=true
def Ai(C:Addr)(sp:Sp)(Dk:List V)(E:XK)(ta:TE)(t:TA):TE:=λσ H Q=>ta σ H λx H1=>x = .ref C/\t σ H1 λvs H2=>sp (vs ++ Dk) H2 Q E
section
theorem oz(he:PE X o ta)(hm:xt X.K C m f)(F:BY X.prog X.w X.K X.mg X.base CX k f fd ps sp)(hr:Cj k X.A)(hb:Binds X.K fd ps ds)(hd:Vals Dk ds)(hx:gj CX X E)(ha:PA X (e :: es) t)
  (h1:autoParam (starEach (e :: es) X.env=(false,eval e X.env) :: starEach es X.env) η) (h2:autoParam ((backTo pos (starEach es X.env)).any (·.1)=false) η)
  (ht:eval (.Call (.Attribute o m apos) (e :: es) [] pos) X.env=(do
   let ov ← eval o X.env
   standAt apos.atName
   let (f,first) ← holding [ov] (getMethod ov m pl)
   callWith pos f first (backTo pos (starEach (e :: es) X.env)) (backToKw pos (keywordEach [] X.env))):=by rfl) :
  PE X (.Call (.Attribute o m apos) (e :: es) [] pos) (Ai C sp Dk E ta t):=by
 intro pins s σ H Q I h
 refine PySem.W.methodCall_KW (pl:=pl) (bj (he pins s σ H _ I h) λu s1 Cc=>?_) ht
 obtain⟨x,H1,I1,rx,ex,q⟩:=Cc
 subst ex
 obtain rfl:u=Value.ref C:=rx
 refine PySem.W.method_cls I1.DJ hm.spec (PySem.W.cls_value I1.DJ hm.reads hm.found rfl ?_)
 refine PySem.W.callWith_K (first:=[]) (h₀:=X.base) I.ok.mod.HQ hm.kp (bj (ha pos pins _ σ H1 _ (I1.tok _) q) λus s2 ⟨vs,H2,I2,r,q2⟩=>⟨I2.DJ,?_⟩) h1 h2
 exact mK F hr hb hd hx I2 r q2
end
section
end
section
def TB:V->List V->Hp->VK->Prop:=λx vs H Q=>∃(l:Addr)(ns:List Int)(k:Int),x = .ref l/\vs=[.int k]/\H l=some (.lst (ns.map V.int))/\k ∈ ns/\ns.length <= 100000/\Q (.int (ns.idxOf k:Nat)) H
theorem tO:QP X "list.index" TB:=by
 intro pins s σ H x vs v us Q I rx rv h
 obtain⟨l,ns,k,rfl,rfl,hH,hk,hlen,q⟩:=h
 cases rx
 obtain⟨u,rfl,ru⟩:=rv.one
 obtain⟨t,rfl⟩:=ru
 obtain⟨z,Cd,n,r,hl,e⟩:=I.F6 hH
 have hi:IntsAre Cd.toArray.toList ns:=qP r
 have Fp:Cd.length=ns.length:=by rw[←r.length,length_map]
 have hj:ns.idxOf k < ns.length:=List.idxOf_lt_length_of_mem hk
 have at_:∀m (hm:m < Cd.toArray.size),∃t,Cd.toArray[m]=Value.int (ns[m]'(by simpa [Fp] using hm)) t:=λm hm=>by
  have Jo:m < Cd.length:=by simpa using hm
  have hv:(ns.map V.int)[m]? = some (V.int (ns[m]'(by omega))):=by simp[show m < ns.length by omega]
  obtain⟨w',hw,Fl⟩:=r.get hv
  obtain⟨t',rfl⟩:=Fl
  refine⟨t',?_⟩
  have:Cd[m]? = some Cd[m]:=getElem?_eq_getElem Jo
  rw[this]at hw
  simpa using Option.some.inj hw
 let e':Value->Bool:=λy=>Value.isInt k y
 refine call_meets PySem.F.slot_list_index ⟨_,e,rfl⟩ PySem.F.entry_list_index (PySem.F.args_list_index_2 _ _)
  (SeqAt.list_indexAt l Cd.toArray n none #[] (.int k t) e' (ns.idxOf k) (by simpa [Fp] using hj) (by omega) ?_ ?_) ⟨e,λy hy=>?_,?_⟩
 ·obtain⟨t',et⟩:=at_ (ns.idxOf k) (by simpa [Fp] using hj)
  show Value.isInt k (Cd.toArray[ns.idxOf k]'(by simpa [Fp] using hj))=true
  rw[et,List.getElem_idxOf]
  simp[Value.isInt]
 ·intro m hm hmj
  obtain⟨t',et⟩:=at_ m hm
  show Value.isInt k Cd.toArray[m]=false
  rw[et]
  have Di:ns[m]'(by simpa [Fp] using hm) ≠ k:=λz=>by
   have:=List.not_of_lt_findIdx (p:=λx=>x == k) (xs:=ns) (i:=m) hmj
   rw[z]at this
   simp at this
  simp only[Value.isInt,beq_eq_false_iff_ne,ne_eq]
  first | exact Di | exact λz=>Di z.symm
 ·have hm:y ∈ Cd:=by simpa using hy
  obtain⟨m,Jo,em⟩:=getElem_of_mem hm
  obtain⟨t',et⟩:=at_ m (by simpa using Jo)
  have ey:y=Value.int (ns[m]'(by omega)) t':=by rw[←em];simpa using et
  subst ey
  intro prog w E Q' hQ'
  refine wpAny_eqBool_int ?_
  have:(ns[m]'(by omega) == k)=Value.isInt k (Value.int (ns[m]'(by omega)) t'):=by simp[Value.isInt,Bool.beq_comm]
  rw[this]
  exact hQ'
 ·exact⟨.int (ns.idxOf k:Nat),H,I.tok _,⟨_,rfl⟩,q⟩
def Nu(K:Frag):List V->Hp->VK->Prop:=λxs H Q=>∃(v:V)(t:Value)(c:String)(b:Bool),xs=[v, .ty c]/\jg K H v t/\kitOne K t (.type c)=some b/\Q (.bl b) H
theorem gh:CA X (.builtin "isinstance") (Nu X.K):=by
 intro pins s σ H xs us Q I r h
 obtain⟨v,t,c,b,rfl,ty,hk,q⟩:=h
 cases r with
 | cons r1 r2=>cases r2 with
  | cons r2 r3 =>
   cases r3
   cases r2
   exact tU I r1 ty hk λtk=>⟨.bl b,H,I.tok _,rfl,q⟩
end
section
variable {κ:Type}[DecidableEq κ]
noncomputable def ik(kvs:List (κ × V))(k:κ):Option V:=(kvs.find? λkv=>decide (kv.1=k)).map (·.2)
noncomputable def dG(kvs:List (κ × V))(k:κ)(v:V):List (κ × V) :=
 if (kvs.any λkv=>decide (kv.1=k))=true then kvs.map (λkv=>if kv.1=k then (kv.1,v) else kv) else kvs ++ [(k,v)]
theorem jE{k:κ}(e:p.1=k):ik (p :: r) k=some p.2:=by simp[ik,find?_cons,e]
theorem jF{k:κ}(e:¬p.1=k):ik (p :: r) k=ik r k:=by simp[ik,find?_cons,e]
theorem jG(k:κ):∀kvs:List (κ × V),(kvs.any λkv=>decide (kv.1=k))=(ik kvs k).isSome
 | []=>rfl
 | p :: r=>by
  rw[any_cons]
  by_cases e:p.1=k
  ·simp only[jE e,decide_eq_true e,Bool.true_or,Option.isSome_some]
  ·rw[jF e,decide_eq_false e,Bool.false_or];exact jG k r
theorem fX(kvs:List (κ × V))(k:κ)(v:V):(dG kvs k v).length <= kvs.length + 1:=by
 unfold dG
 split
 ·rw[length_map];omega
 ·rw[length_append,length_cons,List.length_nil];omega
theorem vB{k:κ}(v:V)(h:ik kvs k=none):dG kvs k v=kvs ++ [(k,v)]:=by
 unfold dG
 rw[jG,h]
 exact if_neg (by decide)
theorem CV.DQ(r:CV o u):o.isSome=u.isSome:=by
 cases o with
 | none=>cases u with
  | none=>rfl
  | some _=>exact(show False from r).elim
 | some _=>cases u with
  | none=>exact(show False from r).elim
  | some _=>rfl
theorem CV.getD(r:CV o u)(rd:RelV d d'):RelV (o.getD d) (u.getD d'):=by
 cases o with
 | none=>cases u with
  | none=>exact rd
  | some _=>exact(show False from r).elim
 | some _=>cases u with
  | none=>exact(show False from r).elim
  | some _=>exact r
theorem KV.val(r:KV kvs vs)(k:κ):CV (ik kvs k) (valueAt vs k):=by
 unfold KV at r
 induction r with
 | nil=>exact True.intro
 | @cons p q ps qs h t ih =>
  obtain⟨h1,h2⟩:=h
  by_cases e:p.1=k
  ·have e':q.1=k:=h1.symm.trans e
   have b:valueAt (q :: qs) k=some q.2:=by simp[valueAt,find?_cons,e']
   rw[jE e,b];exact h2
  ·have e':¬q.1=k:=λz=>e (h1.trans z)
   have b:valueAt (q :: qs) k=valueAt qs k:=by simp[valueAt,find?_cons,e']
   rw[jF e,b];exact ih
theorem KV.any(r:KV kvs vs)(k:κ):(kvs.any λkv=>decide (kv.1=k))=vs.any λkv=>decide (kv.1=k):=by
 unfold KV at r
 induction r with
 | nil=>rfl
 | cons h t ih=>rw[any_cons,any_cons,ih,h.1]
theorem KV.Kr(r:KV kvs vs)(k:κ)(ry:RelV y u) :
  KV (kvs.map λkv=>if kv.1=k then (kv.1,y) else kv) (vs.map λkv=>if kv.1=k then (kv.1,u) else kv):=by
 unfold KV at r ⊢
 induction r with
 | nil=>exact .nil
 | @cons p q ps qs h t ih =>
  rw[map_cons,map_cons]
  refine .cons ?_ ih
  obtain⟨h1,h2⟩:=h
  by_cases e:p.1=k
  ·rw[if_pos e,if_pos (h1.symm.trans e)];exact⟨h1,ry⟩
  ·rw[if_neg e,if_neg (λz=>e (h1.trans z))];exact⟨h1,h2⟩
theorem KV.put(r:KV kvs vs)(k:κ)(ry:RelV y u):KV (dG kvs k y) (stored vs k u):=by
 unfold dG stored
 rw[r.any k]
 by_cases e:(vs.any λkv=>decide (kv.1=k))=true
 ·rw[if_pos e,if_pos e];exact r.Kr k ry
 ·rw[if_neg e,if_neg e];exact Paired.snoc r ⟨rfl,ry⟩
theorem KV.keys{vs:List (κ × Value)}(r:KV kvs vs):kvs.map (·.1)=vs.map (·.1):=by
 unfold KV at r
 induction r with
 | nil=>rfl
 | cons h t ih=>rw[map_cons,map_cons,ih,h.1]
theorem KV.length{vs:List (κ × Value)}(r:KV kvs vs):kvs.length=vs.length:=Paired.length r
end
theorem lG(r:RelV (kV k) u):(aY P w).is k u=true:=by
 cases k with
 | inl i=>obtain⟨t,e⟩:=(show ∃t,u=Value.int i t from r);subst e;exact oN P w i t
 | inr x=>obtain⟨t,e⟩:=(show ∃t,u=Value.str x t from r);subst e;exact oM P w x t
theorem lH :∀{ks:List Key}{us:List Value},Vals (ks.map kV) us->ItemsAre (aY P w) ks us
 | [],_,r=>by rw[map_nil]at r;cases r;exact .nil
 | k :: ks,_,r=>by
  rw[map_cons]at r
  cases r with
  | cons h t=>exact .cons (lG h) (lH t)
abbrev KT(H:Hp):List (List Key × V)->List (List Key × Addr × Value)->Prop:=Paired λp q=>p.1=q.1/\H q.2.1=some (.tup (p.1.map kV))/\RelV p.2 q.2.2
theorem KT.val(r:KT H kvs xs)(k:List Key):CV (ik kvs k) ((atKey xs k).map (·.2)):=by
 induction r with
 | nil=>exact True.intro
 | @cons p q ps qs h t ih =>
  obtain⟨h1,_,h2⟩:=h
  by_cases e:p.1=k
  ·have e':q.1=k:=h1.symm.trans e
   have b:atKey (q :: qs) k=some q.2:=by simp[atKey,find?_cons,e']
   rw[jE e,b];exact h2
  ·have e':¬q.1=k:=λz=>e (h1.trans z)
   have b:atKey (q :: qs) k=atKey qs k:=by simp[atKey,find?_cons,e']
   rw[jF e,b];exact ih
theorem KT.Kr(r:KT H kvs xs)(k:List Key)(ry:RelV y u) :
  KT H (kvs.map λkv=>if kv.1=k then (kv.1,y) else kv) (xs.map (putAt k u)):=by
 induction r with
 | nil=>exact .nil
 | @cons p q ps qs h t ih =>
  rw[map_cons,map_cons]
  refine .cons ?_ ih
  obtain⟨h1,h2,h3⟩:=h
  unfold putAt
  by_cases e:p.1=k
  ·rw[if_pos e,if_pos (h1.symm.trans e)];exact⟨h1,h2,ry⟩
  ·rw[if_neg e,if_neg (λz=>e (h1.trans z))];exact⟨h1,h2,h3⟩
theorem KT.put(r:KT H kvs xs)(k:List Key)(hb:H b=some (.tup (k.map kV)))(ry:RelV y u) :
  KT H (dG kvs k y) (storedH xs k b u):=by
 have e:(kvs.any λkv=>decide (kv.1=k))=(atKey xs k).isSome:=by
  rw[jG,(r.val k).DQ,Option.isSome_map]
 unfold dG storedH
 rw[e]
 by_cases q:(atKey xs k).isSome=true
 ·rw[if_pos q,if_pos q];exact r.Kr k ry
 ·rw[if_neg q,if_neg q];exact Paired.snoc r ⟨rfl,hb,ry⟩
theorem KT.keeps(r:KT H kvs xs)(ht:∀b ys,H b=some (.tup ys)->H' b=some (.tup ys)):KT H' kvs xs :=
 Paired.Ka r λ_ _ z=>⟨z.1,ht _ _ z.2.1,z.2.2⟩
section
theorem zF(ok:D4 P w H h)(e:Rd H a u):C1 P w H h a u:=e.ok ok
theorem lN(ok:D4 P w H h)(e:Rd H a (.dK kvs)):kvs.length <= sizeLine/\(a == sysModules)=false/\∃vs,KV kvs vs/\h.DictOf (aY P w) a vs :=
 show C1 P w H h a (.dK kvs) from zF ok e
theorem xa(ok:D4 P w H h)(e:H a=some (.dK kvs)):kvs.length <= sizeLine/\(a == sysModules)=false/\∃vs,KV kvs vs/\h.DictOf (aY P w) a vs:=lN ok (.inl e)
theorem kJ(ok:D4 P w H h)(e:H a=some (.tup (ks.map kV))):(tupleKind (aY P w)).is h ks a:=by
 obtain⟨_,Cd,r,o,h1,⟨h2,n,h3⟩,_⟩:=(show C1 P w H h a (.tup (ks.map kV)) from ok a _ e)
 exact⟨o,Cd.toArray,n,h1,h2,h3,by simpa using lH r⟩
theorem lM(ok:D4 P w H h)(e:Rd H a (.dT kvs)):kvs.length <= sizeLine/\(a == sysModules)=false /\
  ∃xs,KT H kvs xs/\h.DictOfH (tupleKind (aY P w)) a xs:=by
 obtain⟨z,y,xs,r,o,es,ep,h1,h2,h3,h4,h5⟩:=(show C1 P w H h a (.dT kvs) from zF ok e)
 refine⟨z,y,xs,r,o,es,ep,h1,h2,h3,h4,λx hx=>?_,h5⟩
 have all:∀{l:List (List Key × V)}{m:List (List Key × Addr × Value)},KT H l m->∀x ∈ m,(tupleKind (aY P w)).is h x.1 x.2.1:=by
  intro l m q
  induction q with
  | nil=>intro x hx;exact nomatch hx
  | @cons p q ps qs hq t ih =>
   intro x hx
   rcases mem_cons.mp hx with e | hx
   ·subst e
    exact kJ ok (by rw[←hq.1];exact hq.2.1)
   ·exact ih x hx
 exact all r x hx
theorem Nv(ok:D4 P w H h)(e:H a=some (.dT kvs)):kvs.length <= sizeLine/\(a == sysModules)=false /\
  ∃xs,KT H kvs xs/\h.DictOfH (tupleKind (aY P w)) a xs:=lM ok (.inl e)
end
def DW(H:Hp)(a:Addr)(y:V)(r:Option V):Prop :=
 (∃kvs k,Rd H a (.dK kvs)/\y=kV k/\r=ik kvs k)∨∃kvs k b,Rd H a (.dT kvs)/\y = .ref b/\H b=some (.tup (k.map kV))/\r=ik kvs k
def Hv(H:Hp)(a:Addr)(y v:V)(H':Hp):Prop :=
 (∃kvs k,H a=some (.dK kvs)/\y=kV k/\kvs.length < sizeLine/\H' = upd H a (.dK (dG kvs k v))) ∨
 ∃kvs k b,H a=some (.dT kvs)/\y = .ref b/\H b=some (.tup (k.map kV))/\kvs.length < sizeLine/\H' = upd H a (.dT (dG kvs k v))
theorem DW.k{k:Key}(e:H a=some (.dK kvs)):DW H a (kV k) (ik kvs k) := .inl ⟨kvs,k, .inl e,rfl,rfl⟩
theorem Hv.k{k:Key}(e:H a=some (.dK kvs))(hl:kvs.length < sizeLine):Hv H a (kV k) v (upd H a (.dK (dG kvs k v))) := .inl ⟨kvs,k,e,rfl,hl,rfl⟩
section
variable {X:Cx}{pins:List (Addr × Obj)}{σ:St}{H:Hp}{s:Shared}{a:Addr}{y v:V}{u r:Value}{o:Option V}{A:Around}{E:Value->Shared->Prop}
theorem Inv.big(I:Inv X pins σ H s):sysModules < s.heap.objs.size:=by
 have h:mainGlobals < s.heap.objs.size:=(I.mod.glob.keeps I.bk).lt
 exact lt_trans (by decide) h
theorem ug(hu:A.units + 1 < cLine)(I:Inv X pins σ H s)(g:DW H a y (some v))(ry:RelV y u)(h:∀w' s',Inv X pins σ H s'->RelV v w'->Q w' s') :
  wpAny (model X.prog X.w) A (getItem (.ref a) u) Q E s:=by
 rcases g with ⟨kvs,k,e,ey,l⟩ | ⟨kvs,k,b,e,ey,eb,l⟩
 ·subst ey
  obtain⟨z,hd,vs,rel,dd⟩:=lN I.Ci e
  obtain⟨w',hw,Fl⟩:=CV.some_of (v:=v) (o:=valueAt vs k) (by rw[l];exact rel.val k)
  exact wpAny_getItem_of (lG ry) dd.mapOf hw (h w' _ (I.tok _) Fl)
 ·subst ey
  cases (show u=Value.ref b from ry)
  obtain⟨z,hd,xs,rel,dd⟩:=lM I.Ci e
  obtain⟨w',hw,Fl⟩:=CV.some_of (v:=v) (o:=(atKey xs k).map (·.2)) (by rw[l];exact rel.val k)
  obtain⟨p,hp,Jp⟩:=Option.map_eq_some_iff.mp hw
  refine wpAny_getItem_heap (tupleKind_room_in1 hu) (kJ I.Ci eb) dd hp ?_
  rw[Jp]
  exact h w' _ (I.tok _) Fl
theorem zd(hu:A.units + 1 < cLine)(I:Inv X pins σ H s)(g:DW H a y o)(ry:RelV y u)(h:∀s',Inv X pins σ H s'->Q (.bool (!o.isSome)) s') :
  wpAny (model X.prog X.w) A (compareOp .NotIn u (.ref a)) Q E s:=by
 rcases g with ⟨kvs,k,e,ey,l⟩ | ⟨kvs,k,b,e,ey,eb,l⟩
 ·subst ey
  obtain⟨z,hd,vs,rel,dd⟩:=lN I.Ci e
  refine wpAny_notIn_of (lG ry) hd dd.mapOf ?_
  rw[←(rel.val k).DQ,←l]
  exact h _ (I.tok _)
 ·subst ey
  cases (show u=Value.ref b from ry)
  obtain⟨z,hd,xs,rel,dd⟩:=lM I.Ci e
  refine wpAny_notIn_heap (tupleKind_room_in1 hu) (kJ I.Ci eb) hd dd ?_
  have q:=(rel.val k).DQ
  rw[Option.isSome_map]at q
  rw[←q,←l]
  exact h _ (I.tok _)
theorem n8(I:Inv X pins σ H s)(mu:M0 (H a))(hs:Heap.SameBut a s.heap h')(he:∃q,h'.get? a=some q)(new:C1 X.prog X.w (upd H a ob) h' a ob) :
  Inv X pins σ (upd H a ob) { s with heap:=h',toks:=t' } :=
 I.write (x:=a) (e:=a) mu (.inl rfl) (λb q hb z=>(hs.2 b hb).trans z) he new
theorem xb(z:kvs.length <= sizeLine)(hd:(a == sysModules)=false)(rel:KV kvs vs)(dd:h'.DictOf (aY P w) a vs) :
  C1 P w H' h' a (.dK kvs):=⟨z,hd,vs,rel,dd⟩
theorem uf(hu:A.units + 1 < cLine)(I:Inv X pins σ H s)(g:Hv H a y v H')(ry:RelV y u)(rv:RelV v r)(h:∀s',Inv X pins σ H' s'->Q () s') :
  wpAny (model X.prog X.w) A (setItem (.ref a) u r) Q E s:=by
 rcases g with ⟨kvs,k,e,ey,l,eH⟩ | ⟨kvs,k,b,e,ey,eb,l,eH⟩
 ·subst ey eH
  obtain⟨z,hd,vs,rel,dd⟩:=xa I.Ci e
  have hz:vs.length <= sizeLine:=by rw[←rel.length];exact z
  have hl:(dG kvs k v).length <= sizeLine:=by have:=fX kvs k v;omega
  refine wpAny_setItem_pairs (hsz:=hz) (lG ry) dd λh' Iv hs=>h _ ?_
  have he:∃q,h'.get? a=some q:=let ⟨q,_,_,hq,_⟩:=Iv; ⟨q,hq⟩
  exact n8 I (by rw[e];exact True.intro) hs he (xb hl hd (rel.put k rv) Iv)
 ·subst ey eH
  cases (show u=Value.ref b from ry)
  obtain⟨z,hd,xs,rel,dd⟩:=Nv I.Ci e
  have hz:xs.length <= sizeLine:=by rw[←Paired.length rel];exact z
  have hl:(dG kvs k v).length <= sizeLine:=by have:=fX kvs k v;omega
  refine wpAny_setItem_heap (hsz:=hz) (tupleKind_room_in1 hu) (kJ I.Ci eb) dd λh' Iv hs=>h _ ?_
  obtain⟨q,es,ep,hq,h2,h3,h4,_,h5⟩:=Iv
  refine n8 I (by rw[e];exact True.intro) hs ⟨q,hq⟩ ⟨hl,hd,_,(rel.put k eb rv).keeps λc ys ec=>?_,q,es,ep,hq,h2,h3,h4,h5⟩
  rw[ah (b9 ec e (λz=>nomatch z))]
  exact ec
end
section
end
def Nw(i:Expr):Prop:=∀ov iv,subscripted i false ov iv=operate [ov,iv] (getItem ov iv)
theorem xK{T id:String}
  (hl:typeLookup (.type T) "__getitem__" = pure (some (.builtin id))) (hs:Nw slice)
  (h:wpAny (model prog w) A (eval value env) (λo s₁=>wpAny (model prog w) A (eval slice env) (λi s₂=>s₂.TypeIs o T/\wpAny (model prog w) A (getItem o i) Q E s₂) E s₁) E s) :
  wpAny (model prog w) A (eval (.Subscript value slice pos) env) Q E s:=by
 refine Subscript_ (wpAny_mono h (λo s₁ h₁=>wpAny_mono h₁ (λi s₂ h₂=>?_) λ_ _ x=>x) λ_ _ x=>x)
 obtain⟨hT,h₂⟩:=h₂
 unfold subscriptTail
 refine wpAny_bind ?_
 rw[getitemInPython_of_ne hT.not_modules]
 refine wpAny_bind (wpAny_specialOf hT hl ?_)
 have fin:wpAny (model prog w) A (subscripted slice false o i) (λr s₃=>wpAny (model prog w) A (letTemporaryGo value o r >>= λ_=>pure r) Q E s₃) E s₂:=by
  rw[hs o i]
  exact wpAny_operating (wpAny_mono h₂ (λr s₃ h₃=>wpAny_bind (wpAny_letTemporaryGo (wpAny_pure h₃))) λ_ _ x=>x)
 first
  | exact wpAny_pure (wpAny_bind fin)
  | exact wpAny_bind (wpAny_pure (wpAny_bind fin))
  | exact wpAny_bind fin
theorem pe{σ:St}(I:Inv X pins σ H s)(g:DW H a y o):s.TypeIs (.ref a) "dict":=by
 rcases g with ⟨kvs,k,e,_,_⟩ | ⟨kvs,k,b,e,_,_,_⟩
 ·obtain⟨_,_,vs,_,dd⟩:=lN I.Ci e
  exact dd.typeIs
 ·obtain⟨_,_,xs,_,dd⟩:=lM I.Ci e
  exact dd.typeIs
def Nx(td ty:TE):TE:=λσ H Q=>td σ H λx H1=>ty σ H1 λy H2=>∃a v,x = .ref a/\DW H2 a y (some v)/\Q v H2
def xJ(ty td:TE):TE:=λσ H Q=>ty σ H λy H1=>td σ H1 λx H2=>∃a o,x = .ref a/\DW H2 a y o/\Q (.bl (!o.isSome)) H2
def Ny(td ty tv:TE):TS:=λD σ H=>tv σ H λv H1=>td σ H1 λx H2=>ty σ H2 λy H3=>∃a H4,x = .ref a/\Hv H3 a y v H4/\D.nx σ H4
section
theorem rN(hu:X.A.units + 1 < cLine)(ho:PE X o td)(hi:PE X i ty)(hs:Nw i):PE X (.Subscript o i pos) (Nx td ty):=by
 intro pins s σ H Q I h
 refine xK PySem.F.slot_dict_getitem.lookup hs (bj (ho pins s σ H _ I h) λu s1 ⟨x,H1,I1,rx,q1⟩=>bj (hi pins s1 σ H1 _ I1 q1) λiv s2 Cc=>?_)
 obtain⟨y,H2,I2,ry,a,v,ex,g,q2⟩:=Cc
 subst ex
 obtain rfl:u=Value.ref a:=rx
 exact⟨pe I2 g,ug hu I2 g ry λw' s3 I3 Fl=>⟨v,H2,I3,Fl,q2⟩⟩
theorem tf(hu:X.A.units + 1 < cLine)(hi:PE X i ty)(ho:PE X o td):PC X .NotIn i o (xJ ty td):=by
 intro pins s σ H Q I h
 refine bj (hi pins s σ H _ I h) λiv s1 ⟨y,H1,I1,ry,q1⟩=>bj (ho pins s1 σ H1 _ I1 q1) λu s2 Cc=>?_
 obtain⟨x,H2,I2,rx,a,ov,ex,g,q2⟩:=Cc
 subst ex
 obtain rfl:u=Value.ref a:=rx
 exact zd hu I2 g ry λs3 I3=>⟨.bl (!ov.isSome),H2,I3,rfl,q2⟩
theorem yb(hu:X.A.units + 1 < cLine)(ho:PE X o td)(hi:PE X i ty)(hv:PE X value tv)(hs:swapsWith value (some (.Subscript o i pos')) pos.line X.env=pure false) :
  PS X (.Assign [.Subscript o i pos'] value pos) (Ny td ty tv):=by
 intro pins s σ H D I h
 refine wpAny_Assign_Subscript (bj (hv pins s σ H _ I h) λr s1 ⟨v,H1,I1,rv,q1⟩=>bj (ho pins s1 σ H1 _ I1 q1) λu s2 ⟨x,H2,I2,rx,q2⟩=>bj (hi pins s2 σ H2 _ I2 q2) λiv s3 Cc=>?_) hs
 obtain⟨y,H3,I3,ry,a,H4,ex,g,q3⟩:=Cc
 subst ex
 obtain rfl:u=Value.ref a:=rx
 exact uf hu I3 g ry rv λs4 I4=>⟨σ,H4,I4,q3⟩
end
theorem xc(h:Heap)(hb:sysModules < h.objs.size):C1 P w H (h.push { cls := .type "dict",data := .dict #[] }) h.objs.size (.dK []) :=
 ⟨zero_le _,beq_eq_false_iff_ne.mpr (Ne.symm (ne_of_lt hb)),[], .nil,Heap.DictOf.new h⟩
section
end
def pR:List (TE × TE)->St->Hp->(List (V × V)->Hp->Prop)->Prop
 | [],_,H,Q=>Q [] H
 | (tk,tv) :: r,σ,H,Q=>tk σ H λx H1=>tv σ H1 λy H2=>pR r σ H2 λps H3=>Q ((x,y) :: ps) H3
abbrev VV:List (V × V)->List (Value × Value)->Prop:=Paired λp q=>RelV p.1 q.1/\RelV p.2 q.2
def QU(X:Cx)(pos:Pos)(keys:List (Option Expr))(values:List Expr)(Iw:List (TE × TE)):Prop :=
 ∀(pins:List (Addr × Obj))(s:Shared)(σ:St)(H:Hp)(Q:List (V × V)->Hp->Prop),Inv X pins σ H s->pR Iw σ H Q ->
  wpAny (model X.prog X.w) X.A (evalPairs (pairTrees keys values X.env pos)) (λvs s'=>∃ps H',Inv X pins σ H' s'/\VV ps vs/\Q ps H') X.xe s
theorem yc :QU X pos [] [] []:=λpins s σ H Q I h=>pairTrees_nil_walk ⟨[],H,I, .nil,h⟩
theorem vG(hk:PE X k tk)(hv:PE X v tv)(hr:QU X pos ks vs Iw) :
  QU X pos (some k :: ks) (v :: vs) ((tk,tv) :: Iw):=λpins s σ H Q I h =>
 pairTrees_cons_walk (bj (hk pins s σ H _ I h) λu s1 ⟨x,H1,I1,rx,q1⟩=>bj (hv pins s1 σ H1 _ I1 q1) λw2 s2 ⟨y,H2,I2,ry,q2⟩ =>
  bj (hr pins s2 σ H2 _ I2 q2) λws s3 Cc=>by obtain⟨ps,H3,I3,rel,q3⟩:=Cc;exact⟨(x,y) :: ps,H3,I3, .cons ⟨rx,ry⟩ rel,q3⟩)
noncomputable def fU(kvs more:List (Key × V)):List (Key × V):=more.foldl (λacc kv=>dG acc kv.1 kv.2) kvs
theorem KV.merge:∀{more:List (Key × V)}{rs:List (Key × Value)}{kvs:List (Key × V)}{vs:List (Key × Value)},KV more rs->KV kvs vs->KV (fU kvs more) (merged vs rs):=by
 intro more rs kvs vs r
 unfold KV at r
 induction r generalizing kvs vs with
 | nil=>intro q;exact q
 | @cons p q ps qs h t ih =>
  intro r0
  have e:KV (dG kvs p.1 p.2) (stored vs q.1 q.2):=by
   have:=r0.put p.1 h.2
   rw[←h.1];exact this
  exact ih e
theorem gK:∀(more kvs:List (Key × V)),(fU kvs more).length <= kvs.length + more.length
 | [],kvs=>by show kvs.length <= kvs.length + 0;omega
 | p :: r,kvs=>by
  have h1:=gK r (dG kvs p.1 p.2)
  have h2:=fX kvs p.1 p.2
  show(fU (dG kvs p.1 p.2) r).length <= _
  rw[length_cons];omega
theorem kY :∀{kvs:List (Key × V)}{ws:List (Value × Value)},VV (kvs.map λkv=>(kV kv.1,kv.2)) ws->∃rs,Carries (aY P w) ws rs/\KV kvs rs
 | [],_,r=>by rw[map_nil]at r;cases r;exact⟨[],True.intro, .nil⟩
 | p :: kvs,_,r=>by
  rw[map_cons]at r
  cases r with
  | @cons a b as bs h t =>
   obtain⟨rs,c,q⟩:=kY (P:=P) (w:=w) t
   obtain⟨b1,b2⟩:=b
   exact⟨(p.1,b2) :: rs,⟨lG h.1,rfl,c⟩, .cons ⟨rfl,h.2⟩ q⟩
def Nz(Iw:List (TE × TE)):TE:=λσ H Q=>∀p,H p=none->pR Iw σ (upd H p (.dK [])) λps H2=>H2 p=some (.dK [])/\∃kvs:List (Key × V),ps=kvs.map (λkv=>(kV kv.1,kv.2))/\kvs.length <= 15/\Q (.ref p) (upd H2 p (.dK (fU [] kvs)))
theorem ye(h:QU X pos keys values Iw)(Dj:keys.all (·.isSome)=true)(hl:keys.length=values.length)(h0:keys ≠ [])
  (h15:keys.length <= 15):PE X (.Dict keys values pos) (Nz Iw):=by
 intro pins s σ H Q I q
 have hn:=I.Ci.fresh (le_refl s.heap.objs.size)
 have I1:=I.laid (a:=s.heap.objs.size) (o := .dK []) (h':=s.heap.push { cls := .type "dict",data := .dict #[] }) (t':=s.toks) (λ_ _ q=>Heap.get?_push_of_some _ q) (le_refl _) (xc s.heap I.big)
 refine wpAny_Dict_walk (knd:=aY X.prog X.w) Dj hl h0 h15 (bj (h pins _ σ _ _ I1 (q _ hn)) λws s2 Cc=>?_)
 obtain⟨ps,H2,I2,rel,e,kvs,ep,lk,q2⟩:=Cc
 subst ep
 obtain⟨rs,c,rk⟩:=kY (P:=X.prog) (w:=X.w) rel
 obtain⟨z,hd,GZ,r0,dd⟩:=xa I2.Ci e
 cases r0
 refine⟨rs,c,dd,λh' Iv hs=>⟨.ref s.heap.objs.size,_,?_,rfl,q2⟩⟩
 have hz:(fU [] kvs).length <= sizeLine:=by
  have h1:=gK kvs []
  rw[List.length_nil]at h1
  rw[sizeLine_eq];omega
 have he:∃q,h'.get? s.heap.objs.size=some q:=let ⟨q,_,_,hq,_⟩:=Iv; ⟨q,hq⟩
 exact n8 I2 (by rw[e];exact True.intro) hs he (xb hz hd (rk.merge .nil) Iv)
structure M1(X:Cx)(o:Expr)(m:Str)(apos:Pos)(e:Expr)(CM:Pos):Prop where
 base:attributeBase o m X.env (eval o X.env)=eval o X.env
 C6:((backTo CM (starEach [e] X.env)).all (λx=>!x.1) && (backToKw CM (keywordEach [] X.env)).all (λx=>x.1.isSome)
  && decide (([e]:List Expr).length + ([]:List Keyword).length + (if ([]:List Keyword).isEmpty then 0 else 1) < 30))=true
 line:(apos.endLine == CM.line)=true
 trees:backTo CM (starEach [e] X.env)=[(false,eval e X.env)]
def Yz(H:Hp)(a:Addr):Prop:=(∃kvs,Rd H a (.dK kvs))∨∃kvs,Rd H a (.dT kvs)
theorem B5{σ:St}(I:Inv X pins σ H s)(d:Yz H a) :
  s.TypeIs (.ref a) "dict"/\(∀b,Value.ref a = .ref b->∃ob,s.heap.get? b=some ob/\ob.dict=none)/\(a == sysModules)=false:=by
 rcases d with ⟨kvs,e⟩ | ⟨kvs,e⟩
 ·obtain⟨_,hd,vs,_,dd⟩:=lN I.Ci e
  refine⟨dd.typeIs,λb q=>?_,hd⟩
  cases q
  obtain⟨ob,_,_,h1,h2,_⟩:=dd
  exact⟨ob,h1,h2.2.1⟩
 ·obtain⟨_,hd,xs,_,dd⟩:=lM I.Ci e
  refine⟨dd.typeIs,λb q=>?_,hd⟩
  cases q
  obtain⟨ob,_,_,h1,h2,_⟩:=dd
  exact⟨ob,h1,h2.2.1⟩
section
variable {X:Cx}{pins:List (Addr × Obj)}{σ:St}{H:Hp}{s:Shared}{a:Addr}{y d:V}{u r:Value}{o:Option V}{A:Around}{E:Value->Shared->Prop}
theorem BF(hu:A.units + 1 < cLine)(I:Inv X pins σ H s)(g:DW H a y o)(ry:RelV y u)(h:∀w' s',Inv X pins σ H s'->RelV (o.getD .Cp) w'->Q w' s') :
  wpAny (model X.prog X.w) A (call (.builtin "dict.get") [.ref a,u]) Q E s:=by
 rcases g with ⟨kvs,k,e,ey,l⟩ | ⟨kvs,k,b,e,ey,eb,l⟩
 ·subst ey
  obtain⟨z,hd,vs,rel,dd⟩:=lN I.Ci e
  refine call_meetsIn slot_dict_get dd.typeIs entry_dict_get (PySem.F.args_dict_get_2 _ _) (meets_dict_get (aY X.prog X.w) a (lG ry) hd) ⟨_,dd.mapOf,h _ _ (I.tok _) ?_⟩
  rw[l]
  exact(rel.val k).getD rfl
 ·subst ey
  cases (show u=Value.ref b from ry)
  obtain⟨z,hd,xs,rel,dd⟩:=lM I.Ci e
  refine call_meetsIn slot_dict_get dd.typeIs entry_dict_get (PySem.F.args_dict_get_2 _ _) (meetsH_dict_get (tupleKind (aY X.prog X.w)) a b hd) ⟨tupleKind_room_in1 hu,k,xs,kJ I.Ci eb,dd,h _ _ (I.tok _) ?_⟩
  rw[l]
  exact(rel.val k).getD rfl
end
def Af(td ty:TE):TE:=λσ H Q=>td σ H λx H1=>∃a,x = .ref a/\Yz H1 a/\ty σ H1 λy H2=>∃o,DW H2 a y o/\Q (o.getD .Cp) H2
section
theorem vJ(hu:X.A.units + 1 < cLine)(ho:PE X o td)(he:PE X e ty)(m:M1 X o "get" apos e CM):PE X (.Call (.Attribute o "get" apos) [e] [] CM) (Af td ty):=by
 intro pins s σ H Q I h
 refine wpAny_Call_method m.base m.C6 m.line PySem.F.plainAttrs_dict slot_dict_get PySem.F.type_dict_get (bj (ho pins s σ H _ I h) λu s1 Cc=>?_)
 obtain⟨x,H1,I1,rx,a,ex,d,q1⟩:=Cc
 subst ex
 obtain rfl:u=Value.ref a:=rx
 obtain⟨t1,t2,_⟩:=B5 I1 d
 refine⟨t1,t2,?_⟩
 rw[m.trees]
 refine Calls.callWith_builtin rfl (Calls.evalArgs_plain (Calls.spliced_cons (bj (he pins s1 σ H1 _ I1 q1) λiv s2 ⟨y,H2,I2,ry,ov,g,q2⟩=>Calls.spliced_nil ?_)))
 exact BF hu I2 g ry λw' s3 I3 Fl=>⟨_,H2,I3,Fl,q2⟩
end
section
end
section
end
section
end
section
variable {κ:Type}[DecidableEq κ]
end
theorem yR(h:(aY P w).is k u=true):RelV (kV k) u:=by
 rcases bH (show kK k u=true from h) with ⟨i,t,rfl,rfl⟩ | ⟨x,t,rfl,rfl⟩
 ·exact⟨t,rfl⟩
 ·exact⟨t,rfl⟩
def DcO(P:Program)(w:World)(o:Obj)(kvs:List (Key × V))(ep:Nat):Prop:=∃vs es,KV kvs vs/\o.ExactDict/\o.data = .dict es ep/\KeysOf (aY P w) es/\Pairs (aY P w) es.toList vs/\(vs.map (·.1)).Nodup
noncomputable def N0(a:Addr)(o:Obj)(kvs:List (Key × V)):It :=
 ⟨λi H=>H a=some (.DT o (.dK kvs))/\i < kvs.length,λi H x H'=>H' = H/\∃k,(kvs.map (·.1))[i]? = some k/\x=kV k,λi H=>H a=some (.DT o (.dK kvs))/\i=kvs.length⟩
theorem Inv.Jq{σ:St}(I:Inv X pins σ H s)(ha:H a=some (.DT o u)):s.heap.get? a=some o:=(I.Ci a _ ha).1
theorem sN{K:Frag}(a it:Addr)(o:Obj)(kvs:List (Key × V))(ep:Nat)(hD:DcO P w o kvs ep):nD P w K tg (N0 a o kvs) [it] it (λi h=>h.IsKeyIter it a i kvs.length ep) where
 mem:=by simp
 obj:=λi h st b hb=>by
  have e:b=it:=by simpa using hb
  subst e
  obtain⟨ob,e,c,d⟩:=st
  exact⟨ob,e,λv z=>by rw[d]at z;cases z⟩
 keep:=λi h h' st k=>by
  obtain⟨ob,e,c,d⟩:=st
  exact⟨ob,k it (by simp) ob e,c,d⟩
 item:=by
  intro X hP hw hK hc i pins s σ H E I hf st hg
  subst hP hw hK
  obtain⟨ha,hi⟩:=hg
  obtain⟨vs,es,rel,d1,d2,d3,d4,d5⟩:=hD
  obtain⟨f0,f1,f2,f3,f4,f5⟩:=hf it (by simp)
  have hl:=rel.length
  have hv:vs[i]? = some (vs[i]'(by omega)):=getElem?_eq_getElem (by omega)
  have st:s.heap.IsKeyIter it a i vs.length ep:=by rw[←hl];exact st
  refine wpAny_pyNext_dict_item (knd:=aY X.prog X.w) (k:=(vs[i]'(by omega)).1) (v:=(vs[i]'(by omega)).2) st ⟨o,es,I.Jq ha,d1,d2,d3,d4,d5⟩ hv λkey h' hk Eg sb=>?_
  rw[←hl]at Eg
  have I1:Inv X pins σ H { s with heap:=h' }:=I.turned (t':=s.toks) (λb o hb e=>(sb.2 b hb).trans e) f0 f1 f3 f4 f5
  obtain⟨ob,e,c,d⟩:=id Eg
  exact⟨key,rfl,oX (s:={ s with heap:=h' }) e c d (by decide) ⟨_,H,I1,yR hk,⟨rfl,_,by rw[rel.keys,getElem?_map,hv];rfl,rfl⟩,Eg,λb hb=>(hf b hb).1⟩⟩
 done:=by
  intro X hP hw hK hc i pins s σ H E I hf st hg
  subst hP hw hK
  obtain⟨ha,rfl⟩:=hg
  obtain⟨vs,es,rel,d1,d2,d3,d4,d5⟩:=hD
  obtain⟨f0,f1,f2,f3,f4,f5⟩:=hf it (by simp)
  have hl:=rel.length
  have st:s.heap.IsKeyIter it a vs.length vs.length ep:=by rw[←hl];exact st
  exact wpAny_pyNext_dict_end (knd:=aY X.prog X.w) (I.ok.hd hc) st ⟨o,es,I.Jq ha,d1,d2,d3,d4,d5⟩ (List.getElem?_eq_none (le_refl _)) λh' eb=>⟨rfl,I.turned (t':=s.toks) (λb o hb e=>eb b o hb e) f0 f1 f3 f4 f5⟩
 self:=λ_ _ _ _ _ st h=>wpAny_pyIter_keyiter st h
section
def N1(tl:TE):TI:=λσ H R=>tl σ H λx H1=>∃a kvs,x = .ref a/\H1 a=some (.dK kvs)/\∀o,R (N0 a o kvs) (upd H1 a (.DT o (.dK kvs)))
theorem yd(hl:PE X l tl):PI X tg l (N1 tl):=by
 intro pins s σ H R I h
 refine bj (hl pins s σ H _ I h) λv s1 Cc=>?_
 obtain⟨x,H1,I1,r1,q1⟩:=Cc
 obtain⟨a,kvs,e,ha,q⟩:=q1
 subst e
 cases r1
 obtain⟨z,hd,vs,rel,o,es,ep,eo,d1,d2,d3,d4,d5⟩:=xa I1.Ci ha
 have I2:Inv X pins σ (upd H1 a (.DT o (.dK kvs))) s1:=I1.write (x:=a) (e:=a) (h':=s1.heap) (t':=s1.toks) (by rw[ha];trivial) (.inl rfl) (λb u _ q=>q) ⟨_,eo⟩ ⟨eo,z,hd,vs,rel,o,es,ep,eo,d1,d2,d3,d4,d5⟩
 refine wpAny_pyIter_dict (knd:=aY X.prog X.w) hd ⟨o,es,eo,d1,d2,d3,d4,d5⟩ ?_
 refine⟨s1.heap.objs.size,[s1.heap.objs.size],_,_,_,rfl,I2.kept (t':=s1.toks) λb o e=>Heap.get?_push_of_some _ e,sN a _ o kvs ep ⟨vs,es,rel,d1,d2,d3,d4,d5⟩,⟨_,Heap.get?_push_size _ rfl,rfl,by rw[rel.length];rfl⟩,λb hb=>?_,q o⟩
 have e:b=s1.heap.objs.size:=by simpa using hb
 subst e
 exact I2.F2 (le_refl _) (I2.Ci.fresh (le_refl _))
theorem wS{g:TG}{tb:TS}{D:nG}(Pv:Nat->St->Hp->Prop)(h0:Pv 0 σ H)(hl:∀i σ H,i <= kvs.length->Pv i σ H->H a=some (.DT o (.dK kvs)))
  (hs:∀i k σ H,(kvs.map (·.1))[i]? = some k->Pv i σ H->g (kV k) σ H λσ2 H2=>tb { D with nx:=Pv (i + 1),ct:=Pv (i + 1),bk:=D.nx } σ2 H2) (hd:∀σ H,Pv kvs.length σ H->D.nx σ H) :
  ∃W:Nat->Nat->St->Hp->Prop,(∃m,W 0 m σ H)/\∀i m σ H,W i m σ H ->
   ((N0 a o kvs).stop i H/\D.nx σ H)∨((N0 a o kvs).go i H/\∃N:St->Hp->Prop,(∀σ' H',N σ' H'->∃m',m' < m/\W (i + 1) m' σ' H')/\∀x H',(N0 a o kvs).Hm i H x H'->g x σ H' λσ2 H2=>tb { D with nx:=N,ct:=N,bk:=D.nx } σ2 H2):=by
 refine⟨λi m σ H=>m=kvs.length - i/\i <= kvs.length/\Pv i σ H,⟨kvs.length,by simp,zero_le _,h0⟩,?_⟩
 rintro i m σ H ⟨rfl,hi,p⟩
 have q:=hl i σ H hi p
 by_cases CS:i < kvs.length
 ·refine .inr ⟨⟨q,CS⟩,Pv (i + 1),λσ' H' p'=>⟨kvs.length - (i + 1),by omega,rfl,CS,p'⟩,λx H' y=>?_⟩
  obtain⟨e,k,hk,ex⟩:=y
  subst e ex
  exact hs i k σ _ hk p
 ·have e:i=kvs.length:=by omega
  subst e
  exact .inl ⟨⟨q,rfl⟩,hd σ H p⟩
end
section
end
end L2
namespace L2
open PySem
section
def uE(t:TS):TS:=λD σ H=>∃DX:St->Hp->Prop,t { D with nx:=DX } σ H/\∀σ' H',DX σ' H'->D.nx σ' H'
theorem rK(h:PS X st t):PS X st (uE t):=λpins s σ H D I ⟨DX,q,k⟩ =>
 bj (h pins s σ H _ I q) λf s1 z=>by
  cases f with
  | next=>obtain⟨σ1,H1,I1,p⟩:=z;exact⟨σ1,H1,I1,k _ _ p⟩
  | brk=>exact z
  | cont=>exact z
  | ret u=>exact z
def Ac(t:TE):TE:=λσ H Q=>∃DX:V->Hp->Prop,t σ H DX/\∀v H',DX v H'->Q v H'
theorem gr(h:PE X e t):PE X e (Ac t):=λpins s σ H Q I ⟨DX,q,k⟩ =>
 bj (h pins s σ H _ I q) λu s1 Cc=>by obtain⟨v,H1,I1,r,p⟩:=Cc;exact⟨v,H1,I1,r,k v H1 p⟩
def Ab(t:TT):TT:=λσ H Q=>∃DX:Bool->Hp->Prop,t σ H DX/\∀b H',DX b H'->Q b H'
theorem j0(h:PT X e t):PT X e (Ab t):=λpins s σ H Q I ⟨DX,q,k⟩ =>
 bj (h pins s σ H _ I q) λb s1 Cc=>by obtain⟨H1,I1,p⟩:=Cc;exact⟨H1,I1,k b H1 p⟩
end
open PySem.Spec PyProof.Rows
structure G5(K:Frag)(x qual:Str)(st:Stmt)(f:Addr)(fd:FuncData):Prop where
 ex:∃(oc:Value)(od:Option Addr)(dV kV doc pm:Value)(an:Option Addr)(cdv ct:Value)(FL:Array (Option Value)),
  fd=fnOf x qual (bU st) (aI st) (ai st) dV kV doc pm an cdv ct/\K.lookup f=some ⟨oc,od, .func fd,FL⟩/\codeIn K cdv qual=true
 kp:keepIn K (.ref f)=true
section
variable {P:Program}{w:World}{K:Frag}{mg:Str->Option Value}{base:Heap}
theorem G5.ok{st:Stmt}(F:G5 K x qual st f fd)(S:au N ps (ai st))(len:∀vs H Q E,sp vs H Q E->vs.length=ps.length)
  (Fg:∀(cdv:Value)(A:Around)(outer:List Env)(s:Shared)(H:Hp)(vs:List V)(Q:VK)(E:XK),Cj k (A.deeper (envOfC qual (ai st) s.heap.objs.size f cdv))->sp vs H Q E ->
   ∃t,Ey (qU ay P w K mg base N qual (ai st) f cdv A outer s H E).Lz (aI st) t/\t { nx:=λ_ H'=>Q .Cp H',rt:=Q } (start N vs) H):BY P w K mg base ay (k + 1) f fd ps sp:=by
 obtain⟨oc,od,dV,kV,doc,pm,an,cdv,ct,FL,rfl,lk,Fx⟩:=F.ex
 refine zP lk Fx S len λA outer s H vs Q E hr HR=>?_
 obtain⟨t,h,q⟩:=Fg cdv A outer s H vs Q E hr HR
 exact⟨t,h.Lz,q⟩
end
def xX(K:Frag):R2:=λx y H Q=>∃(p:Addr)(vs:List V)(d:PyData)(ds:List PyData),y = .ref p/\Den K H x d/\Cb K H p vs/\CW K H vs ds/\DR d 8/\(∀z ∈ ds,DR z 8)/\Q (.bl (!(ds.any λy=>PyData.eqv y d))) H
theorem tj(hu:X.A.units + 64 < cLine):eW X (compareOp .NotIn) (xX X.K):=by
 intro pins s σ H x y v u Q I rx ry h
 obtain⟨p,vs,d,ds,rfl,h1,h2,h3,s1,s2,q⟩:=h
 obtain⟨as,r1⟩:=I.den (.lst h2 h3) ry
 obtain⟨bs,r2⟩:=I.den h1 rx
 refine SeqAt.notIn_list_reads r1 r2 (mF s2).1 s1.1 ?_ ⟨.bl _,H,I,rfl,q⟩
 have:=s1.2
 have:=Nat.min_le_right (PyData.depthAll ds) d.depth
 omega
def N2(K:Frag):R2:=λx y H Q=>∃a b xs ys,x = .ref a/\y = .ref b/\Ck K H a xs/\Ck K H b ys/\ys ≠ []/\xs.length + ys.length <= sizeLine /\
 (xs=[]->Q (.ref b) H)/\(xs ≠ []->∀p,H p=none->Q (.ref p) (upd H p (.tup (xs ++ ys))))
theorem yi :eW X (binaryOp .Add) (N2 X.K):=by
 intro pins s σ H x y v u Q I rx ry h
 obtain⟨a,b,xs,ys,rfl,rfl,ha,hb,hy,hz,q1,q2⟩:=h
 by_cases hx:xs=[]
 ·cases rx
  cases ry
  obtain⟨Cd,r1,p1,_⟩:=I.tuple ha
  obtain⟨E3,r2,p2,_⟩:=I.tuple hb
  have e1:Cd=[]:=r1.Ea.mpr hx
  obtain⟨⟨cls,dd,data,sl⟩,ho,hc,n,hd⟩:=id p1
  obtain⟨⟨Ta,QM,data2,QN⟩,D5,Fi,n2,hd2⟩:=id p2
  simp only at hc hd Fi hd2
  subst hc hd Fi hd2
  exact concat_meets ⟨_,ho,rfl⟩ ⟨_,D5,rfl⟩ noFill_tuple_add seq_tuple_add slot_tuple_add entry_tuple_add (args_tuple_add_2 _ _)
   (tuple_addW0 a b Cd.toArray E3.toArray n n2 dd QM sl QN (by simp[e1])) ⟨ho,D5,⟨.ref b,H,I,rfl,q1 hx⟩⟩
 ·exact rQ pins s σ H _ _ v u Q I rx ry ⟨a,b,xs,ys,rfl,rfl,ha,hb,hx,hz,λz=>absurd z hy,λ_=>q2 hx⟩
end L2
namespace L2
open PySem
theorem ie :∀{a:List Stmt}{p:Pos}{s:Shared},
  Sem.wp M Γ (execs a env) (λf p' s'=>match f with | .next=>Sem.wp M Γ (execs b env) Q E p' s' | f=>Q f p' s') E p s->Sem.wp M Γ (execs (a ++ b) env) Q E p s
 | [],_,_,h=>h
 | st :: a,p,s,h=>by
  rw[execs_cons,Sem.wp_bind']at h
  rw[List.cons_append,execs_cons,Sem.wp_bind']
  refine Sem.wp_mono M Γ _ (λf p' s' h'=>?_) (λ_ _ _ h'=>h') _ _ h
  cases f with
  | next=>exact ie (a:=a) h'
  | brk=>exact h'
  | cont=>exact h'
  | ret u=>exact h'
section
theorem ya(h1:Ey X a t)(h2:Ey X b u):Ey X (a ++ b) (xH (uE t) u):=by
 intro pins s σ H D I h
 obtain⟨DX,q,k⟩:=h
 intro Γ p hΓ
 refine ie ?_
 refine Sem.wp_mono _ Γ _ (λf p' s' z=>?_) (λ_ _ _ z=>z) _ _ (h1 pins s σ H _ I q Γ p hΓ)
 cases f with
 | next=>obtain⟨σ1,H1,I1,z⟩:=z;exact h2 pins s' σ1 H1 D I1 (k _ _ z) Γ p' hΓ
 | brk=>exact z
 | cont=>exact z
 | ret u=>exact z
theorem k7(n:Nat)(h1:Ey X (ss.take n) t)(h2:Ey X (ss.drop n) u):Ey X ss (xH (uE t) u):=by
 have h:=ya h1 h2
 rwa [List.take_append_drop]at h
end
open PySem.Spec PyProof.Rows
section
end
section
end
section
end
section
end
section
end
section
end
section
end
section
end
section
end
section
end
section
end
section
end
section
end
section
end
end L2
namespace L2
open PySem PySem.Spec PyProof.Rows PySem.Builtin.Str
theorem rn:∀{ys:List Str}{Cd:List Value},Vals (ys.map V.str) Cd->StrsAre Cd ys
 | [],_, .nil=>by constructor
 | _ :: _,_, .cons ⟨_,e⟩ r=>by subst e;constructor;exact rn r
theorem lq:∀(l:List (Str × Tok)),Vals ((l.map (·.1)).map V.str) (strValues l)
 | [] => .nil
 | (x,t) :: l => .cons ⟨t,rfl⟩ (lq l)
section
def zG(K:Frag):V->List V->Hp->VK->Prop:=λx vs H Q=>∃(sep:Str)(D:Addr)(ys:List Str),x = .str sep/\vs=[.ref D]/\Cb K H D (ys.map V.str)/\(ys.map (·.length)).sum + ys.length * sep.length <= 16777216/\Q (.str (Txt.join sep ys)) H
theorem rW:L4 X "str.join" (zG X.K):=by
 intro pins s σ H x vs v us Q I rx rv h
 obtain⟨sep,D,ys,rfl,rfl,hq,hz,q⟩:=h
 obtain⟨t,rfl⟩:=rx
 obtain⟨u,rfl,ru⟩:=rv.one
 cases ru
 obtain⟨Cd,rv,p,_⟩:=I.list hq
 exact join_list p.isList (rn rv) hz λt' k=>⟨.str _,H,I.tok _,⟨_,rfl⟩,q⟩
def AH:V->List V->Hp->VK->Prop:=λx vs H Q=>∃z y:Str,x = .str z/\vs=[.str y]/\(y.length == 0)=false/\z.length <= 4000000/\(Txt.split z y).length <= 1000000/\∀D,H D=none->Q (.ref D) (upd H D (.lst ((Txt.split z y).map V.str)))
theorem oK:L4 X "str.split" AH:=by
 intro pins s σ H x vs v us Q I rx rv h
 obtain⟨z,y,rfl,rfl,hy,hz,hn,q⟩:=h
 obtain⟨t,rfl⟩:=rx
 obtain⟨u,rfl,ru⟩:=rv.one
 obtain⟨u',rfl⟩:=ru
 have hx:z.length <= sizeLine:=le_trans hz (by decide)
 have fin:∀(l:List (Str × Tok))(k:Nat),l.map (·.1)=Txt.split z y->EP X pins σ Q (.ref s.heap.objs.size) { s with heap:=s.heap.push { cls := .type "list",data := .seq (strValues l).toArray },toks:=k }:=λl k e =>
  ⟨.ref s.heap.objs.size,_,I.laid (t':=k) (λb o' e'=>Heap.get?_push_of_some _ e') (le_refl _) (show C1 X.prog X.w _ _ _ (.lst ((Txt.split z y).map V.str)) from ⟨by rw[length_map];exact le_trans hn (by decide),strValues l,_,by rw[←e];exact lq l,Heap.get?_push_size _ rfl⟩),rfl,q _ (I.Ci.fresh (le_refl _))⟩
 cases h1:(decide (z.length < y.length) || decide (strKind z < strKind y))
 ·cases hf:(occurrences z y 0 z.length (z.length + 1)).isEmpty
  ·have e:Txt.split z y=partsBetween z (occurrences z y 0 z.length (z.length + 1)) y.length:=(if_neg (ne_true_of_eq_false h1)).trans (if_neg (ne_true_of_eq_false hf))
   refine call_meets F.slot_str_split (typeIs_str _ _ _) F.entry_str_split (F.args_str_split_2 _ _) (meets_str_split_sep z y t u' h1 hy hf hx (by rw[←e];exact le_trans hn (by decide))) ?_
   have:=fin (numbered s.toks (partsBetween z (occurrences z y 0 z.length (z.length + 1)) y.length)) (s.toks + (partsBetween z (occurrences z y 0 z.length (z.length + 1)) y.length).length) ((numbered_texts _ _).trans e.symm)
   rw[←strsFrom_eq]at this
   exact this
  ·exact call_meets F.slot_str_split (typeIs_str _ _ _) F.entry_str_split (F.args_str_split_2 _ _) (meets_str_split_not_found z y t u' h1 hy hf) (fin [(z,t)] s.toks ((if_neg (ne_true_of_eq_false h1)).trans (if_pos hf)).symm)
 ·exact call_meets F.slot_str_split (typeIs_str _ _ _) F.entry_str_split (F.args_str_split_2 _ _) (meets_str_split_cannot_occur z y t u' h1) (fin [(z,t)] s.toks (if_pos h1).symm)
theorem ll:CA X (.type "int") (λxs H Q=>∃(x:Str)(n:Int),xs=[.str x]/\PySem.intText? x=some n/\x.length <= 640/\Q (.int n) H):=by
 intro pins s σ H xs us Q I r h
 obtain⟨x,n,rfl,hn,hl,q⟩:=h
 obtain⟨u,rfl,t,rfl⟩:=ig r
 exact PySem.W.KIN.call_text hn hl ⟨.int n,H,I.tok _,⟨_,rfl⟩,q⟩
theorem lj:CA X (.type "str") (λxs H Q=>∃x:Str,xs=[.str x]/\Q (.str x) H):=by
 intro pins s σ H xs us Q I r h
 obtain⟨x,rfl,q⟩:=h
 obtain⟨u,rfl,t,rfl⟩:=ig r
 exact PySem.P.str_of_str ⟨.str x,H,I,⟨_,rfl⟩,q⟩
end
noncomputable def TF(x:Str):It:=⟨λi _=>i < x.cps.size,λi H v H'=>H' = H/\∃c,x.cps[i]? = some c/\v = .str ⟨#[c]⟩,λi _=>x.cps.size <= i⟩
theorem uA{K:Frag}(x:Str)(t:Tok)(it:Addr):nD P w K tg (TF x) [it] it (λi h=>h.IsStrIter it (strIterType x) x t i) where
 mem:=by simp
 obj:=λi h st b hb=>by
  have e:b=it:=by simpa using hb
  subst e
  obtain⟨o,e,c,d⟩:=st
  exact⟨o,e,λv z=>by rw[d]at z;cases z⟩
 keep:=λi h h' st k=>by
  obtain⟨o,e,r⟩:=st
  exact⟨o,k it (by simp) o e,r⟩
 item:=by
  intro X hP hw hK hc i pins s σ H E I hf st hg
  subst hP hw hK
  have hx:x.cps[i]? = some x.cps[i]:=Array.getElem?_eq_getElem hg
  obtain⟨f0,f1,f2,f3,f4,f5⟩:=hf it (by simp)
  have go:∀h',h'.IsStrIter it (strIterType x) x t (i + 1)->Heap.SameBut it s.heap h'->∃u,(some (Value.str ⟨#[x.cps[i]]⟩ s.toks):Option Value)=some u/\wpAny (model X.prog X.w) X.A (letOwnedTupleGo tg (.ref it) u) (λ_ s2=>∃v H2,Inv X pins σ H2 s2/\RelV v u/\(TF x).Hm i H v H2/\s2.heap.IsStrIter it (strIterType x) x t (i + 1)/\∀b ∈ [it],H2 b=none) E { s with heap:=h',toks:=s.toks + 1 }:=λh' Eg sb=>by
   have I1:Inv X pins σ H { s with heap:=h',toks:=s.toks + 1 }:=I.turned (t':=s.toks + 1) (λb o hb e=>(sb.2 b hb).trans e) f0 f1 f3 f4 f5
   obtain⟨o,e,c,d⟩:=id Eg
   refine⟨_,rfl,oX (s:={ s with heap:=h',toks:=s.toks + 1 }) e c d ?_ ⟨.str ⟨#[x.cps[i]]⟩,H,I1,⟨_,rfl⟩,⟨rfl,_,hx,rfl⟩,Eg,λb hb=>(hf b hb).1⟩⟩
   unfold strIterType
   split<;>decide
  by_cases ha:x.cps.all (· < 128)=true
  ·have e:strIterType x = "str_ascii_iterator":=if_pos ha
   rw[e]at st
   exact wpAny_pyNext_ascii_item st hx λh' Eg sb=>go h' (by rw[e];exact Eg) sb
  ·have e:strIterType x = "str_iterator":=if_neg ha
   rw[e]at st
   exact wpAny_pyNext_wide_item st hx λh' Eg sb=>go h' (by rw[e];exact Eg) sb
 done:=by
  intro X hP hw hK hc i pins s σ H E I hf st hg
  subst hP hw hK
  have hx:x.cps[i]? = none:=Array.getElem?_eq_none hg
  obtain⟨f0,f1,f2,f3,f4,f5⟩:=hf it (by simp)
  by_cases ha:x.cps.all (· < 128)=true
  ·have e:strIterType x = "str_ascii_iterator":=if_pos ha
   rw[e]at st
   exact wpAny_pyNext_ascii_end (I.ok.hd hc) st hx λh' eb=>⟨rfl,I.turned (t':=s.toks) (λb o hb e=>eb b o hb e) f0 f1 f3 f4 f5⟩
  ·have e:strIterType x = "str_iterator":=if_neg ha
   rw[e]at st
   exact wpAny_pyNext_wide_end (I.ok.hd hc) st hx λh' eb=>⟨rfl,I.turned (t':=s.toks) (λb o hb e=>eb b o hb e) f0 f1 f3 f4 f5⟩
 self:=λ_ _ _ _ _ st h=>by
  by_cases ha:x.cps.all (· < 128)=true
  ·rw[show strIterType x = "str_ascii_iterator" from if_pos ha]at st
   exact wpAny_pyIter_striter_ascii st h
  ·rw[show strIterType x = "str_iterator" from if_neg ha]at st
   exact wpAny_pyIter_striter_wide st h
section
def TH(tl:TE):TI:=λσ H R=>tl σ H λx H1=>∃z,x = .str z/\R (TF z) H1
theorem AN(hl:PE X l tl):PI X tg l (TH tl):=by
 intro pins s σ H R I h
 refine bj (hl pins s σ H _ I h) λv s1 Cc=>?_
 obtain⟨x,H1,I1,r1,q1⟩:=Cc
 obtain⟨z,e,q⟩:=q1
 subst e
 obtain⟨t,rfl⟩:=r1
 refine wpAny_pyIter_strU ?_
 refine⟨s1.heap.objs.size,[s1.heap.objs.size],_,_,H1,rfl,I1.kept (t':=s1.toks) λb o e=>Heap.get?_push_of_some _ e,uA z t _,⟨_,Heap.get?_push_size _ rfl,rfl,rfl⟩,λb hb=>?_,q⟩
 have e:b=s1.heap.objs.size:=by simpa using hb
 subst e
 exact I1.F2 (le_refl _) (I1.Ci.fresh (le_refl _))
end
end L2
namespace L2
open PySem PySem.StrLaws PySem.Builtin PySem.Builtin.Str
noncomputable def gc(c:Nat):List Nat->List (List Nat)
 | []=>[[]]
 | a :: l=>if a=c then [] :: gc c l else match gc c l with
  | []=>[[a]]
  | p :: r=>(a :: p) :: r
noncomputable def kN(c:Nat):List (List Nat)->List Nat
 | []=>[]
 | [p]=>p
 | p :: q :: r=>p ++ c :: kN c (q :: r)
theorem kW(c a:Nat)(l:List Nat):gc c (a :: l)=if a=c then [] :: gc c l else match gc c l with
  | []=>[[a]]
  | p :: r=>(a :: p) :: r:=rfl
theorem kU :∀{p:List Nat},c ∉ p->gc c p=[p]
 | [],_=>rfl
 | a :: p,h=>by
  unfold gc
  rw[if_neg (λe=>h (by rw[e];exact mem_cons_self)),kU λz=>h (mem_cons_of_mem _ z)]
theorem sE(l:List Nat):∀{p:List Nat},c ∉ p->gc c (p ++ c :: l)=p :: gc c l
 | [],_=>by
  show gc c (c :: l)=_
  rw[kW,if_pos rfl]
 | a :: p,h=>by
  show gc c (a :: (p ++ c :: l))=_
  rw[kW,if_neg (λe=>h (by rw[e];exact mem_cons_self)),sE l λz=>h (mem_cons_of_mem _ z)]
theorem pj :∀{ps:List (List Nat)},ps ≠ []->(∀p ∈ ps,c ∉ p)->gc c (kN c ps)=ps
 | [],h,_=>absurd rfl h
 | [p],_,h=>kU (h p mem_cons_self)
 | p :: q :: r,_,h=>by
  show gc c (p ++ c :: kN c (q :: r))=_
  rw[sE _ (h p mem_cons_self),pj (cons_ne_nil _ _) λx hx=>h x (mem_cons_of_mem _ hx)]
noncomputable def i8(x:Str)(c a:Nat):List Nat:=(List.range' a (x.length - a)).filter λi=>decide (x.cps.toList[i]? = some c)
theorem mW(x:Str)(c limit:Nat):∀(m a:Nat)(st:Array Nat × Nat),st.snd <= a->st.fst.size + m <= limit ->
  (forIn (List.range' a m) st (occBody x ⟨#[c]⟩ x.length limit)).run.fst.toList=st.fst.toList ++ (List.range' a m).filter λi=>decide (x.cps.toList[i]? = some c)
 | 0,_,st,_,_=>by simp
 | m + 1,a,st,hs,hl=>by
  rw[List.range'_succ,forIn_cons]
  unfold occBody
  by_cases h:x.cps.toList[a]? = some c
  ·have h2:=(subAt_one x c a).mpr h
   rw[if_pos ⟨⟨⟨by omega,hs⟩,h2.1⟩,h2.2⟩,filter_cons,if_pos (decide_eq_true h)]
   have:=mW x c limit m (a + 1) (st.fst.push a,a + (⟨#[c]⟩:Str).length) (le_refl _) (by rw[Array.size_push];omega)
   have e:(st.fst.push a).toList=st.fst.toList ++ [a]:=Array.toList_push
   rw[show((st.fst.push a,a + (⟨#[c]⟩:Str).length):Array Nat × Nat).fst.toList=st.fst.toList ++ [a] from e,append_assoc]at this
   exact this
  ·rw[if_neg (λz=>h ((subAt_one x c a).mp ⟨z.1.2,z.2⟩)),filter_cons,if_neg (by rw[decide_eq_true_eq];exact h)]
   exact mW x c limit m (a + 1) (st.fst,st.snd) (Nat.le_succ_of_le hs) (by show st.fst.size + m <= limit;omega)
theorem rS(x:Str)(c:Nat):occurrences x ⟨#[c]⟩ 0 x.length (x.length + 1)=i8 x c 0:=by
 rw[occ_eq,mW x c _ _ 0 (#[],0) (le_refl _) (by show 0 + (x.length + 1 - 0) <= _;omega)]
 unfold i8
 show [] ++ _=_
 rw[List.nil_append,show x.length + 1 - 0=x.length - 0 + 1 by omega,List.range'_concat,filter_append]
 have:x.cps.toList[0 + 1 * (x.length - 0)]? = none:=List.getElem?_eq_none (by rw[Array.length_toList];show x.cps.size <= _;rw[show 0 + 1 * (x.length - 0)=x.cps.size by show 0 + 1 * (x.cps.size - 0)=_;omega];exact le_refl _)
 rw[filter_cons,if_neg (by rw[this,decide_eq_true_eq];exact λz=>by cases z)]
 simp
theorem im(x:Str)(a b:Nat):(strSub x a b).cps.toList=(x.cps.toList.take b).drop a:=by
 show(x.cps.extract a b).toList=_
 rw[Array.toList_extract,List.extract_eq_drop_take,List.take_drop]
 by_cases h:a <= b
 ·rw[show a + (b - a)=b by omega]
 ·rw[show b - a=0 by omega,Nat.add_zero,drop_eq_nil_of_le (by rw[length_take];omega),drop_eq_nil_of_le (by rw[length_take];omega)]
theorem oB(x:Str)(c:Nat):∀(k a:Nat),a + k=x.length->(partsFrom x 1 a (i8 x c a)).map (λs=>s.cps.toList)=gc c (x.cps.toList.drop a)
 | 0,a,h=>by
  have e:i8 x c a=[]:=by unfold i8;rw[show x.length - a=0 by omega];rfl
  rw[e]
  show [(strSub x a x.length).cps.toList]=_
  rw[im,drop_eq_nil_of_le (by rw[length_take];omega),drop_eq_nil_of_le (by rw[Array.length_toList];show x.length <= a;omega)]
  rfl
 | k + 1,a,h=>by
  have ha:a < x.cps.toList.length:=by rw[Array.length_toList];show a < x.length;omega
  have ed:x.cps.toList.drop a=x.cps.toList[a] :: x.cps.toList.drop (a + 1):=List.drop_eq_getElem_cons ha
  have ih:=oB x c k (a + 1) (by omega)
  have ep:i8 x c a=if x.cps.toList[a]=c then a :: i8 x c (a + 1) else i8 x c (a + 1):=by
   unfold i8
   rw[show x.length - a=(x.length - (a + 1)) + 1 by omega,List.range'_succ,filter_cons,getElem?_eq_getElem ha]
   by_cases e:x.cps.toList[a]=c
   ·rw[if_pos e,if_pos (decide_eq_true (congrArg some e))]
   ·rw[if_neg e,if_neg (by rw[decide_eq_true_eq];exact λz=>e (Option.some.inj z))]
  rw[ed,ep,kW]
  by_cases e:x.cps.toList[a]=c
  ·rw[if_pos e,if_pos e,←ih]
   show(strSub x a a).cps.toList :: _=_
   rw[im,drop_eq_nil_of_le (by rw[length_take];omega)]
  ·rw[if_neg e,if_neg e,←ih]
   have hge:∀i ∈ i8 x c (a + 1),a + 1 <= i:=λi hi=>by
    have:=List.mem_range'_1.mp (mem_filter.mp hi).1
    omega
   have hd:∀b,a + 1 <= b->(strSub x a b).cps.toList=x.cps.toList[a] :: (strSub x (a + 1) b).cps.toList:=λb hb=>by
    rw[im,im,List.drop_eq_getElem_cons (by rw[length_take];omega),List.getElem_take]
   cases hp:i8 x c (a + 1) with
   | nil =>
    show [(strSub x a x.length).cps.toList]=[x.cps.toList[a] :: (strSub x (a + 1) x.length).cps.toList]
    rw[hd _ (by omega)]
   | cons i r =>
    show(strSub x a i).cps.toList :: _=(x.cps.toList[a] :: (strSub x (a + 1) i).cps.toList) :: _
    rw[hd i (hge i (by rw[hp];exact mem_cons_self))]
theorem sQ(x:Str)(Ks:c < 256):(Txt.split x ⟨#[c]⟩).map (λs=>s.cps.toList)=gc c x.cps.toList:=by
 have main:∀h:i8 x c 0=i8 x c 0,(partsFrom x 1 0 (i8 x c 0)).map (λs=>s.cps.toList)=gc c x.cps.toList:=λ_=>by
  have:=oB x c x.length 0 (by omega)
  rw[drop_zero]at this
  exact this
 have N3:c ∉ x.cps.toList->gc c x.cps.toList=[x.cps.toList]:=λh=>kU h
 unfold Txt.split
 split
 ·rename_i h
  by_cases hc:c ∈ x.cps.toList
  ·exfalso
   rw[Bool.or_eq_true,decide_eq_true_eq,decide_eq_true_eq]at h
   rcases h with h | h
   ·have h:x.cps.size < 1:=h
    have:=List.length_pos_of_mem hc
    rw[Array.length_toList]at this
    omega
   ·have e:PySem.Builtin.Str.strKind ⟨#[c]⟩ = 1:=by
     unfold PySem.Builtin.Str.strKind
     rw[if_pos]
     simp[Ks]
    rw[e]at h
    unfold PySem.Builtin.Str.strKind at h
    split at h
    ·omega
    ·split at h<;>omega
  ·rw[N3 hc];rfl
 ·split
  ·rename_i h
   rw[rS,List.isEmpty_iff]at h
   have:=main rfl
   rw[h]at this
   rw[←this]
   show [x.cps.toList]=[(strSub x 0 x.length).cps.toList]
   rw[sub_whole]
  ·rw[partsBetween_eq,rS]
   exact main rfl
theorem jb(c:Nat):∀ys:List Str,(Str.join ⟨#[c]⟩ ys).cps.toList=kN c (ys.map λs=>s.cps.toList)
 | []=>rfl
 | [y]=>rfl
 | y :: z :: r=>by
  show(y ++ ⟨#[c]⟩ ++ Str.join ⟨#[c]⟩ (z :: r)).cps.toList=y.cps.toList ++ c :: kN c ((z :: r).map λs=>s.cps.toList)
  rw[←jb c (z :: r)]
  show((y.cps ++ #[c]) ++ (Str.join ⟨#[c]⟩ (z :: r)).cps).toList=_
  rw[Array.toList_append,Array.toList_append,append_assoc]
  rfl
theorem jM(Ks:c < 256)(Di:ys ≠ [])(hf:∀y ∈ ys,c ∉ y.cps.toList):Txt.split (Txt.join ⟨#[c]⟩ ys) ⟨#[c]⟩ = ys:=by
 have h1:=sQ (Txt.join ⟨#[c]⟩ ys) Ks
 have e:(Txt.join ⟨#[c]⟩ ys)=Str.join ⟨#[c]⟩ ys:=StrLaws.glued_eq_join _ _
 rw[e,jb,pj (λz=>Di (map_eq_nil_iff.mp z)) (λp hp=>by obtain⟨y,hy,rfl⟩:=mem_map.mp hp;exact hf y hy)]at h1
 rw[e]
 refine(List.map_inj_right λa b h=>?_).mp h1
 cases a;cases b
 exact congrArg Str.mk (Array.toList_inj.mp h)
end L2
namespace L2
open PySem PySem.Calls PySem.NumText PyProof.Rows PySem.W.KIN
noncomputable def aZ(m:Nat):Str:=Str.ofString (toString ((m:Nat):Int))
theorem eB(m:Nat):∀c ∈ (aZ m).cps.toList,48 <= c/\c <= 57:=by
 intro c hc
 unfold aZ at hc
 rw[signs_num]at hc
 obtain⟨ch,GN,e⟩:=mem_map.mp hc
 have r:=digit_range (Nat.isDigit_of_mem_toDigits (by decide) (by decide) GN)
 rw[←e]
 exact r
theorem mY(m:Nat):(aZ m).cps.toList ≠ []:=by
 unfold aZ
 rw[signs_num]
 intro e
 have h:=toDigits_len_ge 10 m
 rw[map_eq_nil_iff.mp e]at h
 exact absurd h (by decide)
theorem qC(hl:(aZ m).length <= 640):PySem.intText? (aZ m)=some (m:Int):=by
 have e:=intText_digits (x:=aZ m) (eB m) (mY m) (le_trans hl (by decide))
 unfold aZ at e ⊢
 rw[signs_num,val_back]at e
 exact e
theorem fS(hk:0 < k)(h:m < 10 ^ k):(aZ m).length <= k:=toString_length_le (by omega) hk (by exact_mod_cast h)
theorem mX(h:c < 48∨57 < c):c ∉ (aZ m).cps.toList:=λz=>by have:=eB m c z;omega
end L2
namespace L2
open PySem PySem.Spec PyProof.Rows PySem.Builtin.Str
section
def xW:V->List V->Hp->VK->Prop:=λx vs H Q=>∃z y:Str,x = .str z/\vs=[.str y]/\Q (.bl (Txt.startswith z y)) H
theorem tN:L4 X "str.startswith" xW:=by
 intro pins s σ H x vs v us Q I rx rv h
 obtain⟨z,y,rfl,rfl,q⟩:=h
 obtain⟨t,rfl⟩:=rx
 obtain⟨u,rfl,ru⟩:=rv.one
 obtain⟨u',rfl⟩:=ru
 exact SC.startswith ⟨.bl _,H,I,rfl,q⟩
def TK:V->Option Int->Option Int->Hp->VK->Prop:=λx lo hi H Q=>∃(z:Str)(i:Int),x = .str z/\lo=some i/\hi=none/\z.length <= sizeLine/\Q (.str (Txt.slice z (some i) none)) H
theorem xM:QO X TK:=by
 intro pins s σ H x v vl vu lo hi sl Q I rx hs pl pu h
 obtain⟨z,i,rfl,rfl,rfl,hz,q⟩:=h
 obtain⟨t,rfl⟩:=rx
 cases pl with
 | int _ ti =>
  cases pu
  exact⟨"str",_,F.slot_str_getitem.lookup,typeIs_str _ _ _,wpAny_getItem_str_slice (l:=some (i,ti)) (u:=none) (st:=none) hs rfl
   (post_val_or_str ⟨le_trans (Txt.slice_le z _ _) hz,λt' k=>⟨.str _,H,I.tok _,⟨_,rfl⟩,q⟩⟩)⟩
end
theorem sR(c:Nat)(y:Str):Txt.slice (⟨#[c]⟩ ++ y) (some 1) none=y:=by
 have hl:(⟨#[c]⟩ ++ y:Str).cps.toList=c :: y.cps.toList:=by
  show(#[c] ++ y.cps).toList=_
  rw[Array.toList_append]
  rfl
 show StrLaws.sliceText (⟨#[c]⟩ ++ y) (some ((1:Nat):Int)) none=y
 rw[StrLaws.sliceText_from (by rw[hl,length_cons];omega),hl]
 cases y
 simp
 rw[←Array.length_toList,take_length,Array.toArray_toList]
theorem jL(c d:Nat)(y:Str):Txt.startswith (⟨#[c]⟩ ++ y) ⟨#[d]⟩ = decide (c=d):=by
 unfold Txt.startswith subAt
 have hl:(⟨#[c]⟩ ++ y:Str).cps.toList=c :: y.cps.toList:=by
  show(#[c] ++ y.cps).toList=_
  rw[Array.toList_append]
  rfl
 have h1:(⟨#[c]⟩ ++ y:Str).length=y.cps.toList.length + 1:=by rw[Str.length,←Array.length_toList,hl,length_cons]
 have h2:(⟨#[d]⟩:Str).length=1:=rfl
 rw[h1,h2,decide_eq_true (show 0 + 1 <= y.cps.toList.length + 1 by omega),Bool.true_and]
 have h3:(⟨#[c]⟩ ++ y:Str).cps.extract 0 (0 + 1) = #[c]:=by
  refine Array.toList_inj.mp ?_
  rw[Array.toList_extract,hl]
  rfl
 rw[h3]
 by_cases h:c=d
 ·subst h;simp
 ·simp[h]
end L2
namespace L2
open PySem PySem.Calls PySem.NumText PyProof.Rows PySem.W.KIN
theorem wx(k:Nat):Str.ofString (toString (-((k + 1:Nat):Int))) = ⟨#[45]⟩ ++ aZ (k + 1):=by
 have e1:toString (-((k + 1:Nat):Int)) = "-" ++ toString (((k + 1:Nat)):Int):=rfl
 rw[e1]
 unfold aZ
 generalize toString (((k + 1:Nat)):Int)=s
 have h:(Str.ofString ("-" ++ s)).cps.toList=(⟨#[45]⟩ ++ Str.ofString s:Str).cps.toList:=by
  show(Str.ofString ("-" ++ s)).cps.toList=(#[45] ++ (Str.ofString s).cps).toList
  rw[signs_ofString,Array.toList_append,signs_ofString,String.toList_append,map_append]
  rfl
 generalize Str.ofString ("-" ++ s)=a at h ⊢
 generalize (⟨#[45]⟩ ++ Str.ofString s:Str)=b at h ⊢
 cases a;cases b
 exact congrArg Str.mk (Array.toList_inj.mp h)
end L2
namespace L2
open PySem
theorem aX(n:Nat)(hn:n < sizeLine)(W:Nat->List V->Hp->Prop)(h0:W 0 [] H)(hlen:∀i acc H',W i acc H'->acc.length <= i)
  (turn:∀i acc H',i < n->W i acc H'->J.go i H'/\∀x H2,J.Hm i H' x H2->g x σ0 H2 λσ2 H3=>tt σ2 H3 λb H4=>if b=true then te σ2 H4 λy H5=>W (i + 1) (acc ++ [y]) H5 else W (i + 1) acc H4)
  (stop:∀acc H',W n acc H'->J.stop n H'/\∀D,H' D=none->Q (.ref D) (upd H' D (.lst acc))):dZ J g tt te σ0 Q H:=by
 refine⟨λi m acc H'=>m=n - i/\i <= n/\W i acc H',⟨n,by simp,zero_le _,h0⟩,?_⟩
 rintro i m acc H' ⟨rfl,hi,w⟩
 refine⟨by have:=hlen i acc H' w;omega,?_⟩
 by_cases CS:i < n
 ·obtain⟨go,q⟩:=turn i acc H' CS w
  exact .inr ⟨go,λCT H2=>W (i + 1) CT H2,λCT H2 w2=>⟨n - (i + 1),by omega,rfl,CS,w2⟩,q⟩
 ·have e:i=n:=by omega
  subst e
  exact .inl (stop acc H' w)
theorem BX.new(h:BX H H')(n:H' a=none):BX H (upd H' a o):=λb u e=>by rw[ah (aj (h _ _ e) n)];exact h _ _ e
end L2
namespace L2
open PySem
theorem C3(a:autoParam (sc.kind = .function) η)(b:autoParam (sc.isCoroutine=false) η)(c:autoParam (sc.isGenerator=false) η)(d:autoParam (N.Nodup) ξ)(e:autoParam (N.take P.length=P) η)(f:autoParam (∀x ∈ P,sc.names.lookup x=some .local∨sc.names.lookup x=some .cell) ξ)(g:autoParam (∀y ∈ sc.names,y.2 ≠ .free) ξ):au N P sc:=⟨a,b,c,d,e,f,g⟩
theorem Dp(a:autoParam (scope.kind = .function) η)(b:autoParam (∀y ∈ scope.names,y.2 ≠ .cell) ξ)(c:autoParam (∀y ∈ scope.names,y.2 = .local->scope.names.lookup y.1=some .local) ξ)(d:autoParam (∀y ∈ scope.names,y.2 = .free->sc.names.lookup y.1=some .cell∨sc.names.lookup y.1=some .free) ξ)(e:autoParam (cap.length=capN.length) η)(f:autoParam (∀p ∈ capN.zip cap,scope.names.lookup p.1=some .free/\N[p.2]? = some p.1) ξ):CP N sc scope capN cap:=⟨a,b,c,d,e,f⟩
end L2
namespace K94
open PySem L2
noncomputable def bR(i:Nat):Stmt:=PySem.Challenge.pw_wormyard_k94_whole_cut_and_read.main.body.getD i (.Pass ⟨0,0,0,0⟩)
abbrev gU:Stmt:=bR 16
abbrev jz:Stmt:=bR 17
abbrev Ay:Stmt:=bR 18
abbrev Au:Stmt:=bR 22
abbrev xS:Stmt:=bR 25
abbrev vn:Stmt:=bR 26
abbrev Aw:Stmt:=bR 27
abbrev oq:Stmt:=bR 29
abbrev TL:Stmt:=bR 30
abbrev qb:Stmt:=bR 36
abbrev i3:Stmt:=bR 37
abbrev mG:Stmt:=bR 38
abbrev jX:Stmt:=bR 39
abbrev kd:Stmt:=bR 40
abbrev gX:Stmt:=bR 47
abbrev vc:Stmt:=bR 48
abbrev oi:Stmt:=bR 49
abbrev jY:Stmt:=bR 53
abbrev fL:Stmt:=bR 54
abbrev jW:Stmt:=bR 55
abbrev iy:Stmt:=bR 56
abbrev fM:Stmt:=bR 57
abbrev fN:Stmt:=bR 58
abbrev ot:Stmt:=bR 59
abbrev kg:Stmt:=bR 60
abbrev i4:Stmt:=bR 61
abbrev iP:Stmt:=bR 62
abbrev AE:Stmt:=bR 64
abbrev N4:Stmt:=bR 65
abbrev vy:Stmt:=bR 68
abbrev Az:Stmt:=bR 69
abbrev qi:Stmt:=bR 70
abbrev jZ:Stmt:=bR 71
abbrev vv:Stmt:=bR 72
abbrev qq:Stmt:=bR 73
abbrev i5:Stmt:=bR 74
abbrev mJ:Stmt:=bR 75
abbrev dO:Stmt:=bR 76
abbrev qe:Stmt:=bR 77
abbrev ki:Stmt:=bR 78
abbrev om:Stmt:=aL (bR 23) 0
abbrev qd:Stmt:=aL (bR 23) 1
abbrev AF:Stmt:=aL (bR 23) 2
abbrev vj:Stmt:=aL (bR 23) 3
abbrev oj:Stmt:=aL (bR 23) 4
abbrev Av:Stmt:=aL (bR 31) 0
abbrev vf:Stmt:=aL (bR 32) 0
abbrev qc:Stmt:=aL (bR 32) 1
abbrev AC:Stmt:=aL (bR 42) 0
abbrev vk:Stmt:=aL (bR 42) 1
abbrev Ax:Stmt:=aL (bR 42) 2
abbrev qk:Stmt:=aL (bR 42) 3
abbrev vg:Stmt:=aL (bR 42) 4
abbrev qo:Stmt:=aL (bR 42) 5
abbrev AB:Stmt:=aL (bR 42) 6
abbrev AA:Stmt:=aL (bR 42) 7
abbrev vt:Stmt:=aL (bR 50) 0
abbrev vp:Stmt:=aL (bR 50) 1
abbrev vm:Stmt:=aL (bR 66) 0
abbrev vd:Stmt:=aL (bR 66) 1
abbrev iO:Stmt:=aL (bR 51) 0
abbrev i0:Stmt:=aL (bR 51) 1
abbrev qg:Stmt:=aL (bR 51) 2
abbrev oh:Stmt:=aL (bR 51) 3
abbrev og:Stmt:=aL (bR 51) 4
abbrev qf:Stmt:=aL (bR 51) 5
abbrev mI:Stmt:=aL (bR 51) 6
abbrev iw:Stmt:=aL (bR 51) 7
abbrev vo:Stmt:=aL (bR 51) 8
abbrev TN:Stmt:=aL (bR 51) 9
abbrev vx:Stmt:=aL (bR 51) 10
abbrev qm:Stmt:=aL (bR 51) 11
abbrev AD:Stmt:=aL (bR 51) 12
abbrev vi:Stmt:=aL (bR 51) 13
abbrev vh:Stmt:=aL (bR 51) 14
abbrev qj:Stmt:=aL (bR 51) 16
abbrev vq:Stmt:=aL (bR 51) 17
abbrev ve:Stmt:=aL (bR 51) 18
abbrev qh:Stmt:=aL (bR 51) 19
abbrev mH:Stmt:=aL (bR 51) 20
abbrev vw:Stmt:=aL (bR 51) 21
structure Txt(mg:Str->Option Value):Prop where
 Kt:mg "isinstance" = none
 int:mg "int" = none
 bool:mg "bool" = none
 len:mg "len" = none
 enum:mg "enumerate" = none
 tuple:mg "tuple" = none
 range:mg "range" = none
 list:mg "list" = none
 all:mg "all" = none
 abs:mg "abs" = none
 str:mg "str" = none
 min:mg "min" = none
def xy(H:Hp)(v:V)(p:Int × Int):Prop:=∃t,v = .ref t/\H t=some (.tup [.int p.1, .int p.2])
abbrev Cw(H:Hp):List V->List (Int × Int)->Prop:=Paired (xy H)
theorem Cw.same(h:BX H H'):∀{vs:List V}{ps:List (Int × Int)},Cw H vs ps->Cw H' vs ps:=λCc=>by
 induction Cc with
 | nil=>exact .nil
 | cons zz r ih=>obtain⟨t,e,q⟩:=zz;exact .cons ⟨t,e,h _ _ q⟩ ih
theorem Cw.get :∀{vs:List V}{ps:List (Int × Int)}{i:Nat}{v:V},Cw H vs ps->vs[i]? = some v->∃p,ps[i]? = some p/\xy H v p:=by
 intro _ _ i _ Cc
 induction Cc generalizing i with
 | nil=>intro h;cases h
 | cons x r ih =>
  intro h
  cases i with
  | zero=>cases h;exact⟨_,rfl,x⟩
  | succ i=>exact ih (i:=i) h
theorem Cw.Hw :∀{vs:List V}{ps:List (Int × Int)}{i:Nat}{p:Int × Int},Cw H vs ps->ps[i]? = some p->∃v,vs[i]? = some v/\xy H v p:=by
 intro _ _ i _ Cc
 induction Cc generalizing i with
 | nil=>intro h;cases h
 | cons x r ih =>
  intro h
  cases i with
  | zero=>cases h;exact⟨_,rfl,x⟩
  | succ i=>exact ih (i:=i) h
theorem Cw.snoc(h:xy H v p):∀{vs:List V}{ps:List (Int × Int)},Cw H vs ps->Cw H (vs ++ [v]) (ps ++ [p]):=λCc=>by
 induction Cc with
 | nil=>exact .cons h .nil
 | cons q r ih=>exact .cons q ih
noncomputable def eE(n:Int)(p:Int × Int):Bool:=decide (0 <= p.1/\p.1 <= n - 1) && (decide (0 <= p.2/\p.2 <= n - 1) && !decide (p.1=p.2))
inductive mj(vs:List V)(H:Hp)(Q:VK)(E:XK):Prop
 | mk (i:Int) (_:vs=[.int i]) (_:Q (.bl true) H)
inductive jN(vs:List V)(H:Hp)(Q:VK)(E:XK):Prop
 | mk (i a b:Int) (_:vs=[.int i, .int a, .int b]) (_:Q (.bl (decide (a <= i/\i <= b))) H)
inductive uK(vs:List V)(H:Hp)(Q:VK)(E:XK):Prop
 | mk (n a b:Int) (_:vs=[.int n, .int a, .int b]) (_:Q (.bl (eE n (a,b))) H)
theorem rH:au ["value"] ["value"] (ai gU):=L2.C3
theorem oF(F:C2 K "is_whole" "is_whole" gU f fd)(T:Txt mg):BY P w K mg base ay 1 f fd ["value"] mj:=by
 refine F.ok rH (λ_ _ _ _ h=>?_) (λ_ _ _ s H _ Q E hr h=>?_)
 ·obtain⟨m,rfl,_⟩:=h
  rfl
 ·obtain⟨i,rfl,q⟩:=h
  refine⟨_,af (av (dR (aE p9 rfl T.Kt PyProof.Rows.boot_isinstance (aa (pv 0) (aa (fu (v := .ty "int") rfl T.int PySem.Pv.boot_int rfl) ac)))
   (dQ (vH (aE p9 rfl T.Kt PyProof.Rows.boot_isinstance (aa (pv 0) (aa (fu (v := .ty "bool") rfl T.bool PySem.Pv.boot_bool rfl) ac))))))),?_⟩
  refine⟨_,rfl, .inl ⟨i,rfl,true,rfl,?_⟩⟩
  refine aN ?_
  exact⟨_,rfl, .inr (.inl ⟨i,rfl,false,rfl,q⟩)⟩
theorem oa:au ["value", "least", "most"] ["value", "least", "most"] (ai jz):=L2.C3
theorem t8(F:C2 K "is_within" "is_within" jz f fd)(T:Txt mg)(mh:mg "is_whole" = some (.ref fh))(Fh:C2 K "is_whole" "is_whole" gU fh EX)(bh:Binds K EX ["value"] []) :
  BY P w K mg base ay 2 f fd ["value", "least", "most"] jN:=by
 have G:BY P w K mg base ay 1 fh EX ["value"] mj:=oF Fh T
 refine F.ok oa (λ_ _ _ _ h=>?_) (λ_ _ _ s H _ Q E hr h=>?_)
 ·obtain⟨i,a,b,rfl,_⟩:=h
  rfl
 ·obtain⟨i,a,b,rfl,q⟩:=h
  refine⟨_,af (av (dR (aq G hr rfl mh Fh.kp bh .nil ap (aa (pv 0) ac)) (dQ (oA rP rP (pv 1) (pv 0) (pv 2))))),?_⟩
  refine⟨_,rfl,i,rfl,true,rfl,aN ?_⟩
  refine⟨_,rfl,_,rfl,_,_,rfl,rfl,_,rfl,?_⟩
  by_cases h1:a <= i
  ·rw[decide_eq_true h1]
   refine aN ⟨_,rfl,_,_,rfl,rfl,?_⟩
   show Q (V.bl (decide (i <= b))) H
   by_cases h2:i <= b
   ·rw[decide_eq_true h2];rw[decide_eq_true ⟨h1,h2⟩]at q;exact q
   ·rw[decide_eq_false h2];rw[decide_eq_false λz=>h2 z.2]at q;exact q
  ·rw[decide_eq_false h1]
   refine aH ?_
   rw[decide_eq_false λz=>h1 z.1]at q;exact q
theorem Jr:au ["places", "one", "other", "last"] ["places", "one", "other"] (ai Au):=L2.C3
theorem AZ(F:C2 K "are_two_places" "are_two_places" Au f fd)(mh:mg "is_within" = some (.ref fh))(kh:keepIn K (.ref fh)=true)(bh:Binds K EX ["value", "least", "most"] [])
  (G:BY P w K mg base ay 2 fh EX ["value", "least", "most"] jN) :
  BY P w K mg base ay 3 f fd ["places", "one", "other"] uK:=by
 refine F.ok Jr (λ_ _ _ _ h=>?_) (λ_ _ _ s H _ Q E hr h=>?_)
 ·obtain⟨i,a,b,rfl,_⟩:=h
  rfl
 ·obtain⟨n,a,b,rfl,q⟩:=h
  refine⟨_,ae (aD (i:=3) Jr.nd rfl (Or.inl rfl) (aJ fz (pv 0) ak))
   (af (av (dR (aq G hr rfl mh kh bh .nil ap (aa (pv 1) (aa ak (aa (pv 3) ac))))
    (dR (aq G hr rfl mh kh bh .nil ap (aa (pv 2) (aa ak (aa (pv 3) ac)))) (dQ (c9 jk (pv 1) (pv 2) (aA _))))))),?_⟩
  refine⟨_,rfl,_,_,rfl,rfl,?_⟩
  refine⟨_,rfl,_,rfl,a,0,n - 1,rfl,_,rfl,?_⟩
  unfold eE at q
  dsimp only at q
  by_cases h1:0 <= a/\a <= n - 1
  ·rw[decide_eq_true h1]at q ⊢
   rw[Bool.true_and]at q
   refine aN ⟨_,rfl,_,rfl,b,0,n - 1,rfl,_,rfl,?_⟩
   by_cases h2:0 <= b/\b <= n - 1
   ·rw[decide_eq_true h2]at q ⊢
    rw[Bool.true_and]at q
    refine aN ⟨_,rfl,_,rfl,rfl,?_⟩
    have e:decide (V.int a=V.int b)=decide (a=b):=by
     by_cases h:a=b
     ·rw[h];simp
     ·rw[decide_eq_false h,decide_eq_false λz=>h (by injection z)]
    show Q (V.bl (!decide (V.int a=V.int b))) H
    rw[e];exact q
   ·rw[decide_eq_false h2]at q ⊢
    exact aH q
  ·rw[decide_eq_false h1]at q ⊢
   exact aH q
end K94
namespace L2
open PySem
end L2
namespace K94
open PySem L2
inductive Due | places | many (k:Nat) | C0 (k:Nat) | good
noncomputable def pE(n:Int)(ps:List (Int × Int)):Option Nat:=ps.findIdx? λp=>!eE n p
noncomputable def eU(n:Int)(ps:List (Int × Int)):Due:=if decide (1 <= n/\n <= 12)=false then .places else if 40 < ps.length then .many ps.length else match pE n ps with | some k => .C0 k | none => .good
structure Cs where
 land:Addr
def cr(H:Hp)(c:Cs)(x dx t:Addr)(n:Int)(Cf:List V)(ps:List (Int × Int)):Prop:=H x=some (.ins c.land dx [("places", .int n),("lanes", .ref t)])/\H t=some (.tup Cf)/\Cw H Cf ps
def mB(K:Frag)(c:Cs):Sp:=λvs H Q E=>∃x dx n p Ct ps,vs=[.ref x, .int n, .ref p]/\H x=some (.ins c.land dx [])/\Cb K H p Ct/\Cw H Ct ps/\Ct.length <= 1000 /\
 (eU n ps = .places->False) /\
 (∀k,eU n ps = .many k->False) /\
 (∀k,eU n ps = .C0 k->False) /\
 (eU n ps = .good->∀H' t Cf,(∀b o,b ≠ x->H b=some o->H' b=some o)->cr H' c x dx t n Cf ps->Q .Cp H')
noncomputable def uB(s:Stmt):Scope:=match s with
 | .Assign _ (.Call _ [.ListComp _ _ sc _] _ _) _=>sc
 | _=>zQ0
noncomputable def ku(s:Stmt):Scope:=match aI s with
 | .Return (some (.ListComp _ _ sc _)) _ :: _=>sc
 | _=>zQ0
abbrev NI:List Str:=["self", "places", "lanes", "lane", "pair"]
structure lc(K:Frag)(c:Cs):Prop where
 cl:EC K c.land
 np:Co K c.land "places"
 nl:Co K c.land "lanes"
theorem hZ(h:∀p ∈ ps,eE n p=true):pE n ps=none:=by
 unfold pE
 rw[List.findIdx?_eq_none_iff]
 intro p hp
 rw[h p hp];rfl
theorem rc(h:∀q ∈ ps.take i,eE n q=true)(hi:ps[i]? = some p)(hb:eE n p=false):pE n ps=some i:=by
 unfold pE
 rw[List.findIdx?_eq_some_iff_getElem]
 obtain⟨CS,e⟩:=List.getElem?_eq_some_iff.mp hi
 refine⟨CS,by rw[e,hb];rfl,λj hj=>?_⟩
 have hm:ps[j]'(lt_trans hj CS) ∈ ps.take i:=mem_take_iff_getElem.mpr ⟨j,by omega,rfl⟩
 rw[h _ hm];simp
def Off(x:Addr)(H H':Hp):Prop:=∀b o,b ≠ x->H b=some o->H' b=some o
theorem Off.sq(o:Off x H H')(hx:H x=some (.ins C dx fs))(h:Cb K H p xs):Cb K H' p xs:=by
 rcases h with (h | ⟨ob,h⟩) | h
 ·exact .inl (.inl (o _ _ (b9 h hx (by intro z;cases z)) h))
 ·exact .inl (.inr ⟨ob,o _ _ (b9 h hx (by intro z;cases z)) h⟩)
 ·exact .inr h
theorem Off.G6(o:Off x H H')(hx:H x=some (.ins C dx fs)):∀{vs:List V}{ps:List (Int × Int)},Cw H vs ps->Cw H' vs ps:=λCc=>by
 induction Cc with
 | nil=>exact .nil
 | cons zz r ih=>obtain⟨t,e,q⟩:=zz;exact .cons ⟨t,e,o _ _ (b9 q hx (by intro z;cases z)) q⟩ ih
theorem Off.same(a:Off x H H1)(b:BX H1 H2):Off x H H2:=λc o n e=>b _ _ (a c o n e)
theorem FC:au NI ["self", "places", "lanes"] (ai om):=L2.C3
theorem BI:CP NI (ai om) (uB ((aI om).getD 4 (.Pass ⟨0,0,0,0⟩))) [] []:=L2.Dp
theorem Bv:(["pair"]:List Str).Nodup:=by decide +kernel
theorem y8(F:C2 K "__init__" "Land.__init__" om f fd)(T:Txt mg)(L:lc K c)
  (mw:mg "is_within" = some (.ref fw)) (kw:keepIn K (.ref fw)=true) (bw:Binds K dw ["value", "least", "most"] []) (Gw:BY P w K mg base ay 2 fw dw ["value", "least", "most"] jN)
  (mt:mg "are_two_places" = some (.ref ft)) (kt:keepIn K (.ref ft)=true) (bt:Binds K dt ["places", "one", "other"] []) (Gt:BY P w K mg base ay 3 ft dt ["places", "one", "other"] uK)
  (mp:mg "MOST_PLACES" = some (.int 12 t1)) (ml:mg "MOST_LANES" = some (.int 40 t2)) :
  BY P w K mg base ay 4 f fd ["self", "places", "lanes"] (mB K c):=by
 refine F.ok FC (λ_ _ _ _ h=>?_) (λ_ _ _ s H _ Q E hr h=>?_)
 ·obtain⟨x,dx,n,p,Ct,ps,rfl,_⟩:=h
  rfl
 ·obtain⟨x,dx,n,p,Ct,ps,rfl,hx,hp,hl,hlen,h1,h2,h3,h4⟩:=h
  have CY:Cj 2 _:=hr.mono (by decide)
  refine⟨_,ae (aR (bO (bJ (aq Gw CY rfl mw kw bw .nil ap (aa (pv 1) (aa ak (aa (dH (v := .int 12) rfl mp ⟨_,rfl⟩) ac))))))
    (af bA) aF)
   (ae (aR (ax oE (aE aB rfl T.len PySem.boot_len (aa (pv 2) ac)) (dH (v := .int 40) rfl ml ⟨_,rfl⟩) (aA _))
    (af bA) aF)
   (ae (b0 PassesOwn.never rfl (kA rfl T.enum (aa (pv 2) ac)) (iS rfl (bV (aw (i:=3) FC.nd rfl (Or.inl rfl)) (bV (aw (i:=4) FC.nd rfl (Or.inl rfl)) gq)))
    (af (aR (bO (bJ (aq Gt hr rfl mt kt bt .nil ap (aa (pv 1) (aa (az aG (pv 4) ak (λ_ _=>rfl)) (aa (az aG (pv 4) ak (λ_ _=>rfl)) ac))))))
     (af bA) aF)))
   (ae (b7 (pv 0) (pv 1) rfl)
   (af (b7 (pv 0) (bI cY rfl T.tuple PySem.Pv.boot_tuple (aa (aT (own:=["pair"]) (capN:=[]) (cap:=[]) BI rfl (aW (pv 2))
    (λC s' H' fp=>⟨aw (i:=0) Bv rfl (Or.inl rfl),bd,bF (aa (az (show lp _ (k4 K) from aG) (pv 0) ak (λ_ _=>rfl)) (aa (az (show lp _ (k4 K) from aG) (pv 0) ak (λ_ _=>rfl)) ac))⟩)) ac)) rfl))))),?_⟩
  refine⟨_,rfl,n,1,12,rfl,_,rfl,?_⟩
  by_cases hn:1 <= n/\n <= 12
  rotate_left
  ·rw[decide_eq_false hn]
   exact aN (h1 (by unfold eU;rw[if_pos (decide_eq_false hn)]))
  rw[decide_eq_true hn]
  refine aH ?_
  have Eu:Ct.length=ps.length:=Paired.length hl
  refine⟨_,rfl,p,_,rfl, .inl hp,_,_,rfl,rfl,_,rfl,?_⟩
  by_cases hm:40 < ps.length
  ·rw[decide_eq_true (show (40:Int) < (Ct.length:Nat) by omega)]
   refine aN (h2 ps.length ?_)
   unfold eU
   rw[decide_eq_true hn,if_neg (by decide),if_pos hm]
  rw[decide_eq_false (show ¬(40:Int) < (Ct.length:Nat) by omega)]
  refine aH ?_
  refine⟨_,rfl,p,rfl,⟨_,hp⟩,kS (sq:=λH=>Cb K H p) (xs:=Ct) (λi σ H2=>∃a b:Option V,BX H H2/\σ=[some (.ref x),some (.int n),some (.ref p),a,b]/\∀q ∈ ps.take i,eE n q=true)
   ⟨none,none,BX.refl H,rfl,λq hq=>by simp at hq⟩ (λi σ H2 _ Cc=>by obtain⟨a,b,s2,_⟩:=Cc;exact s2.seq hp) ?_ ?_⟩
  ·rintro i v q σ H2 hv ⟨a,b,s2,rfl,Dj⟩ hq
   obtain⟨pr,hpr,t,rfl,ht⟩:=Cw.get hl hv
   have s3:BX H (upd H2 q (.tup [.int i, .ref t])):=s2.new hq
   refine⟨q,_,rfl,Ck.of ad,rfl,_,_,rfl,_,_,rfl,rfl,?_⟩
   have HS:Ck K (upd H2 q (.tup [.int i, .ref t])) t [.int pr.1, .int pr.2]:=Ck.of (s3 _ _ ht)
   refine⟨_,rfl,_,rfl,t,_,0,_,rfl,rfl,HS,ao (j:=0) rfl,?_⟩
   refine⟨_,rfl,t,_,1,_,rfl,rfl,HS,ao (j:=1) rfl,n,pr.1,pr.2,rfl,_,rfl,?_⟩
   cases ho:eE n (pr.1,pr.2) with
   | true =>
    refine aH ⟨some (.int i),some (.ref t),s3,rfl,λz hz=>?_⟩
    rw[take_succ,hpr]at hz
    rcases mem_append.mp hz with hz | hz
    ·exact Dj z hz
    ·have:z=pr:=by simpa using hz
     rw[this];exact ho
   | false =>
    refine aN (h3 i ?_)
    unfold eU
    rw[decide_eq_true hn,if_neg (by decide),if_neg hm,rc Dj hpr ho]
  ·rintro σ H2 ⟨a,b,s2,rfl,Dj⟩
   have DF:eU n ps = .good:=by
    unfold eU
    rw[decide_eq_true hn,if_neg (by decide),if_neg hm,hZ (λz hz=>Dj z (by rw[Eu,take_length];exact hz))]
   have HU:=s2 _ _ hx
   refine⟨_,rfl,_,rfl,x,c.land,dx,_,rfl,HU,L.cl,L.np,by show 0 < 1000;decide,?_⟩
   generalize Y1:upd H2 x (.ins c.land dx (aS "places" (.int n) []))=H3
   have o3:Off x H H3:=λb o hb e=>by rw[←Y1,ah hb];exact s2 _ _ e
   have x3:H3 x=some (.ins c.land dx [("places", .int n)]):=by rw[←Y1,ad];rfl
   have l3:Cw H3 Ct ps:=o3.G6 hx hl
   have p3:Cb K H3 p Ct:=o3.sq hx hp
   refine⟨_,rfl,p,rfl,⟨_,p3⟩,aX Ct.length (by rw[sizeLine_eq];omega) (λi acc H4=>BX H3 H4/\acc.length=i/\Cw H4 acc (ps.take i)) ⟨BX.refl _,rfl, .nil⟩ (λi acc H4 h=>le_of_eq h.2.1) ?_ ?_⟩
   ·rintro i acc H4 hi ⟨s4,ha,hA⟩
    have q4:=s4.seq p3
    refine⟨⟨Ct,Ct[i],q4,by simp[hi]⟩,λy H5 ⟨e5,hy⟩=>?_⟩
    subst e5
    have hy:=hy Ct q4
    obtain⟨pr,hpr,t,rfl,ht⟩:=Cw.get l3 hy
    have HS:Ck K H5 t [.int pr.1, .int pr.2]:=Ck.of (s4 _ _ ht)
    refine⟨_,rfl,t,_,0,_,rfl,rfl,HS,ao (j:=0) rfl,?_⟩
    refine⟨_,rfl,t,_,1,_,rfl,rfl,HS,ao (j:=1) rfl,by show 2 <= sizeLine;decide,λr F7=>?_⟩
    refine⟨s4.new F7,by rw[length_append,ha];rfl,?_⟩
    rw[take_succ,hpr]
    exact Cw.snoc ⟨r,rfl,ad⟩ (Cw.same (BX.new (BX.refl _) F7) hA)
   ·rintro acc H4 ⟨s4,ha,hA⟩
    have q4:=s4.seq p3
    refine⟨⟨Ct,q4,le_refl _⟩,λD hD=>?_⟩
    have s5:BX H3 (upd H4 D (.lst acc)):=s4.new hD
    refine⟨D,acc,rfl, .inl ⟨Cb.of ad,λt ht=>?_⟩⟩
    have s6:BX H3 (upd (upd H4 D (.lst acc)) t (.tup acc)):=s5.new ht
    have x6:=s6 _ _ x3
    refine⟨_,rfl,x,c.land,dx,_,rfl,x6,L.cl,L.nl,by show 1 < 1000;decide,?_⟩
    have htx:t ≠ x:=λz=>by rw[z,s5 _ _ x3]at ht;cases ht
    refine h4 DF _ t acc (λb o hb e=>?_) ⟨by rw[ad];rfl,by rw[ah htx,ad],?_⟩
    ·rw[ah hb];exact s6 _ _ (o3 b o hb e)
    ·have hA':Cw H4 acc ps:=by rw[Eu,take_length]at hA;exact hA
     have x4:=s4 _ _ x3
     have hA6:Cw (upd (upd H4 D (.lst acc)) t (.tup acc)) acc ps:=Cw.same (BX.new (BX.new (BX.refl _) hD) ht) hA'
     exact Off.G6 (x:=x) (λb o hb e=>by rw[ah hb];exact e) x6 hA6
noncomputable def fI(sel:Int × Int->Int)(ps:List (Int × Int))(pl:Int)(m:Nat):List V:=((List.range m).filter λk=>decide (sel (ps.getD k (0,0))=pl)).map λk:Nat=>V.int k
inductive nX(c:Cs)(sel:Int × Int->Int)(vs:List V)(H:Hp)(Q:VK)(E:XK):Prop
 | mk (x dx t:Addr) (n:Int) (Cf:List V) (ps:List (Int × Int)) (pl:Int) (_:vs=[.ref x, .int pl]) (_:cr H c x dx t n Cf ps) (_:ps.length <= 1000) (_:∀H' D,BX H H'->H' D=none->Q (.ref D) (upd H' D (.lst (fI sel ps pl ps.length))))
theorem oW(h:ps[i]? = some pr):fI sel ps pl (i + 1)=if decide (sel pr=pl) then fI sel ps pl i ++ [V.int i] else fI sel ps pl i:=by
 have e:ps.getD i (0,0)=pr:=by rw[getD_eq_getElem?_getD,h];rfl
 unfold fI
 rw[range_succ,filter_append]
 by_cases hs:sel pr=pl
 ·rw[if_pos (decide_eq_true hs),List.filter_cons_of_pos (by rw[e];exact decide_eq_true hs)];simp
 ·rw[if_neg (by rw[decide_eq_false hs];decide),List.filter_cons_of_neg (by rw[e,decide_eq_false hs];decide)];simp
theorem sf :(fI sel ps pl i).length <= i:=by
 unfold fI
 rw[length_map]
 have:=length_filter_le (λk=>decide (sel (ps.getD k (0,0))=pl)) (List.range i)
 rwa [length_range]at this
theorem N5:au ["self", "place"] ["self", "place"] (ai vj):=L2.C3
theorem N6:CP ["self", "place"] (ai vj) (ku vj) ["place"] [1]:=L2.Dp
theorem As:au ["self", "place"] ["self", "place"] (ai oj):=L2.C3
theorem BH:CP ["self", "place"] (ai oj) (ku oj) ["place"] [1]:=L2.Dp
theorem rV:(["lane", "pair", "place"]:List Str).Nodup:=by decide +kernel
theorem fZ(a b:Int):decide (V.int a=V.int b)=decide (a=b):=by
 by_cases h:a=b
 ·rw[h];simp
 ·rw[decide_eq_false h,decide_eq_false λz=>h (by injection z)]
theorem vY(F:C2 K "out_of" "Land.out_of" vj f fd)(T:Txt mg)(L:lc K c):BY P w K mg base ay 1 f fd ["self", "place"] (nX c Prod.fst):=by
 refine F.ok N5 (λ_ _ _ _ h=>?_) (λ_ _ _ s H _ Q E hr h=>?_)
 ·obtain⟨x,dx,t,n,Cf,ps,pl,rfl,_⟩:=h
  rfl
 ·obtain⟨x,dx,t,n,Cf,ps,pl,rfl,⟨hx,ht,hl⟩,hlen,q⟩:=h
  refine⟨_,af (av (aT (own:=["lane", "pair"]) (capN:=["place"]) (cap:=[1]) N6 rfl (ow rfl T.enum (aa (al (pv 0) rfl) ac))
   (λC s' H' fp=>⟨(show PG _ _ (BB K 2 _) from iS rfl (bV (aw (i:=0) rV rfl (Or.inl rfl)) (bV (aw (i:=1) rV rfl (Or.inl rfl)) gq))),
    cz (ax bz (az (show lp _ (k4 K) from aG) (pv 1) ak (λ_ _=>rfl)) (pv 2) (aA _)),pv 0⟩))),?_⟩
  have Eu:Cf.length=ps.length:=Paired.length hl
  refine⟨_,rfl,x,c.land,dx,_,_,rfl,hx,L.cl,L.nl,rfl,t,rfl,⟨_,Ck.of ht⟩,aX ps.length (by rw[sizeLine_eq];omega) (λi acc H4=>BX H H4/\acc=fI Prod.fst ps pl i) ⟨BX.refl _,rfl⟩ (λi acc H4 h=>by rw[h.2];exact sf) ?_ ?_⟩
  ·rintro i acc H4 hi ⟨s4,rfl⟩
   have q4:Ck K H4 t Cf:=Ck.of (s4 _ _ ht)
   refine⟨⟨Cf,Cf[i]'(by omega),q4,by simp[Eu,hi]⟩,λy H5 ⟨r,E5,ey,h5⟩=>?_⟩
   obtain⟨v,hv,rfl⟩:=h5 Cf q4
   subst ey
   obtain⟨pr,hpr,u,rfl,hu⟩:=Cw.get hl hv
   have s5:BX H (upd H4 r (.tup [.int i, .ref u])):=s4.new E5
   refine⟨r,_,rfl,Ck.of ad,rfl,_,_,rfl,_,_,rfl,rfl,?_⟩
   refine⟨_,rfl,u,_,0,_,rfl,rfl,Ck.of (s5 _ _ hu),ao (j:=0) rfl,_,rfl,rfl,_,rfl,?_⟩
   rw[fZ,oW hpr]
   cases hd:decide (pr.1=pl) with
   | true=>exact aN ⟨_,rfl,s5,by simp[hd]⟩
   | false=>exact aH ⟨s5,by simp[hd]⟩
  ·rintro acc H4 ⟨s4,rfl⟩
   exact⟨⟨Cf,Ck.of (s4 _ _ ht),Eu⟩,λD hD=>q H4 D s4 hD⟩
theorem y6(F:C2 K "into" "Land.into" oj f fd)(T:Txt mg)(L:lc K c):BY P w K mg base ay 1 f fd ["self", "place"] (nX c Prod.snd):=by
 refine F.ok As (λ_ _ _ _ h=>?_) (λ_ _ _ s H _ Q E hr h=>?_)
 ·obtain⟨x,dx,t,n,Cf,ps,pl,rfl,_⟩:=h
  rfl
 ·obtain⟨x,dx,t,n,Cf,ps,pl,rfl,⟨hx,ht,hl⟩,hlen,q⟩:=h
  refine⟨_,af (av (aT (own:=["lane", "pair"]) (capN:=["place"]) (cap:=[1]) BH rfl (ow rfl T.enum (aa (al (pv 0) rfl) ac))
   (λC s' H' fp=>⟨(show PG _ _ (BB K 2 _) from iS rfl (bV (aw (i:=0) rV rfl (Or.inl rfl)) (bV (aw (i:=1) rV rfl (Or.inl rfl)) gq))),
    cz (ax bz (az (show lp _ (k4 K) from aG) (pv 1) ak (λ_ _=>rfl)) (pv 2) (aA _)),pv 0⟩))),?_⟩
  have Eu:Cf.length=ps.length:=Paired.length hl
  refine⟨_,rfl,x,c.land,dx,_,_,rfl,hx,L.cl,L.nl,rfl,t,rfl,⟨_,Ck.of ht⟩,aX ps.length (by rw[sizeLine_eq];omega) (λi acc H4=>BX H H4/\acc=fI Prod.snd ps pl i) ⟨BX.refl _,rfl⟩ (λi acc H4 h=>by rw[h.2];exact sf) ?_ ?_⟩
  ·rintro i acc H4 hi ⟨s4,rfl⟩
   have q4:Ck K H4 t Cf:=Ck.of (s4 _ _ ht)
   refine⟨⟨Cf,Cf[i]'(by omega),q4,by simp[Eu,hi]⟩,λy H5 ⟨r,E5,ey,h5⟩=>?_⟩
   obtain⟨v,hv,rfl⟩:=h5 Cf q4
   subst ey
   obtain⟨pr,hpr,u,rfl,hu⟩:=Cw.get hl hv
   have s5:BX H (upd H4 r (.tup [.int i, .ref u])):=s4.new E5
   refine⟨r,_,rfl,Ck.of ad,rfl,_,_,rfl,_,_,rfl,rfl,?_⟩
   refine⟨_,rfl,u,_,1,_,rfl,rfl,Ck.of (s5 _ _ hu),ao (j:=1) rfl,_,rfl,rfl,_,rfl,?_⟩
   rw[fZ,oW hpr]
   cases hd:decide (pr.2=pl) with
   | true=>exact aN ⟨_,rfl,s5,by simp[hd]⟩
   | false=>exact aH ⟨s5,by simp[hd]⟩
  ·rintro acc H4 ⟨s4,rfl⟩
   exact⟨⟨Cf,Ck.of (s4 _ _ ht),Eu⟩,λD hD=>q H4 D s4 hD⟩
inductive zE(vs:List V)(H:Hp)(Q:VK)(E:XK):Prop
 | mk (m k:Nat) (_:vs=[.int m, .int k]) (_:Q (.bl (m.testBit k)) H)
noncomputable def gY(m:Nat):List V:=(Yd.EM m (Builtin.Int.intBits (m:Int))).map λk:Nat=>V.int k
inductive uS(vs:List V)(H:Hp)(Q:VK)(E:XK):Prop
 | mk (m:Nat) (_:vs=[.int m]) (_:m < 2 ^ 400) (_:∀p,H p=none->Q (.ref p) (upd H p (.lst (gY m))))
inductive uM(K:Frag)(vs:List V)(H:Hp)(Q:VK)(E:XK):Prop
 | mk (a:Addr) (ks:List Nat) (_:vs=[.ref a]) (_:Cb K H a (ks.map λk:Nat=>V.int k)) (_:(∀k ∈ ks,k <= 1000)) (_:Q (.int (Yd.C5 ks 0:Nat)) H)
theorem N7:au ["some", "number"] ["some", "number"] (ai xS):=L2.C3
theorem Bq(F:C2 K "has" "has" xS f fd):BY P w K mg base ay 1 f fd ["some", "number"] zE:=by
 refine F.ok N7 (λ_ _ _ _ h=>?_) (λ_ _ _ s H _ Q E hr h=>?_)
 ·obtain⟨m,k,rfl,_⟩:=h
  rfl
 ·obtain⟨m,k,rfl,q⟩:=h
  refine⟨_,af (av (dR (c9 zJ (pv 1) ak (aA _)) (dQ (c9 bz (aJ vO (aJ qu (pv 0) (pv 1)) ak) ak (aA _))))),?_⟩
  refine⟨_,rfl,_,_,rfl,rfl,_,rfl,?_⟩
  rw[decide_eq_true (show (0:Int) <= (k:Int) by omega)]
  refine aN ?_
  refine⟨_,rfl,_,rfl,_,_,rfl,rfl,(show (0:Int) <= (k:Int) by omega),_,_,rfl,rfl,rfl,?_⟩
  have e:decide (V.int (Builtin.bitAnd ((m:Int) / 2 ^ (k:Int).toNat) 1)=V.int 1)=m.testBit k:=by
   rw[toNat_natCast,←Yd.FO m k]
   by_cases h:Builtin.bitAnd ((m:Int) / 2 ^ k) 1=1
   ·rw[h];simp
   ·rw[decide_eq_false h,decide_eq_false λz=>h (by injection z)]
  rw[e]
  exact q
theorem w8{ks:List Nat}{i:Nat}(h:(ks.map λk:Nat=>V.int k)[i]? = some x):∃k,ks[i]? = some k/\x=V.int k:=by
 rw[getElem?_map]at h
 cases e:ks[i]? with
 | none=>rw[e]at h;cases h
 | some k=>rw[e]at h;exact⟨k,rfl,(Option.some.inj h).symm⟩
theorem FQ:au ["numbers", "some", "number"] ["numbers"] (ai Aw):=L2.C3
theorem Bb(F:C2 K "set_of" "set_of" Aw f fd):BY P w K mg base ay 1 f fd ["numbers"] (uM K):=by
 refine F.ok FQ (λ_ _ _ _ h=>?_) (λ_ _ _ s H _ Q E hr h=>?_)
 ·obtain⟨a,ks,rfl,_⟩:=h
  rfl
 ·obtain⟨a,ks,rfl,hS,hk,q⟩:=h
  refine⟨_,ae (aD (i:=1) FQ.nd rfl (Or.inl rfl) ak)
   (ae (b0 PassesOwn.never rfl (aW (pv 0)) (aw (i:=2) FQ.nd rfl (Or.inl rfl))
    (af (aD (i:=1) FQ.nd rfl (Or.inl rfl) (aJ ML (pv 1) (aJ AW ak (pv 2))))))
   (af (av (pv 1)))),?_⟩
  refine⟨_,rfl,a,rfl,⟨_,hS⟩,dB (K:=K) (a:=a) (xs:=ks.map λk:Nat=>V.int k) (λi σ H2=>∃v:Option V,H2=H/\σ=[some (.ref a),some (.int (Yd.C5 (ks.take i) 0:Nat)),v])
   ⟨none,rfl,rfl⟩ (λi σ H2 _ Cc=>by obtain⟨_,e,_⟩:=Cc;rw[e];exact hS) ?_ ?_⟩
  ·rintro i x σ H2 hx ⟨v,rfl,rfl⟩
   obtain⟨k,ek,rfl⟩:=w8 hx
   have Hd:=hk k (mem_of_getElem? ek)
   refine⟨_,rfl,_,rfl,_,_,rfl,rfl,⟨(show (0:Int) <= (k:Int) by omega),(show (k:Int) <= 1000000 by omega),(by decide)⟩,_,_,rfl,rfl,some (.int k),rfl,?_⟩
   have e:Builtin.bitOr ((Yd.C5 (ks.take i) 0:Nat):Int) (1 * 2 ^ (k:Int).toNat)=((Yd.C5 (ks.take (i + 1)) 0:Nat):Int):=by
    rw[take_succ,ek,toNat_natCast,Int.one_mul,show (2:Int) ^ k=((2 ^ k:Nat):Int) by rw[Int.natCast_pow];rfl,Yd.G0,Yd.Hq]
    rfl
   show [some (V.ref a),some (V.int _),some (V.int k)]=_
   rw[e]
  ·rintro σ H2 ⟨v,rfl,rfl⟩
   refine⟨_,rfl,?_⟩
   rw[length_map,take_length]
   exact q
theorem N8:au ["some"] ["some"] (ai vn):=L2.C3
theorem N9:(["number", "some"]:List Str).Nodup:=by decide +kernel
theorem NA:CP ["some"] (ai vn) (ku vn) ["some"] [0]:=L2.Dp
theorem Bh(F:C2 K "members" "members" vn f fd)(T:Txt mg)(mh:mg "has" = some (.ref fh))(Fh:C2 K "has" "has" xS fh EX)(bh:Binds K EX ["some", "number"] []):BY P w K mg base ay 2 f fd ["some"] uS:=by
 have G:BY P w K mg base ay 1 fh EX ["some", "number"] zE:=Bq Fh
 refine F.ok N8 (λ_ _ _ _ h=>?_) (λ_ _ _ s H _ Q E hr h=>?_)
 ·obtain⟨m,rfl,_⟩:=h
  rfl
 ·obtain⟨m,rfl,hm,q⟩:=h
  refine⟨_,af (av (aT (own:=["number"]) (capN:=["some"]) (cap:=[0]) NA rfl
   (aO rfl T.range (aa (AQ PySem.F.plainAttrs_int PySem.F.slot_int_bit_length PySem.F.type_int_bit_length yH (pv 0)) ac))
   (λC s' H' fp=>⟨aw (i:=0) N9 rfl (Or.inl rfl),cz (bJ (aq G hr rfl mh Fh.kp bh .nil ap (aa (pv 1) (aa (pv 0) ac)))),pv 0⟩))),?_⟩
  have hb:Builtin.Int.intBits (m:Int) <= 400:=Yd.bits_le hm
  refine⟨_,rfl,rfl,_,rfl,rfl,(Builtin.Int.intBits (m:Int):Nat),rfl,by omega,by omega,?_⟩
  rw[toNat_natCast]
  refine pz (λk=>m.testBit k) (λk=>V.int k) (by rw[sizeLine_eq];omega) (λi acc N hi h=>?_) q
  refine⟨_,rfl,_,rfl,m,i,by simp,_,rfl,?_⟩
  cases e:m.testBit i with
  | true =>
   rw[e]at h
   refine aN ⟨_,rfl,?_⟩
   simpa using h
  | false =>
   rw[e]at h
   exact aH (by simpa using h)
noncomputable def iz(ks:List Nat):List Int:=ks.map λk:Nat=>(k:Int)
theorem wM(ks:List Nat):(iz ks).map V.int=ks.map λk:Nat=>V.int k:=by rw[iz,map_map];rfl
theorem yM(m:Nat):gY m=(iz (Yd.EM m (Builtin.Int.intBits (m:Int)))).map V.int:=by rw[wM];rfl
theorem se(h:ks.Pairwise (· < ·)):(iz ks).Pairwise (· < ·):=by
 unfold iz
 rw[List.pairwise_map]
 exact h.imp λz=>by omega
theorem Dg :k ∈ iz ks↔∃n ∈ ks,(n:Int)=k:=mem_map
theorem kH(h1:ms.Pairwise (· < ·))(h2:∀k,k ∈ ms↔k ∈ iz ks):iz (Yd.EM (Yd.C5 ks 0) (Builtin.Int.intBits ((Yd.C5 ks 0:Nat):Int)))=ms:=by
 refine Yd.Fn (se (Yd.DP _ _)) h1 λk=>?_
 rw[h2 k,Dg,Dg]
 constructor
 ·rintro⟨n,hn,e⟩
  rw[Yd.Ei (Yd.EN _),Yd.Dc]at hn
  exact⟨n,by simpa using hn,e⟩
 ·rintro⟨n,hn,e⟩
  refine⟨n,?_,e⟩
  rw[Yd.Ei (Yd.EN _),Yd.Dc]
  simpa using hn
theorem va(h:∀k ∈ ks,k < b):Yd.C5 ks 0 < 2 ^ b:=by
 rw[←Yd.Ip h]
 exact Yd.EL ks b
theorem sO :(Yd.C5 ks 0).testBit k=decide ((k:Int) ∈ iz ks):=by
 rw[Yd.Dc,Nat.zero_testBit,Bool.false_or]
 congr 1
 refine propext ⟨λh=>Dg.mpr ⟨k,h,rfl⟩,λh=>?_⟩
 obtain⟨n,hn,e⟩:=Dg.mp h
 have:n=k:=by omega
 rw[←this]
 exact hn
structure Rw where
 p:Int
 g:Int
 c:Option Nat
 s:List Nat
noncomputable def aQ(r:Rw):bX:=[some r.p,some r.g,r.c.map λk:Nat=>(k:Int)]
noncomputable def eu(sel:Int × Int->Int)(ps:List (Int × Int))(pl:Int):List Nat:=(List.range ps.length).filter λk=>decide (sel (ps.getD k (0,0))=pl)
noncomputable def dY(n:Int)(ps:List (Int × Int))(r:Rw):Bool :=
 eE n (r.p,r.g) && ((match r.c with | none=>true | some k=>decide (k ∈ eu Prod.snd ps r.p)) && r.s.all λk=>decide (k ∈ eu Prod.fst ps r.p))
noncomputable def oH(sel:Int × Int->Int)(ps:List (Int × Int))(pl:Int)(k:Nat):Bool:=decide (ps.length <= k) || !decide (sel (ps.getD k (0,0))=pl)
noncomputable def pC(n:Int)(ps:List (Int × Int))(ahead:List Rw)(r:Rw):Bool :=
 !eE n (r.p,r.g) || ((match r.c with | none=>false | some k=>oH Prod.snd ps r.p k) || ((r.s.any λk=>oH Prod.fst ps r.p k) || ahead.any λa=>decide (aQ a=aQ r)))
theorem sh :decide (k ∈ eu sel ps pl) = !oH sel ps pl k:=by
 unfold eu oH
 by_cases h1:ps.length <= k
 ·rw[decide_eq_true h1,decide_eq_false]
  ·rfl
  ·intro z
   have:=mem_range.mp (mem_filter.mp z).1
   omega
 ·rw[decide_eq_false h1]
  by_cases h2:sel (ps.getD k (0,0))=pl
  ·rw[decide_eq_true h2,decide_eq_true]
   ·rfl
   ·exact mem_filter.mpr ⟨mem_range.mpr (by omega),decide_eq_true h2⟩
  ·rw[decide_eq_false h2,decide_eq_false]
   ·rfl
   ·intro z
    exact h2 (of_decide_eq_true (mem_filter.mp z).2)
theorem zj{l:List Nat}:(l.all λk=>!f k) = !(l.any f):=by
 induction l with
 | nil=>rfl
 | cons a l ih=>rw[all_cons,any_cons,ih,Bool.not_or]
theorem gi(n:Int)(ps:List (Int × Int))(ahead:List Rw)(r:Rw):pC n ps ahead r=(!dY n ps r || ahead.any λa=>decide (aQ a=aQ r)):=by
 unfold pC dY
 have e:(r.s.all λk=>decide (k ∈ eu Prod.fst ps r.p)) = !(r.s.any λk=>oH Prod.fst ps r.p k):=by
  rw[←zj]
  congr 1
  funext k
  exact sh
 rw[e]
 cases hc:r.c with
 | none =>
  dsimp only
  cases eE n (r.p,r.g)<;>cases (r.s.any λk=>oH Prod.fst ps r.p k)<;>cases (ahead.any λa=>decide (aQ a=aQ r))<;>rfl
 | some k =>
  dsimp only
  rw[sh]
  cases eE n (r.p,r.g)<;>cases (oH Prod.snd ps r.p k)<;>cases (r.s.any λk=>oH Prod.fst ps r.p k)<;>cases (ahead.any λa=>decide (aQ a=aQ r))<;>rfl
noncomputable def dC(n:Int)(ps:List (Int × Int))(rs:List Rw)(m:Nat):Option Nat:=(List.range m).find? λk=>pC n ps (rs.take k) (rs.getD k ⟨0,0,none,[]⟩)
theorem eI :∀{m:Nat},(∀k,k < m->pC n ps (rs.take k) (rs.getD k ⟨0,0,none,[]⟩)=false)->dC n ps rs m=none:=by
 intro m h
 unfold dC
 rw[List.find?_eq_none]
 intro k hk
 rw[h k (mem_range.mp hk)]
 decide
theorem lg(hi:i < m)(h:∀k,k < i->pC n ps (rs.take k) (rs.getD k ⟨0,0,none,[]⟩)=false)(hb:pC n ps (rs.take i) (rs.getD i ⟨0,0,none,[]⟩)=true):dC n ps rs m=some i:=by
 unfold dC
 rw[List.find?_range_eq_some]
 refine⟨hb,mem_range.mpr hi,λj hj=>?_⟩
 rw[h j hj]
 rfl
noncomputable def cy(rs:List Rw)(k:bX):Option Rw:=rs.reverse.find? λr=>decide (aQ r=k)
theorem qK :cy (rs ++ [r]) k=if k=aQ r then some r else cy rs k:=by
 unfold cy
 rw[List.reverse_append,List.reverse_singleton,List.singleton_append,find?_cons]
 by_cases h:aQ r=k
 ·rw[decide_eq_true h,if_pos h.symm]
 ·rw[decide_eq_false h,if_neg (Ne.symm h)]
theorem iC :(cy rs k).isSome=rs.any λr=>decide (aQ r=k):=by
 unfold cy
 rw[Bool.eq_iff_iff,List.find?_isSome,any_eq_true]
 exact⟨λCc=>by obtain⟨x,hx,h⟩:=Cc;exact⟨x,mem_reverse.mp hx,h⟩,λCc=>by obtain⟨x,hx,h⟩:=Cc;exact⟨x,mem_reverse.mpr hx,h⟩⟩
noncomputable def cV:Option Nat->V
 | none => .Cp
 | some k => .int k
noncomputable def bK(ks:List Nat):List V:=ks.map λk:Nat=>V.int k
theorem yG(ks:List Nat):bK ks=(iz ks).map V.int:=(wM ks).symm
def Js(H:Hp)(t l:Addr)(r:Rw):Prop:=H t=some (.tup [.int r.p, .int r.g,cV r.c, .ref l])/\H l=some (.lst (bK r.s))
def Jt(H:Hp)(v:V)(r:Rw):Prop:=∃t l,v = .ref t/\Js H t l r
abbrev Eb(H:Hp):List V->List Rw->Prop:=Paired (Jt H)
theorem Js.same(h:BX H H')(x:Js H t l r):Js H' t l r:=⟨h _ _ x.1,h _ _ x.2⟩
theorem Jt.same(h:BX H H'):Jt H v r->Jt H' v r:=λCc=>by obtain⟨t,l,e,x⟩:=Cc;exact⟨t,l,e,x.same h⟩
theorem Eb.imp(h:∀v r,Jt H v r->Jt H' v r):∀{vs:List V}{rs:List Rw},Eb H vs rs->Eb H' vs rs:=λCc=>by
 induction Cc with
 | nil=>exact .nil
 | cons x r ih=>exact .cons (h _ _ x) ih
theorem Eb.same(h:BX H H')(x:Eb H vs rs):Eb H' vs rs:=Eb.imp (λ_ _ z=>z.same h) x
theorem Eb.get :∀{vs:List V}{rs:List Rw}{i:Nat}{v:V},Eb H vs rs->vs[i]? = some v->∃r,rs[i]? = some r/\Jt H v r
 | _,_,_,_, .nil,e=>by simp at e
 | _,_,0,_, .cons x _,e=>by simp at e;subst e;exact⟨_,rfl,x⟩
 | _,_,i + 1,v, .cons _ t,e=>by
  obtain⟨r,h1,h2⟩:=Eb.get (i:=i) (v:=v) t (by simpa using e)
  exact⟨r,by simpa using h1,h2⟩
theorem Eb.snoc(h:Jt H v r):∀{vs:List V}{rs:List Rw},Eb H vs rs->Eb H (vs ++ [v]) (rs ++ [r]):=λCc=>by
 induction Cc with
 | nil=>exact .cons h .nil
 | cons x t ih=>exact .cons x ih
theorem sd(r:Rw):(aQ r).map ur=[.int r.p, .int r.g,cV r.c]:=by
 cases r with
 | mk p g c s=>cases c<;>rfl
theorem qN :fI sel ps pl ps.length=(iz (eu sel ps pl)).map V.int:=by rw[wM];rfl
theorem qM{k:Nat}:decide ((k:Int) ∈ iz l)=decide (k ∈ l):=by
 congr 1
 refine propext ⟨λh=>?_,λh=>Dg.mpr ⟨k,h,rfl⟩⟩
 obtain⟨n,hn,e⟩:=Dg.mp h
 have:n=k:=by omega
 rw[←this]
 exact hn
theorem sK(ks l:List Nat):((bK ks).filter λ_=>true).map (λv=>match v with | .int i=>V.bl (decide (i ∈ iz l)) | _ => .Cp)=(ks.map λk=>decide (k ∈ l)).map V.bl:=by
 rw[filter_eq_self.mpr (λ_ _=>rfl)]
 unfold bK
 rw[map_map,map_map]
 refine map_congr_left λk _=>?_
 show V.bl (decide ((k:Int) ∈ iz l))=V.bl (decide (k ∈ l))
 rw[qM]
theorem xo(ks:List Nat)(p:Nat->Bool):(ks.map p).all id=ks.all p:=by rw[all_map];rfl
inductive zx(K:Frag)(vs:List V)(H:Hp)(Q:VK)(E:XK):Prop
 | mk (i:Int) (p:Addr) (ns:List Int) (_:vs=[.int i, .ref p]) (_:Cb K H p (ns.map V.int)) (_:Q (.bl (decide (i ∈ ns))) H)
inductive uY(c:Cs)(vs:List V)(H:Hp)(Q:VK)(E:XK):Prop
 | mk (x dx lt t l:Addr) (n:Int) (Cf:List V) (ps:List (Int × Int)) (r:Rw) (_:vs=[.ref x, .ref t]) (_:cr H c x dx lt n Cf ps) (_:Js H t l r) (_:ps.length <= 1000) (_:r.s.length <= 1000) (_:∀H',BX H H'->Q (.bl (dY n ps r)) H')
structure NB(K:Frag)(c:Cs)(f3 f4:Addr)(d3 d4:FuncData):Prop where
 m3:bC K c.land "out_of" f3
 m4:bC K c.land "into" f4
 b3:Binds K d3 ["self", "place"] []
 b4:Binds K d4 ["self", "place"] []
abbrev NF:List Str:=["land", "row", "place", "came", "begin_here"]
noncomputable def xp(s:Stmt):Scope:=match s with
 | .Return (some (.Call _ [.ListComp _ _ sc _] _ _)) _=>sc
 | _=>zQ0
theorem NC:au ["value", "numbers"] ["value", "numbers"] (ai Ay):=L2.C3
theorem Bd(F:C2 K "is_one_of" "is_one_of" Ay f fd)(T:Txt mg)(mh:mg "is_whole" = some (.ref fh))(Fh:C2 K "is_whole" "is_whole" gU fh EX)(bh:Binds K EX ["value"] []) :
  BY P w K mg base ay 2 f fd ["value", "numbers"] (zx K):=by
 have G:BY P w K mg base ay 1 fh EX ["value"] mj:=oF Fh T
 refine F.ok NC (λ_ _ _ _ h=>?_) (λ_ _ _ s H _ Q E hr h=>?_)
 ·obtain⟨i,p,ns,rfl,_⟩:=h
  rfl
 ·obtain⟨i,p,ns,rfl,hS,q⟩:=h
  refine⟨_,af (av (dR (aq G hr rfl mh Fh.kp bh .nil ap (aa (pv 0) ac)) (dQ (c9 tq (pv 0) (pv 1) (by with_unfolding_all rfl))))),?_⟩
  refine⟨_,rfl,i,rfl,true,rfl,aN ?_⟩
  refine⟨_,rfl,_,rfl,p,_,rfl, .inl hS,rfl,jc _,?_⟩
  show Q (V.bl (L3 (V.int i) (ns.map V.int))) H
  rw[nn]
  exact q
theorem EO:au NF ["land", "row"] (ai oq):=L2.C3
theorem BJ:CP NF (ai oq) (xp ((aI oq).getD 5 (.Pass ⟨0,0,0,0⟩))) ["begin_here"] [4]:=L2.Dp
theorem Bw:(["lane", "begin_here"]:List Str).Nodup:=by decide +kernel
theorem yB(F:C2 K "row_fits" "row_fits" oq f fd)(T:Txt mg)(L:lc K c)(M:NB K c f3 f4 d3 d4)
  (mt:mg "are_two_places" = some (.ref ft)) (kt:keepIn K (.ref ft)=true) (bt:Binds K dt ["places", "one", "other"] []) (Gt:BY P w K mg base ay 3 ft dt ["places", "one", "other"] uK)
  (mo:mg "is_one_of" = some (.ref fo)) (ko:keepIn K (.ref fo)=true) (bo:Binds K d1 ["value", "numbers"] []) (Go:BY P w K mg base ay 2 fo d1 ["value", "numbers"] (zx K))
  (G3:BY P w K mg base ay 1 f3 d3 ["self", "place"] (nX c Prod.fst)) (G4:BY P w K mg base ay 1 f4 d4 ["self", "place"] (nX c Prod.snd)) :
  BY P w K mg base ay 4 f fd ["land", "row"] (uY c):=by
 refine F.ok EO (λ_ _ _ _ h=>?_) (λ_ _ _ s H _ Q E hr h=>?_)
 ·obtain⟨x,dx,lt,t,l,n,Cf,ps,r,rfl,_⟩:=h
  rfl
 ·obtain⟨x,dx,lt,t,l,n,Cf,ps,r,rfl,hL,hR,hlen,L7,q⟩:=h
  have CC:Cj 1 _:=hr.mono (by decide)
  have CY:Cj 2 _:=hr.mono (by decide)
  refine⟨_,ae (aD (i:=2) EO.nd rfl (Or.inl rfl) (az aG (pv 1) ak (λ_ _=>rfl)))
   (ae (aD (i:=3) EO.nd rfl (Or.inl rfl) (az aG (pv 1) ak (λ_ _=>rfl)))
   (ae (aR (bO (bJ (aq Gt hr rfl mt kt bt .nil ap (aa (al (pv 0) rfl) (aa (pv 2) (aa (az aG (pv 1) ak (λ_ _=>rfl)) ac)))))) (af (av jj)) aF)
   (ae (aR (PW.pt (iQ (ax yh (pv 3) bP (aA _)) (gn (bO (bJ (aq Go CY rfl mo ko bo .nil ap (aa (pv 3) (aa (aC (pv 0) L.cl M.m4 G4 CC M.b4 .nil ap (aa (pv 2) ac)) ac)))))))) (af (av jj)) aF)
   (ae (aD (i:=4) EO.nd rfl (Or.inr rfl) (aC (pv 0) L.cl M.m3 G3 CC M.b3 .nil ap (aa (pv 2) ac)))
   (af (av (aE (iJ rfl) rfl T.all PyProof.Rows.boot_all (aa (aT (own:=["lane"]) (capN:=["begin_here"]) (cap:=[4]) BJ rfl (aW (az aG (pv 1) ak (λ_ _=>rfl)))
    (λC s' H' fp=>⟨aw (i:=0) Bw rfl (Or.inl rfl),bd,aq Go CY rfl mo ko bo .nil ap (aa (pv 0) (aa (pv 1) ac))⟩)) ac)))))))),?_⟩
  obtain⟨hT,hl⟩:=hR
  have TQ:Ck K H t [.int r.p, .int r.g,cV r.c, .ref l]:=Ck.of hT
  refine⟨_,rfl,t,_,0,_,rfl,rfl,TQ,ao (j:=0) rfl,?_⟩
  refine⟨_,rfl,t,_,2,_,rfl,rfl,TQ,ao (j:=2) rfl,?_⟩
  refine⟨_,rfl,x,c.land,dx,_,_,rfl,hL.1,L.cl,L.np,rfl,_,rfl,_,rfl,t,_,1,_,rfl,rfl,TQ,ao (j:=1) rfl,n,r.p,r.g,rfl,_,rfl,?_⟩
  cases ho:eE n (r.p,r.g) with
  | false =>
   have e:dY n ps r=false:=by unfold dY;rw[ho];rfl
   refine aN ?_
   have:=q H (BX.refl H)
   rw[e]at this
   exact this
  | true =>
   refine aH ?_
   cases hc:r.c with
   | none =>
    refine⟨_,rfl,rfl,_,rfl,aH (aH ?_)⟩
    have s1:=BX.refl H
    have e1:dY n ps r=r.s.all λk=>decide (k ∈ eu Prod.fst ps r.p):=by unfold dY;rw[ho,hc];rfl
    refine⟨_,rfl,x,dx,_,rfl,s1 _ _ hL.1,rfl,_,rfl,x,dx,lt,n,Cf,ps,r.p,rfl,⟨s1 _ _ hL.1,s1 _ _ hL.2.1,Cw.same s1 hL.2.2⟩,hlen,λH2 D2 s2 Dx=>?_⟩
    have s3:=(s1.trans s2).new (o := .lst (fI Prod.fst ps r.p ps.length)) Dx
    have g2:(upd H2 D2 (.lst (fI Prod.fst ps r.p ps.length))) D2=some (.lst (fI Prod.fst ps r.p ps.length)):=ad
    generalize upd H2 D2 (.lst (fI Prod.fst ps r.p ps.length))=H3 at s3 g2 ⊢
    refine⟨_,rfl,t,_,3,_,rfl,rfl,Ck.of (s3 _ _ hT),ao (j:=3) rfl,l,rfl,⟨_,Cb.of (s3 _ _ hl)⟩,?_⟩
    refine ge (xs:=bK r.s) (λ_=>true) (λv=>match v with | .int i => .bl (decide (i ∈ iz (eu Prod.fst ps r.p))) | _ => .Cp) (by rw[sizeLine_eq];simp only[bK,length_map];omega) (Cb.of (s3 _ _ hl)) (λy acc N hy h=>?_) (λD hD=>?_)
    ·obtain⟨k',_,rfl⟩:=mem_map.mp hy
     exact⟨_,rfl,_,rfl,(k':Int),D2,iz (eu Prod.fst ps r.p),rfl,by rw[←qN];exact Cb.of g2,by simpa using h⟩
    ·rw[sK]
     refine⟨D,r.s.map λk=>decide (k ∈ eu Prod.fst ps r.p),rfl,Cb.of ad,?_⟩
     have:=q _ (s3.new (o := .lst ((r.s.map λk=>decide (k ∈ eu Prod.fst ps r.p)).map V.bl)) hD)
     rw[e1]at this
     rw[xo]
     exact this
   | some k =>
    refine⟨_,rfl,rfl,_,rfl,aN ?_⟩
    refine⟨_,rfl,_,rfl,x,dx,_,rfl,hL.1,rfl,_,rfl,x,dx,lt,n,Cf,ps,r.p,rfl,hL,hlen,λH' D s' hD=>?_⟩
    have s1:=s'.new (o := .lst (fI Prod.snd ps r.p ps.length)) hD
    refine⟨(k:Int),D,iz (eu Prod.snd ps r.p),rfl,by rw[←qN];exact Cb.of ad,_,rfl,?_⟩
    rw[qM]
    cases hk:decide (k ∈ eu Prod.snd ps r.p) with
    | false =>
     refine aN ?_
     have e:dY n ps r=false:=by unfold dY;rw[ho,hc];dsimp only;rw[hk];rfl
     have:=q _ s1
     rw[e]at this
     exact this
    | true =>
     have e1:dY n ps r=r.s.all λk=>decide (k ∈ eu Prod.fst ps r.p):=by unfold dY;rw[ho,hc];dsimp only;rw[hk];rfl
     refine aH ?_
     refine⟨_,rfl,x,dx,_,rfl,s1 _ _ hL.1,rfl,_,rfl,x,dx,lt,n,Cf,ps,r.p,rfl,⟨s1 _ _ hL.1,s1 _ _ hL.2.1,Cw.same s1 hL.2.2⟩,hlen,λH2 D2 s2 Dx=>?_⟩
     have s3:=(s1.trans s2).new (o := .lst (fI Prod.fst ps r.p ps.length)) Dx
     have g2:(upd H2 D2 (.lst (fI Prod.fst ps r.p ps.length))) D2=some (.lst (fI Prod.fst ps r.p ps.length)):=ad
     generalize upd H2 D2 (.lst (fI Prod.fst ps r.p ps.length))=H3 at s3 g2 ⊢
     refine⟨_,rfl,t,_,3,_,rfl,rfl,Ck.of (s3 _ _ hT),ao (j:=3) rfl,l,rfl,⟨_,Cb.of (s3 _ _ hl)⟩,?_⟩
     refine ge (xs:=bK r.s) (λ_=>true) (λv=>match v with | .int i => .bl (decide (i ∈ iz (eu Prod.fst ps r.p))) | _ => .Cp) (by rw[sizeLine_eq];simp only[bK,length_map];omega) (Cb.of (s3 _ _ hl)) (λy acc N hy h=>?_) (λD hD=>?_)
     ·obtain⟨k',_,rfl⟩:=mem_map.mp hy
      exact⟨_,rfl,_,rfl,(k':Int),D2,iz (eu Prod.fst ps r.p),rfl,by rw[←qN];exact Cb.of g2,by simpa using h⟩
     ·rw[sK]
      refine⟨D,r.s.map λk=>decide (k ∈ eu Prod.fst ps r.p),rfl,Cb.of ad,?_⟩
      have:=q _ (s3.new (o := .lst ((r.s.map λk=>decide (k ∈ eu Prod.fst ps r.p)).map V.bl)) hD)
      rw[e1]at this
      rw[xo]
      exact this
structure Ts where
 tab:Addr
 told:Addr
inductive uL(K:Frag)(vs:List V)(H:Hp)(Q:VK)(E:XK):Prop
 | mk (x C dx:Addr) (lv:V) (_:vs=[.ref x,lv]) (_:H x=some (.ins C dx [])) (_:EC K C) (_:Co K C "land") (_:Q .Cp (upd H x (.ins C dx [("land",lv)])))
noncomputable def vb(r:Rw):V := .int (Yd.C5 r.s 0:Nat)
inductive mz(P:Program)(w:World)(K:Frag)(c:Cs)(ts:Ts)(vs:List V)(H:Hp)(Q:VK)(E:XK):Prop
 | mk (x dx lx Cr lt p:Addr) (n:Int) (Cf Cv:List V) (ps:List (Int × Int)) (rs:List Rw) (_:vs=[.ref x, .ref lx, .ref p]) (_:H x=some (.ins ts.told dx [])) (_:cr H c lx Cr lt n Cf ps) (_:Cb K H p Cv) (_:Eb H Cv rs) (_:Cv.length <= 100000) (_:ps.length <= 1000) (_:(∀r ∈ rs,(∀k ∈ r.s,k <= 1000)/\r.s.length <= 1000)) (_:(∀i,dC n ps rs rs.length=some i->False)) (_:(dC n ps rs rs.length=none->∀H' de kvs,Off x H H'->H' x=some (.ins ts.told dx [("land", .ref lx),("entries", .ref de)])->CO P w H' de kvs->(∀k,cu kvs k=(cy rs k).map vb)->Q .Cp H'))
inductive rq(P:Program)(w:World)(ts:Ts)(vs:List V)(H:Hp)(Q:VK)(E:XK):Prop
 | mk (x dx de:Addr) (lv:V) (kvs:List eD) (r:Rw) (m:Nat) (_:vs=[.ref x, .int r.p, .int r.g,cV r.c]) (_:H x=some (.ins ts.told dx [("land",lv),("entries", .ref de)])) (_:CO P w H de kvs) (_:(cu kvs (aQ r)).getD (.int 0) = .int m) (_:m < 2 ^ 400) (_:∀H' D,BX H H'->H' D=none->Q (.ref D) (upd H' D (.lst (gY m))))
structure TU(K:Frag)(mg:Str->Option Value)(ts:Ts)(f1:Addr)(d1:FuncData):Prop where
 ct:EC K ts.tab
 nt:Co K ts.tab "land"
 cd:EC K ts.told
 nd1:Co K ts.told "land"
 QV:Co K ts.told "entries"
 mt:mg "Table" = some (.ref ts.tab)
 cm:xt K ts.tab "__init__" f1
 bt:Binds K d1 ["self", "land"] []
abbrev NT:List Str:=["self", "land", "rows", "number", "row", "key"]
theorem Off.land(o:Off x H H')(hx:H x=some (.ins C dx []))(h:cr H c lx Cr lt n Cf ps):cr H' c lx Cr lt n Cf ps :=
 ⟨o _ _ (b9 h.1 hx (by intro z;cases z)) h.1,o _ _ (b9 h.2.1 hx (by intro z;cases z)) h.2.1,o.G6 hx h.2.2⟩
theorem ND:au ["self", "land"] ["self", "land"] (ai Av):=L2.C3
theorem Ba(F:C2 K "__init__" "Table.__init__" Av f fd):BY P w K mg base ay 1 f fd ["self", "land"] (uL K):=by
 refine F.ok ND (λ_ _ _ _ h=>?_) (λ_ _ _ s H _ Q E hr h=>?_)
 ·obtain⟨x,C,dx,lv,rfl,_⟩:=h
  rfl
 ·obtain⟨x,C,dx,lv,rfl,hx,hc,hn,q⟩:=h
  refine⟨_,af (b7 (pv 0) (pv 1) rfl),?_⟩
  exact⟨_,rfl,_,rfl,x,C,dx,_,rfl,hx,hc,hn,by show 0 < 1000;decide,q⟩
theorem xO:au ["self", "place", "goal", "came"] ["self", "place", "goal", "came"] (ai qc):=L2.C3
theorem vS(F:C2 K "ways" "Told.ways" qc f fd)(B:TU K mg ts f1 d1)(mm:mg "members" = some (.ref fm))(km:keepIn K (.ref fm)=true)(bm:Binds K dm ["some"] [])
  (Gm:BY P w K mg base ay 2 fm dm ["some"] uS):BY P w K mg base ay 3 f fd ["self", "place", "goal", "came"] (rq P w ts):=by
 refine F.ok xO (λ_ _ _ _ h=>?_) (λ_ _ _ s H _ Q E hr h=>?_)
 ·obtain⟨x,dx,de,lv,kvs,r,m,rfl,_⟩:=h
  rfl
 ·obtain⟨x,dx,de,lv,kvs,r,m,rfl,hx,hd,hv,hm,q⟩:=h
  have hu:=lJ hr
  refine⟨_,af (av (aq Gm hr rfl mm km bm .nil ap (aa (oy hu (al (pv 0) rfl) (aa (bF (aa (pv 1) (aa (pv 2) (aa (pv 3) ac)))) (aa ak ac))) ac))),?_⟩
  refine⟨_,rfl,x,ts.told,dx,_,_,rfl,hx,B.cd,B.QV,rfl,de,kvs,rfl,hd,?_⟩
  refine⟨_,rfl,_,rfl,_,rfl,by show 3 <= sizeLine;decide,λt ht=>?_⟩
  have s1:BX H (upd H t (.tup [.int r.p, .int r.g,cV r.c])):=(BX.refl H).new ht
  refine⟨_,_,cu kvs (aQ r),rfl,⟨kvs,aQ r,t,hd.same s1,rfl,by rw[sd];exact ad,rfl⟩,?_⟩
  rw[hv]
  exact⟨m,rfl,hm,λD hD=>q _ D s1 hD⟩
theorem ER:au NT ["self", "land", "rows"] (ai vf):=L2.C3
theorem ym(F:C2 K "__init__" "Told.__init__" vf f fd)(T:Txt mg)(B:TU K mg ts f1 d1)(G1:BY P w K mg base ay 1 f1 d1 ["self", "land"] (uL K))
  (mf:mg "row_fits" = some (.ref ff)) (kf:keepIn K (.ref ff)=true) (bf:Binds K df ["land", "row"] []) (Gf:BY P w K mg base ay 4 ff df ["land", "row"] (uY c))
  (ms:mg "set_of" = some (.ref fs)) (ks:keepIn K (.ref fs)=true) (bs:Binds K ds ["numbers"] []) (Gs:BY P w K mg base ay 1 fs ds ["numbers"] (uM K)) :
  BY P w K mg base ay 5 f fd ["self", "land", "rows"] (mz P w K c ts):=by
 refine F.ok ER (λ_ _ _ _ h=>?_) (λ_ _ _ s H _ Q E hr h=>?_)
 ·obtain⟨x,dx,lx,Cr,lt,p,n,Cf,Cv,ps,rs,rfl,_⟩:=h
  rfl
 ·obtain⟨x,dx,lx,Cr,lt,p,n,Cf,Cv,ps,rs,rfl,hx,hL,hp,hR,hlen,Eu,NG,hE,hQ⟩:=h
  have CC:Cj 1 _:=hr.mono (by decide)
  have CY:Cj 2 _:=hr.mono (by decide)
  have hu:=lJ hr
  refine⟨_,ae (aP (oz (dH (v := .ref ts.tab) rfl B.mt rfl) B.cm G1 CC B.bt .nil ap (aa (pv 0) (aa (pv 1) ac))))
   (ae (b7 (pv 0) (show PE _ _ (uF P w) from rM) rfl)
   (af (b0 PassesOwn.never rfl (kA rfl T.enum (aa (pv 2) ac)) (iS rfl (bV (aw (i:=3) ER.nd rfl (Or.inl rfl)) (bV (aw (i:=4) ER.nd rfl (Or.inl rfl)) gq)))
    (ae (aD (i:=5) ER.nd rfl (Or.inl rfl) (bF (aa (az aG (pv 4) ak (λ_ _=>rfl)) (aa (az aG (pv 4) ak (λ_ _=>rfl)) (aa (az aG (pv 4) ak (λ_ _=>rfl)) ac)))))
    (ae (aR (PW.pt (fE (bO (bJ (aq Gf hr rfl mf kf bf .nil ap (aa (pv 1) (aa (pv 4) ac))))) (dP (vC (AR hu (pv 5) (al (pv 0) rfl))))))
     (af bA) aF)
    (af (rL hu (al (pv 0) rfl) (pv 5) (aq Gs CC rfl ms ks bs .nil ap (aa (az aG (pv 4) ak (λ_ _=>rfl)) ac)) rfl))))))),?_⟩
  refine⟨rfl,_,rfl,_,rfl,x,ts.told,dx,_,rfl,hx,B.cd,B.nd1,?_⟩
  refine λde Iy=>⟨_,rfl,x,ts.told,dx,[("land", .ref lx)],rfl,by rw[ah (aj ad Iy)];exact ad,B.cd,B.QV,by show 1 < 1000;decide,?_⟩
  have Ju:x ≠ de:=aj ad Iy
  have Hz:H de=none:=by rw[ah (Ne.symm Ju)]at Iy;exact Iy
  generalize Hr:upd (upd (upd H x (.ins ts.told dx [("land", .ref lx)])) de (lb P w de [])) x (.ins ts.told dx (aS "entries" (.ref de) [("land", .ref lx)]))=H2
  have o2:Off x H H2:=λb o hb e=>by rw[←Hr,ah hb,ah (aj e Hz),ah hb];exact e
  have x2:H2 x=some (.ins ts.told dx [("land", .ref lx),("entries", .ref de)]):=by rw[←Hr,ad];rfl
  have d2:CO P w H2 de []:=⟨by rw[←Hr,ah (Ne.symm Ju),ad],λy hy=>by cases hy⟩
  have Ku:Cv.length=rs.length:=Paired.length hR
  refine⟨_,rfl,p,rfl,⟨_,o2.sq hx hp⟩,kS (sq:=λH=>Cb K H p) (xs:=Cv) (λi σ H3=>∃(a b k:Option V)(kvs:List eD),Off x H H3/\H3 x=some (.ins ts.told dx [("land", .ref lx),("entries", .ref de)])/\CO P w H3 de kvs/\kvs.length <= i /\
    (∀k,cu kvs k=(cy (rs.take i) k).map vb)/\(∀j,j < i->pC n ps (rs.take j) (rs.getD j ⟨0,0,none,[]⟩)=false)/\σ=[some (.ref x),some (.ref lx),some (.ref p),a,b,k])
   ⟨none,none,none,[],o2,x2,d2,le_refl _,λk=>rfl,λj hj=>absurd hj (not_lt_zero _),rfl⟩ (λi σ H3 _ Cc=>by obtain⟨_,_,_,_,o3,_⟩:=Cc;exact o3.sq hx hp) ?_ ?_⟩
  ·rintro i v q σ H3 hv ⟨a,b,k,kvs,o3,x3,d3,l3,v3,g3,rfl⟩ hq
   obtain⟨r,hri,t,l,rfl,hT⟩:=Eb.get hR hv
   have hi:i < rs.length:=(gQ0 hri)
   have L8:rs.getD i ⟨0,0,none,[]⟩ = r:=by rw[getD_eq_getElem?_getD,hri];rfl
   have Kv:Js H3 t l r:=⟨o3 _ _ (b9 hT.1 hx (by intro z;cases z)) hT.1,o3 _ _ (b9 hT.2 hx (by intro z;cases z)) hT.2⟩
   have ES:=o3.land hx hL
   have s4:BX H3 (upd H3 q (.tup [.int i, .ref t])):=(BX.refl H3).new hq
   refine⟨q,_,rfl,Ck.of ad,rfl,_,_,rfl,_,_,rfl,rfl,?_⟩
   generalize upd H3 q (.tup [.int i, .ref t])=H4 at s4 ⊢
   have Jv:Ck K H4 t [.int r.p, .int r.g,cV r.c, .ref l]:=Ck.of (s4 _ _ Kv.1)
   refine⟨_,rfl,t,_,0,_,rfl,rfl,Jv,ao (j:=0) rfl,_,rfl,t,_,1,_,rfl,rfl,Jv,ao (j:=1) rfl,_,rfl,t,_,2,_,rfl,rfl,Jv,ao (j:=2) rfl,by show 3 <= sizeLine;decide,λkt TV=>?_⟩
   have s5:BX H3 (upd H4 kt (.tup [.int r.p, .int r.g,cV r.c])):=s4.new TV
   have k5:(upd H4 kt (.tup [.int r.p, .int r.g,cV r.c])) kt=some (.tup ((aQ r).map ur)):=by rw[sd];exact ad
   generalize upd H4 kt (.tup [.int r.p, .int r.g,cV r.c])=H5 at s5 k5 ⊢
   refine⟨_,rfl,_,rfl,lx,Cr,lt,t,l,n,Cf,ps,r,rfl,⟨s5 _ _ ES.1,s5 _ _ ES.2.1,Cw.same s5 ES.2.2⟩,Kv.same s5,Eu,(NG r (mem_of_getElem? hri)).2,λH6 L9=>⟨_,rfl,?_⟩⟩
   have s6:=s5.trans L9
   have k6:=L9 _ _ k5
   have x6:=s6 _ _ x3
   have d6:=d3.same s6
   have Jw:pC n ps (rs.take i) r=true->False:=λhb=>hE i (lg hi g3 (by rw[L8];exact hb))
   cases hf:dY n ps r with
   | false =>
    exact aN (aN (Jw (by rw[gi,hf];rfl)))
   | true =>
    refine aH ⟨_,rfl,_,rfl,x,ts.told,dx,_,_,rfl,x6,B.cd,B.QV,rfl,de,_,rfl,⟨kvs,aQ r,kt,d6,rfl,k6,rfl⟩,_,rfl,?_⟩
    have eS:(cu kvs (aQ r)).isSome=(rs.take i).any λa=>decide (aQ a=aQ r):=by rw[v3,Option.isSome_map,iC]
    cases hS:(cu kvs (aQ r)).isSome with
    | true =>
     exact aN (Jw (by rw[gi,hf,←eS,hS];rfl))
    | false =>
     refine aH ?_
     have Y2:=Kv.same s6
     refine⟨_,rfl,t,_,3,_,rfl,rfl,Ck.of Y2.1,ao (j:=3) rfl,l,r.s,rfl,Cb.of Y2.2,(NG r (mem_of_getElem? hri)).1,?_⟩
     refine⟨_,rfl,x,ts.told,dx,_,_,rfl,x6,B.cd,B.QV,rfl,_,rfl,de,kvs,aQ r,kt,rfl,d6,rfl,k6,by rw[sizeLine_eq];omega,?_⟩
     have hx6:x ≠ de:=Ju
     refine⟨_,_,_,fQ kvs (aQ r) kt (vb r),λb' o hb e=>?_,?_,⟨ad,l4 (F:=λk a=>(upd H6 de (lb P w de (fQ kvs (aQ r) kt (vb r)))) a=some (.tup (k.map ur))) (λy hy=>?_) ?_⟩,?_,λk'=>?_,λj hj=>?_,rfl⟩
     ·rw[ah (aj e Hz)];exact s6 _ _ (o3 _ _ hb e)
     ·rw[ah Ju];exact x6
     ·rw[ah (b9 (d6.2 y hy) d6.1 (by intro z;cases z))];exact d6.2 y hy
     ·rw[ah (b9 k6 d6.1 (by intro z;cases z))];exact k6
     ·exact le_trans fP (Nat.succ_le_succ l3)
     ·rw[il,take_succ,hri,Option.toList_some,qK,v3]
      by_cases hk:k' = aQ r
      ·rw[if_pos hk,if_pos hk];rfl
      ·rw[if_neg hk,if_neg hk]
     ·rcases lt_or_ge j i with h | h
      ·exact g3 j h
      ·have:j=i:=by omega
       subst this
       rw[L8,gi,hf,←eS,hS];rfl
  ·rintro σ H3 ⟨a,b,k,kvs,o3,x3,d3,l3,v3,g3,rfl⟩
   rw[Ku]at g3 v3
   rw[take_length]at v3
   exact hQ (eI g3) H3 de kvs o3 x3 d3 v3
noncomputable def nV(ps:List Nat):List V:=ps.map λq:Nat=>V.int (q:Int)
theorem cC(ps:List Nat):(nV ps).length=ps.length:=by simp[nV]
theorem na{k q:Nat}(h:ps[k]? = some q):(nV ps)[k]? = some (V.int (q:Int)):=by simp[nV,h]
theorem qF(a b:List Nat):nV (a ++ b)=nV a ++ nV b:=by unfold nV;rw[map_append]
theorem mZ(h:v ∈ nV ps):∃q:Nat,q ∈ ps/\v = .int (q:Int):=by
 obtain⟨q,hq,e⟩:=mem_map.mp h
 exact⟨q,hq,e.symm⟩
inductive pZ(c:Cs)(sel:Int × Int->Int)(vs:List V)(H:Hp)(Q:VK)(E:XK):Prop
 | mk (x dx t:Addr) (n:Int) (Cf:List V) (ps:List (Int × Int)) (k:Nat) (pr:Int × Int) (_:vs=[.ref x, .int k]) (_:cr H c x dx t n Cf ps) (_:ps[k]? = some pr) (_:Q (.int (sel pr)) H)
structure zo(K:Frag)(c:Cs)(f:Addr)(d:FuncData):Prop where
 m:bC K c.land "end_of" f
 b:Binds K d ["self", "lane"] []
theorem bT(a b:Int):decide (V.int a=V.int b)=decide (a=b):=by
 by_cases h:a=b
 ·rw[h];simp
 ·rw[decide_eq_false h,decide_eq_false λz=>h (by injection z)]
theorem j5(h:i < n):wN n (i:Int)=some i:=by
 unfold wN
 rw[if_pos (by omega),if_pos (by omega),toNat_natCast]
noncomputable def mN(m:Nat):List Nat:=Yd.EM m (Builtin.Int.intBits (m:Int))
theorem qD:∀{a b:List Nat},nV a=nV b->a=b
 | [],[],_=>rfl
 | [],_ :: _,h=>by cases h
 | _ :: _,[],h=>by cases h
 | x :: a,y :: b,h=>by
  unfold nV at h
  rw[map_cons,map_cons]at h
  injection h with h1 h2
  injection h1 with h1
  rw[qD (a:=a) (b:=b) h2,show x=y by omega]
theorem NJ:au ["self", "lane"] ["self", "lane"] (ai AF):=L2.C3
theorem Br(F:C2 K "end_of" "Land.end_of" AF f fd)(L:lc K c):BY P w K mg base ay 1 f fd ["self", "lane"] (pZ c Prod.snd):=by
 refine F.ok NJ (λ_ _ _ _ h=>?_) (λ_ _ _ s H _ Q E hr h=>?_)
 ·obtain⟨x,dx,t,n,Cf,ps,k,pr,rfl,_⟩:=h
  rfl
 ·obtain⟨x,dx,t,n,Cf,ps,k,pr,rfl,⟨hx,ht,hl⟩,hk,q⟩:=h
  refine⟨_,af (av (az aG (az aG (al (pv 0) rfl) (pv 1) (λ_ _=>rfl)) ak (λ_ _=>rfl))),?_⟩
  obtain⟨v,hv,u,rfl,hu⟩:=Cw.Hw hl hk
  refine⟨_,rfl,x,c.land,dx,_,_,rfl,hx,L.cl,L.nl,rfl,_,rfl,t,_,_,_,rfl,rfl,Ck.of ht,ao hv,u,_,1,_,rfl,rfl,Ck.of hu,ao (j:=1) rfl,q⟩
noncomputable def isI:V->Bool
 | .int _=>true
 | _=>false
noncomputable def l9:V->Int->Int->Bool
 | .int i,a,b=>decide (a <= i/\i <= b)
 | _,_,_=>false
inductive uo:V->Prop
 | int (i:Int):uo (.int i)
 | bl (b:Bool):uo (.bl b)
 | Cp:uo .Cp
structure xq(K:Frag):Prop where
 ii:kitOne K (.type "int") (.type "int")=some true
 ib:kitOne K (.type "int") (.type "bool")=some false
 bi:kitOne K (.type "bool") (.type "int")=some true
 bb:kitOne K (.type "bool") (.type "bool")=some true
 ni:kitOne K (.type "NoneType") (.type "int")=some false
def ip:Sp:=λvs H Q _=>∃v,vs=[v]/\uo v/\Q (.bl (isI v)) H
inductive gm(vs:List V)(H:Hp)(Q:VK)(E:XK):Prop
 | mk (v:V) (a b:Int) (_:vs=[v, .int a, .int b]) (_:uo v) (_:Q (.bl (l9 v a b)) H)
theorem Cw.imp(h:∀v p,xy H v p->xy H' v p):∀{vs:List V}{ps:List (Int × Int)},Cw H vs ps->Cw H' vs ps:=λCc=>by
 induction Cc with
 | nil=>exact .nil
 | cons z r ih=>exact .cons (h _ _ z) ih
noncomputable def hV:Option Int->V
 | none => .Cp
 | some z => .int z
abbrev Fs:=List (Str × V)
noncomputable def jq(r b:Int)(h:V)(pa:Addr):Fs:=[("rights", .int r),("returning", .int b),("holder",h),("pieces", .ref pa)]
structure Cz(H:Hp)(C x dx pa:Addr)(r b:Int)(h:Option Int)(Cy:List V)(qs:List (Int × Int)):Prop where
 ins:H x=some (.ins C dx (jq r b (hV h) pa))
 lst:H pa=some (.lst Cy)
 Dq:Cw H Cy qs
def Dz(x pa:Addr)(H H':Hp):Prop:=∀a o,a ≠ x->a ≠ pa->H a=some o->H' a=some o
theorem Dz.G6{fs:Fs}(h:Dz x pa H H')(hx:H x=some (.ins C dx fs))(hp:H pa=some (.lst Cy)):Cw H vs qs->Cw H' vs qs :=
 Cw.imp λ_ _ Cc=>by obtain⟨t,e,q⟩:=Cc;exact⟨t,e,h _ _ (b9 q hx (by intro z;cases z)) (b9 q hp (by intro z;cases z)) q⟩
theorem Cz.same(L:Cz H C x dx pa r b h Cy qs)(s:BX H H'):Cz H' C x dx pa r b h Cy qs:=⟨s _ _ L.ins,s _ _ L.lst,Cw.same s L.Dq⟩
noncomputable def cI(r:Int)(h:Option Int)(l c:Int):Bool:=if r=0 then false else if c=0 then decide (h=none) else decide (h=some l)
theorem B9(h:Option Int):decide (hV h=V.Cp)=decide (h=none):=by cases h<;>rfl
theorem BA(h:Option Int)(l:Int):decide (hV h=V.int l)=decide (h=some l):=by
 cases h with
 | none=>rfl
 | some z =>
  show decide (V.int z=V.int l)=_
  rw[bT]
  by_cases e:z=l
  ·rw[decide_eq_true e,decide_eq_true (by rw[e])]
  ·rw[decide_eq_false e,decide_eq_false λq=>e (Option.some.inj q)]
theorem yV(h:Option Int)(l:Int):An (hV h) (.int l)=true:=by cases h<;>rfl
structure zn(K:Frag)(C:Addr):Prop where
 cl:EC K C
 n1:Co K C "rights"
 n2:Co K C "returning"
 n3:Co K C "holder"
 n4:Co K C "pieces"
inductive uU(C:Addr)(vs:List V)(H:Hp)(Q:VK)(E:XK):Prop
 | mk (x dx:Addr) (room:Int) (_:vs=[.ref x, .int room]) (_:H x=some (.ins C dx [])) (_:∀(pa:Addr)(H':Hp),H pa=none->(∀a o,a ≠ x->H a=some o->H' a=some o)->Cz H' C x dx pa room 0 none [] []->Q .Cp H')
inductive m7(C:Addr)(vs:List V)(H:Hp)(Q:VK)(E:XK):Prop
 | mk (x dx pa:Addr) (r b:Int) (h:Option Int) (l c:Int) (_:vs=[.ref x, .int l, .int c]) (_:H x=some (.ins C dx (jq r b (hV h) pa))) (_:Q (.bl (cI r h l c)) H)
inductive zw(C:Addr)(vs:List V)(H:Hp)(Q:VK)(E:XK):Prop
 | mk (x dx pa:Addr) (r b:Int) (h:Option Int) (Cy:List V) (qs:List (Int × Int)) (l c:Int) (last:Bool) (_:vs=[.ref x, .int l, .int c, .bl last]) (_:Cz H C x dx pa r b h Cy qs) (_:Cy.length < 100000) (_:(cI r h l c=false->False)) (_:(cI r h l c=true->∀(t:Addr)(H':Hp),Dz x pa H H'->Cz H' C x dx pa (r - 1) b (if last then none else some l) (Cy ++ [.ref t]) (qs ++ [(l,c)])->Q .Cp H'))
noncomputable def qQ:List V->V
 | [] => .Cp
 | v :: _=>v
inductive jw(C:Addr)(vs:List V)(H:Hp)(Q:VK)(E:XK):Prop
 | mk (x dx pa:Addr) (r b:Int) (h:Option Int) (Cy:List V) (qs:List (Int × Int)) (_:vs=[.ref x]) (_:Cz H C x dx pa r b h Cy qs) (_:Q (qQ Cy) H)
inductive pS(C:Addr)(vs:List V)(H:Hp)(Q:VK)(E:XK):Prop
 | mk (x dx pa:Addr) (r b:Int) (h:Option Int) (Cy:List V) (qs:List (Int × Int)) (_:vs=[.ref x]) (_:Cz H C x dx pa r b h Cy qs) (_:(Cy=[]->False)) (_:(∀v rest,Cy=v :: rest->∀H':Hp,Dz x pa H H'->Cz H' C x dx pa r (b + 1) h rest qs.tail->Q v H'))
inductive rD(C:Addr)(vs:List V)(H:Hp)(Q:VK)(E:XK):Prop
 | mk (x dx pa:Addr) (r b:Int) (h:Option Int) (Cy:List V) (qs:List (Int × Int)) (_:vs=[.ref x]) (_:Cz H C x dx pa r b h Cy qs) (_:(b=0->False)) (_:(b ≠ 0->∀H':Hp,Dz x pa H H'->Cz H' C x dx pa (r + 1) (b - 1) h Cy qs->Q .Cp H'))
inductive zB(C:Addr)(vs:List V)(H:Hp)(Q:VK)(E:XK):Prop
 | mk (x dx pa:Addr) (r b:Int) (h:Option Int) (Cy:List V) (qs:List (Int × Int)) (_:vs=[.ref x]) (_:Cz H C x dx pa r b h Cy qs) (_:∀(t ql:Addr)(H':Hp),BX H H'->H ql=none->H' t=some (.tup [.int r, .int b,hV h, .ref ql])->H' ql=some (.lst Cy)->Q (.ref t) H')
theorem TX(n:Nat):seqIndex? 0 (n + 1)=some 0:=by
 unfold seqIndex?
 simp
theorem lA(F:C2 K "is_whole" "is_whole" gU f fd)(T:Txt mg)(Z:xq K):BY P w K mg base ay 1 f fd ["value"] ip:=by
 refine F.ok rH (λ_ _ _ _ h=>?_) (λ_ _ _ s H _ Q E hr h=>?_)
 ·obtain⟨m,rfl,_⟩:=h
  rfl
 ·obtain⟨v,rfl,hv,q⟩:=h
  refine⟨_,af (av (dR (aE gh rfl T.Kt PyProof.Rows.boot_isinstance (aa (pv 0) (aa (fu (v := .ty "int") rfl T.int PySem.Pv.boot_int rfl) ac)))
   (dQ (vH (aE gh rfl T.Kt PyProof.Rows.boot_isinstance (aa (pv 0) (aa (fu (v := .ty "bool") rfl T.bool PySem.Pv.boot_bool rfl) ac))))))),?_⟩
  cases hv with
  | int i=>exact⟨_,rfl, .int i,_, "int",true,rfl, .int i,Z.ii,true,rfl,aN ⟨_,rfl, .int i,_, "bool",false,rfl, .int i,Z.ib,false,rfl,q⟩⟩
  | bl b=>exact⟨_,rfl, .bl b,_, "int",true,rfl, .bl b,Z.bi,true,rfl,aN ⟨_,rfl, .bl b,_, "bool",true,rfl, .bl b,Z.bb,true,rfl,q⟩⟩
  | Cp=>exact⟨_,rfl, .Cp,_, "int",false,rfl, .Cp,Z.ni,false,rfl,aH q⟩
theorem qy(F:C2 K "is_within" "is_within" jz f fd)(T:Txt mg)(Z:xq K)(mh:mg "is_whole" = some (.ref fh))(Fh:C2 K "is_whole" "is_whole" gU fh EX)(bh:Binds K EX ["value"] []) :
  BY P w K mg base ay 2 f fd ["value", "least", "most"] gm:=by
 have G:BY P w K mg base ay 1 fh EX ["value"] ip:=lA Fh T Z
 refine F.ok oa (λ_ _ _ _ h=>?_) (λ_ _ _ s H _ Q E hr h=>?_)
 ·obtain⟨i,a,b,rfl,_⟩:=h
  rfl
 ·obtain⟨v,a,b,rfl,hv,q⟩:=h
  refine⟨_,af (av (dR (aq G hr rfl mh Fh.kp bh .nil ap (aa (pv 0) ac)) (dQ (oA rP rP (pv 1) (pv 0) (pv 2))))),?_⟩
  cases hv with
  | bl x=>exact⟨_,rfl,_,rfl, .bl x,false,rfl,aH q⟩
  | Cp=>exact⟨_,rfl,_,rfl, .Cp,false,rfl,aH q⟩
  | int i =>
   refine⟨_,rfl,_,rfl, .int i,true,rfl,aN ?_⟩
   refine⟨_,rfl,_,rfl,_,_,rfl,rfl,_,rfl,?_⟩
   have q:Q (V.bl (decide (a <= i/\i <= b))) H:=q
   by_cases h1:a <= i
   ·rw[decide_eq_true h1]
    refine aN ⟨_,rfl,_,_,rfl,rfl,?_⟩
    show Q (V.bl (decide (i <= b))) H
    by_cases h2:i <= b
    ·rw[decide_eq_true h2];rw[decide_eq_true ⟨h1,h2⟩]at q;exact q
    ·rw[decide_eq_false h2];rw[decide_eq_false λz=>h2 z.2]at q;exact q
   ·rw[decide_eq_false h1]
    refine aH ?_
    rw[decide_eq_false λz=>h1 z.1]at q;exact q
theorem NK:au ["self", "room"] ["self", "room"] (ai AC):=L2.C3
theorem Bm(F:C2 K "__init__" "Lane.__init__" AC f fd)(L:zn K C):BY P w K mg base ay 1 f fd ["self", "room"] (uU C):=by
 refine F.ok NK (λ_ _ _ _ h=>?_) (λ_ _ _ s H _ Q E hr h=>?_)
 ·obtain⟨x,dx,room,rfl,_⟩:=h
  rfl
 ·obtain⟨x,dx,room,rfl,hx,q⟩:=h
  refine⟨_,ae (b7 (pv 0) (pv 1) rfl) (ae (b7 (pv 0) ak rfl) (ae (b7 (pv 0) bP rfl) (af (b7 (pv 0) (aU ac) rfl)))),?_⟩
  refine⟨_,rfl,_,rfl,x,C,dx,_,rfl,hx,L.cl,L.n1,by show 0 < 1000;decide,?_⟩
  refine⟨_,rfl,x,C,dx,_,rfl,ad,L.cl,L.n2,by show 1 < 1000;decide,?_⟩
  refine⟨_,rfl,x,C,dx,_,rfl,ad,L.cl,L.n3,by show 2 < 1000;decide,?_⟩
  refine⟨zero_le _,λpa G7=>?_⟩
  have Fq:x ≠ pa:=aj ad G7
  refine⟨_,rfl,x,C,dx,_,rfl,by rw[ah Fq];exact ad,L.cl,L.n4,by show 3 < 1000;decide,?_⟩
  have Iz:H pa=none:=by
   rw[ah (Ne.symm Fq),ah (Ne.symm Fq),ah (Ne.symm Fq)]at G7
   exact G7
  refine q pa _ Iz (λa o ha e=>?_) ⟨ad,by rw[ah (Ne.symm Fq)];exact ad, .nil⟩
  have nap:a ≠ pa:=λz=>by
   rw[z,Iz]at e
   cases e
  rw[ah ha,ah nap,ah ha,ah ha,ah ha]
  exact e
theorem Ar:au ["self", "letter", "count"] ["self", "letter", "count"] (ai vk):=L2.C3
theorem yu(F:C2 K "open_to" "Lane.open_to" vk f fd)(L:zn K C):BY P w K mg base ay 1 f fd ["self", "letter", "count"] (m7 C):=by
 refine F.ok Ar (λ_ _ _ _ h=>?_) (λ_ _ _ s H _ Q E hr h=>?_)
 ·obtain⟨x,dx,pa,r,b,h,l,c,rfl,_⟩:=h
  rfl
 ·obtain⟨x,dx,pa,r,b,h,l,c,rfl,hx,q⟩:=h
  refine⟨_,ae (aR (ax bz (al (pv 0) rfl) ak (aA _)) (af (av jj)) aF)
   (ae (aR (ax bz (pv 2) ak (aA _)) (af (av (c9 iV (al (pv 0) rfl) bP (aA _)))) aF)
   (af (av (c9 bz (al (pv 0) rfl) (pv 1) (aA _))))),?_⟩
  refine⟨_,rfl,x,C,dx,_,_,rfl,hx,L.cl,L.n1,rfl,rfl,_,rfl,?_⟩
  rw[bT]
  unfold cI at q
  by_cases QW:r=0
  ·rw[decide_eq_true QW]
   rw[if_pos QW]at q
   exact aN q
  rw[decide_eq_false QW]
  rw[if_neg QW]at q
  refine aH ⟨_,rfl,rfl,_,rfl,?_⟩
  rw[bT]
  by_cases Kk:c=0
  ·rw[decide_eq_true Kk]
   rw[if_pos Kk]at q
   refine aN ⟨_,rfl,x,C,dx,_,_,rfl,hx,L.cl,L.n3,rfl,rfl,?_⟩
   rw[B9]
   exact q
  ·rw[decide_eq_false Kk]
   rw[if_neg Kk]at q
   refine aH ⟨_,rfl,x,C,dx,_,_,rfl,hx,L.cl,L.n3,rfl,_,rfl,yV h l,?_⟩
   rw[BA]
   exact q
theorem NM:au ["self", "letter", "count", "last"] ["self", "letter", "count", "last"] (ai Ax):=L2.C3
theorem Bc(F:C2 K "put" "Lane.put" Ax f fd)(L:zn K C)(mo:bC K C "open_to" fo)(bo:Binds K EY ["self", "letter", "count"] [])(Go:BY P w K mg base ay 1 fo EY ["self", "letter", "count"] (m7 C)) :
  BY P w K mg base ay 2 f fd ["self", "letter", "count", "last"] (zw C):=by
 refine F.ok NM (λ_ _ _ _ h=>?_) (λ_ _ _ s H _ Q E hr h=>?_)
 ·obtain⟨x,dx,pa,r,b,h,Cy,qs,l,c,last,rfl,_⟩:=h
  rfl
 ·obtain⟨x,dx,pa,r,b,h,Cy,qs,l,c,last,rfl,hL,hlen,h1,h2⟩:=h
  refine⟨_,ae (aR (bO (bJ (aC (pv 0) L.cl mo Go hr bo .nil ap (aa (pv 1) (aa (pv 2) ac))))) (af bA) aF)
   (ae (eM (pv 0) ak sj)
   (ae (aP (bW plainAttrs_list PySem.F.slot_list_append PySem.F.type_list_append bQ (al (pv 0) rfl) (aa (bF (aa (pv 1) (aa (pv 2) ac))) ac)))
   (af (b7 (pv 0) (ce (bJ (pv 3)) bP (pv 1)) rfl)))),?_⟩
  refine⟨_,rfl,x,dx,_,rfl,hL.ins,rfl,_,rfl,_,rfl,x,dx,pa,r,b,h,l,c,rfl,hL.ins,_,rfl,?_⟩
  cases ho:cI r h l c with
  | false =>
   exact aN (h1 ho)
  | true =>
   refine aH ?_
   refine⟨_,rfl,x,C,dx,_,_,rfl,hL.ins,L.cl,L.n1,rfl,_,_,rfl,rfl,dx,_,hL.ins,by show 4 < 1000;decide,?_⟩
   have Fq:pa ≠ x:=b9 hL.lst hL.ins (by intro z;cases z)
   have DK:(upd H x (.ins C dx (aS "rights" (.int (r - 1)) (jq r b (hV h) pa)))) x=some (.ins C dx (jq (r - 1) b (hV h) pa)):=ad
   have C7:(upd H x (.ins C dx (aS "rights" (.int (r - 1)) (jq r b (hV h) pa)))) pa=some (.lst Cy):=by rw[ah Fq];exact hL.lst
   have o1:Dz x pa H (upd H x (.ins C dx (aS "rights" (.int (r - 1)) (jq r b (hV h) pa)))):=λa o ha _ e=>by rw[ah ha];exact e
   show _
   generalize upd H x (.ins C dx (aS "rights" (.int (r - 1)) (jq r b (hV h) pa)))=H1 at DK C7 o1 ⊢
   refine⟨_,rfl,x,C,dx,_,_,rfl,DK,L.cl,L.n4,rfl, .inl ⟨rfl,_,Cb.of C7⟩,_,rfl,_,rfl,by show 2 <= sizeLine;decide,λt ht=>?_⟩
   have s2:=(BX.refl H1).new (o := .tup [.int l, .int c]) ht
   have gt:(upd H1 t (.tup [.int l, .int c])) t=some (.tup [.int l, .int c]):=ad
   generalize upd H1 t (.tup [.int l, .int c])=H2 at s2 gt ⊢
   refine⟨pa,Cy,_,rfl,rfl,s2 _ _ C7,by rw[sizeLine_eq];omega,?_⟩
   have QX:(upd H2 pa (.lst (Cy ++ [.ref t]))) x=some (.ins C dx (jq (r - 1) b (hV h) pa)):=by rw[ah (Ne.symm Fq)];exact s2 _ _ DK
   have LA:(upd H2 pa (.lst (Cy ++ [.ref t]))) pa=some (.lst (Cy ++ [.ref t])):=ad
   have o3:Dz x pa H (upd H2 pa (.lst (Cy ++ [.ref t]))):=λa o ha hb e=>by rw[ah hb];exact s2 _ _ (o1 a o ha hb e)
   have ntp:t ≠ pa:=b9 gt (s2 _ _ C7) (by intro z;cases z)
   have TY:(upd H2 pa (.lst (Cy ++ [.ref t]))) t=some (.tup [.int l, .int c]):=by rw[ah ntp];exact gt
   generalize upd H2 pa (.lst (Cy ++ [.ref t]))=H3 at QX LA o3 TY ⊢
   have ntx:t ≠ x:=b9 TY QX (by intro z;cases z)
   have fin:∀h':Option Int,Cz (upd H3 x (.ins C dx (aS "holder" (hV h') (jq (r - 1) b (hV h) pa)))) C x dx pa (r - 1) b h' (Cy ++ [.ref t]) (qs ++ [(l,c)]):=λh' =>
    ⟨ad,by rw[ah Fq];exact LA,Cw.snoc ⟨t,rfl,by rw[ah ntx];exact TY⟩ (Dz.G6 (λa o ha hb e=>by rw[ah ha];exact o3 a o ha hb e) hL.ins hL.lst hL.Dq)⟩
   have off:∀o',Dz x pa H (upd H3 x o'):=λo' a o ha hb e=>by rw[ah ha];exact o3 a o ha hb e
   refine⟨_,rfl,_,rfl,?_⟩
   cases last with
   | true=>exact aN ⟨_,rfl,x,C,dx,_,rfl,QX,L.cl,L.n3,by show 4 < 1000;decide,h2 ho t _ (off _) (fin none)⟩
   | false=>exact aH ⟨_,rfl,_,rfl,x,C,dx,_,rfl,QX,L.cl,L.n3,by show 4 < 1000;decide,h2 ho t _ (off _) (fin (some l))⟩
theorem xQ:au ["self"] ["self"] (ai qk):=L2.C3
theorem wm(F:C2 K "front" "Lane.front" qk f fd)(L:zn K C):BY P w K mg base ay 1 f fd ["self"] (jw C):=by
 refine F.ok xQ (λ_ _ _ _ h=>?_) (λ_ _ _ s H _ Q E hr h=>?_)
 ·obtain⟨x,dx,pa,r,b,h,Cy,qs,rfl,_⟩:=h
  rfl
 ·obtain⟨x,dx,pa,r,b,h,Cy,qs,rfl,hL,q⟩:=h
  refine⟨_,af (av (ce (fR (al (pv 0) rfl) (λ_=>rfl)) (az aK (al (pv 0) rfl) ak (λ_ _=>rfl)) bP)),?_⟩
  refine⟨_,rfl,x,C,dx,_,_,rfl,hL.ins,L.cl,L.n4,rfl,_, .inl ⟨_,Cb.of hL.lst,rfl⟩,?_⟩
  cases Cy with
  | nil=>exact aH q
  | cons v rest=>exact aN ⟨_,rfl,x,C,dx,_,_,rfl,hL.ins,L.cl,L.n4,rfl,pa,_,0,v,rfl,rfl,Cb.of hL.lst,ao (j:=0) rfl,q⟩
theorem Ao:au ["self"] ["self"] (ai vg):=L2.C3
theorem yo(F:C2 K "pull" "Lane.pull" vg f fd)(L:zn K C):BY P w K mg base ay 1 f fd ["self"] (pS C):=by
 refine F.ok Ao (λ_ _ _ _ h=>?_) (λ_ _ _ s H _ Q E hr h=>?_)
 ·obtain⟨x,dx,pa,r,b,h,Cy,qs,rfl,_⟩:=h
  rfl
 ·obtain⟨x,dx,pa,r,b,h,Cy,qs,rfl,hL,h1,h2⟩:=h
  refine⟨_,ae (aR (bO (fR (al (pv 0) rfl) (λ_=>rfl))) (af bA) aF)
   (ae (eM (pv 0) ak nk)
   (af (av (bW plainAttrs_list PySem.F.slot_list_pop PySem.F.type_list_pop wA (al (pv 0) rfl) (aa ak ac))))),?_⟩
  refine⟨_,rfl,x,C,dx,_,_,rfl,hL.ins,L.cl,L.n4,rfl,_, .inl ⟨_,Cb.of hL.lst,rfl⟩,?_⟩
  have Fq:pa ≠ x:=b9 hL.lst hL.ins (by intro z;cases z)
  cases Cy with
  | nil =>
   exact aN (h1 rfl)
  | cons v rest =>
   refine aH ?_
   refine⟨_,rfl,x,C,dx,_,_,rfl,hL.ins,L.cl,L.n2,rfl,_,_,rfl,rfl,dx,_,hL.ins,by show 4 < 1000;decide,?_⟩
   have DK:(upd H x (.ins C dx (aS "returning" (.int (b + 1)) (jq r b (hV h) pa)))) x=some (.ins C dx (jq r (b + 1) (hV h) pa)):=ad
   have C7:(upd H x (.ins C dx (aS "returning" (.int (b + 1)) (jq r b (hV h) pa)))) pa=some (.lst (v :: rest)):=by rw[ah Fq];exact hL.lst
   have o1:Dz x pa H (upd H x (.ins C dx (aS "returning" (.int (b + 1)) (jq r b (hV h) pa)))):=λa o ha _ e=>by rw[ah ha];exact e
   show _
   generalize upd H x (.ins C dx (aS "returning" (.int (b + 1)) (jq r b (hV h) pa)))=H1 at DK C7 o1 ⊢
   refine⟨_,rfl,x,C,dx,_,_,rfl,DK,L.cl,L.n4,rfl, .inl ⟨rfl,_,Cb.of C7⟩,pa,v :: rest,0,0,v,rfl,rfl,C7,by decide,by decide,TX _,rfl,?_⟩
   have o2:Dz x pa H (upd H1 pa (.lst rest)):=λa o ha hb e=>by rw[ah hb];exact o1 a o ha hb e
   refine h2 v rest rfl _ o2 ⟨by rw[ah (Ne.symm Fq)];exact DK,ad,?_⟩
   have z:=Dz.G6 o2 hL.ins hL.lst hL.Dq
   cases z with
   | cons _ t=>exact t
theorem xR:au ["self"] ["self"] (ai qo):=L2.C3
theorem wo(F:C2 K "bring" "Lane.bring" qo f fd)(L:zn K C):BY P w K mg base ay 1 f fd ["self"] (rD C):=by
 refine F.ok xR (λ_ _ _ _ h=>?_) (λ_ _ _ s H _ Q E hr h=>?_)
 ·obtain⟨x,dx,pa,r,b,h,Cy,qs,rfl,_⟩:=h
  rfl
 ·obtain⟨x,dx,pa,r,b,h,Cy,qs,rfl,hL,h1,h2⟩:=h
  refine⟨_,ae (aR (ax bz (al (pv 0) rfl) ak (aA _)) (af bA) aF)
   (ae (eM (pv 0) ak sj) (af (eM (pv 0) ak nk))),?_⟩
  refine⟨_,rfl,x,C,dx,_,_,rfl,hL.ins,L.cl,L.n2,rfl,rfl,_,rfl,?_⟩
  have Fq:pa ≠ x:=b9 hL.lst hL.ins (by intro z;cases z)
  rw[bT]
  by_cases QY:b=0
  ·rw[decide_eq_true QY]
   exact aN (h1 QY)
  ·rw[decide_eq_false QY]
   refine aH ?_
   refine⟨_,rfl,x,C,dx,_,_,rfl,hL.ins,L.cl,L.n2,rfl,_,_,rfl,rfl,dx,_,hL.ins,by show 4 < 1000;decide,?_⟩
   have DK:(upd H x (.ins C dx (aS "returning" (.int (b - 1)) (jq r b (hV h) pa)))) x=some (.ins C dx (jq r (b - 1) (hV h) pa)):=ad
   have o1:Dz x pa H (upd H x (.ins C dx (aS "returning" (.int (b - 1)) (jq r b (hV h) pa)))):=λa o ha _ e=>by rw[ah ha];exact e
   have C7:(upd H x (.ins C dx (aS "returning" (.int (b - 1)) (jq r b (hV h) pa)))) pa=some (.lst Cy):=by rw[ah Fq];exact hL.lst
   show _
   generalize upd H x (.ins C dx (aS "returning" (.int (b - 1)) (jq r b (hV h) pa)))=H1 at DK C7 o1 ⊢
   refine⟨_,rfl,x,C,dx,_,_,rfl,DK,L.cl,L.n1,rfl,_,_,rfl,rfl,dx,_,DK,by show 4 < 1000;decide,?_⟩
   have o2:∀o',Dz x pa H (upd H1 x o'):=λo' a o ha hb e=>by rw[ah ha];exact o1 a o ha hb e
   exact h2 QY _ (o2 _) ⟨ad,by rw[ah Fq];exact C7,Dz.G6 (o2 _) hL.ins hL.lst hL.Dq⟩
theorem NN:au ["self"] ["self"] (ai AB):=L2.C3
theorem Bl(F:C2 K "told" "Lane.told" AB f fd)(T:Txt mg)(L:zn K C):BY P w K mg base ay 1 f fd ["self"] (zB C):=by
 refine F.ok NN (λ_ _ _ _ h=>?_) (λ_ _ _ s H _ Q E hr h=>?_)
 ·obtain⟨x,dx,pa,r,b,h,Cy,qs,rfl,_⟩:=h
  rfl
 ·obtain⟨x,dx,pa,r,b,h,Cy,qs,rfl,hL,q⟩:=h
  refine⟨_,af (av (bF (aa (al (pv 0) rfl) (aa (al (pv 0) rfl) (aa (al (pv 0) rfl) (aa (bI ck rfl T.list PySem.Pv.boot_list (aa (al (pv 0) rfl) ac)) ac)))))),?_⟩
  refine⟨_,rfl,x,C,dx,_,_,rfl,hL.ins,L.cl,L.n1,rfl,_,rfl,x,C,dx,_,_,rfl,hL.ins,L.cl,L.n2,rfl,_,rfl,x,C,dx,_,_,rfl,hL.ins,L.cl,L.n3,rfl,_,rfl,x,C,dx,_,_,rfl,hL.ins,L.cl,L.n4,rfl,pa,_,rfl, .inl (Cb.of hL.lst),λql Jx=>?_⟩
  have s1:=(BX.refl H).new (o := .lst Cy) Jx
  have g1:(upd H ql (.lst Cy)) ql=some (.lst Cy):=ad
  generalize upd H ql (.lst Cy)=H1 at s1 g1 ⊢
  refine⟨by show 4 <= sizeLine;decide,λt ht=>?_⟩
  have s2:=s1.new (o := .tup [.int r, .int b,hV h, .ref ql]) ht
  exact q t ql _ s2 Jx ad (by rw[ah (aj g1 ht)];exact g1)
noncomputable def rR(m:Nat)(Cv:List V):Bool:=decide (Cv.length=m) && Cv.all λv=>l9 v 1 60
def Sq(K:Frag)(H:Hp)(a:Addr)(xs:List V):Prop:=Cb K H a xs∨Ck K H a xs
inductive r6(K:Frag)(c:Cs)(vs:List V)(H:Hp)(Q:VK)(E:XK):Prop
 | mk (lx Cr lt:Addr) (n:Int) (Cf:List V) (ps:List (Int × Int)) (rv:V) (_:vs=[.ref lx,rv]) (_:cr H c lx Cr lt n Cf ps) (_:ps.length <= 1000) (_:((rv = .Cp/\∀t H',BX H H'->H' t=some (.tup (List.replicate ps.length (.int 1)))->Q (.ref t) H')∨(∃ra Cv,rv = .ref ra/\Sq K H ra Cv/\Cv.length <= 1000/\(∀v ∈ Cv,uo v)/\(rR ps.length Cv=false->False)/\(rR ps.length Cv=true->∀t H',BX H H'->Ck K H' t Cv->Q (.ref t) H'))))
noncomputable def B8(s:Stmt):Scope:=match s with
 | .If _ (.Return (some (.Call _ [.ListComp _ _ sc _] _ _)) _ :: _) _ _=>sc
 | _=>zQ0
noncomputable def AU(s:Stmt):Scope:=match s with
 | .If (.BoolOp _ [_, .UnaryOp _ (.Call _ [.ListComp _ _ sc _] _ _) _] _) _ _ _=>sc
 | _=>zQ0
noncomputable def zK:V->Bool
 | .int i=>decide ((if i < 0 then -i else i) < 10 ^ (60:Int).toNat)
 | _=>false
def uI:Sp:=λvs H Q _=>∃v,vs=[v]/\uo v/\Q (.bl (zK v)) H
theorem bD(e:BX H H')(h:Ck K H a xs):Ck K H' a xs:=by
 rcases h with h | h
 ·refine .inl ?_
  rcases h with h | ⟨o,h⟩
  ·exact .inl (e _ _ h)
  ·exact .inr ⟨o,e _ _ h⟩
 ·exact .inr h
theorem zH(h1:PI X tg it a)(h2:PI X tg it b):PI X tg it (λσ H R=>a σ H R∨b σ H R):=λpins s σ H R I h=>h.elim (h1 pins s σ H R I) (h2 pins s σ H R I)
theorem p0{xs:List V}(f:V->V)(hn:xs.length < sizeLine)(hgo:∀i,i < xs.length->J.go i H)(GR:J.stop xs.length H)(hy:∀i x H',J.Hm i H x H'->H' = H/\xs[i]? = some x)
  (hs:∀(x:V)(N:V->Hp->Prop),x ∈ xs->N (f x) H->g x σ0 H λσ2 H2=>te σ2 H2 N)
  (hq:∀D,H D=none->Q (.ref D) (upd H D (.lst (xs.map f)))):dZ J g nP te σ0 Q H:=by
 refine aX xs.length hn (λi acc H'=>H' = H/\acc=(xs.take i).map f) ⟨rfl,rfl⟩ (λi acc H' h=>by rw[h.2,length_map];exact length_take_le _ _) (λi acc H' hi h=>?_) (λacc H' h=>?_)
 ·obtain⟨rfl,rfl⟩:=h
  refine⟨hgo i hi,λv H2 y=>?_⟩
  obtain⟨e,hx⟩:=hy i v H2 y
  subst e
  exact hs v (λy H4=>H4=H2/\(xs.take i).map f ++ [y]=(xs.take (i + 1)).map f) (mem_of_getElem? hx) ⟨rfl,by rw[take_succ,hx,map_append];rfl⟩
 ·obtain⟨rfl,rfl⟩:=h
  rw[take_length]
  exact⟨GR,hq⟩
theorem xj(f:V->V)(hn:xs.length < sizeLine)(ha:Cb K H a xs)(hs:∀(x:V) (N:V->Hp->Prop),x ∈ xs->N (f x) H->g x σ0 H λσ2 H2=>te σ2 H2 N)
  (hq:∀D,H D=none->Q (.ref D) (upd H D (.lst (xs.map f)))):dZ (xz K a) g nP te σ0 Q H :=
 p0 f hn (λi hi=>⟨xs,xs[i],ha,by simp[hi]⟩) ⟨xs,ha,le_refl _⟩ (λi x H' y=>⟨y.1,y.2 xs ha⟩) hs hq
theorem qW(f:V->V)(hn:xs.length < sizeLine)(ha:Ck K H a xs)(hs:∀(x:V) (N:V->Hp->Prop),x ∈ xs->N (f x) H->g x σ0 H λσ2 H2=>te σ2 H2 N)
  (hq:∀D,H D=none->Q (.ref D) (upd H D (.lst (xs.map f)))):dZ (QJ K a) g nP te σ0 Q H :=
 p0 f hn (λi hi=>⟨xs,xs[i],ha,by simp[hi]⟩) ⟨xs,ha,le_refl _⟩ (λi x H' y=>⟨y.1,y.2 xs ha⟩) hs hq
theorem TZ:au ["land", "rooms"] ["land", "rooms"] (ai gX):=L2.C3
theorem Ua:CP ["land", "rooms"] (ai gX) (B8 ((aI gX).getD 0 (.Pass ⟨0,0,0,0⟩))) [] []:=L2.Dp
theorem Ub:CP ["land", "rooms"] (ai gX) (AU ((aI gX).getD 1 (.Pass ⟨0,0,0,0⟩))) [] []:=L2.Dp
theorem Uc:(["lane"]:List Str).Nodup:=by decide +kernel
theorem NO:(["room"]:List Str).Nodup:=by decide +kernel
theorem vX(F:C2 K "rooms_of" "rooms_of" gX f fd)(T:Txt mg)(L:lc K c)
  (mw:mg "is_within" = some (.ref fw)) (kw:keepIn K (.ref fw)=true) (bw:Binds K dw ["value", "least", "most"] []) (Gw:BY P w K mg base ay 2 fw dw ["value", "least", "most"] gm) (mp:mg "MOST_ROOM" = some (.int 60 t1)) :
  BY P w K mg base ay 3 f fd ["land", "rooms"] (r6 K c):=by
 refine F.ok TZ (λ_ _ _ _ h=>?_) (λ_ _ _ s H _ Q E hr h=>?_)
 ·obtain⟨lx,Cr,lt,n,Cf,ps,rv,rfl,_⟩:=h
  rfl
 ·obtain⟨lx,Cr,lt,n,Cf,ps,rv,rfl,hL,Df,hh⟩:=h
  refine⟨_,ae (aR (ax iV (pv 1) bP (aA _)) (af (av (bI cY rfl T.tuple PySem.Pv.boot_tuple (aa (aT (own:=["lane"]) (capN:=[]) (cap:=[]) Ua rfl (iR (al (pv 0) rfl))
     (λC s' H' fp=>⟨aw (i:=0) Uc rfl (Or.inl rfl),bd,ak⟩)) ac)))) aF)
   (ae (aR (j0 (PW.pt (fE (ax jk (aE aB rfl T.len PySem.boot_len (aa (pv 1) ac)) (aE aB rfl T.len PySem.boot_len (aa (al (pv 0) rfl) ac)) (aA _))
     (dP (bO (bJ (aE (iJ rfl) rfl T.all PyProof.Rows.boot_all (aa (aT (own:=["room"]) (capN:=[]) (cap:=[]) Ub rfl (zH (aW (pv 1)) (iR (pv 1)))
      (λC s' H' fp=>⟨aw (i:=0) NO rfl (Or.inl rfl),bd,aq Gw hr rfl mw kw bw .nil ap (aa (pv 0) (aa ak (aa (dH (v := .int 60) rfl mp ⟨_,rfl⟩) ac)))⟩)) ac))))))))
    (af bA) aF)
   (af (av (bI cY rfl T.tuple PySem.Pv.boot_tuple (aa (pv 1) ac))))),?_⟩
  have G8:Cf.length=ps.length:=Paired.length hL.2.2
  refine⟨_,rfl,rfl,_,rfl,?_⟩
  rcases hh with ⟨rfl,q⟩ | ⟨ra,Cv,rfl,hR,E6,I0,qE,q⟩
  ·refine aN ⟨_,rfl,lx,c.land,Cr,_,_,rfl,hL.1,L.cl,L.nl,rfl,lt,rfl,⟨_,Ck.of hL.2.1⟩,?_⟩
   refine qW (λ_ => .int 1) (by rw[sizeLine_eq];omega) (Ck.of hL.2.1) (λx N hx h=>h) (λD hD=>?_)
   have s1:=(BX.refl H).new (o := .lst (Cf.map λ_=>V.int 1)) hD
   refine⟨D,_,rfl, .inl ⟨Cb.of ad,λt ht=>q t _ (s1.new ht) ?_⟩⟩
   rw[ad,List.map_const',G8]
  ·refine aH ?_
   have len1:∀{H:Hp},Sq K H ra Cv->(Cb K H ra Cv∨Ck K H ra Cv):=λh=>h
   refine⟨λb H'=>BX H H'/\b = !rR ps.length Cv,?_,?_⟩
   ·refine⟨_,rfl,ra,Cv,rfl,hR,_,rfl,lx,c.land,Cr,_,_,rfl,hL.1,L.cl,L.nl,rfl,lt,_,rfl, .inr (Ck.of hL.2.1),rfl,_,rfl,?_⟩
    rw[bT,G8]
    by_cases LF:Cv.length=ps.length
    rotate_left
    ·rw[decide_eq_false (show ¬((Cv.length:Nat):Int)=(ps.length:Nat) by omega)]
     refine aN ⟨BX.refl H,?_⟩
     unfold rR
     rw[decide_eq_false LF];rfl
    rw[decide_eq_true (show((Cv.length:Nat):Int)=(ps.length:Nat) by omega)]
    have step:∀(x:V)(N:V->Hp->Prop),x ∈ Cv->N (.bl (l9 x 1 60)) H->uo x:=λx _ hx _=>I0 x hx
    have fin:∀D,H D=none->∃(p:Addr)(bs:List Bool),[V.ref D]=[.ref p]/\Cb K (upd H D (.lst (Cv.map λv=>V.bl (l9 v 1 60)))) p (bs.map V.bl)/\∃cc,V.bl (bs.all id) = .bl cc/\(BX H (upd H D (.lst (Cv.map λv=>V.bl (l9 v 1 60))))/\(!cc) = !rR ps.length Cv):=λD hD=>by
     refine⟨D,Cv.map λv=>l9 v 1 60,rfl,Cb.of (by rw[ad,map_map];rfl),_,rfl,(BX.refl H).new hD,?_⟩
     unfold rR
     rw[decide_eq_true LF,Bool.true_and,all_map];rfl
    refine aH ?_
    rcases hR with hR | hR
    ·refine .inl ⟨_,rfl,ra,rfl,⟨_,hR⟩,?_⟩
     exact xj (λv => .bl (l9 v 1 60)) (by rw[sizeLine_eq];omega) hR (λx N hx h=>⟨_,rfl,x,1,60,rfl,I0 x hx,h⟩) fin
    ·refine .inr ⟨_,rfl,ra,rfl,⟨_,hR⟩,?_⟩
     exact qW (λv => .bl (l9 v 1 60)) (by rw[sizeLine_eq];omega) hR (λx N hx h=>⟨_,rfl,x,1,60,rfl,I0 x hx,h⟩) fin
   rintro b H' ⟨s',rfl⟩
   cases Ci:rR ps.length Cv with
   | false=>exact aN (qE Ci)
   | true =>
    refine aH ⟨_,rfl,ra,Cv,rfl,?_⟩
    rcases hR with hR | hR
    ·exact .inl ⟨s'.seq hR,λt ht=>q Ci t _ (s'.new ht) (Ck.of ad)⟩
    ·exact .inr ⟨bD s' hR,q Ci ra _ s' (bD s' hR)⟩
theorem Ud:au ["word"] ["word"] (ai vc):=L2.C3
theorem yk(F:C2 K "is_word" "is_word" vc f fd)(T:Txt mg)(mh:mg "is_whole" = some (.ref fh))(kh:keepIn K (.ref fh)=true)(bh:Binds K dh ["value"] [])(G:BY P w K mg base ay 1 fh dh ["value"] ip) :
  BY P w K mg base ay 2 f fd ["word"] uI:=by
 refine F.ok Ud (λ_ _ _ _ h=>?_) (λ_ _ _ s H _ Q E hr h=>?_)
 ·obtain⟨v,rfl,_⟩:=h
  rfl
 ·obtain⟨v,rfl,hv,q⟩:=h
  refine⟨_,af (av (dR (aq G hr rfl mh kh bh .nil ap (aa (pv 0) ac)) (dQ (c9 rO (aE xk rfl T.abs PyProof.Rows.boot_abs (aa (pv 0) ac)) (aJ qv ak ak) (aA _))))),?_⟩
  cases hv with
  | int i=>exact⟨_,rfl,_,rfl, .int i,true,rfl,aN ⟨_,rfl,i,rfl,_,_,rfl,rfl,⟨by decide,by decide,by decide⟩,_,_,rfl,rfl,q⟩⟩
  | bl b=>exact⟨_,rfl,_,rfl, .bl b,false,rfl,aH q⟩
  | Cp=>exact⟨_,rfl,_,rfl, .Cp,false,rfl,aH q⟩
abbrev Wf:=Nat->Nat->Option Nat->List Nat
abbrev TJ:=Hp->Addr->Nat->Wf->Prop
def NL:HO->Prop
 | .lst _=>False
 | .ins _ _ []=>False
 | .Jg _=>False
 | _=>True
def CD(H H':Hp):Prop:=∀b o,H b=some o->NL o->H' b=some o
theorem BX.Cq(s:BX H H'):CD H H':=λb o e _=>s b o e
theorem CD.trans(a:CD H H1)(b:CD H1 H2):CD H H2:=λx o e n=>b x o (a x o e n) n
theorem CD.G6(k:CD H H')(h:Cw H vs ps):Cw H' vs ps:=Cw.imp (λ_ _ ⟨t,e,q⟩=>⟨t,e,k _ _ q True.intro⟩) h
structure CK(c:Cs)(C:Addr)(J:TJ)(H:Hp)(x lx Cr lt:Addr)(n:Nat)(Cf:List V)(ps:List (Int × Int))(wy:Wf):Prop where
 j:J H x n wy
 i:∃dx fs,H x=some (.ins C dx fs)/\fs.lookup ("land":Str)=some (.ref lx)/\fs.lookup ("ways":Str)=none
 l:cr H c lx Cr lt (n:Int) Cf ps
 EZ:n <= 12
 C6:ps.length <= 40
 ok:∀p g k,p < n->g < n->∀z ∈ wy p g k,z < ps.length
structure Wy(K:Frag)(C fw:Addr)(dw:FuncData)(J:TJ):Prop where
 cl:EC K C
 nl:Co K C "land"
 m:bC K C "ways" fw
 b:Binds K dw ["self", "place", "goal", "came"] []
 Ef:∀H H' x n wy,J H x n wy->CD H H'->J H' x n wy
theorem CK.keep(W:Wy K C fw dw J)(h:CK c C J H x lx Cr lt n Cf ps wy)(k:CD H H'):CK c C J H' x lx Cr lt n Cf ps wy :=
 ⟨W.Ef _ _ _ _ _ h.j k,let ⟨dx,fs,h1,h2⟩:=h.i; ⟨dx,fs,k _ _ h1 (by cases fs with | nil=>cases h2.1 | cons _ _=>exact True.intro),h2⟩,⟨k _ _ h.l.1 True.intro,k _ _ h.l.2.1 True.intro,k.G6 h.l.2.2⟩,h.EZ,h.C6,h.ok⟩
inductive cT(J:TJ)(vs:List V)(H:Hp)(Q:VK)(E:XK):Prop
 | mk (x:Addr) (n:Nat) (wy:Wf) (p g:Nat) (k:Option Nat) (_:vs=[.ref x, .int p, .int g,cV k]) (_:J H x n wy) (_:p < n) (_:g < n) (_:∀(D:Addr)(H':Hp),BX H H'->H D=none->H' D=some (.lst (nV (wy p g k)))->Q (.ref D) H')
structure cZ where
 r:Int
 b:Int
 h:Option Int
 qs:List (Int × Int)
structure c7 where
 start:Int
 goal:Int
 len:Int
 word:Int
 gone:Int
 way:List Nat
structure YS where
 rooms:List V
 lanes:List cZ
 U:List c7
 lies:List (List (Int × Int))
 done:List (List V)
structure Ys where
 Ca:Addr
 C0:Addr
 BZ:Addr
 ex:List Addr
def Ej(H:Hp)(C:Addr)(ex:List Addr)(v:V)(s:cZ):Prop:=∃x dx pa Cy,v = .ref x/\Cz H C x dx pa s.r s.b s.h Cy s.qs/\pa ∉ ex
noncomputable def qJ(s:c7)(wa:Addr):Fs:=[("start", .int s.start),("goal", .int s.goal),("length", .int s.len),("word", .int s.word),("gone", .int s.gone),("way", .ref wa)]
def ET(H:Hp)(C:Addr)(ex:List Addr)(v:V)(s:c7):Prop:=∃x dx wa,v = .ref x/\H x=some (.ins C dx (qJ s wa))/\H wa=some (.lst (nV s.way))/\wa ∉ ex
def D8(H:Hp)(v:V)(qs:List (Int × Int)):Prop:=∃t vs,v = .ref t/\H t=some (.tup vs)/\Cw H vs qs
def D6(H:Hp)(v:V)(m:List V):Prop:=∃t,v = .ref t/\H t=some (.tup m)
theorem Paired.mono{R R':α->β->Prop}(h:∀a b,R a b->R' a b):∀{as:List α}{bs:List β},Paired R as bs->Paired R' as bs:=λCc=>by
 induction Cc with
 | nil=>exact .nil
 | cons x r ih=>exact .cons (h _ _ x) ih
theorem Paired.snoc{a:α}{b:β}(h:R a b):∀{as:List α}{bs:List β},Paired R as bs->Paired R (as ++ [a]) (bs ++ [b]):=λCc=>by
 induction Cc with
 | nil=>exact .cons h .nil
 | cons x r ih=>exact .cons x ih
theorem Paired.at :∀{as:List α}{bs:List β}{i:Nat}{a:α},Paired R as bs->as[i]? = some a->∃b,bs[i]? = some b/\R a b:=by
 intro _ _ i _ Cc
 induction Cc generalizing i with
 | nil=>intro h;cases h
 | cons x r ih =>
  intro h
  cases i with
  | zero=>cases h;exact⟨_,rfl,x⟩
  | succ i=>exact ih (i:=i) h
theorem Paired.at2 :∀{as:List α}{bs:List β}{i:Nat}{b:β},Paired R as bs->bs[i]? = some b->∃a,as[i]? = some a/\R a b:=by
 intro _ _ i _ Cc
 induction Cc generalizing i with
 | nil=>intro h;cases h
 | cons x r ih =>
  intro h
  cases i with
  | zero=>cases h;exact⟨_,rfl,x⟩
  | succ i=>exact ih (i:=i) h
def Cn(ex:List Addr)(H H':Hp):Prop:=∀b o,b ∉ ex->H b=some o->H' b=some o
theorem BX.CF(s:BX H H'):Cn ex H H':=λb o _ e=>s b o e
theorem Cn.trans(a:Cn ex H H1)(b:Cn ex H1 H2):Cn ex H H2:=λx o n e=>b x o n (a x o n e)
theorem Cw.CF(hx:∀b ∈ ex,∃xs,H b=some (.lst xs))(o:Cn ex H H')(h:Cw H vs ps):Cw H' vs ps :=
 Cw.imp (λ_ _ Cc=>by obtain⟨t,e,q⟩:=Cc;exact⟨t,e,o _ _ (λz=>by obtain⟨xs,hz⟩:=hx _ z;rw[q]at hz;cases hz) q⟩) h
theorem Cn.Jy(hx:∀b ∈ ex,∃o,H b=some o/\¬NL o)(o:Cn ex H H'):CD H H':=λb u e n=>o b u (λz=>by obtain⟨o',hz,hn⟩:=hx _ z;rw[e]at hz;cases hz;exact hn n) e
theorem Cn.Cq(hx:∀b ∈ ex,∃xs,H b=some (.lst xs))(o:Cn ex H H'):CD H H':=o.Jy λb hb=>let ⟨xs,hz⟩:=hx b hb; ⟨_,hz,id⟩
theorem Ej.CF(hx:∀b ∈ ex,∃xs,H b=some (.lst xs))(o:Cn ex H H')(h:Ej H C ex v s):Ej H' C ex v s:=by
 obtain⟨x,dx,pa,Cy,e,L,n⟩:=h
 have k:=o.Cq hx
 exact⟨x,dx,pa,Cy,e,⟨k _ _ L.ins True.intro,o _ _ n L.lst,Cw.CF hx o L.Dq⟩,n⟩
theorem ET.CF(hx:∀b ∈ ex,∃xs,H b=some (.lst xs))(o:Cn ex H H')(h:ET H C ex v s):ET H' C ex v s:=by
 obtain⟨x,dx,wa,e,h1,h2,n⟩:=h
 exact⟨x,dx,wa,e,o.Cq hx _ _ h1 True.intro,o _ _ n h2,n⟩
theorem D8.keep(k:CD H H')(h:D8 H v qs):D8 H' v qs:=by
 obtain⟨t,vs,e,h1,h2⟩:=h
 exact⟨t,vs,e,k _ _ h1 True.intro,k.G6 h2⟩
theorem D6.keep(k:CD H H')(h:D6 H v m):D6 H' v m:=by
 obtain⟨t,e,h1⟩:=h
 exact⟨t,e,k _ _ h1 True.intro⟩
noncomputable def QZ(tb ro la le li dn:Addr):Fs:=[("table", .ref tb),("rooms", .ref ro),("lanes", .ref la),("letters", .ref le),("lies", .ref li),("done", .ref dn)]
structure Cg(K:Frag)(ys:Ys)(H:Hp)(y dy tb ro la le li dn:Addr)(s:YS):Prop where
 ins:H y=some (.ins ys.Ca dy (QZ tb ro la le li dn))
 LG:Ck K H ro s.rooms
 Dr:∃vs,H la=some (.lst vs)/\Paired (Ej H ys.C0 (la :: le :: li :: dn :: ys.ex)) vs s.lanes
 hle:∃vs,H le=some (.lst vs)/\Paired (ET H ys.BZ (la :: le :: li :: dn :: ys.ex)) vs s.U
 Ew:∃vs,H li=some (.lst vs)/\Paired (D8 H) vs s.lies
 DY:∃vs,H dn=some (.lst vs)/\Paired (D6 H) vs s.done
 ne:[la,le,li,dn].Nodup
 hex:∀b ∈ ys.ex,∃xs,H b=some (.lst xs)
theorem Cg.DA(h:Cg K ys H y dy tb ro la le li dn s):∀b ∈ [la,le,li,dn],∃xs,H b=some (.lst xs):=by
 intro b hb
 obtain⟨v1,h1,_⟩:=h.Dr
 obtain⟨v2,h2,_⟩:=h.hle
 obtain⟨v3,h3,_⟩:=h.Ew
 obtain⟨v4,h4,_⟩:=h.DY
 simp only[mem_cons,not_mem_nil,or_false]at hb
 rcases hb with rfl | rfl | rfl | rfl
 ·exact⟨_,h1⟩
 ·exact⟨_,h2⟩
 ·exact⟨_,h3⟩
 ·exact⟨_,h4⟩
theorem Cg.FR(h:Cg K ys H y dy tb ro la le li dn s):∀b ∈ la :: le :: li :: dn :: ys.ex,∃xs,H b=some (.lst xs):=by
 intro b hb
 have e:la :: le :: li :: dn :: ys.ex=[la,le,li,dn] ++ ys.ex:=rfl
 rw[e]at hb
 rcases mem_append.mp hb with hb | hb
 ·exact h.DA b hb
 ·exact h.hex b hb
theorem Cg.same(h:Cg K ys H y dy tb ro la le li dn s)(e:BX H H'):Cg K ys H' y dy tb ro la le li dn s:=by
 have hx:=h.FR
 obtain⟨v1,h1,p1⟩:=h.Dr
 obtain⟨v2,h2,p2⟩:=h.hle
 obtain⟨v3,h3,p3⟩:=h.Ew
 obtain⟨v4,h4,p4⟩:=h.DY
 have o:Cn (la :: le :: li :: dn :: ys.ex) H H':=BX.CF e
 exact⟨e _ _ h.ins,bD e h.LG,⟨v1,e _ _ h1,Paired.mono (λ_ _ z=>z.CF hx o) p1⟩,⟨v2,e _ _ h2,Paired.mono (λ_ _ z=>z.CF hx o) p2⟩,⟨v3,e _ _ h3,Paired.mono (λ_ _ z=>z.keep (BX.Cq e)) p3⟩,⟨v4,e _ _ h4,Paired.mono (λ_ _ z=>z.keep (BX.Cq e)) p4⟩,h.ne,λb hb=>let ⟨xs,hz⟩:=h.hex b hb; ⟨xs,e _ _ hz⟩⟩
structure iL(K:Frag)(ys:Ys):Prop where
 cl:EC K ys.Ca
 n1:Co K ys.Ca "table"
 n2:Co K ys.Ca "rooms"
 n3:Co K ys.Ca "lanes"
 n4:Co K ys.Ca "letters"
 n5:Co K ys.Ca "lies"
 n6:Co K ys.Ca "done"
 ct:EC K ys.BZ
 t1:Co K ys.BZ "start"
 t2:Co K ys.BZ "goal"
 t3:Co K ys.BZ "length"
 t4:Co K ys.BZ "word"
 t5:Co K ys.BZ "gone"
 t6:Co K ys.BZ "way"
 L:zn K ys.C0
inductive uT(C:Addr)(vs:List V)(H:Hp)(Q:VK)(E:XK):Prop
 | mk (x dx:Addr) (a b l u:Int) (_:vs=[.ref x, .int a, .int b, .int l, .int u]) (_:H x=some (.ins C dx [])) (_:∀(wa:Addr)(H':Hp),H wa=none->(∀z o,z ≠ x->H z=some o->H' z=some o)->H' x=some (.ins C dx (qJ ⟨a,b,l,u,0,[]⟩ wa))->H' wa=some (.lst (nV []))->Q .Cp H')
theorem NP:au ["self", "start", "goal", "length", "word"] ["self", "start", "goal", "length", "word"] (ai vt):=L2.C3
theorem Bj(F:C2 K "__init__" "Letter.__init__" vt f fd)(Y:iL K ys):BY P w K mg base ay 1 f fd ["self", "start", "goal", "length", "word"] (uT ys.BZ):=by
 refine F.ok NP (λ_ _ _ _ h=>?_) (λ_ _ _ s H _ Q E hr h=>?_)
 ·obtain⟨x,dx,a,b,l,u,rfl,_⟩:=h
  rfl
 ·obtain⟨x,dx,a,b,l,u,rfl,hx,q⟩:=h
  refine⟨_,ae (b7 (pv 0) (pv 1) rfl) (ae (b7 (pv 0) (pv 2) rfl) (ae (b7 (pv 0) (pv 3) rfl) (ae (b7 (pv 0) (pv 4) rfl) (ae (b7 (pv 0) ak rfl) (af (b7 (pv 0) (aU ac) rfl)))))),?_⟩
  refine⟨_,rfl,_,rfl,x,ys.BZ,dx,_,rfl,hx,Y.ct,Y.t1,by show 0 < 1000;decide,?_⟩
  refine⟨_,rfl,_,rfl,x,ys.BZ,dx,_,rfl,ad,Y.ct,Y.t2,by show 1 < 1000;decide,?_⟩
  refine⟨_,rfl,_,rfl,x,ys.BZ,dx,_,rfl,ad,Y.ct,Y.t3,by show 2 < 1000;decide,?_⟩
  refine⟨_,rfl,_,rfl,x,ys.BZ,dx,_,rfl,ad,Y.ct,Y.t4,by show 3 < 1000;decide,?_⟩
  refine⟨_,rfl,x,ys.BZ,dx,_,rfl,ad,Y.ct,Y.t5,by show 4 < 1000;decide,?_⟩
  refine⟨zero_le _,λwa G9=>?_⟩
  have IA:x ≠ wa:=aj ad G9
  refine⟨_,rfl,x,ys.BZ,dx,_,rfl,by rw[ah IA];exact ad,Y.ct,Y.t6,by show 5 < 1000;decide,?_⟩
  have NQ:H wa=none:=by
   rw[ah (Ne.symm IA),ah (Ne.symm IA),ah (Ne.symm IA),ah (Ne.symm IA),ah (Ne.symm IA)]at G9
   exact G9
  refine q wa _ NQ (λz o nz e=>?_) ad (by rw[ah (Ne.symm IA)];exact ad)
  have nzw:z ≠ wa:=aj e NQ
  rw[ah nz,ah nzw,ah nz,ah nz,ah nz,ah nz,ah nz]
  exact e
noncomputable def vI:V->Int
 | .int i=>i
 | _=>0
noncomputable def tR(v:V):cZ:=⟨vI v,0,none,[]⟩
noncomputable def Y0(rooms:List V)(n:Nat):YS:=⟨rooms,rooms.map tR,[],List.replicate n [],[]⟩
def DS(H0 H:Hp)(C:Addr)(v:V)(s:cZ):Prop:=∃x dx pa,v = .ref x/\Cz H C x dx pa s.r s.b s.h [] []/\s.qs=[]/\H0 x=none/\H0 pa=none
theorem DS.same(h:DS H0 H C v s)(e:BX H H'):DS H0 H' C v s:=by
 obtain⟨x,dx,pa,h1,h2,h3⟩:=h
 exact⟨x,dx,pa,h1,h2.same e,h3⟩
def CJ(y:Addr)(ex:List Addr)(H:Hp)(C:Addr)(v:V)(s:cZ):Prop:=∃x dx pa,v = .ref x/\Cz H C x dx pa s.r s.b s.h [] []/\s.qs=[]/\x ≠ y/\pa ≠ y/\pa ∉ ex
theorem DS.NR(h:DS H0 H C v s)(hy:H0 y=some u)(hx:∀b ∈ ex,∃o,H0 b=some o):CJ y ex H C v s:=by
 obtain⟨x,dx,pa,h1,h2,h3,h4,h5⟩:=h
 exact⟨x,dx,pa,h1,h2,h3,(λz=>by rw[z,hy]at h4;cases h4),(λz=>by rw[z,hy]at h5;cases h5),λz=>by obtain⟨o,ho⟩:=hx _ z;rw[h5]at ho;cases ho⟩
theorem CJ.same(h:CJ y ex H C v s)(e:BX H H'):CJ y ex H' C v s:=by
 obtain⟨x,dx,pa,h1,h2,h3⟩:=h
 exact⟨x,dx,pa,h1,h2.same e,h3⟩
theorem CJ.upd(h:CJ y ex H C v s):CJ y ex (upd H y o) C v s:=by
 obtain⟨x,dx,pa,h1,h2,h3,h4,h5,h6⟩:=h
 exact⟨x,dx,pa,h1,⟨by rw[ah h4];exact h2.ins,by rw[ah h5];exact h2.lst, .nil⟩,h3,h4,h5,h6⟩
theorem CJ.new(h:CJ y ex H C v s)(ha:H a=none):CJ y (a :: ex) (L2.upd H a o) C v s:=by
 obtain⟨x,dx,pa,h1,h2,h3,h4,h5,h6⟩:=h
 exact⟨x,dx,pa,h1,h2.same ((BX.refl H).new ha),h3,h4,h5,λz=>(mem_cons.mp z).elim (λz=>by rw[z]at h2;rw[h2.lst]at ha;cases ha) h6⟩
theorem CJ.NS(h:CJ y ex H C v s)(hs:∀a ∈ Lx,a ∈ ex):Ej H C Lx v s:=by
 obtain⟨x,dx,pa,h1,h2,h3,h4,h5,h6⟩:=h
 exact⟨x,dx,pa,[],h1,by rw[h3];exact h2,λz=>h6 (hs _ z)⟩
theorem qV(hn:Cv.length < sizeLine)(ha:Ck K H ro Cv)(hint:∀v ∈ Cv,∃r,v = .int r)
  (hs:∀(r:Int)(H1:Hp)(N:V->Hp->Prop),BX H H1->(∀x dx pa H2,H1 x=none->H1 pa=none->BX H1 H2->Cz H2 C x dx pa r 0 none [] []->N (.ref x) H2)->g (.int r) σ0 H1 λσ2 H2=>te σ2 H2 N)
  (hq:∀D vs H1,BX H H1->H1 D=none->Paired (DS H H1 C) vs (Cv.map tR)->Q (.ref D) (upd H1 D (.lst vs))):dZ (QJ K ro) g nP te σ0 Q H:=by
 refine aX Cv.length hn (λi acc H'=>BX H H'/\Paired (DS H H' C) acc ((Cv.take i).map tR)) ⟨BX.refl _, .nil⟩ (λi acc H' h=>by have:=Paired.length h.2;rw[this,length_map];exact length_take_le _ _) (λi acc H' hi h=>?_) (λacc H' h=>?_)
 ·obtain⟨s,hL⟩:=h
  refine⟨⟨Cv,Cv[i],bD s ha,by simp[hi]⟩,λv H2 y=>?_⟩
  obtain⟨e,y⟩:=y
  subst e
  have hv:=y _ (bD s ha)
  obtain⟨r,rfl⟩:=hint v (mem_of_getElem? hv)
  refine hs r H2 (λy H4=>BX H H4/\Paired (DS H H4 C) (acc ++ [y]) ((Cv.take (i + 1)).map tR)) s λx dx pa H3 nx IB s3 ES=>⟨s.trans s3,?_⟩
  rw[take_succ,hv,Option.toList_some,map_append]
  exact Paired.snoc (b:=tR (.int r)) ⟨x,dx,pa,rfl,ES,rfl,s.free nx,s.free IB⟩ (Paired.mono (λ_ _ z=>z.same s3) hL)
 ·obtain⟨s,hL⟩:=h
  rw[take_length]at hL
  exact⟨⟨Cv,bD s ha,le_refl _⟩,λD hD=>hq D acc H' s hD hL⟩
theorem uj(hn:n <= 1000)
  (hs:∀(i:Nat)(H1:Hp)(N:V->Hp->Prop),BX H H1->(∀t,H1 t=none->N (.ref t) (upd H1 t (.tup [])))->g (.int (0 + i)) σ0 H1 λσ2 H2=>te σ2 H2 N)
  (hq:∀D vs H1,BX H H1->H1 D=none->Paired (D8 H1) vs (List.replicate n [])->Q (.ref D) (upd H1 D (.lst vs))):dZ (uu 0 n) g nP te σ0 Q H:=by
 refine aX n (by rw[sizeLine_eq];omega) (λi acc H'=>BX H H'/\Paired (D8 H') acc (List.replicate i [])) ⟨BX.refl _, .nil⟩ (λi acc H' h=>by have:=Paired.length h.2;rw[this,length_replicate];exact le_refl _) (λi acc H' hi h=>?_) (λacc H' h=>?_)
 ·obtain⟨s,hL⟩:=h
  refine⟨hi,λv H2 y=>?_⟩
  obtain⟨e1,e2⟩:=y
  subst e1 e2
  refine hs i H2 (λy H4=>BX H H4/\Paired (D8 H4) (acc ++ [y]) (List.replicate (i + 1) [])) s λt ht=>⟨s.new ht,?_⟩
  rw[replicate_succ']
  exact Paired.snoc ⟨t,[],rfl,ad, .nil⟩ (Paired.mono (λ_ _ z=>z.keep (BX.Cq ((BX.refl H2).new ht))) hL)
 ·obtain⟨s,hL⟩:=h
  exact⟨le_refl n,λD hD=>hq D acc H' s hD hL⟩
theorem gk{fs:Fs}(hy:H y=some (.ins C d fs))(h:Ck K H a xs):Ck K (upd H y o) a xs:=by
 rcases h with h | h
 ·refine .inl ?_
  rcases h with h | ⟨u,h⟩
  ·exact .inl (by rw[ah (b9 h hy (by intro z;cases z))];exact h)
  ·exact .inr ⟨u,by rw[ah (b9 h hy (by intro z;cases z))];exact h⟩
 ·exact .inr h
theorem xL{fs:Fs}(hy:H y=some (.ins C d fs))(h:Cb K H a xs):Cb K (upd H y o) a xs:=by
 rcases h with h | h
 ·refine .inl ?_
  rcases h with h | ⟨u,h⟩
  ·exact .inl (by rw[ah (b9 h hy (by intro z;cases z))];exact h)
  ·exact .inr ⟨u,by rw[ah (b9 h hy (by intro z;cases z))];exact h⟩
 ·exact .inr h
inductive jh(K:Frag)(c:Cs)(TC:Addr)(J:TJ)(ys:Ys)(vs:List V)(H:Hp)(Q:VK)(E:XK):Prop
 | mk (y dy tb lx Cr lt:Addr) (n:Nat) (Cf:List V) (ps:List (Int × Int)) (wy:Wf) (rv:V) (Cv:List V) (_:vs=[.ref y, .ref tb,rv]) (_:H y=some (.ins ys.Ca dy [])) (_:CK c TC J H tb lx Cr lt n Cf ps wy) (_:(∀b ∈ ys.ex,∃xs,H b=some (.lst xs))) (_:((rv = .Cp/\Cv=List.replicate ps.length (.int 1))∨(∃ra,rv = .ref ra/\Sq K H ra Cv/\Cv.length <= 1000/\(∀v ∈ Cv,uo v)/\(rR ps.length Cv=false->False)))) (_:(rR ps.length Cv=true->∀(ro la le li dn:Addr)(H':Hp),Cn [y] H H'->H la=none->H le=none->H li=none->H dn=none->Cg K ys H' y dy tb ro la le li dn (Y0 Cv n)->Q .Cp H'))
noncomputable def NU(s:Stmt):Scope:=match s with
 | .Assign _ (.ListComp _ _ sc _) _=>sc
 | _=>zQ0
theorem j3(h:l9 v a b=true):∃r,v = .int r:=by
 cases v<;>first | exact⟨_,rfl⟩ | cases h
theorem Ue:au ["self", "table", "rooms"] ["self", "table", "rooms"] (ai iO):=L2.C3
theorem NV:CP ["self", "table", "rooms"] (ai iO) (NU ((aI iO).getD 2 (.Pass ⟨0,0,0,0⟩))) [] []:=L2.Dp
theorem NW:CP ["self", "table", "rooms"] (ai iO) (NU ((aI iO).getD 4 (.Pass ⟨0,0,0,0⟩))) [] []:=L2.Dp
theorem NX:(["place"]:List Str).Nodup:=by decide +kernel
theorem AY(F:G5 K "__init__" "Yard.__init__" iO f fd)(T:Txt mg)(L:lc K c)(Y:iL K ys)(W:Wy K TC Ra Rb J)
  (mr:mg "rooms_of" = some (.ref fr)) (kr:keepIn K (.ref fr)=true) (br:Binds K dr ["land", "rooms"] []) (Gr:BY P w K mg base ay 3 fr dr ["land", "rooms"] (r6 K c))
  (ml:mg "Lane" = some (.ref ys.C0)) (Ml:Mk K ys.C0 fl) (bl:Binds K dl ["self", "room"] []) (Gl:BY P w K mg base ay 1 fl dl ["self", "room"] (uU ys.C0)) :
  BY P w K mg base ay 4 f fd ["self", "table", "rooms"] (jh K c TC J ys):=by
 refine F.ok Ue (λ_ _ _ _ h=>?_) (λ_ _ _ s H _ Q E hr h=>?_)
 ·obtain⟨y,dy,tb,lx,Cr,lt,n,Cf,ps,wy,rv,Cv,rfl,_⟩:=h
  rfl
 ·obtain⟨y,dy,tb,lx,Cr,lt,n,Cf,ps,wy,rv,Cv,rfl,hy,hT,hex,hrv,q⟩:=h
  have Fz:∀b ∈ ys.ex,b ∉ [y]:=λb hb z=>by obtain⟨xs,hz⟩:=hex b hb;rw[mem_singleton.mp z,hy]at hz;cases hz
  have CY:Cj 2 _:=hr.mono (by decide)
  refine⟨_,ae (b7 (pv 0) (pv 1) rfl)
   (ae (b7 (pv 0) (gr (aq Gr hr rfl mr kr br .nil ap (aa (al (pv 1) rfl) (aa (pv 2) ac)))) rfl)
   (ae (b7 (pv 0) (aT (own:=["room"]) (capN:=[]) (cap:=[]) NV rfl (iR (al (pv 0) rfl)) (λC s' H' fp=>⟨aw (i:=0) NO rfl (Or.inl rfl),bd,c8 Ml Gl CY rfl ml bl .nil ap (aa (pv 0) ac)⟩)) rfl)
   (ae (b7 (pv 0) (aU ac) rfl)
   (ae (b7 (pv 0) (aT (own:=["place"]) (capN:=[]) (cap:=[]) NW rfl (aO rfl T.range (aa (al (al (pv 1) rfl) rfl) ac)) (λC s' H' fp=>⟨aw (i:=0) NX rfl (Or.inl rfl),bd,bF ac⟩)) rfl)
   (af (b7 (pv 0) (aU ac) rfl)))))),?_⟩
  have hm40:=hT.C6
  have HA:=hT.EZ
  obtain⟨EE,fst,E7,C4,_⟩:=hT.i
  have kp:∀{H':Hp},Cn [y] H H'->CD H H':=λo=>o.Jy λb hb=>by rw[mem_singleton.mp hb];exact⟨_,hy,id⟩
  have Ug:tb ≠ y:=b9 E7 hy (λz=>by injection z with _ _ z3;rw[z3]at C4;cases C4)
  refine⟨_,rfl,_,rfl,y,ys.Ca,dy,_,rfl,hy,Y.cl,Y.n1,by show 0 < 1000;decide,?_⟩
  have o1:Cn [y] H (upd H y (.ins ys.Ca dy (aS "table" (.ref tb) []))):=λb o nb e=>by rw[ah (λz=>nb (by rw[z];exact mem_singleton.mpr rfl))];exact e
  have g1:(upd H y (.ins ys.Ca dy (aS "table" (.ref tb) []))) y=some (.ins ys.Ca dy [("table", .ref tb)]):=ad
  have Y3:∀ra,Sq K H ra Cv->Sq K (upd H y (.ins ys.Ca dy (aS "table" (.ref tb) []))) ra Cv:=λra h=>h.elim (λh => .inl (xL hy h)) λh => .inr (gk hy h)
  show _
  generalize upd H y (.ins ys.Ca dy (aS "table" (.ref tb) []))=A1 at o1 g1 Y3 ⊢
  have hT1:=hT.keep W (kp o1)
  have LH:∀{Ha Hb:Hp}{o:HO},Cn [y] Ha Hb->Cn [y] Ha (upd Hb y o):=λ{Ha Hb o} h b u nb e=>by rw[ah (λz=>nb (by rw[z];exact mem_singleton.mpr rfl))];exact h b u nb e
  refine⟨λv A2=>∃ro,v = .ref ro/\BX A1 A2/\Ck K A2 ro Cv/\rR ps.length Cv=true,?_,?_⟩
  ·refine⟨_,rfl,tb,TC,EE,fst,_,rfl,o1 _ _ (λz=>Ug (mem_singleton.mp z)) E7,W.cl,W.nl,C4,_,rfl,lx,Cr,lt,(n:Int),Cf,ps,rv,rfl,hT1.l,by omega,?_⟩
   rcases hrv with ⟨rfl,rfl⟩ | ⟨ra,rfl,hR,E6,I0,qE⟩
   ·refine .inl ⟨rfl,λt A2 s2 ht=>⟨t,rfl,s2,Ck.of ht,?_⟩⟩
    unfold rR
    rw[length_replicate,decide_eq_true rfl,Bool.true_and,all_eq_true]
    intro v hv
    rw[eq_of_mem_replicate hv];rfl
   ·have hR1:Sq K A1 ra Cv:=Y3 ra hR
    exact .inr ⟨ra,Cv,rfl,hR1,E6,I0,qE,λCi t A2 s2 ht=>⟨t,rfl,s2,ht,Ci⟩⟩
  rintro v A2 ⟨ro,rfl,s2,LG,Ci⟩
  have Dj:Cv.length=ps.length/\∀v ∈ Cv,∃r,v = .int r:=by
   unfold rR at Ci
   rw[Bool.and_eq_true,decide_eq_true_eq,all_eq_true]at Ci
   exact⟨Ci.1,λv hv=>j3 (Ci.2 v hv)⟩
  have o2:Cn [y] H A2:=o1.trans (BX.CF s2)
  have g2:=s2 _ _ g1
  refine⟨_,rfl,y,ys.Ca,dy,_,rfl,g2,Y.cl,Y.n2,by show 1 < 1000;decide,?_⟩
  have o3:=LH (o := .ins ys.Ca dy (aS "rooms" (.ref ro) [("table", .ref tb)])) o2
  have g3:(upd A2 y (.ins ys.Ca dy (aS "rooms" (.ref ro) [("table", .ref tb)]))) y=some (.ins ys.Ca dy [("table", .ref tb),("rooms", .ref ro)]):=ad
  have IC:Ck K (upd A2 y (.ins ys.Ca dy (aS "rooms" (.ref ro) [("table", .ref tb)]))) ro Cv:=gk g2 LG
  show _
  generalize upd A2 y (.ins ys.Ca dy (aS "rooms" (.ref ro) [("table", .ref tb)]))=A3 at o3 g3 IC ⊢
  have Uh:∀b ∈ ys.ex,∃o,A3 b=some o:=λb hb=>let ⟨xs,hz⟩:=hex b hb; ⟨_,o3 b _ (Fz b hb) hz⟩
  refine⟨_,rfl,y,ys.Ca,dy,_,_,rfl,g3,Y.cl,Y.n2,rfl,ro,rfl,⟨_,IC⟩,?_⟩
  refine qV (C:=ys.C0) (by rw[sizeLine_eq];omega) IC Dj.2 (λr B N sB hN=>?_) (λla Ct A4 s4 Dr He=>?_)
  ·refine⟨_,rfl,λx dx nx GA Fz=>⟨x,dx,r,rfl,ad,λpa B2 G7 off hL=>⟨rfl,?_⟩⟩⟩
   have Fq:B pa=none:=by
    by_cases e1:pa=x
    ·rw[e1,ad]at G7;cases G7
    ·by_cases e2:pa=dx
     ·rw[e2,ah Fz,ad]at G7;cases G7
     ·rw[ah e1,ah e2]at G7;exact G7
   refine hN x dx pa B2 nx Fq (λb o e=>off b o (aj e nx) ?_) hL
   rw[ah (aj e nx),ah (aj e GA)]
   exact e
  have o4:Cn [y] H A4:=o3.trans (BX.CF s4)
  have g4:=s4 _ _ g3
  have Jz:la ≠ y:=Ne.symm (aj g4 Dr)
  have la0:H la=none:=by
   cases e:H la with
   | none=>rfl
   | some u=>rw[o4 _ _ (λz=>Jz (mem_singleton.mp z)) e]at Dr;cases Dr
  have Y4:Paired (CJ y (la :: ys.ex) (upd A4 la (.lst Ct)) ys.C0) Ct (Cv.map tR):=Paired.mono (λ_ _ z=>(z.NR g3 Uh).new Dr) He
  have o5:Cn [y] H (upd A4 la (.lst Ct)):=o4.trans (BX.CF ((BX.refl A4).new Dr))
  have g5:(upd A4 la (.lst Ct)) y=some (.ins ys.Ca dy [("table", .ref tb),("rooms", .ref ro)]):=by rw[ah (Ne.symm Jz)];exact g4
  have NY:(upd A4 la (.lst Ct)) la=some (.lst Ct):=ad
  have NZ:Ck K (upd A4 la (.lst Ct)) ro Cv:=bD ((BX.refl A4).new Dr) (bD s4 IC)
  refine⟨_,rfl,y,ys.Ca,dy,_,rfl,g5,Y.cl,Y.n3,by show 2 < 1000;decide,?_⟩
  generalize upd A4 la (.lst Ct)=A5 at Y4 o5 g5 NY NZ ⊢
  have Y5:Paired (CJ y (la :: ys.ex) (upd A5 y (.ins ys.Ca dy (aS "lanes" (.ref la) [("table", .ref tb),("rooms", .ref ro)]))) ys.C0) Ct (Cv.map tR):=Paired.mono (λ_ _ z=>z.upd) Y4
  have o6:=LH (o := .ins ys.Ca dy (aS "lanes" (.ref la) [("table", .ref tb),("rooms", .ref ro)])) o5
  have g6:(upd A5 y (.ins ys.Ca dy (aS "lanes" (.ref la) [("table", .ref tb),("rooms", .ref ro)]))) y=some (.ins ys.Ca dy [("table", .ref tb),("rooms", .ref ro),("lanes", .ref la)]):=ad
  have Kw:(upd A5 y (.ins ys.Ca dy (aS "lanes" (.ref la) [("table", .ref tb),("rooms", .ref ro)]))) la=some (.lst Ct):=by rw[ah Jz];exact NY
  have Oa:=gk (o := .ins ys.Ca dy (aS "lanes" (.ref la) [("table", .ref tb),("rooms", .ref ro)])) g5 NZ
  generalize upd A5 y (.ins ys.Ca dy (aS "lanes" (.ref la) [("table", .ref tb),("rooms", .ref ro)]))=A6 at Y5 o6 g6 Kw Oa ⊢
  refine⟨zero_le _,λle hle=>?_⟩
  have Kx:le ≠ y:=Ne.symm (aj g6 hle)
  have J0:la ≠ le:=aj Kw hle
  have le0:H le=none:=by
   cases e:H le with
   | none=>rfl
   | some u=>rw[o6 _ _ (λz=>Kx (mem_singleton.mp z)) e]at hle;cases hle
  have Y6:Paired (CJ y (le :: la :: ys.ex) (upd A6 le (.lst [])) ys.C0) Ct (Cv.map tR):=Paired.mono (λ_ _ z=>z.new hle) Y5
  have o7:Cn [y] H (upd A6 le (.lst [])):=o6.trans (BX.CF ((BX.refl A6).new hle))
  have g7:(upd A6 le (.lst [])) y=some (.ins ys.Ca dy [("table", .ref tb),("rooms", .ref ro),("lanes", .ref la)]):=by rw[ah (Ne.symm Kx)];exact g6
  have Ob:(upd A6 le (.lst [])) la=some (.lst Ct):=by rw[ah J0];exact Kw
  have Oc:(upd A6 le (.lst [])) le=some (.lst []):=ad
  have Od:Ck K (upd A6 le (.lst [])) ro Cv:=bD ((BX.refl A6).new hle) Oa
  refine⟨_,rfl,y,ys.Ca,dy,_,rfl,g7,Y.cl,Y.n4,by show 3 < 1000;decide,?_⟩
  generalize upd A6 le (.lst [])=A7 at Y6 o7 g7 Ob Oc Od ⊢
  have Y7:Paired (CJ y (le :: la :: ys.ex) (upd A7 y (.ins ys.Ca dy (aS "letters" (.ref le) [("table", .ref tb),("rooms", .ref ro),("lanes", .ref la)]))) ys.C0) Ct (Cv.map tR):=Paired.mono (λ_ _ z=>z.upd) Y6
  have o8:=LH (o := .ins ys.Ca dy (aS "letters" (.ref le) [("table", .ref tb),("rooms", .ref ro),("lanes", .ref la)])) o7
  have g8:(upd A7 y (.ins ys.Ca dy (aS "letters" (.ref le) [("table", .ref tb),("rooms", .ref ro),("lanes", .ref la)]))) y=some (.ins ys.Ca dy [("table", .ref tb),("rooms", .ref ro),("lanes", .ref la),("letters", .ref le)]):=ad
  have Ky:(upd A7 y (.ins ys.Ca dy (aS "letters" (.ref le) [("table", .ref tb),("rooms", .ref ro),("lanes", .ref la)]))) la=some (.lst Ct):=by rw[ah Jz];exact Ob
  have Kz:(upd A7 y (.ins ys.Ca dy (aS "letters" (.ref le) [("table", .ref tb),("rooms", .ref ro),("lanes", .ref la)]))) le=some (.lst []):=by rw[ah Kx];exact Oc
  have Oe:=gk (o := .ins ys.Ca dy (aS "letters" (.ref le) [("table", .ref tb),("rooms", .ref ro),("lanes", .ref la)])) g7 Od
  generalize upd A7 y (.ins ys.Ca dy (aS "letters" (.ref le) [("table", .ref tb),("rooms", .ref ro),("lanes", .ref la)]))=A8 at Y7 o8 g8 Ky Kz Oe ⊢
  have hT8:=hT.keep W (kp o8)
  refine⟨_,rfl,tb,TC,EE,fst,_,rfl,o8 _ _ (λz=>Ug (mem_singleton.mp z)) E7,W.cl,W.nl,C4,lx,c.land,Cr,_,_,rfl,hT8.l.1,L.cl,L.np,rfl,(n:Int),rfl,by omega,by omega,?_⟩
  rw[toNat_natCast]
  refine uj (by omega) (λi B N sB hN=>⟨zero_le _,λt ht=>hN t ht⟩) (λli GC A9 s9 Ew hLi=>?_)
  have g9:=s9 _ _ g8
  have o9:Cn [y] H A9:=o8.trans (BX.CF s9)
  have Og:li ≠ y:=Ne.symm (aj g9 Ew)
  have Oh:la ≠ li:=aj (s9 _ _ Ky) Ew
  have Oi:le ≠ li:=aj (s9 _ _ Kz) Ew
  have li0:H li=none:=by
   cases e:H li with
   | none=>rfl
   | some u=>rw[o9 _ _ (λz=>Og (mem_singleton.mp z)) e]at Ew;cases Ew
  have LI:=(BX.refl A9).new (o := .lst GC) Ew
  have Oj:Paired (CJ y (li :: le :: la :: ys.ex) (upd A9 li (.lst GC)) ys.C0) Ct (Cv.map tR):=Paired.mono (λ_ _ z=>(z.same s9).new Ew) Y7
  have J4:Paired (D8 (upd A9 li (.lst GC))) GC (List.replicate n []):=Paired.mono (λ_ _ z=>z.keep (BX.Cq LI)) hLi
  have J5:(upd A9 li (.lst GC)) li=some (.lst GC):=ad
  have Y8:Cn [y] H (upd A9 li (.lst GC)):=o9.trans (BX.CF LI)
  have Rc:=LI _ _ g9
  have J6:=LI _ _ (s9 _ _ Ky)
  have J7:=LI _ _ (s9 _ _ Kz)
  have J8:=bD LI (bD s9 Oe)
  refine⟨_,rfl,y,ys.Ca,dy,_,rfl,Rc,Y.cl,Y.n5,by show 4 < 1000;decide,?_⟩
  generalize upd A9 li (.lst GC)=K0 at Oj J4 J5 Y8 Rc J6 J7 J8 ⊢
  have Ol:∀{B:Hp}{o:HO}{C d:Addr}{fs:Fs}{v:V}{qs:List (Int × Int)},B y=some (.ins C d fs)->D8 B v qs->D8 (upd B y o) v qs:=λ{B o C d fs v qs} hB h=>by
   obtain⟨t,ws,e,h1,h2⟩:=h
   exact⟨t,ws,e,by rw[ah (b9 h1 hB (by intro z;cases z))];exact h1,Cw.imp (λ_ _ Cc=>by obtain⟨t',e',q'⟩:=Cc;exact⟨t',e',by rw[ah (b9 q' hB (by intro z;cases z))];exact q'⟩) h2⟩
  have Om:Paired (CJ y (li :: le :: la :: ys.ex) (upd K0 y (.ins ys.Ca dy (aS "lies" (.ref li) [("table", .ref tb),("rooms", .ref ro),("lanes", .ref la),("letters", .ref le)]))) ys.C0) Ct (Cv.map tR):=Paired.mono (λ_ _ z=>z.upd) Oj
  have J9:Paired (D8 (upd K0 y (.ins ys.Ca dy (aS "lies" (.ref li) [("table", .ref tb),("rooms", .ref ro),("lanes", .ref la),("letters", .ref le)])))) GC (List.replicate n []):=Paired.mono (λ_ _ z=>Ol Rc z) J4
  have Rf:=LH (o := .ins ys.Ca dy (aS "lies" (.ref li) [("table", .ref tb),("rooms", .ref ro),("lanes", .ref la),("letters", .ref le)])) Y8
  have Ui:(upd K0 y (.ins ys.Ca dy (aS "lies" (.ref li) [("table", .ref tb),("rooms", .ref ro),("lanes", .ref la),("letters", .ref le)]))) y=some (.ins ys.Ca dy [("table", .ref tb),("rooms", .ref ro),("lanes", .ref la),("letters", .ref le),("lies", .ref li)]):=ad
  have HB:(upd K0 y (.ins ys.Ca dy (aS "lies" (.ref li) [("table", .ref tb),("rooms", .ref ro),("lanes", .ref la),("letters", .ref le)]))) la=some (.lst Ct):=by rw[ah Jz];exact J6
  have HC:(upd K0 y (.ins ys.Ca dy (aS "lies" (.ref li) [("table", .ref tb),("rooms", .ref ro),("lanes", .ref la),("letters", .ref le)]))) le=some (.lst []):=by rw[ah Kx];exact J7
  have HD:(upd K0 y (.ins ys.Ca dy (aS "lies" (.ref li) [("table", .ref tb),("rooms", .ref ro),("lanes", .ref la),("letters", .ref le)]))) li=some (.lst GC):=by rw[ah Og];exact J5
  have JA:=gk (o := .ins ys.Ca dy (aS "lies" (.ref li) [("table", .ref tb),("rooms", .ref ro),("lanes", .ref la),("letters", .ref le)])) Rc J8
  generalize upd K0 y (.ins ys.Ca dy (aS "lies" (.ref li) [("table", .ref tb),("rooms", .ref ro),("lanes", .ref la),("letters", .ref le)]))=A11 at Om J9 Rf Ui HB HC HD JA ⊢
  refine⟨zero_le _,λdn DY=>?_⟩
  have Rg:dn ≠ y:=Ne.symm (aj Ui DY)
  have Oo:la ≠ dn:=aj HB DY
  have Oq:le ≠ dn:=aj HC DY
  have Ot:li ≠ dn:=aj HD DY
  have dn0:H dn=none:=by
   cases e:H dn with
   | none=>rfl
   | some u=>rw[Rf _ _ (λz=>Rg (mem_singleton.mp z)) e]at DY;cases DY
  have JB:=(BX.refl A11).new (o := .lst []) DY
  have Uj:=JB _ _ Ui
  refine⟨_,rfl,y,ys.Ca,dy,_,rfl,Uj,Y.cl,Y.n6,by show 5 < 1000;decide,?_⟩
  refine q Ci ro la le li dn _ (LH (Rf.trans (BX.CF JB))) la0 le0 li0 dn0 ⟨ad,gk Uj (bD JB JA),⟨Ct,by rw[ah Jz];exact JB _ _ HB,?_⟩,⟨[],by rw[ah Kx];exact JB _ _ HC, .nil⟩,⟨GC,by rw[ah Og];exact JB _ _ HD,Paired.mono (λ_ _ z=>Ol Uj (z.keep (BX.Cq JB))) J9⟩,⟨[],by rw[ah Rg];exact ad, .nil⟩,?_,(λb hb=>let ⟨xs,hz⟩:=hex b hb; ⟨xs,(LH (Rf.trans (BX.CF JB))) b _ (Fz b hb) hz⟩)⟩
  ·refine Paired.mono (λ_ _ z=>((z.new DY).upd).NS λa ha=>?_) Om
   simp only[mem_cons]at ha ⊢
   rcases ha with rfl | rfl | rfl | rfl | h
   ·exact .inr (.inr (.inr (.inl rfl)))
   ·exact .inr (.inr (.inl rfl))
   ·exact .inr (.inl rfl)
   ·exact .inl rfl
   ·exact .inr (.inr (.inr (.inr h)))
  ·simp only[nodup_cons,mem_cons,not_mem_nil,or_false,not_or,not_false_eq_true,and_true,nodup_nil]
   exact⟨⟨J0,Oh,Oo⟩,⟨Oi,Oq⟩,Ot⟩
theorem Cg.off(h:Cg K ys H y dy tb ro la le li dn s)(o:Cn (la :: le :: li :: dn :: ys.ex) H H'):H' y=some (.ins ys.Ca dy (QZ tb ro la le li dn))/\Ck K H' ro s.rooms/\(∀vs ss,Paired (Ej H ys.C0 (la :: le :: li :: dn :: ys.ex)) vs ss->Paired (Ej H' ys.C0 (la :: le :: li :: dn :: ys.ex)) vs ss)/\(∀vs ss,Paired (ET H ys.BZ (la :: le :: li :: dn :: ys.ex)) vs ss->Paired (ET H' ys.BZ (la :: le :: li :: dn :: ys.ex)) vs ss)/\(∀vs ss,Paired (D8 H) vs ss->Paired (D8 H') vs ss)/\∀vs ss,Paired (D6 H) vs ss->Paired (D6 H') vs ss:=by
 have hx:=h.FR
 have k:=o.Cq hx
 refine⟨k _ _ h.ins True.intro,?_,λvs ss=>Paired.mono λ_ _ z=>z.CF hx o,λvs ss=>Paired.mono λ_ _ z=>z.CF hx o,λvs ss=>Paired.mono λ_ _ z=>z.keep k,λvs ss=>Paired.mono λ_ _ z=>z.keep k⟩
 rcases h.LG with r | r
 ·refine .inl ?_
  rcases r with r | ⟨u,r⟩
  ·exact .inl (k _ _ r True.intro)
  ·exact .inr ⟨u,k _ _ r True.intro⟩
 ·exact .inr r
theorem cS(ha:a ∈ ex):Cn ex H (upd H a o):=λb u nb e=>by rw[ah (λz=>nb (by rw[z];exact ha))];exact e
theorem sk(h:∃xs,H b=some (.lst xs)):∃xs,(upd H x (.lst zs)) b=some (.lst xs):=by
 by_cases e:b=x
 ·exact⟨zs,by rw[e,ad]⟩
 ·obtain⟨xs,hz⟩:=h
  exact⟨xs,by rw[ah e];exact hz⟩
theorem Cg.Ov(h:Cg K ys H y dy tb ro la le li dn s)(hv:H le=some (.lst vs))(hL:ET H ys.BZ (la :: le :: li :: dn :: ys.ex) v t):Cg K ys (upd H le (.lst (vs ++ [v]))) y dy tb ro la le li dn { s with U:=s.U ++ [t] }:=by
 obtain⟨h1,h2,f1,f2,f3,f4⟩:=h.off (cS (a:=le) (o := .lst (vs ++ [v])) (by simp))
 obtain⟨v1,a1,p1⟩:=h.Dr
 obtain⟨v2,a2,p2⟩:=h.hle
 obtain⟨v3,a3,p3⟩:=h.Ew
 obtain⟨v4,a4,p4⟩:=h.DY
 rw[hv]at a2
 cases a2
 have ne:=h.ne
 simp only[nodup_cons,mem_cons,not_mem_nil,or_false,not_or,not_false_eq_true,and_true,nodup_nil]at ne
 have Uk:Paired (ET (upd H le (.lst (vs ++ [v]))) ys.BZ (la :: le :: li :: dn :: ys.ex)) [v] [t]:=f2 [v] [t] (.cons hL .nil)
 exact⟨h1,h2,⟨v1,by rw[ah ne.1.1];exact a1,f1 _ _ p1⟩,⟨vs ++ [v],ad,Paired.snoc (by cases Uk with | cons z _=>exact z) (f2 _ _ p2)⟩,⟨v3,by rw[ah (Ne.symm ne.2.1.1)];exact a3,f3 _ _ p3⟩,⟨v4,by rw[ah (Ne.symm ne.2.1.2)];exact a4,f4 _ _ p4⟩,h.ne,λb hb=>sk (h.hex b hb)⟩
theorem Cg.JC(h:Cg K ys H y dy tb ro la le li dn s)(hv:H dn=some (.lst vs))(hL:D6 H v t):Cg K ys (upd H dn (.lst (vs ++ [v]))) y dy tb ro la le li dn { s with done:=s.done ++ [t] }:=by
 obtain⟨h1,h2,f1,f2,f3,f4⟩:=h.off (cS (a:=dn) (o := .lst (vs ++ [v])) (by simp))
 obtain⟨v1,a1,p1⟩:=h.Dr
 obtain⟨v2,a2,p2⟩:=h.hle
 obtain⟨v3,a3,p3⟩:=h.Ew
 obtain⟨v4,a4,p4⟩:=h.DY
 rw[hv]at a4
 cases a4
 have ne:=h.ne
 simp only[nodup_cons,mem_cons,not_mem_nil,or_false,not_or,not_false_eq_true,and_true,nodup_nil]at ne
 have Uk:Paired (D6 (upd H dn (.lst (vs ++ [v])))) [v] [t]:=f4 [v] [t] (.cons hL .nil)
 exact⟨h1,h2,⟨v1,by rw[ah ne.1.2.2];exact a1,f1 _ _ p1⟩,⟨v2,by rw[ah ne.2.1.2];exact a2,f2 _ _ p2⟩,⟨v3,by rw[ah ne.2.2];exact a3,f3 _ _ p3⟩,⟨vs ++ [v],ad,Paired.snoc (by cases Uk with | cons z _=>exact z) (f4 _ _ p4)⟩,h.ne,λb hb=>sk (h.hex b hb)⟩
inductive Pd
 | place | length | word | way | full | good
noncomputable def mS(n:Nat)(wy:Wf)(m:Nat)(sv gv lv wv:V):Pd :=
 if (l9 sv 0 ((n:Int) - 1) && l9 gv 0 ((n:Int) - 1))=false then .place else if l9 lv 1 60=false then .length else if zK wv=false then .word
 else if vI sv=vI gv∨wy (vI sv).toNat (vI gv).toNat none=[] then .way else if 60 <= m then .full else .good
noncomputable def k9(s:YS)(a b l u:Int):YS:={ s with U:=s.U ++ [⟨a,b,l,u,0,[]⟩],done:=s.done ++ [[.str "post", .int a, .int b, .int l, .int u]] }
inductive m6(K:Frag)(c:Cs)(TC:Addr)(J:TJ)(ys:Ys)(vs:List V)(H:Hp)(Q:VK)(E:XK):Prop
 | mk (y dy tb ro la le li dn lx Cr lt:Addr) (n:Nat) (Cf:List V) (ps:List (Int × Int)) (wy:Wf) (s:YS) (sv gv lv wv:V) (_:vs=[.ref y,sv,gv,lv,wv]) (_:Cg K ys H y dy tb ro la le li dn s) (_:CK c TC J H tb lx Cr lt n Cf ps wy) (_:uo sv) (_:uo gv) (_:uo lv) (_:uo wv) (_:s.U.length <= 900) (_:s.done.length <= 10000) (_:(mS n wy s.U.length sv gv lv wv = .place->False)) (_:(mS n wy s.U.length sv gv lv wv = .length->False)) (_:(mS n wy s.U.length sv gv lv wv = .word->False)) (_:(mS n wy s.U.length sv gv lv wv = .way->False)) (_:(mS n wy s.U.length sv gv lv wv = .full->False)) (_:(mS n wy s.U.length sv gv lv wv = .good->∀H',Cn [le,dn] H H'->Cg K ys H' y dy tb ro la le li dn (k9 s (vI sv) (vI gv) (vI lv) (vI wv))->Q (.int s.U.length) H'))
abbrev NPo:List Str:=["self", "start", "goal", "length", "word", "last_place"]
abbrev BS:List Str:=["self", "start", "goal", "length", "word"]
theorem Ow:au NPo BS (ai i0):=L2.C3
theorem yq(F:G5 K "post" "Yard.post" i0 f fd)(T:Txt mg)(L:lc K c)(Y:iL K ys)(W:Wy K TC Ra Rb J)(K1:BY P w K mg base ay 3 Ra Rb ["self", "place", "goal", "came"] (cT J))
  (mw:mg "is_within" = some (.ref fw)) (kw:keepIn K (.ref fw)=true) (bw:Binds K dw ["value", "least", "most"] []) (Gw:BY P w K mg base ay 2 fw dw ["value", "least", "most"] gm)
  (mwo:mg "is_word" = some (.ref Ul)) (kwo:keepIn K (.ref Ul)=true) (bwo:Binds K Y9 ["word"] []) (Um:BY P w K mg base ay 2 Ul Y9 ["word"] uI)
  (ml:mg "Letter" = some (.ref ys.BZ)) (Ml:Mk K ys.BZ fl) (bl:Binds K dl ["self", "start", "goal", "length", "word"] []) (Gl:BY P w K mg base ay 1 fl dl ["self", "start", "goal", "length", "word"] (uT ys.BZ))
  (mL:mg "MOST_LENGTH" = some (.int 60 t1)) (mM:mg "MOST_LETTERS" = some (.int 60 t2)) :
  BY P w K mg base ay 4 f fd BS (m6 K c TC J ys):=by
 refine F.ok Ow (λ_ _ _ _ h=>?_) (λ_ _ _ s H _ Q E hr h=>?_)
 ·obtain⟨y,dy,tb,ro,la,le,li,dn,lx,Cr,lt,n,Cf,ps,wy,s,sv,gv,lv,wv,rfl,_⟩:=h
  rfl
 ·obtain⟨y,dy,tb,ro,la,le,li,dn,lx,Cr,lt,n,Cf,ps,wy,st,sv,gv,lv,wv,rfl,hY,hT,cs,cg,cl,cw,hl9,hd9,e1,e2,e3,e4,e5,q⟩:=h
  have CY:Cj 2 _:=hr.mono (by decide)
  refine⟨_,ae (aD (i:=5) Ow.nd rfl (Or.inl rfl) (aJ fz (al (al (al (pv 0) rfl) rfl) rfl) ak))
   (ae (aR (PW.pt (fE (bO (bJ (aq Gw CY rfl mw kw bw .nil ap (aa (pv 1) (aa ak (aa (pv 5) ac)))))) (dP (bO (bJ (aq Gw CY rfl mw kw bw .nil ap (aa (pv 2) (aa ak (aa (pv 5) ac)))))))))
    (af bA) aF)
   (ae (aR (bO (bJ (aq Gw CY rfl mw kw bw .nil ap (aa (pv 3) (aa ak (aa (dH (v := .int 60) rfl mL ⟨_,rfl⟩) ac))))))
    (af bA) aF)
   (ae (aR (bO (bJ (aq Um CY rfl mwo kwo bwo .nil ap (aa (pv 4) ac))))
    (af bA) aF)
   (ae (aR (j0 (PW.pt (fE (ax bz (pv 1) (pv 2) (aA _)) (dP (bO (fR (aC (al (pv 0) rfl) W.cl W.m K1 hr W.b .nil ap (aa (pv 1) (aa (pv 2) (aa bP ac)))) (λ_=>rfl)))))))
    (af bA) aF)
   (ae (aR (ax zJ (aE aB rfl T.len PySem.boot_len (aa (al (pv 0) rfl) ac)) (dH (v := .int 60) rfl mM ⟨_,rfl⟩) (aA _))
    (af bA) aF)
   (ae (aP (bW plainAttrs_list PySem.F.slot_list_append PySem.F.type_list_append bQ (al (pv 0) rfl) (aa (c8 Ml Gl CY rfl ml bl .nil ap (aa (pv 1) (aa (pv 2) (aa (pv 3) (aa (pv 4) ac))))) ac)))
   (ae (aP (bW plainAttrs_list PySem.F.slot_list_append PySem.F.type_list_append bQ (al (pv 0) rfl) (aa (bF (aa b8 (aa (pv 1) (aa (pv 2) (aa (pv 3) (aa (pv 4) ac)))))) ac)))
   (af (av (aJ fz (aE aB rfl T.len PySem.boot_len (aa (al (pv 0) rfl) ac)) ak)))))))))),?_⟩
  obtain⟨EE,fst,E7,C4,Ds⟩:=hT.i
  unfold mS at e1 e2 e3 e4 e5 q
  refine⟨_,rfl,y,ys.Ca,dy,_,_,rfl,hY.ins,Y.cl,Y.n1,rfl,tb,TC,EE,fst,_,rfl,E7,W.cl,W.nl,C4,lx,c.land,Cr,_,_,rfl,hT.l.1,L.cl,L.np,rfl,_,_,rfl,rfl,?_⟩
  refine⟨_,rfl,_,rfl,sv,0,(n:Int) - 1,rfl,cs,_,rfl,?_⟩
  cases h1:l9 sv 0 ((n:Int) - 1) with
  | false =>
   exact aN (aN (e1 (by rw[h1,Bool.false_and,if_pos rfl])))
  | true =>
  refine aH ⟨_,rfl,_,rfl,gv,0,(n:Int) - 1,rfl,cg,_,rfl,?_⟩
  cases h2:l9 gv 0 ((n:Int) - 1) with
  | false =>
   exact aN (e1 (by rw[h1,h2,Bool.and_false,if_pos rfl]))
  | true =>
  rw[h1,h2,Bool.true_and,if_neg (by decide)]at e2 e3 e4 e5 q
  refine aH ⟨_,rfl,lv,1,60,rfl,cl,_,rfl,?_⟩
  cases h3:l9 lv 1 60 with
  | false =>
   exact aN (e2 (by rw[h3,if_pos rfl]))
  | true =>
  rw[h3,if_neg (by decide)]at e3 e4 e5 q
  refine aH ⟨_,rfl,wv,rfl,cw,_,rfl,?_⟩
  cases h4:zK wv with
  | false =>
   exact aN (e3 (by rw[h4,if_pos rfl]))
  | true =>
  rw[h4,if_neg (by decide)]at e4 e5 q
  refine aH ?_
  obtain⟨a,rfl⟩:=j3 h1
  obtain⟨b,rfl⟩:=j3 h2
  obtain⟨l,rfl⟩:=j3 h3
  obtain⟨u,rfl⟩:∃u,wv = .int u:=by
   cases wv<;>first | exact⟨_,rfl⟩ | cases h4
  have ha:0 <= a/\a <= (n:Int) - 1:=of_decide_eq_true h1
  have hb:0 <= b/\b <= (n:Int) - 1:=of_decide_eq_true h2
  obtain⟨a',rfl⟩:∃a':Nat,a=(a':Int):=⟨a.toNat,by omega⟩
  obtain⟨b',rfl⟩:∃b':Nat,b=(b':Int):=⟨b.toNat,by omega⟩
  have ev:∀z:Int,vI (.int z)=z:=λ_=>rfl
  rw[ev,ev,toNat_natCast,toNat_natCast]at e4 e5 q
  refine⟨λk H1=>BX H H1/\k=decide ((a':Int)=(b':Int)∨wy a' b' none=[]),?_,?_⟩
  ·refine⟨_,rfl,_,rfl,rfl,_,rfl,?_⟩
   rw[bT]
   by_cases ID:(a':Int)=(b':Int)
   ·rw[decide_eq_true ID]
    exact aN ⟨BX.refl H,by rw[decide_eq_true (Or.inl ID)]⟩
   ·rw[decide_eq_false ID]
    refine aH ⟨_,rfl,y,ys.Ca,dy,_,_,rfl,hY.ins,Y.cl,Y.n1,rfl,tb,EE,fst,rfl,E7,Ds,_,rfl,_,rfl,tb,n,wy,a',b',none,rfl,hT.j,by omega,by omega,λD H1 s1 hD gD=>⟨_, .inl ⟨_,Cb.of gD,rfl⟩,s1,?_⟩⟩
    cases hw:wy a' b' none with
    | nil=>rw[decide_eq_true (Or.inr rfl)];rfl
    | cons z zs=>rw[decide_eq_false (λz=>z.elim ID λz=>by cases z)];rfl
  rintro k H1 ⟨s1,rfl⟩
  have DG:=hY.same s1
  by_cases IE:(a':Int)=(b':Int)∨wy a' b' none=[]
  ·rw[decide_eq_true IE]
   exact aN (e4 (by rw[if_pos IE]))
  rw[decide_eq_false IE]
  rw[if_neg IE]at e5 q
  refine aH ?_
  obtain⟨Ek,Dy,pl⟩:=DG.hle
  have G8:Ek.length=st.U.length:=Paired.length pl
  refine⟨_,rfl,y,ys.Ca,dy,_,_,rfl,DG.ins,Y.cl,Y.n4,rfl,le,_,rfl, .inl (Cb.of Dy),_,_,rfl,rfl,_,rfl,?_⟩
  by_cases JD:60 <= st.U.length
  ·rw[decide_eq_true (show (60:Int) <= (Ek.length:Nat) by omega)]
   exact aN (e5 (by rw[if_pos JD]))
  rw[decide_eq_false (show ¬(60:Int) <= (Ek.length:Nat) by omega)]
  rw[if_neg JD]at q
  refine aH ?_
  refine⟨_,rfl,y,ys.Ca,dy,_,_,rfl,DG.ins,Y.cl,Y.n4,rfl, .inl ⟨rfl,_,Cb.of Dy⟩,_,rfl,_,rfl,_,rfl,_,rfl,λxl DZ nx GA Fz=>⟨xl,DZ,(a':Int),(b':Int),l,u,rfl,ad,λwa H2 G9 off HU Rh=>⟨rfl,?_⟩⟩⟩
  have F0:BX H1 H2:=λz o ez=>off z o (aj ez nx) (by rw[ah (aj ez nx),ah (aj ez GA)];exact ez)
  have Uo:H1 wa=none:=by
   by_cases z1:wa=xl
   ·rw[z1,ad]at G9;cases G9
   ·by_cases z2:wa=DZ
    ·rw[z2,ah Fz,ad]at G9;cases G9
    ·rw[ah z1,ah z2]at G9;exact G9
  have E8:=DG.same F0
  have Ox:=F0 _ _ Dy
  have hlv:ET H2 ys.BZ (la :: le :: li :: dn :: ys.ex) (.ref xl) ⟨(a':Int),(b':Int),l,u,0,[]⟩:=⟨xl,DZ,wa,rfl,HU,Rh,λz=>by obtain⟨xs,hz⟩:=DG.FR wa z;rw[Uo]at hz;cases hz⟩
  refine⟨le,_,_,rfl,rfl,Ox,by rw[sizeLine_eq];omega,?_⟩
  have Ec:=E8.Ov Ox hlv
  have o3:Cn [le,dn] H (upd H2 le (.lst (Ek ++ [.ref xl]))):=(BX.CF (s1.trans F0)).trans (cS (by simp))
  generalize upd H2 le (.lst (Ek ++ [.ref xl]))=H3 at Ec o3 ⊢
  obtain⟨Dk,JE,pd⟩:=Ec.DY
  have E4:Dk.length=st.done.length:=Paired.length pd
  refine⟨_,rfl,y,ys.Ca,dy,_,_,rfl,Ec.ins,Y.cl,Y.n6,rfl, .inl ⟨rfl,_,Cb.of JE⟩,_,rfl,_,rfl,_,rfl,_,rfl,by show 5 <= sizeLine;decide,λt ht=>?_⟩
  have K2:=(BX.refl H3).new (o := .tup [.str "post", .int (a':Int), .int (b':Int), .int l, .int u]) ht
  have YB:(upd H3 t (.tup [.str "post", .int (a':Int), .int (b':Int), .int l, .int u])) t=some (.tup [.str "post", .int (a':Int), .int (b':Int), .int l, .int u]):=ad
  generalize upd H3 t (.tup [.str "post", .int (a':Int), .int (b':Int), .int l, .int u])=H4 at K2 YB ⊢
  have HV:=Ec.same K2
  have Oy:=K2 _ _ JE
  refine⟨dn,_,_,rfl,rfl,Oy,by rw[sizeLine_eq];omega,?_⟩
  have IF:=HV.JC Oy ⟨t,rfl,YB⟩
  have o5:Cn [le,dn] H (upd H4 dn (.lst (Dk ++ [.ref t]))):=(o3.trans (BX.CF K2)).trans (cS (by simp))
  generalize upd H4 dn (.lst (Dk ++ [.ref t]))=H5 at IF o5 ⊢
  obtain⟨YC,Up,pl5⟩:=IF.hle
  have Uq:YC.length=st.U.length + 1:=by rw[Paired.length pl5,length_append];rfl
  refine⟨_,rfl,y,ys.Ca,dy,_,_,rfl,IF.ins,Y.cl,Y.n4,rfl,le,_,rfl, .inl (Cb.of Up),_,_,rfl,rfl,?_⟩
  have er:((YC.length:Nat):Int) - 1=(st.U.length:Int):=by omega
  dsimp only
  rw[er]
  exact q rfl H5 o5 IF
def Oz(K:Frag):List V->Hp->VK->Prop:=λxs H Q=>∃(p:Addr)(ys:List V),xs=[.ref p]/\(Cb K H p ys∨Ck K H p ys)/\Q (.int (ys.length:Nat)) H
inductive rC(K:Frag)(ys:Ys)(vs:List V)(H:Hp)(Q:VK)(E:XK):Prop
 | mk (y dy tb ro la le li dn:Addr) (s:YS) (k:Nat) (ln:cZ) (_:vs=[.ref y, .int k]) (_:Cg K ys H y dy tb ro la le li dn s) (_:s.lanes[k]? = some ln) (_:∀(t ql:Addr)(Cy:List V)(H':Hp),BX H H'->H ql=none->H' t=some (.tup [.int ln.r, .int ln.b,hV ln.h, .ref ql])->H' ql=some (.lst Cy)->Cw H' Cy ln.qs->Q (.ref t) H')
inductive uV(K:Frag)(ys:Ys)(vs:List V)(H:Hp)(Q:VK)(E:XK):Prop
 | mk (y dy tb ro la le li dn:Addr) (s:YS) (k:Nat) (lt:c7) (_:vs=[.ref y, .int k]) (_:Cg K ys H y dy tb ro la le li dn s) (_:s.U[k]? = some lt) (_:∀(t:Addr)(H':Hp),BX H H'->H' t=some (.tup [.int lt.start, .int lt.goal, .int lt.len, .int lt.word])->Q (.ref t) H')
inductive uJ(K:Frag)(ys:Ys)(vs:List V)(H:Hp)(Q:VK)(E:XK):Prop
 | mk (y dy tb ro la le li dn:Addr) (s:YS) (k:Nat) (lt:c7) (_:vs=[.ref y, .int k]) (_:Cg K ys H y dy tb ro la le li dn s) (_:s.U[k]? = some lt) (_:∀(t:Addr)(H':Hp),BX H H'->H t=none->H' t=some (.lst (nV lt.way))->Q (.ref t) H')
inductive nS(K:Frag)(ys:Ys)(vs:List V)(H:Hp)(Q:VK)(E:XK):Prop
 | mk (y dy tb ro la le li dn:Addr) (s:YS) (_:vs=[.ref y]) (_:Cg K ys H y dy tb ro la le li dn s) (_:Q (.int s.U.length) H)
inductive jR(K:Frag)(ys:Ys)(vs:List V)(H:Hp)(Q:VK)(E:XK):Prop
 | mk (y dy tb ro la le li dn:Addr) (s:YS) (_:vs=[.ref y]) (_:Cg K ys H y dy tb ro la le li dn s) (_:∀(t:Addr)(vs:List V)(H':Hp),BX H H'->H t=none->H' t=some (.lst vs)->Paired (D6 H') vs s.done->Q (.ref t) H')
theorem Ur:au ["self", "lane"] ["self", "lane"] (ai qj):=L2.C3
theorem wk(F:C2 K "lane_told" "Yard.lane_told" qj f fd)(Y:iL K ys)(mt:bC K ys.C0 "told" ft)(bt:Binds K dt ["self"] [])(Gt:BY P w K mg base ay 1 ft dt ["self"] (zB ys.C0)) :
  BY P w K mg base ay 2 f fd ["self", "lane"] (rC K ys):=by
 refine F.ok Ur (λ_ _ _ _ h=>?_) (λ_ _ _ s H _ Q E hr h=>?_)
 ·obtain⟨y,dy,tb,ro,la,le,li,dn,st,k,ln,rfl,_⟩:=h
  rfl
 ·obtain⟨y,dy,tb,ro,la,le,li,dn,st,k,ln,rfl,hY,hk,q⟩:=h
  refine⟨_,af (av (b6 (az aK (al (pv 0) rfl) (pv 1) (λ_ _=>rfl)) Y.L.cl mt Gt hr bt .nil ap)),?_⟩
  obtain⟨Ct,CZ,pl⟩:=hY.Dr
  obtain⟨v,hv,x,dx,pa,Cy,rfl,hL,_⟩:=Paired.at2 pl hk
  refine⟨_,rfl,y,ys.Ca,dy,_,_,rfl,hY.ins,Y.cl,Y.n3,rfl,_,rfl,la,Ct,(k:Int),_,rfl,rfl,Cb.of CZ,ao hv,x,dx,_,rfl,hL.ins,rfl,?_⟩
  exact⟨x,dx,pa,ln.r,ln.b,ln.h,Cy,ln.qs,rfl,hL,λt ql H' s' Jx gt Us=>q t ql Cy H' s' Jx gt Us (Cw.same s' hL.Dq)⟩
theorem O0:au ["self", "number", "letter"] ["self", "number"] (ai vq):=L2.C3
theorem y3(F:C2 K "letter_told" "Yard.letter_told" vq f fd)(Y:iL K ys):BY P w K mg base ay 1 f fd ["self", "number"] (uV K ys):=by
 refine F.ok O0 (λ_ _ _ _ h=>?_) (λ_ _ _ s H _ Q E hr h=>?_)
 ·obtain⟨y,dy,tb,ro,la,le,li,dn,st,k,ln,rfl,_⟩:=h
  rfl
 ·obtain⟨y,dy,tb,ro,la,le,li,dn,st,k,lt,rfl,hY,hk,q⟩:=h
  refine⟨_,ae (aD (i:=2) O0.nd rfl (Or.inl rfl) (az aK (al (pv 0) rfl) (pv 1) (λ_ _=>rfl))) (af (av (bF (aa (al (pv 2) rfl) (aa (al (pv 2) rfl) (aa (al (pv 2) rfl) (aa (al (pv 2) rfl) ac))))))),?_⟩
  obtain⟨Cf,Dy,pl⟩:=hY.hle
  obtain⟨v,hv,x,dx,wa,rfl,hx,_⟩:=Paired.at2 pl hk
  refine⟨_,rfl,y,ys.Ca,dy,_,_,rfl,hY.ins,Y.cl,Y.n4,rfl,_,rfl,le,Cf,(k:Int),_,rfl,rfl,Cb.of Dy,ao hv,?_⟩
  refine⟨_,rfl,x,ys.BZ,dx,_,_,rfl,hx,Y.ct,Y.t1,rfl,_,rfl,x,ys.BZ,dx,_,_,rfl,hx,Y.ct,Y.t2,rfl,_,rfl,x,ys.BZ,dx,_,_,rfl,hx,Y.ct,Y.t3,rfl,_,rfl,x,ys.BZ,dx,_,_,rfl,hx,Y.ct,Y.t4,rfl,by show 4 <= sizeLine;decide,λt ht=>?_⟩
  exact q t _ ((BX.refl H).new ht) ad
theorem Ut:au ["self", "number"] ["self", "number"] (ai ve):=L2.C3
theorem yl(F:C2 K "way_told" "Yard.way_told" ve f fd)(T:Txt mg)(Y:iL K ys):BY P w K mg base ay 1 f fd ["self", "number"] (uJ K ys):=by
 refine F.ok Ut (λ_ _ _ _ h=>?_) (λ_ _ _ s H _ Q E hr h=>?_)
 ·obtain⟨y,dy,tb,ro,la,le,li,dn,st,k,ln,rfl,_⟩:=h
  rfl
 ·obtain⟨y,dy,tb,ro,la,le,li,dn,st,k,lt,rfl,hY,hk,q⟩:=h
  refine⟨_,af (av (bI ck rfl T.list PySem.Pv.boot_list (aa (al (az aK (al (pv 0) rfl) (pv 1) (λ_ _=>rfl)) rfl) ac))),?_⟩
  obtain⟨Cf,Dy,pl⟩:=hY.hle
  obtain⟨v,hv,x,dx,wa,rfl,hx,hw,_⟩:=Paired.at2 pl hk
  refine⟨_,rfl,y,ys.Ca,dy,_,_,rfl,hY.ins,Y.cl,Y.n4,rfl,_,rfl,le,Cf,(k:Int),_,rfl,rfl,Cb.of Dy,ao hv,x,ys.BZ,dx,_,_,rfl,hx,Y.ct,Y.t6,rfl,wa,_,rfl, .inl (Cb.of hw),λt ht=>?_⟩
  exact q t _ ((BX.refl H).new ht) ht ad
theorem Uu:au ["self"] ["self"] (ai mH):=L2.C3
theorem tG(F:C2 K "posted" "Yard.posted" mH f fd)(T:Txt mg)(Y:iL K ys):BY P w K mg base ay 1 f fd ["self"] (nS K ys):=by
 refine F.ok Uu (λ_ _ _ _ h=>?_) (λ_ _ _ s H _ Q E hr h=>?_)
 ·obtain⟨y,dy,tb,ro,la,le,li,dn,st,rfl,_⟩:=h
  rfl
 ·obtain⟨y,dy,tb,ro,la,le,li,dn,st,rfl,hY,q⟩:=h
  refine⟨_,af (av (aE aB rfl T.len PySem.boot_len (aa (al (pv 0) rfl) ac))),?_⟩
  obtain⟨Cf,Dy,pl⟩:=hY.hle
  refine⟨_,rfl,y,ys.Ca,dy,_,_,rfl,hY.ins,Y.cl,Y.n4,rfl,le,_,rfl, .inl (Cb.of Dy),?_⟩
  rw[Paired.length pl]
  exact q
theorem Uv:au ["self"] ["self"] (ai vw):=L2.C3
theorem y9(F:C2 K "history" "Yard.history" vw f fd)(T:Txt mg)(Y:iL K ys):BY P w K mg base ay 1 f fd ["self"] (jR K ys):=by
 refine F.ok Uv (λ_ _ _ _ h=>?_) (λ_ _ _ s H _ Q E hr h=>?_)
 ·obtain⟨y,dy,tb,ro,la,le,li,dn,st,rfl,_⟩:=h
  rfl
 ·obtain⟨y,dy,tb,ro,la,le,li,dn,st,rfl,hY,q⟩:=h
  refine⟨_,af (av (bI ck rfl T.list PySem.Pv.boot_list (aa (al (pv 0) rfl) ac))),?_⟩
  obtain⟨Dk,JE,pd⟩:=hY.DY
  refine⟨_,rfl,y,ys.Ca,dy,_,_,rfl,hY.ins,Y.cl,Y.n6,rfl,dn,_,rfl, .inl (Cb.of JE),λt ht=>?_⟩
  exact q t Dk _ ((BX.refl H).new ht) ht ad (Paired.mono (λ_ _ z=>z.keep (BX.Cq ((BX.refl H).new ht))) pd)
theorem rb{kV doc pm cdv ct:Value}(ho:K.lookup T=some o)(hs:o.data = .seq #[Value.none] n) :
  Binds K (fnOf "__init__" "Yard.__init__" (bU iO) (aI iO) (ai iO) (.ref T) kV doc pm an cdv ct) ["self", "table", "rooms"] []:=λs us HQ hl=>by
 have hl:us.length=3:=by rw[append_nil]at hl;exact hl
 obtain⟨a,us0,rfl,Ri⟩:=L2.Jf hl
 obtain⟨b,K3,rfl,O1⟩:=L2.Jf Ri
 obtain⟨c,JF,rfl,GU⟩:=L2.Jf O1
 obtain rfl:=List.eq_nil_of_length_eq_zero GU
 exact BindsTo.of_defaults rfl (HQ _ _ ho) hs rfl rfl
theorem pB{kV doc pm cdv ct:Value}(ho:K.lookup T=some o)(hs:o.data = .seq #[Value.int 0 tk] n) :
  Binds K (fnOf "post" "Yard.post" (bU i0) (aI i0) (ai i0) (.ref T) kV doc pm an cdv ct) BS []:=λs us HQ hl=>by
 have hl:us.length=5:=by rw[append_nil]at hl;exact hl
 obtain⟨a,us0,rfl,Ri⟩:=L2.Jf hl
 obtain⟨b,K3,rfl,O1⟩:=L2.Jf Ri
 obtain⟨c,JF,rfl,GU⟩:=L2.Jf O1
 obtain⟨d,us3,rfl,Rj⟩:=L2.Jf GU
 obtain⟨e,us4,rfl,LJ⟩:=L2.Jf Rj
 obtain rfl:=List.eq_nil_of_length_eq_zero LJ
 exact BindsTo.of_defaults rfl (HQ _ _ ho) hs rfl rfl
inductive zA(C:Addr)(vs:List V)(H:Hp)(Q:VK)(E:XK):Prop
 | mk (x dx pa:Addr) (r b:Int) (h:Option Int) (Cy:List V) (qs:List (Int × Int)) (_:vs=[.ref x]) (_:Cz H C x dx pa r b h Cy qs) (_:∀(x' Fe Hg:Addr)(H':Hp),BX H H'->H x' = none->H Hg = none->Cz H' C x' Fe Hg r b h Cy qs->Q (.ref x') H')
inductive zy(C:Addr)(vs:List V)(H:Hp)(Q:VK)(E:XK):Prop
 | mk (x dx wa:Addr) (s:c7) (_:vs=[.ref x]) (_:H x=some (.ins C dx (qJ s wa))) (_:H wa=some (.lst (nV s.way))) (_:∀(x' Fe FU:Addr)(H':Hp),BX H H'->H x' = none->H FU = none->H' x' = some (.ins C Fe (qJ s FU))->H' FU = some (.lst (nV s.way))->Q (.ref x') H')
theorem JG:au ["self", "other"] ["self"] (ai AA):=L2.C3
theorem Bk(F:C2 K "twin" "Lane.twin" AA f fd)(T:Txt mg)(L:zn K C)(ml:mg "Lane" = some (.ref C))(Ml:Mk K C fl)(bl:Binds K dl ["self", "room"] [])(Gl:BY P w K mg base ay 1 fl dl ["self", "room"] (uU C)) :
  BY P w K mg base ay 3 f fd ["self"] (zA C):=by
 refine F.ok JG (λ_ _ _ _ h=>?_) (λ_ _ _ s H _ Q E hr h=>?_)
 ·obtain⟨x,dx,pa,r,b,h,Cy,qs,rfl,_⟩:=h
  rfl
 ·obtain⟨x,dx,pa,r,b,h,Cy,qs,rfl,hL,q⟩:=h
  refine⟨_,ae (aD (i:=1) JG.nd rfl (Or.inl rfl) (c8 Ml Gl hr rfl ml bl .nil ap (aa (al (pv 0) rfl) ac)))
   (ae (b7 (pv 1) (al (pv 0) rfl) rfl)
   (ae (b7 (pv 1) (al (pv 0) rfl) rfl)
   (ae (b7 (pv 1) (bI ck rfl T.list PySem.Pv.boot_list (aa (al (pv 0) rfl) ac)) rfl)
   (af (av (pv 1)))))),?_⟩
  refine⟨_,rfl,x,C,dx,_,_,rfl,hL.ins,L.cl,L.n1,rfl,λx' d' nx nd ne=>⟨x',d',r,rfl,ad,λK4 H1 Iz off HW=>⟨rfl,?_⟩⟩⟩
  have s1:BX H H1:=λz o ez=>off z o (aj ez nx) (by rw[ah (aj ez nx),ah (aj ez nd)];exact ez)
  have Uw:=HW.ins
  clear Iz off HW
  refine⟨_,rfl,x,C,dx,_,_,rfl,s1 _ _ hL.ins,L.cl,L.n2,rfl,_,rfl,x',C,d',_,rfl,Uw,L.cl,L.n2,by show 4 < 1000;decide,?_⟩
  have o2:∀o',BX H (upd H1 x' o'):=λo' z o ez=>by rw[ah (aj ez nx)];exact s1 _ _ ez
  refine⟨_,rfl,x,C,dx,_,_,rfl,o2 _ _ _ hL.ins,L.cl,L.n3,rfl,_,rfl,x',C,d',_,rfl,ad,L.cl,L.n3,by show 4 < 1000;decide,?_⟩
  have o3:∀o' YD,BX H (upd (upd H1 x' o') x' YD):=λo' YD z o ez=>by rw[ah (aj ez nx)];exact o2 _ _ _ ez
  have s3:=o3 (.ins C d' (aS "returning" (.int b) (jq r 0 (hV none) K4))) (.ins C d' (aS "holder" (hV h) (aS "returning" (.int b) (jq r 0 (hV none) K4))))
  have K5:(upd (upd H1 x' (.ins C d' (aS "returning" (.int b) (jq r 0 (hV none) K4)))) x' (.ins C d' (aS "holder" (hV h) (aS "returning" (.int b) (jq r 0 (hV none) K4))))) x' = some (.ins C d' (jq r b (hV h) K4)):=ad
  generalize upd (upd H1 x' (.ins C d' (aS "returning" (.int b) (jq r 0 (hV none) K4)))) x' (.ins C d' (aS "holder" (hV h) (aS "returning" (.int b) (jq r 0 (hV none) K4))))=H3 at s3 K5 ⊢
  refine⟨_,rfl,x,C,dx,_,_,rfl,s3 _ _ hL.ins,L.cl,L.n4,rfl,pa,_,rfl, .inl (Cb.of (s3 _ _ hL.lst)),λHg K6=>?_⟩
  have G7:H Hg = none:=by
   cases e:H Hg with
   | none=>rfl
   | some o=>rw[s3 _ _ e]at K6;cases K6
  have O2:x' ≠ Hg:=aj K5 K6
  refine⟨_,rfl,x',C,d',_,rfl,by rw[ah O2];exact K5,L.cl,L.n4,by show 4 < 1000;decide,_,rfl,?_⟩
  have s4:∀o',BX H (upd (upd H3 Hg (.lst Cy)) x' o'):=λo' z o ez=>by rw[ah (aj ez nx),ah (aj ez G7)];exact s3 _ _ ez
  exact q x' d' Hg _ (s4 _) nx G7 ⟨ad,by rw[ah (Ne.symm O2)];exact ad,Cw.same (s4 _) hL.Dq⟩
theorem JH:au ["self", "other"] ["self"] (ai vp):=L2.C3
theorem Bi(F:C2 K "twin" "Letter.twin" vp f fd)(T:Txt mg)(Y:iL K ys)(ml:mg "Letter" = some (.ref ys.BZ))(Ml:Mk K ys.BZ fl)(bl:Binds K dl ["self", "start", "goal", "length", "word"] [])(Gl:BY P w K mg base ay 1 fl dl ["self", "start", "goal", "length", "word"] (uT ys.BZ)) :
  BY P w K mg base ay 3 f fd ["self"] (zy ys.BZ):=by
 refine F.ok JH (λ_ _ _ _ h=>?_) (λ_ _ _ s H _ Q E hr h=>?_)
 ·obtain⟨x,dx,wa,s,rfl,_⟩:=h
  rfl
 ·obtain⟨x,dx,wa,t,rfl,hx,hw,q⟩:=h
  refine⟨_,ae (aD (i:=1) JH.nd rfl (Or.inl rfl) (c8 Ml Gl hr rfl ml bl .nil ap (aa (al (pv 0) rfl) (aa (al (pv 0) rfl) (aa (al (pv 0) rfl) (aa (al (pv 0) rfl) ac))))))
   (ae (b7 (pv 1) (al (pv 0) rfl) rfl)
   (ae (b7 (pv 1) (bI ck rfl T.list PySem.Pv.boot_list (aa (al (pv 0) rfl) ac)) rfl)
   (af (av (pv 1))))),?_⟩
  refine⟨_,rfl,x,ys.BZ,dx,_,_,rfl,hx,Y.ct,Y.t1,rfl,_,rfl,x,ys.BZ,dx,_,_,rfl,hx,Y.ct,Y.t2,rfl,_,rfl,x,ys.BZ,dx,_,_,rfl,hx,Y.ct,Y.t3,rfl,_,rfl,x,ys.BZ,dx,_,_,rfl,hx,Y.ct,Y.t4,rfl,λx' d' nx nd ne=>⟨x',d',t.start,t.goal,t.len,t.word,rfl,ad,λw0 H1 hw0 off DK HX=>⟨rfl,?_⟩⟩⟩
  have s1:BX H H1:=λz o ez=>off z o (aj ez nx) (by rw[ah (aj ez nx),ah (aj ez nd)];exact ez)
  clear hw0 off HX
  refine⟨_,rfl,x,ys.BZ,dx,_,_,rfl,s1 _ _ hx,Y.ct,Y.t5,rfl,_,rfl,x',ys.BZ,d',_,rfl,DK,Y.ct,Y.t5,by show 6 < 1000;decide,?_⟩
  have s3:BX H (upd H1 x' (.ins ys.BZ d' (aS "gone" (.int t.gone) (qJ ⟨t.start,t.goal,t.len,t.word,0,[]⟩ w0)))):=λz o ez=>by rw[ah (aj ez nx)];exact s1 _ _ ez
  have K5:(upd H1 x' (.ins ys.BZ d' (aS "gone" (.int t.gone) (qJ ⟨t.start,t.goal,t.len,t.word,0,[]⟩ w0)))) x' = some (.ins ys.BZ d' (qJ ⟨t.start,t.goal,t.len,t.word,t.gone,[]⟩ w0)):=ad
  show _
  generalize upd H1 x' (.ins ys.BZ d' (aS "gone" (.int t.gone) (qJ ⟨t.start,t.goal,t.len,t.word,0,[]⟩ w0)))=H3 at s3 K5 ⊢
  refine⟨_,rfl,x,ys.BZ,dx,_,_,rfl,s3 _ _ hx,Y.ct,Y.t6,rfl,wa,_,rfl, .inl (Cb.of (s3 _ _ hw)),λFU K7=>?_⟩
  have G9:H FU = none:=by
   cases e:H FU with
   | none=>rfl
   | some o=>rw[s3 _ _ e]at K7;cases K7
  have O2:x' ≠ FU:=aj K5 K7
  refine⟨_,rfl,x',ys.BZ,d',_,rfl,by rw[ah O2];exact K5,Y.ct,Y.t6,by show 6 < 1000;decide,_,rfl,?_⟩
  have s4:∀o',BX H (upd (upd H3 FU (.lst (nV t.way))) x' o'):=λo' z o ez=>by rw[ah (aj ez nx),ah (aj ez G9)];exact s3 _ _ ez
  exact q x' d' FU _ (s4 _) nx G9 ad (by rw[ah (Ne.symm O2)];exact ad)
structure YA where
 y:Addr
 dy:Addr
 tb:Addr
 ro:Addr
 la:Addr
 le:Addr
 li:Addr
 dn:Addr
 lx:Addr
 Cr:Addr
 lt:Addr
 n:Nat
 Cf:List V
 ps:List (Int × Int)
 wy:Wf
abbrev CQ(K:Frag)(ys:Ys)(H:Hp)(a:YA)(s:YS):Prop:=Cg K ys H a.y a.dy a.tb a.ro a.la a.le a.li a.dn s
abbrev zS(c:Cs)(TC:Addr)(J:TJ)(H:Hp)(a:YA):Prop:=CK c TC J H a.tb a.lx a.Cr a.lt a.n a.Cf a.ps a.wy
abbrev YA.four(a:YA):List Addr:=[a.la,a.le,a.li,a.dn]
theorem Paired.set{v:α}{r:β}(h:R v r):∀{vs:List α}{rs:List β}(i:Nat),Paired R vs rs->Paired R (vs.set i v) (rs.set i r)
 | _,_,_, .nil => .nil
 | _,_,0, .cons _ t => .cons h t
 | _,_,i + 1, .cons x t => .cons x (Paired.set h i t)
theorem Cn.mono(h:∀b ∈ ex,b ∈ Lx)(o:Cn ex H H'):Cn Lx H H':=λb u nb e=>o b u (λz=>nb (h b z)) e
theorem cv(h:CQ K ys H a s)(hp:H p=none):p ∉ a.four:=λz=>by obtain⟨xs,hz⟩:=h.DA p z;rw[hp]at hz;cases hz
theorem lC(h:CQ K ys H a s)(hp:H p=none):p ∉ a.la :: a.le :: a.li :: a.dn :: ys.ex:=λz=>by obtain⟨xs,hz⟩:=Cg.FR h p z;rw[hp]at hz;cases hz
theorem nr(o:Cn [x] H H2)(hx:H2 x=some (.lst zs))(h:∃xs,H b=some (.lst xs)):∃xs,H2 b=some (.lst xs):=by
 by_cases e:b=x
 ·exact⟨zs,by rw[e];exact hx⟩
 ·obtain⟨xs,hz⟩:=h
  exact⟨xs,o _ _ (by simpa using e) hz⟩
theorem CQ.EU(h:CQ K ys H a s)(hv:H a.la=some (.lst vs))(o:Cn [a.la] H H2)(hl:H2 a.la=some (.lst (vs.set k (.ref x))))
  (L:Cz H2 ys.C0 x dx pa ln.r ln.b ln.h Cy ln.qs) (np:H pa=none):CQ K ys H2 a { s with lanes:=s.lanes.set k ln }:=by
 obtain⟨h1,h2,f1,f2,f3,f4⟩:=Cg.off h (o.mono (by simp))
 obtain⟨v1,a1,p1⟩:=h.Dr
 obtain⟨v2,a2,p2⟩:=h.hle
 obtain⟨v3,a3,p3⟩:=h.Ew
 obtain⟨v4,a4,p4⟩:=h.DY
 rw[hv]at a1
 cases a1
 have ne:=h.ne
 simp only[nodup_cons,mem_cons,not_mem_nil,or_false,not_or,not_false_eq_true,and_true,nodup_nil]at ne
 exact⟨h1,h2,⟨_,hl,Paired.set ⟨x,dx,pa,Cy,rfl,L,lC h np⟩ k (f1 _ _ p1)⟩,⟨v2,o _ _ (by simp;exact Ne.symm ne.1.1) a2,f2 _ _ p2⟩,⟨v3,o _ _ (by simp;exact Ne.symm ne.1.2.1) a3,f3 _ _ p3⟩,⟨v4,o _ _ (by simp;exact Ne.symm ne.1.2.2) a4,f4 _ _ p4⟩,h.ne,λb hb=>nr o hl (h.hex b hb)⟩
theorem CQ.HE(h:CQ K ys H a s)(hv:H a.le=some (.lst vs))(o:Cn [a.le] H H2)(hl:H2 a.le=some (.lst (vs.set k (.ref x))))
  (hx:H2 x=some (.ins ys.BZ dx (qJ t wa))) (hw:H2 wa=some (.lst (nV t.way))) (np:H wa=none):CQ K ys H2 a { s with U:=s.U.set k t }:=by
 obtain⟨h1,h2,f1,f2,f3,f4⟩:=Cg.off h (o.mono (by simp))
 obtain⟨v1,a1,p1⟩:=h.Dr
 obtain⟨v2,a2,p2⟩:=h.hle
 obtain⟨v3,a3,p3⟩:=h.Ew
 obtain⟨v4,a4,p4⟩:=h.DY
 rw[hv]at a2
 cases a2
 have ne:=h.ne
 simp only[nodup_cons,mem_cons,not_mem_nil,or_false,not_or,not_false_eq_true,and_true,nodup_nil]at ne
 exact⟨h1,h2,⟨v1,o _ _ (by simp;exact ne.1.1) a1,f1 _ _ p1⟩,⟨_,hl,Paired.set ⟨x,dx,wa,rfl,hx,hw,lC h np⟩ k (f2 _ _ p2)⟩,⟨v3,o _ _ (by simp;exact Ne.symm ne.2.1.1) a3,f3 _ _ p3⟩,⟨v4,o _ _ (by simp;exact Ne.symm ne.2.1.2) a4,f4 _ _ p4⟩,h.ne,λb hb=>nr o hl (h.hex b hb)⟩
theorem CQ.K8(h:CQ K ys H a s)(hv:H a.li=some (.lst vs))(o:Cn [a.li] H H2)(hl:H2 a.li=some (.lst (vs.set k v)))
  (L:D8 H2 v qs):CQ K ys H2 a { s with lies:=s.lies.set k qs }:=by
 obtain⟨h1,h2,f1,f2,f3,f4⟩:=Cg.off h (o.mono (by simp))
 obtain⟨v1,a1,p1⟩:=h.Dr
 obtain⟨v2,a2,p2⟩:=h.hle
 obtain⟨v3,a3,p3⟩:=h.Ew
 obtain⟨v4,a4,p4⟩:=h.DY
 rw[hv]at a3
 cases a3
 have ne:=h.ne
 simp only[nodup_cons,mem_cons,not_mem_nil,or_false,not_or,not_false_eq_true,and_true,nodup_nil]at ne
 exact⟨h1,h2,⟨v1,o _ _ (by simp;exact ne.1.2.1) a1,f1 _ _ p1⟩,⟨v2,o _ _ (by simp;exact ne.2.1.1) a2,f2 _ _ p2⟩,⟨_,hl,Paired.set L k (f3 _ _ p3)⟩,⟨v4,o _ _ (by simp;exact Ne.symm ne.2.2) a4,f4 _ _ p4⟩,h.ne,λb hb=>nr o hl (h.hex b hb)⟩
inductive uP(K:Frag)(ys:Ys)(vs:List V)(H:Hp)(Q:VK)(E:XK):Prop
 | mk (a:YA) (s:YS) (k:Nat) (ln:cZ) (Ct:List V) (_:vs=[.ref a.y, .int k]) (_:CQ K ys H a s) (_:s.lanes[k]? = some ln) (_:H a.la=some (.lst Ct)) (_:∀(x dx pa:Addr)(Cy:List V)(H':Hp),Cn [a.la] H H'->H x=none->H pa=none->H' a.la=some (.lst (Ct.set k (.ref x)))->Cz H' ys.C0 x dx pa ln.r ln.b ln.h Cy ln.qs->Q (.ref x) H')
inductive uO(K:Frag)(ys:Ys)(vs:List V)(H:Hp)(Q:VK)(E:XK):Prop
 | mk (a:YA) (s:YS) (k:Nat) (t:c7) (Cf:List V) (_:vs=[.ref a.y, .int k]) (_:CQ K ys H a s) (_:s.U[k]? = some t) (_:H a.le=some (.lst Cf)) (_:∀(x dx wa:Addr)(H':Hp),Cn [a.le] H H'->H x=none->H wa=none->H' a.le=some (.lst (Cf.set k (.ref x)))->H' x=some (.ins ys.BZ dx (qJ t wa))->H' wa=some (.lst (nV t.way))->Q (.ref x) H')
inductive zC(K:Frag)(ys:Ys)(vs:List V)(H:Hp)(Q:VK)(E:XK):Prop
 | mk (a:YA) (s:YS) (v:V) (q:Int × Int) (p:Nat) (qs:List (Int × Int)) (_:vs=[.ref a.y,v, .int p]) (_:CQ K ys H a s) (_:xy H v q) (_:s.lies[p]? = some qs) (_:qs.length <= 100000) (_:∀H',Cn [a.li] H H'->CQ K ys H' a { s with lies:=s.lies.set p (qs ++ [q]) }->Q .Cp H')
inductive r9(K:Frag)(ys:Ys)(vs:List V)(H:Hp)(Q:VK)(E:XK):Prop
 | mk (a:YA) (s:YS) (p:Nat) (qs:List (Int × Int)) (_:vs=[.ref a.y, .int p]) (_:CQ K ys H a s) (_:s.lies[p]? = some qs) (_:∀(D:Addr)(Cy:List V)(H':Hp),BX H H'->H D=none->H' D=some (.lst Cy)->Cw H' Cy qs->Q (.ref D) H')
theorem Aq:au ["self", "lane"] ["self", "lane"] (ai vi):=L2.C3
theorem yt(F:C2 K "own_lane" "Yard.own_lane" vi f fd)(Y:iL K ys)(mt:bC K ys.C0 "twin" ft)(bt:Binds K dt ["self"] [])(Gt:BY P w K mg base ay 3 ft dt ["self"] (zA ys.C0)) :
  BY P w K mg base ay 4 f fd ["self", "lane"] (uP K ys):=by
 refine F.ok Aq (λ_ _ _ _ h=>?_) (λ_ _ _ s H _ Q E hr h=>?_)
 ·obtain⟨a,s,k,ln,Ct,rfl,_⟩:=h
  rfl
 ·obtain⟨a,st,k,ln,Ct,rfl,hY,hk,CZ,q⟩:=h
  refine⟨_,ae (mQ (b6 (az aK (al (pv 0) rfl) (pv 1) (λ_ _=>rfl)) Y.L.cl mt Gt hr bt .nil ap) (qt (al (pv 0) rfl) (pv 1) jU))
   (af (av (az aK (al (pv 0) rfl) (pv 1) (λ_ _=>rfl)))),?_⟩
  obtain⟨lvs',O3,pl⟩:=hY.Dr
  rw[CZ]at O3
  cases O3
  obtain⟨v,hv,x,dx,pa,Cy,rfl,hL,_⟩:=Paired.at2 pl hk
  have EF:k < Ct.length:=(gQ0 hv)
  refine⟨_,rfl,a.y,ys.Ca,a.dy,_,_,rfl,hY.ins,Y.cl,Y.n3,rfl,_,rfl,a.la,Ct,(k:Int),_,rfl,rfl,Cb.of CZ,ao hv,x,dx,_,rfl,hL.ins,rfl,?_⟩
  refine⟨x,dx,pa,ln.r,ln.b,ln.h,Cy,ln.qs,rfl,hL,λx' Fe Hg H1 s1 nx IB HW=>?_⟩
  refine⟨_,rfl,a.y,ys.Ca,a.dy,_,_,rfl,s1 _ _ hY.ins,Y.cl,Y.n3,rfl,_,rfl,a.la,Ct,(k:Int),k,rfl,rfl,s1 _ _ CZ,j5 EF,?_⟩
  have o1:Cn [a.la] H (upd H1 a.la (.lst (Ct.set k (.ref x')))):=(BX.CF s1).trans (cS (by simp))
  have g1:(upd H1 a.la (.lst (Ct.set k (.ref x')))) a.la=some (.lst (Ct.set k (.ref x'))):=ad
  have El:Cz (upd H1 a.la (.lst (Ct.set k (.ref x')))) ys.C0 x' Fe Hg ln.r ln.b ln.h Cy ln.qs:=by
   have n1:x' ≠ a.la:=b9 HW.ins (s1 _ _ CZ) (by intro z;cases z)
   have n2:Hg ≠ a.la:=λz=>by rw[z,CZ]at IB;cases IB
   exact⟨by rw[ah n1];exact HW.ins,by rw[ah n2];exact HW.lst,Cw.CF (ex:=[a.la]) (λb hb=>by simp at hb;subst hb;exact⟨_,s1 _ _ CZ⟩) (cS (by simp)) HW.Dq⟩
  generalize upd H1 a.la (.lst (Ct.set k (.ref x')))=H2 at o1 g1 El ⊢
  have Ux:H2 a.y=some (.ins ys.Ca a.dy (QZ a.tb a.ro a.la a.le a.li a.dn)):=o1 _ _ (by simp;exact b9 hY.ins CZ (by intro z;cases z)) hY.ins
  exact⟨_,rfl,a.y,ys.Ca,a.dy,_,_,rfl,Ux,Y.cl,Y.n3,rfl,_,rfl,a.la,_,(k:Int), .ref x',rfl,rfl,Cb.of g1,ao (by simp[EF]),q x' Fe Hg Cy H2 o1 nx IB g1 El⟩
theorem Ap:au ["self", "number"] ["self", "number"] (ai vh):=L2.C3
theorem yr(F:C2 K "own_letter" "Yard.own_letter" vh f fd)(Y:iL K ys)(mt:bC K ys.BZ "twin" ft)(bt:Binds K dt ["self"] [])(Gt:BY P w K mg base ay 3 ft dt ["self"] (zy ys.BZ)) :
  BY P w K mg base ay 4 f fd ["self", "number"] (uO K ys):=by
 refine F.ok Ap (λ_ _ _ _ h=>?_) (λ_ _ _ s H _ Q E hr h=>?_)
 ·obtain⟨a,s,k,ln,Ct,rfl,_⟩:=h
  rfl
 ·obtain⟨a,st,k,t,Cf,rfl,hY,hk,Dy,q⟩:=h
  refine⟨_,ae (mQ (b6 (az aK (al (pv 0) rfl) (pv 1) (λ_ _=>rfl)) Y.ct mt Gt hr bt .nil ap) (qt (al (pv 0) rfl) (pv 1) jU))
   (af (av (az aK (al (pv 0) rfl) (pv 1) (λ_ _=>rfl)))),?_⟩
  obtain⟨Ek,O4,pl⟩:=hY.hle
  rw[Dy]at O4
  cases O4
  obtain⟨v,hv,x,dx,wa,rfl,hx,hw,_⟩:=Paired.at2 pl hk
  have EF:k < Cf.length:=(gQ0 hv)
  refine⟨_,rfl,a.y,ys.Ca,a.dy,_,_,rfl,hY.ins,Y.cl,Y.n4,rfl,_,rfl,a.le,Cf,(k:Int),_,rfl,rfl,Cb.of Dy,ao hv,x,dx,_,rfl,hx,rfl,?_⟩
  refine⟨x,dx,wa,t,rfl,hx,hw,λx' Fe FU H1 s1 nx IB DK HX=>?_⟩
  refine⟨_,rfl,a.y,ys.Ca,a.dy,_,_,rfl,s1 _ _ hY.ins,Y.cl,Y.n4,rfl,_,rfl,a.le,Cf,(k:Int),k,rfl,rfl,s1 _ _ Dy,j5 EF,?_⟩
  have o1:Cn [a.le] H (upd H1 a.le (.lst (Cf.set k (.ref x')))):=(BX.CF s1).trans (cS (by simp))
  have g1:(upd H1 a.le (.lst (Cf.set k (.ref x')))) a.le=some (.lst (Cf.set k (.ref x'))):=ad
  have n1:x' ≠ a.le:=b9 DK (s1 _ _ Dy) (by intro z;cases z)
  have n2:FU ≠ a.le:=λz=>by rw[z,Dy]at IB;cases IB
  have HU:(upd H1 a.le (.lst (Cf.set k (.ref x')))) x' = some (.ins ys.BZ Fe (qJ t FU)):=by rw[ah n1];exact DK
  have Rh:(upd H1 a.le (.lst (Cf.set k (.ref x')))) FU = some (.lst (nV t.way)):=by rw[ah n2];exact HX
  generalize upd H1 a.le (.lst (Cf.set k (.ref x')))=H2 at o1 g1 HU Rh ⊢
  have Ux:H2 a.y=some (.ins ys.Ca a.dy (QZ a.tb a.ro a.la a.le a.li a.dn)):=o1 _ _ (by simp;exact b9 hY.ins Dy (by intro z;cases z)) hY.ins
  exact⟨_,rfl,a.y,ys.Ca,a.dy,_,_,rfl,Ux,Y.cl,Y.n4,rfl,_,rfl,a.le,_,(k:Int), .ref x',rfl,rfl,Cb.of g1,ao (by simp[EF]),q x' Fe FU H2 o1 nx IB g1 HU Rh⟩
theorem O5:au ["self", "piece", "place"] ["self", "piece", "place"] (ai AD):=L2.C3
theorem Bn(F:C2 K "lay" "Yard.lay" AD f fd)(Y:iL K ys):BY P w K mg base ay 1 f fd ["self", "piece", "place"] (zC K ys):=by
 refine F.ok O5 (λ_ _ _ _ h=>?_) (λ_ _ _ s H _ Q E hr h=>?_)
 ·obtain⟨a,s,v,q,p,qs,rfl,_⟩:=h
  rfl
 ·obtain⟨a,st,v,qp,p,qs,rfl,hY,hv,hp,hlen,q⟩:=h
  refine⟨_,af (mQ (aJ yi (az aK (al (pv 0) rfl) (pv 2) (λ_ _=>rfl)) (bF (aa (pv 1) ac))) (qt (al (pv 0) rfl) (pv 2) jU)),?_⟩
  obtain⟨Ct,JI,pl⟩:=hY.Ew
  obtain⟨v0,Rk,t0,GZ,rfl,JK,O6⟩:=Paired.at2 pl hp
  have EF:p < Ct.length:=(gQ0 Rk)
  have Ri:GZ.length=qs.length:=Paired.length O6
  refine⟨_,rfl,a.y,ys.Ca,a.dy,_,_,rfl,hY.ins,Y.cl,Y.n5,rfl,_,rfl,a.li,Ct,(p:Int),_,rfl,rfl,Cb.of JI,ao Rk,_,rfl,by show 1 <= sizeLine;decide,λt ht=>?_⟩
  have s1:=(BX.refl H).new (o := .tup [v]) ht
  have g1:(upd H t (.tup [v])) t=some (.tup [v]):=ad
  generalize upd H t (.tup [v])=H1 at s1 g1 ⊢
  have fin:∀(z:Addr)(H2:Hp),BX H H2->D8 H2 (.ref z) (qs ++ [qp])->Q .Cp (upd H2 a.li (.lst (Ct.set p (.ref z)))):=λz H2 s2 hz=>by
   have o2:Cn [a.li] H (upd H2 a.li (.lst (Ct.set p (.ref z)))):=(BX.CF s2).trans (cS (by simp))
   refine q _ o2 (CQ.K8 hY JI o2 ad ?_)
   obtain⟨tz,vz,ez,YE,hz2⟩:=hz
   cases ez
   have nz:z ≠ a.li:=b9 YE (s2 _ _ JI) (by intro y;cases y)
   exact⟨z,vz,rfl,by rw[ah nz];exact YE,Cw.CF (ex:=[a.li]) (λb hb=>by simp at hb;subst hb;exact⟨_,s2 _ _ JI⟩) (cS (by simp)) hz2⟩
  refine⟨t0,t,GZ,[v],rfl,rfl,Ck.of (s1 _ _ JK),Ck.of g1,by simp,by rw[sizeLine_eq];simp;omega,λe0=>?_,λe0 p2 Jp=>?_⟩
  ·subst e0
   cases O6
   refine⟨_,rfl,a.y,ys.Ca,a.dy,_,_,rfl,s1 _ _ hY.ins,Y.cl,Y.n5,rfl,_,rfl,a.li,Ct,(p:Int),p,rfl,rfl,s1 _ _ JI,j5 EF,?_⟩
   exact fin t H1 s1 ⟨t,[v],rfl,g1, .cons (let ⟨u,e,hu⟩:=hv; ⟨u,e,s1 _ _ hu⟩) .nil⟩
  ·have s2:=s1.new (o := .tup (GZ ++ [v])) Jp
   have g2:(upd H1 p2 (.tup (GZ ++ [v]))) p2=some (.tup (GZ ++ [v])):=ad
   generalize upd H1 p2 (.tup (GZ ++ [v]))=H2 at s2 g2 ⊢
   refine⟨_,rfl,a.y,ys.Ca,a.dy,_,_,rfl,s2 _ _ hY.ins,Y.cl,Y.n5,rfl,_,rfl,a.li,Ct,(p:Int),p,rfl,rfl,s2 _ _ JI,j5 EF,?_⟩
   exact fin p2 H2 s2 ⟨p2,_,rfl,g2,Cw.snoc (let ⟨u,e,hu⟩:=hv; ⟨u,e,s2 _ _ hu⟩) (Cw.same s2 O6)⟩
theorem O7:au ["self", "place"] ["self", "place"] (ai qh):=L2.C3
theorem wg(F:C2 K "lying" "Yard.lying" qh f fd)(T:Txt mg)(Y:iL K ys):BY P w K mg base ay 1 f fd ["self", "place"] (r9 K ys):=by
 refine F.ok O7 (λ_ _ _ _ h=>?_) (λ_ _ _ s H _ Q E hr h=>?_)
 ·obtain⟨a,s,p,qs,rfl,_⟩:=h
  rfl
 ·obtain⟨a,st,p,qs,rfl,hY,hp,q⟩:=h
  refine⟨_,af (av (bI ck rfl T.list PySem.Pv.boot_list (aa (az aK (al (pv 0) rfl) (pv 1) (λ_ _=>rfl)) ac))),?_⟩
  obtain⟨Ct,JI,pl⟩:=hY.Ew
  obtain⟨v0,Rk,t0,GZ,rfl,JK,O6⟩:=Paired.at2 pl hp
  refine⟨_,rfl,a.y,ys.Ca,a.dy,_,_,rfl,hY.ins,Y.cl,Y.n5,rfl,_,rfl,a.li,Ct,(p:Int),_,rfl,rfl,Cb.of JI,ao Rk,t0,_,rfl, .inr (Ck.of JK),λD hD=>?_⟩
  have s1:=(BX.refl H).new (o := .lst GZ) hD
  exact q D GZ _ s1 hD ad (Cw.same s1 O6)
noncomputable def kI(ln:cZ)(m c len:Int):cZ:={ ln with r:=ln.r - 1,h:=if decide (c=len - 1)=true then none else some m,qs:=ln.qs ++ [(m,c)] }
noncomputable def eJ(s:YS)(m:Nat)(c:Int)(l:Nat)(t:c7)(ln:cZ):YS:={ s with U:=if c=0 then s.U.set m { t with way:=t.way ++ [l] } else s.U,lanes:=s.lanes.set l (kI ln m c t.len) }
inductive mD(K:Frag)(ys:Ys)(vs:List V)(H:Hp)(Q:VK)(E:XK):Prop
 | mk (a:YA) (s:YS) (v:V) (m:Nat) (c:Int) (l:Nat) (t:c7) (ln:cZ) (_:vs=[.ref a.y,v, .int l]) (_:CQ K ys H a s) (_:xy H v ((m:Int),c)) (_:s.U[m]? = some t) (_:s.lanes[l]? = some ln) (_:cI ln.r ln.h m c=true) (_:t.way.length <= 1000) (_:ln.qs.length < 100000) (_:∀H',Cn [a.la,a.le] H H'->CQ K ys H' a (eJ s m c l t ln)->Q .Cp H')
noncomputable def jp(s:YS)(m:Nat)(t:c7):YS:={ s with U:=s.U.set m { t with gone:=t.gone + 1 } }
inductive uX(K:Frag)(ys:Ys)(vs:List V)(H:Hp)(Q:VK)(E:XK):Prop
 | mk (a:YA) (s:YS) (m l:Nat) (t:c7) (ln:cZ) (_:vs=[.ref a.y, .int m, .int l]) (_:CQ K ys H a s) (_:s.U[m]? = some t) (_:s.lanes[l]? = some ln) (_:cI ln.r ln.h m t.gone=true) (_:t.way.length <= 1000) (_:ln.qs.length < 100000) (_:∀H',Cn [a.la,a.le] H H'->CQ K ys H' a (eJ (jp s m t) m t.gone l { t with gone:=t.gone + 1 } ln)->Q .Cp H')
structure Own(P:Program)(w:World)(K:Frag)(mg:Str->Option Value)(base:Heap)(ys:Ys)(fl ft fp:Addr)(dl dt dp:FuncData):Prop where
 ml:bC K ys.Ca "own_lane" fl
 bl:Binds K dl ["self", "lane"] []
 Gl:BY P w K mg base ay 4 fl dl ["self", "lane"] (uP K ys)
 mt:bC K ys.Ca "own_letter" ft
 bt:Binds K dt ["self", "number"] []
 Gt:BY P w K mg base ay 4 ft dt ["self", "number"] (uO K ys)
 mp:bC K ys.C0 "put" fp
 bp:Binds K dp ["self", "letter", "count", "last"] []
 Gp:BY P w K mg base ay 2 fp dp ["self", "letter", "count", "last"] (zw ys.C0)
abbrev YF:List Str:=["self", "piece", "lane", "last"]
abbrev NGi:List Str:=["self", "number", "lane", "letter"]
theorem O8:au YF ["self", "piece", "lane"] (ai qm):=L2.C3
theorem wn(F:C2 K "enter" "Yard.enter" qm f fd)(Y:iL K ys)(O:Own P w K mg base ys fl ft fp dl dt dp) :
  BY P w K mg base ay 5 f fd ["self", "piece", "lane"] (mD K ys):=by
 refine F.ok O8 (λ_ _ _ _ h=>?_) (λ_ _ _ s H _ Q E hr h=>?_)
 ·obtain⟨a,s,v,m,c,l,t,ln,rfl,_⟩:=h
  rfl
 ·obtain⟨a,st,v,m,c,l,t,ln,rfl,hY,⟨pt,rfl,Ft⟩,hm,hl,MQ,FN,Jx,q⟩:=h
  have CY:Cj 2 _:=hr.mono (by decide)
  refine⟨_,ae (rK (aR (ax bz (az aG (pv 1) ak (λ_ _=>rfl)) ak (aA _))
    (af (aP (bW plainAttrs_list PySem.F.slot_list_append PySem.F.type_list_append bQ (al (aC (pv 0) Y.cl O.mt O.Gt hr O.bt .nil ap (aa (az aG (pv 1) ak (λ_ _=>rfl)) ac)) rfl) (aa (pv 2) ac)))) aF))
   (ae (aD (i:=3) O8.nd rfl (Or.inl rfl) (c9 bz (az aG (pv 1) ak (λ_ _=>rfl)) (aJ fz (al (az aK (al (pv 0) rfl) (az aG (pv 1) ak (λ_ _=>rfl)) (λ_ _=>rfl)) rfl) ak) (aA _)))
   (af (aP (aC (aC (pv 0) Y.cl O.ml O.Gl hr O.bl .nil ap (aa (pv 2) ac)) Y.L.cl O.mp O.Gp CY O.bp .nil ap (aa (az aG (pv 1) ak (λ_ _=>rfl)) (aa (az aG (pv 1) ak (λ_ _=>rfl)) (aa (pv 3) ac))))))),?_⟩
  refine⟨λσ' H'=>σ' = start YF [.ref a.y, .ref pt, .int l]/\Cn [a.le] H H'/\∃t1:c7,t1.len=t.len/\CQ K ys H' a { st with U:=if c=0 then st.U.set m { t with way:=t.way ++ [l] } else st.U }/\(if c=0 then st.U.set m { t with way:=t.way ++ [l] } else st.U)[m]? = some t1,?_,?_⟩
  ·refine⟨_,rfl,pt,_,1,_,rfl,rfl,Ck.of Ft,ao (j:=1) rfl,rfl,_,rfl,?_⟩
   rw[bT]
   by_cases hc:c=0
   ·rw[decide_eq_true hc]
    obtain⟨Cf,Dy,pl⟩:=hY.hle
    refine aN ⟨_,rfl,a.y,a.dy,_,rfl,hY.ins,rfl,_,rfl,pt,_,0,_,rfl,rfl,Ck.of Ft,ao (j:=0) rfl,a,st,m,t,Cf,rfl,hY,hm,Dy,λx dx wa H1 o1 nx nw g1 DK HX=>?_⟩
    refine⟨x,ys.BZ,dx,_,_,rfl,DK,Y.ct,Y.t6,rfl, .inl ⟨rfl,_,Cb.of HX⟩,_,rfl,wa,_,_,rfl,rfl,HX,by rw[cC,sizeLine_eq];omega,?_⟩
    have nxw:x ≠ wa:=b9 DK HX (by intro z;cases z)
    have nlw:a.le ≠ wa:=aj Dy nw
    have o2:Cn [a.le] H (upd H1 wa (.lst (nV t.way ++ [.int l]))):=λb o nb e=>by rw[ah (aj e nw)];exact o1 b o nb e
    have E8:=CQ.HE hY Dy o2 (k:=m) (x:=x) (dx:=dx) (wa:=wa) (by rw[ah nlw];exact g1) (t:={ t with way:=t.way ++ [l] }) (by rw[ah nxw];exact DK) (by rw[ad,qF];rfl) nw
    have HF:m < st.U.length:=(gQ0 hm)
    refine⟨rfl,o2,{ t with way:=t.way ++ [l] },rfl,?_,?_⟩
    ·rw[if_pos hc];exact E8
    ·rw[if_pos hc];simp[HF]
   ·rw[decide_eq_false hc]
    refine aH ⟨rfl,BX.CF (BX.refl H),t,rfl,?_,?_⟩
    ·rw[if_neg hc];exact hY
    ·rw[if_neg hc];exact hm
  ·rintro σ' H1 ⟨rfl,o1,t1,hlen,DG,hm1⟩
   have IG:H1 pt=some (.tup [.int m, .int c]):=by
    obtain⟨Cf,Dy,_⟩:=hY.hle
    exact o1 _ _ (by simp;exact b9 Ft Dy (by intro z;cases z)) Ft
   obtain⟨Uy,Uz,U0⟩:=DG.hle
   obtain⟨v1,hv1,x1,dx1,wa1,rfl,DK,_⟩:=Paired.at2 U0 hm1
   refine⟨_,rfl,pt,_,1,_,rfl,rfl,Ck.of IG,ao (j:=1) rfl,_,rfl,a.y,ys.Ca,a.dy,_,_,rfl,DG.ins,Y.cl,Y.n4,rfl,_,rfl,pt,_,0,_,rfl,rfl,Ck.of IG,ao (j:=0) rfl,a.le,Uy,(m:Int),_,rfl,rfl,Cb.of Uz,ao hv1,x1,ys.BZ,dx1,_,_,rfl,DK,Y.ct,Y.t3,rfl,_,_,rfl,rfl,rfl,?_⟩
   obtain⟨Ct,CZ,Hh⟩:=DG.Dr
   refine⟨_,rfl,a.y,a.dy,_,rfl,DG.ins,rfl,_,rfl,a,_,l,ln,Ct,rfl,DG,hl,CZ,λx dx pa Cy H2 o2 nx np g2 El=>?_⟩
   have HG:H2 pt=some (.tup [.int m, .int c]):=o2 _ _ (by simp;exact b9 IG CZ (by intro z;cases z)) IG
   have Df:Cy.length=ln.qs.length:=Paired.length El.Dq
   refine⟨x,dx,_,rfl,El.ins,rfl,_,rfl,pt,_,0,_,rfl,rfl,Ck.of HG,ao (j:=0) rfl,_,rfl,pt,_,1,_,rfl,rfl,Ck.of HG,ao (j:=1) rfl,_,rfl,x,dx,pa,ln.r,ln.b,ln.h,Cy,ln.qs,(m:Int),c,decide (c=t.len - 1),?_,El,by omega,(λho=>by rw[MQ]at ho;cases ho),λ_ t3 H3 o3 ES=>?_⟩
   ·rw[bT,hlen];rfl
   have nxl:a.la ≠ x:=aj CZ nx
   have npl:a.la ≠ pa:=aj CZ np
   have o4:Cn [a.la] H1 H3:=λb o nb e=>o3 b o (aj e nx) (aj e np) (o2 b o nb e)
   have Ec:=CQ.EU DG CZ o4 (k:=l) (x:=x) (dx:=dx) (pa:=pa) (o3 _ _ nxl npl g2) (ln:=kI ln m c t.len) ES np
   exact q H3 ((o1.mono (by simp)).trans (o4.mono (by simp))) Ec
theorem O9:au NGi ["self", "number", "lane"] (ai vx):=L2.C3
theorem yA(F:C2 K "go_in" "Yard.go_in" vx f fd)(Y:iL K ys)(O:Own P w K mg base ys fl ft fp dl dt dp)(me:bC K ys.Ca "enter" fe)(be:Binds K de ["self", "piece", "lane"] [])(Ge:BY P w K mg base ay 5 fe de ["self", "piece", "lane"] (mD K ys)) :
  BY P w K mg base ay 6 f fd ["self", "number", "lane"] (uX K ys):=by
 refine F.ok O9 (λ_ _ _ _ h=>?_) (λ_ _ _ s H _ Q E hr h=>?_)
 ·obtain⟨a,s,m,l,t,ln,rfl,_⟩:=h
  rfl
 ·obtain⟨a,st,m,l,t,ln,rfl,hY,hm,hl,MQ,FN,Jx,q⟩:=h
  have E5:Cj 4 _:=hr.mono (by decide)
  refine⟨_,ae (aD (i:=3) O9.nd rfl (Or.inl rfl) (aC (pv 0) Y.cl O.mt O.Gt E5 O.bt .nil ap (aa (pv 1) ac)))
   (ae (eM (pv 3) ak nk)
   (af (aP (aC (pv 0) Y.cl me Ge hr be .nil ap (aa (bF (aa (pv 1) (aa (aJ fz (al (pv 3) rfl) ak) ac))) (aa (pv 2) ac)))))),?_⟩
  obtain⟨Cf,Dy,pl⟩:=hY.hle
  refine⟨_,rfl,a.y,a.dy,_,rfl,hY.ins,rfl,_,rfl,a,st,m,t,Cf,rfl,hY,hm,Dy,λx dx wa H1 o1 nx nw g1 DK HX=>?_⟩
  refine⟨_,rfl,x,ys.BZ,dx,_,_,rfl,DK,Y.ct,Y.t5,rfl,_,_,rfl,rfl,dx,_,DK,by show 6 < 1000;decide,?_⟩
  have nlx:a.le ≠ x:=aj Dy nx
  have IA:wa ≠ x:=b9 HX DK (by intro z;cases z)
  have o2:Cn [a.le] H (upd H1 x (.ins ys.BZ dx (aS "gone" (.int (t.gone + 1)) (qJ t wa)))):=λb o nb e=>by rw[ah (aj e nx)];exact o1 b o nb e
  have HU:(upd H1 x (.ins ys.BZ dx (aS "gone" (.int (t.gone + 1)) (qJ t wa)))) x=some (.ins ys.BZ dx (qJ { t with gone:=t.gone + 1 } wa)):=ad
  have E8:=CQ.HE hY Dy o2 (k:=m) (x:=x) (dx:=dx) (wa:=wa) (by rw[ah nlx];exact g1) (t:={ t with gone:=t.gone + 1 }) HU (by rw[ah IA];exact HX) nw
  show _
  generalize upd H1 x (.ins ys.BZ dx (aS "gone" (.int (t.gone + 1)) (qJ t wa)))=H2 at o2 HU E8 ⊢
  refine⟨_,rfl,a.y,a.dy,_,rfl,E8.ins,rfl,_,rfl,_,rfl,x,ys.BZ,dx,_,_,rfl,HU,Y.ct,Y.t5,rfl,_,_,rfl,rfl,by show 2 <= sizeLine;decide,λpt Ft=>?_⟩
  have eg:t.gone + 1 - 1=t.gone:=by omega
  have s3:=(BX.refl H2).new (o := .tup [.int m, .int t.gone]) Ft
  have g3:(upd H2 pt (.tup [.int m, .int t.gone])) pt=some (.tup [.int m, .int t.gone]):=ad
  dsimp only
  rw[eg]
  generalize upd H2 pt (.tup [.int m, .int t.gone])=H3 at s3 g3 ⊢
  have HF:m < st.U.length:=(gQ0 hm)
  refine⟨_,rfl,a,jp st m t,_,m,t.gone,l,{ t with gone:=t.gone + 1 },ln,rfl,Cg.same E8 s3,⟨pt,rfl,g3⟩,by unfold jp;simp[HF],hl,MQ,FN,Jx,λH' o' IH=>?_⟩
  exact q H' ((o2.mono (by simp)).trans ((BX.CF s3).trans o')) IH
theorem BG(us:List Nat)(i:Nat):eK (nV us) none (some (i:Int))=nV (us.take i):=by
 unfold eK
 have e0:HT.DO (nV us).length 0 none=0:=rfl
 rw[e0,show HT.DO (nV us).length (nV us).length (some (i:Int))=min i (nV us).length from HT.DE _ _ i,drop_zero,Nat.sub_zero]
 unfold nV
 rw[map_take,length_map]
 refine List.ext_getElem? λj=>?_
 simp only[List.getElem?_take,getElem?_map]
 by_cases h1:j < i
 ·by_cases h2:j < us.length
  ·rw[if_pos (by omega),if_pos h1]
  ·rw[if_neg (by omega),if_pos h1,List.getElem?_eq_none (by omega)];rfl
 ·rw[if_neg (by omega),if_neg h1]
theorem zf(us:List Nat)(i:Nat):eK (nV us) (some (i:Int)) (some ((i:Int) + 1))=nV ((us.drop i).take 1):=by
 unfold eK
 rw[show HT.DO (nV us).length 0 (some (i:Int))=min i (nV us).length from HT.DE _ _ i,show((i:Int) + 1)=((i + 1:Nat):Int) by omega,show HT.DO (nV us).length (nV us).length (some ((i + 1:Nat):Int))=min (i + 1) (nV us).length from HT.DE _ _ (i + 1),cC]
 by_cases h:i < us.length
 ·rw[min_eq_left (by omega),min_eq_left (by omega),show i + 1 - i=1 by omega]
  unfold nV
  rw[map_take,List.map_drop]
 ·rw[min_eq_right (by omega),min_eq_right (by omega),Nat.sub_self,List.take_zero,drop_eq_nil_of_le (by omega)];rfl
theorem lD(us:List Nat):nV us=(iz us).map V.int:=(wM us).symm
theorem wO(k:Nat):∀us:List Nat,(iz us).idxOf (k:Int)=us.idxOf k
 | []=>rfl
 | u :: us=>by
  have ih:=wO k us
  unfold iz at ih ⊢
  rw[map_cons,List.idxOf_cons,List.idxOf_cons,ih]
  by_cases h:u=k
  ·subst h;simp
  ·have h':((u:Int) == (k:Int))=false:=by simp;omega
   have h2:(u == k)=false:=by simp;exact h
   rw[h',h2]
inductive Mv
 | Dh (k l:Nat) | on (k l:Nat) | DL (k:Nat) | back (k:Nat)
noncomputable def eP:Mv->List V
 | .Dh k l=>[.str "in", .int k, .int l]
 | .on k l=>[.str "on", .int k, .int l]
 | .DL k=>[.str "lie", .int k]
 | .back k=>[.str "back", .int k]
noncomputable def gJ(s:YS)(l:Nat)(m c:Int):Bool:=match s.lanes[l]? with
 | some ln=>cI ln.r ln.h m c
 | none=>false
noncomputable def ci(s:YS)(k:Nat):Option (Int × Int):=match s.lanes[k]? with
 | some ln=>ln.qs.head?
 | none=>none
noncomputable def qw(a:YA)(l g:Nat):List Nat:=if (a.ps.getD l (0,0)).2=(g:Int) then [] else a.wy (a.ps.getD l (0,0)).2.toNat g (some l)
noncomputable def du(a:YA)(s:YS)(k:Nat):List Nat:=match ci s k with
 | none=>[]
 | some q=>match s.U[q.1.toNat]? with
  | none=>[]
  | some t=>if q.2=0 then (qw a k t.goal.toNat).filter λl=>!decide (l ∈ t.way) else (t.way.drop (t.way.idxOf k + 1)).take 1
noncomputable def cG(a:YA)(t:c7):List Nat:=if t.gone=0 then a.wy t.start.toNat t.goal.toNat none else t.way.take 1
noncomputable def iA(a:YA)(s:YS)(k:Nat):List Mv:=match s.U[k]? with
 | none=>[]
 | some t=>if t.gone=t.len then [] else ((cG a t).filter λl=>gJ s l k t.gone).map (Mv.Dh k)
noncomputable def iW(a:YA)(s:YS)(k:Nat):List Mv:=match ci s k with
 | none=>[]
 | some q=>((du a s k).filter λl=>gJ s l q.1 q.2).map (Mv.on k)
noncomputable def fG(a:YA)(s:YS)(k:Nat):List Mv:=match ci s k with
 | none=>[]
 | some q=>match s.U[q.1.toNat]? with
  | none=>[]
  | some t=>if t.goal=(a.ps.getD k (0,0)).2 then [.DL k] else []
noncomputable def eG(s:YS)(k:Nat):List Mv:=match s.lanes[k]? with
 | some ln=>if 0 < ln.b then [.back k] else []
 | none=>[]
structure OA(a:YA):Prop where
 ends:∀(l:Nat)(pr:Int × Int),a.ps[l]? = some pr->∃e:Nat,pr.2=(e:Int)/\e < a.n
 C6:∀p g k,(a.wy p g k).length <= 400
structure U1(a:YA)(s:YS):Prop where
 lanes:s.lanes.length=a.ps.length
 lies:s.lies.length=a.n
 lets:∀(m:Nat)(t:c7),s.U[m]? = some t->∃x y:Nat,t.start=(x:Int)/\t.goal=(y:Int)/\x < a.n/\y < a.n
 Dt:∀(m:Nat)(t:c7),s.U[m]? = some t->(∀l ∈ t.way,l < a.ps.length)/\t.way.length <= 1000
 Dq:∀(k:Nat)(ln:cZ),s.lanes[k]? = some ln->∀q ∈ ln.qs,∃(m:Nat)(t:c7),q.1=(m:Int)/\s.U[m]? = some t/\k ∈ t.way
 C6:s.U.length <= 60
structure F1(K:Frag)(c:Cs)(TC:Addr)(J:TJ)(ys:Ys)(H:Hp)(a:YA)(s:YS):Prop where
 Y:CQ K ys H a s
 T:zS c TC J H a
 O:OA a
 G:U1 a s
theorem F1.same(W:Wy K TC fw dw J)(h:F1 K c TC J ys H a s)(e:BX H H'):F1 K c TC J ys H' a s:=⟨Cg.same h.Y e,CK.keep W h.T (BX.Cq e),h.O,h.G⟩
inductive r8(K:Frag)(c:Cs)(TC:Addr)(J:TJ)(ys:Ys)(f:YA->YS->Nat->List Mv)(len:YS->Nat)(vs:List V)(H:Hp)(Q:VK)(E:XK):Prop
 | mk (a:YA) (s:YS) (k:Nat) (_:vs=[.ref a.y, .int k]) (_:F1 K c TC J ys H a s) (_:k < len s) (_:∀(D:Addr)(C8:List V)(H':Hp),BX H H'->H D=none->H' D=some (.lst C8)->Paired (D6 H') C8 ((f a s k).map eP)->Q (.ref D) H')
def pU(K:Frag)(c:Cs)(TC:Addr)(J:TJ)(ys:Ys):Sp:=r8 K c TC J ys iA (λs=>s.U.length)
def pT(K:Frag)(c:Cs)(TC:Addr)(J:TJ)(ys:Ys):Sp:=r8 K c TC J ys iW (λs=>s.lanes.length)
def m8(K:Frag)(c:Cs)(TC:Addr)(J:TJ)(ys:Ys):Sp:=r8 K c TC J ys fG (λs=>s.lanes.length)
def jP(K:Frag)(c:Cs)(TC:Addr)(J:TJ)(ys:Ys):Sp:=r8 K c TC J ys (λ_ s k=>eG s k) (λs=>s.lanes.length)
inductive jO(K:Frag)(c:Cs)(TC:Addr)(J:TJ)(ys:Ys)(vs:List V)(H:Hp)(Q:VK)(E:XK):Prop
 | mk (a:YA) (s:YS) (k:Nat) (_:vs=[.ref a.y, .int k]) (_:F1 K c TC J ys H a s) (_:k < s.lanes.length) (_:∀(D:Addr)(H':Hp),BX H H'->H D=none->H' D=some (.lst (nV (du a s k)))->Q (.ref D) H')
inductive uQ(c:Cs)(C:Addr)(J:TJ)(vs:List V)(H:Hp)(Q:VK)(E:XK):Prop
 | mk (a:YA) (l g:Nat) (_:vs=[.ref a.tb, .int l, .int g]) (_:zS c C J H a) (_:OA a) (_:l < a.ps.length) (_:g < a.n) (_:∀(D:Addr)(H':Hp),BX H H'->H D=none->H' D=some (.lst (nV (qw a l g)))->Q (.ref D) H')
theorem n9(b:Nat->Bool)(f:Nat->Mv)(hn:us.length < sizeLine)(ha:H p=some (.lst (nV us)))
  (hs:∀(u:Nat)(H1:Hp)(acc:List V)(N:List V->Hp->Prop),u ∈ us->BX H H1->(b u=true->∀v H2,BX H1 H2->D6 H2 v (eP (f u))->N (acc ++ [v]) H2)->(b u=false->N acc H1) ->
   g (.int u) σ0 H1 λσ2 H2=>tt σ2 H2 λb H3=>if b=true then te σ2 H3 λy H4=>N (acc ++ [y]) H4 else N acc H3)
  (hq:∀D vs H1,BX H H1->H1 D=none->Paired (D6 H1) vs (((us.filter b).map f).map eP)->Q (.ref D) (upd H1 D (.lst vs))):dZ (xz K p) g tt te σ0 Q H:=by
 refine aX us.length hn (λi acc H'=>BX H H'/\Paired (D6 H') acc ((((us.take i).filter b).map f).map eP)) ⟨BX.refl _, .nil⟩ (λi acc H' h=>by
   rw[Paired.length h.2,length_map,length_map]
   have h1:=length_filter_le b (us.take i)
   have h2:=length_take_le i us
   omega) (λi acc H' hi h=>?_) (λacc H' h=>?_)
 ·obtain⟨s,hL⟩:=h
  have hu:us[i]? = some us[i]:=getElem?_eq_getElem hi
  refine⟨⟨_,_,Cb.of (s _ _ ha),na hu⟩,λv H2 y=>?_⟩
  obtain⟨rfl,y⟩:=y
  have hv:=y _ (Cb.of (s _ _ ha))
  rw[na hu]at hv
  cases hv
  refine hs us[i] H2 acc (λCT H4=>BX H H4/\Paired (D6 H4) CT ((((us.take (i + 1)).filter b).map f).map eP)) (getElem_mem hi) s (λhb v H3 s3 hv=>⟨s.trans s3,?_⟩) (λhb=>⟨s,?_⟩)
  ·rw[take_succ,hu,filter_append]
   have e:(some us[i]).toList.filter b=[us[i]]:=by simp[hb]
   rw[e,map_append,map_append]
   exact Paired.snoc hv (Paired.mono (λ_ _ z=>z.keep (BX.Cq s3)) hL)
  ·rw[take_succ,hu,filter_append]
   have e:(some us[i]).toList.filter b=[]:=by simp[hb]
   rw[e,append_nil]
   exact hL
 ·obtain⟨s,hL⟩:=h
  rw[take_length]at hL
  exact⟨⟨_,Cb.of (s _ _ ha),by rw[cC];exact le_refl _⟩,λD hD=>hq D acc H' s hD hL⟩
noncomputable def xV(s:Stmt):Scope:=match s with
 | .Return (some (.ListComp _ _ sc _)) _=>sc
 | _=>zQ0
noncomputable def B7(s:Stmt):Scope:=match s with
 | .If _ [s'] _ _=>xV s'
 | _=>zQ0
abbrev YG:List Str:=["self", "number", "letter", "wanted"]
abbrev YH:List Str:=["self", "lane", "piece", "letter", "behind"]
abbrev YI:List Str:=["self", "lane", "piece", "wanted"]
theorem KA:au YG ["self", "number"] (ai oh):=L2.C3
theorem U2:CP YG (ai oh) (xV ((aI oh).getD 3 (.Pass ⟨0,0,0,0⟩))) ["self", "number", "letter"] [0,1,2]:=L2.Dp
theorem U3:(["lane", "self", "number", "letter"]:List Str).Nodup:=by decide +kernel
theorem yz(F:C2 K "moves_in" "Yard.moves_in" oh f fd)(Y:iL K ys)(W:Wy K TC fw dw J)(K1:BY P w K mg base ay 3 fw dw ["self", "place", "goal", "came"] (cT J))
  (mo:bC K ys.C0 "open_to" fo) (bo:Binds K EY ["self", "letter", "count"] []) (Go:BY P w K mg base ay 1 fo EY ["self", "letter", "count"] (m7 ys.C0)) :
  BY P w K mg base ay 4 f fd ["self", "number"] (pU K c TC J ys):=by
 refine F.ok KA (λ_ _ _ _ h=>?_) (λ_ _ _ s H _ Q E hr h=>?_)
 ·obtain⟨a,s,k,rfl,_⟩:=h
  rfl
 ·obtain⟨a,st,k,rfl,hI,hk,q⟩:=h
  have CC:Cj 1 _:=hr.mono (by decide)
  refine⟨_,ae (aD (i:=2) KA.nd rfl (Or.inr rfl) (az aK (al (pv 0) rfl) (pv 1) (λ_ _=>rfl)))
   (ae (aR (ax bz (al (pv 2) rfl) (al (pv 2) rfl) (aA _)) (af (av (aU ac))) aF)
   (ae (aD (i:=3) KA.nd rfl (Or.inl rfl) (gr (ce (ax bz (al (pv 2) rfl) ak (aA _)) (aC (al (pv 0) rfl) W.cl W.m K1 hr W.b .nil ap (aa (al (pv 2) rfl) (aa (al (pv 2) rfl) (aa bP ac)))) (cb cU (al (pv 2) rfl) cW (c3 ak)))))
   (af (av (aT (own:=["lane"]) (capN:=["self", "number", "letter"]) (cap:=[0,1,2]) U2 rfl (aW (pv 3)) (λC s' H' fp=>⟨aw (i:=0) U3 rfl (Or.inl rfl),cz (bJ (aC (az (show lp _ (mP K) from aK) (show PE _ _ (uG K (sP 1) "lanes") from al (pv 1) rfl) (pv 0) (λ_ _=>rfl)) Y.L.cl mo Go CC bo .nil ap (aa (pv 2) (aa (show PE _ _ (uG K (sP 3) "gone") from al (pv 3) rfl) ac)))),bF (aa b8 (aa (pv 2) (aa (pv 0) ac)))⟩)))))),?_⟩
  have hY:=hI.Y
  obtain⟨Cf,Dy,pl⟩:=hY.hle
  obtain⟨t,ht⟩:∃t,st.U[k]? = some t:=⟨_,getElem?_eq_getElem hk⟩
  obtain⟨v,hv,x,dx,wa,rfl,hx,hw,_⟩:=Paired.at2 pl ht
  obtain⟨x0,y0,e1,e2,Rl,LK⟩:=hI.G.lets k t ht
  obtain⟨FN,hw9⟩:=hI.G.Dt k t ht
  unfold iA at q
  rw[ht]at q
  refine⟨_,rfl,a.y,ys.Ca,a.dy,_,_,rfl,hY.ins,Y.cl,Y.n4,rfl,_,rfl,a.le,Cf,(k:Int),_,rfl,rfl,Cb.of Dy,ao hv,?_⟩
  refine⟨_,rfl,x,ys.BZ,dx,_,_,rfl,hx,Y.ct,Y.t5,rfl,_,rfl,x,ys.BZ,dx,_,_,rfl,hx,Y.ct,Y.t3,rfl,rfl,_,rfl,?_⟩
  rw[bT]
  by_cases hg:t.gone=t.len
  ·rw[decide_eq_true hg]
   dsimp only at q
   rw[if_pos hg]at q
   exact aN ⟨zero_le _,λD hD=>q D [] _ ((BX.refl H).new hD) hD ad .nil⟩
  rw[decide_eq_false hg]
  dsimp only at q
  rw[if_neg hg]at q
  refine aH ⟨λv H1=>∃D,v = .ref D/\BX H H1/\H1 D=some (.lst (nV (cG a t))),?_,?_⟩
  ·refine⟨_,rfl,x,ys.BZ,dx,_,_,rfl,hx,Y.ct,Y.t5,rfl,rfl,_,rfl,?_⟩
   rw[bT]
   unfold cG
   by_cases h0:t.gone=0
   ·rw[decide_eq_true h0,if_pos h0]
    obtain⟨EE,fst,E7,C4,Ds⟩:=hI.T.i
    refine aN ⟨_,rfl,a.y,ys.Ca,a.dy,_,_,rfl,hY.ins,Y.cl,Y.n1,rfl,a.tb,EE,fst,rfl,E7,Ds,_,rfl,x,ys.BZ,dx,_,_,rfl,hx,Y.ct,Y.t1,rfl,_,rfl,x,ys.BZ,dx,_,_,rfl,hx,Y.ct,Y.t2,rfl,?_⟩
    rw[e1,e2,toNat_natCast,toNat_natCast]
    exact⟨a.tb,a.n,a.wy,x0,y0,none,rfl,hI.T.j,Rl,LK,λD H1 s1 hD gD=>⟨D,rfl,s1,gD⟩⟩
   ·rw[decide_eq_false h0,if_neg h0]
    refine aH ⟨_,rfl,x,ys.BZ,dx,_,_,rfl,hx,Y.ct,Y.t6,rfl,_,rfl,wa,_,rfl,Cb.of hw,λD hD=>⟨D,rfl,(BX.refl H).new hD,?_⟩⟩
    rw[ad,show((1:Int))=((1:Nat):Int) from rfl,BG]
  rintro v H1 ⟨D,rfl,s1,gD⟩
  have GD:=hI.same W s1
  have DG:=GD.Y
  have DK:=s1 _ _ hx
  obtain⟨Ct,CZ,Hh⟩:=DG.Dr
  have YJ:(cG a t).length <= 1000:=by
   unfold cG
   by_cases h0:t.gone=0
   ·rw[if_pos h0];exact le_trans (hI.O.C6 _ _ _) (by decide)
   ·rw[if_neg h0];rw[length_take];omega
  have HY:∀u ∈ cG a t,u < a.ps.length:=λu hu=>by
   unfold cG at hu
   by_cases h0:t.gone=0
   ·rw[if_pos h0,e1,e2,toNat_natCast,toNat_natCast]at hu;exact hI.T.ok _ _ _ Rl LK u hu
   ·rw[if_neg h0]at hu;exact FN u (mem_of_mem_take hu)
  refine⟨_,rfl,D,rfl,⟨_,Cb.of gD⟩,?_⟩
  refine n9 (λl=>gJ st l k t.gone) (Mv.Dh k) (by rw[sizeLine_eq];omega) gD (λu H2 acc N hu s2 II LL=>?_) (λD2 KC H2 s2 Dx hp=>?_)
  ·have Fu:=GD.same W s2
   obtain⟨KD,KG,KH⟩:=Fu.Y.Dr
   have U4:u < st.lanes.length:=by rw[hI.G.lanes];exact HY u hu
   obtain⟨ln,C9⟩:∃ln,st.lanes[u]? = some ln:=⟨_,getElem?_eq_getElem U4⟩
   obtain⟨vl,IJ,xl,DZ,JL,KI,rfl,hL,_⟩:=Paired.at2 KH C9
   refine⟨_,rfl,a.y,ys.Ca,a.dy,_,_,rfl,Fu.Y.ins,Y.cl,Y.n3,rfl,_,rfl,a.la,KD,(u:Int),_,rfl,rfl,Cb.of KG,ao IJ,xl,DZ,_,rfl,hL.ins,rfl,_,rfl,_,rfl,x,ys.BZ,dx,_,_,rfl,s2 _ _ DK,Y.ct,Y.t5,rfl,xl,DZ,JL,ln.r,ln.b,ln.h,(k:Int),t.gone,rfl,hL.ins,_,rfl,?_⟩
   have eo:gJ st u k t.gone=cI ln.r ln.h k t.gone:=by unfold gJ;rw[C9]
   cases ho:cI ln.r ln.h k t.gone with
   | false=>exact aH (LL (by rw[eo,ho]))
   | true=>exact aN ⟨_,rfl,_,rfl,by show 3 <= sizeLine;decide,λz hz=>II (by rw[eo,ho]) _ _ ((BX.refl H2).new hz) ⟨z,rfl,ad⟩⟩
  ·exact q D2 KC _ ((s1.trans s2).new Dx) (s1.free (s2.free Dx)) ad (Paired.mono (λ_ _ z=>z.keep (BX.Cq ((BX.refl H2).new Dx))) hp)
theorem kR(h:Cw H Cy qs):(qs.head? = none/\qQ Cy = .Cp)∨∃q pt,qs.head? = some q/\qQ Cy = .ref pt/\H pt=some (.tup [.int q.1, .int q.2]):=by
 cases h with
 | nil=>exact .inl ⟨rfl,rfl⟩
 | cons x r=>obtain⟨t,rfl,ht⟩:=x;exact .inr ⟨_,t,rfl,rfl,ht⟩
theorem OB:au ["table", "lane", "goal", "end"] ["table", "lane", "goal"] (ai TL):=L2.C3
theorem Be(F:C2 K "onward" "onward" TL f fd)(L:lc K c)(W:Wy K C fw dw J)(Gw:BY P w K mg base ay 3 fw dw ["self", "place", "goal", "came"] (cT J))
  (M:zo K c fe de) (Ge:BY P w K mg base ay 1 fe de ["self", "lane"] (pZ c Prod.snd)):BY P w K mg base ay 4 f fd ["table", "lane", "goal"] (uQ c C J):=by
 refine F.ok OB (λ_ _ _ _ h=>?_) (λ_ _ _ s H _ Q E hr h=>?_)
 ·obtain⟨a,l,g,rfl,_⟩:=h
  rfl
 ·obtain⟨a,l,g,rfl,hT,hO,hl,hg,q⟩:=h
  have CC:Cj 1 _:=hr.mono (by decide)
  refine⟨_,ae (aD (i:=3) OB.nd rfl (Or.inl rfl) (aC (al (pv 0) rfl) L.cl M.m Ge CC M.b .nil ap (aa (pv 1) ac)))
   (af (av (ce (ax bz (pv 3) (pv 2) (aA _)) (aU ac) (aC (pv 0) W.cl W.m Gw hr W.b .nil ap (aa (pv 3) (aa (pv 2) (aa (pv 1) ac))))))),?_⟩
  obtain⟨dx,fs,hx,hf,U5⟩:=hT.i
  have he:=getElem?_eq_getElem hl
  have JM:a.ps.getD l (0,0)=a.ps[l]:=by rw[getD_eq_getElem?_getD,he];rfl
  unfold qw at q
  rw[JM]at q
  obtain⟨e,ee,OC⟩:=hO.ends l _ he
  refine⟨_,rfl,a.tb,C,dx,fs,_,rfl,hx,W.cl,W.nl,hf,a.lx,a.Cr,_,rfl,hT.l.1,rfl,_,rfl,a.lx,a.Cr,a.lt,(a.n:Int),a.Cf,a.ps,l,_,rfl,hT.l,he,?_⟩
  rw[ee]at q ⊢
  rw[toNat_natCast]at q
  refine⟨_,rfl,_,rfl,rfl,_,rfl,?_⟩
  rw[bT]
  by_cases h1:(e:Int)=(g:Int)
  ·rw[decide_eq_true h1]
   rw[if_pos h1]at q
   exact aN ⟨zero_le _,λD hD=>q D _ ((BX.refl H).new hD) hD ad⟩
  ·rw[decide_eq_false h1]
   rw[if_neg h1]at q
   exact aH ⟨_,rfl,a.tb,dx,fs,rfl,hx,U5,_,rfl,_,rfl,_,rfl,a.tb,a.n,a.wy,e,g,some l,rfl,hT.j,OC,hg,λD H' s' hD gD=>q D _ s' hD gD⟩
theorem IK:au YH ["self", "lane"] (ai iw):=L2.C3
theorem U6:CP YH (ai iw) (B7 ((aI iw).getD 3 (.Pass ⟨0,0,0,0⟩))) ["letter"] [3]:=L2.Dp
theorem U7:(["way", "letter"]:List Str).Nodup:=by decide +kernel
theorem tD(F:C2 K "wanted" "Yard.wanted" iw f fd)(Y:iL K ys)(W:Wy K TC fw dw J)
  (mf:bC K ys.C0 "front" ff) (bf:Binds K df ["self"] []) (Gf:BY P w K mg base ay 1 ff df ["self"] (jw ys.C0))
  (mo:mg "onward" = some (.ref fo)) (ko:keepIn K (.ref fo)=true) (bo:Binds K EY ["table", "lane", "goal"] []) (Go:BY P w K mg base ay 4 fo EY ["table", "lane", "goal"] (uQ c TC J)) :
  BY P w K mg base ay 5 f fd ["self", "lane"] (jO K c TC J ys):=by
 refine F.ok IK (λ_ _ _ _ h=>?_) (λ_ _ _ s H _ Q E hr h=>?_)
 ·obtain⟨a,s,k,rfl,_⟩:=h
  rfl
 ·obtain⟨a,st,k,rfl,hI,hk,q⟩:=h
  have CC:Cj 1 _:=hr.mono (by decide)
  refine⟨_,ae (aD (i:=2) IK.nd rfl (Or.inl rfl) (b6 (az aK (al (pv 0) rfl) (pv 1) (λ_ _=>rfl)) Y.L.cl mf Gf CC bf .nil ap))
   (ae (aR (ax iV (pv 2) bP (aA _)) (af (av (aU ac))) aF)
   (ae (aD (i:=3) IK.nd rfl (Or.inr rfl) (az aK (al (pv 0) rfl) (az aG (pv 2) ak (λ_ _=>rfl)) (λ_ _=>rfl)))
   (ae (aR (ax bz (az aG (pv 2) ak (λ_ _=>rfl)) ak (aA _))
    (af (av (aT (own:=["way"]) (capN:=["letter"]) (cap:=[3]) U6 rfl (aW (aq Go hr rfl mo ko bo .nil ap (aa (al (pv 0) rfl) (aa (pv 1) (aa (al (pv 3) rfl) ac))))) (λC s' H' fp=>⟨aw (i:=0) U7 rfl (Or.inl rfl),cz (ax (show eW _ (compareOp .NotIn) (Tb K true) from mU) (pv 0) (show PE _ _ (uG K (sP 1) "way") from al (pv 1) rfl) (by with_unfolding_all rfl)),pv 0⟩)))) aF)
   (ae (aD (i:=4) IK.nd rfl (Or.inl rfl) (aJ cn (bW plainAttrs_list PySem.F.slot_list_index PySem.F.type_list_index tO (al (pv 3) rfl) (aa (pv 1) ac)) ak))
   (af (av (cb cU (al (pv 3) rfl) (c3 (pv 4)) (c3 (aJ cn (pv 4) ak))))))))),?_⟩
  have hY:=hI.Y
  obtain⟨Ct,CZ,Hh⟩:=hY.Dr
  obtain⟨ln,C9⟩:∃ln,st.lanes[k]? = some ln:=⟨_,getElem?_eq_getElem hk⟩
  obtain⟨vl,IJ,xl,DZ,JL,KI,rfl,hL,_⟩:=Paired.at2 Hh C9
  refine⟨_,rfl,a.y,ys.Ca,a.dy,_,_,rfl,hY.ins,Y.cl,Y.n3,rfl,_,rfl,a.la,Ct,(k:Int),_,rfl,rfl,Cb.of CZ,ao IJ,xl,DZ,_,rfl,hL.ins,rfl,xl,DZ,JL,ln.r,ln.b,ln.h,KI,ln.qs,rfl,hL,?_⟩
  unfold du ci at q
  rw[C9]at q
  dsimp only at q
  rcases kR hL.Dq with ⟨hf,ef⟩ | ⟨pq,pt,hf,ef,Ft⟩
  ·rw[hf]at q
   rw[ef]
   exact⟨_,rfl,rfl,_,rfl,aN ⟨zero_le _,λD hD=>q D _ ((BX.refl H).new hD) hD ad⟩⟩
  rw[hf]at q
  rw[ef]
  have hqm:pq ∈ ln.qs:=mem_of_head? hf
  obtain⟨m,t,em,hm,KJ⟩:=hI.G.Dq k ln C9 pq hqm
  obtain⟨x0,y0,e1,e2,Rl,LK⟩:=hI.G.lets m t hm
  obtain⟨FN,hw9⟩:=hI.G.Dt m t hm
  rw[em]at Ft
  dsimp only at q
  rw[em,toNat_natCast,hm]at q
  dsimp only at q
  refine⟨_,rfl,rfl,_,rfl,aH ?_⟩
  obtain⟨Cf,Dy,pl⟩:=hY.hle
  obtain⟨v,hv,x,dx,wa,rfl,hx,hw,_⟩:=Paired.at2 pl hm
  refine⟨_,rfl,a.y,ys.Ca,a.dy,_,_,rfl,hY.ins,Y.cl,Y.n4,rfl,_,rfl,pt,_,0,_,rfl,rfl,Ck.of Ft,ao (j:=0) rfl,a.le,Cf,(m:Int),_,rfl,rfl,Cb.of Dy,ao hv,?_⟩
  refine⟨_,rfl,pt,_,1,_,rfl,rfl,Ck.of Ft,ao (j:=1) rfl,rfl,_,rfl,?_⟩
  rw[bT]
  by_cases h0:pq.2=0
  ·rw[decide_eq_true h0]
   rw[if_pos h0,e2,toNat_natCast]at q
   refine aN ⟨_,rfl,a.y,ys.Ca,a.dy,_,_,rfl,hY.ins,Y.cl,Y.n1,rfl,_,rfl,_,rfl,x,ys.BZ,dx,_,_,rfl,hx,Y.ct,Y.t2,rfl,?_⟩
   rw[e2]
   refine⟨a,k,y0,rfl,hI.T,hI.O,by rw[←hI.G.lanes];exact hk,LK,λD H1 s1 hD gD=>⟨D,rfl,⟨_,Cb.of gD⟩,?_⟩⟩
   have Ko:(qw a k y0).length <= 400:=by
    unfold qw
    by_cases z:(a.ps.getD k (0,0)).2=(y0:Int)
    ·rw[if_pos z];exact zero_le _
    ·rw[if_neg z];exact hI.O.C6 _ _ _
   refine ge (λv=>match v with | .int i=>!decide (i ∈ iz t.way) | _=>false) (λv=>v) (by rw[cC,sizeLine_eq];omega) (Cb.of gD) (λy acc N hy h=>?_) (λD2 Dx=>?_)
   ·obtain⟨u,hu,rfl⟩:=mZ hy
    refine⟨_,rfl,_,rfl,x,ys.BZ,dx,_,_,rfl,s1 _ _ hx,Y.ct,Y.t6,rfl,wa,_,rfl, .inl (Cb.of (s1 _ _ hw)),rfl,by rw[lD];exact jc _,_,rfl,?_⟩
    rw[lD,nn]
    have h:N (if (!decide ((u:Int) ∈ iz t.way))=true then acc ++ [V.int u] else acc) H1:=h
    cases hb:decide ((u:Int) ∈ iz t.way) with
    | true =>
     rw[hb]at h
     exact aH h
    | false =>
     rw[hb]at h
     exact aN ⟨_,rfl,h⟩
   ·have e:((nV (qw a k y0)).filter (λv=>match v with | .int i=>!decide (i ∈ iz t.way) | _=>false)).map (λv=>v)=nV ((qw a k y0).filter λl=>!decide (l ∈ t.way)):=by
     rw[List.map_id']
     unfold nV
     rw[List.filter_map]
     congr 1
     refine filter_congr λu _=>?_
     show(!decide ((u:Int) ∈ iz t.way))=_
     rw[qM]
    rw[e]
    exact q D2 _ (s1.new Dx) (s1.free Dx) ad
  ·rw[decide_eq_false h0]
   rw[if_neg h0]at q
   refine aH ⟨_,rfl,x,ys.BZ,dx,_,_,rfl,hx,Y.ct,Y.t6,rfl, .inl ⟨rfl,_,Cb.of hw⟩,_,rfl,wa,iz t.way,(k:Int),rfl,rfl,by rw[←lD];exact hw,Dg.mpr ⟨k,KJ,rfl⟩,by unfold iz;rw[length_map];omega,_,_,rfl,rfl,?_⟩
   rw[wO]
   refine⟨_,rfl,x,ys.BZ,dx,_,_,rfl,hx,Y.ct,Y.t6,rfl,_,rfl,_,rfl,_,rfl,_,_,rfl,rfl,_,rfl,wa,_,rfl,Cb.of hw,λD hD=>?_⟩
   have e:eK (nV t.way) (some (((t.way.idxOf k:Nat):Int) + 1)) (some (((t.way.idxOf k:Nat):Int) + 1 + 1))=nV ((t.way.drop (t.way.idxOf k + 1)).take 1):=by
    have:=zf t.way (t.way.idxOf k + 1)
    rw[←this]
    rfl
   dsimp only
   rw[e]
   exact q D _ ((BX.refl H).new hD) hD ad
theorem KL:au YI ["self", "lane"] (ai og):=L2.C3
theorem U8:CP YI (ai og) (xV ((aI og).getD 2 (.Pass ⟨0,0,0,0⟩))) ["self", "lane", "piece"] [0,1,2]:=L2.Dp
theorem U9:(["other", "self", "lane", "piece"]:List Str).Nodup:=by decide +kernel
theorem yy(F:C2 K "moves_on" "Yard.moves_on" og f fd)(Y:iL K ys)(W:Wy K TC fw dw J)
  (mf:bC K ys.C0 "front" ff) (bf:Binds K df ["self"] []) (Gf:BY P w K mg base ay 1 ff df ["self"] (jw ys.C0))
  (ma:bC K ys.Ca "wanted" fa) (ba:Binds K da ["self", "lane"] []) (Ga:BY P w K mg base ay 5 fa da ["self", "lane"] (jO K c TC J ys))
  (mo:bC K ys.C0 "open_to" fo) (bo:Binds K EY ["self", "letter", "count"] []) (Go:BY P w K mg base ay 1 fo EY ["self", "letter", "count"] (m7 ys.C0)) :
  BY P w K mg base ay 6 f fd ["self", "lane"] (pT K c TC J ys):=by
 refine F.ok KL (λ_ _ _ _ h=>?_) (λ_ _ _ s H _ Q E hr h=>?_)
 ·obtain⟨a,s,k,rfl,_⟩:=h
  rfl
 ·obtain⟨a,st,k,rfl,hI,hk,q⟩:=h
  have CC:Cj 1 _:=hr.mono (by decide)
  refine⟨_,ae (aD (i:=2) KL.nd rfl (Or.inr rfl) (b6 (az aK (al (pv 0) rfl) (pv 1) (λ_ _=>rfl)) Y.L.cl mf Gf CC bf .nil ap))
   (ae (aD (i:=3) KL.nd rfl (Or.inl rfl) (aC (pv 0) Y.cl ma Ga hr ba .nil ap (aa (pv 1) ac)))
   (af (av (aT (own:=["other"]) (capN:=["self", "lane", "piece"]) (cap:=[0,1,2]) U8 rfl (aW (pv 3)) (λC s' H' fp=>⟨aw (i:=0) U9 rfl (Or.inl rfl),cz (bJ (aC (az (show lp _ (mP K) from aK) (show PE _ _ (uG K (sP 1) "lanes") from al (pv 1) rfl) (pv 0) (λ_ _=>rfl)) Y.L.cl mo Go CC bo .nil ap (aa (az (show lp _ (k4 K) from aG) (pv 3) ak (λ_ _=>rfl)) (aa (az (show lp _ (k4 K) from aG) (pv 3) ak (λ_ _=>rfl)) ac)))),bF (aa b8 (aa (pv 2) (aa (pv 0) ac)))⟩))))),?_⟩
  have hY:=hI.Y
  obtain⟨Ct,CZ,Hh⟩:=hY.Dr
  obtain⟨ln,C9⟩:∃ln,st.lanes[k]? = some ln:=⟨_,getElem?_eq_getElem hk⟩
  obtain⟨vl,IJ,xl,DZ,JL,KI,rfl,hL,_⟩:=Paired.at2 Hh C9
  refine⟨_,rfl,a.y,ys.Ca,a.dy,_,_,rfl,hY.ins,Y.cl,Y.n3,rfl,_,rfl,a.la,Ct,(k:Int),_,rfl,rfl,Cb.of CZ,ao IJ,xl,DZ,_,rfl,hL.ins,rfl,xl,DZ,JL,ln.r,ln.b,ln.h,KI,ln.qs,rfl,hL,?_⟩
  refine⟨_,rfl,a.y,a.dy,_,rfl,hY.ins,rfl,_,rfl,a,st,k,rfl,hI,hk,λD H1 s1 hD gD=>?_⟩
  refine⟨_,rfl,D,rfl,⟨_,Cb.of gD⟩,?_⟩
  have GD:=hI.same W s1
  have eF:ci st k=ln.qs.head?:=by unfold ci;rw[C9]
  have HY:∀u ∈ du a st k,u < a.ps.length:=λu hu=>by
   unfold du at hu
   rw[eF]at hu
   cases hq:ln.qs.head? with
   | none=>rw[hq]at hu;cases hu
   | some pq =>
    rw[hq]at hu
    obtain⟨m,t,em,hm,KJ⟩:=hI.G.Dq k ln C9 pq (mem_of_head? hq)
    obtain⟨x0,y0,e1,e2,Rl,LK⟩:=hI.G.lets m t hm
    dsimp only at hu
    rw[em,toNat_natCast,hm]at hu
    dsimp only at hu
    by_cases h0:pq.2=0
    ·rw[if_pos h0,e2,toNat_natCast]at hu
     have hu:=(mem_filter.mp hu).1
     unfold qw at hu
     by_cases z:(a.ps.getD k (0,0)).2=(y0:Int)
     ·rw[if_pos z]at hu;cases hu
     ·rw[if_neg z]at hu
      have HZ:k < a.ps.length:=by rw[←hI.G.lanes];exact hk
      obtain⟨e,ee,OC⟩:=hI.O.ends k _ (getElem?_eq_getElem HZ)
      have JM:a.ps.getD k (0,0)=a.ps[k]:=by rw[getD_eq_getElem?_getD,getElem?_eq_getElem HZ];rfl
      rw[JM,ee,toNat_natCast]at hu
      exact hI.T.ok _ _ _ OC LK u hu
    ·rw[if_neg h0]at hu
     exact(hI.G.Dt m t hm).1 u (List.mem_of_mem_drop (mem_of_mem_take hu))
  have FN:(du a st k).length <= 1000:=by
   unfold du
   cases ci st k with
   | none=>exact zero_le _
   | some pq =>
    dsimp only
    cases st.U[pq.1.toNat]? with
    | none=>exact zero_le _
    | some t =>
     dsimp only
     by_cases h0:pq.2=0
     ·rw[if_pos h0]
      refine le_trans (length_filter_le _ _) ?_
      unfold qw
      by_cases z:(a.ps.getD k (0,0)).2=((t.goal.toNat:Nat):Int)
      ·rw[if_pos z];exact zero_le _
      ·rw[if_neg z];exact le_trans (hI.O.C6 _ _ _) (by decide)
     ·rw[if_neg h0,length_take];omega
  unfold iW at q
  rw[eF]at q
  rcases kR hL.Dq with ⟨hf,ef⟩ | ⟨pq,pt,hf,ef,Ft⟩
  ·have e0:du a st k=[]:=by unfold du;rw[eF,hf]
   rw[hf]at q
   rw[e0]at gD
   refine n9 (λl=>false) (Mv.on k) (by rw[sizeLine_eq];decide) gD (λu H2 acc N hu s2 II LL=>by cases hu) (λD2 KC H2 s2 Dx hp=>?_)
   exact q D2 KC _ ((s1.trans s2).new Dx) (s1.free (s2.free Dx)) ad (Paired.mono (λ_ _ z=>z.keep (BX.Cq ((BX.refl H2).new Dx))) hp)
  rw[hf]at q
  dsimp only at q
  rw[ef]
  refine n9 (λl=>gJ st l pq.1 pq.2) (Mv.on k) (by rw[sizeLine_eq];omega) gD (λu H2 acc N hu s2 II LL=>?_) (λD2 KC H2 s2 Dx hp=>?_)
  ·have Fu:=GD.same W s2
   obtain⟨KD,KG,KH⟩:=Fu.Y.Dr
   have U4:u < st.lanes.length:=by rw[hI.G.lanes];exact HY u hu
   obtain⟨D3,Em⟩:∃ln,st.lanes[u]? = some ln:=⟨_,getElem?_eq_getElem U4⟩
   obtain⟨vu,hvu,xu,YK,pau,pvu,rfl,YL,_⟩:=Paired.at2 KH Em
   have HG:=s2 _ _ (s1 _ _ Ft)
   refine⟨_,rfl,a.y,ys.Ca,a.dy,_,_,rfl,Fu.Y.ins,Y.cl,Y.n3,rfl,_,rfl,a.la,KD,(u:Int),_,rfl,rfl,Cb.of KG,ao hvu,xu,YK,_,rfl,YL.ins,rfl,_,rfl,pt,_,0,_,rfl,rfl,Ck.of HG,ao (j:=0) rfl,_,rfl,pt,_,1,_,rfl,rfl,Ck.of HG,ao (j:=1) rfl,xu,YK,pau,D3.r,D3.b,D3.h,pq.1,pq.2,rfl,YL.ins,_,rfl,?_⟩
   have eo:gJ st u pq.1 pq.2=cI D3.r D3.h pq.1 pq.2:=by unfold gJ;rw[Em]
   cases ho:cI D3.r D3.h pq.1 pq.2 with
   | false=>exact aH (LL (by rw[eo,ho]))
   | true=>exact aN ⟨_,rfl,_,rfl,by show 3 <= sizeLine;decide,λz hz=>II (by rw[eo,ho]) _ _ ((BX.refl H2).new hz) ⟨z,rfl,ad⟩⟩
  ·exact q D2 KC _ ((s1.trans s2).new Dx) (s1.free (s2.free Dx)) ad (Paired.mono (λ_ _ z=>z.keep (BX.Cq ((BX.refl H2).new Dx))) hp)
theorem OD:au ["self", "lane", "piece"] ["self", "lane"] (ai qf):=L2.C3
theorem vZ(F:C2 K "moves_lie" "Yard.moves_lie" qf f fd)(Y:iL K ys)(L:lc K c)(W:Wy K TC fw dw J)
  (mf:bC K ys.C0 "front" ff) (bf:Binds K df ["self"] []) (Gf:BY P w K mg base ay 1 ff df ["self"] (jw ys.C0)) (M:zo K c fe de) (Ge:BY P w K mg base ay 1 fe de ["self", "lane"] (pZ c Prod.snd)) :
  BY P w K mg base ay 2 f fd ["self", "lane"] (m8 K c TC J ys):=by
 refine F.ok OD (λ_ _ _ _ h=>?_) (λ_ _ _ s H _ Q E hr h=>?_)
 ·obtain⟨a,s,k,rfl,_⟩:=h
  rfl
 ·obtain⟨a,st,k,rfl,hI,hk,q⟩:=h
  refine⟨_,ae (aD (i:=2) OD.nd rfl (Or.inl rfl) (b6 (az aK (al (pv 0) rfl) (pv 1) (λ_ _=>rfl)) Y.L.cl mf Gf hr bf .nil ap))
   (ae (aR (PW.pt (fE (ax iV (pv 2) bP (aA _)) (dP (ax jk (al (az aK (al (pv 0) rfl) (az aG (pv 2) ak (λ_ _=>rfl)) (λ_ _=>rfl)) rfl) (aC (al (al (pv 0) rfl) rfl) L.cl M.m Ge hr M.b .nil ap (aa (pv 1) ac)) (aA _))))) (af (av (aU ac))) aF)
   (af (av (aU (aa (bF (aa b8 (aa (pv 1) ac))) ac))))),?_⟩
  have hY:=hI.Y
  obtain⟨Ct,CZ,Hh⟩:=hY.Dr
  obtain⟨ln,C9⟩:∃ln,st.lanes[k]? = some ln:=⟨_,getElem?_eq_getElem hk⟩
  obtain⟨vl,IJ,xl,DZ,JL,KI,rfl,hL,_⟩:=Paired.at2 Hh C9
  refine⟨_,rfl,a.y,ys.Ca,a.dy,_,_,rfl,hY.ins,Y.cl,Y.n3,rfl,_,rfl,a.la,Ct,(k:Int),_,rfl,rfl,Cb.of CZ,ao IJ,xl,DZ,_,rfl,hL.ins,rfl,xl,DZ,JL,ln.r,ln.b,ln.h,KI,ln.qs,rfl,hL,?_⟩
  have eF:ci st k=ln.qs.head?:=by unfold ci;rw[C9]
  unfold fG at q
  rw[eF]at q
  rcases kR hL.Dq with ⟨hf,ef⟩ | ⟨pq,pt,hf,ef,Ft⟩
  ·rw[hf]at q
   rw[ef]
   exact⟨_,rfl,rfl,_,rfl,aN (aN ⟨zero_le _,λD hD=>q D [] _ ((BX.refl H).new hD) hD ad .nil⟩)⟩
  rw[hf]at q
  rw[ef]
  obtain⟨m,t,em,hm,KJ⟩:=hI.G.Dq k ln C9 pq (mem_of_head? hf)
  rw[em]at Ft
  dsimp only at q
  rw[em,toNat_natCast,hm]at q
  dsimp only at q
  obtain⟨Cf,Dy,pl⟩:=hY.hle
  obtain⟨v,hv,x,dx,wa,rfl,hx,hw,_⟩:=Paired.at2 pl hm
  obtain⟨EE,fst,E7,C4,Ds⟩:=hI.T.i
  have HZ:k < a.ps.length:=by rw[←hI.G.lanes];exact hk
  have he:=getElem?_eq_getElem HZ
  have JM:a.ps.getD k (0,0)=a.ps[k]:=by rw[getD_eq_getElem?_getD,he];rfl
  rw[JM]at q
  refine⟨_,rfl,rfl,_,rfl,aH ⟨_,rfl,a.y,ys.Ca,a.dy,_,_,rfl,hY.ins,Y.cl,Y.n4,rfl,_,rfl,pt,_,0,_,rfl,rfl,Ck.of Ft,ao (j:=0) rfl,a.le,Cf,(m:Int),_,rfl,rfl,Cb.of Dy,ao hv,x,ys.BZ,dx,_,_,rfl,hx,Y.ct,Y.t2,rfl,_,rfl,a.y,ys.Ca,a.dy,_,_,rfl,hY.ins,Y.cl,Y.n1,rfl,a.tb,TC,EE,fst,_,rfl,E7,W.cl,W.nl,C4,a.lx,a.Cr,_,rfl,hI.T.l.1,rfl,_,rfl,a.lx,a.Cr,a.lt,(a.n:Int),a.Cf,a.ps,k,_,rfl,hI.T.l,he,rfl,_,rfl,?_⟩⟩
  rw[bT]
  by_cases hg:t.goal=a.ps[k].2
  ·rw[decide_eq_true hg]
   rw[if_pos hg]at q
   refine aH ⟨_,rfl,by show 2 <= sizeLine;decide,λz hz=>⟨by show 1 <= sizeLine;decide,λD hD=>?_⟩⟩
   have s2:=(BX.refl H).new (o := .tup [.str "lie", .int k]) hz
   have gz:(upd H z (.tup [.str "lie", .int k])) z=some (.tup [.str "lie", .int k]):=ad
   exact q D [.ref z] _ (s2.new hD) (s2.free hD) ad (.cons ⟨z,rfl,by rw[ah (aj gz hD)];exact gz⟩ .nil)
  ·rw[decide_eq_false hg]
   rw[if_neg hg]at q
   exact aN ⟨zero_le _,λD hD=>q D [] _ ((BX.refl H).new hD) hD ad .nil⟩
theorem UA:au ["self", "lane"] ["self", "lane"] (ai mI):=L2.C3
theorem tI(F:C2 K "moves_back" "Yard.moves_back" mI f fd)(Y:iL K ys):BY P w K mg base ay 1 f fd ["self", "lane"] (jP K c TC J ys):=by
 refine F.ok UA (λ_ _ _ _ h=>?_) (λ_ _ _ s H _ Q E hr h=>?_)
 ·obtain⟨a,s,k,rfl,_⟩:=h
  rfl
 ·obtain⟨a,st,k,rfl,hI,hk,q⟩:=h
  refine⟨_,af (av (ce (ax oE (al (az aK (al (pv 0) rfl) (pv 1) (λ_ _=>rfl)) rfl) ak (aA _)) (aU (aa (bF (aa b8 (aa (pv 1) ac))) ac)) (aU ac))),?_⟩
  have hY:=hI.Y
  obtain⟨Ct,CZ,Hh⟩:=hY.Dr
  obtain⟨ln,C9⟩:∃ln,st.lanes[k]? = some ln:=⟨_,getElem?_eq_getElem hk⟩
  obtain⟨vl,IJ,xl,DZ,JL,KI,rfl,hL,_⟩:=Paired.at2 Hh C9
  unfold eG at q
  rw[C9]at q
  dsimp only at q
  refine⟨_,rfl,a.y,ys.Ca,a.dy,_,_,rfl,hY.ins,Y.cl,Y.n3,rfl,_,rfl,a.la,Ct,(k:Int),_,rfl,rfl,Cb.of CZ,ao IJ,xl,ys.C0,DZ,_,_,rfl,hL.ins,Y.L.cl,Y.L.n2,rfl,_,_,rfl,rfl,_,rfl,?_⟩
  by_cases hb:0 < ln.b
  ·rw[decide_eq_true hb]
   rw[if_pos hb]at q
   refine aN ⟨_,rfl,by show 2 <= sizeLine;decide,λz hz=>⟨by show 1 <= sizeLine;decide,λD hD=>?_⟩⟩
   have s2:=(BX.refl H).new (o := .tup [.str "back", .int k]) hz
   have gz:(upd H z (.tup [.str "back", .int k])) z=some (.tup [.str "back", .int k]):=ad
   exact q D [.ref z] _ (s2.new hD) (s2.free hD) ad (.cons ⟨z,rfl,by rw[ah (aj gz hD)];exact gz⟩ .nil)
  ·rw[decide_eq_false hb]
   rw[if_neg hb]at q
   exact aH ⟨zero_le _,λD hD=>q D [] _ ((BX.refl H).new hD) hD ad .nil⟩
theorem oV(h:H F=some (.lst xs)):CD H (upd H F o):=λb u e n=>by
 have nb:b ≠ F:=λz=>by rw[z,h]at e;cases e;exact n
 rw[ah nb];exact e
theorem eT{α:Type}(f:Nat->List α)(i:Nat):(List.range (i + 1)).flatMap f=(List.range i).flatMap f ++ f i:=by
 rw[range_succ,flatMap_append];simp
theorem bB{α:Type}{f:Nat->List α}(h:∀i,(f i).length <= 1000):∀i,((List.range i).flatMap f).length <= 1000 * i
 | 0=>by simp
 | i + 1=>by rw[eT,length_append];have:=bB h i;have:=h i;omega
theorem eR(O:OA a)(G:U1 a s)(k:Nat):(iA a s k).length <= 1000:=by
 unfold iA
 cases ht:s.U[k]? with
 | none=>exact zero_le _
 | some t =>
  dsimp only
  by_cases hg:t.gone=t.len
  ·rw[if_pos hg];exact zero_le _
  rw[if_neg hg,length_map]
  refine le_trans (length_filter_le _ _) ?_
  unfold cG
  by_cases h0:t.gone=0
  ·rw[if_pos h0];exact le_trans (O.C6 _ _ _) (by decide)
  ·rw[if_neg h0,length_take];omega
theorem eQ(O:OA a)(k:Nat):(iW a s k).length <= 1000:=by
 unfold iW
 cases hq:ci s k with
 | none=>exact zero_le _
 | some pq =>
  dsimp only
  rw[length_map]
  refine le_trans (length_filter_le _ _) ?_
  unfold du
  rw[hq]
  dsimp only
  cases s.U[pq.1.toNat]? with
  | none=>exact zero_le _
  | some t =>
   dsimp only
   by_cases h0:pq.2=0
   ·rw[if_pos h0]
    refine le_trans (length_filter_le _ _) ?_
    unfold qw
    by_cases z:(a.ps.getD k (0,0)).2=((t.goal.toNat:Nat):Int)
    ·rw[if_pos z];exact zero_le _
    ·rw[if_neg z];exact le_trans (O.C6 _ _ _) (by decide)
   ·rw[if_neg h0,length_take];omega
theorem dI(a:YA)(s:YS)(k:Nat):(fG a s k).length <= 1000:=by
 unfold fG
 cases ci s k with
 | none=>exact zero_le _
 | some pq =>
  dsimp only
  cases s.U[pq.1.toNat]? with
  | none=>exact zero_le _
  | some t =>
   dsimp only
   by_cases h0:t.goal=(a.ps.getD k (0,0)).2
   ·rw[if_pos h0];show 1 <= 1000;decide
   ·rw[if_neg h0];exact zero_le _
theorem kE(s:YS)(k:Nat):(eG s k).length <= 1000:=by
 unfold eG
 cases s.lanes[k]? with
 | none=>exact zero_le _
 | some ln =>
  dsimp only
  by_cases h0:0 < ln.b
  ·rw[if_pos h0];show 1 <= 1000;decide
  ·rw[if_neg h0];exact zero_le _
noncomputable def b5(a:YA)(s:YS):List Mv:=(List.range s.U.length).flatMap (iA a s) ++ (List.range s.lanes.length).flatMap (iW a s) ++ (List.range s.lanes.length).flatMap (fG a s) ++ (List.range s.lanes.length).flatMap (eG s)
inductive iq(K:Frag)(c:Cs)(TC:Addr)(J:TJ)(ys:Ys)(vs:List V)(H:Hp)(Q:VK)(E:XK):Prop
 | mk (a:YA) (s:YS) (_:vs=[.ref a.y]) (_:F1 K c TC J ys H a s) (_:∀(D:Addr)(C8:List V)(H':Hp),BX H H'->H D=none->H' D=some (.lst C8)->Paired (D6 H') C8 ((b5 a s).map eP)->Q (.ref D) H')
theorem Paired.app{cs:List α}{ds:List β}(h:Paired R cs ds):∀{as:List α}{bs:List β},Paired R as bs->Paired R (as ++ cs) (bs ++ ds):=λCc=>by
 induction Cc with
 | nil=>exact h
 | cons x r ih=>exact .cons x ih
theorem j4{xs ys:List Mv}(nF:H F=none)(s2:BX H H2)(g2:H2 F=some (.lst vs))(p2:Paired (D6 H2) vs (xs.map eP))(s3:BX H2 H3)(p3:Paired (D6 H3) C8 (ys.map eP)) :
  BX H (upd H3 F (.lst (vs ++ C8)))/\(upd H3 F (.lst (vs ++ C8))) F=some (.lst (vs ++ C8))/\Paired (D6 (upd H3 F (.lst (vs ++ C8)))) (vs ++ C8) ((xs ++ ys).map eP):=by
 refine⟨λb o e=>by rw[ah (aj e nF)];exact s3 _ _ (s2 _ _ e),ad,?_⟩
 have kk:CD H3 (upd H3 F (.lst (vs ++ C8))):=oV (s3 _ _ g2)
 rw[map_append]
 have q2:=Paired.mono (λ_ _ z=>z.keep (CD.trans (BX.Cq s3) kk)) p2
 have q3:=Paired.mono (λ_ _ z=>z.keep kk) p3
 exact Paired.app q3 q2
abbrev NMs:List Str:=["self", "found", "number", "lane"]
theorem GF:au NMs ["self"] (ai qg):=L2.C3
structure UB(P:Program)(w:World)(K:Frag)(mg:Str->Option Value)(base:Heap)(c:Cs)(TC:Addr)(J:TJ)(ys:Ys)(fi fo fl fb:Addr)(di EY dl db:FuncData):Prop where
 mi:bC K ys.Ca "moves_in" fi
 bi:Binds K di ["self", "number"] []
 Gi:BY P w K mg base ay 4 fi di ["self", "number"] (pU K c TC J ys)
 mo:bC K ys.Ca "moves_on" fo
 bo:Binds K EY ["self", "lane"] []
 Go:BY P w K mg base ay 6 fo EY ["self", "lane"] (pT K c TC J ys)
 ml:bC K ys.Ca "moves_lie" fl
 bl:Binds K dl ["self", "lane"] []
 Gl:BY P w K mg base ay 2 fl dl ["self", "lane"] (m8 K c TC J ys)
 mb:bC K ys.Ca "moves_back" fb
 bb:Binds K db ["self", "lane"] []
 Gb:BY P w K mg base ay 1 fb db ["self", "lane"] (jP K c TC J ys)
theorem wc(F:C2 K "moves" "Yard.moves" qg f fd)(T:Txt mg)(Y:iL K ys)(W:Wy K TC fw dw J)(M:UB P w K mg base c TC J ys fi fo fl fb di EY dl db) :
  BY P w K mg base ay 7 f fd ["self"] (iq K c TC J ys):=by
 refine F.ok GF (λ_ _ _ _ h=>?_) (λ_ _ _ s H _ Q E hr h=>?_)
 ·obtain⟨a,s,rfl,_⟩:=h
  rfl
 ·obtain⟨a,st,rfl,hI,q⟩:=h
  have CC:Cj 1 _:=hr.mono (by decide)
  have CY:Cj 2 _:=hr.mono (by decide)
  have E5:Cj 4 _:=hr.mono (by decide)
  refine⟨_,ae (aD (i:=1) GF.nd rfl (Or.inl rfl) (aU ac))
   (ae (b0 PassesOwn.never rfl (aO rfl T.range (aa (aE aB rfl T.len PySem.boot_len (aa (al (pv 0) rfl) ac)) ac)) (aw (i:=2) GF.nd rfl (Or.inl rfl)) (af (aP (bW plainAttrs_list slot_list_extend type_list_extend cN (pv 1) (aa (aC (pv 0) Y.cl M.mi M.Gi E5 M.bi .nil ap (aa (pv 2) ac)) ac)))))
   (ae (b0 PassesOwn.never rfl (aO rfl T.range (aa (aE aB rfl T.len PySem.boot_len (aa (al (pv 0) rfl) ac)) ac)) (aw (i:=3) GF.nd rfl (Or.inl rfl)) (af (aP (bW plainAttrs_list slot_list_extend type_list_extend cN (pv 1) (aa (aC (pv 0) Y.cl M.mo M.Go hr M.bo .nil ap (aa (pv 3) ac)) ac)))))
   (ae (b0 PassesOwn.never rfl (aO rfl T.range (aa (aE aB rfl T.len PySem.boot_len (aa (al (pv 0) rfl) ac)) ac)) (aw (i:=3) GF.nd rfl (Or.inl rfl)) (af (aP (bW plainAttrs_list slot_list_extend type_list_extend cN (pv 1) (aa (aC (pv 0) Y.cl M.ml M.Gl CY M.bl .nil ap (aa (pv 3) ac)) ac)))))
   (ae (b0 PassesOwn.never rfl (aO rfl T.range (aa (aE aB rfl T.len PySem.boot_len (aa (al (pv 0) rfl) ac)) ac)) (aw (i:=3) GF.nd rfl (Or.inl rfl)) (af (aP (bW plainAttrs_list slot_list_extend type_list_extend cN (pv 1) (aa (aC (pv 0) Y.cl M.mb M.Gb CC M.bb .nil ap (aa (pv 3) ac)) ac)))))
   (af (av (pv 1))))))),?_⟩
  have hlet:=hI.G.C6
  have IL:st.lanes.length <= 40:=by rw[hI.G.lanes];exact hI.T.C6
  refine⟨zero_le _,λFd LM=>?_⟩
  have s0:=(BX.refl H).new (o := .lst []) LM
  have g0:(upd H Fd (.lst [])) Fd=some (.lst []):=ad
  show dF 1 (V.ref Fd) _ _ _
  generalize upd H Fd (.lst [])=H0 at s0 g0 ⊢
  have UC:∃vs,BX H H0/\H0 Fd=some (.lst vs)/\Paired (D6 H0) vs (([]:List Mv).map eP):=⟨[],s0,g0, .nil⟩
  obtain⟨GZ,YM,g0',p0'⟩:=UC
  have YN:=(hI.same W YM).Y
  obtain⟨YO,gl0,pl0⟩:=YN.hle
  have UD:YO.length=st.U.length:=Paired.length pl0
  refine⟨_,rfl,a.y,ys.Ca,a.dy,_,_,rfl,YN.ins,Y.cl,Y.n4,rfl,a.le,_,rfl, .inl (Cb.of gl0),((YO.length:Nat):Int),rfl,by omega,by omega,?_⟩
  rw[toNat_natCast,UD]
  refine bu (n:=st.U.length) (λi σ H2=>∃a2 a3:Option V,(∃vs,BX H H2/\H2 Fd=some (.lst vs)/\Paired (D6 H2) vs (((List.range i).flatMap (iA a st)).map eP))/\σ=[some (.ref a.y),some (.ref Fd),a2,a3]) ?_ ?_ ?_
  ·exact⟨_,_,⟨GZ,YM,g0',by simpa using p0'⟩,rfl⟩
  ·rintro i σ H2 hi ⟨a2,a3,⟨vs,s2,g2,p2⟩,rfl⟩
   rw[zero_add]
   have Fu:=hI.same W s2
   refine⟨_,rfl, .inl ⟨rfl,_,Cb.of g2⟩,_,rfl,a.y,a.dy,_,rfl,Fu.Y.ins,rfl,_,rfl,a,st,i,rfl,Fu,hi,λD C8 H3 s3 hD gD hp=>?_⟩
   have l1:vs.length <= 1000000:=by
    rw[Paired.length p2,length_map]
    have h0:=bB (eR hI.O hI.G) st.U.length
    have h1:=bB (eQ (s:=st) hI.O) st.lanes.length
    have h2:=bB (dI a st) st.lanes.length
    have hh:=bB (eR hI.O hI.G) i
    try simp only[length_append]
    omega
   have l2:C8.length <= 1000:=by rw[Paired.length hp,length_map];exact(eR hI.O hI.G) i
   obtain⟨q1,q2,q3⟩:=j4 LM s2 g2 p2 s3 hp
   refine⟨Fd,D,vs,C8,rfl,rfl,s3 _ _ g2,gD,by rw[sizeLine_eq];omega,?_⟩
   refine⟨_,_,⟨vs ++ C8,q1,q2,?_⟩,rfl⟩
   rw[eT]
   exact q3
  rintro σ0 H1 ⟨a20,a30,inv1,rfl⟩
  obtain⟨vs1,OE,g1',p1'⟩:=inv1
  have DG:=(hI.same W OE).Y
  obtain⟨YQ,Rm,U0⟩:=DG.Dr
  have UE:YQ.length=st.lanes.length:=Paired.length U0
  refine⟨_,rfl,a.y,ys.Ca,a.dy,_,_,rfl,DG.ins,Y.cl,Y.n3,rfl,a.la,_,rfl, .inl (Cb.of Rm),((YQ.length:Nat):Int),rfl,by omega,by omega,?_⟩
  rw[toNat_natCast,UE]
  refine bu (n:=st.lanes.length) (λi σ H2=>∃a2 a3:Option V,(∃vs,BX H H2/\H2 Fd=some (.lst vs)/\Paired (D6 H2) vs ((((List.range st.U.length).flatMap (iA a st)) ++ (List.range i).flatMap (iW a st)).map eP))/\σ=[some (.ref a.y),some (.ref Fd),a2,a3]) ?_ ?_ ?_
  ·exact⟨_,_,⟨vs1,OE,g1',by simpa using p1'⟩,rfl⟩
  ·rintro i σ H2 hi ⟨a2,a3,⟨vs,s2,g2,p2⟩,rfl⟩
   rw[zero_add]
   have Fu:=hI.same W s2
   refine⟨_,rfl, .inl ⟨rfl,_,Cb.of g2⟩,_,rfl,a.y,a.dy,_,rfl,Fu.Y.ins,rfl,_,rfl,a,st,i,rfl,Fu,hi,λD C8 H3 s3 hD gD hp=>?_⟩
   have l1:vs.length <= 1000000:=by
    rw[Paired.length p2,length_map]
    have h0:=bB (eR hI.O hI.G) st.U.length
    have h1:=bB (eQ (s:=st) hI.O) st.lanes.length
    have h2:=bB (dI a st) st.lanes.length
    have hh:=bB (eQ (s:=st) hI.O) i
    try simp only[length_append]
    omega
   have l2:C8.length <= 1000:=by rw[Paired.length hp,length_map];exact(eQ (s:=st) hI.O) i
   obtain⟨q1,q2,q3⟩:=j4 LM s2 g2 p2 s3 hp
   refine⟨Fd,D,vs,C8,rfl,rfl,s3 _ _ g2,gD,by rw[sizeLine_eq];omega,?_⟩
   refine⟨_,_,⟨vs ++ C8,q1,q2,?_⟩,rfl⟩
   rw[eT]
   rw[←append_assoc];exact q3
  rintro σ1 H2 ⟨a21,a31,inv2,rfl⟩
  obtain⟨KC,OF,g2',p2'⟩:=inv2
  have E8:=(hI.same W OF).Y
  obtain⟨YR,gl2,pl2⟩:=E8.Dr
  have UG:YR.length=st.lanes.length:=Paired.length pl2
  refine⟨_,rfl,a.y,ys.Ca,a.dy,_,_,rfl,E8.ins,Y.cl,Y.n3,rfl,a.la,_,rfl, .inl (Cb.of gl2),((YR.length:Nat):Int),rfl,by omega,by omega,?_⟩
  rw[toNat_natCast,UG]
  refine bu (n:=st.lanes.length) (λi σ H2=>∃a2 a3:Option V,(∃vs,BX H H2/\H2 Fd=some (.lst vs)/\Paired (D6 H2) vs ((((List.range st.U.length).flatMap (iA a st) ++ (List.range st.lanes.length).flatMap (iW a st)) ++ (List.range i).flatMap (fG a st)).map eP))/\σ=[some (.ref a.y),some (.ref Fd),a2,a3]) ?_ ?_ ?_
  ·exact⟨_,_,⟨KC,OF,g2',by simpa using p2'⟩,rfl⟩
  ·rintro i σ H2 hi ⟨a2,a3,⟨vs,s2,g2,p2⟩,rfl⟩
   rw[zero_add]
   have Fu:=hI.same W s2
   refine⟨_,rfl, .inl ⟨rfl,_,Cb.of g2⟩,_,rfl,a.y,a.dy,_,rfl,Fu.Y.ins,rfl,_,rfl,a,st,i,rfl,Fu,hi,λD C8 H3 s3 hD gD hp=>?_⟩
   have l1:vs.length <= 1000000:=by
    rw[Paired.length p2,length_map]
    have h0:=bB (eR hI.O hI.G) st.U.length
    have h1:=bB (eQ (s:=st) hI.O) st.lanes.length
    have h2:=bB (dI a st) st.lanes.length
    have hh:=bB (dI a st) i
    try simp only[length_append]
    omega
   have l2:C8.length <= 1000:=by rw[Paired.length hp,length_map];exact(dI a st) i
   obtain⟨q1,q2,q3⟩:=j4 LM s2 g2 p2 s3 hp
   refine⟨Fd,D,vs,C8,rfl,rfl,s3 _ _ g2,gD,by rw[sizeLine_eq];omega,?_⟩
   refine⟨_,_,⟨vs ++ C8,q1,q2,?_⟩,rfl⟩
   rw[eT]
   rw[←append_assoc];exact q3
  rintro σ2 H3 ⟨a22,a32,UH,rfl⟩
  obtain⟨vs3,YT,g3',p3'⟩:=UH
  have Ec:=(hI.same W YT).Y
  obtain⟨YU,gl3,pl3⟩:=Ec.Dr
  have UI:YU.length=st.lanes.length:=Paired.length pl3
  refine⟨_,rfl,a.y,ys.Ca,a.dy,_,_,rfl,Ec.ins,Y.cl,Y.n3,rfl,a.la,_,rfl, .inl (Cb.of gl3),((YU.length:Nat):Int),rfl,by omega,by omega,?_⟩
  rw[toNat_natCast,UI]
  refine bu (n:=st.lanes.length) (λi σ H2=>∃a2 a3:Option V,(∃vs,BX H H2/\H2 Fd=some (.lst vs)/\Paired (D6 H2) vs ((((List.range st.U.length).flatMap (iA a st) ++ (List.range st.lanes.length).flatMap (iW a st) ++ (List.range st.lanes.length).flatMap (fG a st)) ++ (List.range i).flatMap (eG st)).map eP))/\σ=[some (.ref a.y),some (.ref Fd),a2,a3]) ?_ ?_ ?_
  ·exact⟨_,_,⟨vs3,YT,g3',by simpa using p3'⟩,rfl⟩
  ·rintro i σ H2 hi ⟨a2,a3,⟨vs,s2,g2,p2⟩,rfl⟩
   rw[zero_add]
   have Fu:=hI.same W s2
   refine⟨_,rfl, .inl ⟨rfl,_,Cb.of g2⟩,_,rfl,a.y,a.dy,_,rfl,Fu.Y.ins,rfl,_,rfl,a,st,i,rfl,Fu,hi,λD C8 H3 s3 hD gD hp=>?_⟩
   have l1:vs.length <= 1000000:=by
    rw[Paired.length p2,length_map]
    have h0:=bB (eR hI.O hI.G) st.U.length
    have h1:=bB (eQ (s:=st) hI.O) st.lanes.length
    have h2:=bB (dI a st) st.lanes.length
    have hh:=bB (kE st) i
    try simp only[length_append]
    omega
   have l2:C8.length <= 1000:=by rw[Paired.length hp,length_map];exact(kE st) i
   obtain⟨q1,q2,q3⟩:=j4 LM s2 g2 p2 s3 hp
   refine⟨Fd,D,vs,C8,rfl,rfl,s3 _ _ g2,gD,by rw[sizeLine_eq];omega,?_⟩
   refine⟨_,_,⟨vs ++ C8,q1,q2,?_⟩,rfl⟩
   rw[eT]
   rw[←append_assoc];exact q3
  rintro σ3 H4 ⟨a23,a33,UJ,rfl⟩
  obtain⟨vs,s2,g2,p2⟩:=UJ
  exact⟨_,rfl,q Fd vs _ s2 LM g2 p2⟩
structure OG(K:Frag):Prop where
 ss:kitOne K (.type "str") (.type "str")=some true
 ns:kitOne K (.type "int") (.type "str")=some false
 tt:kitOne K (.type "tuple") (.type "tuple")=some true
theorem jr(h:a ≠ b):decide (V.str a=V.str b)=false:=decide_eq_false λz=>h (by injection z)
theorem jV(a:Str):decide (V.str a=V.str a)=true:=decide_eq_true rfl
inductive uW(vs:List V)(H:Hp)(Q:VK)(E:XK):Prop
 | mk (p:Addr) (xs:List V) (_:vs=[.ref p]) (_:H p=some (.tup xs)) (_:xs.length <= 100) (_:(∀x ∈ xs,(∃t,x = .str t)∨∃i,x = .int i)) (_:∀H',BX H H'->Q (.bl true) H')
noncomputable def zi(s:Stmt):Scope:=match s with
 | .Return (some (.BoolOp _ [_, .Call _ [.ListComp _ _ sc _] _ _] _)) _=>sc
 | _=>zQ0
theorem oJ(m:Mv):(eP m).length <= 100/\∀x ∈ eP m,(∃t,x=V.str t)∨∃i,x=V.int i:=by
 cases m<;>refine⟨by simp[eP],λx hx=>?_⟩<;>simp only[eP,mem_cons,not_mem_nil,or_false]at hx
 ·rcases hx with rfl | rfl | rfl
  ·exact .inl ⟨_,rfl⟩
  ·exact .inr ⟨_,rfl⟩
  ·exact .inr ⟨_,rfl⟩
 ·rcases hx with rfl | rfl | rfl
  ·exact .inl ⟨_,rfl⟩
  ·exact .inr ⟨_,rfl⟩
  ·exact .inr ⟨_,rfl⟩
 ·rcases hx with rfl | rfl
  ·exact .inl ⟨_,rfl⟩
  ·exact .inr ⟨_,rfl⟩
 ·rcases hx with rfl | rfl
  ·exact .inl ⟨_,rfl⟩
  ·exact .inr ⟨_,rfl⟩
noncomputable def rZ(a:YA)(s:YS):Mv->List Mv
 | .Dh k _=>iA a s k
 | .on k _=>iW a s k
 | .DL k=>fG a s k
 | .back k=>eG s k
def zO(s:YS):Mv->Prop
 | .Dh k _=>k < s.U.length
 | .on k _=>k < s.lanes.length
 | .DL k=>k < s.lanes.length
 | .back k=>k < s.lanes.length
inductive pV(K:Frag)(c:Cs)(TC:Addr)(J:TJ)(ys:Ys)(vs:List V)(H:Hp)(Q:VK)(E:XK):Prop
 | mk (a:YA) (s:YS) (p:Addr) (m:Mv) (_:vs=[.ref a.y, .ref p]) (_:F1 K c TC J ys H a s) (_:H p=some (.tup (eP m))) (_:zO s m) (_:∀(D:Addr)(C8:List V)(H':Hp),BX H H'->H D=none->H' D=some (.lst C8)->Paired (D6 H') C8 ((rZ a s m).map eP)->Q (.ref D) H')
theorem UK:au ["move"] ["move"] (ai oi):=L2.C3
theorem UL:CP ["move"] (ai oi) (zi ((aI oi).getD 0 (.Pass ⟨0,0,0,0⟩))) [] []:=L2.Dp
theorem UM:(["thing"]:List Str).Nodup:=by decide +kernel
theorem y4(F:C2 K "is_move" "is_move" oi f fd)(T:Txt mg)(Z:OG K)(mh:mg "is_whole" = some (.ref fh))(kh:keepIn K (.ref fh)=true)(bh:Binds K dh ["value"] [])(G:BY P w K mg base ay 1 fh dh ["value"] ip) :
  BY P w K mg base ay 2 f fd ["move"] uW:=by
 refine F.ok UK (λ_ _ _ _ h=>?_) (λ_ _ _ s H _ Q E hr h=>?_)
 ·obtain⟨p,xs,rfl,_⟩:=h
  rfl
 ·obtain⟨p,xs,rfl,hp,hl,hx,q⟩:=h
  refine⟨_,af (av (dR (aE gh rfl T.Kt PyProof.Rows.boot_isinstance (aa (pv 0) (aa (fu (v := .ty "tuple") rfl T.tuple PySem.Pv.boot_tuple rfl) ac)))
   (dQ (aE (iJ rfl) rfl T.all PyProof.Rows.boot_all (aa (aT (own:=["thing"]) (capN:=[]) (cap:=[]) UL rfl (iR (pv 0)) (λC s' H' fp=>⟨aw (i:=0) UM rfl (Or.inl rfl),bd,
    MB (aE (show CA _ (.builtin "isinstance") (Nu K) from gh) rfl T.Kt PyProof.Rows.boot_isinstance (aa (pv 0) (aa (fu (v := .ty "str") rfl T.str PySem.Pv.boot_str rfl) ac))) (dQ (aq G hr rfl mh kh bh .nil ap (aa (pv 0) ac)))⟩)) ac))))),?_⟩
  refine⟨_,rfl, .ref p,_, "tuple",true,rfl, .tup hp,Z.tt,true,rfl,aN ⟨_,rfl,p,rfl,⟨_,Ck.of hp⟩,?_⟩⟩
  refine aX xs.length (by rw[sizeLine_eq];omega) (λi acc H'=>H' = H/\acc=(List.replicate i true).map V.bl) ⟨rfl,rfl⟩ (λi acc H' h=>by rw[h.2];simp) (λi acc H' hi h=>?_) (λacc H' h=>?_)
  ·obtain⟨rfl,rfl⟩:=h
   refine⟨⟨xs,xs[i],Ck.of hp,getElem?_eq_getElem hi⟩,λv H2 y=>?_⟩
   obtain⟨rfl,y⟩:=y
   have hv:=y xs (Ck.of hp)
   have e:(List.replicate i true).map V.bl ++ [V.bl true]=(List.replicate (i + 1) true).map V.bl:=by rw[replicate_succ',map_append];rfl
   rcases hx v (mem_of_getElem? hv) with ⟨t,rfl⟩ | ⟨z,rfl⟩
   ·exact⟨_,rfl, .str t,_, "str",true,rfl, .str t,Z.ss,true,rfl,aN ⟨rfl,e⟩⟩
   ·exact⟨_,rfl, .int z,_, "str",false,rfl, .int z,Z.ns,false,rfl,aH ⟨_,rfl, .int z,rfl, .int z,rfl,e⟩⟩
  ·obtain⟨rfl,rfl⟩:=h
   refine⟨⟨xs,Ck.of hp,le_refl _⟩,λD hD=>⟨D,List.replicate xs.length true,rfl,Cb.of ad,?_⟩⟩
   have e:(List.replicate xs.length true).all id=true:=by rw[all_eq_true];intro b hb;rw[eq_of_mem_replicate hb];rfl
   rw[e]
   exact q _ ((BX.refl H').new hD)
theorem UN:au ["self", "move"] ["self", "move"] (ai vo):=L2.C3
theorem y2(F:C2 K "moves_like" "Yard.moves_like" vo f fd)(T:Txt mg)(Y:iL K ys)(W:Wy K TC fw dw J)(M:UB P w K mg base c TC J ys fi fo fl fb di EY dl db)
  (mm:mg "is_move" = some (.ref fm)) (km:keepIn K (.ref fm)=true) (bm:Binds K dm ["move"] []) (Gm:BY P w K mg base ay 2 fm dm ["move"] uW)
  (mn:mg "is_within" = some (.ref fn)) (kn:keepIn K (.ref fn)=true) (bn:Binds K dn ["value", "least", "most"] []) (Gn:BY P w K mg base ay 2 fn dn ["value", "least", "most"] gm) :
  BY P w K mg base ay 7 f fd ["self", "move"] (pV K c TC J ys):=by
 refine F.ok UN (λ_ _ _ _ h=>?_) (λ_ _ _ s H _ Q E hr h=>?_)
 ·obtain⟨a,s,p,m,rfl,_⟩:=h
  rfl
 ·obtain⟨a,st,p,m,rfl,hI,hp,Ci,q⟩:=h
  have CC:Cj 1 _:=hr.mono (by decide)
  have CY:Cj 2 _:=hr.mono (by decide)
  have E5:Cj 4 _:=hr.mono (by decide)
  refine⟨_,ae (aR (j0 (PW.pt (fE (bO (bJ (aq Gm CY rfl mm km bm .nil ap (aa (pv 1) ac)))) (dP (ax rO (aE aB rfl T.len PySem.boot_len (aa (pv 1) ac)) ak (aA _)))))) (af (av (aU ac))) aF)
   (ae (aR (ax bz (az aG (pv 1) ak (λ_ _=>rfl)) b8 (aA _))
    (af (av (ce (bJ (aq Gn CY rfl mn kn bn .nil ap (aa (az aG (pv 1) ak (λ_ _=>rfl)) (aa ak (aa (aJ fz (aE aB rfl T.len PySem.boot_len (aa (al (pv 0) rfl) ac)) ak) ac)))))
     (aC (pv 0) Y.cl M.mi M.Gi E5 M.bi .nil ap (aa (az aG (pv 1) ak (λ_ _=>rfl)) ac)) (aU ac)))) aF)
   (ae (aR (bO (bJ (aq Gn CY rfl mn kn bn .nil ap (aa (az aG (pv 1) ak (λ_ _=>rfl)) (aa ak (aa (aJ fz (aE aB rfl T.len PySem.boot_len (aa (al (pv 0) rfl) ac)) ak) ac)))))) (af (av (aU ac))) aF)
   (ae (aR (ax bz (az aG (pv 1) ak (λ_ _=>rfl)) b8 (aA _)) (af (av (aC (pv 0) Y.cl M.mo M.Go hr M.bo .nil ap (aa (az aG (pv 1) ak (λ_ _=>rfl)) ac)))) aF)
   (ae (aR (ax bz (az aG (pv 1) ak (λ_ _=>rfl)) b8 (aA _)) (af (av (aC (pv 0) Y.cl M.ml M.Gl CY M.bl .nil ap (aa (az aG (pv 1) ak (λ_ _=>rfl)) ac)))) aF)
   (af (av (ce (ax bz (az aG (pv 1) ak (λ_ _=>rfl)) b8 (aA _)) (aC (pv 0) Y.cl M.mb M.Gb CC M.bb .nil ap (aa (az aG (pv 1) ak (λ_ _=>rfl)) ac)) (aU ac)))))))),?_⟩
  refine⟨λb H1=>b=false/\BX H H1,?_,?_⟩
  ·refine⟨_,rfl,p,eP m,rfl,hp,(oJ m).1,(oJ m).2,λH1 s1=>⟨_,rfl,aH ?_⟩⟩
   refine⟨_,rfl,p,_,rfl, .inr (Ck.of (s1 _ _ hp)),_,_,rfl,rfl,_,rfl,?_,s1⟩
   cases m<;>rfl
  rintro b H1 ⟨rfl,s1⟩
  refine aH ?_
  have GD:=hI.same W s1
  have C7:=s1 _ _ hp
  have q1:∀(D:Addr)(C8:List V)(H':Hp),BX H1 H'->H1 D=none->H' D=some (.lst C8)->Paired (D6 H') C8 ((rZ a st m).map eP)->Q (.ref D) H':=λD C8 H' s' hD g' GX=>q D C8 H' (s1.trans s') (s1.free hD) g' GX
  have hY:=GD.Y
  obtain⟨Cf,Dy,ple⟩:=hY.hle
  have hle:Cf.length=st.U.length:=Paired.length ple
  obtain⟨Ct,CZ,Hh⟩:=hY.Dr
  have Dr:Ct.length=st.lanes.length:=Paired.length Hh
  clear s1 q hp hI
  have inl:∀k:Nat,k < st.lanes.length->l9 (.int k) 0 (((Ct.length:Nat):Int) - 1)=true:=λk hk=>decide_eq_true (by omega)
  cases m with
  | Dh k l =>
   have C7:H1 p=some (.tup [.str "in", .int k, .int l]):=C7
   have Ci:k < st.U.length:=Ci
   refine⟨_,rfl,p,_,0,_,rfl,rfl,Ck.of C7,ao (j:=0) rfl,rfl,_,rfl,?_⟩
   rw[jV]
   refine aN ⟨_,rfl,p,_,1,_,rfl,rfl,Ck.of C7,ao (j:=1) rfl,_,rfl,a.y,ys.Ca,a.dy,_,_,rfl,hY.ins,Y.cl,Y.n4,rfl,a.le,_,rfl, .inl (Cb.of Dy),_,_,rfl,rfl, .int k,0,((Cf.length:Nat):Int) - 1,rfl, .int _,_,rfl,?_⟩
   rw[show l9 (.int k) 0 (((Cf.length:Nat):Int) - 1)=true from decide_eq_true (by omega)]
   exact aN ⟨_,rfl,a.y,a.dy,_,rfl,hY.ins,rfl,_,rfl,p,_,1,_,rfl,rfl,Ck.of C7,ao (j:=1) rfl,a,st,k,rfl,GD,Ci,λD C8 H' s' hD g' GX=>q1 D C8 H' s' hD g' GX⟩
  | on k l =>
   have C7:H1 p=some (.tup [.str "on", .int k, .int l]):=C7
   have Ci:k < st.lanes.length:=Ci
   refine⟨_,rfl,p,_,0,_,rfl,rfl,Ck.of C7,ao (j:=0) rfl,rfl,_,rfl,?_⟩
   rw[jr (by decide +kernel)]
   refine aH ⟨_,rfl,p,_,1,_,rfl,rfl,Ck.of C7,ao (j:=1) rfl,_,rfl,a.y,ys.Ca,a.dy,_,_,rfl,hY.ins,Y.cl,Y.n3,rfl,a.la,_,rfl, .inl (Cb.of CZ),_,_,rfl,rfl, .int k,0,((Ct.length:Nat):Int) - 1,rfl, .int _,_,rfl,?_⟩
   rw[inl k Ci]
   refine aH ⟨_,rfl,p,_,0,_,rfl,rfl,Ck.of C7,ao (j:=0) rfl,rfl,_,rfl,?_⟩
   rw[jV]
   exact aN ⟨_,rfl,a.y,a.dy,_,rfl,hY.ins,rfl,_,rfl,p,_,1,_,rfl,rfl,Ck.of C7,ao (j:=1) rfl,a,st,k,rfl,GD,Ci,λD C8 H' s' hD g' GX=>q1 D C8 H' s' hD g' GX⟩
  | DL k =>
   have C7:H1 p=some (.tup [.str "lie", .int k]):=C7
   have Ci:k < st.lanes.length:=Ci
   refine⟨_,rfl,p,_,0,_,rfl,rfl,Ck.of C7,ao (j:=0) rfl,rfl,_,rfl,?_⟩
   rw[jr (by decide +kernel)]
   refine aH ⟨_,rfl,p,_,1,_,rfl,rfl,Ck.of C7,ao (j:=1) rfl,_,rfl,a.y,ys.Ca,a.dy,_,_,rfl,hY.ins,Y.cl,Y.n3,rfl,a.la,_,rfl, .inl (Cb.of CZ),_,_,rfl,rfl, .int k,0,((Ct.length:Nat):Int) - 1,rfl, .int _,_,rfl,?_⟩
   rw[inl k Ci]
   refine aH ⟨_,rfl,p,_,0,_,rfl,rfl,Ck.of C7,ao (j:=0) rfl,rfl,_,rfl,?_⟩
   rw[jr (by decide +kernel)]
   refine aH ⟨_,rfl,p,_,0,_,rfl,rfl,Ck.of C7,ao (j:=0) rfl,rfl,_,rfl,?_⟩
   rw[jV]
   exact aN ⟨_,rfl,a.y,a.dy,_,rfl,hY.ins,rfl,_,rfl,p,_,1,_,rfl,rfl,Ck.of C7,ao (j:=1) rfl,a,st,k,rfl,GD,Ci,λD C8 H' s' hD g' GX=>q1 D C8 H' s' hD g' GX⟩
  | back k =>
   have C7:H1 p=some (.tup [.str "back", .int k]):=C7
   have Ci:k < st.lanes.length:=Ci
   refine⟨_,rfl,p,_,0,_,rfl,rfl,Ck.of C7,ao (j:=0) rfl,rfl,_,rfl,?_⟩
   rw[jr (by decide +kernel)]
   refine aH ⟨_,rfl,p,_,1,_,rfl,rfl,Ck.of C7,ao (j:=1) rfl,_,rfl,a.y,ys.Ca,a.dy,_,_,rfl,hY.ins,Y.cl,Y.n3,rfl,a.la,_,rfl, .inl (Cb.of CZ),_,_,rfl,rfl, .int k,0,((Ct.length:Nat):Int) - 1,rfl, .int _,_,rfl,?_⟩
   rw[inl k Ci]
   refine aH ⟨_,rfl,p,_,0,_,rfl,rfl,Ck.of C7,ao (j:=0) rfl,rfl,_,rfl,?_⟩
   rw[jr (by decide +kernel)]
   refine aH ⟨_,rfl,p,_,0,_,rfl,rfl,Ck.of C7,ao (j:=0) rfl,rfl,_,rfl,?_⟩
   rw[jr (by decide +kernel)]
   refine aH ⟨_,rfl,p,_,0,_,rfl,rfl,Ck.of C7,ao (j:=0) rfl,rfl,_,rfl,?_⟩
   rw[jV]
   exact aN ⟨_,rfl,a.y,a.dy,_,rfl,hY.ins,rfl,_,rfl,p,_,1,_,rfl,rfl,Ck.of C7,ao (j:=1) rfl,a,st,k,rfl,GD,Ci,λD C8 H' s' hD g' GX=>q1 D C8 H' s' hD g' GX⟩
noncomputable def cK(ln:cZ):cZ:={ ln with b:=ln.b + 1,qs:=ln.qs.tail }
noncomputable def zN(ln:cZ):cZ:={ ln with r:=ln.r + 1,b:=ln.b - 1 }
inductive Ed(a:YA)(s:YS):Mv->YS->Prop
 | Dh {k l:Nat} {t:c7} {ln:cZ} (ht:s.U[k]? = some t) (hg:t.gone ≠ t.len) (hl:l ∈ cG a t) (C9:s.lanes[l]? = some ln) (ho:cI ln.r ln.h k t.gone=true) :
  Ed a s (.Dh k l) (eJ (jp s k t) k t.gone l { t with gone:=t.gone + 1 } ln)
 | on {k l m:Nat} {c:Int} {lk ln:cZ} {t:c7} (hk:s.lanes[k]? = some lk) (hq:lk.qs.head? = some ((m:Int),c)) (ht:s.U[m]? = some t) (hl:l ∈ du a s k) (C9:(s.lanes.set k (cK lk))[l]? = some ln) (ho:cI ln.r ln.h m c=true) :
  Ed a s (.on k l) (eJ { s with lanes:=s.lanes.set k (cK lk) } m c l t ln)
 | DL {k m e:Nat} {c:Int} {lk:cZ} {t:c7} {qs:List (Int × Int)} (hk:s.lanes[k]? = some lk) (hq:lk.qs.head? = some ((m:Int),c)) (ht:s.U[m]? = some t) (hg:t.goal=(e:Int)) (he:(a.ps.getD k (0,0)).2=(e:Int)) (En:s.lies[e]? = some qs) :
  Ed a s (.DL k) { s with lanes:=s.lanes.set k (cK lk),lies:=s.lies.set e (qs ++ [((m:Int),c)]) }
 | back {k:Nat} {lk:cZ} (hk:s.lanes[k]? = some lk) (hb:0 < lk.b):Ed a s (.back k) { s with lanes:=s.lanes.set k (zN lk) }
theorem Ed.done(h:Ed a s m s'):s'.done=s.done:=by
 cases h<;>rfl
structure UO(s:YS):Prop where
 q:∀(k:Nat)(ln:cZ),s.lanes[k]? = some ln->ln.qs.length <= 10000
 l:∀(p:Nat)(qs:List (Int × Int)),s.lies[p]? = some qs->qs.length <= 10000
 d:s.done.length <= 100000
theorem kC(h:gJ s l m c=true):∃ln,s.lanes[l]? = some ln/\cI ln.r ln.h m c=true:=by
 unfold gJ at h
 cases hl:s.lanes[l]? with
 | none=>rw[hl]at h;cases h
 | some ln=>rw[hl]at h;exact⟨ln,rfl,h⟩
theorem wE(h:m ∈ iA a s k):∃l t ln,m = .Dh k l/\s.U[k]? = some t/\t.gone ≠ t.len/\l ∈ cG a t/\s.lanes[l]? = some ln/\cI ln.r ln.h k t.gone=true:=by
 unfold iA at h
 cases ht:s.U[k]? with
 | none=>rw[ht]at h;cases h
 | some t =>
  rw[ht]at h
  dsimp only at h
  by_cases hg:t.gone=t.len
  ·rw[if_pos hg]at h;cases h
  rw[if_neg hg]at h
  obtain⟨l,hl,rfl⟩:=mem_map.mp h
  obtain⟨h1,h2⟩:=mem_filter.mp hl
  obtain⟨ln,h3,h4⟩:=kC h2
  exact⟨l,t,ln,rfl,rfl,hg,h1,h3,h4⟩
theorem wD(h:m ∈ iW a s k):∃l q lk ln,m = .on k l/\s.lanes[k]? = some lk/\lk.qs.head? = some q/\l ∈ du a s k/\s.lanes[l]? = some ln/\cI ln.r ln.h q.1 q.2=true:=by
 unfold iW at h
 cases hq:ci s k with
 | none=>rw[hq]at h;cases h
 | some q =>
  rw[hq]at h
  dsimp only at h
  obtain⟨l,hl,rfl⟩:=mem_map.mp h
  obtain⟨h1,h2⟩:=mem_filter.mp hl
  obtain⟨ln,h3,h4⟩:=kC h2
  unfold ci at hq
  cases hk:s.lanes[k]? with
  | none=>rw[hk]at hq;cases hq
  | some lk=>rw[hk]at hq;exact⟨l,q,lk,ln,rfl,rfl,hq,h1,h3,h4⟩
theorem rX(h:m ∈ fG a s k):∃q lk t,m = .DL k/\s.lanes[k]? = some lk/\lk.qs.head? = some q/\s.U[q.1.toNat]? = some t/\t.goal=(a.ps.getD k (0,0)).2:=by
 unfold fG at h
 cases hq:ci s k with
 | none=>rw[hq]at h;cases h
 | some q =>
  rw[hq]at h
  dsimp only at h
  cases ht:s.U[q.1.toNat]? with
  | none=>rw[ht]at h;cases h
  | some t =>
   rw[ht]at h
   dsimp only at h
   by_cases hg:t.goal=(a.ps.getD k (0,0)).2
   ·rw[if_pos hg]at h
    have hm:m = .DL k:=by simpa using h
    unfold ci at hq
    cases hk:s.lanes[k]? with
    | none=>rw[hk]at hq;cases hq
    | some lk=>rw[hk]at hq;exact⟨q,lk,t,hm,rfl,hq,ht,hg⟩
   ·rw[if_neg hg]at h;cases h
theorem oS(h:m ∈ eG s k):∃lk,m = .back k/\s.lanes[k]? = some lk/\0 < lk.b:=by
 unfold eG at h
 cases hk:s.lanes[k]? with
 | none=>rw[hk]at h;cases h
 | some lk =>
  rw[hk]at h
  dsimp only at h
  by_cases hb:0 < lk.b
  ·rw[if_pos hb]at h;exact⟨lk,by simpa using h,rfl,hb⟩
  ·rw[if_neg hb]at h;cases h
theorem tP(h:m ∈ b5 a s):zO s m/\m ∈ rZ a s m:=by
 unfold b5 at h
 rw[mem_append,mem_append,mem_append]at h
 rcases h with ((h | h) | h) | h
 ·obtain⟨k,hk,h⟩:=mem_flatMap.mp h
  obtain⟨l,t,ln,rfl,_⟩:=wE h
  exact⟨mem_range.mp hk,h⟩
 ·obtain⟨k,hk,h⟩:=mem_flatMap.mp h
  obtain⟨l,q,lk,ln,rfl,_⟩:=wD h
  exact⟨mem_range.mp hk,h⟩
 ·obtain⟨k,hk,h⟩:=mem_flatMap.mp h
  obtain⟨q,lk,t,rfl,_⟩:=rX h
  exact⟨mem_range.mp hk,h⟩
 ·obtain⟨k,hk,h⟩:=mem_flatMap.mp h
  obtain⟨lk,rfl,_⟩:=oS h
  exact⟨mem_range.mp hk,h⟩
noncomputable def ut:Mv->PyData
 | .Dh k l => .tuple [.str "in", .int k, .int l]
 | .on k l => .tuple [.str "on", .int k, .int l]
 | .DL k => .tuple [.str "lie", .int k]
 | .back k => .tuple [.str "back", .int k]
theorem iu(h:PyData.strOk x=true):DR (.str x) 0:=⟨by simp[PyData.canLay0,h],by simp[PyData.depth]⟩
theorem jS(m:Mv):DR (ut m) 1:=by
 cases m<;>refine c5 (m:=0) λy hy=>?_<;>simp only[mem_cons,not_mem_nil,or_false]at hy
 ·rcases hy with rfl | rfl | rfl
  ·exact iu (by decide +kernel)
  ·exact bS _
  ·exact bS _
 ·rcases hy with rfl | rfl | rfl
  ·exact iu (by decide +kernel)
  ·exact bS _
  ·exact bS _
 ·rcases hy with rfl | rfl
  ·exact iu (by decide +kernel)
  ·exact bS _
 ·rcases hy with rfl | rfl
  ·exact iu (by decide +kernel)
  ·exact bS _
theorem xg(m:Mv)(h:H p=some (.tup (eP m))):Den K H (.ref p) (ut m):=by
 cases m<;>refine .tup (Ck.of h) ?_
 ·exact .cons (.str _) (.cons (.int _) (.cons (.int _) .nil))
 ·exact .cons (.str _) (.cons (.int _) (.cons (.int _) .nil))
 ·exact .cons (.str _) (.cons (.int _) .nil)
 ·exact .cons (.str _) (.cons (.int _) .nil)
theorem iF :∀{vs:List V}{ms:List Mv},Paired (D6 H) vs (ms.map eP)->CW K H vs (ms.map ut)
 | [],[],_ => .nil
 | _ :: _,m :: ms, .cons ⟨t,e,h⟩ r=>by subst e;exact .cons (xg m h) (iF r)
 | [],_ :: _,h=>by cases h
 | _ :: _,[],h=>by cases h
theorem BO{ms:List Mv}(h:m ∈ ms):((ms.map ut).any λy=>PyData.eqv y (ut m))=true:=by
 rw[any_eq_true]
 exact⟨ut m,mem_map.mpr ⟨m,h,rfl⟩,SeqAt.eqv_refl _ (jS m).1⟩
inductive uZ(K:Frag)(c:Cs)(TC:Addr)(J:TJ)(ys:Ys)(vs:List V)(H:Hp)(Q:VK)(E:XK):Prop
 | mk (a:YA) (s:YS) (p:Addr) (m:Mv) (_:vs=[.ref a.y, .ref p]) (_:F1 K c TC J ys H a s) (_:H p=some (.tup (eP m))) (_:m ∈ b5 a s) (_:UO s) (_:∀(H':Hp)(s':YS),Ed a s m s'->Cn a.four H H'->CQ K ys H' a { s' with done:=s.done ++ [eP m] }->Q .Cp H')
structure YV(P:Program)(w:World)(K:Frag)(mg:Str->Option Value)(base:Heap)(c:Cs)(TC:Addr)(J:TJ)(ys:Ys)(fk fg fe fp fb fy:Addr)(dk dg de dp db dy:FuncData):Prop where
 mk':bC K ys.Ca "moves_like" fk
 bk:Binds K dk ["self", "move"] []
 Gk:BY P w K mg base ay 7 fk dk ["self", "move"] (pV K c TC J ys)
 mg':bC K ys.Ca "go_in" fg
 bg:Binds K dg ["self", "number", "lane"] []
 Gg:BY P w K mg base ay 6 fg dg ["self", "number", "lane"] (uX K ys)
 me:bC K ys.Ca "enter" fe
 be:Binds K de ["self", "piece", "lane"] []
 Ge:BY P w K mg base ay 5 fe de ["self", "piece", "lane"] (mD K ys)
 mp:bC K ys.C0 "pull" fp
 bp:Binds K dp ["self"] []
 Gp:BY P w K mg base ay 1 fp dp ["self"] (pS ys.C0)
 mb:bC K ys.C0 "bring" fb
 bb:Binds K db ["self"] []
 Gb:BY P w K mg base ay 1 fb db ["self"] (rD ys.C0)
 my:bC K ys.Ca "lay" fy
 UP:Binds K dy ["self", "piece", "place"] []
 Gy:BY P w K mg base ay 1 fy dy ["self", "piece", "place"] (zC K ys)
theorem UQ:au ["self", "move"] ["self", "move"] (ai TN):=L2.C3
theorem OH(F:C2 K "do" "Yard.do" TN f fd)(Y:iL K ys)(L:lc K c)(W:Wy K TC fw dw J)(O:Own P w K mg base ys fl ft fpu dl dt dpu)
  (D:YV P w K mg base c TC J ys fk fg fe fp fb fy dk dg de dp db dy) (Me:zo K c YW den) (Gen:BY P w K mg base ay 1 YW den ["self", "lane"] (pZ c Prod.snd)) :
  BY P w K mg base ay 8 f fd ["self", "move"] (uZ K c TC J ys):=by
 refine F.ok UQ (λ_ _ _ _ h=>?_) (λ_ _ _ s H _ Q E hr h=>?_)
 ·obtain⟨a,s,p,m,rfl,_⟩:=h
  rfl
 ·obtain⟨a,st,p,m,rfl,hI,hp,hm,hS,q⟩:=h
  have hu:=hr.units
  have CC:Cj 1 _:=hr.mono (by decide)
  have E5:Cj 4 _:=hr.mono (by decide)
  have HH:Cj 5 _:=hr.mono (by decide)
  have JN:Cj 6 _:=hr.mono (by decide)
  refine⟨_,ae (aR (ax (tj hu) (pv 1) (aC (pv 0) Y.cl D.mk' D.Gk hr D.bk .nil ap (aa (pv 1) ac)) (by with_unfolding_all rfl)) (af bA) aF)
   (ae (rK (aR (ax bz (az aG (pv 1) ak (λ_ _=>rfl)) b8 (aA _))
    (af (aP (aC (pv 0) Y.cl D.mg' D.Gg JN D.bg .nil ap (aa (az aG (pv 1) ak (λ_ _=>rfl)) (aa (az aG (pv 1) ak (λ_ _=>rfl)) ac)))))
    (af (aR (ax bz (az aG (pv 1) ak (λ_ _=>rfl)) b8 (aA _))
     (af (aP (aC (pv 0) Y.cl D.me D.Ge HH D.be .nil ap (aa (b6 (aC (pv 0) Y.cl O.ml O.Gl E5 O.bl .nil ap (aa (az aG (pv 1) ak (λ_ _=>rfl)) ac)) Y.L.cl D.mp D.Gp CC D.bp .nil ap) (aa (az aG (pv 1) ak (λ_ _=>rfl)) ac)))))
     (af (aR (ax bz (az aG (pv 1) ak (λ_ _=>rfl)) b8 (aA _))
      (af (aP (aC (pv 0) Y.cl D.my D.Gy CC D.UP .nil ap (aa (b6 (aC (pv 0) Y.cl O.ml O.Gl E5 O.bl .nil ap (aa (az aG (pv 1) ak (λ_ _=>rfl)) ac)) Y.L.cl D.mp D.Gp CC D.bp .nil ap) (aa (aC (al (al (pv 0) rfl) rfl) L.cl Me.m Gen CC Me.b .nil ap (aa (az aG (pv 1) ak (λ_ _=>rfl)) ac)) ac)))))
      (af (aP (b6 (aC (pv 0) Y.cl O.ml O.Gl E5 O.bl .nil ap (aa (az aG (pv 1) ak (λ_ _=>rfl)) ac)) Y.L.cl D.mb D.Gb CC D.bb .nil ap)))))))))
   (af (aP (bW plainAttrs_list PySem.F.slot_list_append PySem.F.type_list_append bQ (al (pv 0) rfl) (aa (pv 1) ac))))),?_⟩
  obtain⟨Ci,FD⟩:=tP hm
  refine⟨_,rfl,_,rfl,a.y,a.dy,_,rfl,hI.Y.ins,rfl,_,rfl,a,st,p,m,rfl,hI,hp,Ci,λDl C8 H1 s1 hDl gDl hpr=>?_⟩
  refine⟨Dl,C8,ut m,(rZ a st m).map ut,rfl,xg m (s1 _ _ hp),Cb.of gDl,iF hpr,(jS m).le (by decide),λz hz=>by obtain⟨m',_,rfl⟩:=mem_map.mp hz;exact(jS m').le (by decide),_,rfl,?_⟩
  rw[BO FD]
  refine aH ?_
  have GD:=hI.same W s1
  have C7:=s1 _ _ hp
  have hY:=GD.Y
  refine⟨λσ' H'=>σ' = start ["self", "move"] [.ref a.y, .ref p]/\∃s',Ed a st m s'/\Cn a.four H1 H'/\CQ K ys H' a s',?_,?_⟩
  ·
   have HI:∀(k:Nat)(lk:cZ)(pq:Int × Int),st.lanes[k]? = some lk->lk.qs.head? = some pq->∀(Ct:List V),H1 a.la=some (.lst Ct)->∀(x dx pa:Addr)(Cy:List V)(H2:Hp),Cn [a.la] H1 H2->H1 x=none->H1 pa=none->H2 a.la=some (.lst (Ct.set k (.ref x)))->Cz H2 ys.C0 x dx pa lk.r lk.b lk.h Cy lk.qs ->
     ∀(Q':VK)(E':XK),(∀(v:V)(H3:Hp),xy H3 v pq->Cn [a.la] H1 H3->CQ K ys H3 a { st with lanes:=st.lanes.set k (cK lk) }->Q' v H3)->pS ys.C0 [.ref x] H2 Q' E':=by
    intro k lk pq hk hq Ct CZ x dx pa Cy H2 o2 nx np g2 El Q' E' hQ
    refine⟨x,dx,pa,lk.r,lk.b,lk.h,Cy,lk.qs,rfl,El,λe0=>?_,λv rest ev H3 o3 ES=>?_⟩
    ·exfalso
     have hl:=Paired.length El.Dq
     rw[e0]at hl
     cases En:lk.qs with
     | nil=>rw[En]at hq;cases hq
     | cons _ _=>rw[En]at hl;cases hl
    ·have o4:Cn [a.la] H1 H3:=λb o nb e=>o3 b o (aj e nx) (aj e np) (o2 b o nb e)
     refine hQ v H3 ?_ o4 (CQ.EU hY CZ o4 (k:=k) (x:=x) (dx:=dx) (pa:=pa) (o3 _ _ (aj CZ nx) (aj CZ np) g2) (ln:=cK lk) ES np)
     have hz:=Dz.G6 o3 El.ins El.lst El.Dq
     rw[ev]at hz
     cases En:lk.qs with
     | nil=>rw[En]at hq;cases hq
     | cons q0 r0 =>
      rw[En]at hq hz
      cases hq
      cases hz with
      | cons z _=>exact z
   obtain⟨Ct,CZ,Hh⟩:=hY.Dr
   have p3:∀{H3:Hp}{ex:List Addr}{xs:List V},H1 p=some (.tup xs)->Cn ex H1 H3->(∀b ∈ ex,b ∈ a.four)->H3 p=some (.tup xs):=λh o he=>o _ _ (λz=>by obtain⟨xs,hz⟩:=hY.DA _ (he _ z);rw[h]at hz;cases hz) h
   cases m with
   | Dh k l =>
    have C7:H1 p=some (.tup [.str "in", .int k, .int l]):=C7
    obtain⟨l',t,ln,e0,ht,hg,hl,C9,ho⟩:=wE (show Mv.Dh k l ∈ iA a st k from FD)
    cases e0
    refine⟨_,rfl,p,_,0,_,rfl,rfl,Ck.of C7,ao (j:=0) rfl,rfl,_,rfl,?_⟩
    rw[jV]
    refine aN ⟨_,rfl,a.y,a.dy,_,rfl,hY.ins,rfl,_,rfl,p,_,1,_,rfl,rfl,Ck.of C7,ao (j:=1) rfl,_,rfl,p,_,2,_,rfl,rfl,Ck.of C7,ao (j:=2) rfl,a,st,k,l,t,ln,rfl,hY,ht,C9,ho,(hI.G.Dt k t ht).2,lt_of_le_of_lt (hS.q l ln C9) (by decide),λH' o' IH=>⟨rfl,_,Ed.Dh ht hg hl C9 ho,o'.mono (by simp),IH⟩⟩
   | on k l =>
    have C7:H1 p=some (.tup [.str "on", .int k, .int l]):=C7
    obtain⟨l',pq,lk,ln,e0,hk,hq,hl,C9,ho⟩:=wD (show Mv.on k l ∈ iW a st k from FD)
    cases e0
    obtain⟨m,t,em,ht,KJ⟩:=hI.G.Dq k lk hk pq (mem_of_head? hq)
    obtain⟨m0,cq⟩:=pq
    have em:m0=(m:Int):=em
    subst em
    refine⟨_,rfl,p,_,0,_,rfl,rfl,Ck.of C7,ao (j:=0) rfl,rfl,_,rfl,?_⟩
    rw[jr (by decide +kernel)]
    refine aH ⟨_,rfl,p,_,0,_,rfl,rfl,Ck.of C7,ao (j:=0) rfl,rfl,_,rfl,?_⟩
    rw[jV]
    refine aN ⟨_,rfl,a.y,a.dy,_,rfl,hY.ins,rfl,_,rfl,a.y,a.dy,_,rfl,hY.ins,rfl,_,rfl,p,_,1,_,rfl,rfl,Ck.of C7,ao (j:=1) rfl,a,st,k,lk,Ct,rfl,hY,hk,CZ,λx dx pa Cy H2 o2 nx np g2 El=>⟨x,dx,_,rfl,El.ins,rfl,HI k lk _ hk hq Ct CZ x dx pa Cy H2 o2 nx np g2 El _ (λ_ _ _=>False) λv H3 hv o3 Ec=>?_⟩⟩
    have LA:=p3 C7 o3 (by simp)
    have EF:k < st.lanes.length:=(gQ0 hk)
    obtain⟨ln2,OI,er,eh,eq⟩:∃ln2,(st.lanes.set k (cK lk))[l]? = some ln2/\ln2.r=ln.r/\ln2.h=ln.h/\ln2.qs.length <= 10000:=by
     by_cases IM:k=l
     ·subst IM
      rw[hk]at C9
      cases C9
      refine⟨cK lk,by simp[EF],rfl,rfl,?_⟩
      have:=hS.q k lk hk
      show lk.qs.tail.length <= 10000
      rw[List.length_tail];omega
     ·exact⟨ln,by rw[getElem?_set_ne IM];exact C9,rfl,rfl,hS.q l ln C9⟩
    have D5:cI ln2.r ln2.h m cq=true:=by rw[er,eh];exact ho
    refine⟨_,rfl,p,_,2,_,rfl,rfl,Ck.of LA,ao (j:=2) rfl,a,{ st with lanes:=st.lanes.set k (cK lk) },v,m,cq,l,t,ln2,rfl,Ec,hv,ht,OI,D5,(hI.G.Dt m t ht).2,lt_of_le_of_lt eq (by decide),λH' o' IH=>⟨rfl,_,Ed.on hk hq ht hl OI D5,(o3.mono (by simp)).trans (o'.mono (by simp)),IH⟩⟩
   | DL k =>
    have C7:H1 p=some (.tup [.str "lie", .int k]):=C7
    obtain⟨pq,lk,t0,e0,hk,hq,JK,hg⟩:=rX (show Mv.DL k ∈ fG a st k from FD)
    obtain⟨m,t,em,ht,KJ⟩:=hI.G.Dq k lk hk pq (mem_of_head? hq)
    obtain⟨m0,cq⟩:=pq
    have em:m0=(m:Int):=em
    subst em
    have JK:st.U[m]? = some t0:=by rw[←JK];rfl
    rw[ht]at JK
    cases JK
    have EF:k < st.lanes.length:=(gQ0 hk)
    have HZ:k < a.ps.length:=by rw[←hI.G.lanes];exact EF
    have he:=getElem?_eq_getElem HZ
    have JM:a.ps.getD k (0,0)=a.ps[k]:=by rw[getD_eq_getElem?_getD,he];rfl
    obtain⟨e,ee,OC⟩:=hI.O.ends k _ he
    rw[JM,ee]at hg
    have JO:e < st.lies.length:=by rw[hI.G.lies];exact OC
    have En:=getElem?_eq_getElem JO
    refine⟨_,rfl,p,_,0,_,rfl,rfl,Ck.of C7,ao (j:=0) rfl,rfl,_,rfl,?_⟩
    rw[jr (by decide +kernel)]
    refine aH ⟨_,rfl,p,_,0,_,rfl,rfl,Ck.of C7,ao (j:=0) rfl,rfl,_,rfl,?_⟩
    rw[jr (by decide +kernel)]
    refine aH ⟨_,rfl,p,_,0,_,rfl,rfl,Ck.of C7,ao (j:=0) rfl,rfl,_,rfl,?_⟩
    rw[jV]
    refine aN ⟨_,rfl,a.y,a.dy,_,rfl,hY.ins,rfl,_,rfl,a.y,a.dy,_,rfl,hY.ins,rfl,_,rfl,p,_,1,_,rfl,rfl,Ck.of C7,ao (j:=1) rfl,a,st,k,lk,Ct,rfl,hY,hk,CZ,λx dx pa Cy H2 o2 nx np g2 El=>⟨x,dx,_,rfl,El.ins,rfl,HI k lk _ hk hq Ct CZ x dx pa Cy H2 o2 nx np g2 El _ (λ_ _ _=>False) λv H3 hv o3 Ec=>?_⟩⟩
    have LA:=p3 C7 o3 (by simp)
    have Kv:zS c TC J H3 a:=CK.keep W GD.T (Cn.Cq (λb hb=>by simp at hb;subst hb;exact⟨_,CZ⟩) o3)
    obtain⟨EE,fst,E7,C4,Ds⟩:=Kv.i
    refine⟨_,rfl,a.y,ys.Ca,a.dy,_,_,rfl,Ec.ins,Y.cl,Y.n1,rfl,a.tb,TC,EE,fst,_,rfl,E7,W.cl,W.nl,C4,a.lx,a.Cr,_,rfl,Kv.l.1,rfl,_,rfl,p,_,1,_,rfl,rfl,Ck.of LA,ao (j:=1) rfl,a.lx,a.Cr,a.lt,(a.n:Int),a.Cf,a.ps,k,_,rfl,Kv.l,he,?_⟩
    rw[ee]
    exact⟨a,{ st with lanes:=st.lanes.set k (cK lk) },v,((m:Int),cq),e,_,rfl,Ec,hv,En,le_trans (hS.l e _ En) (by decide),λH' o' IH=>⟨rfl,_,Ed.DL hk hq ht hg (by rw[JM,ee]) En,(o3.mono (by simp)).trans (o'.mono (by simp)),IH⟩⟩
   | back k =>
    have C7:H1 p=some (.tup [.str "back", .int k]):=C7
    obtain⟨lk,e0,hk,hb⟩:=oS (show Mv.back k ∈ eG st k from FD)
    refine⟨_,rfl,p,_,0,_,rfl,rfl,Ck.of C7,ao (j:=0) rfl,rfl,_,rfl,?_⟩
    rw[jr (by decide +kernel)]
    refine aH ⟨_,rfl,p,_,0,_,rfl,rfl,Ck.of C7,ao (j:=0) rfl,rfl,_,rfl,?_⟩
    rw[jr (by decide +kernel)]
    refine aH ⟨_,rfl,p,_,0,_,rfl,rfl,Ck.of C7,ao (j:=0) rfl,rfl,_,rfl,?_⟩
    rw[jr (by decide +kernel)]
    refine aH ⟨_,rfl,a.y,a.dy,_,rfl,hY.ins,rfl,_,rfl,p,_,1,_,rfl,rfl,Ck.of C7,ao (j:=1) rfl,a,st,k,lk,Ct,rfl,hY,hk,CZ,λx dx pa Cy H2 o2 nx np g2 El=>⟨x,dx,_,rfl,El.ins,rfl,x,dx,pa,lk.r,lk.b,lk.h,Cy,lk.qs,rfl,El,(λe0=>by rw[e0]at hb;exact absurd hb (by decide)),λ_ H3 o3 ES=>?_⟩⟩
    have o4:Cn [a.la] H1 H3:=λb o nb e=>o3 b o (aj e nx) (aj e np) (o2 b o nb e)
    exact⟨rfl,_,Ed.back hk hb,o4.mono (by simp),CQ.EU hY CZ o4 (k:=k) (x:=x) (dx:=dx) (pa:=pa) (o3 _ _ (aj CZ nx) (aj CZ np) g2) (ln:=zN lk) ES np⟩
  ·rintro σ' H2 ⟨rfl,s',hs,o2,E8⟩
   obtain⟨Dk,JE,pd⟩:=E8.DY
   have E4:Dk.length=st.done.length:=by rw[Paired.length pd,hs.done]
   have Jp:H2 p=some (.tup (eP m)):=o2 _ _ (λz=>by obtain⟨xs,hz⟩:=hY.DA _ z;rw[C7]at hz;cases hz) C7
   have hd:=hS.d
   refine⟨_,rfl,a.y,ys.Ca,a.dy,_,_,rfl,E8.ins,Y.cl,Y.n6,rfl, .inl ⟨rfl,_,Cb.of JE⟩,_,rfl,a.dn,_,_,rfl,rfl,JE,by rw[sizeLine_eq];omega,?_⟩
   have Ec:=E8.JC JE ⟨p,rfl,Jp⟩
   rw[hs.done]at Ec
   exact q _ s' hs ((BX.CF s1).trans (o2.trans (cS (by simp)))) Ec
theorem gy{α:Type}{L:List α}{y z:α}(h:(L.set k y)[j]? = some z):(j=k/\z=y)∨(j ≠ k/\L[j]? = some z):=by
 by_cases e:k=j
 ·subst e
  rw[List.getElem?_set_self']at h
  cases hk:L[k]? with
  | none=>rw[hk]at h;cases h
  | some x=>rw[hk]at h;cases h;exact .inl ⟨rfl,rfl⟩
 ·rw[getElem?_set_ne e]at h
  exact .inr ⟨Ne.symm e,h⟩
theorem jy{α:Type}{L:List α}{x y:α}(h:L[k]? = some x):(L.set k y)[k]? = some y:=by
 have:=(gQ0 h)
 simp[this]
theorem fJ{α:Type}(f:α->Nat):∀{L:List α}{k:Nat}{x y:α},L[k]? = some x->((L.set k y).map f).sum + f x=(L.map f).sum + f y
 | [],_,_,_,h=>by cases h
 | z :: L,0,x,y,h=>by cases h;simp only[List.set_cons_zero,map_cons,sum_cons];omega
 | z :: L,k + 1,x,y,h=>by
  have:=fJ f (L:=L) (k:=k) (x:=x) (y:=y) h
  simp only[List.set_cons_succ,map_cons,sum_cons];omega
theorem jI{α:Type}(f:α->Int):∀{L:List α}{k:Nat}{x y:α},L[k]? = some x->((L.set k y).map f).sum + f x=(L.map f).sum + f y
 | [],_,_,_,h=>by cases h
 | z :: L,0,x,y,h=>by cases h;simp only[List.set_cons_zero,map_cons,sum_cons];omega
 | z :: L,k + 1,x,y,h=>by
  have:=jI f (L:=L) (k:=k) (x:=x) (y:=y) h
  simp only[List.set_cons_succ,map_cons,sum_cons];omega
noncomputable def pb(a:YA)(l:Nat):Int:=(a.ps.getD l (0,0)).2
noncomputable def ld(s:YS):Nat:=(s.lanes.map λln=>ln.qs.length).sum
noncomputable def jJ(s:YS):Nat:=(s.lies.map λqs=>qs.length).sum
noncomputable def gR(s:YS):Int:=(s.U.map λt=>t.gone).sum
structure Rn(a:YA)(s:YS)(m:Nat)(c:Int):Prop where
 lanes:s.lanes.length=a.ps.length
 lies:s.lies.length=a.n
 C6:s.U.length <= 60
 Hi:a.ps.length <= 40
 lets:∀(m:Nat)(t:c7),s.U[m]? = some t->∃x y:Nat,t.start=(x:Int)/\t.goal=(y:Int)/\x < a.n/\y < a.n
 Dt:∀(m:Nat)(t:c7),s.U[m]? = some t->(∀l ∈ t.way,l < a.ps.length)/\t.way.Nodup
 Dq:∀(k:Nat)(ln:cZ),s.lanes[k]? = some ln->∀q ∈ ln.qs,∃(m:Nat)(t:c7),q.1=(m:Int)/\s.U[m]? = some t/\k ∈ t.way
 Eo:∀(m:Nat)(t:c7),s.U[m]? = some t->0 <= t.gone/\t.gone <= t.len/\t.len <= 60
 Du:∀(m':Nat)(t:c7),s.U[m']? = some t->t.gone=0->t.way=[]/\m' ≠ m
 last:∀(m:Nat)(t:c7),s.U[m]? = some t->∀(i l:Nat),t.way[i]? = some l->pb a l=t.goal->i + 1=t.way.length
 head:∀(m':Nat)(t:c7),s.U[m']? = some t->∀(l:Nat)(ln:cZ),t.way.getLast? = some l->s.lanes[l]? = some ln->(m' = m/\c=0)∨((m':Int),(0:Int)) ∈ ln.qs∨pb a l=t.goal
 first:∀(k:Nat)(ln:cZ),s.lanes[k]? = some ln->∀(i j:Nat)(z:Int)(q:Int × Int),ln.qs[i]? = some (z,0)->j < i->ln.qs[j]? = some q->q.1 ≠ z
 Hj:∀(k:Nat)(ln:cZ),s.lanes[k]? = some ln->∀(m':Nat)(t:c7),((m':Int),(0:Int)) ∈ ln.qs->s.U[m']? = some t->t.way.getLast? = some k
 gone:c=0->∀(k:Nat)(ln:cZ),s.lanes[k]? = some ln->((m:Int),(0:Int)) ∉ ln.qs
 sum:(ld s:Int) + (jJ s:Int) + 1=gR s
structure CN(a:YA)(s:YS):Prop where
 lanes:s.lanes.length=a.ps.length
 lies:s.lies.length=a.n
 C6:s.U.length <= 60
 Hi:a.ps.length <= 40
 lets:∀(m:Nat)(t:c7),s.U[m]? = some t->∃x y:Nat,t.start=(x:Int)/\t.goal=(y:Int)/\x < a.n/\y < a.n
 Dt:∀(m:Nat)(t:c7),s.U[m]? = some t->(∀l ∈ t.way,l < a.ps.length)/\t.way.Nodup
 Dq:∀(k:Nat)(ln:cZ),s.lanes[k]? = some ln->∀q ∈ ln.qs,∃(m:Nat)(t:c7),q.1=(m:Int)/\s.U[m]? = some t/\k ∈ t.way
 Eo:∀(m:Nat)(t:c7),s.U[m]? = some t->0 <= t.gone/\t.gone <= t.len/\t.len <= 60
 Du:∀(m':Nat)(t:c7),s.U[m']? = some t->t.gone=0->t.way=[]
 last:∀(m:Nat)(t:c7),s.U[m]? = some t->∀(i l:Nat),t.way[i]? = some l->pb a l=t.goal->i + 1=t.way.length
 head:∀(m':Nat)(t:c7),s.U[m']? = some t->∀(l:Nat)(ln:cZ),t.way.getLast? = some l->s.lanes[l]? = some ln->((m':Int),(0:Int)) ∈ ln.qs∨pb a l=t.goal
 first:∀(k:Nat)(ln:cZ),s.lanes[k]? = some ln->∀(i j:Nat)(z:Int)(q:Int × Int),ln.qs[i]? = some (z,0)->j < i->ln.qs[j]? = some q->q.1 ≠ z
 Hj:∀(k:Nat)(ln:cZ),s.lanes[k]? = some ln->∀(m':Nat)(t:c7),((m':Int),(0:Int)) ∈ ln.qs->s.U[m']? = some t->t.way.getLast? = some k
 sum:(ld s:Int) + (jJ s:Int)=gR s
theorem eO:∀(n:Nat)(l:List Nat),l.Nodup->(∀x ∈ l,x < n)->l.length <= n
 | 0,l,_,h=>by
  cases l with
  | nil=>exact le_refl _
  | cons x _=>exact absurd (h x mem_cons_self) (by omega)
 | n + 1,l,hn,h=>by
  have h1:=eO n (l.filter λx=>decide (x ≠ n)) (hn.filter _) λx hx=>by
   obtain⟨a,b⟩:=mem_filter.mp hx
   have:=h x a
   have:=of_decide_eq_true b
   omega
  have h2:l.length <= (l.filter λx=>decide (x ≠ n)).length + 1:=by
   clear h1 h
   induction l with
   | nil=>exact zero_le _
   | cons x l ih =>
    rw[nodup_cons]at hn
    by_cases e:x=n
    ·subst e
     have:(l.filter λy=>decide (y ≠ x))=l:=filter_eq_self.mpr λy hy=>decide_eq_true λz=>hn.1 (z ▸ hy)
     rw[List.filter_cons_of_neg (by simp),this]
     exact le_refl _
    ·rw[List.filter_cons_of_pos (by simpa using e)]
     have:=ih hn.2
     simp only[length_cons]
     omega
  omega
theorem CN.ok(h:CN a s):U1 a s:=⟨h.lanes,h.lies,h.lets,λm t ht=>⟨(h.Dt m t ht).1,by have:=eO _ _ (h.Dt m t ht).2 (h.Dt m t ht).1;have:=h.Hi;omega⟩,h.Dq,h.C6⟩
theorem wC{α:Type}{x:α}{l:List α}(h:x ∈ l.tail):x ∈ l:=List.mem_of_mem_tail h
theorem wQ{α:Type}{l:List α}{x:α}(h:l.head? = some x):l[0]? = some x:=by cases l with
 | nil=>cases h
 | cons y r=>exact h
theorem rY{α:Type}{l:List α}{x:α}(h:x ∈ l):∃i:Nat,l[i]? = some x:=by
 obtain⟨i,hi,e⟩:=getElem_of_mem h
 exact⟨i,by rw[getElem?_eq_getElem hi,e]⟩
theorem nN{α:Type}(l:List α)(i:Nat):l.tail[i]? = l[i + 1]?:=by cases l with
 | nil=>simp
 | cons y r=>rfl
theorem oO{k m:Nat}(J:CN a s)(hk:s.lanes[k]? = some lk)(hq:lk.qs.head? = some ((m:Int),c)):Rn a { s with lanes:=s.lanes.set k (cK lk) } m c:=by
 have h0:=wQ hq
 have Dh:∀(j:Nat)(D3:cZ),(s.lanes.set k (cK lk))[j]? = some D3->∃ln,s.lanes[j]? = some ln/\(∀q ∈ D3.qs,q ∈ ln.qs)/\∃d,(∀i,D3.qs[i]? = ln.qs[i + d]?)/\(D3.qs=ln.qs∨(j=k/\ln=lk/\D3.qs=lk.qs.tail)):=λj D3 h=>by
  rcases gy h with ⟨rfl,rfl⟩ | ⟨ne,h⟩
  ·exact⟨lk,hk,λq hq=>wC hq,1,λi=>nN _ i, .inr ⟨rfl,rfl,rfl⟩⟩
  ·exact⟨D3,h,λq hq=>hq,0,λi=>rfl, .inl rfl⟩
 have keep:∀(j:Nat)(ln:cZ),s.lanes[j]? = some ln->∃D3,(s.lanes.set k (cK lk))[j]? = some D3/\∀q ∈ ln.qs,q=((m:Int),c)∨q ∈ D3.qs:=λj ln h=>by
  by_cases e:j=k
  ·subst e
   rw[hk]at h
   cases h
   refine⟨cK lk,jy hk,λq Eh=>?_⟩
   show _∨q ∈ lk.qs.tail
   cases hl:lk.qs with
   | nil=>rw[hl]at hq;cases hq
   | cons z r =>
    rw[hl]at hq Eh
    cases hq
    exact(mem_cons.mp Eh).imp id id
  ·exact⟨ln,by rw[getElem?_set_ne (Ne.symm e)];exact h,λq hq => .inr hq⟩
 refine⟨by rw[←J.lanes];simp,J.lies,J.C6,J.Hi,J.lets,J.Dt,?_,J.Eo,?_,J.last,?_,?_,?_,?_,?_⟩
 ·intro j D3 h q Eh
  obtain⟨ln,hj,h1,_⟩:=Dh j D3 h
  exact J.Dq j ln hj q (h1 q Eh)
 ·intro m' t ht hg
  refine⟨J.Du m' t ht hg,λe=>?_⟩
  subst e
  obtain⟨m2,t2,e2,IP,Rp⟩:=J.Dq k lk hk _ (mem_of_head? hq)
  have:m' = m2:=by have:(m':Int)=(m2:Int):=e2;omega
  subst this
  rw[ht]at IP
  cases IP
  rw[J.Du m' t ht hg]at Rp
  cases Rp
 ·intro m' t ht l D3 hl Em
  obtain⟨ln,hj,h1,_⟩:=Dh l D3 Em
  rcases J.head m' t ht l ln hl hj with h | h
  ·obtain⟨ln2,h2,h3⟩:=keep l ln hj
   have h2:{ s with lanes:=s.lanes.set k (cK lk) }.lanes[l]? = some ln2:=h2
   rw[Em]at h2
   cases h2
   rcases h3 _ h with e | h
   ·injection e with e1 e2
    exact .inl ⟨by omega,e2.symm⟩
   ·exact .inr (.inl h)
  ·exact .inr (.inr h)
 ·intro j D3 h i i' z q hi CS Eh
  obtain⟨ln,hj,_,d,h2,_⟩:=Dh j D3 h
  rw[h2]at hi Eh
  exact J.first j ln hj (i + d) (i' + d) z q hi (by omega) Eh
 ·intro j D3 h m' t Jo ht
  obtain⟨ln,hj,h1,_⟩:=Dh j D3 h
  exact J.Hj j ln hj m' t (h1 _ Jo) ht
 ·intro e0 j D3 h Jo
  subst e0
  obtain⟨ln,hj,h1,d,h2,h3⟩:=Dh j D3 h
  obtain⟨m2,t2,e2,IP,_⟩:=J.Dq k lk hk _ (mem_of_head? hq)
  have:m=m2:=by have:(m:Int)=(m2:Int):=e2;omega
  subst this
  have b1:=J.Hj k lk hk m t2 (mem_of_head? hq) IP
  have b2:=J.Hj j ln hj m t2 (h1 _ Jo) IP
  rw[b1]at b2
  have b2:=Option.some.inj b2
  subst b2
  rcases gy h with ⟨_,rfl⟩ | ⟨ne,_⟩
  ·obtain⟨i,hi⟩:=rY Jo
   have hi:lk.qs.tail[i]? = some ((m:Int),0):=hi
   rw[nN]at hi
   exact J.first k lk hk (i + 1) 0 _ _ hi (by omega) h0 rfl
  ·exact ne rfl
 ·have:=fJ (λln:cZ=>ln.qs.length) (y:=cK lk) hk
  have hl:(cK lk).qs.length + 1=lk.qs.length:=by
   show lk.qs.tail.length + 1=_
   cases hl:lk.qs with
   | nil=>rw[hl]at hq;cases hq
   | cons _ _=>rfl
  have h1:=J.sum
  unfold ld at h1 ⊢
  show((((s.lanes.set k (cK lk)).map λln=>ln.qs.length).sum:Nat):Int) + (jJ s:Int) + 1=gR s
  omega
theorem wB(J:CN a s)(ht:s.U[k]? = some t)(hg:t.gone ≠ t.len):Rn a (jp s k t) k t.gone:=by
 have g0:=J.Eo k t ht
 have lk:∀(m:Nat)(t':c7),(s.U.set k { t with gone:=t.gone + 1 })[m]? = some t'->∃t0,s.U[m]? = some t0/\t'.start=t0.start/\t'.goal=t0.goal/\t'.way=t0.way/\t'.len=t0.len/\((m=k/\t'.gone=t.gone + 1)∨(m ≠ k/\t'.gone=t0.gone)):=λm t' h=>by
  rcases gy h with ⟨rfl,rfl⟩ | ⟨ne,h⟩
  ·exact⟨t,ht,rfl,rfl,rfl,rfl, .inl ⟨rfl,rfl⟩⟩
  ·exact⟨t',h,rfl,rfl,rfl,rfl, .inr ⟨ne,rfl⟩⟩
 refine⟨J.lanes,J.lies,by show(s.U.set _ _).length <= 60;rw[length_set];exact J.C6,J.Hi,?_,?_,?_,?_,?_,?_,?_,J.first,?_,?_,?_⟩
 ·intro m t' h
  obtain⟨t0,h0,e1,e2,_⟩:=lk m t' h
  rw[e1,e2];exact J.lets m t0 h0
 ·intro m t' h
  obtain⟨t0,h0,e1,e2,e3,_⟩:=lk m t' h
  rw[e3];exact J.Dt m t0 h0
 ·intro j ln h q hq
  obtain⟨m,t0,e,h0,hj⟩:=J.Dq j ln h q hq
  by_cases em:m=k
  ·subst em
   rw[ht]at h0
   cases h0
   exact⟨m,_,e,jy ht,hj⟩
  ·exact⟨m,t0,e,by show(s.U.set _ _)[m]? = _;rw[getElem?_set_ne (Ne.symm em)];exact h0,hj⟩
 ·intro m t' h
  obtain⟨t0,h0,e1,e2,e3,e4,e5⟩:=lk m t' h
  have:=J.Eo m t0 h0
  rcases e5 with ⟨rfl,e5⟩ | ⟨_,e5⟩
  ·rw[ht]at h0
   cases h0
   rw[e4,e5];omega
  ·rw[e4,e5];exact this
 ·intro m t' h hz
  obtain⟨t0,h0,e1,e2,e3,e4,e5⟩:=lk m t' h
  rcases e5 with ⟨rfl,e5⟩ | ⟨ne,e5⟩
  ·omega
  ·rw[e3];exact⟨J.Du m t0 h0 (by omega),ne⟩
 ·intro m t' h i l hi hl
  obtain⟨t0,h0,e1,e2,e3,e4,e5⟩:=lk m t' h
  rw[e3]at hi ⊢
  rw[e2]at hl
  exact J.last m t0 h0 i l hi hl
 ·intro m t' h l ln hl C9
  obtain⟨t0,h0,e1,e2,e3,e4,e5⟩:=lk m t' h
  rw[e3]at hl
  rw[e2]
  exact .inr (J.head m t0 h0 l ln hl C9)
 ·intro j ln h m t' hm h'
  obtain⟨t0,h0,e1,e2,e3,e4,e5⟩:=lk m t' h'
  rw[e3]
  exact J.Hj j ln h m t0 hm h0
 ·intro e0 j ln h hm
  obtain⟨m,t0,e,h0,hj⟩:=J.Dq j ln h _ hm
  have:k=m:=by have:(k:Int)=(m:Int):=e;omega
  subst this
  rw[ht]at h0
  cases h0
  rw[J.Du k t ht e0]at hj
  cases hj
 ·have:=jI (λt:c7=>t.gone) (y:={ t with gone:=t.gone + 1 }) ht
  have h1:=J.sum
  unfold gR at h1 ⊢
  show (ld s:Int) + (jJ s:Int) + 1=((s.U.set k { t with gone:=t.gone + 1 }).map λt=>t.gone).sum
  have:({ t with gone:=t.gone + 1 }:c7).gone=t.gone + 1:=rfl
  omega
theorem wI{l:List Nat}(h:l.getLast? = some x):l[l.length - 1]? = some x:=by rw[←h,List.getLast?_eq_getElem?]
theorem lE(M:Rn a s m c)(ht:s.U[m]? = some t)(C9:s.lanes[l]? = some ln)(h0:c=0->l ∉ t.way/\∀x ∈ t.way,pb a x ≠ t.goal)(h1:c ≠ 0->l ∈ t.way):CN a (eJ s m c l t ln):=by
 have G8:l < a.ps.length:=by rw[←M.lanes];exact(gQ0 C9)
 have lk:∀(m':Nat)(t':c7),(eJ s m c l t ln).U[m']? = some t'->∃t0,s.U[m']? = some t0/\t'.start=t0.start/\t'.goal=t0.goal/\t'.len=t0.len/\t'.gone=t0.gone/\((c=0/\m' = m/\t0=t/\t'.way=t.way ++ [l])∨(¬(c=0/\m' = m)/\t'.way=t0.way)):=λm' t' h=>by
  have h:(if c=0 then s.U.set m { t with way:=t.way ++ [l] } else s.U)[m']? = some t':=h
  by_cases hc:c=0
  ·rw[if_pos hc]at h
   rcases gy h with ⟨rfl,rfl⟩ | ⟨ne,h⟩
   ·exact⟨t,ht,rfl,rfl,rfl,rfl, .inl ⟨hc,rfl,rfl,rfl⟩⟩
   ·exact⟨t',h,rfl,rfl,rfl,rfl, .inr ⟨λz=>ne z.2,rfl⟩⟩
  ·rw[if_neg hc]at h
   exact⟨t',h,rfl,rfl,rfl,rfl, .inr ⟨λz=>hc z.1,rfl⟩⟩
 have YX:∀(m':Nat)(t0:c7),s.U[m']? = some t0->∃t',(eJ s m c l t ln).U[m']? = some t'/\(∀x ∈ t0.way,x ∈ t'.way)/\(m' = m->l ∈ t'.way):=λm' t0 h=>by
  by_cases hc:c=0
  ·by_cases e:m' = m
   ·subst e
    rw[ht]at h
    cases h
    refine⟨{ t with way:=t.way ++ [l] },by show(if c=0 then s.U.set m' { t with way:=t.way ++ [l] } else s.U)[m']? = _;rw[if_pos hc];exact jy ht,λx hx=>mem_append_left _ hx,λ_=>by show l ∈ t.way ++ [l];simp⟩
   ·exact⟨t0,by show(if c=0 then s.U.set m { t with way:=t.way ++ [l] } else s.U)[m']? = _;rw[if_pos hc,getElem?_set_ne (Ne.symm e)];exact h,λx hx=>hx,λz=>absurd z e⟩
  ·refine⟨t0,by show(if c=0 then s.U.set m { t with way:=t.way ++ [l] } else s.U)[m']? = _;rw[if_neg hc];exact h,λx hx=>hx,λz=>?_⟩
   subst z
   rw[ht]at h
   cases h
   exact h1 hc
 have D3:∀(j:Nat)(l':cZ),(eJ s m c l t ln).lanes[j]? = some l'->(j=l/\l'.qs=ln.qs ++ [((m:Int),c)])∨(j ≠ l/\s.lanes[j]? = some l'):=λj l' h=>by
  rcases gy h with ⟨rfl,rfl⟩ | ⟨ne,h⟩
  ·exact .inl ⟨rfl,rfl⟩
  ·exact .inr ⟨ne,h⟩
 have old:∀(j:Nat)(l':cZ),(eJ s m c l t ln).lanes[j]? = some l'->∀q ∈ l'.qs,(j=l/\q=((m:Int),c))∨∃l0,s.lanes[j]? = some l0/\q ∈ l0.qs:=λj l' h q hq=>by
  rcases D3 j l' h with ⟨rfl,e⟩ | ⟨ne,h⟩
  ·rw[e,mem_append]at hq
   rcases hq with hq | hq
   ·exact .inr ⟨ln,C9,hq⟩
   ·exact .inl ⟨rfl,by simpa using hq⟩
  ·exact .inr ⟨l',h,hq⟩
 refine⟨by rw[←M.lanes];show(s.lanes.set _ _).length=_;simp,M.lies,?_,M.Hi,?_,?_,?_,?_,?_,?_,?_,?_,?_,?_⟩
 ·show(if c=0 then s.U.set m { t with way:=t.way ++ [l] } else s.U).length <= 60
  by_cases hc:c=0
  ·rw[if_pos hc,length_set];exact M.C6
  ·rw[if_neg hc];exact M.C6
 ·intro m' t' h
  obtain⟨t0,h2,e1,e2,_⟩:=lk m' t' h
  rw[e1,e2];exact M.lets m' t0 h2
 ·intro m' t' h
  obtain⟨t0,h2,_,_,_,_,e⟩:=lk m' t' h
  obtain⟨w1,w2⟩:=M.Dt m' t0 h2
  rcases e with ⟨hc,rfl,rfl,e⟩ | ⟨_,e⟩
  ·rw[e]
   refine⟨λx hx=>?_,?_⟩
   ·rcases mem_append.mp hx with hx | hx
    ·exact w1 x hx
    ·rw[mem_singleton.mp hx];exact G8
   ·rw[List.nodup_append]
    exact⟨w2,by simp,λx hx y hy=>by rw[mem_singleton.mp hy];exact λz=>(h0 hc).1 (z ▸ hx)⟩
  ·rw[e];exact⟨w1,w2⟩
 ·intro j l' h q hq
  rcases old j l' h q hq with ⟨rfl,rfl⟩ | ⟨l0,h2,hq⟩
  ·obtain⟨t',h3,_,h4⟩:=YX m t ht
   exact⟨m,t',rfl,h3,h4 rfl⟩
  ·obtain⟨m',t0,e,h3,hj⟩:=M.Dq j l0 h2 q hq
   obtain⟨t',h4,h5,_⟩:=YX m' t0 h3
   exact⟨m',t',e,h4,h5 j hj⟩
 ·intro m' t' h
  obtain⟨t0,h2,_,_,e3,e4,_⟩:=lk m' t' h
  rw[e3,e4];exact M.Eo m' t0 h2
 ·intro m' t' h hz
  obtain⟨t0,h2,_,_,_,e4,e⟩:=lk m' t' h
  rw[e4]at hz
  obtain⟨w1,w2⟩:=M.Du m' t0 h2 hz
  rcases e with ⟨hc,rfl,_⟩ | ⟨_,e⟩
  ·exact absurd rfl w2
  ·rw[e];exact w1
 ·intro m' t' h i x hi hx
  obtain⟨t0,h2,_,e2,_,_,e⟩:=lk m' t' h
  rw[e2]at hx
  rcases e with ⟨hc,rfl,rfl,e⟩ | ⟨_,e⟩
  ·rw[e]at hi ⊢
   by_cases CS:i < t0.way.length
   ·rw[getElem?_append_left CS]at hi
    exact absurd hx ((h0 hc).2 x (mem_of_getElem? hi))
   ·have:=(gQ0 hi)
    rw[length_append,length_singleton]at this ⊢
    omega
  ·rw[e]at hi ⊢
   exact M.last m' t0 h2 i x hi hx
 ·intro m' t' h x l' hx Fo
  obtain⟨t0,h2,_,e2,_,_,e⟩:=lk m' t' h
  rcases e with ⟨hc,rfl,rfl,e⟩ | ⟨ne,e⟩
  ·rw[e]at hx
   have hx:l=x:=by simpa using hx
   subst hx
   rcases D3 l l' Fo with ⟨_,e'⟩ | ⟨ne,_⟩
   ·left
    rw[e',hc];simp
   ·exact absurd rfl ne
  ·rw[e]at hx
   rcases D3 x l' Fo with ⟨rfl,e'⟩ | ⟨ne',h'⟩
   ·rcases M.head m' t0 h2 x ln hx C9 with z | z | z
    ·exact absurd ⟨z.2,z.1⟩ ne
    ·exact .inl (by rw[e'];exact mem_append_left _ z)
    ·rw[e2];exact .inr z
   ·rcases M.head m' t0 h2 x l' hx h' with z | z | z
    ·exact absurd ⟨z.2,z.1⟩ ne
    ·exact .inl z
    ·rw[e2];exact .inr z
 ·intro j l' h i i' z q hi CS hq
  rcases D3 j l' h with ⟨rfl,e⟩ | ⟨_,h'⟩
  ·rw[e]at hi hq
   by_cases GU:i < ln.qs.length
   ·rw[getElem?_append_left GU]at hi
    rw[getElem?_append_left (by omega)]at hq
    exact M.first j ln C9 i i' z q hi CS hq
   ·have h3:=(gQ0 hi)
    rw[length_append,length_singleton]at h3
    have ei:i=ln.qs.length:=by omega
    subst ei
    rw[getElem?_concat_length]at hi
    have hi:=Option.some.inj hi
    injection hi with e1 e2
    subst e1
    rw[getElem?_append_left CS]at hq
    intro ez
    obtain⟨m',t0,e3,h4,h5⟩:=M.Dq j ln C9 q (mem_of_getElem? hq)
    have em0:(m':Int)=(m:Int):=by rw[←e3];exact ez
    have:m=m':=by omega
    subst this
    rw[ht]at h4
    cases h4
    exact(h0 e2).1 h5
  ·exact M.first j l' h' i i' z q hi CS hq
 ·intro j l' h m' t' hm h'
  obtain⟨t0,h2,_,_,_,_,e⟩:=lk m' t' h'
  rcases old j l' h _ hm with ⟨rfl,e'⟩ | ⟨l0,h3,hm⟩
  ·injection e' with e1 e2
   have em:m' = m:=by omega
   subst em
   rcases e with ⟨_,_,_,e⟩ | ⟨ne,_⟩
   ·rw[e];simp
   ·exact absurd ⟨e2.symm,rfl⟩ ne
  ·rcases e with ⟨hc,rfl,rfl,e⟩ | ⟨ne,e⟩
   ·exact absurd hm (M.gone hc j l0 h3)
   ·rw[e];exact M.Hj j l0 h3 m' t0 hm h2
 ·have q1:=fJ (λln:cZ=>ln.qs.length) (y:=kI ln m c t.len) C9
  have q2:(kI ln m c t.len).qs.length=ln.qs.length + 1:=by show(ln.qs ++ [_]).length=_;simp
  have q3:gR (eJ s m c l t ln)=gR s:=by
   unfold gR
   show((if c=0 then s.U.set m { t with way:=t.way ++ [l] } else s.U).map λt=>t.gone).sum=_
   by_cases hc:c=0
   ·rw[if_pos hc]
    have:=jI (λt:c7=>t.gone) (y:={ t with way:=t.way ++ [l] }) ht
    have e:({ t with way:=t.way ++ [l] }:c7).gone=t.gone:=rfl
    omega
   ·rw[if_neg hc]
  have h2:=M.sum
  rw[q3]
  unfold ld at h2 ⊢
  show((((s.lanes.set l (kI ln m c t.len)).map λln=>ln.qs.length).sum:Nat):Int) + (jJ s:Int)=gR s
  omega
theorem yL(M:Rn a s m c)(ht:s.U[m]? = some t)(En:s.lies[e]? = some qs)(h0:c=0->∀x,t.way.getLast? = some x->pb a x=t.goal):CN a { s with lies:=s.lies.set e (qs ++ [((m:Int),c)]) }:=by
 refine⟨M.lanes,by show(s.lies.set _ _).length=_;rw[length_set];exact M.lies,M.C6,M.Hi,M.lets,M.Dt,M.Dq,M.Eo,λm' t' h z=>(M.Du m' t' h z).1,M.last,?_,M.first,M.Hj,?_⟩
 ·intro m' t' h x l' hx Fo
  rcases M.head m' t' h x l' hx Fo with ⟨rfl,hc⟩ | z | z
  ·have h:s.U[m']? = some t':=h
   rw[ht]at h
   cases h
   exact .inr (h0 hc x hx)
  ·exact .inl z
  ·exact .inr z
 ·have:=fJ (λqs:List (Int × Int)=>qs.length) (y:=qs ++ [((m:Int),c)]) En
  have h2:=M.sum
  unfold jJ at h2 ⊢
  show (ld s:Int) + ((((s.lies.set e (qs ++ [((m:Int),c)])).map λqs=>qs.length).sum:Nat):Int)=gR s
  rw[length_append,length_singleton]at this
  omega
theorem CN.back(J:CN a s)(hk:s.lanes[k]? = some lk)(e:OJ.qs=lk.qs):CN a { s with lanes:=s.lanes.set k OJ }:=by
 have Dh:∀(j:Nat)(l':cZ),(s.lanes.set k OJ)[j]? = some l'->∃l0,s.lanes[j]? = some l0/\l'.qs=l0.qs:=λj l' h=>by
  rcases gy h with ⟨rfl,rfl⟩ | ⟨_,h⟩
  ·exact⟨lk,hk,e⟩
  ·exact⟨l',h,rfl⟩
 refine⟨by rw[←J.lanes];simp,J.lies,J.C6,J.Hi,J.lets,J.Dt,?_,J.Eo,J.Du,J.last,?_,?_,?_,?_⟩
 ·intro j l' h q hq
  obtain⟨l0,h0,e0⟩:=Dh j l' h
  rw[e0]at hq
  exact J.Dq j l0 h0 q hq
 ·intro m t ht x l' hx Fo
  obtain⟨l0,h0,e0⟩:=Dh x l' Fo
  rw[e0]
  exact J.head m t ht x l0 hx h0
 ·intro j l' h
  obtain⟨l0,h0,e0⟩:=Dh j l' h
  rw[e0]
  exact J.first j l0 h0
 ·intro j l' h
  obtain⟨l0,h0,e0⟩:=Dh j l' h
  rw[e0]
  exact J.Hj j l0 h0
 ·have:=fJ (λln:cZ=>ln.qs.length) (y:=OJ) hk
  have h1:=J.sum
  have e':=congrArg List.length e
  unfold ld at h1 ⊢
  show((((s.lanes.set k OJ).map λln=>ln.qs.length).sum:Nat):Int) + (jJ s:Int)=gR s
  omega
theorem CN.step(J:CN a s)(h:Ed a s m s'):CN a s':=by
 cases h with
 | @Dh k l t ln ht hg hl C9 ho =>
  have M:=wB J ht hg
  refine lE (t:={ t with gone:=t.gone + 1 }) M (jy ht) C9 (λhc=>?_) (λhc=>?_)
  ·have hw:=J.Du k t ht hc
   show l ∉ t.way/\∀x ∈ t.way,pb a x ≠ t.goal
   rw[hw]
   exact⟨by simp,by simp⟩
  ·unfold cG at hl
   rw[if_neg hc]at hl
   exact mem_of_mem_take hl
 | @on k l m c lk ln t hk hq ht hl C9 ho =>
  have M:=oO J hk hq
  have hw:du a s k=if c=0 then (qw a k t.goal.toNat).filter (λl=>!decide (l ∈ t.way)) else (t.way.drop (t.way.idxOf k + 1)).take 1:=by
   unfold du ci
   rw[hk]
   dsimp only
   rw[hq]
   dsimp only
   rw[toNat_natCast,ht]
  rw[hw]at hl
  refine lE M ht C9 (λhc=>?_) (λhc=>?_)
  ·rw[if_pos hc]at hl
   obtain⟨h1,h2⟩:=mem_filter.mp hl
   refine⟨by simpa using h2,λx hx ex=>?_⟩
   subst hc
   obtain⟨i,hi⟩:=rY hx
   have h3:=J.last m t ht i x hi ex
   have h4:=J.Hj k lk hk m t (mem_of_head? hq) ht
   have h5:=wI h4
   rw[show t.way.length - 1=i by omega,hi]at h5
   have h5:=Option.some.inj h5
   subst h5
   unfold qw at h1
   obtain⟨x0,y0,e1,e2,_,_⟩:=J.lets m t ht
   rw[if_pos (by show pb a x=_;rw[ex,e2,toNat_natCast])]at h1
   cases h1
  ·rw[if_neg hc]at hl
   exact List.mem_of_mem_drop (mem_of_mem_take hl)
 | @DL k m e c lk t qs hk hq ht hg he En =>
  have M:=oO J hk hq
  have:=yL (s:={ s with lanes:=s.lanes.set k (cK lk) }) M ht En (λhc x hx=>?_)
  ·exact this
  ·subst hc
   have h4:=J.Hj k lk hk m t (mem_of_head? hq) ht
   rw[h4]at hx
   have hx:=Option.some.inj hx
   subst hx
   show(a.ps.getD k (0,0)).2=t.goal
   rw[he,hg]
 | @back k lk hk hb=>exact J.back hk rfl
noncomputable def uH(s:YS):Int:=(s.U.map λt=>t.len).sum
theorem rl{α:Type}(f g:α->Int):∀{L:List α},(∀(m:Nat)(t:α),L[m]? = some t->f t <= g t)->(L.map f).sum <= (L.map g).sum
 | [],_=>by simp
 | x :: L,h=>by
  have h1:=h 0 x rfl
  have h2:=rl f g (L:=L) λm t ht=>h (m + 1) t ht
  simp only[map_cons,sum_cons];omega
theorem ls{α:Type}(g:α->Int):∀{L:List α},(∀(m:Nat)(t:α),L[m]? = some t->g t <= 60)->(L.map g).sum <= 60 * L.length
 | [],_=>by simp
 | x :: L,h=>by
  have h1:=h 0 x rfl
  have h2:=ls g (L:=L) λm t ht=>h (m + 1) t ht
  simp only[map_cons,sum_cons,length_cons];omega
theorem CN.OK(J:CN a s):(jJ s:Int) <= uH s/\(ld s:Int) + (jJ s:Int) <= 3600:=by
 have h1:=rl (λt:c7=>t.gone) (λt=>t.len) (L:=s.U) λm t ht=>(J.Eo m t ht).2.1
 have h2:=J.sum
 have h3:=ls (λt:c7=>t.len) (L:=s.U) λm t ht=>(J.Eo m t ht).2.2
 have h4:=J.C6
 unfold gR at h2
 unfold uH
 omega
theorem kG{α:Type}(f:α->Nat):∀{L:List α}{k:Nat}{x:α},L[k]? = some x->f x <= (L.map f).sum
 | [],_,_,h=>by cases h
 | z :: L,0,x,h=>by cases h;simp only[map_cons,sum_cons];omega
 | z :: L,k + 1,x,h=>by
  have:=kG f (L:=L) (k:=k) (x:=x) h
  simp only[map_cons,sum_cons];omega
theorem CN.UR(J:CN a s)(hd:s.done.length <= 100000):UO s:=by
 have h:=J.OK.2
 refine⟨λk ln hk=>?_,λp qs hp=>?_,hd⟩
 ·have:=kG (λln:cZ=>ln.qs.length) hk
  unfold ld at h
  omega
 ·have:=kG (λqs:List (Int × Int)=>qs.length) hp
  unfold jJ at h
  omega
abbrev yx(ys:Ys)(ex:List Addr):Ys:={ ys with ex:=ex }
def zT(x:V):Prop:=(∃i,x = .int i)∨∃t,x = .str t/\PyData.strOk t=true
structure US(a:YA)(s:YS):Prop where
 lanes:s.lanes.length=a.ps.length
 lies:s.lies.length=a.n
 q0:∀(k:Nat)(ln:cZ),s.lanes[k]? = some ln->ln.qs=[]
 l0:∀(p:Nat)(qs:List (Int × Int)),s.lies[p]? = some qs->qs=[]
 lets:∀(m:Nat)(t:c7),s.U[m]? = some t->t.gone=0/\t.way=[]/\0 <= t.len/\t.len <= 60/\∃x y:Nat,t.start=(x:Int)/\t.goal=(y:Int)/\x < a.n/\y < a.n
 done:∀d ∈ s.done,∀x ∈ d,zT x
theorem Ak{α:Type}(f:α->Nat):∀{L:List α},(∀(k:Nat)(x:α),L[k]? = some x->f x=0)->(L.map f).sum=0
 | [],_=>rfl
 | x :: L,h=>by
  have h1:=h 0 x rfl
  have h2:=Ak f (L:=L) λk y hy=>h (k + 1) y hy
  simp only[map_cons,sum_cons];omega
theorem zu{α:Type}(f:α->Int):∀{L:List α},(∀(k:Nat)(x:α),L[k]? = some x->f x=0)->(L.map f).sum=0
 | [],_=>rfl
 | x :: L,h=>by
  have h1:=h 0 x rfl
  have h2:=zu f (L:=L) λk y hy=>h (k + 1) y hy
  simp only[map_cons,sum_cons];omega
theorem US.GG(h:US a s)(C6:s.U.length <= 60)(Hi:a.ps.length <= 40):CN a s:=by
 refine⟨h.lanes,h.lies,C6,Hi,λm t ht=>(h.lets m t ht).2.2.2.2,λm t ht=>?_,λk ln hk q hq=>?_,λm t ht=>?_,λm t ht _=>(h.lets m t ht).2.1,λm t ht i l hi=>?_,λm t ht l ln hl=>?_,λk ln hk i j z q hi=>?_,λk ln hk m t hm=>?_,?_⟩
 ·rw[(h.lets m t ht).2.1];exact⟨(λl hl=>by cases hl),nodup_nil⟩
 ·rw[h.q0 k ln hk]at hq;cases hq
 ·obtain⟨h1,h2,h3,h4,_⟩:=h.lets m t ht
  rw[h1];exact⟨by omega,h3,h4⟩
 ·rw[(h.lets m t ht).2.1]at hi;cases hi
 ·rw[(h.lets m t ht).2.1]at hl;cases hl
 ·rw[h.q0 k ln hk]at hi;cases hi
 ·rw[h.q0 k ln hk]at hm;cases hm
 ·have h1:ld s=0:=Ak _ λk ln hk=>by rw[h.q0 k ln hk];rfl
  have h2:jJ s=0:=Ak _ λp qs hp=>by rw[h.l0 p qs hp];rfl
  have h3:gR s=0:=zu _ λm t ht=>(h.lets m t ht).1
  rw[h1,h2,h3];rfl
theorem l5(ha:a < n)(hb:b < n)(hl:1 <= l/\l <= 60)(hu:zK (.int u)=true)(ID:a ≠ b)(hw:wy a b none ≠ [])(hm:m < 60):mS n wy m (.int a) (.int b) (.int l) (.int u) = .good:=by
 unfold mS
 rw[show l9 (.int (a:Int)) 0 ((n:Int) - 1)=true from decide_eq_true (by omega),show l9 (.int (b:Int)) 0 ((n:Int) - 1)=true from decide_eq_true (by omega),show l9 (.int l) 1 60=true from decide_eq_true hl,hu,if_neg (by decide),if_neg (by decide),if_neg (by decide)]
 rw[if_neg (by
  rintro (h | h)
  ·have h:(a:Int)=(b:Int):=h
   omega
  ·have h:wy ((a:Int)).toNat ((b:Int)).toNat none=[]:=h
   rw[toNat_natCast,toNat_natCast]at h
   exact hw h),if_neg (by omega)]
theorem dN(s:BX H H1)(o:Cn ex H1 H2)(hn:∀b ∈ ex,H b=none):BX H H2:=λb u e=>o b _ (λz=>by rw[hn b z]at e;cases e) (s b u e)
theorem CN.done(J:CN a s)(d:List (List V)):CN a { s with done:=d }:=⟨J.lanes,J.lies,J.C6,J.Hi,J.lets,J.Dt,J.Dq,J.Eo,J.Du,J.last,J.head,J.first,J.Hj,J.sum⟩
theorem OL(h:Cv.length=a.ps.length):US a (Y0 Cv a.n):=by
 refine⟨by show(Cv.map tR).length=_;rw[length_map];exact h,by show(List.replicate a.n []).length=_;rw[length_replicate],λk ln hk=>?_,λp qs hp=>?_,λm t ht=>?_,λd hd=>?_⟩
 ·have hk:(Cv.map tR)[k]? = some ln:=hk
  rw[getElem?_map]at hk
  cases hr:Cv[k]? with
  | none=>rw[hr]at hk;cases hk
  | some v=>rw[hr]at hk;cases hk;rfl
 ·have hp:(List.replicate a.n ([]:List (Int × Int)))[p]? = some qs:=hp
  exact eq_of_mem_replicate (mem_of_getElem? hp)
 ·have ht:([]:List c7)[m]? = some t:=ht
  cases ht
 ·have hd:d ∈ ([]:List (List V)):=hd
  cases hd
theorem sy :∀us:List Nat,CW K H (nV us) (us.map λz:Nat=>PyData.int z)
 | [] => .nil
 | u :: us => .cons (.int _) (sy us)
noncomputable def kB(p:Int × Int):PyData := .tuple [.int p.1, .int p.2]
theorem eV :∀{vs:List V}{ps:List (Int × Int)},Cw H vs ps->CW K H vs (ps.map kB)
 | _,_, .nil => .nil
 | _,_, .cons ⟨t,e,h⟩ r => .cons (by subst e;exact .tup (Ck.of h) (.cons (.int _) (.cons (.int _) .nil))) (eV r)
theorem sS(ps:List (Int × Int)):DR (.list (ps.map kB)) 64:=(bN (m:=1) λz hz=>by
 obtain⟨p,_,rfl⟩:=mem_map.mp hz
 exact c5 (m:=0) λy hy=>by
  simp only[mem_cons,not_mem_nil,or_false]at hy
  rcases hy with rfl | rfl<;>exact bS _).le (by decide)
theorem rF(ms:List Mv):DR (.list (ms.map ut)) 64:=(bN (m:=1) λz hz=>by
 obtain⟨m,_,rfl⟩:=mem_map.mp hz
 exact jS m).le (by decide)
theorem IQ:DR (.list []) 64:=(bN (m:=0) λz hz=>by cases hz).le (by decide)
theorem yY{α:Type}(f:α->PyData)(l:List α):PyData.eqv (.list (l.map f)) (.list [])=l.isEmpty:=by
 cases l<;>simp[PyData.eqv,PyData.eqvAll]
theorem neN{α:Type}{f:α->PyData}{l:List α}(h1:Den K H x (.list (l.map f)))(h2:Den K H y (.list []))(s:DR (.list (l.map f)) 64)(q:Q (.bl (!l.isEmpty)) H):AJ K x y H Q :=
 ⟨_,_,h1,h2,s.shaped (le_refl _),IQ.shaped (le_refl _),by rw[yY];exact q⟩
theorem Ed.rooms(h:Ed a s m s'):s'.rooms=s.rooms:=by cases h<;>rfl
theorem Ed.len(h:Ed a s m s'):s'.U.length=s.U.length:=by
 cases h with
 | @Dh k l t ln ht hg hl C9 ho =>
  show(if t.gone=0 then (jp s k t).U.set k _ else (jp s k t).U).length=_
  have:(jp s k t).U.length=s.U.length:=length_set ..
  split
  ·rw[length_set];exact this
  ·exact this
 | @on k l m c lk ln t hk hq ht hl C9 ho =>
  show(if c=0 then s.U.set m _ else s.U).length=_
  split
  ·exact length_set ..
  ·rfl
 | DL=>rfl
 | back=>rfl
theorem OM(m:Mv):∀x ∈ eP m,zT x:=by
 cases m<;>intro x hx<;>simp only[eP,mem_cons,not_mem_nil,or_false]at hx
 ·rcases hx with rfl | rfl | rfl<;>first | exact Or.inl ⟨_,rfl⟩ | exact Or.inr ⟨_,rfl,by decide +kernel⟩
 ·rcases hx with rfl | rfl | rfl<;>first | exact Or.inl ⟨_,rfl⟩ | exact Or.inr ⟨_,rfl,by decide +kernel⟩
 ·rcases hx with rfl | rfl<;>first | exact Or.inl ⟨_,rfl⟩ | exact Or.inr ⟨_,rfl,by decide +kernel⟩
 ·rcases hx with rfl | rfl<;>first | exact Or.inl ⟨_,rfl⟩ | exact Or.inr ⟨_,rfl,by decide +kernel⟩
theorem CN.post(J:CN a s)(hx:x < a.n)(hy:y < a.n)(hl:0 <= l/\l <= 60)(hf:s.U.length < 60):CN a (k9 s x y l u):=by
 have el:∀(m:Nat)(t:c7),(k9 s x y l u).U[m]? = some t->s.U[m]? = some t∨(m=s.U.length/\t = ⟨x,y,l,u,0,[]⟩):=λm t ht=>by
  have ht:(s.U ++ [(⟨(x:Int),(y:Int),l,u,0,[]⟩:c7)])[m]? = some t:=ht
  by_cases hm:m < s.U.length
  ·rw[getElem?_append_left hm]at ht;exact .inl ht
  ·have h3:=(gQ0 ht)
   rw[length_append,length_singleton]at h3
   have em:m=s.U.length:=by omega
   subst em
   rw[getElem?_concat_length]at ht
   cases ht
   exact .inr ⟨rfl,rfl⟩
 have eo:∀(m:Nat)(t:c7),s.U[m]? = some t->(k9 s x y l u).U[m]? = some t:=λm t ht=>by
  show(s.U ++ [(⟨(x:Int),(y:Int),l,u,0,[]⟩:c7)])[m]? = some t
  rw[getElem?_append_left (gQ0 ht)];exact ht
 refine⟨J.lanes,J.lies,?_,J.Hi,λm t ht=>?_,λm t ht=>?_,λk ln hk q hq=>?_,λm t ht=>?_,λm t ht hg=>?_,λm t ht i l' hi he=>?_,λm t ht l' ln Fo C9=>?_,J.first,λk ln hk m t hm ht=>?_,?_⟩
 ·show(s.U ++ [_]).length <= 60
  rw[length_append,length_singleton];omega
 ·rcases el m t ht with h | ⟨_,rfl⟩
  ·exact J.lets m t h
  ·exact⟨x,y,rfl,rfl,hx,hy⟩
 ·rcases el m t ht with h | ⟨_,rfl⟩
  ·exact J.Dt m t h
  ·exact⟨(λl hl=>by cases hl),nodup_nil⟩
 ·obtain⟨m,t,e,ht,KJ⟩:=J.Dq k ln hk q hq
  exact⟨m,t,e,eo m t ht,KJ⟩
 ·rcases el m t ht with h | ⟨_,rfl⟩
  ·exact J.Eo m t h
  ·exact⟨Int.le_refl _,hl.1,hl.2⟩
 ·rcases el m t ht with h | ⟨_,rfl⟩
  ·exact J.Du m t h hg
  ·rfl
 ·rcases el m t ht with h | ⟨_,rfl⟩
  ·exact J.last m t h i l' hi he
  ·cases hi
 ·rcases el m t ht with h | ⟨_,rfl⟩
  ·exact J.head m t h l' ln Fo C9
  ·cases Fo
 ·obtain⟨m2,t2,e2,IP,_⟩:=J.Dq k ln hk _ hm
  have e2:(m:Int)=(m2:Int):=e2
  have e2:m=m2:=by omega
  subst e2
  rcases el m t ht with h | ⟨e,_⟩
  ·exact J.Hj k ln hk m t hm h
  ·rw[e]at IP
   rw[List.getElem?_eq_none (le_refl _)]at IP
   cases IP
 ·have h:=J.sum
  have e:gR (k9 s x y l u)=gR s:=by
   show((s.U ++ [(⟨(x:Int),(y:Int),l,u,0,[]⟩:c7)]).map _).sum=_
   rw[map_append,sum_append]
   simp[gR]
  rw[e];exact h
theorem CQ.exs(h:CQ K (yx ys e) H a s)(o:BX H H')(hx:∀b ∈ e',b ∈ e∨(H b=none/\∃zs,H' b=some (.lst zs))):CQ K (yx ys e') H' a s:=by
 have YY:∀p:Addr,(∃u,H p=some u)->p ∉ a.la :: a.le :: a.li :: a.dn :: e->p ∉ a.la :: a.le :: a.li :: a.dn :: e':=λp ⟨u,hu⟩ hn z=>by
  have en:∀q:List Addr,a.la :: a.le :: a.li :: a.dn :: q=[a.la,a.le,a.li,a.dn] ++ q:=λ_=>rfl
  rw[en]at z hn
  rcases mem_append.mp z with z | z
  ·exact hn (mem_append_left _ z)
  ·rcases hx p z with z | ⟨z,_⟩
   ·exact hn (mem_append_right _ z)
   ·rw[z]at hu;cases hu
 obtain⟨v1,h1,p1⟩:=h.Dr
 obtain⟨v2,h2,p2⟩:=h.hle
 have h':=Cg.same h o
 refine⟨h'.ins,h'.LG,⟨v1,o _ _ h1,Paired.mono (λv ln z=>?_) p1⟩,⟨v2,o _ _ h2,Paired.mono (λv t z=>?_) p2⟩,h'.Ew,h'.DY,h'.ne,λb hb=>?_⟩
 ·obtain⟨x,dx,pa,Cy,ev,L,n⟩:=z
  exact⟨x,dx,pa,Cy,ev,L.same o,YY pa ⟨_,L.lst⟩ n⟩
 ·obtain⟨x,dx,wa,ev,Fy,hw,n⟩:=z
  exact⟨x,dx,wa,ev,o _ _ Fy,o _ _ hw,YY wa ⟨_,hw⟩ n⟩
 ·rcases hx b hb with z | ⟨_,z⟩
  ·obtain⟨zs,hz⟩:=h.hex b z
   exact⟨zs,o _ _ hz⟩
  ·exact z
theorem CQ.UT(h:CQ K ys H a s)(o:Cn e H H')(hs:∀b ∈ e,b ∈ ys.ex)(hn:∀b ∈ a.four,b ∉ e)(hl:∀b ∈ e,∃zs,H' b=some (.lst zs)):CQ K ys H' a s:=by
 have o2:Cn (a.la :: a.le :: a.li :: a.dn :: ys.ex) H H':=o.mono λb hb=>by simp[hs b hb]
 obtain⟨h1,h2,f1,f2,f3,f4⟩:=Cg.off h o2
 obtain⟨v1,a1,p1⟩:=h.Dr
 obtain⟨v2,a2,p2⟩:=h.hle
 obtain⟨v3,a3,p3⟩:=h.Ew
 obtain⟨v4,a4,p4⟩:=h.DY
 refine⟨h1,h2,⟨v1,o _ _ (hn _ (by simp)) a1,f1 _ _ p1⟩,⟨v2,o _ _ (hn _ (by simp)) a2,f2 _ _ p2⟩,⟨v3,o _ _ (hn _ (by simp)) a3,f3 _ _ p3⟩,⟨v4,o _ _ (hn _ (by simp)) a4,f4 _ _ p4⟩,h.ne,λb hb=>?_⟩
 by_cases FI:b ∈ e
 ·exact hl b FI
 ·obtain⟨zs,hz⟩:=h.hex b hb
  exact⟨zs,o _ _ FI hz⟩
theorem Bt{rs:List Int}(E6:rs.length=m)(Ib:∀r ∈ rs,1 <= r/\r <= 60):rR m (rs.map V.int)=true:=by
 unfold rR
 rw[length_map,E6,decide_eq_true rfl,Bool.true_and,all_eq_true]
 intro v hv
 obtain⟨r,F7,rfl⟩:=mem_map.mp hv
 exact decide_eq_true (Ib r F7)
def YdP(K:Frag)(c:Cs)(TC:Addr)(J:TJ)(ys:Ys)(ex:List Addr)(H:Hp)(tb:Addr)(ps:List (Int × Int))(n:Nat)(wy:Wf)(rs:List Int):VK:=λv H'=>∃a:YA,v = .ref a.y/\a.tb=tb/\a.ps=ps/\a.n=n/\a.wy=wy/\BX H H'/\(∀z ∈ a.four,H z=none)/\F1 K c TC J (yx ys ex) H' a (Y0 (rs.map V.int) n)/\CN a (Y0 (rs.map V.int) n)
theorem re{P:Program}{w:World}(W:Wy K TC fw dw J)
  (hT:CK c TC J H tb lx Cr lt n Cf ps wy) (EK:∀p g k,(wy p g k).length <= 400) (Ci:∀p ∈ ps,eE n p=true) (hR:Cb K H ra (rs.map V.int)) (E6:rs.length=ps.length) (Ib:∀r ∈ rs,1 <= r/\r <= 60) (hp:ps.length <= 40) (hex:∀b ∈ ex,∃xs,H b=some (.lst xs)) :
  ∀y dy,H y=none->H dy=none->dy ≠ y->jh K c TC J (yx ys ex) [.ref y, .ref tb, .ref ra] (upd (upd H dy (.own y)) y (.ins ys.Ca dy [])) (λv H2=>v = .Cp/\YdP K c TC J ys ex H tb ps n wy rs (.ref y) H2) E:=by
 intro y dy ny KN KO
 have s4:BX H (upd (upd H dy (.own y)) y (.ins ys.Ca dy [])):=BX.new (BX.new (BX.refl H) KN) (by rw[ah (Ne.symm KO)];exact ny)
 have UU:=Bt E6 Ib
 refine⟨y,dy,tb,lx,Cr,lt,n,Cf,ps,wy,_,rs.map V.int,rfl,ad,hT.keep W (BX.Cq s4),(λb hb=>let ⟨xs,hz⟩:=hex b hb; ⟨xs,s4 _ _ hz⟩), .inr ⟨ra,rfl, .inl (s4.seq hR),by rw[length_map];omega,(λv hv=>by obtain⟨r,_,rfl⟩:=mem_map.mp hv;exact .int r),λh=>by rw[UU]at h;cases h⟩,λ_ ro la le li dn H5 o5 Jz Kx Og Rg hY=>⟨rfl,?_⟩⟩
 have s5:BX H H5:=λb o e=>o5 b o (λz=>by rw[mem_singleton.mp z,ny]at e;cases e) (s4 _ _ e)
 have hO:OA ⟨y,dy,tb,ro,la,le,li,dn,lx,Cr,lt,n,Cf,ps,wy⟩:=by
  refine⟨λl pr hl=>?_,EK⟩
  have ON:=Ci pr (mem_of_getElem? hl)
  unfold eE at ON
  simp only[Bool.and_eq_true,decide_eq_true_eq,Bool.not_eq_true',decide_eq_false_iff_not]at ON
  exact⟨pr.2.toNat,by omega,by show pr.2.toNat < n;omega⟩
 have hJ:CN ⟨y,dy,tb,ro,la,le,li,dn,lx,Cr,lt,n,Cf,ps,wy⟩ (Y0 (rs.map V.int) n):=(OL (a:=⟨y,dy,tb,ro,la,le,li,dn,lx,Cr,lt,n,Cf,ps,wy⟩) (by rw[length_map];exact E6)).GG (zero_le _) (by show ps.length <= 40;omega)
 refine⟨⟨y,dy,tb,ro,la,le,li,dn,lx,Cr,lt,n,Cf,ps,wy⟩,rfl,rfl,rfl,rfl,rfl,s5,λz hz=>?_,⟨hY,hT.keep W (BX.Cq s5),hO,hJ.ok⟩,hJ⟩
 have hz:z ∈ [la,le,li,dn]:=hz
 simp only[mem_cons,not_mem_nil,or_false]at hz
 rcases hz with rfl | rfl | rfl | rfl
 ·exact s4.free Jz
 ·exact s4.free Kx
 ·exact s4.free Og
 ·exact s4.free Rg
theorem xi{R:Hp->V->α->Prop}(mono:∀{H H':Hp},BX H H'->∀v a,R H v a->R H' v a)(as:List α)(hn:as.length < sizeLine)
  (hs:∀(i:Nat)(a:α)(H1:Hp)(N:V->Hp->Prop),as[i]? = some a->BX H H1->(∀v H2,BX H1 H2->R H2 v a->N v H2)->g (.int i) σ0 H1 λσ2 H2=>te σ2 H2 N)
  (hq:∀D vs H1,BX H H1->H1 D=none->Paired (R H1) vs as->Q (.ref D) (upd H1 D (.lst vs))):dZ (uu 0 as.length) g nP te σ0 Q H:=by
 refine aX as.length hn (λi acc H'=>BX H H'/\Paired (R H') acc (as.take i)) ⟨BX.refl _, .nil⟩ (λi acc H' h=>by rw[Paired.length h.2];exact length_take_le _ _) (λi acc H' hi h=>?_) (λacc H' h=>?_)
 ·obtain⟨s,hL⟩:=h
  refine⟨hi,λv H2 y=>?_⟩
  obtain⟨rfl,rfl⟩:=y
  rw[zero_add]
  refine hs i as[i] H2 (λy H4=>BX H H4/\Paired (R H4) (acc ++ [y]) (as.take (i + 1))) (getElem?_eq_getElem hi) s λv H3 s3 hv=>⟨s.trans s3,?_⟩
  rw[take_succ,getElem?_eq_getElem hi]
  exact Paired.snoc hv (Paired.mono (mono s3) hL)
 ·obtain⟨s,hL⟩:=h
  rw[take_length]at hL
  exact⟨le_refl _,λD hD=>hq D acc H' s hD hL⟩
noncomputable def xv:Option Nat->Nat
 | none=>0
 | some k=>k + 1
theorem lK(h:dY n ps r=true):∀k ∈ r.s,k < ps.length:=by
 unfold dY at h
 simp only[Bool.and_eq_true,all_eq_true,decide_eq_true_eq]at h
 intro k hk
 exact mem_range.mp (mem_filter.mp (h.2.2 k hk)).1
noncomputable def aM(rs:List Rw)(k:bX):Nat:=match cy rs k with
 | some r=>Yd.C5 r.s 0
 | none=>0
theorem cE(h:cy rs k=some r):r ∈ rs:=mem_reverse.mp (List.mem_of_find?_eq_some h)
noncomputable def nH(rs:List Rw):Wf:=λp g k=>mN (aM rs (aQ ⟨(p:Int),(g:Int),k,[]⟩))
def CI(P:Program)(w:World)(ts:Ts):TJ:=λH x n wy=>∃(dx de:Addr)(lv:V)(kvs:List eD)(rs:List Rw),H x=some (.ins ts.told dx [("land",lv),("entries", .ref de)])/\CO P w H de kvs/\(∀k,cu kvs k=(cy rs k).map vb)/\(∀r ∈ rs,∀k ∈ r.s,k < 40)/\wy=nH rs
theorem CI.keep(h:CI P w ts H x n wy)(k:CD H H'):CI P w ts H' x n wy:=by
 obtain⟨dx,de,lv,kvs,rs,h1,⟨h2,h3⟩,h4⟩:=h
 exact⟨dx,de,lv,kvs,rs,k _ _ h1 True.intro,⟨k _ _ h2 True.intro,λy hy=>k _ _ (h3 y hy) True.intro⟩,h4⟩
theorem Bx(h:z ∈ mN (Yd.C5 ks 0)):z ∈ ks:=by
 have:=(mem_filter.mp h).2
 have h2:(Yd.C5 ks 0).testBit z=true:=this
 rw[sO,decide_eq_true_eq]at h2
 obtain⟨n,hn,e⟩:=Dg.mp h2
 have:n=z:=by omega
 exact this ▸ hn
theorem oU(m:Nat):(mN m).Nodup:=List.nodup_range.filter _
theorem lY(h:∀r ∈ rs,∀k ∈ r.s,k < n)(p g:Nat)(k:Option Nat):(∀z ∈ nH rs p g k,z < n)/\(nH rs p g k).length <= n:=by
 have h1:∀z ∈ nH rs p g k,z < n:=λz hz=>by
  unfold nH aM at hz
  cases hl:cy rs (aQ ⟨(p:Int),(g:Int),k,[]⟩) with
  | none=>rw[hl]at hz;exact absurd hz (by show z ∉ mN 0;intro h;cases h)
  | some r=>rw[hl]at hz;exact h r (cE hl) z (Bx hz)
 exact⟨h1,eO n _ (oU _) h1⟩
theorem pO(G:BY P w K mg base ay 3 f fd ["self", "place", "goal", "came"] (rq P w ts)):BY P w K mg base ay 3 f fd ["self", "place", "goal", "came"] (cT (CI P w ts)) :=
 G.imp λvs H Q E Cc=>by
 obtain⟨x,n,wy,p,g,k,e,⟨dx,de,lv,kvs,rs,h1,h2,h3,h4,h5⟩,hp,hg,q⟩:=Cc
 exact⟨x,dx,de,lv,kvs,⟨(p:Int),(g:Int),k,[]⟩,aM rs (aQ ⟨(p:Int),(g:Int),k,[]⟩),e,h1,h2,by
  rw[h3]
  unfold aM
  cases cy rs (aQ ⟨(p:Int),(g:Int),k,[]⟩)<;>rfl,by
  unfold aM
  cases hl:cy rs (aQ ⟨(p:Int),(g:Int),k,[]⟩) with
  | none=>exact Nat.two_pow_pos _
  | some r=>exact lt_of_lt_of_le (va (h4 r (cE hl))) (pow_le_pow_right (by decide) (by decide)),λH' D s' hD=>q D _ (s'.new hD) (s'.free hD) (by rw[ad,h5];rfl)⟩
theorem sF(hn:ps.length < sizeLine)
  (hs:∀(i:Nat)(acc:List V)(N:List V->Hp->Prop)(pr:Int × Int),ps[i]? = some pr->N (if decide (sel pr=pl)=true then acc ++ [V.int i] else acc) H->g (.int i) σ0 H λσ2 H2=>tt σ2 H2 λb H3=>if b=true then te σ2 H3 λy H4=>N (acc ++ [y]) H4 else N acc H3)
  (hq:∀D,H D=none->Q (.ref D) (upd H D (.lst (bK (eu sel ps pl))))):dZ (uu 0 ps.length) g tt te σ0 Q H:=by
 refine pz (lo:=0) (λk=>decide (sel (ps.getD k (0,0))=pl)) (λk=>V.int k) hn (λi acc N hi h=>?_) hq
 obtain⟨pr,hpr⟩:∃pr,ps[i]? = some pr:=⟨ps[i],getElem?_eq_getElem hi⟩
 have eg:ps.getD i (0,0)=pr:=by rw[getD_eq_getElem?_getD,hpr];rfl
 rw[zero_add]
 rw[eg]at h
 exact hs i acc N pr hpr h
theorem UW(m k:Nat):decide (V.int (Builtin.bitAnd ((m:Int) / 2 ^ (k:Int).toNat) 1)=V.int 1)=m.testBit k:=by
 rw[fZ,toNat_natCast,←Yd.FO m k]
theorem ui(q:Nat->Bool)(hn:xs.length < sizeLine)(ha:Cb K H a (bK xs))
  (hs:∀(k:Nat)(acc:List V)(N:List V->Hp->Prop),k ∈ xs->N (if q k then acc ++ [V.int (k:Int)] else acc) H->g (.int (k:Int)) σ0 H λσ2 H2=>tt σ2 H2 λb H3=>if b=true then te σ2 H3 λy H4=>N (acc ++ [y]) H4 else N acc H3)
  (hq:∀D,H D=none->Q (.ref D) (upd H D (.lst (bK (xs.filter q))))):dZ (xz K a) g tt te σ0 Q H:=by
 refine ge (xs:=bK xs) (λv=>match v with | .int k=>q k.toNat | _=>false) (λv=>v) (by unfold bK;rw[length_map];exact hn) ha (λx acc N hx h=>?_) λD hD=>?_
 ·obtain⟨k,hk,rfl⟩:=mem_map.mp hx
  exact hs k acc N hk h
 ·have e:((bK xs).filter (λv=>match v with | .int k=>q k.toNat | _=>false)).map (λv=>v)=bK (xs.filter q):=by
   unfold bK
   rw[List.map_id'',List.filter_map]
   ·congr 1
   ·intro _;rfl
  rw[e]
  exact hq D hD
theorem wY{n:Nat}(h1:1 <= n)(h2:n <= 12)(h3:ps.length <= 40)(h:∀p ∈ ps,eE n p=true):eU n ps = .good:=by
 unfold eU
 rw[decide_eq_true (show (1:Int) <= (n:Int)/\(n:Int) <= 12 by omega),if_neg (by decide),if_neg (by omega),hZ h]
noncomputable def um(s:Stmt):Scope:=match s with
 | .Assign _ (.ListComp _ _ sc _) _=>sc
 | _=>zQ0
noncomputable def tL(b:List Stmt)(i:Nat):Stmt:=b.getD i (.Pass ⟨0,0,0,0⟩)
noncomputable def qR(s:Stmt):List Stmt:=match s with
 | .For _ _ b _ _=>b
 | _=>[]
theorem yO(hl:H l=some (.lst xs)):∀{vs:List V}{ps:List (Int × Int)},Cw H vs ps->Cw (upd H l o) vs ps:=λCc=>by
 induction Cc with
 | nil=>exact .nil
 | cons zz r ih=>obtain⟨t,e,q⟩:=zz;exact .cons ⟨t,e,by rw[ah (b9 q hl (by intro z;cases z))];exact q⟩ ih
noncomputable def eC:Scope:=zQ0
theorem hU(h:k ∈ eu sel ps pl):k < ps.length:=mem_range.mp (mem_filter.mp h).1
def UX(x:Addr)(H:Hp)(v:V)(r:Rw):Prop:=∃t l,v = .ref t/\Js H t l r/\l ≠ x
abbrev E9(x:Addr)(H:Hp):List V->List Rw->Prop:=Paired (UX x H)
theorem E9.imp{H H':Hp}(h:∀v r,UX x H v r->G v r):∀{vs:List V}{rs:List Rw},E9 x H vs rs->Paired G vs rs:=λCc=>by
 induction Cc with
 | nil=>exact .nil
 | cons z r ih=>exact .cons (h _ _ z) ih
theorem E9.rws(h:E9 x H vs rs):Eb H vs rs:=E9.imp (H':=H) (λ_ _ ⟨t,l,e,z,_⟩=>⟨t,l,e,z⟩) h
theorem E9.same(s:BX H H')(h:E9 x H vs rs):E9 x H' vs rs:=E9.imp (H':=H) (λ_ _ ⟨t,l,e,z,n⟩=>⟨t,l,e,z.same s,n⟩) h
theorem E9.off(hx:H x=some (.lst xs))(h:E9 x H vs rs):E9 x (upd H x o) vs rs :=
 E9.imp (H':=H) (λ_ _ Cc=>by obtain⟨t,l,e,z,n⟩:=Cc;exact⟨t,l,e,⟨by rw[ah (b9 z.1 hx (by intro z;cases z))];exact z.1,by rw[ah n];exact z.2⟩,n⟩) h
theorem E9.snoc(h:UX x H v r):∀{vs:List V}{rs:List Rw},E9 x H vs rs->E9 x H (vs ++ [v]) (rs ++ [r]):=λCc=>by
 induction Cc with
 | nil=>exact .cons h .nil
 | cons z t ih=>exact .cons z ih
noncomputable def gP(ps:List (Int × Int))(p:Nat):List (Option Nat):=none :: (eu Prod.snd ps p).map some
abbrev Key:=Int × Int × Option Nat
noncomputable def nj(r:Rw):Key:=(r.p,r.g,r.c)
noncomputable def je(ps:List (Int × Int))(p g:Nat):List Key:=if g=p then [] else (gP ps p).map λc=>((p:Int),(g:Int),c)
noncomputable def jd(ps:List (Int × Int))(n p:Nat):List Key:=(List.range n).flatMap λg=>je ps p g
noncomputable def fB(ps:List (Int × Int))(n m:Nat):List Key:=(List.range m).flatMap λp=>jd ps n p
noncomputable def dD(k:Key):bX:=[some k.1,some k.2.1,k.2.2.map λz:Nat=>(z:Int)]
theorem eN(h:dD k=dD l):k=l:=by
 obtain⟨a,b,c⟩:=k
 obtain⟨a',b',c'⟩:=l
 simp only[dD,List.cons.injEq,Option.some.injEq,and_true]at h
 obtain⟨rfl,rfl,h⟩:=h
 congr 2
 cases c<;>cases c'<;>simp_all<;>omega
theorem p7(ps:List (Int × Int))(p:Nat):(gP ps p).Nodup:=by
 unfold gP
 refine nodup_cons.mpr ⟨λh=>by simp at h,?_⟩
 refine List.Pairwise.map _ (λa b (h:a ≠ b) e=>h (Option.some.inj e)) ?_
 exact List.Pairwise.filter _ (List.nodup_range)
theorem dU(h:k ∈ je ps p g):g ≠ p/\k.1=p/\k.2.1=g/\k.2.2 ∈ gP ps p:=by
 unfold je at h
 by_cases e:g=p
 ·rw[if_pos e]at h;cases h
 ·rw[if_neg e]at h
  obtain⟨c,hc,rfl⟩:=mem_map.mp h
  exact⟨e,rfl,rfl,hc⟩
theorem oR(h:k ∈ fB ps n m):∃p g:Nat,p < m/\g < n/\g ≠ p/\k.1=p/\k.2.1=g/\k.2.2 ∈ gP ps p:=by
 unfold fB jd at h
 obtain⟨p,hp,h⟩:=mem_flatMap.mp h
 obtain⟨g,hg,h⟩:=mem_flatMap.mp h
 obtain⟨a,b,c,d⟩:=dU h
 exact⟨p,g,mem_range.mp hp,mem_range.mp hg,a,b,c,d⟩
theorem qL(ps:List (Int × Int))(n m:Nat):(fB ps n m).Nodup:=by
 unfold fB
 refine List.pairwise_flatMap.mpr ⟨λp _=>?_,?_⟩
 ·unfold jd
  refine List.pairwise_flatMap.mpr ⟨λg _=>?_,?_⟩
  ·unfold je
   split
   ·exact .nil
   ·exact List.Pairwise.map _ (λa b (h:a ≠ b) e=>h (by simpa using e)) (p7 ps p)
  ·refine List.Pairwise.imp ?_ (pairwise_lt_range)
   intro g g' hg x hx y hy e
   subst e
   have h1:=(dU hx).2.2.1
   have h2:=(dU hy).2.2.1
   omega
 ·refine List.Pairwise.imp ?_ (pairwise_lt_range)
  intro p p' hp x hx y hy e
  subst e
  unfold jd at hx hy
  obtain⟨g,_,hx⟩:=mem_flatMap.mp hx
  obtain⟨g',_,hy⟩:=mem_flatMap.mp hy
  have h1:=(dU hx).2.1
  have h2:=(dU hy).2.1
  omega
theorem wK(h:aQ a=aQ r):nj a=nj r:=eN h
theorem yQ(nd:(rs.map nj).Nodup)(hr:r ∈ rs):cy rs (aQ r)=some r:=by
 have hs:(cy rs (aQ r)).isSome=true:=by
  rw[iC,any_eq_true]
  exact⟨r,hr,decide_eq_true rfl⟩
 obtain⟨r',e⟩:=Option.isSome_iff_exists.mp hs
 have hm:=cE e
 have hk:aQ r' = aQ r:=by
  unfold cy at e
  have:=List.find?_some e
  exact of_decide_eq_true this
 have hN:=wK hk
 rw[e]
 obtain⟨i,hi,ei⟩:=getElem_of_mem hm
 obtain⟨j,hj,ej⟩:=getElem_of_mem hr
 have Rq:i=j:=by
  rcases Nat.lt_trichotomy i j with h | h | h
  ·exact absurd (by rw[getElem_map,getElem_map,ei,ej];exact hN) (pairwise_iff_getElem.mp nd i j (by rw[length_map];exact hi) (by rw[length_map];exact hj) h)
  ·exact h
  ·exact absurd (by rw[getElem_map,getElem_map,ei,ej];exact hN.symm) (pairwise_iff_getElem.mp nd j i (by rw[length_map];exact hj) (by rw[length_map];exact hi) h)
 subst Rq
 rw[←ei,ej]
theorem fT:∀(n:Nat)(l:List Nat),l.Nodup->(∀x ∈ l,x < n)->l.length <= n
 | 0,l,_,h=>by
  cases l with
  | nil=>exact le_refl _
  | cons x l=>exact absurd (h x mem_cons_self) (not_lt_zero _)
 | n + 1,l,hn,h=>by
  by_cases hm:n ∈ l
  ·have e:=List.length_erase_of_mem hm
   have:=fT n (l.erase n) (hn.erase n) λx hx=>by
    have Fy:=(hn.mem_erase_iff).mp hx
    have:=h x Fy.2
    have:=Fy.1
    omega
   omega
  ·have:=fT n l hn λx hx=>by
    have:=h x hx
    have:x ≠ n:=λz=>hm (by rw[←z];exact hx)
    omega
   omega
noncomputable def wl(wy:bX->Nat)(k:bX):List Nat:=Yd.EM (wy k) (Builtin.Int.intBits ((wy k:Nat):Int))
theorem wL:∀{a b:List Nat},iz a=iz b->a=b
 | [],[],_=>rfl
 | [],_ :: _,h=>by cases h
 | _ :: _,[],h=>by cases h
 | x :: a,y :: b,h=>by
  have h1:(x:Int)=(y:Int):=(List.cons.inj h).1
  have h2:iz a=iz b:=(List.cons.inj h).2
  rw[wL h2]
  congr 1
  omega
theorem oP(h:F.Pairwise (· < ·)):Yd.EM (Yd.C5 F 0) (Builtin.Int.intBits ((Yd.C5 F 0:Nat):Int))=F:=wL (kH (se h) λk=>Iff.rfl)
theorem rg(wy:bX->Nat)(k:bX):(wl wy k).Pairwise (· < ·):=Yd.DP _ _
noncomputable def xU(s:Stmt):Scope:=match s with
 | .Return (some (.ListComp _ _ sc _)) _=>sc
 | _=>eC
noncomputable def blank:Str:=⟨#[32]⟩
noncomputable def wT:V->Str
 | .str x=>x
 | .int i=>Str.ofString (toString i)
 | _=>Str.ofString "-"
inductive Wd:V->Prop
 | Cp:Wd .Cp
 | str (x:Str):Wd (.str x)
 | int (i:Int) (h:i.natAbs.log2 < 1920):Wd (.int i)
inductive rp(vs:List V)(H:Hp)(Q:VK)(E:XK):Prop
 | mk (x:Str) (_:vs=[.str x]) (_:x.length <= 1000000) (_:(Txt.split x blank).length <= 1000000) (_:∀D,H D=none->Q (.ref D) (upd H D (.lst ((Txt.split x blank).map V.str))))
inductive fK(vs:List V)(H:Hp)(Q:VK)(E:XK):Prop
 | mk (m:Nat) (_:vs=[.str (aZ m)]) (_:m < 10 ^ 60) (_:∀H',BX H H'->Q (.int m) H')
inductive lw(vs:List V)(H:Hp)(Q:VK)(E:XK):Prop
 | mk (v:V) (_:vs=[v]) (_:Wd v) (_:Q (.str (wT v)) H)
inductive jv(K:Frag)(vs:List V)(H:Hp)(Q:VK)(E:XK):Prop
 | mk (a:Addr) (xs:List V) (_:vs=[.ref a]) (_:(Cb K H a xs∨Ck K H a xs)) (_:(∀v ∈ xs,Wd v)) (_:xs.length <= 1000) (_:(∀v ∈ xs,(wT v).length <= 100)) (_:∀H',BX H H'->Q (.str (Txt.join blank (xs.map wT))) H')
noncomputable def AV(s:Stmt):Scope:=match s with
 | .If (.BoolOp _ [_,_, .UnaryOp _ (.Call _ [.ListComp _ _ sc _] _ _) _] _) _ _ _=>sc
 | _=>zQ0
noncomputable def UY(s:Stmt):Scope:=match s with
 | .Return (some (.Call _ [.ListComp _ _ sc _] _ _)) _=>sc
 | _=>zQ0
theorem UZ(c:Nat)(h:48 <= c/\c <= 57):c ∈ (Str.ofString "0123456789").cps.toList:=by
 have e:(Str.ofString "0123456789").cps.toList=[48,49,50,51,52,53,54,55,56,57]:=by decide
 rw[e]
 have:c=48∨c=49∨c=50∨c=51∨c=52∨c=53∨c=54∨c=55∨c=56∨c=57:=by omega
 rcases this with rfl | rfl | rfl | rfl | rfl | rfl | rfl | rfl | rfl | rfl<;>decide
def Va:R2:=λx y H Q=>∃i j:Str,x = .str i/\y = .str j/\Q (.bl (!(Builtin.Str.occurrences j i 0 j.length 1).isEmpty)) H
theorem nc{m:Nat}(h:m < 10 ^ 60):(m:Int).natAbs.log2 < 1920:=by
 rw[natAbs_natCast]
 by_cases h0:m=0
 ·rw[h0];decide
 ·have h1:=Nat.log2_self_le h0
  refine Nat.lt_of_not_le λh2=>?_
  have h3:2 ^ 1920 <= 2 ^ m.log2:=pow_le_pow_right (by decide) h2
  have h4:(10:Nat) ^ 60 <= 2 ^ 1920:=by
   have:(10:Nat) ^ 60 <= 16 ^ 60:=Nat.pow_le_pow_left (by decide) 60
   have e:(16:Nat) ^ 60=2 ^ 240:=by rw[show (16:Nat)=2 ^ 4 by decide,←Nat.pow_mul]
   have h5:(2:Nat) ^ 240 <= 2 ^ 1920:=pow_le_pow_right (by decide) (by decide)
   omega
  omega
theorem OO:au ["row"] ["row"] (ai qb):=L2.C3
theorem vQ(F:C2 K "words_of" "words_of" qb f fd):BY P w K mg base ay 1 f fd ["row"] rp:=by
 refine F.ok OO (λ_ _ _ _ h=>?_) (λ_ _ _ s H _ Q E hr h=>?_)
 ·obtain⟨x,rfl,_⟩:=h
  rfl
 ·obtain⟨x,rfl,h1,h2,q⟩:=h
  refine⟨_,af (av (bW plainAttrs_str PySem.F.slot_str_split PySem.F.type_str_split oK (pv 0) (aa b8 ac))),?_⟩
  exact⟨_,rfl,rfl,x,blank,rfl,rfl,rfl,le_trans h1 (by decide),h2,q⟩
theorem Vb:au ["thing"] ["thing"] (ai jX):=L2.C3
theorem qx(F:C2 K "written" "written" jX f fd)(T:Txt mg):BY P w K mg base ay 1 f fd ["thing"] lw:=by
 refine F.ok Vb (λ_ _ _ _ h=>?_) (λ_ _ _ s H _ Q E hr h=>?_)
 ·obtain⟨v,rfl,_⟩:=h
  rfl
 ·obtain⟨v,rfl,hw,q⟩:=h
  refine⟨_,af (av (ce (ax iV (pv 0) bP (aA _)) b8 (bI (DD.or lj) rfl T.str PySem.Pv.boot_str (aa (pv 0) ac)))),?_⟩
  refine⟨_,rfl,rfl,_,rfl,?_⟩
  cases hw with
  | Cp=>exact aN q
  | str x=>exact aH ⟨_,rfl, .inr ⟨x,rfl,q⟩⟩
  | int i h=>exact aH ⟨_,rfl, .inl ⟨i,rfl,h,q⟩⟩
theorem OP:au ["word", "number"] ["word"] (ai i3):=L2.C3
theorem Vc:CP ["word", "number"] (ai i3) (AV ((aI i3).getD 0 (.Pass ⟨0,0,0,0⟩))) [] []:=L2.Dp
theorem Vd:(["sign"]:List Str).Nodup:=by decide +kernel
theorem tH(F:C2 K "number_of" "number_of" i3 f fd)(T:Txt mg)(mf:mg "FIGURES" = some (.str (Str.ofString "0123456789") t1))(mm:mg "MOST_FIGURES" = some (.int 60 t2)):BY P w K mg base ay 1 f fd ["word"] fK:=by
 refine F.ok OP (λ_ _ _ _ h=>?_) (λ_ _ _ s H _ Q E hr h=>?_)
 ·obtain⟨m,rfl,_⟩:=h
  rfl
 ·obtain⟨m,rfl,OQ,q⟩:=h
  have hl:(aZ m).length <= 60:=fS (by decide) OQ
  refine⟨_,ae (aR (PW.pt (fE (ax oE (aE nA rfl T.len PySem.boot_len (aa (pv 0) ac)) (dH (v := .int 60) rfl mm ⟨_,rfl⟩) (aA _)) (fE (bO (fR (pv 0) (λ_=>rfl))) (dP (bO (bJ (aE (iJ rfl) rfl T.all PyProof.Rows.boot_all (aa (aT (own:=["sign"]) (capN:=[]) (cap:=[]) Vc rfl (AN (pv 0))
     (λC s' H' fp=>⟨aw (i:=0) Vd rfl (Or.inl rfl),bd,c9 (show eW _ (compareOp .In) Va from tp) (pv 0) (dH (v := .str (Str.ofString "0123456789")) rfl mf ⟨_,rfl⟩) (by with_unfolding_all rfl)⟩)) ac)))))))) (af (av bP)) aF)
   (ae (aD (i:=1) OP.nd rfl (Or.inl rfl) (bI ll rfl T.int PySem.Pv.boot_int (aa (pv 0) ac)))
   (af (av (ce (ax bz (bI DD rfl T.str PySem.Pv.boot_str (aa (pv 1) ac)) (pv 0) (aA _)) (pv 1) bP)))),?_⟩
  have hsz:(aZ m).length <= sizeLine:=le_trans hl (by decide)
  have Fv:0 < (aZ m).length:=by
   have:=length_pos_iff.mpr (mY m)
   rw[Array.length_toList]at this
   exact this
  refine⟨_,rfl,aZ m,rfl,hsz,_,_,rfl,rfl,_,rfl,?_⟩
  rw[decide_eq_false (show ¬(60:Int) < ((aZ m).length:Nat) by omega)]
  refine aH ⟨_,rfl,_,⟨hsz,rfl⟩,?_⟩
  rw[show((((aZ m).length:Nat):Int) != 0)=true by rw[bne_iff_ne];omega]
  refine aH ⟨_,rfl,aZ m,rfl,?_⟩
  refine aX (aZ m).cps.size (by rw[sizeLine_eq];show(aZ m).length < _;omega) (λi acc H'=>H' = H/\acc=(List.replicate i true).map V.bl) ⟨rfl,rfl⟩ (λi acc H' h=>by rw[h.2];simp) (λi acc H' hi h=>?_) (λacc H' h=>?_)
  ·obtain⟨rfl,rfl⟩:=h
   refine⟨hi,λv H2 y=>?_⟩
   obtain⟨rfl,c,hc,rfl⟩:=y
   have hm:c ∈ (aZ m).cps.toList:=by rw[Array.mem_toList_iff];exact Array.mem_of_getElem? hc
   refine⟨_,rfl,_,_,rfl,rfl,?_⟩
   rw[StrLaws.found_one,decide_eq_true (UZ c (eB m c hm))]
   exact⟨rfl,by rw[replicate_succ',map_append];rfl⟩
  obtain⟨rfl,rfl⟩:=h
  refine⟨le_refl _,λD hD=>⟨D,List.replicate (aZ m).cps.size true,rfl,Cb.of ad,_,rfl,?_⟩⟩
  have s1:=(BX.refl H').new (o := .lst ((List.replicate (aZ m).cps.size true).map V.bl)) hD
  have e:(List.replicate (aZ m).cps.size true).all id=true:=by rw[all_eq_true];intro b hb;rw[eq_of_mem_replicate hb];rfl
  rw[e]
  generalize upd H' D (.lst ((List.replicate (aZ m).cps.size true).map V.bl))=H1 at s1 ⊢
  refine aH ⟨_,rfl,aZ m,(m:Int),rfl,qC (le_trans hl (by decide)),le_trans hl (by decide),?_⟩
  have KP:(m:Int).natAbs.log2 < 1920:=nc OQ
  refine⟨_,rfl,(m:Int),rfl,KP,_,rfl,rfl,_,rfl,?_⟩
  rw[decide_eq_true (show V.str (toString (m:Int))=V.str (aZ m) from rfl)]
  exact aN ⟨_,rfl,q H1 s1⟩
theorem OR:au ["things"] ["things"] (ai kd):=L2.C3
theorem Ve:CP ["things"] (ai kd) (UY ((aI kd).getD 0 (.Pass ⟨0,0,0,0⟩))) [] []:=L2.Dp
theorem Vf:(["thing"]:List Str).Nodup:=by decide +kernel
theorem vW(F:C2 K "row_of" "row_of" kd f fd)(mw:mg "written" = some (.ref fw))(kw:keepIn K (.ref fw)=true)(bw:Binds K dw ["thing"] [])(Gw:BY P w K mg base ay 1 fw dw ["thing"] lw):BY P w K mg base ay 2 f fd ["things"] (jv K):=by
 refine F.ok OR (λ_ _ _ _ h=>?_) (λ_ _ _ s H _ Q E hr h=>?_)
 ·obtain⟨a,xs,rfl,_⟩:=h
  rfl
 ·obtain⟨a,xs,rfl,hq,hw,hl,hlen,q⟩:=h
  refine⟨_,af (av (bW plainAttrs_str PySem.F.slot_str_join PySem.F.type_str_join rW b8 (aa (aT (own:=["thing"]) (capN:=[]) (cap:=[]) Ve rfl (zH (aW (pv 0)) (iR (pv 0)))
   (λC s' H' fp=>⟨aw (i:=0) Vf rfl (Or.inl rfl),bd,aq Gw hr rfl mw kw bw .nil ap (aa (pv 0) ac)⟩)) ac))),?_⟩
  have fin:∀D,H D=none->zG K (.str blank) [.ref D] (upd H D (.lst (xs.map λv=>V.str (wT v)))) (λv H'=>Q v H'):=λD hD=>by
   have s1:=(BX.refl H).new (o := .lst (xs.map λv=>V.str (wT v))) hD
   refine⟨blank,D,xs.map wT,rfl,rfl,Cb.of (by rw[ad,map_map];rfl),?_,q _ s1⟩
   have h1:((xs.map wT).map (·.length)).sum <= (xs.map wT).length * 100:=StrLaws.sumLen_le _ λy hy=>by obtain⟨v,hv,rfl⟩:=mem_map.mp hy;exact hlen v hv
   rw[length_map]at h1 ⊢
   show _ + xs.length * 1 <= _
   omega
  refine⟨rfl,?_⟩
  rcases hq with hq | hq
  ·exact .inl ⟨_,rfl,a,rfl,⟨_,hq⟩,xj (λv => .str (wT v)) (by rw[sizeLine_eq];omega) hq (λx N hx h=>⟨_,rfl,x,rfl,hw x hx,h⟩) fin⟩
  ·exact .inr ⟨_,rfl,a,rfl,⟨_,hq⟩,qW (λv => .str (wT v)) (by rw[sizeLine_eq];omega) hq (λx N hx h=>⟨_,rfl,x,rfl,hw x hx,h⟩) fin⟩
noncomputable def bE(wy:bX->Nat)(p g:Nat)(c:Option Nat):List Str:=if (gY (wy (aQ ⟨(p:Int),(g:Int),c,[]⟩))).isEmpty then [] else [Txt.join blank (([.str (Str.ofString "way"), .int p, .int g,cV c] ++ gY (wy (aQ ⟨(p:Int),(g:Int),c,[]⟩))).map wT)]
noncomputable def qY(ps:List (Int × Int))(p:Nat):List V:=[V.Cp] ++ fI Prod.snd ps p ps.length
def LN(wy:bX->Nat):Prop:=∀k,(gY (wy k)).length <= 40/\∀v ∈ gY (wy k),Wd v/\(wT v).length <= 10
def pG(i:Int):Prop:=Wd (.int i)/\(wT (.int i)).length <= 10
inductive iM(c:Cs)(C:Addr)(J:TJ)(vs:List V)(H:Hp)(Q:VK)(E:XK):Prop
 | mk (x lx Cr lt:Addr) (n:Nat) (Cf:List V) (ps:List (Int × Int)) (wf:Wf) (wy:bX->Nat) (p g:Nat) (cs:List (Option Nat)) (_:vs=[.ref x, .int p, .int g]) (_:CK c C J H x lx Cr lt n Cf ps wf) (_:(p < n/\g < n/\∀k ∈ cs,nV (wf p g k)=gY (wy (aQ ⟨(p:Int),(g:Int),k,[]⟩)))) (_:LN wy) (_:pG p) (_:pG g) (_:qY ps p=cs.map cV) (_:cs.length <= 41) (_:(∀k,some k ∈ cs->pG k)) (_:∀(D:Addr)(H':Hp),BX H H'->H D=none->H' D=some (.lst ((cs.flatMap (bE wy p g)).map V.str))->Q (.ref D) H')
abbrev NWr:List Str:=["table", "place", "goal", "rows", "came", "ways"]
theorem oT{α β:Type}(f:α->β)(l:List α)(a:α):l.map f ++ [f a]=(l ++ [a]).map f:=by rw[map_append];rfl
theorem FV:au NWr ["table", "place", "goal"] (ai jY):=L2.C3
theorem qz(F:C2 K "way_rows" "way_rows" jY f fd)(T:Txt mg)(L:lc K c)(W:Wy K C fw dw J)(Gw:BY P w K mg base ay 3 fw dw ["self", "place", "goal", "came"] (cT J))
  (mi:bC K c.land "into" fi) (bi:Binds K di ["self", "place"] []) (Gi:BY P w K mg base ay 1 fi di ["self", "place"] (nX c Prod.snd)) (mr:mg "row_of" = some (.ref fr)) (kr:keepIn K (.ref fr)=true) (br:Binds K dr ["things"] []) (Gr:BY P w K mg base ay 2 fr dr ["things"] (jv K)) :
  BY P w K mg base ay 4 f fd ["table", "place", "goal"] (iM c C J):=by
 refine F.ok FV (λ_ _ _ _ h=>?_) (λ_ _ _ s H _ Q E hr h=>?_)
 ·obtain⟨x,lx,Cr,lt,n,Cf,ps,wf,wy,p,g,cs,rfl,_⟩:=h
  rfl
 ·obtain⟨x,lx,Cr,lt,n,Cf,ps,wf,wy,p,g,cs,rfl,hT,⟨YZ,hgn,JP⟩,EV,hp,hg,OS,ED,hck,q⟩:=h
  obtain⟨dx,fs,hx,hf,U5⟩:=hT.i
  have hL:=hT.l
  have Df:=hT.C6
  have CC:Cj 1 _:=hr.mono (by decide)
  have CY:Cj 2 _:=hr.mono (by decide)
  refine⟨_,ae (aD (i:=3) FV.nd rfl (Or.inl rfl) (aU ac))
   (ae (b0 PassesOwn.never rfl (aW (aJ kD (aU (aa bP ac)) (aC (al (pv 0) rfl) L.cl mi Gi CC bi .nil ap (aa (pv 1) ac)))) (aw (i:=4) FV.nd rfl (Or.inl rfl))
    (ae (aD (i:=5) FV.nd rfl (Or.inl rfl) (aC (pv 0) W.cl W.m Gw hr W.b .nil ap (aa (pv 1) (aa (pv 2) (aa (pv 4) ac)))))
    (af (aR (fR (pv 5) (λ_=>rfl)) (af (aP (bW plainAttrs_list PySem.F.slot_list_append PySem.F.type_list_append bQ (pv 3) (aa (aq Gr CY rfl mr kr br .nil ap (aa (aJ kD (aU (aa b8 (aa (pv 1) (aa (pv 2) (aa (pv 4) ac))))) (pv 5)) ac)) ac)))) aF))))
   (af (av (pv 3)))),?_⟩
  refine⟨zero_le _,λD hD=>?_⟩
  have s0:=(BX.refl H).new (o := .lst []) hD
  have g0:(upd H D (.lst [])) D=some (.lst []):=ad
  show dF 3 (V.ref D) _ (upd H D (.lst [])) _
  generalize upd H D (.lst [])=H0 at s0 g0 ⊢
  refine⟨by show 1 <= sizeLine;decide,λo1 JQ=>?_⟩
  have s1:=s0.new (o := .lst [.Cp]) JQ
  have g1:(upd H0 o1 (.lst [.Cp])) o1=some (.lst [.Cp]):=ad
  have Rr:(upd H0 o1 (.lst [.Cp])) D=some (.lst []):=by rw[ah (aj g0 JQ)];exact g0
  generalize upd H0 o1 (.lst [.Cp])=H1 at s1 g1 Rr ⊢
  have HW:cr H1 c lx Cr lt n Cf ps:=⟨s1 _ _ hL.1,s1 _ _ hL.2.1,Cw.same s1 hL.2.2⟩
  refine⟨_,rfl,x,C,dx,fs,_,rfl,s1 _ _ hx,W.cl,W.nl,hf,lx,Cr,_,rfl,HW.1,rfl,_,rfl,lx,Cr,lt,(n:Int),Cf,ps,(p:Int),rfl,HW,by omega,λH2 o2 s2 D5=>?_⟩
  have u2:=s2.new (o := .lst (fI Prod.snd ps p ps.length)) D5
  have g2:(upd H2 o2 (.lst (fI Prod.snd ps p ps.length))) o2=some (.lst (fI Prod.snd ps p ps.length)):=ad
  generalize upd H2 o2 (.lst (fI Prod.snd ps p ps.length))=H3 at u2 g2 ⊢
  have Vg:([V.Cp] ++ fI Prod.snd ps p ps.length).length <= 41:=by
   have:[V.Cp] ++ fI Prod.snd ps p ps.length=cs.map cV:=OS
   rw[this,length_map];exact ED
  refine⟨o1,o2,_,_,rfl,rfl,u2 _ _ g1,g2,by rw[←length_append,sizeLine_eq];omega,λCm KQ=>?_⟩
  rw[show [V.Cp] ++ fI Prod.snd ps p ps.length=cs.map cV from OS]
  have u3:=(s1.trans u2).new (o := .lst (cs.map cV)) KQ
  have g3:(upd H3 Cm (.lst (cs.map cV))) Cm=some (.lst (cs.map cV)):=ad
  have Za:(upd H3 Cm (.lst (cs.map cV))) D=some (.lst []):=by rw[ah (aj (u2 _ _ Rr) KQ)];exact u2 _ _ Rr
  have nCD:Cm ≠ D:=Ne.symm (aj (u2 _ _ Rr) KQ)
  generalize upd H3 Cm (.lst (cs.map cV))=H4 at u3 g3 Za ⊢
  refine⟨Cm,rfl,⟨_,Cb.of g3⟩,?_⟩
  refine dB (K:=K) (a:=Cm) (xs:=cs.map cV) (λi σ H5=>∃a4 a5:Option V,BX H H5/\H5 D=some (.lst (((cs.take i).flatMap (bE wy p g)).map V.str))/\H5 Cm=some (.lst (cs.map cV))/\((cs.take i).flatMap (bE wy p g)).length <= i/\σ=[some (.ref x),some (.int p),some (.int g),some (.ref D),a4,a5])
   ⟨none,none,u3,Za,g3,le_refl _,rfl⟩ (λi σ H5 _ Cc=>by obtain⟨_,_,_,_,g,_⟩:=Cc;exact Cb.of g) ?_ ?_
  rotate_left
  ·rintro σ H5 ⟨a4,a5,s5,g5,_,_,rfl⟩
   rw[length_map,take_length]at g5
   exact⟨_,rfl,q D H5 s5 hD g5⟩
  rintro i v σ H5 hv ⟨a4,a5,s5,LO,Zb,JR,rfl⟩
  have hi:i < cs.length:=by have:=(gQ0 hv);rw[length_map]at this;exact this
  have Zc:=getElem?_eq_getElem hi
  rw[getElem?_map,Zc]at hv
  cases hv
  have FE:cs[i] ∈ cs:=getElem_mem hi
  have DV:(cs.take (i + 1)).flatMap (bE wy p g)=(cs.take i).flatMap (bE wy p g) ++ bE wy p g cs[i]:=by
   rw[take_succ,Zc,flatMap_append]
   show _ ++ (bE wy p g cs[i] ++ [])=_
   rw[append_nil]
  generalize cs[i]=cc at FE DV
  refine⟨_,rfl,x,dx,fs,rfl,s5 _ _ hx,U5,_,rfl,_,rfl,_,rfl,x,n,wf,p,g,cc,rfl,W.Ef _ _ _ _ _ hT.j (BX.Cq s5),YZ,hgn,λo6 H7 u6 ho6 g6=>?_⟩
  rw[JP cc FE]at g6
  obtain⟨HF,Zd⟩:=EV (aQ ⟨(p:Int),(g:Int),cc,[]⟩)
  have hwr:bE wy p g cc=if (gY (wy (aQ ⟨(p:Int),(g:Int),cc,[]⟩))).isEmpty then [] else [Txt.join blank (([.str (Str.ofString "way"), .int p, .int g,cV cc] ++ gY (wy (aQ ⟨(p:Int),(g:Int),cc,[]⟩))).map wT)]:=rfl
  rw[hwr]at DV
  generalize LP:gY (wy (aQ ⟨(p:Int),(g:Int),cc,[]⟩))=ms at g6 HF Zd DV
  refine⟨_,rfl,_, .inl ⟨_,Cb.of g6,rfl⟩,?_⟩
  have s7:=s5.trans u6
  cases hb:ms.isEmpty with
  | true =>
   rw[hb,if_pos rfl,append_nil]at DV
   exact aH ⟨_,_,s7,by rw[DV];exact u6 _ _ LO,u6 _ _ Zb,by rw[DV];omega,rfl⟩
  | false =>
   rw[hb,if_neg (by decide)]at DV
   refine aN ⟨_,rfl, .inl ⟨rfl,_,Cb.of (u6 _ _ LO)⟩,_,rfl,_,rfl,_,rfl,by show 4 <= sizeLine;decide,λe8 Ze=>?_⟩
   have u8:=u6.new (o := .lst [.str (Str.ofString "way"), .int (p:Int), .int (g:Int),cV cc]) Ze
   have g8:(upd H7 e8 (.lst [.str (Str.ofString "way"), .int (p:Int), .int (g:Int),cV cc])) e8=some (.lst [.str (Str.ofString "way"), .int (p:Int), .int (g:Int),cV cc]):=ad
   have Zf:(upd H7 e8 (.lst [.str (Str.ofString "way"), .int (p:Int), .int (g:Int),cV cc])) o6=some (.lst ms):=by rw[ah (aj g6 Ze)];exact g6
   generalize upd H7 e8 (.lst [.str (Str.ofString "way"), .int (p:Int), .int (g:Int),cV cc])=H8 at u8 g8 Zf ⊢
   refine⟨_,rfl,e8,o6,_,_,rfl,rfl,g8,Zf,by rw[sizeLine_eq];show 4 + ms.length <= _;omega,λth Zg=>?_⟩
   have u9:=u8.new (o := .lst ([.str (Str.ofString "way"), .int (p:Int), .int (g:Int),cV cc] ++ ms)) Zg
   have g9:(upd H8 th (.lst ([.str (Str.ofString "way"), .int (p:Int), .int (g:Int),cV cc] ++ ms))) th=some (.lst ([.str (Str.ofString "way"), .int (p:Int), .int (g:Int),cV cc] ++ ms)):=ad
   generalize upd H8 th (.lst ([.str (Str.ofString "way"), .int (p:Int), .int (g:Int),cV cc] ++ ms))=H9 at u9 g9 ⊢
   have Dj:∀v ∈ [V.str (Str.ofString "way"), .int (p:Int), .int (g:Int),cV cc] ++ ms,Wd v/\(wT v).length <= 10:=λv hv=>by
    rcases mem_append.mp hv with hv | hv
    ·simp only[mem_cons,not_mem_nil,or_false]at hv
     rcases hv with rfl | rfl | rfl | rfl
     ·exact⟨.str _,by decide⟩
     ·exact hp
     ·exact hg
     ·cases Ji:cc with
      | none=>exact⟨.Cp,by decide⟩
      | some k=>rw[Ji]at FE;exact hck k FE
    ·exact Zd v hv
   refine⟨th,_,rfl, .inl (Cb.of g9),(λv hv=>(Dj v hv).1),by rw[length_append];show 4 + ms.length <= 1000;omega,(λv hv=>le_trans (Dj v hv).2 (by decide)),λHs Jm=>?_⟩
   have Vh:=u9.trans Jm
   refine⟨D,_,_,rfl,rfl,Vh _ _ LO,by rw[length_map,sizeLine_eq];omega,?_⟩
   refine⟨_,_,(λb o e=>by rw[ah (aj e hD)];exact Vh _ _ (s5 _ _ e)),?_,by rw[ah nCD];exact Vh _ _ Zb,by rw[DV,length_append,length_singleton];omega,rfl⟩
   rw[ad,DV]
   exact congrArg (λz=>some (HO.lst z)) (oT V.str _ _)
noncomputable def bG(ps:List (Int × Int))(p:Nat):List (Option Nat):=none :: ((List.range ps.length).filter λk=>decide (Prod.snd (ps.getD k (0,0))=(p:Int))).map some
theorem p8(ps:List (Int × Int))(p:Nat):qY ps p=(bG ps p).map cV:=by
 unfold qY bG fI
 rw[map_cons,map_map]
 rfl
theorem cQ(ps:List (Int × Int))(p:Nat):(bG ps p).length <= ps.length + 1/\∀k,some k ∈ bG ps p->k < ps.length:=by
 constructor
 ·unfold bG
  rw[length_cons,length_map]
  have:=length_filter_le (λk=>decide (Prod.snd (ps.getD k (0,0))=(p:Int))) (List.range ps.length)
  rw[length_range]at this
  omega
 ·intro k hk
  rcases mem_cons.mp hk with h | h
  ·cases h
  ·obtain⟨j,hj,e⟩:=mem_map.mp h
   cases e
   exact mem_range.mp (mem_filter.mp hj).1
theorem c6{k:Nat}(h:k < 10 ^ 10):pG k:=by
 refine⟨.int _ (nc (lt_trans h (by decide))),?_⟩
 have:=fS (m:=k) (k:=10) (by decide) h
 exact this
noncomputable def cF(pr:Int × Int):Str:=Txt.join blank ([V.str (Str.ofString "lane"), .int pr.1, .int pr.2].map wT)
noncomputable def dA(ps:List (Int × Int))(wy:bX->Nat)(n p m:Nat):List Str:=(List.range m).flatMap λg=>(bG ps p).flatMap (bE wy p g)
noncomputable def e9(n:Nat)(ps:List (Int × Int))(wy:bX->Nat):List Str:=[Txt.join blank ([V.str (Str.ofString "places"), .int n].map wT)] ++ ps.map cF ++ (List.range n).flatMap λp=>dA ps wy n p n
def Ag(n:Nat)(ps:List (Int × Int))(wf:Wf)(wy:bX->Nat):Prop:=∀(p g:Nat)(k:Option Nat),p < n->g < n->k ∈ bG ps p->nV (wf p g k)=gY (wy (aQ ⟨(p:Int),(g:Int),k,[]⟩))
inductive iN(c:Cs)(C:Addr)(J:TJ)(vs:List V)(H:Hp)(Q:VK)(E:XK):Prop
 | mk (x lx Cr lt:Addr) (n:Nat) (Cf:List V) (ps:List (Int × Int)) (wf:Wf) (wy:bX->Nat) (_:vs=[.ref x]) (_:CK c C J H x lx Cr lt n Cf ps wf) (_:Ag n ps wf wy) (_:(∀pr ∈ ps,∃a b:Nat,pr=((a:Int),(b:Int))/\a < 12/\b < 12)) (_:LN wy) (_:∀(D:Addr)(H':Hp),BX H H'->H D=none->H' D=some (.lst ((e9 n ps wy).map V.str))->Q (.ref D) H')
abbrev Zh:List Str:=["table", "land", "rows", "place", "goal"]
theorem HJ:au Zh ["table"] (ai fL):=L2.C3
noncomputable def Vi(s:Stmt):Scope:=match s with
 | .Expr (.Call _ [.ListComp _ _ sc _] _ _) _=>sc
 | _=>zQ0
theorem Vj:CP Zh (ai fL) (Vi ((aI fL).getD 2 (.Pass ⟨0,0,0,0⟩))) [] []:=L2.Dp
theorem Vk:(["pair"]:List Str).Nodup:=by decide +kernel
theorem q5(F:C2 K "table_rows" "table_rows" fL f fd)(T:Txt mg)(L:lc K c)(W:Wy K C fw dw J)
  (mr:mg "row_of" = some (.ref fr)) (kr:keepIn K (.ref fr)=true) (br:Binds K dr ["things"] []) (Gr:BY P w K mg base ay 2 fr dr ["things"] (jv K)) (mv:mg "way_rows" = some (.ref fv)) (kv:keepIn K (.ref fv)=true) (bv:Binds K dv ["table", "place", "goal"] []) (Gv:BY P w K mg base ay 4 fv dv ["table", "place", "goal"] (iM c C J)) :
  BY P w K mg base ay 5 f fd ["table"] (iN c C J):=by
 refine F.ok HJ (λ_ _ _ _ h=>?_) (λ_ _ _ s H _ Q E hr h=>?_)
 ·obtain⟨x,lx,Cr,lt,n,Cf,ps,wf,wy,rfl,_⟩:=h
  rfl
 ·obtain⟨x,lx,Cr,lt,n,Cf,ps,wf,wy,rfl,hT,JP,Eu,EV,q⟩:=h
  obtain⟨dx,fs,hx,hf,_⟩:=hT.i
  have hL:=hT.l
  have Df:=hT.C6
  have hn:=hT.EZ
  have CY:Cj 2 _:=hr.mono (by decide)
  refine⟨_,ae (aD (i:=1) HJ.nd rfl (Or.inl rfl) (al (pv 0) rfl))
   (ae (aD (i:=2) HJ.nd rfl (Or.inl rfl) (aU (aa (aq Gr CY rfl mr kr br .nil ap (aa (bF (aa b8 (aa (al (pv 1) rfl) ac))) ac)) ac)))
   (ae (aP (bW plainAttrs_list slot_list_extend type_list_extend cN (pv 2) (aa (aT (own:=["pair"]) (capN:=[]) (cap:=[]) Vj rfl (iR (al (pv 1) rfl))
    (λC s' H' fp=>⟨aw (i:=0) Vk rfl (Or.inl rfl),bd,aq Gr CY rfl mr kr br .nil ap (aa (bF (aa b8 (aa (az (show lp _ (k4 K) from aG) (pv 0) ak (λ_ _=>rfl)) (aa (az (show lp _ (k4 K) from aG) (pv 0) ak (λ_ _=>rfl)) ac)))) ac)⟩)) ac)))
   (ae (b0 PassesOwn.never rfl (aO rfl T.range (aa (al (pv 1) rfl) ac)) (aw (i:=3) HJ.nd rfl (Or.inl rfl))
    (af (b0 PassesOwn.never rfl (aO rfl T.range (aa (al (pv 1) rfl) ac)) (aw (i:=4) HJ.nd rfl (Or.inl rfl))
     (af (aP (bW plainAttrs_list slot_list_extend type_list_extend cN (pv 2) (aa (aq Gv hr rfl mv kv bv .nil ap (aa (pv 0) (aa (pv 3) (aa (pv 4) ac)))) ac)))))))
   (af (av (pv 2)))))),?_⟩
  refine⟨_,rfl,x,C,dx,fs,_,rfl,hx,W.cl,W.nl,hf,?_⟩
  refine⟨_,rfl,lx,c.land,Cr,_,_,rfl,hL.1,L.cl,L.np,rfl,by show 2 <= sizeLine;decide,λt1 ht1=>?_⟩
  have s1:=(BX.refl H).new (o := .tup [.str (Str.ofString "places"), .int (n:Int)]) ht1
  have g1:(upd H t1 (.tup [.str (Str.ofString "places"), .int (n:Int)])) t1=some (.tup [.str (Str.ofString "places"), .int (n:Int)]):=ad
  generalize upd H t1 (.tup [.str (Str.ofString "places"), .int (n:Int)])=H1 at s1 g1 ⊢
  have w1:∀v ∈ [V.str (Str.ofString "places"), .int (n:Int)],Wd v/\(wT v).length <= 10:=λv hv=>by
   simp only[mem_cons,not_mem_nil,or_false]at hv
   rcases hv with rfl | rfl
   ·exact⟨.str _,by decide⟩
   ·exact c6 (lt_of_le_of_lt hn (by decide))
  refine⟨t1,_,rfl, .inr (Ck.of g1),(λv hv=>(w1 v hv).1),by show 2 <= 1000;decide,(λv hv=>le_trans (w1 v hv).2 (by decide)),λH2 s2=>⟨by show 1 <= sizeLine;decide,λD hD=>?_⟩⟩
  have OT:=s1.trans s2
  have Iu:H D=none:=OT.free hD
  have s3:=OT.new (o := .lst [.str (Txt.join blank ([V.str (Str.ofString "places"), .int n].map wT))]) hD
  have g3:(upd H2 D (.lst [.str (Txt.join blank ([V.str (Str.ofString "places"), .int n].map wT))])) D=some (.lst ([Txt.join blank ([V.str (Str.ofString "places"), .int n].map wT)].map V.str)):=ad
  show dF 2 (V.ref D) _ (upd H2 D (.lst [.str (Txt.join blank ([V.str (Str.ofString "places"), .int n].map wT))])) _
  generalize upd H2 D (.lst [.str (Txt.join blank ([V.str (Str.ofString "places"), .int n].map wT))])=H3 at s3 g3 ⊢
  have G8:Cf.length=ps.length:=Paired.length hL.2.2
  refine⟨_,rfl, .inl ⟨rfl,_,Cb.of g3⟩,_,rfl,lx,c.land,Cr,_,_,rfl,s3 _ _ hL.1,L.cl,L.nl,rfl,lt,rfl,⟨_,Ck.of (s3 _ _ hL.2.1)⟩,?_⟩
  refine aX ps.length (by rw[sizeLine_eq];omega) (λi acc H'=>BX H3 H'/\acc=((ps.take i).map cF).map V.str) ⟨BX.refl _,rfl⟩ (λi acc H' h=>by rw[h.2,length_map,length_map];exact length_take_le _ _) (λi acc H' hi h=>?_) (λacc H' h=>?_)
  ·obtain⟨s4,rfl⟩:=h
   have IS:=getElem?_eq_getElem hi
   have Ic:=s3.trans s4
   obtain⟨v,hv,u,rfl,gu⟩:=Cw.Hw (Cw.same Ic hL.2.2) IS
   refine⟨⟨_,_,Ck.of (Ic _ _ hL.2.1),hv⟩,λv' H5 y=>?_⟩
   obtain⟨rfl,y⟩:=y
   have DN:=y _ (Ck.of (Ic _ _ hL.2.1))
   rw[hv]at DN
   cases DN
   obtain⟨a,b,OU,ha,hb⟩:=Eu _ (getElem_mem hi)
   have DV:ps.take (i + 1)=ps.take i ++ [ps[i]]:=by rw[take_succ,IS];rfl
   generalize ps[i]=pr at OU gu DV
   subst OU
   refine⟨_,rfl,u,_,0,_,rfl,rfl,Ck.of gu,ao (j:=0) rfl,_,rfl,u,_,1,_,rfl,rfl,Ck.of gu,ao (j:=1) rfl,by show 3 <= sizeLine;decide,λt6 ht6=>?_⟩
   have s6:=(BX.refl H5).new (o := .tup [.str (Str.ofString "lane"), .int (a:Int), .int (b:Int)]) ht6
   have g6:(upd H5 t6 (.tup [.str (Str.ofString "lane"), .int (a:Int), .int (b:Int)])) t6=some (.tup [.str (Str.ofString "lane"), .int (a:Int), .int (b:Int)]):=ad
   have w6:∀v ∈ [V.str (Str.ofString "lane"), .int (a:Int), .int (b:Int)],Wd v/\(wT v).length <= 10:=λv hv=>by
    simp only[mem_cons,not_mem_nil,or_false]at hv
    rcases hv with rfl | rfl | rfl
    ·exact⟨.str _,by decide⟩
    ·exact c6 (lt_trans ha (by decide))
    ·exact c6 (lt_trans hb (by decide))
   refine⟨t6,_,rfl, .inr (Ck.of g6),(λv hv=>(w6 v hv).1),by show 3 <= 1000;decide,(λv hv=>le_trans (w6 v hv).2 (by decide)),λH7 s7=>⟨s4.trans (s6.trans s7),?_⟩⟩
   rw[DV,map_append]
   exact oT V.str _ _
  obtain⟨s4,rfl⟩:=h
  rw[take_length]
  refine⟨⟨_,Ck.of ((s3.trans s4) _ _ hL.2.1),by omega⟩,λD2 Dx=>?_⟩
  have s5:=s4.new (o := .lst ((ps.map cF).map V.str)) Dx
  have g5:(upd H' D2 (.lst ((ps.map cF).map V.str))) D2=some (.lst ((ps.map cF).map V.str)):=ad
  generalize upd H' D2 (.lst ((ps.map cF).map V.str))=H5 at s5 g5 ⊢
  refine⟨D,D2,_,_,rfl,rfl,s5 _ _ g3,g5,by rw[length_map,length_map,length_map,sizeLine_eq];show 1 + ps.length <= _;omega,?_⟩
  rw[←map_append]
  have s6:BX H (upd H5 D (.lst (([Txt.join blank ([V.str (Str.ofString "places"), .int n].map wT)] ++ ps.map cF).map V.str))):=λb o e=>by rw[ah (aj e Iu)];exact s5 _ _ (s3 _ _ e)
  have g6:(upd H5 D (.lst (([Txt.join blank ([V.str (Str.ofString "places"), .int n].map wT)] ++ ps.map cF).map V.str))) D=some (.lst (([Txt.join blank ([V.str (Str.ofString "places"), .int n].map wT)] ++ ps.map cF).map V.str)):=ad
  have l6:([Txt.join blank ([V.str (Str.ofString "places"), .int n].map wT)] ++ ps.map cF).length <= 41:=by rw[length_append,length_map];show 1 + ps.length <= 41;omega
  unfold e9 at q
  generalize [Txt.join blank ([V.str (Str.ofString "places"), .int n].map wT)] ++ ps.map cF=hd at s6 g6 l6 q
  generalize upd H5 D (.lst (hd.map V.str))=H6 at s6 g6 ⊢
  have FN:∀p g cc,(bE wy p g cc).length <= 1:=λp g cc=>by unfold bE;split<;>simp
  have YJ:∀p g,((bG ps p).flatMap (bE wy p g)).length <= 41:=λp g=>by
   have:∀l:List (Option Nat),(l.flatMap (bE wy p g)).length <= l.length:=λl=>by
    induction l with
    | nil=>exact le_refl _
    | cons a l ih=>rw[flatMap_cons,length_append,length_cons];have:=FN p g a;omega
   have h1:=this (bG ps p)
   have h2:=(cQ ps p).1
   omega
  refine⟨_,rfl,lx,c.land,Cr,_,_,rfl,s6 _ _ hL.1,L.cl,L.np,rfl,(n:Int),rfl,by omega,by omega,?_⟩
  rw[toNat_natCast]
  refine bu (n:=n) (λi σ H2=>∃a3 a4:Option V,BX H H2/\H2 D=some (.lst ((hd ++ (List.range i).flatMap λp=>dA ps wy n p n).map V.str))/\(hd ++ (List.range i).flatMap λp=>dA ps wy n p n).length <= 41 + i * (12 * 41)/\σ=[some (.ref x),some (.ref lx),some (.ref D),a3,a4])
   ⟨none,none,s6,by simpa using g6,by simpa using l6,rfl⟩ ?_ ?_
  rotate_left
  ·rintro σ H7 ⟨a3,a4,s7,g7,_,rfl⟩
   exact⟨_,rfl,q D H7 s7 Iu g7⟩
  rintro i σ H7 hi ⟨a3,a4,s7,g7,l7,rfl⟩
  rw[zero_add]
  refine⟨_,rfl,lx,c.land,Cr,_,_,rfl,s7 _ _ hL.1,L.cl,L.np,rfl,(n:Int),rfl,by omega,by omega,?_⟩
  rw[toNat_natCast]
  refine bu (n:=n) (λj σ H2=>∃a4:Option V,BX H H2/\H2 D=some (.lst (((hd ++ (List.range i).flatMap λp=>dA ps wy n p n) ++ dA ps wy n i j).map V.str))/\((hd ++ (List.range i).flatMap λp=>dA ps wy n p n) ++ dA ps wy n i j).length <= 41 + i * (12 * 41) + j * 41/\σ=[some (.ref x),some (.ref lx),some (.ref D),some (.int (i:Int)),a4])
   ⟨_,s7,by simpa [dA] using g7,by simpa [dA] using l7,rfl⟩ ?_ ?_
  rotate_left
  ·rintro σ H8 ⟨a4,s8,g8,l8,rfl⟩
   refine⟨_,_,s8,?_,?_,rfl⟩
   ·rw[range_succ,flatMap_append,←append_assoc]
    simpa using g8
   ·rw[range_succ,flatMap_append,←append_assoc]
    simp only[flatMap_cons,List.flatMap_nil,append_nil]
    omega
  rintro j σ H8 hj ⟨a4,s8,g8,l8,rfl⟩
  rw[zero_add]
  have hbd:41 + i * (12 * 41) + j * 41 <= 41 + 12 * (12 * 41) + 12 * 41:=by
   have:=mul_le_mul_right (12 * 41) (show i <= 12 by omega)
   omega
  refine⟨_,rfl, .inl ⟨rfl,_,Cb.of g8⟩,_,rfl,_,rfl,_,rfl,x,lx,Cr,lt,n,Cf,ps,wf,wy,i,j,bG ps i,rfl,CK.keep W hT (BX.Cq s8),⟨hi,hj,λk hk=>JP i j k hi hj hk⟩,EV,c6 (lt_of_lt_of_le hi (le_trans hn (by decide))),c6 (lt_of_lt_of_le hj (le_trans hn (by decide))),p8 ps i,by have:=(cQ ps i).1;omega,(λk hk=>c6 (lt_of_lt_of_le ((cQ ps i).2 k hk) (le_trans Df (by decide)))),λD9 H9 s9 hD9 g9=>?_⟩
  have h41:=YJ i j
  refine⟨D,D9,_,_,rfl,rfl,s9 _ _ g8,g9,by rw[length_map,length_map,sizeLine_eq];omega,?_⟩
  have er:dA ps wy n i (j + 1)=dA ps wy n i j ++ (bG ps i).flatMap (bE wy i j):=by unfold dA;rw[range_succ,flatMap_append];simp
  refine⟨_,(λb o e=>by rw[ah (aj e Iu)];exact s9 _ _ (s8 _ _ e)),?_,?_,rfl⟩
  ·rw[ad,er,←append_assoc,map_append (l₂:=(bG ps i).flatMap (bE wy i j))]
  ·rw[er,←append_assoc,length_append]
   omega
noncomputable def newline:Str:=⟨#[10]⟩
theorem j7{α β:Type}{f:α->List β}:∀{l:List α},(∀a ∈ l,(f a).length <= B)->(l.flatMap f).length <= l.length * B
 | [],_=>zero_le _
 | a :: l,h=>by
  rw[flatMap_cons,length_append,length_cons,Nat.add_mul,Nat.one_mul]
  have h1:=h a mem_cons_self
  have h2:=j7 (l:=l) λb hb=>h b (mem_cons_of_mem _ hb)
  omega
theorem kL{xs:List V}(h:∀v ∈ xs,(wT v).length <= 10)(hl:xs.length <= B):(Txt.join blank (xs.map wT)).length <= B * 11:=by
 have e:Txt.join blank (xs.map wT)=Str.join blank (xs.map wT):=StrLaws.glued_eq_join _ _
 rw[e]
 have h1:=StrLaws.join_length_le blank (xs.map wT)
 have h2:((xs.map wT).map (·.length)).sum <= (xs.map wT).length * 10:=StrLaws.sumLen_le _ λy hy=>by obtain⟨v,hv,rfl⟩:=mem_map.mp hy;exact h v hv
 rw[length_map]at h1 h2
 have h3:xs.length * blank.length=xs.length:=mul_one _
 omega
theorem xC(hw:LN wy){p g:Nat}{c:Option Nat}(hp:pG p)(hg:pG g)(hc:∀k,c=some k->pG k):∀r ∈ bE wy p g c,r.length <= 500:=λr hr=>by
 unfold bE at hr
 split at hr
 ·cases hr
 ·rw[mem_singleton.mp hr]
  obtain⟨h1,h2⟩:=hw (aQ ⟨(p:Int),(g:Int),c,[]⟩)
  refine le_trans (kL (B:=44) (λv hv=>?_) (by rw[length_append];show 4 + _ <= 44;omega)) (by decide)
  rcases mem_append.mp hv with hv | hv
  ·simp only[mem_cons,not_mem_nil,or_false]at hv
   rcases hv with rfl | rfl | rfl | rfl
   ·show(Str.ofString "way").length <= 10;decide
   ·exact hp.2
   ·exact hg.2
   ·cases Ji:c with
    | none=>show(Str.ofString "-").length <= 10;decide
    | some k=>exact(hc k Ji).2
  ·exact(h2 v hv).2
theorem kj(hn:n <= 12)(Df:ps.length <= 40)(Eu:∀pr ∈ ps,∃a b:Nat,pr=((a:Int),(b:Int))/\a < 12/\b < 12)(hw:LN wy):(e9 n ps wy).length <= 6000/\∀r ∈ e9 n ps wy,r.length <= 500:=by
 have sm:∀{k:Nat},k < 100->pG k:=λh=>c6 (lt_trans h (by decide))
 have FN:∀p g cc,(bE wy p g cc).length <= 1:=λp g cc=>by unfold bE;split<;>simp
 have h1:∀p g,((bG ps p).flatMap (bE wy p g)).length <= 41:=λp g=>by
  have:=j7 (l:=bG ps p) λa _=>FN p g a
  have:=(cQ ps p).1
  omega
 have h2:∀p,(dA ps wy n p n).length <= 12 * 41:=λp=>by
  have:=j7 (l:=List.range n) (f:=λg=>(bG ps p).flatMap (bE wy p g)) λg _=>h1 p g
  rw[length_range]at this
  exact le_trans this (mul_le_mul_right 41 hn)
 have h3:((List.range n).flatMap λp=>dA ps wy n p n).length <= 12 * (12 * 41):=by
  have:=j7 (l:=List.range n) (f:=λp=>dA ps wy n p n) λp _=>h2 p
  rw[length_range]at this
  exact le_trans this (mul_le_mul_right _ hn)
 constructor
 ·unfold e9
  rw[length_append,length_append,length_map]
  show 1 + ps.length + _ <= _
  omega
 ·intro r hr
  unfold e9 at hr
  rcases mem_append.mp hr with hr | hr
  ·rcases mem_append.mp hr with hr | hr
   ·rw[mem_singleton.mp hr]
    refine le_trans (kL (B:=2) (λv hv=>?_) (le_refl _)) (by decide)
    simp only[mem_cons,not_mem_nil,or_false]at hv
    rcases hv with rfl | rfl
    ·show(Str.ofString "places").length <= 10;decide
    ·exact(sm (lt_of_le_of_lt hn (by decide))).2
   ·obtain⟨pr,hpr,rfl⟩:=mem_map.mp hr
    obtain⟨a,b,rfl,ha,hb⟩:=Eu pr hpr
    refine le_trans (kL (B:=3) (λv hv=>?_) (le_refl _)) (by decide)
    simp only[mem_cons,not_mem_nil,or_false]at hv
    rcases hv with rfl | rfl | rfl
    ·show(Str.ofString "lane").length <= 10;decide
    ·exact(sm (lt_trans ha (by decide))).2
    ·exact(sm (lt_trans hb (by decide))).2
  ·obtain⟨p,hp,hr⟩:=mem_flatMap.mp hr
   obtain⟨g,hg,hr⟩:=mem_flatMap.mp hr
   obtain⟨c,hc,hr⟩:=mem_flatMap.mp hr
   have hp:=mem_range.mp hp
   have hg:=mem_range.mp hg
   exact xC hw (sm (by omega)) (sm (by omega)) (λk e=>sm (by subst e;have:=(cQ ps p).2 k hc;omega)) r hr
def Rt(H:Hp)(v:V)(ws:List Str):Prop:=∃a,v = .ref a/\H a=some (.lst (ws.map V.str))
abbrev CL(H:Hp):List V->List (List Str)->Prop:=Paired (Rt H)
theorem CL.same(s:BX H H'):∀{vs:List V}{ws:List (List Str)},CL H vs ws->CL H' vs ws:=λCc=>by
 induction Cc with
 | nil=>exact .nil
 | cons zz r ih=>obtain⟨a,e,h⟩:=zz;exact .cons ⟨a,e,s _ _ h⟩ ih
theorem CL.snoc(h:Rt H v x):∀{vs:List V}{ws:List (List Str)},CL H vs ws->CL H (vs ++ [v]) (ws ++ [x]):=λCc=>by
 induction Cc with
 | nil=>exact .cons h .nil
 | cons a r ih=>exact .cons a ih
theorem CL.get :∀{vs:List V}{ws:List (List Str)}{i:Nat}{x:List Str},CL H vs ws->ws[i]? = some x->∃v,vs[i]? = some v/\Rt H v x
 | _,_,_,_, .nil,h=>by cases h
 | _,_,0,_, .cons a r,h=>by cases h;exact⟨_,rfl,a⟩
 | _,_,i + 1,_, .cons a r,h=>let ⟨v,e,z⟩:=CL.get (i:=i) r (by simpa using h); ⟨v,by simpa using e,z⟩
def nR:Sp:=λvs H Q _=>∃x:Str,vs=[.str x]/\x.length <= 4000000/\(Txt.split x newline).length <= 1000000/\(∀r ∈ Txt.split x newline,r.length <= 1000000/\(Txt.split r blank).length <= 1000000) /\
 ∀(D:Addr)(us:List V)(H':Hp),BX H H'->H' D=some (.lst us)->CL H' us ((Txt.split x newline).map λr=>Txt.split r blank)->Q (.ref D) H'
noncomputable def bZ(p g:Nat)(c:Option Nat)(ms:List Nat):List Str:=[aZ p,aZ g,wT (cV c)] ++ ms.map aZ
inductive lz(vs:List V)(H:Hp)(Q:VK)(E:XK):Prop
 | mk (a:Addr) (p g:Nat) (c:Option Nat) (ms:List Nat) (_:vs=[.ref a]) (_:H a=some (.lst ((bZ p g c ms).map V.str))) (_:p < 10 ^ 60) (_:g < 10 ^ 60) (_:(∀k,c=some k->k < 10 ^ 60)) (_:(∀k ∈ ms,k < 10 ^ 60)) (_:ms.length <= 1000) (_:∀(t l:Addr)(H':Hp),BX H H'->Js H' t l ⟨(p:Int),(g:Int),c,ms⟩->Q (.ref t) H')
theorem wu(k:Nat):decide (V.str (aZ k)=V.str (Str.ofString "-"))=false:=by
 refine decide_eq_false λz=>?_
 have e:=V.str.inj z
 exact mX (m:=k) (c:=45) (by decide) (by rw[e];decide)
noncomputable def xF(s:Stmt):Scope:=match s with
 | .Return (some (.Tuple [_,_,_, .ListComp _ _ sc _] _ _)) _=>sc
 | _=>eC
theorem iG(k:Nat)(xs ys:List V)(h:xs.length=k):eK (xs ++ ys) (some (k:Int)) none=ys:=by
 have h1:HT.DO (xs ++ ys).length 0 (some (k:Int))=k:=by
  unfold HT.DO
  rw[length_append]
  simp only
  split<;>omega
 have h2:HT.DO (xs ++ ys).length (xs ++ ys).length none=(xs ++ ys).length:=rfl
 unfold eK
 rw[h1,h2,←h,List.drop_left,length_append]
 exact take_of_length_le (by omega)
theorem Vl:au ["text"] ["text"] (ai iy):=L2.C3
theorem Vm:CP ["text"] (ai iy) (xU ((aI iy).getD 1 (.Pass ⟨0,0,0,0⟩))) [] []:=L2.Dp
theorem Vn:(["row"]:List Str).Nodup:=by decide +kernel
theorem tF(F:C2 K "rows_of" "rows_of" iy f fd)(T:Txt mg)(kss:kitOne K (.type "str") (.type "str")=some true)(mw:mg "words_of" = some (.ref fw))(kw:keepIn K (.ref fw)=true)(bw:Binds K dw ["row"] [])(Gw:BY P w K mg base ay 1 fw dw ["row"] rp):BY P w K mg base ay 2 f fd ["text"] nR:=by
 refine F.ok Vl (λ_ _ _ _ h=>?_) (λ_ _ _ s H _ Q E hr h=>?_)
 ·obtain⟨x,rfl,_⟩:=h
  rfl
 ·obtain⟨x,rfl,h1,h2,h3,q⟩:=h
  refine⟨_,ae (aR (bO (bJ (aE gh rfl T.Kt PyProof.Rows.boot_isinstance (aa (pv 0) (aa (fu (v := .ty "str") rfl T.str PySem.Pv.boot_str rfl) ac))))) (af bA) aF)
   (af (av (aT (own:=["row"]) (capN:=[]) (cap:=[]) Vm rfl (aW (bW plainAttrs_str PySem.F.slot_str_split PySem.F.type_str_split oK (pv 0) (aa b8 ac)))
    (λC s' H' fp=>⟨aw (i:=0) Vn rfl (Or.inl rfl),bd,aq Gw hr rfl mw kw bw .nil ap (aa (pv 0) ac)⟩)))),?_⟩
  refine⟨_,rfl,_,_,_,_,rfl, .str _,kss,_,rfl,aH ?_⟩
  refine⟨_,rfl,rfl,x,newline,rfl,rfl,rfl,h1,h2,λD hD=>?_⟩
  have s1:=(BX.refl H).new (o := .lst ((Txt.split x newline).map V.str)) hD
  have g1:(upd H D (.lst ((Txt.split x newline).map V.str))) D=some (.lst ((Txt.split x newline).map V.str)):=ad
  refine⟨D,rfl,⟨_,Cb.of g1⟩,?_⟩
  dsimp only
  generalize upd H D (.lst ((Txt.split x newline).map V.str))=H1 at s1 g1 ⊢
  generalize Txt.split x newline=rs at *
  refine aX rs.length (by rw[sizeLine_eq];omega) (λi acc H'=>BX H1 H'/\CL H' acc ((rs.take i).map λr=>Txt.split r blank)) ⟨BX.refl _, .nil⟩ (λi acc H' h=>by rw[Paired.length h.2,length_map];exact length_take_le _ _) (λi acc H' hi h=>?_) (λacc H' h=>?_)
  ·obtain⟨s2,hw⟩:=h
   have hri:=getElem?_eq_getElem hi
   refine⟨⟨_,V.str rs[i],Cb.of (s2 _ _ g1),by rw[getElem?_map,hri];rfl⟩,λv H2 y=>?_⟩
   obtain⟨rfl,y⟩:=y
   have hv:=y _ (Cb.of (s2 _ _ g1))
   rw[getElem?_map,hri]at hv
   cases hv
   obtain⟨h4,h5⟩:=h3 _ (getElem_mem hi)
   refine⟨_,rfl,_,rfl,h4,h5,λD2 Dx=>?_⟩
   have s3:=(BX.refl H2).new (o := .lst ((Txt.split rs[i] blank).map V.str)) Dx
   refine⟨s2.trans s3,?_⟩
   rw[take_succ,hri,map_append]
   exact CL.snoc ⟨D2,rfl,ad⟩ (CL.same s3 hw)
  ·obtain⟨s2,hw⟩:=h
   rw[take_length]at hw
   refine⟨⟨_,Cb.of (s2 _ _ g1),by rw[length_map];exact le_refl _⟩,λD2 Dx=>?_⟩
   have s3:=s2.new (o := .lst acc) Dx
   exact q D2 acc _ (s1.trans s3) ad (CL.same ((BX.refl H').new Dx) hw)
theorem OV:au ["words", "came"] ["words"] (ai fM):=L2.C3
theorem Vo:CP ["words", "came"] (ai fM) (xF ((aI fM).getD 1 (.Pass ⟨0,0,0,0⟩))) [] []:=L2.Dp
theorem Vp:(["word"]:List Str).Nodup:=by decide +kernel
theorem qB(F:C2 K "read_way" "read_way" fM f fd)(mn:mg "number_of" = some (.ref fn))(kn:keepIn K (.ref fn)=true)(bn:Binds K dn ["word"] [])(Gn:BY P w K mg base ay 1 fn dn ["word"] fK):BY P w K mg base ay 2 f fd ["words"] lz:=by
 refine F.ok OV (λ_ _ _ _ h=>?_) (λ_ _ _ s H _ Q E hr h=>?_)
 ·obtain⟨a,p,g,c,ms,rfl,_⟩:=h
  rfl
 ·obtain⟨a,p,g,c,ms,rfl,ha,hp,hg,hc,hm,HF,q⟩:=h
  refine⟨_,ae (aD (i:=1) OV.nd rfl (Or.inl rfl) (gr (ce (ax bz (az aK (pv 0) ak (λ_ _=>rfl)) b8 (aA _)) bP (aq Gn hr rfl mn kn bn .nil ap (aa (az aK (pv 0) ak (λ_ _=>rfl)) ac)))))
   (af (av (bF (aa (aq Gn hr rfl mn kn bn .nil ap (aa (az aK (pv 0) ak (λ_ _=>rfl)) ac)) (aa (aq Gn hr rfl mn kn bn .nil ap (aa (az aK (pv 0) ak (λ_ _=>rfl)) ac)) (aa (pv 1)
    (aa (aT (own:=["word"]) (capN:=[]) (cap:=[]) Vo rfl (aW (cb cU (pv 0) (c3 ak) cW))
     (λC s' H' fp=>⟨aw (i:=0) Vp rfl (Or.inl rfl),bd,aq Gn hr rfl mn kn bn .nil ap (aa (pv 0) ac)⟩)) ac))))))),?_⟩
  have at_:∀(j:Nat)(v:Str),(bZ p g c ms)[j]? = some v->xw ((bZ p g c ms).map V.str) (j:Int)=some (.str v):=λj v e=>ao (by rw[getElem?_map,e];rfl)
  refine⟨λv H'=>BX H H'/\v=cV c,?_,λv H1 ⟨s1,e⟩=>?_⟩
  ·refine⟨_,rfl,a,_,2,_,rfl,rfl,Cb.of ha,at_ 2 _ rfl,rfl,_,rfl,?_⟩
   cases c with
   | none=>exact aN ⟨BX.refl H,rfl⟩
   | some k =>
    rw[show decide (V.str (wT (cV (some k)))=V.str (Str.ofString "-"))=false from wu k]
    exact aH ⟨_,rfl,a,_,2,_,rfl,rfl,Cb.of ha,at_ 2 _ rfl,k,rfl,hc k rfl,λH' s'=>⟨s',rfl⟩⟩
  subst e
  refine⟨_,rfl,a,_,0,_,rfl,rfl,Cb.of (s1 _ _ ha),at_ 0 _ rfl,p,rfl,hp,λH2 s2=>?_⟩
  have s2:=s1.trans s2
  refine⟨_,rfl,a,_,1,_,rfl,rfl,Cb.of (s2 _ _ ha),at_ 1 _ rfl,g,rfl,hg,λH3 s3=>?_⟩
  have s3:=s2.trans s3
  refine⟨_,rfl,_,rfl,3,rfl,a,_,rfl,Cb.of (s3 _ _ ha),λD hD=>?_⟩
  have ec:eK ((bZ p g c ms).map V.str) (some 3) none=(ms.map aZ).map V.str:=by
   exact iG 3 [V.str (aZ p),V.str (aZ g),V.str (wT (cV c))] ((ms.map aZ).map V.str) rfl
  rw[ec]
  have s4:=s3.new (o := .lst ((ms.map aZ).map V.str)) hD
  have g4:(upd H3 D (.lst ((ms.map aZ).map V.str))) D=some (.lst ((ms.map aZ).map V.str)):=ad
  refine⟨D,rfl,⟨_,Cb.of g4⟩,?_⟩
  dsimp only
  generalize upd H3 D (.lst ((ms.map aZ).map V.str))=H4 at s4 g4 ⊢
  refine aX ms.length (by rw[sizeLine_eq];omega) (λi acc H'=>BX H4 H'/\acc=bK (ms.take i)) ⟨BX.refl _,rfl⟩ (λi acc H' h=>by rw[h.2];unfold bK;rw[length_map];exact length_take_le _ _) (λi acc H' hi h=>?_) (λacc H' h=>?_)
  ·obtain⟨s5,rfl⟩:=h
   have hri:=getElem?_eq_getElem hi
   refine⟨⟨_,V.str (aZ ms[i]),Cb.of (s5 _ _ g4),by rw[getElem?_map,getElem?_map,hri];rfl⟩,λv H6 y=>?_⟩
   obtain⟨rfl,y⟩:=y
   have hv:=y _ (Cb.of (s5 _ _ g4))
   rw[getElem?_map,getElem?_map,hri]at hv
   cases hv
   refine⟨_,rfl,ms[i],rfl,hm _ (getElem_mem hi),λH7 s7=>⟨s5.trans s7,?_⟩⟩
   rw[take_succ,hri]
   unfold bK
   rw[map_append]
   rfl
  ·obtain⟨s5,rfl⟩:=h
   rw[take_length]
   refine⟨⟨_,Cb.of (s5 _ _ g4),by rw[length_map,length_map];exact le_refl _⟩,λl hl=>?_⟩
   have s6:=(s4.trans s5).new (o := .lst (bK ms)) hl
   have g6:(upd H' l (.lst (bK ms))) l=some (.lst (bK ms)):=ad
   generalize upd H' l (.lst (bK ms))=H6 at s6 g6 ⊢
   refine⟨by show 4 <= sizeLine;decide,λt ht=>?_⟩
   have s7:=(BX.refl H6).new (o := .tup [.int (p:Int), .int (g:Int),cV c, .ref l]) ht
   exact q t l _ (s6.trans s7) ⟨ad,s7 _ _ g6⟩
structure zU(n:Nat)(ps:List (Int × Int))(rs:List Rw):Prop where
 nd:(rs.map nj).Nodup
 key:∀r ∈ rs,∃p g:Nat,p < n/\g < n/\g ≠ p/\r.p=p/\r.g=g/\r.c ∈ gP ps p
 lanes:∀r ∈ rs,(∀k ∈ r.s,k ∈ eu Prod.fst ps r.p)/\r.s.length <= ps.length
theorem wU(h:zU n ps rs):dC n ps rs rs.length=none:=by
 refine eI λk hk=>?_
 have hr:rs[k]? = some rs[k]:=getElem?_eq_getElem hk
 have L8:rs.getD k ⟨0,0,none,[]⟩ = rs[k]:=by rw[getD_eq_getElem?_getD,hr];rfl
 rw[L8,gi]
 have hm:rs[k] ∈ rs:=getElem_mem hk
 obtain⟨p,g,hp,hg,KR,e1,e2,e3⟩:=h.key _ hm
 have Ep:dY n ps rs[k]=true:=by
  unfold dY
  have ho:eE n (rs[k].p,rs[k].g)=true:=by
   unfold eE
   simp only[Bool.and_eq_true,decide_eq_true_eq,Bool.not_eq_true',decide_eq_false_iff_not]
   rw[e1,e2]
   refine⟨⟨by omega,by omega⟩,⟨by omega,by omega⟩,by omega⟩
  rw[ho,Bool.true_and]
  have hs:(rs[k].s.all λz=>decide (z ∈ eu Prod.fst ps rs[k].p))=true:=by
   rw[all_eq_true]
   exact λz hz=>decide_eq_true ((h.lanes _ hm).1 z hz)
  rw[hs,Bool.and_true]
  cases hc:rs[k].c with
  | none=>rfl
  | some z =>
   rw[hc]at e3
   rcases mem_cons.mp e3 with e | e
   ·cases e
   ·obtain⟨z',hz,e⟩:=mem_map.mp e
    cases e
    show decide (z ∈ eu Prod.snd ps rs[k].p)=true
    rw[e1]
    exact decide_eq_true hz
 rw[Ep]
 have KS:((rs.take k).any λa=>decide (aQ a=aQ rs[k]))=false:=by
  rw[any_eq_false]
  intro a ha hd
  have e:=wK (of_decide_eq_true hd)
  obtain⟨j,hj,ea⟩:=mem_take_iff_getElem.mp ha
  have Vq:j < k:=by omega
  have:=pairwise_iff_getElem.mp h.nd j k (by rw[length_map];omega) (by rw[length_map];exact hk) Vq
  rw[getElem_map,getElem_map,ea]at this
  exact this e
 rw[KS];rfl
theorem DH :z ∈ wl (aM rs) key↔∃r,cy rs key=some r/\z ∈ r.s:=by
 unfold wl
 rw[Yd.Ei (Yd.EN _)]
 unfold aM
 cases cy rs key with
 | none=>simp
 | some r =>
  dsimp only
  rw[Yd.Dc,Nat.zero_testBit,Bool.false_or,decide_eq_true_eq]
  simp
theorem fY(h:cy rs key=some r):aQ r=key:=by
 unfold cy at h
 have:=List.find?_some h
 exact of_decide_eq_true this
theorem v8{l:List Nat}(h:l.Pairwise (· < ·))(hl:∀z ∈ l,z < L):l.length <= L:=fT _ _ (h.imp λh=>ne_of_lt h) hl
structure TabOk(n:Nat)(ps:List (Int × Int))(wy:bX->Nat):Prop where
 zero:∀(p:Nat)(c:Option Nat),wl wy (dD ((p:Int),(p:Int),c))=[]
 out:∀(p g:Nat)(c:Option Nat),p < n->g < n->c ∈ gP ps p->∀z ∈ wl wy (dD ((p:Int),(g:Int),c)),z ∈ eu Prod.fst ps p
 lt:∀k,∀z ∈ wl wy k,z < ps.length
theorem TabOk.C6(h:TabOk n ps wy)(k:bX):(wl wy k).length <= ps.length:=v8 (rg wy k) (h.lt k)
theorem cX(h:zU n ps rs):TabOk n ps (aM rs) where
 zero p c:=by
  refine eq_nil_iff_forall_not_mem.mpr λz hz=>?_
  obtain⟨r,e,_⟩:=DH.mp hz
  obtain⟨p',g',_,_,Di,e1,e2,_⟩:=h.key r (cE e)
  have ek:nj r=((p:Int),(p:Int),c):=eN (fY e)
  have a1:r.p=p:=congrArg (·.1) ek
  have a2:r.g=p:=congrArg (·.2.1) ek
  omega
 out p g c hp hg hc z hz:=by
  obtain⟨r,e,hs⟩:=DH.mp hz
  have ek:nj r=((p:Int),(g:Int),c):=eN (fY e)
  have a1:r.p=p:=congrArg (·.1) ek
  have:=(h.lanes r (cE e)).1 z hs
  rw[a1]at this
  exact this
 lt k z hz:=by
  obtain⟨r,e,hs⟩:=DH.mp hz
  exact hU ((h.lanes r (cE e)).1 z hs)
theorem lW(h:wy k=0):wl wy k=[]:=by unfold wl;rw[h];rfl
noncomputable def gH(wy:bX->Nat)(k:Key):Rw:=⟨k.1,k.2.1,k.2.2,wl wy (dD k)⟩
noncomputable def AG(wy:bX->Nat)(k:Key):Bool:=(wl wy (dD k)).isEmpty
noncomputable def bY(n:Nat)(ps:List (Int × Int))(wy:bX->Nat):List Rw:=((fB ps n n).filter λk=>!AG wy k).map (gH wy)
theorem kz(h:TabOk n ps wy):zU n ps (bY n ps wy) where
 nd:=by
  unfold bY
  rw[map_map,show nj ∘ gH wy=id from rfl,List.map_id]
  exact List.Pairwise.filter _ (qL ps n n)
 key r hr:=by
  obtain⟨k,hk,rfl⟩:=mem_map.mp hr
  obtain⟨p,g,h1,h2,h3,h4,h5,h6⟩:=oR (mem_filter.mp hk).1
  exact⟨p,g,h1,h2,h3,h4,h5,h6⟩
 lanes r hr:=by
  obtain⟨k,hk,rfl⟩:=mem_map.mp hr
  obtain⟨p,g,h1,h2,h3,h4,h5,h6⟩:=oR (mem_filter.mp hk).1
  refine⟨λz hz=>?_,h.C6 _⟩
  show z ∈ eu Prod.fst ps k.1
  rw[h4]
  refine h.out p g k.2.2 h1 h2 h6 z ?_
  rw[←h4,←h5]
  exact hz
theorem yS(hp:p < n)(hg:g < n)(Di:g ≠ p)(hc:c ∈ gP ps p):((p:Int),(g:Int),c) ∈ fB ps n n:=by
 unfold fB jd
 refine mem_flatMap.mpr ⟨p,mem_range.mpr hp,mem_flatMap.mpr ⟨g,mem_range.mpr hg,?_⟩⟩
 unfold je
 rw[if_neg Di]
 exact mem_map.mpr ⟨c,hc,rfl⟩
theorem sH(h:TabOk n ps wy)(hp:p < n)(hg:g < n)(hc:c ∈ gP ps p):wl (aM (bY n ps wy)) (dD ((p:Int),(g:Int),c))=wl wy (dD ((p:Int),(g:Int),c)):=by
 cases e:cy (bY n ps wy) (dD ((p:Int),(g:Int),c)) with
 | some r =>
  obtain⟨k,hk,rfl⟩:=mem_map.mp (cE e)
  have ek:k=((p:Int),(g:Int),c):=eN (fY e)
  subst ek
  unfold wl aM
  rw[e]
  exact oP (rg wy _)
 | none =>
  have h1:wl (aM (bY n ps wy)) (dD ((p:Int),(g:Int),c))=[]:=lW (by unfold aM;rw[e])
  rw[h1]
  by_cases Di:g=p
  ·subst Di;exact(h.zero g c).symm
  ·cases hb:AG wy ((p:Int),(g:Int),c) with
   | true=>exact(List.isEmpty_iff.mp hb).symm
   | false =>
    have hm:gH wy ((p:Int),(g:Int),c) ∈ bY n ps wy:=mem_map.mpr ⟨_,mem_filter.mpr ⟨yS hp hg Di hc,by rw[hb];rfl⟩,rfl⟩
    have:=yQ (kz h).nd hm
    rw[show aQ (gH wy ((p:Int),(g:Int),c))=dD ((p:Int),(g:Int),c) from rfl,e]at this
    cases this
noncomputable def way:Str:=Str.ofString "way"
noncomputable def gL(pr:Int × Int):List Str:=[V.str (Str.ofString "lane"), .int pr.1, .int pr.2].map wT
noncomputable def fH(r:Rw):List Str:=way :: bZ r.p.toNat r.g.toNat r.c r.s
noncomputable def eZ(n:Nat):List Str:=[V.str (Str.ofString "places"), .int n].map wT
noncomputable def dz(n:Nat)(ps:List (Int × Int))(wy:bX->Nat):List (List Str):=[eZ n] ++ ps.map gL ++ (bY n ps wy).map fH
theorem su{α β:Type}(b:α->Bool)(F:α->β):∀l:List α,(l.flatMap λk=>if b k then [] else [F k])=(l.filter λk=>!b k).map F
 | []=>rfl
 | a :: l=>by
  rw[flatMap_cons,su b F l,filter_cons]
  cases b a<;>rfl
theorem cP{α β:Type}{f g:α->List β}:∀{l:List α},(∀a ∈ l,f a=g a)->l.flatMap f=l.flatMap g
 | [],_=>rfl
 | a :: l,h=>by rw[flatMap_cons,flatMap_cons,h a mem_cons_self,cP λb hb=>h b (mem_cons_of_mem _ hb)]
noncomputable def xD(wy:bX->Nat)(k:Key):List Str:=if AG wy k then [] else [Txt.join blank (fH (gH wy k))]
theorem rh(wy:bX->Nat)(p g:Nat)(c:Option Nat):bE wy p g c=xD wy ((p:Int),(g:Int),c):=by
 have e1:gY (wy (aQ ⟨(p:Int),(g:Int),c,[]⟩))=nV (wl wy (dD ((p:Int),(g:Int),c))):=rfl
 unfold bE xD AG
 rw[e1]
 have e2:(nV (wl wy (dD ((p:Int),(g:Int),c)))).isEmpty=(wl wy (dD ((p:Int),(g:Int),c))).isEmpty:=by
  unfold nV
  cases wl wy (dD ((p:Int),(g:Int),c))<;>rfl
 rw[e2]
 have e3:([V.str (Str.ofString "way"), .int (p:Int), .int (g:Int),cV c] ++ nV (wl wy (dD ((p:Int),(g:Int),c)))).map wT=fH (gH wy ((p:Int),(g:Int),c)):=by
  unfold fH bZ gH nV
  rw[map_append,map_map]
  rfl
 rw[e3]
theorem qr(h:TabOk n ps wy):((List.range n).flatMap λp=>dA ps wy n p n)=(fB ps n n).flatMap (xD wy):=by
 unfold fB
 rw[List.flatMap_assoc]
 refine cP λp hp=>?_
 unfold dA jd
 rw[List.flatMap_assoc]
 refine cP λg hg=>?_
 unfold je
 split
 ·rename_i e
  subst e
  have:∀l:List (Option Nat),l.flatMap (bE wy g g)=[]:=λl=>by
   refine List.flatMap_eq_nil_iff.mpr λc _=>?_
   rw[rh]
   unfold xD AG
   rw[h.zero]
   rfl
  rw[this]
  rfl
 ·rw[List.flatMap_map]
  exact cP λc _=>rh wy p g c
theorem rJ(h:TabOk n ps wy):e9 n ps wy=(dz n ps wy).map (Txt.join blank):=by
 unfold e9 dz
 rw[qr h,map_append,map_append,map_map,map_map]
 congr 1
 unfold bY
 rw[map_map]
 exact su (AG wy) (λk=>Txt.join blank (fH (gH wy k))) _
abbrev tl(x:Str):List Nat:=x.cps.toList
theorem pQ(x y:Str):tl (x ++ y)=tl x ++ tl y:=by
 show(x.cps ++ y.cps).toList=_
 exact Array.toList_append
theorem zZ(h:tl x=tl y):x=y:=by
 cases x;cases y
 exact congrArg Str.mk (Array.toList_inj.mp h)
theorem pP(x:Str):x.length=(tl x).length:=by
 show x.cps.size=_
 exact Array.length_toList.symm
theorem xG(c:Nat)(ys:List Str):tl (Txt.join ⟨#[c]⟩ ys)=kN c (ys.map tl):=by
 rw[show Txt.join ⟨#[c]⟩ ys=Str.join ⟨#[c]⟩ ys from StrLaws.glued_eq_join _ _]
 exact jb c ys
theorem so(Fx:d ≠ c):∀{ps:List (List Nat)},(∀p ∈ ps,d ∉ p)->d ∉ kN c ps
 | [],_=>by intro h;cases h
 | [q],h=>h q mem_cons_self
 | q :: r :: l,h=>by
  intro z
  rcases mem_append.mp z with z | z
  ·exact h q mem_cons_self z
  ·rcases mem_cons.mp z with z | z
   ·exact Fx z
   ·exact so Fx (λp hp=>h p (mem_cons_of_mem _ hp)) z
def xx(x:Str):Prop:=10 ∉ tl x/\32 ∉ tl x
theorem cR(m:Nat):xx (aZ m):=⟨mX (by decide),mX (by decide)⟩
theorem zW(c:Option Nat):xx (wT (cV c)):=by
 cases c with
 | none=>exact⟨by decide,by decide⟩
 | some k=>exact cR k
theorem x9(r:Rw):∀x ∈ fH r,xx x:=by
 intro x hx
 unfold fH bZ at hx
 rcases mem_cons.mp hx with rfl | hx
 ·exact⟨by decide,by decide⟩
 rcases mem_append.mp hx with hx | hx
 ·simp only[mem_cons,not_mem_nil,or_false]at hx
  rcases hx with rfl | rfl | rfl
  ·exact cR _
  ·exact cR _
  ·exact zW _
 ·obtain⟨m,_,rfl⟩:=mem_map.mp hx
  exact cR m
theorem nK(Eu:∀pr ∈ ps,∃a b:Nat,pr=((a:Int),(b:Int))/\a < 12/\b < 12):∀ws ∈ dz n ps wy,ws ≠ []/\∀x ∈ ws,xx x:=by
 intro ws hw
 rcases mem_append.mp hw with hw | hw
 ·rcases mem_append.mp hw with hw | hw
  ·rw[mem_singleton.mp hw]
   refine⟨cons_ne_nil _ _,λx hx=>?_⟩
   simp only[eZ,map_cons,map_nil,mem_cons,not_mem_nil,or_false]at hx
   rcases hx with rfl | rfl
   ·exact⟨by decide,by decide⟩
   ·exact cR n
  ·obtain⟨pr,hpr,rfl⟩:=mem_map.mp hw
   obtain⟨a,b,rfl,_,_⟩:=Eu pr hpr
   refine⟨cons_ne_nil _ _,λx hx=>?_⟩
   simp only[gL,map_cons,map_nil,mem_cons,not_mem_nil,or_false]at hx
   rcases hx with rfl | rfl | rfl
   ·exact⟨by decide,by decide⟩
   ·exact cR a
   ·exact cR b
 ·obtain⟨r,_,rfl⟩:=mem_map.mp hw
  exact⟨cons_ne_nil _ _,x9 r⟩
theorem jB(h:TabOk n ps wy)(Df:ps.length <= 40):LN wy:=λk=>by
 have e:gY (wy k)=nV (wl wy k):=rfl
 rw[e]
 refine⟨by rw[cC];exact le_trans (h.C6 k) Df,λv hv=>?_⟩
 obtain⟨q,hq,rfl⟩:=mZ hv
 exact c6 (lt_of_lt_of_le (h.lt k q hq) (le_trans Df (by decide)))
structure Zi(P:Program)(w:World)(K:Frag)(mg:Str->Option Value)(base:Heap)(c:Cs)(ts:Ts)(fi ft:Addr)(di dt:FuncData):Prop where
 mi:mg "Land" = some (.ref c.land)
 Mi:Mk K c.land fi
 bi:Binds K di ["self", "places", "lanes"] []
 Gi:BY P w K mg base ay 4 fi di ["self", "places", "lanes"] (mB K c)
 mt:mg "Told" = some (.ref ts.told)
 Mt:Mk K ts.told ft
 bt:Binds K dt ["self", "land", "rows"] []
 Gt:BY P w K mg base ay 5 ft dt ["self", "land", "rows"] (mz P w K c ts)
theorem i9{n:Nat}(hn:n <= 12)(h:eE n pr=true):∃a b:Nat,pr=((a:Int),(b:Int))/\a < 12/\b < 12:=by
 unfold eE at h
 simp only[Bool.and_eq_true,decide_eq_true_eq,Bool.not_eq_true',decide_eq_false_iff_not]at h
 obtain⟨⟨h1,h2⟩,⟨h3,h4⟩,_⟩:=h
 refine⟨pr.1.toNat,pr.2.toNat,Prod.ext ?_ ?_,by omega,by omega⟩
 ·show pr.1=(pr.1.toNat:Int);omega
 ·show pr.2=(pr.2.toNat:Int);omega
theorem tZ{n:Nat}(hn:1 <= n/\n <= 12)(hl:ps.length <= 40)(h:∀q ∈ ps,eE n q=true):eU n ps = .good:=by
 unfold eU
 rw[if_neg (by rw[decide_eq_true (by omega)];intro z;cases z),if_neg (by omega),hZ h]
theorem oC(nx:H x=none)(GA:H dx=none)(Fz:dx ≠ x):BX H (upd (upd H dx (.own x)) x o):=BX.new (BX.new (BX.refl H) GA) (by rw[ah (Ne.symm Fz)];exact nx)
theorem yJ{n:Nat}(nx:H x=none)(GA:H dx=none)(Fz:dx ≠ x)(gl:H l=some (.lst Ct))(He:Cw H Ct ps)(hn:1 <= n/\n <= 12)(Df:ps.length <= 40)(Ci:∀q ∈ ps,eE n q=true)
  (q:∀H3 lt Cf,BX H H3->cr H3 c x dx lt n Cf ps->Q .Cp H3):mB K c [.ref x, .int n, .ref l] (upd (upd H dx (.own x)) x (.ins c.land dx [])) Q E:=by
 have s3:=oC (o := .ins c.land dx []) nx GA Fz
 have gd:=tZ hn Df Ci
 have G8:Ct.length=ps.length:=Paired.length He
 exact⟨x,dx,(n:Int),l,Ct,ps,rfl,ad,Cb.of (s3 _ _ gl),Cw.same s3 He,by omega,(λh=>by rw[gd]at h;cases h),(λk h=>by rw[gd]at h;cases h),(λk h=>by rw[gd]at h;cases h),λ_ H3 lt Cf off hL=>q H3 lt Cf (λb o z=>off b o (aj z nx) (s3 _ _ z)) hL⟩
theorem yI{n:Nat}(nx:H x=none)(GA:H dx=none)(Fz:dx ≠ x)(hL:cr H c lx Cr lt n Cf ps)(gp:H p=some (.lst Cv))(hR:Eb H Cv rs)(hn:n <= 12)(Df:ps.length <= 40)(hf:zU n ps rs)(E6:rs.length <= 10000)
  (q:∀H4,BX H H4->CK c ts.told (CI P w ts) H4 x lx Cr lt n Cf ps (nH rs)->Q .Cp H4):mz P w K c ts [.ref x, .ref lx, .ref p] (upd (upd H dx (.own x)) x (.ins ts.told dx [])) Q E:=by
 have s3:=oC (o := .ins ts.told dx []) nx GA Fz
 have DF:=wU hf
 have G8:Cv.length=rs.length:=Paired.length hR
 have hT:=cX hf
 refine⟨x,dx,lx,Cr,lt,p,(n:Int),Cf,Cv,ps,rs,rfl,ad,⟨s3 _ _ hL.1,s3 _ _ hL.2.1,Cw.same s3 hL.2.2⟩,Cb.of (s3 _ _ gp),Eb.same s3 hR,by omega,by omega,(λr hr=>⟨λk hk=>by have:=hU ((hf.lanes r hr).1 k hk);omega,by have:=(hf.lanes r hr).2;omega⟩),(λi hi=>by rw[DF]at hi;cases hi),λ_ H6 de Vr Vs hy Vt Vu=>?_⟩
 have s6:BX H H6:=λb o z=>Vs b o (aj z nx) (s3 _ _ z)
 exact q H6 s6 ⟨⟨dx,de,_,Vr,rs,hy,Vt,Vu,(λr hr k hk=>lt_of_lt_of_le (hU ((hf.lanes r hr).1 k hk)) Df),rfl⟩,⟨dx,_,hy,rfl,rfl⟩,⟨s6 _ _ hL.1,s6 _ _ hL.2.1,Cw.same s6 hL.2.2⟩,hn,Df,λp g k _ _=>(lY (λr hr k hk=>hU ((hf.lanes r hr).1 k hk)) p g k).1⟩
theorem pw(p:List Str->Bool)(hn:ws.length <= 100000)(ha:H a=some (.lst us))(hw:CL H us ws)
  (hs:∀(u:V)(x:List Str)(acc:List V)(N:List V->Hp->Prop),Rt H u x->x ∈ ws->N (if p x then acc ++ [u] else acc) H->g u σ0 H λσ2 H2=>tt σ2 H2 λb H3=>if b=true then te σ2 H3 λy H4=>N (acc ++ [y]) H4 else N acc H3)
  (hq:∀D Zj,H D=none->CL H Zj (ws.filter p)->Q (.ref D) (upd H D (.lst Zj))):dZ (xz K a) g tt te σ0 Q H:=by
 have hlen:us.length=ws.length:=Paired.length hw
 refine aX ws.length (by rw[sizeLine_eq];omega) (λi acc H'=>H' = H/\CL H acc ((ws.take i).filter p)) ⟨rfl, .nil⟩ (λi acc H' h=>by rw[Paired.length h.2];exact le_trans (length_filter_le _ _) (length_take_le _ _)) (λi acc H' hi h=>?_) (λacc H' h=>?_)
 ·obtain⟨rfl,h⟩:=h
  have LQ:=getElem?_eq_getElem hi
  obtain⟨v,hv,hL⟩:=CL.get hw LQ
  refine⟨⟨_,v,Cb.of ha,hv⟩,λv' H2 y=>?_⟩
  obtain⟨rfl,y⟩:=y
  have DN:=y _ (Cb.of ha)
  rw[hv]at DN
  cases DN
  refine hs v ws[i] acc (λCT H5=>H5=H2/\CL H2 CT ((ws.take (i + 1)).filter p)) hL (getElem_mem hi) ⟨rfl,?_⟩
  rw[take_succ,LQ,filter_append]
  show CL H2 _ (_ ++ List.filter p [ws[i]])
  rw[filter_cons]
  cases p ws[i] with
  | true=>exact CL.snoc hL h
  | false=>show CL H2 acc (_ ++ []);rw[append_nil];exact h
 ·obtain⟨rfl,h⟩:=h
  rw[take_length]at h
  exact⟨⟨us,Cb.of ha,by omega⟩,λD hD=>hq D acc hD h⟩
noncomputable def C0:Str:=Str.ofString "lane"
noncomputable def ja(x:List Str):Bool:=decide (V.str (x.headD blank)=V.str (Str.ofString "lane")) && decide (V.int ((x.map V.str).length:Nat)=V.int 3)
noncomputable def lI(x:List Str):Bool:=decide (V.str (x.headD blank)=V.str (Str.ofString "way")) && decide ((4:Int) < ((x.map V.str).length:Nat))
theorem oZ{α:Type}{p:α->Bool}{l:List α}(h:∀x ∈ l,p x=true):l.filter p=l:=filter_eq_self.mpr h
theorem j8{α:Type}{p:α->Bool}{l:List α}(h:∀x ∈ l,p x=false):l.filter p=[]:=List.filter_eq_nil_iff.mpr λx hx=>by rw[h x hx];intro z;cases z
theorem dM(h:tl x ≠ tl y):decide (V.str x=V.str y)=false:=decide_eq_false λz=>h (congrArg tl (V.str.inj z))
theorem wJ(n:Nat)(ps:List (Int × Int))(wy:bX->Nat):(dz n ps wy).filter ja=ps.map gL:=by
 unfold dz
 rw[filter_append,filter_append,j8 (l:=[eZ n]),oZ (l:=ps.map gL),j8 (l:=(bY n ps wy).map fH)]
 ·simp
 ·intro x hx
  obtain⟨r,_,rfl⟩:=mem_map.mp hx
  unfold ja
  rw[show(fH r).headD blank=way from rfl,dM (by decide),Bool.false_and]
 ·intro x hx
  obtain⟨r,_,rfl⟩:=mem_map.mp hx
  unfold ja
  rw[decide_eq_true (show V.str ((gL r).headD blank)=V.str (Str.ofString "lane") from rfl),decide_eq_true (show V.int (((gL r).map V.str).length:Nat)=V.int 3 from rfl)]
  rfl
 ·intro x hx
  rw[mem_singleton.mp hx]
  unfold ja
  rw[show(eZ n).headD blank=Str.ofString "places" from rfl,dM (by decide),Bool.false_and]
theorem xB(n:Nat)(ps:List (Int × Int))(wy:bX->Nat):(dz n ps wy).filter lI=(bY n ps wy).map fH:=by
 unfold dz
 rw[filter_append,filter_append,j8 (l:=[eZ n]),j8 (l:=ps.map gL),oZ (l:=(bY n ps wy).map fH)]
 ·simp
 ·intro x hx
  obtain⟨r,hr,rfl⟩:=mem_map.mp hx
  obtain⟨k,hk,rfl⟩:=mem_map.mp hr
  have hb:=(mem_filter.mp hk).2
  have Di:0 < (wl wy (dD k)).length:=by
   refine length_pos_iff.mpr λz=>?_
   unfold AG at hb
   rw[z]at hb
   cases hb
  unfold lI
  rw[decide_eq_true (show V.str ((fH (gH wy k)).headD blank)=V.str (Str.ofString "way") from rfl),decide_eq_true,Bool.true_and]
  rw[length_map]
  unfold fH bZ gH
  rw[length_cons,length_append,length_map]
  show (4:Int) < ((3 + (wl wy (dD k)).length + 1:Nat):Int)
  omega
 ·intro x hx
  obtain⟨r,_,rfl⟩:=mem_map.mp hx
  unfold lI
  rw[show(gL r).headD blank=C0 from rfl,dM (by decide),Bool.false_and]
 ·intro x hx
  rw[mem_singleton.mp hx]
  unfold lI
  rw[show(eZ n).headD blank=Str.ofString "places" from rfl,dM (by decide),Bool.false_and]
theorem nu(h:x ≠ []):xw (x.map V.str) 0=some (.str (x.headD blank)):=by
 cases x with
 | nil=>exact absurd rfl h
 | cons y l=>exact ao (j:=0) rfl
inductive m9(P:Program)(w:World)(c:Cs)(ts:Ts)(vs:List V)(H:Hp)(Q:VK)(E:XK):Prop
 | mk (D:Addr) (us:List V) (n:Nat) (ps:List (Int × Int)) (wy:bX->Nat) (_:vs=[.ref D]) (_:H D=some (.lst us)) (_:CL H us (dz n ps wy)) (_:(1 <= n/\n <= 12)) (_:ps.length <= 40) (_:(∀q ∈ ps,eE n q=true)) (_:TabOk n ps wy) (_:(dz n ps wy).length <= 6000) (_:∀(x lx Cr lt:Addr)(Cf:List V)(H':Hp),BX H H'->CK c ts.told (CI P w ts) H' x lx Cr lt n Cf ps (nH (bY n ps wy))->Q (.ref x) H')
noncomputable def rG(s:Stmt):Scope:=match s with
 | .Assign _ (.ListComp _ _ sc _) _=>sc
 | _=>eC
noncomputable def sJ(s:Stmt):Scope:=match s with
 | .Assign _ (.Call _ [_, .ListComp _ _ sc _] _ _) _=>sc
 | .Return (some (.Call _ [_, .ListComp _ _ sc _] _ _)) _=>sc
 | _=>eC
abbrev OW:List Str:=["rows", "lanes", "ways", "land"]
abbrev yK(i:Nat):Stmt:=(aI fN).getD i (.Pass ⟨0,0,0,0⟩)
theorem IT:au OW ["rows"] (ai fN):=L2.C3
theorem Vv:CP OW (ai fN) (rG (yK 0)) [] []:=L2.Dp
theorem Vw:CP OW (ai fN) (rG (yK 1)) [] []:=L2.Dp
theorem Vx:CP OW (ai fN) (sJ (yK 2)) [] []:=L2.Dp
theorem Vy:CP OW (ai fN) (sJ (yK 3)) [] []:=L2.Dp
theorem yF:(["words"]:List Str).Nodup:=by decide +kernel
theorem we(F:C2 K "make_table" "make_table" fN f fd)(T:Txt mg)(M:Zi P w K mg base c ts fi ft di dt)(mn:mg "number_of" = some (.ref fn))(kn:keepIn K (.ref fn)=true)(bn:Binds K dn ["word"] [])(Gn:BY P w K mg base ay 1 fn dn ["word"] fK)
  (my:mg "read_way" = some (.ref fy)) (ky:keepIn K (.ref fy)=true) (Vz:Binds K dy ["words"] []) (Gy:BY P w K mg base ay 2 fy dy ["words"] lz):BY P w K mg base ay 7 f fd ["rows"] (m9 P w c ts):=by
 refine F.ok IT (λ_ _ _ _ h=>?_) (λ_ _ _ s H _ Q E hr h=>?_)
 ·obtain⟨D,us,n,ps,wy,rfl,_⟩:=h
  rfl
 ·obtain⟨D,us,n,ps,wy,rfl,hD,hW,hn,Df,Ci,hT,E6,q⟩:=h
  have CY:Cj 2 _:=hr.mono (by decide)
  have CC:Cj 1 _:=hr.mono (by decide)
  have HH:Cj 5 _:=hr.mono (by decide)
  refine⟨_,ae (ca (i:=1) (own:=["words"]) (capN:=[]) (cap:=[]) Vv rfl IT.nd rfl rfl (aW (pv 0))
    (λC s' H' fp=>⟨aw (i:=0) yF rfl (Or.inl rfl),cz (PW.pt (iQ (ax bz (az (show lp _ (mP K) from aK) (pv 0) ak (λ_ _=>rfl)) b8 (aA _)) (gn (ax bz (aE (show CA _ (.builtin "len") (Oz K) from aB) rfl T.len PySem.boot_len (aa (pv 0) ac)) ak (aA _))))),pv 0⟩))
   (ae (ca (i:=2) (own:=["words"]) (capN:=[]) (cap:=[]) Vw rfl IT.nd rfl rfl (aW (pv 0))
    (λC s' H' fp=>⟨aw (i:=0) yF rfl (Or.inl rfl),cz (PW.pt (iQ (ax bz (az (show lp _ (mP K) from aK) (pv 0) ak (λ_ _=>rfl)) b8 (aA _)) (gn (ax oE (aE (show CA _ (.builtin "len") (Oz K) from aB) rfl T.len PySem.boot_len (aa (pv 0) ac)) ak (aA _))))),pv 0⟩))
   (ae (aD (i:=3) IT.nd rfl (Or.inl rfl) (c8 M.Mi M.Gi HH rfl M.mi M.bi .nil ap (aa (aq Gn CC rfl mn kn bn .nil ap (aa (az aK (az aK (pv 0) ak (λ_ _=>rfl)) (zI uz ak) (λ_ _=>rfl)) ac))
    (aa (aT (own:=["words"]) (capN:=[]) (cap:=[]) Vx rfl (aW (pv 1))
     (λC s' H' fp=>⟨aw (i:=0) yF rfl (Or.inl rfl),bd,bF (aa (aq Gn CC rfl mn kn bn .nil ap (aa (az (show lp _ (mP K) from aK) (pv 0) ak (λ_ _=>rfl)) ac)) (aa (aq Gn CC rfl mn kn bn .nil ap (aa (az (show lp _ (mP K) from aK) (pv 0) ak (λ_ _=>rfl)) ac)) ac))⟩)) ac))))
   (af (av (c8 M.Mt M.Gt hr rfl M.mt M.bt .nil ap (aa (pv 3) (aa (aT (own:=["words"]) (capN:=[]) (cap:=[]) Vy rfl (aW (pv 2))
     (λC s' H' fp=>⟨aw (i:=0) yF rfl (Or.inl rfl),bd,aq Gy CY rfl my ky Vz .nil ap (aa (cb (show QO _ (Nd K) from cU) (pv 0) (c3 ak) cW) ac)⟩)) ac))))))),?_⟩
  have Eu:∀pr ∈ ps,∃a b:Nat,pr=((a:Int),(b:Int))/\a < 12/\b < 12:=λpr hpr=>i9 hn.2 (Ci pr hpr)
  have Di:=λx hx=>(nK (n:=n) (wy:=wy) Eu x hx).1
  refine⟨_,rfl,D,rfl,⟨_,Cb.of hD⟩,?_⟩
  refine pw ja (by omega) hD hW (λu x acc N hL hx h=>?_) λD1 K3 hD1 LR=>?_
  ·obtain⟨a,rfl,ha⟩:=hL
   refine⟨_,rfl,a,_,0,_,rfl,rfl,Cb.of ha,nu (Di x hx),rfl,_,rfl,?_⟩
   unfold ja at h
   cases e1:decide (V.str (x.headD blank)=V.str (Str.ofString "lane")) with
   | false =>
    rw[e1,Bool.false_and]at h
    exact aH (aH h)
   | true =>
    rw[e1,Bool.true_and]at h
    refine aN ⟨_,rfl,a,_,rfl, .inl (Cb.of ha),rfl,_,rfl,?_⟩
    cases e2:decide (V.int ((x.map V.str).length:Nat)=V.int 3) with
    | false=>rw[e2]at h;exact aH h
    | true=>rw[e2]at h;exact aN ⟨_,rfl,h⟩
  rw[wJ]at LR
  have s1:=(BX.refl H).new (o := .lst K3) hD1
  have g1:(upd H D1 (.lst K3)) D1=some (.lst K3):=ad
  show dF 1 (V.ref D1) _ (upd H D1 (.lst K3)) _
  generalize upd H D1 (.lst K3)=H1 at s1 g1 ⊢
  have LR:=CL.same s1 LR
  refine⟨_,rfl,D,rfl,⟨_,Cb.of (s1 _ _ hD)⟩,?_⟩
  refine pw lI (by omega) (s1 _ _ hD) (CL.same s1 hW) (λu x acc N hL hx h=>?_) λD2 JF Dx LS=>?_
  ·obtain⟨a,rfl,ha⟩:=hL
   refine⟨_,rfl,a,_,0,_,rfl,rfl,Cb.of ha,nu (Di x hx),rfl,_,rfl,?_⟩
   unfold lI at h
   cases e1:decide (V.str (x.headD blank)=V.str (Str.ofString "way")) with
   | false =>
    rw[e1,Bool.false_and]at h
    exact aH (aH h)
   | true =>
    rw[e1,Bool.true_and]at h
    refine aN ⟨_,rfl,a,_,rfl, .inl (Cb.of ha),_,_,rfl,rfl,_,rfl,?_⟩
    cases e2:decide ((4:Int) < ((x.map V.str).length:Nat)) with
    | false=>rw[e2]at h;exact aH h
    | true=>rw[e2]at h;exact aN ⟨_,rfl,h⟩
  rw[xB]at LS
  have s2:=s1.new (o := .lst JF) Dx
  have F0:=(BX.refl H1).new (o := .lst JF) Dx
  have g2:(upd H1 D2 (.lst JF)) D2=some (.lst JF):=ad
  show dF 2 (V.ref D2) _ (upd H1 D2 (.lst JF)) _
  generalize upd H1 D2 (.lst JF)=H2 at s2 F0 g2 ⊢
  have LS:=CL.same F0 LS
  have LR:=CL.same F0 LR
  obtain⟨u0,hu0,a0,rfl,ha0⟩:=CL.get (CL.same s2 hW) (show(dz n ps wy)[0]? = some (eZ n) from rfl)
  refine⟨_,rfl,D,us,0,_,rfl,rfl,Cb.of (s2 _ _ hD),ao (j:=0) hu0,_,rfl,a0,_,-1,_,rfl,rfl,Cb.of ha0,xn [V.str (Str.ofString "places")] (.str (aZ n)),n,rfl,lt_of_le_of_lt hn.2 (by decide),λH3 s3=>?_⟩
  have JS:=s2.trans s3
  refine⟨_,rfl,D1,rfl,⟨_,Cb.of (s3 _ _ (F0 _ _ g1))⟩,?_⟩
  have V0:=s3 _ _ (F0 _ _ g1)
  have OX:=CL.same s3 LR
  refine aX ps.length (by rw[sizeLine_eq];omega) (λi acc H'=>BX H3 H'/\Cw H' acc (ps.take i)) ⟨BX.refl _, .nil⟩ (λi acc H' h=>by rw[Paired.length h.2];exact length_take_le _ _) (λi acc H' hi h=>?_) (λacc H' h=>?_)
  ·obtain⟨s4,LJ⟩:=h
   have IS:=getElem?_eq_getElem hi
   obtain⟨v,hv,a,rfl,ha⟩:=CL.get (CL.same s4 OX) (show(ps.map gL)[i]? = some (gL ps[i]) by rw[getElem?_map,IS];rfl)
   refine⟨⟨_,_,Cb.of (s4 _ _ V0),hv⟩,λv' H5 y=>?_⟩
   obtain⟨rfl,y⟩:=y
   have DN:=y _ (Cb.of (s4 _ _ V0))
   rw[hv]at DN
   cases DN
   obtain⟨p1,p2,OU,h1,h2⟩:=Eu _ (getElem_mem hi)
   have DV:ps.take (i + 1)=ps.take i ++ [ps[i]]:=by rw[take_succ,IS];rfl
   generalize ps[i]=pr at OU ha DV
   subst OU
   refine⟨_,rfl,a,_,1,_,rfl,rfl,Cb.of ha,ao (j:=1) rfl,p1,rfl,lt_trans h1 (by decide),λH6 s6=>?_⟩
   refine⟨_,rfl,a,_,2,_,rfl,rfl,Cb.of (s6 _ _ ha),ao (j:=2) rfl,p2,rfl,lt_trans h2 (by decide),λH7 s7=>⟨by show 2 <= sizeLine;decide,λt ht=>?_⟩⟩
   have s8:=(s6.trans s7).new (o := .tup [.int (p1:Int), .int (p2:Int)]) ht
   refine⟨s4.trans s8,?_⟩
   rw[DV]
   have hv8:xy (upd H7 t (.tup [.int (p1:Int), .int (p2:Int)])) (.ref t) ((p1:Int),(p2:Int)):=⟨t,rfl,ad⟩
   exact Cw.snoc hv8 (Cw.same s8 LJ)
  obtain⟨s4,LJ⟩:=h
  rw[take_length]at LJ
  refine⟨⟨_,Cb.of (s4 _ _ V0),by rw[Paired.length OX,length_map];exact le_refl _⟩,λl hl=>?_⟩
  have s5:=s4.new (o := .lst acc) hl
  have Uq:=Cw.same ((BX.refl H').new (o := .lst acc) hl) LJ
  have g5:(upd H' l (.lst acc)) l=some (.lst acc):=ad
  generalize upd H' l (.lst acc)=H5 at s5 g5 Uq ⊢
  refine λx dx nx GA Fz=>yJ nx GA Fz g5 Uq hn Df Ci λH6 lt Cf s6 hL=>⟨rfl,?_⟩
  have LU:=s5.trans s6
  have Ru:=LU _ _ (s3 _ _ g2)
  have KU:=CL.same LU (CL.same s3 LS)
  refine⟨_,rfl,_,rfl,D2,rfl,⟨_,Cb.of Ru⟩,?_⟩
  have Ep:=kz hT
  have Ku:(bY n ps wy).length <= 6000:=by
   unfold dz at E6
   rw[length_append,length_map (f:=fH)]at E6
   omega
  generalize Ib:bY n ps wy=rs at Ep Ku KU q
  refine aX rs.length (by rw[sizeLine_eq];omega) (λi acc H'=>BX H6 H'/\Eb H' acc (rs.take i)) ⟨BX.refl _, .nil⟩ (λi acc H' h=>by rw[Paired.length h.2];exact length_take_le _ _) (λi acc H' hi h=>?_) (λHK H' h=>?_)
  ·obtain⟨s7,Ie⟩:=h
   have hri:=getElem?_eq_getElem hi
   obtain⟨v,hv,a,rfl,ha⟩:=CL.get (CL.same s7 KU) (show(rs.map fH)[i]? = some (fH rs[i]) by rw[getElem?_map,hri];rfl)
   refine⟨⟨_,_,Cb.of (s7 _ _ Ru),hv⟩,λv' H8 y=>?_⟩
   obtain⟨rfl,y⟩:=y
   have DN:=y _ (Cb.of (s7 _ _ Ru))
   rw[hv]at DN
   cases DN
   have DV:rs.take (i + 1)=rs.take i ++ [rs[i]]:=by rw[take_succ,hri];rfl
   obtain⟨p1,p2,h1,h2,_,e1,e2,hc⟩:=Ep.key _ (getElem_mem hi)
   obtain⟨hs1,F3⟩:=Ep.lanes _ (getElem_mem hi)
   generalize rs[i]=r at *
   refine⟨_,rfl,1,rfl,a,_,rfl,Cb.of ha,λp hp=>?_⟩
   have ec:eK ((fH r).map V.str) (some 1) none=(bZ r.p.toNat r.g.toNat r.c r.s).map V.str:=iG 1 [V.str way] _ rfl
   rw[ec]
   have s9:=(BX.refl H8).new (o := .lst ((bZ r.p.toNat r.g.toNat r.c r.s).map V.str)) hp
   have er:(⟨((r.p.toNat:Nat):Int),((r.g.toNat:Nat):Int),r.c,r.s⟩:Rw)=r:=by
    cases r
    simp only at e1 e2
    subst e1 e2
    rfl
   refine⟨p,r.p.toNat,r.g.toNat,r.c,r.s,rfl,ad,lt_of_lt_of_le (show r.p.toNat < 12 by omega) (by decide),lt_of_lt_of_le (show r.g.toNat < 12 by omega) (by decide),(λk hk=>?_),(λk hk=>?_),le_trans F3 (le_trans Df (by decide)),λt l Hs Jm OY=>⟨s7.trans (s9.trans Jm),?_⟩⟩
   ·rw[hk]at hc
    exact lt_of_lt_of_le ((cQ ps p1).2 k hc) (le_trans Df (by decide))
   ·exact lt_of_lt_of_le (hU (hs1 k hk)) (le_trans Df (by decide))
   ·rw[er]at OY
    rw[DV]
    exact Eb.snoc ⟨t,l,rfl,OY⟩ (Eb.same (s9.trans Jm) Ie)
  obtain⟨s7,Ie⟩:=h
  rw[take_length]at Ie
  refine⟨⟨_,Cb.of (s7 _ _ Ru),by rw[Paired.length KU,length_map];exact le_refl _⟩,λl2 GU=>?_⟩
  have s8:=s7.new (o := .lst HK) GU
  have JT:=Eb.same ((BX.refl H').new (o := .lst HK) GU) Ie
  have g8:(upd H' l2 (.lst HK)) l2=some (.lst HK):=ad
  generalize upd H' l2 (.lst HK)=H8 at s8 g8 JT ⊢
  refine λy dy ny KN KO=>yI ny KN KO ⟨s8 _ _ hL.1,s8 _ _ hL.2.1,Cw.same s8 hL.2.2⟩ g8 JT hn.2 Df Ep (by omega) λH9 s9 hTI=>⟨rfl,?_⟩
  exact q y x dx lt Cf H9 (JS.trans (LU.trans (s8.trans s9))) hTI
inductive nQ(vs:List V)(H:Hp)(Q:VK)(E:XK):Prop
 | mk (i:Int) (_:vs=[.str (wT (.int i))]) (_:i.natAbs < 10 ^ 60) (_:∀H',BX H H'->Q (.int i) H')
theorem ux(k:Nat):wT (.int (-((k + 1:Nat):Int))) = ⟨#[45]⟩ ++ aZ (k + 1):=wx k
theorem wt(m:Nat):Txt.startswith (aZ m) ⟨#[45]⟩ = false:=by
 have Di:=mY m
 obtain⟨c,l,e⟩:=List.exists_cons_of_ne_nil Di
 have hs:aZ m = ⟨#[c]⟩ ++ ⟨l.toArray⟩:=zZ (by rw[pQ];exact e)
 have hd:=eB m c (by rw[e];exact mem_cons_self)
 rw[hs,jL]
 exact decide_eq_false (by omega)
theorem pF(x y:Str):(x ++ y).length=x.length + y.length:=by rw[pP,pQ,length_append,←pP,←pP]
noncomputable def cM(d:List V):Str:=Txt.join blank (d.map wT)
noncomputable def dj(n:Nat)(ps:List (Int × Int))(wy:bX->Nat)(s:YS):List Str:=e9 n ps wy ++ [cM (.str (Str.ofString "rooms") :: s.rooms)] ++ s.done.map cM
noncomputable def yT(n:Nat)(ps:List (Int × Int))(wy:bX->Nat)(s:YS):Str:=Txt.join newline (dj n ps wy s)
structure Rv(d:List V):Prop where
 wd:∀v ∈ d,Wd v
 len:∀v ∈ d,(wT v).length <= 62
 C6:d.length <= 41
theorem Rv.row(h:Rv d):(cM d).length <= 2583:=by
 unfold cM
 rw[show Txt.join blank (d.map wT)=Str.join blank (d.map wT) from StrLaws.glued_eq_join _ _]
 have h1:=StrLaws.join_length_le blank (d.map wT)
 have h2:((d.map wT).map (·.length)).sum <= (d.map wT).length * 62:=StrLaws.sumLen_le _ λy hy=>by obtain⟨v,hv,rfl⟩:=mem_map.mp hy;exact h.len v hv
 rw[length_map]at h1 h2
 have h3:d.length * blank.length=d.length:=mul_one _
 have:=h.C6
 omega
structure Zk(s:YS):Prop where
 rooms:Rv (.str (Str.ofString "rooms") :: s.rooms)
 done:∀d ∈ s.done,Rv d
 many:s.done.length <= 100
inductive io(K:Frag)(c:Cs)(TC:Addr)(J:TJ)(ys:Ys)(vs:List V)(H:Hp)(Q:VK)(E:XK):Prop
 | mk (a:YA) (s:YS) (wy:bX->Nat) (_:vs=[.ref a.y]) (_:F1 K c TC J ys H a s) (_:Ag a.n a.ps a.wy wy) (_:LN wy) (_:(∀q ∈ a.ps,eE a.n q=true)) (_:Zk s) (_:∀H',BX H H'->Q (.str (yT a.n a.ps wy s)) H')
theorem nB(rs:List Rw):Ag n ps (nH rs) (aM rs):=λp g k _ _ _=>rfl
noncomputable def V1(s:Stmt):Scope:=match s with
 | .Expr (.Call _ [.ListComp _ _ sc _] _ _) _=>sc
 | _=>eC
theorem OZ:au ["word", "number"] ["word"] (ai mG):=L2.C3
theorem tE(F:C2 K "signed_of" "signed_of" mG f fd)(mn:mg "number_of" = some (.ref fn))(kn:keepIn K (.ref fn)=true)(bn:Binds K dn ["word"] [])(Gn:BY P w K mg base ay 1 fn dn ["word"] fK):BY P w K mg base ay 2 f fd ["word"] nQ:=by
 refine F.ok OZ (λ_ _ _ _ h=>?_) (λ_ _ _ s H _ Q E hr h=>?_)
 ·obtain⟨i,rfl,_⟩:=h
  rfl
 ·obtain⟨i,rfl,hi,q⟩:=h
  refine⟨_,ae (aR (bO (bJ (bW plainAttrs_str PySem.F.slot_str_startswith PySem.F.type_str_startswith tN (pv 0) (aa b8 ac)))) (af (av (aq Gn hr rfl mn kn bn .nil ap (aa (pv 0) ac)))) aF)
   (ae (aD (i:=1) OZ.nd rfl (Or.inl rfl) (aq Gn hr rfl mn kn bn .nil ap (aa (cb xM (pv 0) (c3 ak) cW) ac)))
   (af (av (ce (PW.pt (fE (ax iV (pv 1) bP (aA _)) (dP (ax bz (pv 1) ak (aA _))))) bP (zI uz (pv 1)))))),?_⟩
  refine⟨_,rfl,rfl,_,⟨#[45]⟩,rfl,rfl,_,rfl,?_⟩
  rcases lt_or_le i 0 with h0 | h0
  ·obtain⟨k,rfl⟩:∃k:Nat,i = -((k + 1:Nat):Int):=⟨(-i - 1).toNat,by omega⟩
   rw[ux,jL,decide_eq_true rfl]
   have hk:k + 1 < 10 ^ 60:=by rw[Int.natAbs_neg,natAbs_natCast]at hi;exact hi
   refine aH ⟨_,rfl,1,rfl,_,1,rfl,rfl,rfl,?_,?_⟩
   ·have:=(pF ⟨#[45]⟩ (aZ (k + 1)))
    have h60:(aZ (k + 1)).length <= 60:=fS (by decide) hk
    rw[sizeLine_eq,this,show(⟨#[45]⟩:Str).length=1 from rfl]
    omega
   rw[sR]
   refine⟨k + 1,rfl,hk,λH1 s1=>⟨_,rfl,rfl,_,rfl,aH ⟨_,rfl,rfl,_,rfl,?_⟩⟩⟩
   rw[fZ,decide_eq_false (show ¬(((k + 1:Nat):Int)=0) by omega)]
   exact aH ⟨_,rfl,_,rfl,q H1 s1⟩
  ·obtain⟨m,rfl⟩:=Int.eq_ofNat_of_zero_le h0
   rw[show wT (.int (m:Int))=aZ m from rfl,wt]
   exact aN ⟨_,rfl,m,rfl,by rw[natAbs_natCast]at hi;exact hi,q⟩
theorem Pa:au ["yard", "rows"] ["yard"] (ai jW):=L2.C3
theorem V2:CP ["yard", "rows"] (ai jW) (V1 ((aI jW).getD 2 (.Pass ⟨0,0,0,0⟩))) [] []:=L2.Dp
theorem V3:(["deed"]:List Str).Nodup:=by decide +kernel
theorem vP(F:C2 K "yard_text" "yard_text" jW f fd)(Y:iL K ys)(W:Wy K TC fw dw J)(mr:mg "row_of" = some (.ref fr))(kr:keepIn K (.ref fr)=true)(br:Binds K dr ["things"] [])(Gr:BY P w K mg base ay 2 fr dr ["things"] (jv K))
  (mv:mg "table_rows" = some (.ref fv)) (kv:keepIn K (.ref fv)=true) (bv:Binds K dv ["table"] []) (Gv:BY P w K mg base ay 5 fv dv ["table"] (iN c TC J)) (mh:bC K ys.Ca "history" fh) (bh:Binds K dh ["self"] []) (Gh:BY P w K mg base ay 1 fh dh ["self"] (jR K ys)) :
  BY P w K mg base ay 6 f fd ["yard"] (io K c TC J ys):=by
 refine F.ok Pa (λvs H Q E h=>?_) (λcdv A outer s0 H vs Q E hr h=>?_)
 ·obtain⟨a,s,wy,rfl,_⟩:=h
  rfl
 ·obtain⟨a,s,wy,rfl,hI,hAg,Zl,Ci,JU,q⟩:=h
  have CC:Cj 1 _:=hr.mono (by decide)
  have CY:Cj 2 _:=hr.mono (by decide)
  refine⟨_,ae (aD (i:=1) Pa.nd rfl (Or.inl rfl) (aq Gv hr rfl mv kv bv .nil ap (aa (al (pv 0) rfl) ac)))
   (ae (aP (bW plainAttrs_list PySem.F.slot_list_append PySem.F.type_list_append bQ (pv 1) (aa (aq Gr CY rfl mr kr br .nil ap (aa (gr (aJ rQ (bF (aa b8 ac)) (al (pv 0) rfl))) ac)) ac)))
   (ae (aP (bW plainAttrs_list slot_list_extend type_list_extend cN (pv 1) (aa (aT (own:=["deed"]) (capN:=[]) (cap:=[]) V2 rfl (aW (b6 (pv 0) Y.cl mh Gh CC bh .nil ap))
    (λC s' H' fp=>⟨aw (i:=0) V3 rfl (Or.inl rfl),bd,aq Gr CY rfl mr kr br .nil ap (aa (pv 0) ac)⟩)) ac)))
   (af (av (bW plainAttrs_str PySem.F.slot_str_join PySem.F.type_str_join rW b8 (aa (pv 1) ac)))))),?_⟩
  have Eu:∀pr ∈ a.ps,∃x y:Nat,pr=((x:Int),(y:Int))/\x < 12/\y < 12:=λpr hpr=>i9 hI.T.EZ (Ci pr hpr)
  obtain⟨l1,l2⟩:=kj hI.T.EZ hI.T.C6 Eu Zl
  refine⟨_,rfl,a.y,ys.Ca,a.dy,_,_,rfl,hI.Y.ins,Y.cl,Y.n1,rfl,a.tb,a.lx,a.Cr,a.lt,a.n,a.Cf,a.ps,a.wy,wy,rfl,hI.T,hAg,Eu,Zl,λD H1 s1 hD gD=>?_⟩
  unfold yT dj at q
  generalize e9 a.n a.ps wy=tr at gD l1 l2 q
  refine⟨_,rfl, .inl ⟨rfl,_,Cb.of gD⟩,λv H'=>∃t,v = .ref t/\BX H1 H'/\Ck K H' t (.str (Str.ofString "rooms") :: s.rooms),?_,?_⟩
  ·refine⟨by show 1 <= sizeLine;decide,λt ht=>?_⟩
   have s2:=(BX.refl H1).new (o := .tup [.str (Str.ofString "rooms")]) ht
   have g2:(upd H1 t (.tup [.str (Str.ofString "rooms")])) t=some (.tup [.str (Str.ofString "rooms")]):=ad
   generalize upd H1 t (.tup [.str (Str.ofString "rooms")])=H2 at s2 g2 ⊢
   have OT:=s1.trans s2
   have EK:=JU.rooms.C6
   refine⟨_,rfl,a.y,ys.Ca,a.dy,_,_,rfl,OT _ _ hI.Y.ins,Y.cl,Y.n2,rfl,t,a.ro,_,s.rooms,rfl,rfl,Ck.of g2,bD OT hI.Y.LG,(by intro z;cases z),(by rw[sizeLine_eq];rw[length_cons]at EK;show 1 + s.rooms.length <= _;omega),(λe=>⟨t,rfl,s2,?_⟩),λ_ p hp=>⟨p,rfl,s2.new hp,Ck.of ad⟩⟩
   rw[e]
   exact Ck.of g2
  rintro _ H2 ⟨t,rfl,s2,g2⟩
  refine⟨t,_,rfl, .inr g2,JU.rooms.wd,le_trans JU.rooms.C6 (by decide),(λv hv=>le_trans (JU.rooms.len v hv) (by decide)),λH3 s3=>?_⟩
  have Pb:=s2.trans s3
  refine⟨D,_,_,rfl,rfl,Pb _ _ gD,by rw[length_map,sizeLine_eq];omega,?_⟩
  have s4:BX H (upd H3 D (.lst (tr.map V.str ++ [.str (cM (.str (Str.ofString "rooms") :: s.rooms))]))):=λb o e=>by rw[ah (aj e hD)];exact Pb _ _ (s1 _ _ e)
  have g4:(upd H3 D (.lst (tr.map V.str ++ [.str (cM (.str (Str.ofString "rooms") :: s.rooms))]))) D=some (.lst ((tr ++ [cM (.str (Str.ofString "rooms") :: s.rooms)]).map V.str)):=by rw[ad,map_append];rfl
  show xH _ _ _ _ (upd H3 D (.lst (tr.map V.str ++ [.str (cM (.str (Str.ofString "rooms") :: s.rooms))])))
  generalize upd H3 D (.lst (tr.map V.str ++ [.str (cM (.str (Str.ofString "rooms") :: s.rooms))]))=H4 at s4 g4 ⊢
  refine⟨_,rfl, .inl ⟨rfl,_,Cb.of g4⟩,_,rfl,a.y,a.dy,_,rfl,s4 _ _ hI.Y.ins,rfl,a.y,a.dy,a.tb,a.ro,a.la,a.le,a.li,a.dn,s,rfl,Cg.same hI.Y s4,λth GC H5 s5 Zg Rx hP=>?_⟩
  refine⟨th,rfl,⟨_,Cb.of Rx⟩,?_⟩
  have hPl:GC.length=s.done.length:=Paired.length hP
  have Pc:=JU.many
  refine aX s.done.length (by rw[sizeLine_eq];omega) (λi acc H'=>BX H5 H'/\acc=((s.done.take i).map cM).map V.str) ⟨BX.refl _,rfl⟩ (λi acc H' h=>by rw[h.2,length_map,length_map];exact length_take_le _ _) (λi acc H' hi h=>?_) (λacc H' h=>?_)
  ·obtain⟨s6,rfl⟩:=h
   have FW:=getElem?_eq_getElem hi
   obtain⟨v,hv,td,rfl,Zm⟩:=Paired.at2 hP FW
   refine⟨⟨_,_,Cb.of (s6 _ _ Rx),hv⟩,λv' H7 y=>?_⟩
   obtain⟨rfl,y⟩:=y
   have DN:=y _ (Cb.of (s6 _ _ Rx))
   rw[hv]at DN
   cases DN
   have EV:=JU.done _ (getElem_mem hi)
   have DV:s.done.take (i + 1)=s.done.take i ++ [s.done[i]]:=by rw[take_succ,FW];rfl
   generalize s.done[i]=d at EV DV Zm
   refine⟨_,rfl,td,d,rfl, .inr (Ck.of (s6 _ _ Zm)),EV.wd,le_trans EV.C6 (by decide),(λv hv=>le_trans (EV.len v hv) (by decide)),λH8 s8=>⟨s6.trans s8,?_⟩⟩
   rw[DV,map_append,map_append]
   rfl
  obtain⟨s6,rfl⟩:=h
  rw[take_length]
  refine⟨⟨_,Cb.of (s6 _ _ Rx),by omega⟩,λE2 hE2=>?_⟩
  have s7:=s6.new (o := .lst ((s.done.map cM).map V.str)) hE2
  have g7:(upd H' E2 (.lst ((s.done.map cM).map V.str))) E2=some (.lst ((s.done.map cM).map V.str)):=ad
  generalize upd H' E2 (.lst ((s.done.map cM).map V.str))=H7 at s7 g7 ⊢
  have Zn:=s5.trans s7
  refine⟨D,E2,_,_,rfl,rfl,Zn _ _ g4,g7,by rw[length_map,length_map,length_map,length_append,sizeLine_eq];show tr.length + 1 + _ <= _;omega,?_⟩
  rw[←map_append]
  have s8:BX H (upd H7 D (.lst (((tr ++ [cM (.str (Str.ofString "rooms") :: s.rooms)]) ++ s.done.map cM).map V.str))):=λb o e=>by rw[ah (aj e hD)];exact Zn _ _ (s4 _ _ e)
  have g8:(upd H7 D (.lst (((tr ++ [cM (.str (Str.ofString "rooms") :: s.rooms)]) ++ s.done.map cM).map V.str))) D=some (.lst (((tr ++ [cM (.str (Str.ofString "rooms") :: s.rooms)]) ++ s.done.map cM).map V.str)):=ad
  refine⟨rfl,_,rfl,newline,D,_,rfl,rfl,Cb.of g8,?_,q _ s8⟩
  have b1:(tr.map (·.length)).sum <= tr.length * 500:=StrLaws.sumLen_le _ l2
  have b2:((s.done.map cM).map (·.length)).sum <= (s.done.map cM).length * 2583:=StrLaws.sumLen_le _ λy hy=>by obtain⟨d,hd,rfl⟩:=mem_map.mp hy;exact(JU.done d hd).row
  have b3:=JU.rooms.row
  rw[map_append,map_append,sum_append,sum_append,length_append,length_append]
  rw[length_map]at b2 ⊢
  show _ + _ + _ + (tr.length + 1 + s.done.length) * 1 <= _
  simp only[map_cons,map_nil,sum_cons,List.sum_nil]
  omega
inductive Dd
 | post (p g:Nat) (l u:Int) | mv (m:Mv)
noncomputable def ue:Dd->List V
 | .post p g l u=>[.str "post", .int p, .int g, .int l, .int u]
 | .mv m=>eP m
def D7(a:YA)(s:YS):Dd->Prop
 | .post p g l u=>p < a.n/\g < a.n/\p ≠ g/\a.wy p g none ≠ []/\(1 <= l/\l <= 60)/\zK (.int u)=true/\s.U.length < 60
 | .mv m=>m ∈ b5 a s
def CB(a:YA)(s:YS)(d:Dd)(s':YS):Prop:=match d with
 | .post p g l u=>s' = k9 s p g l u
 | .mv m=>∃s1,Ed a s m s1/\s' = { s1 with done:=s.done ++ [eP m] }
inductive Ee(a:YA)(rv:List V):List Dd->YS->Prop
 | nil:Ee a rv [] (Y0 rv a.n)
 | cons {ds:List Dd} {s s':YS} {d:Dd} (h:Ee a rv ds s) (l:D7 a s d) (st:CB a s d s'):Ee a rv (ds ++ [d]) s'
theorem Ed.det(h1:Ed a s m s1)(h2:Ed a s m s2):s1=s2:=by
 cases h1 with
 | Dh ht hg hl C9 ho =>
  cases h2 with
  | Dh LV hg' Fo Em Hl =>
   rw[ht]at LV;cases LV
   rw[C9]at Em;cases Em
   rfl
 | on hk hq ht hl C9 ho =>
  cases h2 with
  | on Hd Eh LV Fo Em Hl =>
   rw[hk]at Hd;cases Hd
   rw[hq]at Eh
   injection Eh with Eh
   injection Eh with e1 e2
   have e1:=Int.ofNat.inj e1
   subst e1 e2
   rw[ht]at LV;cases LV
   rw[C9]at Em;cases Em
   rfl
 | DL hk hq ht hg he En =>
  cases h2 with
  | DL Hd Eh LV hg' Zo Pe =>
   rw[hk]at Hd;cases Hd
   rw[hq]at Eh
   injection Eh with Eh
   injection Eh with e1 e2
   have e1:=Int.ofNat.inj e1
   subst e1 e2
   rw[he]at Zo
   have e3:=Int.ofNat.inj Zo
   subst e3
   rw[En]at Pe;cases Pe
   rfl
 | back hk hb =>
  cases h2 with
  | back Hd Et=>rw[hk]at Hd;cases Hd;rfl
theorem CB.det(h1:CB a s d s1)(h2:CB a s d s2):s1=s2:=by
 cases d with
 | post p g l u=>exact h1.trans h2.symm
 | mv m =>
  obtain⟨x,hx,e1⟩:=h1
  obtain⟨y,hy,e2⟩:=h2
  rw[e1,e2,hx.det hy]
theorem nY{α:Type}{l l':List α}{x y:α}(h:l ++ [x]=l' ++ [y]):l=l'/\x=y:=by
 have:=List.append_inj' h rfl
 exact⟨this.1,by injection this.2⟩
theorem Ee.det :∀{ds:List Dd}{s s':YS},Ee a rv ds s->Ee a rv ds s'->s=s':=by
 intro ds s s' h1
 induction h1 generalizing s' with
 | nil =>
  intro h2
  generalize e:([]:List Dd)=z at h2
  cases h2 with
  | nil=>rfl
  | cons h l st=>exact absurd e.symm (by simp)
 | @cons ds s s1 d h l st ih =>
  intro h2
  generalize e:ds ++ [d]=z at h2
  cases h2 with
  | nil=>exact absurd e (by simp)
  | @cons ds2 t t' d2 h' l' Eg =>
   obtain⟨rfl,rfl⟩:=nY e
   have:=ih h'
   subst this
   exact st.det Eg
theorem Ee.at(h:Ee a rv ds s):∀{i:Nat}{d:Dd},ds[i]? = some d->∃t,Ee a rv (ds.take i) t/\D7 a t d:=by
 induction h with
 | nil=>intro i d h;cases h
 | @cons ds s s1 d h l st ih =>
  intro i e hi
  by_cases CS:i < ds.length
  ·rw[getElem?_append_left CS]at hi
   obtain⟨t,h1,h2⟩:=ih hi
   exact⟨t,by rw[List.take_append_of_le_length (by omega)];exact h1,h2⟩
  ·have Pf:i=ds.length:=by
    have:=(gQ0 hi)
    rw[length_append]at this
    have:i < ds.length + 1:=this
    omega
   subst Pf
   rw[getElem?_concat_length]at hi
   cases hi
   exact⟨s,by rw[List.take_left];exact h,l⟩
theorem Ee.done(h:Ee a rv ds s):s.done=ds.map ue/\s.rooms=rv:=by
 induction h with
 | nil=>exact⟨rfl,rfl⟩
 | @cons ds s s1 d h l st ih =>
  rw[map_append]
  cases d with
  | post p g l u =>
   cases st
   exact⟨by show s.done ++ _=_;rw[ih.1];rfl,ih.2⟩
  | mv m =>
   obtain⟨x,hx,rfl⟩:=st
   exact⟨by show s.done ++ _=_;rw[ih.1];rfl,by show x.rooms=rv;rw[hx.rooms];exact ih.2⟩
theorem CB.GG(J:CN a s)(l:D7 a s d)(st:CB a s d s'):CN a s':=by
 cases d with
 | post p g l' u =>
  cases st
  obtain⟨h1,h2,_,_,h5,_,h7⟩:=l
  exact J.post h1 h2 ⟨by omega,h5.2⟩ h7
 | mv m =>
  obtain⟨x,hx,rfl⟩:=st
  exact(J.step hx).done _
theorem Ee.to(h1:a'.ps=a.ps)(h2:a'.wy=a.wy)(h3:a'.n=a.n)(h:Ee a rv ds s):Ee a' rv ds s:=by
 obtain⟨y,dy,tb,ro,la,le,li,dn,lx,Cr,lt,n,Cf,ps,wy⟩:=a
 obtain⟨y',dy',tb',ro',la',le',li',dn',LW,GI,lt',n',Ek,ps',wy'⟩:=a'
 simp only at h1 h2 h3
 subst h1 h2 h3
 induction h with
 | nil=>exact .nil
 | @cons ds s s1 d h l st ih =>
  refine .cons ih ?_ ?_
  ·cases d with
   | post p g l' u=>exact l
   | mv m=>exact l
  ·cases d with
   | post p g l' u=>exact st
   | mv m =>
    obtain⟨x,hx,e⟩:=st
    refine⟨x,?_,e⟩
    cases hx with
    | Dh ht hg hl C9 ho=>exact .Dh ht hg hl C9 ho
    | on hk hq ht hl C9 ho=>exact .on hk hq ht hl C9 ho
    | DL hk hq ht hg he En=>exact .DL hk hq ht hg he En
    | back hk hb=>exact .back hk hb
def LX:Dd->Prop
 | .post p g l u=>p < 100/\g < 100/\(1 <= l/\l <= 60)/\u.natAbs < 10 ^ 60
 | .mv (.Dh k l)=>k < 100/\l < 100
 | .mv (.on k l)=>k < 100/\l < 100
 | .mv (.DL k)=>k < 100
 | .mv (.back k)=>k < 100
theorem V4(h:i.natAbs < 10 ^ 60):Wd (.int i)/\(wT (.int i)).length <= 62/\xx (wT (.int i)):=by
 have KP:i.natAbs.log2 < 1920:=by have:=nc h;rw[natAbs_natCast]at this;exact this
 refine⟨.int _ KP,?_⟩
 rcases lt_or_le i 0 with h0 | h0
 ·obtain⟨k,rfl⟩:∃k:Nat,i = -((k + 1:Nat):Int):=⟨(-i - 1).toNat,by omega⟩
  have hk:k + 1 < 10 ^ 60:=by rw[Int.natAbs_neg,natAbs_natCast]at h;exact h
  rw[ux]
  refine⟨?_,?_⟩
  ·rw[pF,show(⟨#[45]⟩:Str).length=1 from rfl]
   have:=fS (m:=k + 1) (k:=60) (by decide) hk
   omega
  ·obtain⟨h1,h2⟩:=cR (k + 1)
   have e:tl (⟨#[45]⟩ ++ aZ (k + 1))=45 :: tl (aZ (k + 1)):=pQ _ _
   refine⟨?_,?_⟩
   ·rw[e];intro z;rcases mem_cons.mp z with z | z
    ·cases z
    ·exact h1 z
   ·rw[e];intro z;rcases mem_cons.mp z with z | z
    ·cases z
    ·exact h2 z
 ·obtain⟨m,rfl⟩:=Int.eq_ofNat_of_zero_le h0
  rw[natAbs_natCast]at h
  exact⟨le_trans (fS (k:=60) (by decide) h) (by decide),cR m⟩
theorem xA{k:Nat}(h:k < 100):Wd (.int (k:Int))/\(wT (.int (k:Int))).length <= 62/\xx (wT (.int (k:Int))):=V4 (by rw[natAbs_natCast];exact lt_trans h (by decide))
theorem LY(h1:x.length <= 62)(h2:10 ∉ tl x)(h3:32 ∉ tl x):Wd (.str x)/\(wT (.str x)).length <= 62/\xx (wT (.str x)):=⟨.str x,h1,h2,h3⟩
theorem pi(h:LX d):(∀v ∈ ue d,Wd v/\(wT v).length <= 62/\xx (wT v))/\(ue d).length <= 5:=by
 cases d with
 | post p g l u =>
  obtain⟨h1,h2,h3,h4⟩:=h
  refine⟨λv hv=>?_,by show 5 <= 5;decide⟩
  simp only[ue,mem_cons,not_mem_nil,or_false]at hv
  rcases hv with rfl | rfl | rfl | rfl | rfl
  ·exact LY (by decide) (by decide) (by decide)
  ·exact xA h1
  ·exact xA h2
  ·exact V4 (lt_of_le_of_lt (show l.natAbs <= 60 by omega) (by decide))
  ·exact V4 h4
 | mv m =>
  cases m with
  | Dh k l =>
   refine⟨λv hv=>?_,by show 3 <= 5;decide⟩
   simp only[ue,eP,mem_cons,not_mem_nil,or_false]at hv
   rcases hv with rfl | rfl | rfl
   ·exact LY (by decide) (by decide) (by decide)
   ·exact xA h.1
   ·exact xA h.2
  | on k l =>
   refine⟨λv hv=>?_,by show 3 <= 5;decide⟩
   simp only[ue,eP,mem_cons,not_mem_nil,or_false]at hv
   rcases hv with rfl | rfl | rfl
   ·exact LY (by decide) (by decide) (by decide)
   ·exact xA h.1
   ·exact xA h.2
  | DL k =>
   refine⟨λv hv=>?_,by show 2 <= 5;decide⟩
   simp only[ue,eP,mem_cons,not_mem_nil,or_false]at hv
   rcases hv with rfl | rfl
   ·exact LY (by decide) (by decide) (by decide)
   ·exact xA h
  | back k =>
   refine⟨λv hv=>?_,by show 2 <= 5;decide⟩
   simp only[ue,eP,mem_cons,not_mem_nil,or_false]at hv
   rcases hv with rfl | rfl
   ·exact LY (by decide) (by decide) (by decide)
   ·exact xA h
theorem Ee.GG(h0:CN a (Y0 rv a.n))(h:Ee a rv ds s):CN a s:=by
 induction h with
 | nil=>exact h0
 | cons h l st ih=>exact st.GG ih l
theorem cx{α:Type}{l:List α}{x:α}(h:l[i]? = some x):i < l.length:=(gQ0 h)
theorem Bs(h:zK (.int u)=true):u.natAbs < 10 ^ 60:=by
 have h:(if u < 0 then -u else u) < 10 ^ 60:=of_decide_eq_true h
 split at h<;>omega
theorem CB.KW(J:CN a s)(hn:a.n <= 12)(l:D7 a s d)(st:CB a s d s'):LX d:=by
 have hf:=J.C6
 have hp:=J.Hi
 have hl:=J.lanes
 cases d with
 | post p g l' u =>
  obtain⟨h1,h2,_,_,h5,h6,_⟩:=l
  exact⟨by omega,by omega,h5,Bs h6⟩
 | mv m =>
  obtain⟨x,hx,_⟩:=st
  cases hx with
  | Dh ht hg Fo C9 ho=>exact⟨by have:=cx ht;omega,by have:=cx C9;omega⟩
  | on hk hq ht Fo C9 ho=>exact⟨by have:=cx hk;omega,by have:=cx C9;rw[length_set]at this;omega⟩
  | DL hk hq ht hg he En=>show _ < 100;have:=cx hk;omega
  | back hk hb=>show _ < 100;have:=cx hk;omega
theorem Ee.KW(h0:CN a (Y0 rv a.n))(hn:a.n <= 12)(h:Ee a rv ds s):∀d ∈ ds,LX d:=by
 induction h with
 | nil=>intro d hd;cases hd
 | @cons ds s s1 d h l st ih =>
  intro e he
  rcases mem_append.mp he with he | he
  ·exact ih e he
  ·rw[mem_singleton.mp he];exact st.KW (h.GG h0) hn l
noncomputable def ud(d:Dd):List Str:=(ue d).map wT
inductive pX(P:Program)(w:World)(K:Frag)(c:Cs)(ts:Ts)(ys:Ys)(vs:List V)(H:Hp)(Q:VK)(E:XK):Prop
 | mk (a:YA) (s:YS) (wa:Addr) (d:Dd) (_:vs=[.ref a.y, .ref wa]) (_:F1 K c ts.told (CI P w ts) ys H a s) (_:H wa=some (.lst ((ud d).map V.str))) (_:D7 a s d) (_:LX d) (_:UO s) (_:s.done.length <= 10000) (_:∀(H':Hp)(s':YS),CB a s d s'->Cn a.four H H'->CQ K ys H' a s'->Q .Cp H')
noncomputable def zX(s:Stmt):Scope:=match s with
 | .Assign _ (.Call _ [.BinOp _ _ (.ListComp _ _ sc _) _] _ _) _=>sc
 | _=>eC
abbrev Zp:List Str:=["yard", "words", "deed"]
noncomputable def gB:Dd->List Int
 | .post p g l u=>[p,g,l,u]
 | .mv (.Dh k l)=>[k,l]
 | .mv (.on k l)=>[k,l]
 | .mv (.DL k)=>[k]
 | .mv (.back k)=>[k]
noncomputable def n0:Dd->Str
 | .post _ _ _ _ => "post"
 | .mv (.Dh _ _) => "in"
 | .mv (.on _ _) => "on"
 | .mv (.DL _) => "lie"
 | .mv (.back _) => "back"
theorem Pg(m:Mv):decide (V.str (n0 (.mv m))=V.str (Str.ofString "post"))=false:=by
 cases m with
 | Dh k l=>exact dM (x:=Str.ofString "in") (by decide)
 | on k l=>exact dM (x:=Str.ofString "on") (by decide)
 | DL k=>exact dM (x:=Str.ofString "lie") (by decide)
 | back k=>exact dM (x:=Str.ofString "back") (by decide)
theorem qT(d:Dd):ue d = .str (n0 d) :: (gB d).map V.int:=by
 cases d with
 | post p g l u=>rfl
 | mv m=>cases m<;>rfl
theorem BE(h:LX d):(∀i ∈ gB d,i.natAbs < 10 ^ 60)/\(gB d).length <= 4:=by
 have small:∀k:Nat,k < 100->((k:Int)).natAbs < 10 ^ 60:=λk hk=>by rw[natAbs_natCast];exact lt_trans hk (by decide)
 cases d with
 | post p g l u =>
  obtain⟨h1,h2,h3,h4⟩:=h
  refine⟨λi hi=>?_,by show 4 <= 4;decide⟩
  simp only[gB,mem_cons,not_mem_nil,or_false]at hi
  rcases hi with rfl | rfl | rfl | rfl
  ·exact small p h1
  ·exact small g h2
  ·exact lt_of_le_of_lt (show i.natAbs <= 60 by omega) (by decide)
  ·exact h4
 | mv m =>
  cases m with
  | Dh k l =>
   refine⟨λi hi=>?_,by show 2 <= 4;decide⟩
   simp only[gB,mem_cons,not_mem_nil,or_false]at hi
   rcases hi with rfl | rfl
   ·exact small k h.1
   ·exact small l h.2
  | on k l =>
   refine⟨λi hi=>?_,by show 2 <= 4;decide⟩
   simp only[gB,mem_cons,not_mem_nil,or_false]at hi
   rcases hi with rfl | rfl
   ·exact small k h.1
   ·exact small l h.2
  | DL k=>exact⟨λi hi=>by simp only[gB,mem_cons,not_mem_nil,or_false]at hi;subst hi;exact small k h,by show 1 <= 4;decide⟩
  | back k=>exact⟨λi hi=>by simp only[gB,mem_cons,not_mem_nil,or_false]at hi;subst hi;exact small k h,by show 1 <= 4;decide⟩
theorem Ph:au Zp ["yard", "words"] (ai ot):=L2.C3
theorem V5:CP Zp (ai ot) (zX ((aI ot).getD 0 (.Pass ⟨0,0,0,0⟩))) [] []:=L2.Dp
theorem V6:(["word"]:List Str).Nodup:=by decide +kernel
theorem yC(F:C2 K "do_deed" "do_deed" ot f fd)(T:Txt mg)(Y:iL K ys)(W:Wy K ts.told fw dw (CI P w ts))(ms:mg "signed_of" = some (.ref fs))(ks:keepIn K (.ref fs)=true)(bs:Binds K ds ["word"] [])(Gs:BY P w K mg base ay 2 fs ds ["word"] nQ)
  (mp:bC K ys.Ca "post" fp) (bp:Binds K dp BS []) (Gp:BY P w K mg base ay 4 fp dp BS (m6 K c ts.told (CI P w ts) ys)) (mo:bC K ys.Ca "do" fo) (bo:Binds K KY ["self", "move"] []) (Go:BY P w K mg base ay 8 fo KY ["self", "move"] (uZ K c ts.told (CI P w ts) ys)) :
  BY P w K mg base ay 9 f fd ["yard", "words"] (pX P w K c ts ys):=by
 refine F.ok Ph (λvs H Q E h=>?_) (λcdv A outer s0 H vs Q E hr h=>?_)
 ·obtain⟨a,s,wa,d,rfl,_⟩:=h
  rfl
 ·obtain⟨a,s,wa,d,rfl,hI,gw,hL,hOk,hS,DY,q⟩:=h
  have CY:Cj 2 _:=hr.mono (by decide)
  have E5:Cj 4 _:=hr.mono (by decide)
  refine⟨_,ae (aD (i:=2) Ph.nd rfl (Or.inl rfl) (bI cY rfl T.tuple PySem.Pv.boot_tuple (aa (aJ kD (aU (aa (az aK (pv 1) ak (λ_ _=>rfl)) ac)) (aT (own:=["word"]) (capN:=[]) (cap:=[]) V5 rfl (aW (cb cU (pv 1) (c3 ak) cW))
    (λC s' H' fp=>⟨aw (i:=0) V6 rfl (Or.inl rfl),bd,aq Gs CY rfl ms ks bs .nil ap (aa (pv 0) ac)⟩))) ac)))
   (af (aR (PW.pt (iQ (ax bz (az aK (pv 1) ak (λ_ _=>rfl)) b8 (aA _)) (gn (ax bz (aE aB rfl T.len PySem.boot_len (aa (pv 1) ac)) ak (aA _)))))
    (af (aP (aC (pv 0) Y.cl mp Gp E5 bp .nil ap (aa (az aG (pv 2) ak (λ_ _=>rfl)) (aa (az aG (pv 2) ak (λ_ _=>rfl)) (aa (az aG (pv 2) ak (λ_ _=>rfl)) (aa (az aG (pv 2) ak (λ_ _=>rfl)) ac)))))))
    (af (aP (aC (pv 0) Y.cl mo Go hr bo .nil ap (aa (pv 2) ac)))))),?_⟩
  have ew:(ud d).map V.str=V.str (n0 d) :: (gB d).map λi=>V.str (wT (.int i)):=by
   unfold ud
   rw[qT,map_cons,map_cons,map_map,map_map]
   rfl
  rw[ew]at gw
  obtain⟨Uw,hi2⟩:=BE hOk
  refine⟨_,rfl,wa,_,0,_,rfl,rfl,Cb.of gw,ao (j:=0) rfl,by show 1 <= sizeLine;decide,λo1 JQ=>?_⟩
  have s1:=(BX.refl H).new (o := .lst [.str (n0 d)]) JQ
  have g1:(upd H o1 (.lst [.str (n0 d)])) o1=some (.lst [.str (n0 d)]):=ad
  generalize upd H o1 (.lst [.str (n0 d)])=H1 at s1 g1 ⊢
  refine⟨_,rfl,1,rfl,wa,_,rfl,Cb.of (s1 _ _ gw),λD hD=>?_⟩
  have ec:eK (V.str (n0 d) :: (gB d).map λi=>V.str (wT (.int i))) (some 1) none=(gB d).map λi=>V.str (wT (.int i)):=iG 1 [V.str (n0 d)] _ rfl
  rw[ec]
  have s2:=s1.new (o := .lst ((gB d).map λi=>V.str (wT (.int i)))) hD
  have F0:=(BX.refl H1).new (o := .lst ((gB d).map λi=>V.str (wT (.int i)))) hD
  have g2:(upd H1 D (.lst ((gB d).map λi=>V.str (wT (.int i))))) D=some (.lst ((gB d).map λi=>V.str (wT (.int i)))):=ad
  refine⟨D,rfl,⟨_,Cb.of g2⟩,?_⟩
  dsimp only
  generalize upd H1 D (.lst ((gB d).map λi=>V.str (wT (.int i))))=H2 at s2 F0 g2 ⊢
  refine aX (gB d).length (by rw[sizeLine_eq];omega) (λi acc H'=>BX H2 H'/\acc=((gB d).take i).map V.int) ⟨BX.refl _,rfl⟩ (λi acc H' h=>by rw[h.2,length_map];exact length_take_le _ _) (λi acc H' hi h=>?_) (λacc H' h=>?_)
  ·obtain⟨s3,rfl⟩:=h
   have FW:=getElem?_eq_getElem hi
   refine⟨⟨_,V.str (wT (.int (gB d)[i])),Cb.of (s3 _ _ g2),by rw[getElem?_map,FW];rfl⟩,λv H4 y=>?_⟩
   obtain⟨rfl,y⟩:=y
   have hv:=y _ (Cb.of (s3 _ _ g2))
   rw[getElem?_map,FW]at hv
   cases hv
   refine⟨_,rfl,(gB d)[i],rfl,Uw _ (getElem_mem hi),λH5 s5=>⟨s3.trans s5,?_⟩⟩
   rw[take_succ,FW,map_append]
   rfl
  obtain⟨s3,rfl⟩:=h
  rw[take_length]
  refine⟨⟨_,Cb.of (s3 _ _ g2),by rw[length_map];exact le_refl _⟩,λo2 D5=>?_⟩
  have s4:=(s2.trans s3).new (o := .lst ((gB d).map V.int)) D5
  have Ry:=s3.new (o := .lst ((gB d).map V.int)) D5
  have g4:(upd H' o2 (.lst ((gB d).map V.int))) o2=some (.lst ((gB d).map V.int)):=ad
  generalize upd H' o2 (.lst ((gB d).map V.int))=H4 at s4 Ry g4 ⊢
  refine⟨o1,o2,_,_,rfl,rfl,Ry _ _ (F0 _ _ g1),g4,by rw[length_map,sizeLine_eq];show 1 + _ <= _;omega,λCm KQ=>?_⟩
  have s5:=s4.new (o := .lst ([V.str (n0 d)] ++ (gB d).map V.int)) KQ
  have g5:(upd H4 Cm (.lst ([V.str (n0 d)] ++ (gB d).map V.int))) Cm=some (.lst ([V.str (n0 d)] ++ (gB d).map V.int)):=ad
  generalize upd H4 Cm (.lst ([V.str (n0 d)] ++ (gB d).map V.int))=H5 at s5 g5 ⊢
  refine⟨Cm,_,rfl, .inl ⟨Cb.of g5,λtd htd=>?_⟩⟩
  have s6:=s5.new (o := .tup ([V.str (n0 d)] ++ (gB d).map V.int)) htd
  have g6:(upd H5 td (.tup ([V.str (n0 d)] ++ (gB d).map V.int))) td=some (.tup (ue d)):=by rw[ad,qT];rfl
  show dF 2 (V.ref td) _ (upd H5 td (.tup ([V.str (n0 d)] ++ (gB d).map V.int))) _
  generalize upd H5 td (.tup ([V.str (n0 d)] ++ (gB d).map V.int))=H6 at s6 g6 ⊢
  have Pj:=hI.same W s6
  have V7:=s6 _ _ gw
  cases d with
  | post p g l u =>
   obtain⟨h1,h2,h3,h4,h5,h7,h8⟩:=hL
   refine⟨_,rfl,wa,_,0,_,rfl,rfl,Cb.of V7,ao (j:=0) rfl,rfl,_,rfl,?_⟩
   rw[decide_eq_true (show V.str (n0 (.post p g l u))=V.str (Str.ofString "post") from rfl)]
   refine aN ⟨_,rfl,wa,_,rfl, .inl (Cb.of V7),rfl,_,rfl,?_⟩
   rw[decide_eq_true (show V.int ((V.str (n0 (.post p g l u)) :: (gB (.post p g l u)).map λi=>V.str (wT (.int i))).length:Nat)=V.int 5 from rfl)]
   have g6:H6 td=some (.tup [.str "post", .int p, .int g, .int l, .int u]):=g6
   have DF:=l5 (n:=a.n) (wy:=a.wy) h1 h2 h5 h7 h3 h4 h8
   refine aN ⟨_,rfl,a.y,a.dy,_,rfl,Pj.Y.ins,rfl,_,rfl,td,_,1,_,rfl,rfl,Ck.of g6,ao (j:=1) rfl,_,rfl,td,_,2,_,rfl,rfl,Ck.of g6,ao (j:=2) rfl,_,rfl,td,_,3,_,rfl,rfl,Ck.of g6,ao (j:=3) rfl,_,rfl,td,_,4,_,rfl,rfl,Ck.of g6,ao (j:=4) rfl,
    a.y,a.dy,a.tb,a.ro,a.la,a.le,a.li,a.dn,a.lx,a.Cr,a.lt,a.n,a.Cf,a.ps,a.wy,s,_,_,_,_,rfl,Pj.Y,Pj.T, .int _, .int _, .int _, .int _,by omega,DY,(λh=>by rw[DF]at h;cases h),(λh=>by rw[DF]at h;cases h),(λh=>by rw[DF]at h;cases h),(λh=>by rw[DF]at h;cases h),(λh=>by rw[DF]at h;cases h),λ_ H7 off Ig=>?_⟩
   refine q H7 _ rfl (λb o nb e=>off b o (λz=>nb ?_) (s6 _ _ e)) Ig
   simp only[mem_cons,not_mem_nil,or_false]at z ⊢
   rcases z with z | z
   ·exact .inr (.inl z)
   ·exact .inr (.inr (.inr z))
  | mv m =>
   refine⟨_,rfl,wa,_,0,_,rfl,rfl,Cb.of V7,ao (j:=0) rfl,rfl,_,rfl,?_⟩
   rw[Pg m]
   refine aH (aH ⟨_,rfl,a.y,a.dy,_,rfl,Pj.Y.ins,rfl,_,rfl,a,s,td,m,rfl,Pj,g6,hL,hS,λH7 s7 st off Ig=>?_⟩)
   exact q H7 _ ⟨s7,st,rfl⟩ (λb o nb e=>off b o nb (s6 _ _ e)) Ig
end K94
namespace L2
open PySem PySem.Spec PyProof.Rows
theorem vF(hx:∀ev s,X.xe ev s->False)(hb:Ey X body tb):PS X (.Try body (h₀ :: hs) [] [] pos) tb:=by
 intro pins s σ H D I h
 refine wpAny_Try_except (wpAny_mono (hb pins s σ H D I h) (λf s1 q=>?_) λev s1 z=>(hx _ _ z).elim)
 cases f with
 | next=>exact wpAny_execs_nil q
 | ret v=>exact q
 | brk=>exact q
 | cont=>exact q
end L2
namespace K94
open PySem L2
noncomputable def i6(rm:List Nat):List Str:=Str.ofString "rooms" :: rm.map aZ
noncomputable def yW(n:Nat)(ps:List (Int × Int))(wy:bX->Nat)(rm:List Nat)(ds:List Dd):List (List Str):=dz n ps wy ++ [i6 rm] ++ ds.map ud
structure CG(n:Nat)(ps:List (Int × Int))(rs:List Rw)(rm:List Nat)(ds:List Dd)(s:YS):Prop where
 EZ:1 <= n/\n <= 12
 C6:ps.length <= 40
 GJ:∀q ∈ ps,eE n q=true
 fit:zU n ps rs
 LZ:rm.length=ps.length
 Rz:∀r ∈ rm,1 <= r/\r <= 60
 Pk:∃a0:YA,a0.ps=ps/\a0.wy=nH rs/\a0.n=n/\Ee a0 (nV rm) ds s
 many:ds.length <= 100
theorem CG.pairs(h:CG n ps rs rm ds s):∀pr ∈ ps,∃a b:Nat,pr=((a:Int),(b:Int))/\a < 12/\b < 12:=λpr hpr=>i9 h.EZ.2 (h.GJ pr hpr)
theorem CG.KW(h:CG n ps rs rm ds s):∀d ∈ ds,LX d:=by
 obtain⟨a0,e1,e2,e3,t⟩:=h.Pk
 refine t.KW ?_ (by rw[e3];exact h.EZ.2)
 have hl:(nV rm).length=a0.ps.length:=by rw[cC,h.LZ,e1]
 exact(OL hl).GG (zero_le _) (by rw[e1];exact h.C6)
theorem CG.done(h:CG n ps rs rm ds s):s.done=ds.map ue/\s.rooms=nV rm:=by
 obtain⟨a0,e1,e2,e3,t⟩:=h.Pk
 exact t.done
theorem CG.Mb(h:CG n ps rs rm ds s):Zk s:=by
 obtain⟨e1,e2⟩:=h.done
 have hr:∀v ∈ V.str (Str.ofString "rooms") :: s.rooms,Wd v/\(wT v).length <= 62/\xx (wT v):=λv hv=>by
  rcases mem_cons.mp hv with rfl | hv
  ·exact LY (by decide) (by decide) (by decide)
  ·rw[e2]at hv
   obtain⟨r,hr,rfl⟩:=mZ hv
   exact xA (by have:=h.Rz r hr;omega)
 refine⟨⟨λv hv=>(hr v hv).1,λv hv=>(hr v hv).2.1,?_⟩,λd hd=>?_,?_⟩
 ·rw[length_cons,e2,cC,h.LZ];have:=h.C6;omega
 ·rw[e1]at hd
  obtain⟨x,hx,rfl⟩:=mem_map.mp hd
  obtain⟨h1,h2⟩:=pi (h.KW x hx)
  exact⟨λv hv=>(h1 v hv).1,λv hv=>(h1 v hv).2.1,by omega⟩
 ·rw[e1,length_map];exact h.many
theorem xE(rm:List Nat):(nV rm).map wT=rm.map aZ:=by unfold nV;rw[map_map];rfl
theorem lX(h:CG n ps rs rm ds s):dj n ps (aM rs) s=(yW n ps (aM rs) rm ds).map (Txt.join blank):=by
 obtain⟨e1,e2⟩:=h.done
 unfold dj yW
 rw[rJ (cX h.fit),map_append,map_append,e1,map_map,map_map]
 congr 1
 congr 1
 unfold cM i6
 rw[map_cons,e2,xE]
 rfl
theorem jA(h:CG n ps rs rm ds s):∀ws ∈ yW n ps (aM rs) rm ds,ws ≠ []/\(∀x ∈ ws,xx x)/\ws.length <= 100:=by
 intro ws hw
 rcases mem_append.mp hw with hw | hw
 ·rcases mem_append.mp hw with hw | hw
  ·obtain⟨h1,h2⟩:=nK h.pairs ws hw
   refine⟨h1,h2,?_⟩
   rcases mem_append.mp hw with hw | hw
   ·rcases mem_append.mp hw with hw | hw
    ·rw[mem_singleton.mp hw];show 2 <= 100;decide
    ·obtain⟨pr,_,e⟩:=mem_map.mp hw
     rw[←e];show 3 <= 100;decide
   ·obtain⟨r,hr,e⟩:=mem_map.mp hw
    rw[←e]
    unfold fH bZ
    rw[length_cons,length_append,length_map]
    have:=((kz (cX h.fit)).lanes r hr).2
    have:=h.C6
    show 3 + r.s.length + 1 <= 100
    omega
  ·rw[mem_singleton.mp hw]
   refine⟨cons_ne_nil _ _,λx hx=>?_,?_⟩
   ·rcases mem_cons.mp hx with rfl | hx
    ·exact⟨by decide,by decide⟩
    ·obtain⟨m,_,rfl⟩:=mem_map.mp hx
     exact cR m
   ·unfold i6
    rw[length_cons,length_map,h.LZ]
    have:=h.C6
    omega
 ·obtain⟨d,hd,rfl⟩:=mem_map.mp hw
  obtain⟨h1,h2⟩:=pi (h.KW d hd)
  refine⟨?_,λx hx=>?_,?_⟩
  ·unfold ud
   rw[qT]
   exact cons_ne_nil _ _
  ·obtain⟨v,hv,rfl⟩:=mem_map.mp hx
   exact(h1 v hv).2.2
  ·unfold ud
   rw[length_map]
   omega
theorem Pl(h:CG n ps rs rm ds s) :
  Txt.split (yT n ps (aM rs) s) newline=dj n ps (aM rs) s/\(dj n ps (aM rs) s).map (λr=>Txt.split r blank)=yW n ps (aM rs) rm ds:=by
 have hw:=jA h
 constructor
 ·refine jM (by decide) (λz=>by rw[lX h]at z;exact absurd (map_eq_nil_iff.mp z) (by unfold yW;simp)) λy hy=>?_
  rw[lX h]at hy
  obtain⟨ws,R0,rfl⟩:=mem_map.mp hy
  show 10 ∉ tl (Txt.join ⟨#[32]⟩ ws)
  rw[xG]
  refine so (by decide) λp hp=>?_
  obtain⟨x,hx,rfl⟩:=mem_map.mp hp
  exact((hw ws R0).2.1 x hx).1
 ·rw[lX h,map_map]
  refine(map_congr_left λws R0=>?_).trans (List.map_id _)
  exact jM (by decide) (hw ws R0).1 λy hy=>((hw ws R0).2.1 y hy).2
theorem Pm(h:CG n ps rs rm ds s):(yT n ps (aM rs) s).length <= 4000000/\(dj n ps (aM rs) s).length <= 6101/\∀r ∈ dj n ps (aM rs) s,r.length <= 2583:=by
 obtain⟨l1,l2⟩:=kj h.EZ.2 h.C6 h.pairs (jB (cX h.fit) h.C6)
 have hR:=h.Mb
 have hm:=hR.many
 have b1:((e9 n ps (aM rs)).map (·.length)).sum <= (e9 n ps (aM rs)).length * 500:=StrLaws.sumLen_le _ l2
 have b2:((s.done.map cM).map (·.length)).sum <= (s.done.map cM).length * 2583:=StrLaws.sumLen_le _ λy hy=>by obtain⟨d,hd,rfl⟩:=mem_map.mp hy;exact(hR.done d hd).row
 have b3:=hR.rooms.row
 have hlen:(dj n ps (aM rs) s).length=(e9 n ps (aM rs)).length + 1 + s.done.length:=by
  unfold dj
  rw[length_append,length_append,length_map]
  rfl
 have hsum:((dj n ps (aM rs) s).map (·.length)).sum=((e9 n ps (aM rs)).map (·.length)).sum + (cM (.str (Str.ofString "rooms") :: s.rooms)).length + ((s.done.map cM).map (·.length)).sum:=by
  unfold dj
  rw[map_append,map_append,sum_append,sum_append]
  simp only[map_cons,map_nil,sum_cons,List.sum_nil,Nat.add_zero]
 rw[length_map]at b2
 refine⟨?_,by rw[hlen];omega,λr hr=>?_⟩
 ·unfold yT
  rw[show Txt.join newline (dj n ps (aM rs) s)=Str.join newline (dj n ps (aM rs) s) from StrLaws.glued_eq_join _ _]
  have h3:=StrLaws.join_length_le newline (dj n ps (aM rs) s)
  have h5:(dj n ps (aM rs) s).length * newline.length=(dj n ps (aM rs) s).length:=mul_one _
  omega
 ·rcases mem_append.mp hr with hr | hr
  ·rcases mem_append.mp hr with hr | hr
   ·exact le_trans (l2 r hr) (by decide)
   ·rw[mem_singleton.mp hr];exact b3
  ·obtain⟨d,hd,rfl⟩:=mem_map.mp hr
   exact(hR.done d hd).row
theorem x5(h:zU n ps rs):nH (bY n ps (aM rs))=nH rs:=by
 funext p g c
 show wl (aM (bY n ps (aM rs))) (dD ((p:Int),(g:Int),c))=wl (aM rs) (dD ((p:Int),(g:Int),c))
 by_cases HY:p < n/\g < n/\c ∈ gP ps p
 ·exact sH (cX h) HY.1 HY.2.1 HY.2.2
 ·have out:∀V8:List Rw,zU n ps V8->wl (aM V8) (dD ((p:Int),(g:Int),c))=[]:=λV8 h'=>by
   refine eq_nil_iff_forall_not_mem.mpr λz hz=>HY ?_
   obtain⟨r,e,_⟩:=DH.mp hz
   obtain⟨x,y,h1,h2,_,e1,e2,e3⟩:=h'.key r (cE e)
   have ek:nj r=((p:Int),(g:Int),c):=eN (fY e)
   have a1:r.p=p:=congrArg (·.1) ek
   have a2:r.g=g:=congrArg (·.2.1) ek
   have a3:r.c=c:=congrArg (·.2.2) ek
   have hx:x=p:=by omega
   have hy:y=g:=by omega
   subst hx hy
   rw[a3]at e3
   exact⟨h1,h2,e3⟩
  rw[out _ (kz (cX h)),out _ h]
theorem heads :∀x ∈ dz n ps wy,decide (V.str (x.headD blank)=V.str (Str.ofString "rooms"))=false:=by
 intro x hx
 rcases mem_append.mp hx with hx | hx
 ·rcases mem_append.mp hx with hx | hx
  ·rw[mem_singleton.mp hx];exact dM (x:=Str.ofString "places") (by decide)
  ·obtain⟨pr,_,rfl⟩:=mem_map.mp hx
   exact dM (x:=C0) (by decide)
 ·obtain⟨r,_,rfl⟩:=mem_map.mp hx
  exact dM (x:=way) (by decide)
inductive ly(vs:List V)(H:Hp)(Q:VK)(E:XK):Prop
 | mk (D:Addr) (us:List V) (ws:List (List Str)) (at_:Nat) (x:List Str) (_:vs=[.ref D]) (_:H D=some (.lst us)) (_:CL H us ws) (_:0 < at_) (_:ws[at_]? = some x) (_:decide (V.str (x.headD blank)=V.str (Str.ofString "rooms"))=true) (_:(∀j y,ws[j]? = some y->j < at_->decide (V.str (y.headD blank)=V.str (Str.ofString "rooms"))=false)) (_:(∀y ∈ ws,y ≠ [])) (_:∀H',BX H H'->Q (.int at_) H')
abbrev NRa:List Str:=["rows", "number", "words"]
theorem KZ:au NRa ["rows"] (ai kg):=L2.C3
theorem qA(F:C2 K "rooms_at" "rooms_at" kg f fd)(T:Txt mg):BY P w K mg base ay 1 f fd ["rows"] ly:=by
 refine F.ok KZ (λvs H Q E h=>?_) (λcdv A outer s0 H vs Q E hr h=>?_)
 ·obtain⟨D,us,ws,at_,x,rfl,_⟩:=h
  rfl
 ·obtain⟨D,us,ws,at_,x,rfl,gD,hW,h0,hx,hxr,LL,Di,q⟩:=h
  refine⟨_,ae (b0 PassesOwn.never rfl (kA rfl T.enum (aa (pv 0) ac)) (iS rfl (bV (aw (i:=1) KZ.nd rfl (Or.inl rfl)) (bV (aw (i:=2) KZ.nd rfl (Or.inl rfl)) gq)))
    (af (aR (PW.pt (iQ (ax oE (pv 1) ak (aA _)) (gn (ax bz (az aK (pv 2) ak (λ_ _=>rfl)) b8 (aA _))))) (af (av (pv 1))) aF)))
   (af bA),?_⟩
  have hlen:us.length=ws.length:=Paired.length hW
  have V9:at_ < ws.length:=cx hx
  refine⟨_,rfl,D,rfl,⟨_,Cb.of gD⟩,kS (sq:=λH=>Cb K H D) (xs:=us) (λi σ H3=>∃(a b:Option V),BX H H3/\i <= at_/\σ=[some (.ref D),a,b]) ⟨none,none,BX.refl _,zero_le _,rfl⟩ (λi σ H3 _ Cc=>by obtain⟨_,_,s,_⟩:=Cc;exact Cb.of (s _ _ gD)) ?_ ?_⟩
  ·rintro i v qa σ H3 hv ⟨a,b,s3,hi,rfl⟩ hqa
   have Zq:i < ws.length:=by have:=cx hv;omega
   have LQ:=getElem?_eq_getElem Zq
   obtain⟨v',DN,u,rfl,gu⟩:=CL.get hW LQ
   rw[hv]at DN
   cases DN
   have s4:BX H3 (upd H3 qa (.tup [.int i, .ref u])):=(BX.refl H3).new hqa
   refine⟨qa,_,rfl,Ck.of ad,rfl,_,_,rfl,_,_,rfl,rfl,?_⟩
   generalize upd H3 qa (.tup [.int i, .ref u])=H4 at s4 ⊢
   have Ic:=s3.trans s4
   refine⟨_,rfl,_,_,rfl,rfl,_,rfl,?_⟩
   by_cases hi0:i=0
   ·subst hi0
    exact aH (aH ⟨_,_,Ic,by omega,rfl⟩)
   rw[decide_eq_true (show (0:Int) < (i:Int) by omega)]
   refine aN ⟨_,rfl,u,_,0,_,rfl,rfl,Cb.of (Ic _ _ gu),nu (Di _ (getElem_mem Zq)),rfl,_,rfl,?_⟩
   by_cases he:i=at_
   ·subst he
    rw[LQ]at hx
    cases hx
    rw[hxr]
    exact aN ⟨_,rfl,q H4 Ic⟩
   ·rw[LL i _ LQ (by omega)]
    exact aH ⟨_,_,Ic,by omega,rfl⟩
  ·rintro σ H3 ⟨a,b,s3,hi,rfl⟩
   omega
inductive jQ(P:Program)(w:World)(K:Frag)(c:Cs)(ts:Ts)(ys:Ys)(vs:List V)(H:Hp)(Q:VK)(E:XK):Prop
 | mk (D:Addr) (us:List V) (n:Nat) (ps:List (Int × Int)) (rs:List Rw) (rm:List Nat) (ds:List Dd) (s:YS) (ex:List Addr) (_:vs=[.ref D]) (_:H D=some (.lst us)) (_:CL H us (yW n ps (aM rs) rm ds)) (_:CG n ps rs rm ds s) (_:(∀b ∈ ex,∃xs,H b=some (.lst xs))) (_:∀(a:YA)(H':Hp),a.ps=ps->a.wy=nH rs->a.n=n->BX H H'->(∀z ∈ a.four,H z=none)->F1 K c ts.told (CI P w ts) (yx ys ex) H' a s->CN a s->Q (.ref a.y) H')
abbrev Zr:List Str:=["rows", "at", "yard", "words"]
theorem CL.take :∀{vs:List V}{ws:List (List Str)}(k:Nat),CL H vs ws->CL H (vs.take k) (ws.take k)
 | _,_,0,_ => .nil
 | _,_,_ + 1, .nil => .nil
 | _,_,k + 1, .cons h r => .cons h (CL.take k r)
theorem CL.drop :∀{vs:List V}{ws:List (List Str)}(k:Nat),CL H vs ws->CL H (vs.drop k) (ws.drop k)
 | _,_,0,h=>h
 | _,_,_ + 1, .nil => .nil
 | _,_,k + 1, .cons _ r=>CL.drop k r
theorem ze(xs:List V)(k:Nat):eK xs none (some (k:Int))=xs.take k:=by
 unfold eK
 rw[HT.Fj,HT.DE]
 show List.take (min k xs.length - 0) (List.drop 0 xs)=_
 rw[drop_zero,Nat.sub_zero]
 by_cases h:k <= xs.length
 ·rw[min_eq_left h]
 ·rw[min_eq_right (by omega),take_length,take_of_length_le (by omega)]
theorem uh(xs:List V)(k:Nat):eK xs (some (k:Int)) none=xs.drop k:=by
 unfold eK
 rw[HT.Fj,HT.DE]
 by_cases h:k <= xs.length
 ·rw[min_eq_left h]
  exact take_of_length_le (by rw[length_drop];omega)
 ·rw[min_eq_right (by omega),List.drop_length,drop_eq_nil_of_le (by omega),List.take_nil]
theorem nI(h:jh K c TC J ys vs H Q E)(m:∀v H',Q v H'->Q' v H'):jh K c TC J ys vs H Q' E':=by
 obtain⟨y,dy,tb,lx,Cr,lt,n,Cf,ps,wy,rv,Cv,h1,h2,h3,h4,h5,h6⟩:=h
 exact⟨y,dy,tb,lx,Cr,lt,n,Cf,ps,wy,rv,Cv,h1,h2,h3,h4,h5,λok ro la le li dn H' a b c' d e f=>m _ _ (h6 ok ro la le li dn H' a b c' d e f)⟩
def VA(P:Program)(w:World)(K:Frag)(c:Cs)(ts:Ts)(ys:Ys)(ex:List Addr)(H:Hp)(ps:List (Int × Int))(n:Nat)(wy:Wf)(rv:List V):VK:=λv H'=>∃a:YA,v = .ref a.y/\a.ps=ps/\a.wy=wy/\a.n=n/\BX H H'/\(∀z ∈ a.four,H z=none)/\F1 K c ts.told (CI P w ts) (yx ys ex) H' a (Y0 rv n)/\CN a (Y0 rv n)
noncomputable def Pn(s:Stmt):Scope:=match s with
 | .Assign _ (.Call _ [_, .ListComp _ _ sc _] _ _) _=>sc
 | _=>eC
theorem IU:au Zr ["rows"] (ai i4):=L2.C3
theorem VB:CP Zr (ai i4) (Pn ((aI i4).getD 1 (.Pass ⟨0,0,0,0⟩))) [] []:=L2.Dp
theorem VC:(["word"]:List Str).Nodup:=by decide +kernel
theorem tJ(F:C2 K "make_yard" "make_yard" i4 f fd)(W:Wy K ts.told fw dw (CI P w ts))(ma:mg "rooms_at" = some (.ref fa))(ka:keepIn K (.ref fa)=true)(ba:Binds K da ["rows"] [])(Ga:BY P w K mg base ay 1 fa da ["rows"] ly)
  (mm:mg "make_table" = some (.ref fm)) (km:keepIn K (.ref fm)=true) (bm:Binds K dm ["rows"] []) (Gm:BY P w K mg base ay 7 fm dm ["rows"] (m9 P w c ts)) (mn:mg "number_of" = some (.ref fn)) (kn:keepIn K (.ref fn)=true) (bn:Binds K dn ["word"] []) (Gn:BY P w K mg base ay 1 fn dn ["word"] fK)
  (my:mg "Yard" = some (.ref ys.Ca)) (My:Mk K ys.Ca fy) (Vz:Binds K dy ["self", "table", "rooms"] []) (Gy:∀ex,BY P w K mg base ay 4 fy dy ["self", "table", "rooms"] (jh K c ts.told (CI P w ts) (yx ys ex)))
  (me:mg "do_deed" = some (.ref fe)) (ke:keepIn K (.ref fe)=true) (be:Binds K de ["yard", "words"] []) (Ge:∀ex,BY P w K mg base ay 9 fe de ["yard", "words"] (pX P w K c ts (yx ys ex))):BY P w K mg base ay 10 f fd ["rows"] (jQ P w K c ts ys):=by
 refine F.ok IU (λvs H Q E h=>?_) (λcdv A outer s0 H vs Q E hr h=>?_)
 ·obtain⟨D,us,n,ps,rs,rm,ds,s,ex,rfl,_⟩:=h
  rfl
 ·obtain⟨D,us,n,ps,rs,rm,ds,s,ex,rfl,gD,hW,hP,hex,q⟩:=h
  have CC:Cj 1 _:=hr.mono (by decide)
  have HH:Cj 5 _:=hr.mono (by decide)
  have Ie:Cj 7 _:=hr.mono (by decide)
  refine⟨_,ae (aD (i:=1) IU.nd rfl (Or.inl rfl) (aq Ga CC rfl ma ka ba .nil ap (aa (pv 0) ac)))
   (ae (aD (i:=2) IU.nd rfl (Or.inl rfl) (gr (c8 My (Gy ex) HH rfl my Vz .nil ap (aa (aq Gm Ie rfl mm km bm .nil ap (aa (cb cU (pv 0) cW (c3 (pv 1))) ac)) (aa (aT (own:=["word"]) (capN:=[]) (cap:=[]) VB rfl (aW (cb cU (az aK (pv 0) (pv 1) (λ_ _=>rfl)) (c3 ak) cW))
     (λC s' H' fp=>⟨aw (i:=0) VC rfl (Or.inl rfl),bd,aq Gn CC rfl mn kn bn .nil ap (aa (pv 0) ac)⟩)) ac)))))
   (ae (b0 PassesOwn.never rfl (aW (cb cU (pv 0) (c3 (aJ cn (pv 1) ak)) cW)) (aw (i:=3) IU.nd rfl (Or.inl rfl))
    (af (aP (aq (Ge ex) hr rfl me ke be .nil ap (aa (pv 2) (aa (pv 3) ac))))))
   (af (av (pv 2))))),?_⟩
  have hT:=cX hP.fit
  have EV:=jB hT hP.C6
  obtain⟨l1,_⟩:=kj hP.EZ.2 hP.C6 hP.pairs EV
  rw[rJ hT,length_map]at l1
  have Pc:=hP.many
  have ey:yW n ps (aM rs) rm ds=dz n ps (aM rs) ++ ([i6 rm] ++ ds.map ud):=by unfold yW;rw[append_assoc]
  have Fv:0 < (dz n ps (aM rs)).length:=by unfold dz;simp
  have Zs:=heads (n:=n) (ps:=ps) (wy:=aM rs)
  have Di:=λy hy=>(jA hP y hy).1
  rw[ey]at hW Di
  generalize Po:dz n ps (aM rs)=tw at hW Di l1 Fv Zs
  have V9:(tw ++ ([i6 rm] ++ ds.map ud))[tw.length]? = some (i6 rm):=by rw[getElem?_append_right (le_refl _),Nat.sub_self];rfl
  refine⟨_,rfl,D,us,_,tw.length,i6 rm,rfl,gD,hW,Fv,V9,rfl,(λj y hj CS=>?_),Di,λH1 s1=>?_⟩
  ·rw[getElem?_append_left CS]at hj
   exact Zs y (mem_of_getElem? hj)
  have gD1:=s1 _ _ gD
  refine⟨VA P w K c ts ys ex H ps n (nH rs) (nV rm),?_,?_⟩
  ·refine⟨_,rfl,_,rfl,(tw.length:Int),rfl,D,us,rfl,Cb.of gD1,λp hp=>?_⟩
   rw[ze]
   have s2:=s1.new (o := .lst (us.take tw.length)) hp
   have g2:(upd H1 p (.lst (us.take tw.length))) p=some (.lst (us.take tw.length)):=ad
   have LS:CL H (us.take tw.length) tw:=by
    have:=CL.take tw.length hW
    rw[List.take_left]at this
    exact this
   generalize upd H1 p (.lst (us.take tw.length))=H2 at s2 g2 ⊢
   refine⟨p,_,n,ps,aM rs,rfl,g2,(by rw[Po];exact CL.same s2 LS),hP.EZ,hP.C6,hP.GJ,hT,(by rw[Po];exact l1),λx lx Cr lt Cf H3 s3 Zt=>?_⟩
   rw[x5 hP.fit]at Zt
   have VD:=s2.trans s3
   obtain⟨u,hu,ar,rfl,gar⟩:=CL.get hW V9
   refine⟨_,rfl,_,rfl,D,us,(tw.length:Int),_,rfl,rfl,Cb.of (VD _ _ gD),ao hu,1,rfl,ar,_,rfl,Cb.of (VD _ _ gar),λp2 Jp=>?_⟩
   have ec:eK ((i6 rm).map V.str) (some 1) none=(rm.map aZ).map V.str:=iG 1 [V.str (Str.ofString "rooms")] _ rfl
   rw[ec]
   have s4:=VD.new (o := .lst ((rm.map aZ).map V.str)) Jp
   have K2:=(BX.refl H3).new (o := .lst ((rm.map aZ).map V.str)) Jp
   have g4:(upd H3 p2 (.lst ((rm.map aZ).map V.str))) p2=some (.lst ((rm.map aZ).map V.str)):=ad
   refine⟨p2,rfl,⟨_,Cb.of g4⟩,?_⟩
   dsimp only
   generalize upd H3 p2 (.lst ((rm.map aZ).map V.str))=H4 at s4 K2 g4 ⊢
   have E6:=hP.LZ
   have hfw:=hP.C6
   refine aX rm.length (by rw[sizeLine_eq];omega) (λi acc H'=>BX H4 H'/\acc=nV (rm.take i)) ⟨BX.refl _,rfl⟩ (λi acc H' h=>by rw[h.2,cC];exact length_take_le _ _) (λi acc H' hi h=>?_) (λacc H' h=>?_)
   ·obtain⟨s5,rfl⟩:=h
    have hri:=getElem?_eq_getElem hi
    refine⟨⟨_,V.str (aZ rm[i]),Cb.of (s5 _ _ g4),by rw[getElem?_map,getElem?_map,hri];rfl⟩,λv H6 y=>?_⟩
    obtain⟨rfl,y⟩:=y
    have hv:=y _ (Cb.of (s5 _ _ g4))
    rw[getElem?_map,getElem?_map,hri]at hv
    cases hv
    refine⟨_,rfl,rm[i],rfl,lt_of_le_of_lt (hP.Rz _ (getElem_mem hi)).2 (by decide),λH7 s7=>⟨s5.trans s7,?_⟩⟩
    rw[take_succ,hri,qF]
    rfl
   obtain⟨s5,rfl⟩:=h
   rw[take_length]
   refine⟨⟨_,Cb.of (s5 _ _ g4),by rw[length_map,length_map];exact le_refl _⟩,λra Zu=>?_⟩
   have s6:=(s4.trans s5).new (o := .lst (nV rm)) Zu
   have LU:=(K2.trans s5).new (o := .lst (nV rm)) Zu
   have g6:(upd H' ra (.lst (nV rm))) ra=some (.lst (nV rm)):=ad
   generalize upd H' ra (.lst (nV rm))=H6 at s6 LU g6 ⊢
   have ez:nV rm=(iz rm).map V.int:=yG rm
   intro y dy ny KN KO
   refine nI (re (P:=P) (w:=w) (E:=λ_ _ _=>False) W (Zt.keep W (BX.Cq LU)) (λp g k=>le_trans (lY (λr hr k hk=>lt_of_lt_of_le (hU ((hP.fit.lanes r hr).1 k hk)) hP.C6) p g k).2 (by decide)) hP.GJ (by rw[←ez];exact Cb.of g6) (by unfold iz;rw[length_map];exact hP.LZ) (λr hr=>by obtain⟨k,hk,rfl⟩:=Dg.mp hr;have:=hP.Rz k hk;omega) hP.C6 (λb hb=>let ⟨xs,hz⟩:=hex b hb; ⟨xs,s6 _ _ hz⟩) y dy ny KN KO) ?_
   rintro v H7 ⟨rfl,a,e1,e2,e3,e4,e5,s7,FX,Fw,hJ⟩
   rw[←ez]at Fw hJ
   exact⟨rfl,a,e1,e3,e5,e4,s6.trans s7,λz hz=>s6.free (FX z hz),Fw,hJ⟩
  rintro _ H2 ⟨a,rfl,e1,e2,e3,s2,FX,Fw,hJ⟩
  have gD2:=s2 _ _ gD
  refine⟨_,rfl,_,rfl,_,_,rfl,rfl,(tw.length:Int) + 1,rfl,D,us,rfl,Cb.of gD2,λsl L7=>?_⟩
  rw[show((tw.length:Int) + 1)=((tw.length + 1:Nat):Int) from rfl,uh]
  have VE:CL H (us.drop (tw.length + 1)) (ds.map ud):=by
   have ed:(tw ++ ([i6 rm] ++ ds.map ud)).drop (tw.length + 1)=ds.map ud:=by
    rw[List.drop_append,drop_eq_nil_of_le (le_succ _),Nat.add_sub_cancel_left]
    rfl
   have:=CL.drop (tw.length + 1) hW
   rw[ed]at this
   exact this
  generalize us.drop (tw.length + 1)=La at VE ⊢
  have s3:=s2.new (o := .lst La) L7
  have JS:=(BX.refl H2).new (o := .lst La) L7
  have g3:(upd H2 sl (.lst La)) sl=some (.lst La):=ad
  have VF:sl ∉ a.four:=cv Fw.Y L7
  generalize upd H2 sl (.lst La)=H3 at s3 JS g3 ⊢
  refine⟨sl,rfl,⟨_,Cb.of g3⟩,?_⟩
  have FF:=Fw.same W JS
  obtain⟨a0,f1,f2,f3,Mc⟩:=hP.Pk
  have Mc:Ee a (nV rm) ds s:=Mc.to (by rw[e1,f1]) (by rw[e2,f2]) (by rw[e3,f3])
  have Zv:CN a (Y0 (nV rm) a.n):=by rw[e3];exact hJ
  have JR:La.length=ds.length:=by rw[Paired.length VE,length_map]
  refine dB (K:=K) (a:=sl) (xs:=La) (λi σ H'=>∃(t:YS)(a3:Option V),Cn a.four H3 H'/\CQ K (yx ys ex) H' a t/\Ee a (nV rm) (ds.take i) t/\σ=[some (.ref D),some (.int (tw.length:Nat)),some (.ref a.y),a3])
   ⟨_,none,BX.CF (BX.refl _),FF.Y,by rw[List.take_zero,←e3];exact .nil,rfl⟩ (λi σ H' _ Cc=>by obtain⟨_,_,o,_⟩:=Cc;exact Cb.of (o _ _ VF g3)) ?_ ?_
  ·rintro i v σ H' hv ⟨t,a3,o,hY,ht,rfl⟩
   have hi:i < ds.length:=by have:=cx hv;omega
   have FW:=getElem?_eq_getElem hi
   obtain⟨v',DN,u,rfl,gu⟩:=CL.get VE (show(ds.map ud)[i]? = some (ud ds[i]) by rw[getElem?_map,FW];rfl)
   rw[hv]at DN
   cases DN
   have hu4:u ∉ a.four:=λz=>by rw[FX u z]at gu;cases gu
   obtain⟨t',h1,hL⟩:=Mc.at FW
   have:=h1.det ht
   subst this
   have Pp:=ht.GG Zv
   have DY:t'.done.length <= 100:=by rw[ht.done.1,length_map,length_take];omega
   have kp:=Cn.Cq (λz hz=>FF.Y.DA z hz) o
   have DV:ds.take (i + 1)=ds.take i ++ [ds[i]]:=by rw[take_succ,FW];rfl
   refine⟨_,rfl,_,rfl,a,t',u,ds[i],rfl,⟨hY,FF.T.keep W kp,FF.O,Pp.ok⟩,o _ _ hu4 (s3 _ _ gu),hL,hP.KW _ (getElem_mem hi),Pp.UR (by omega),by omega,λH'' s' st off IH=>?_⟩
   exact⟨s',_,o.trans off,IH,by rw[DV];exact .cons ht hL st,rfl⟩
  ·rintro σ H' ⟨t,a3,o,hY,ht,rfl⟩
   rw[JR,take_length]at ht
   have:=ht.det Mc
   subst this
   have kp:=Cn.Cq (λz hz=>FF.Y.DA z hz) o
   have Pp:=ht.GG Zv
   exact⟨_,rfl,q a H' e1 e2 e3 (dN s3 o FX) FX ⟨hY,FF.T.keep W kp,FF.O,Pp.ok⟩ Pp⟩
inductive gS(P:Program)(w:World)(K:Frag)(c:Cs)(ts:Ts)(ys:Ys)(vs:List V)(H:Hp)(Q:VK)(E:XK):Prop
 | mk (n:Nat) (ps:List (Int × Int)) (rs:List Rw) (rm:List Nat) (ds:List Dd) (s:YS) (ex:List Addr) (_:vs=[.str (yT n ps (aM rs) s)]) (_:CG n ps rs rm ds s) (_:(∀b ∈ ex,∃xs,H b=some (.lst xs))) (_:∀(a:YA)(H':Hp),a.ps=ps->a.wy=nH rs->a.n=n->BX H H'->(∀z ∈ a.four,H z=none)->F1 K c ts.told (CI P w ts) (yx ys ex) H' a s->CN a s->Q (.ref a.y) H')
theorem HL:au ["text", "rows", "yard"] ["text"] (ai iP):=L2.C3
theorem oG(F:C2 K "read_yard" "read_yard" iP f fd)(W:Wy K ts.told fw dw (CI P w ts))(mr:mg "rows_of" = some (.ref fr))(kr:keepIn K (.ref fr)=true)(br:Binds K dr ["text"] [])(Gr:BY P w K mg base ay 2 fr dr ["text"] nR)
  (mm:mg "make_yard" = some (.ref fm)) (km:keepIn K (.ref fm)=true) (bm:Binds K dm ["rows"] []) (Gm:BY P w K mg base ay 10 fm dm ["rows"] (jQ P w K c ts ys)) (mt:mg "yard_text" = some (.ref ft)) (kt:keepIn K (.ref ft)=true) (bt:Binds K dt ["yard"] []) (Gt:∀ex,BY P w K mg base ay 6 ft dt ["yard"] (io K c ts.told (CI P w ts) (yx ys ex))) :
  BY P w K mg base ay 11 f fd ["text"] (gS P w K c ts ys):=by
 refine F.ok HL (λvs H Q E h=>?_) (λcdv A outer s0 H vs Q E hr h=>?_)
 ·obtain⟨n,ps,rs,rm,ds,s,ex,rfl,_⟩:=h
  rfl
 ·obtain⟨n,ps,rs,rm,ds,s,ex,rfl,hP,hex,q⟩:=h
  have CY:Cj 2 _:=hr.mono (by decide)
  have JN:Cj 6 _:=hr.mono (by decide)
  refine⟨_,ae (aD (i:=1) HL.nd rfl (Or.inl rfl) (aq Gr CY rfl mr kr br .nil ap (aa (pv 0) ac)))
   (ae (vF (λ_ _ z=>z) (af (aD (i:=2) HL.nd rfl (Or.inl rfl) (aq Gm hr rfl mm km bm .nil ap (aa (pv 1) ac)))))
   (ae (aR (ax jk (aq (Gt ex) JN rfl mt kt bt .nil ap (aa (pv 2) ac)) (pv 0) (aA _)) (af bA) aF)
   (af (av (pv 2))))),?_⟩
  obtain⟨c1,c2⟩:=Pl hP
  obtain⟨l0,l1,l2⟩:=Pm hP
  refine⟨_,rfl,_,rfl,l0,?_⟩
  rw[c1,c2]
  refine⟨by omega,λr F7=>⟨le_trans (l2 r F7) (by decide),?_⟩,λD us H1 s1 gD hW=>?_⟩
  ·have hm:Txt.split r blank ∈ yW n ps (aM rs) rm ds:=by rw[←c2];exact mem_map.mpr ⟨r,F7,rfl⟩
   exact le_trans (jA hP _ hm).2.2 (by decide)
  refine⟨_,rfl,D,us,n,ps,rs,rm,ds,s,ex,rfl,gD,hW,hP,(λb hb=>let ⟨xs,hz⟩:=hex b hb; ⟨xs,s1 _ _ hz⟩),λa H2 e1 e2 e3 s2 FX Fw hJ=>?_⟩
  refine⟨_,rfl,a,s,aM rs,rfl,Fw,(by rw[e2];exact nB rs),(jB (cX hP.fit) hP.C6),(by rw[e1,e3];exact hP.GJ),hP.Mb,λH3 s3=>⟨_,rfl,rfl,_,rfl,?_⟩⟩
  rw[e1,e3,decide_eq_true rfl]
  exact aH ⟨_,rfl,q a H3 e1 e2 e3 (s1.trans (s2.trans s3)) (λz hz=>s1.free (FX z hz)) (Fw.same W s3) hJ⟩
inductive pY(K:Frag)(vs:List V)(H:Hp)(Q:VK)(E:XK):Prop
 | mk (a:Addr) (ns:List Int) (k:Nat) (_:vs=[.ref a, .int k]) (_:Cb K H a (ns.map V.int)) (_:∀d,Q (.int d) H)
inductive nU(vs:List V)(H:Hp)(Q:VK)(E:XK):Prop
 | mk (c:Int) (k:Nat) (_:vs=[.int c, .int k]) (_:k <= 1000000) (_:∀d:Int,0 <= d->Q (.int d) H)
theorem At:au ["_law_script", "_law_k"] ["_law_script", "_law_k"] (ai vy):=L2.C3
theorem yD(F:C2 K "_law_cell_at" "_law_cell_at" vy f fd)(T:Txt mg):BY P w K mg base ay 1 f fd ["_law_script", "_law_k"] (pY K):=by
 refine F.ok At (λ_ _ _ _ h=>?_) (λ_ _ _ s H _ Q E hr h=>?_)
 ·obtain⟨a,ns,k,rfl,_⟩:=h
  rfl
 ·obtain⟨a,ns,k,rfl,hS,q⟩:=h
  refine⟨_,ae (aR (ax rO (pv 1) (aE aB rfl T.len PySem.boot_len (aa (pv 0) ac)) (aA _))
    (af (av (az aK (pv 0) (pv 1) (λ_ _=>rfl)))) aF) (af (av ak)),?_⟩
  refine⟨_,rfl,_,rfl,a,_,rfl, .inl hS,_,_,rfl,rfl,_,rfl,?_⟩
  refine Tp (λh=>?_) λ_=>q _
  have h':(k:Int) < ((ns.map V.int).length:Nat):=of_decide_eq_true h
  rw[length_map]at h'
  have hk:k < ns.length:=by omega
  exact⟨_,rfl,_,rfl,a,_,k,V.int ns[k],rfl,rfl,hS,ao (by simp[hk]),q _⟩
theorem JV:au ["_law_cell", "_law_k", "_law_number"] ["_law_cell", "_law_k"] (ai Az):=L2.C3
theorem Bf(F:C2 K "_law_mixed" "_law_mixed" Az f fd):BY P w K mg base ay 1 f fd ["_law_cell", "_law_k"] nU:=by
 refine F.ok JV (λ_ _ _ _ h=>?_) (λ_ _ _ s H _ Q E hr h=>?_)
 ·obtain⟨c,k,rfl,_⟩:=h
  rfl
 ·obtain⟨c,k,rfl,hk,q⟩:=h
  refine⟨_,ae (aR (ax bz (aJ bL (pv 0) ak) ak (aA _)) (af (av (aJ bL (aJ qu (pv 0) (aJ cn ak (aJ mV ak (aJ bL (pv 1) ak)))) (aJ qv ak ak)))) aF)
   (ae (aD (i:=2) JV.nd rfl (Or.inl rfl) (aJ bL (aJ mV (aJ cn (aJ cn (aJ bL (aJ eA (pv 0) ak) ak) (aJ mV ak (pv 1))) ak) ak) ak))
   (af (av (aJ bL (aJ mV (pv 2) (aJ cn (aJ eA (pv 2) ak) ak)) ak)))),?_⟩
  have pos:(0:Int) < 2147483647:=by decide
  refine⟨_,rfl,_,_,rfl,rfl,(by show (0:Int) < 2;decide),rfl,_,rfl,?_⟩
  dsimp only
  by_cases Zw:c % 2=1
  ·rw[decide_eq_true (show V.int (c % 2)=V.int 1 by rw[Zw])]
   have h0:=emod_nonneg (k:Int) (show (120:Int) ≠ 0 by decide)
   refine aN ⟨_,rfl,_,rfl,_,_,rfl,rfl,(by show (0:Int) < 120;decide),_,_,rfl,rfl, .inl ⟨by decide,by decide⟩,_,_,rfl,rfl,_,_,rfl,rfl,(by show (0:Int) <= 1 + 20 * ((k:Int) % 120);omega),_,_,rfl,rfl,⟨by decide,by decide,by decide⟩,_,_,rfl,rfl,(by show (0:Int) < 2 ^ (20:Int).toNat;decide +kernel),?_⟩
   exact q _ (emod_nonneg _ (by decide +kernel))
  rw[decide_eq_false (show ¬V.int (c % 2)=V.int 1 from λz=>Zw (V.int.inj z))]
  refine aH ⟨_,rfl,_,_,rfl,rfl,⟨by decide,by decide⟩,_,_,rfl,rfl,pos,_,rfl,_,_,rfl,rfl, .inl ⟨by decide,by decide⟩,_,_,rfl,rfl,_,_,rfl,rfl,_,_,rfl,rfl, .inr ⟨by decide,by decide⟩,_,_,rfl,rfl,pos,?_⟩
  dsimp only
  have h1:=emod_nonneg ((c / 2 % 2147483647 + 7919 * (k:Int) + 1) * 48271) (show (2147483647:Int) ≠ 0 by decide)
  have h2:=emod_lt_of_pos ((c / 2 % 2147483647 + 7919 * (k:Int) + 1) * 48271) pos
  generalize (c / 2 % 2147483647 + 7919 * (k:Int) + 1) * 48271 % 2147483647=m at h1 h2
  refine⟨_,rfl,_,rfl,_,_,rfl,rfl,⟨by decide,by decide⟩,_,_,rfl,rfl,_,_,rfl,rfl, .inl ⟨by omega,by omega⟩,_,_,rfl,rfl,pos,?_⟩
  exact q _ (emod_nonneg _ (by decide))
abbrev Es:=List (Nat × Nat)
noncomputable def lk(fs:Es)(p:Nat):Option Nat:=(fs.find? λx=>decide (x.1=p)).map (·.2)
theorem iB(h:lk fs p=some d):(p,d) ∈ fs:=by
 unfold lk at h
 cases e:fs.find? (λx=>decide (x.1=p)) with
 | none=>rw[e]at h;cases h
 | some x =>
  rw[e]at h
  have h1:=List.find?_some e
  have h2:=List.mem_of_find?_eq_some e
  have h3:x.2=d:=Option.some.inj h
  have h4:x.1=p:=of_decide_eq_true h1
  rw[←h3,←h4];exact h2
theorem EW :lk fs p=none↔p ∉ fs.map (·.1):=by
 unfold lk
 rw[Option.map_eq_none_iff,List.find?_eq_none]
 constructor
 ·intro h m
  obtain⟨x,hx,e⟩:=mem_map.mp m
  exact h x hx (decide_eq_true e)
 ·intro h x hx e
  exact h (mem_map.mpr ⟨x,hx,of_decide_eq_true e⟩)
theorem iX(hn:(fs.map (·.1)).Nodup)(h:(p,d) ∈ fs):lk fs p=some d:=by
 cases e:lk fs p with
 | none=>exact absurd (mem_map.mpr ⟨_,h,rfl⟩) (EW.mp e)
 | some d' =>
  have h':=iB e
  have:∀{l:Es},(l.map (·.1)).Nodup->(p,d) ∈ l->(p,d') ∈ l->d' = d:=by
   intro l
   induction l with
   | nil=>intro _ h;cases h
   | cons x l ih =>
    intro hn h1 h2
    rw[map_cons,nodup_cons]at hn
    rcases mem_cons.mp h1 with h1 | h1
    ·rcases mem_cons.mp h2 with h2 | h2
     ·rw[←h1]at h2;exact(Prod.mk.inj h2).2
     ·exact absurd (mem_map.mpr ⟨_,h2,by rw[←h1]⟩) hn.1
    ·rcases mem_cons.mp h2 with h2 | h2
     ·exact absurd (mem_map.mpr ⟨_,h1,by rw[←h2]⟩) hn.1
     ·exact ih hn.2 h1 h2
  rw[this hn h h']
structure FY(n:Nat)(es:Es)(g:Nat)(fs:Es)(i:Nat):Prop where
 nd:(fs.map (·.1)).Nodup
 lt:∀x ∈ fs,x.1 < n
 g0:(g,0) ∈ fs
 up:∀p d,(p,d) ∈ fs->(p=g/\d=0)∨∃q d',d=d' + 1/\(q,d') ∈ fs/\(p,q) ∈ es
 sorted:fs.Pairwise λx y=>x.2 <= y.2
 near:∀y,fs[i]? = some y->∀x ∈ fs,x.2 <= y.2 + 1
 cl:∀k q d:Nat,k < i->fs[k]? = some (q,d)->∀s,(s,q) ∈ es->∃d',(s,d') ∈ fs/\d' <= d + 1
 ix:∀j p d:Nat,fs[j]? = some (p,d)->d <= j
 le:i <= fs.length
theorem FY.C6(b:FY n es g fs i):fs.length <= n:=by
 have:=fT n (fs.map (·.1)) b.nd λx hx=>by
  obtain⟨y,hy,rfl⟩:=mem_map.mp hx
  exact b.lt y hy
 rwa [length_map]at this
theorem ul(hg:g < n):FY n es g [(g,0)] 0 where
 nd:=by simp
 lt:=λx hx=>by rw[mem_singleton.mp hx];exact hg
 g0:=mem_singleton.mpr rfl
 up:=λp d h=>by
  have:=mem_singleton.mp h
  exact .inl (Prod.mk.inj this)
 sorted:=by simp
 near:=λy hy x hx=>by rw[mem_singleton.mp hx];exact zero_le _
 cl:=λk _ _ h=>absurd h (not_lt_zero _)
 ix:=λj p d h=>by
  cases j with
  | zero=>have:=Option.some.inj h;have:=(Prod.mk.inj this).2;omega
  | succ j=>simp at h
 le:=zero_le _
theorem FY.push(b:FY n es g fs i)(hy:fs[i]? = some (p,d))(hs:s < n)(hl:(s,p) ∈ es)(hn:lk fs s=none):FY n es g (fs ++ [(s,d + 1)]) i where
 nd:=by
  rw[map_append,List.nodup_append]
  refine⟨b.nd,by simp,λa ha c hc=>?_⟩
  have hc:c=s:=by simpa using hc
  intro z
  rw[z,hc]at ha
  exact EW.mp hn ha
 lt:=λx hx=>by
  rcases mem_append.mp hx with h | h
  ·exact b.lt x h
  ·rw[mem_singleton.mp h];exact hs
 g0:=mem_append_left _ b.g0
 up:=λq e h=>by
  rcases mem_append.mp h with h | h
  ·rcases b.up q e h with h | ⟨q',d',h1,h2,h3⟩
   ·exact .inl h
   ·exact .inr ⟨q',d',h1,mem_append_left _ h2,h3⟩
  ·obtain⟨h1,h2⟩:=Prod.mk.inj (mem_singleton.mp h)
   subst h1 h2
   exact .inr ⟨p,d,rfl,mem_append_left _ (mem_of_getElem? hy),hl⟩
 sorted:=by
  rw[List.pairwise_append]
  refine⟨b.sorted,by simp,λx hx y hy'=>?_⟩
  rw[mem_singleton.mp hy']
  exact b.near _ hy x hx
 near:=λy hy' x hx=>by
  have hi:i < fs.length:=(gQ0 hy)
  rw[getElem?_append_left hi,hy]at hy'
  rw[←Option.some.inj hy']
  rcases mem_append.mp hx with h | h
  ·exact b.near _ hy x h
  ·rw[mem_singleton.mp h];exact le_refl _
 cl:=λk q e hk hq t ht=>by
  have hi:i < fs.length:=(gQ0 hy)
  rw[getElem?_append_left (by omega)]at hq
  obtain⟨d',h1,h2⟩:=b.cl k q e hk hq t ht
  exact⟨d',mem_append_left _ h1,h2⟩
 ix:=λj q e h=>by
  have hi:i < fs.length:=(gQ0 hy)
  have hd:=b.ix i p d hy
  rcases lt_or_ge j fs.length with hj | hj
  ·rw[getElem?_append_left hj]at h;exact b.ix j q e h
  ·rw[getElem?_append_right hj]at h
   have hj0:j - fs.length=0:=by
    have:=(gQ0 h)
    simp at this;omega
   rw[hj0]at h
   have:=(Prod.mk.inj (Option.some.inj h)).2
   omega
 le:=le_trans b.le (by rw[length_append];omega)
theorem FY.next(b:FY n es g fs i)(hy:fs[i]? = some (p,d))(hc:∀s,(s,p) ∈ es->s ∈ fs.map (·.1)):FY n es g fs (i + 1) where
 nd:=b.nd
 lt:=b.lt
 g0:=b.g0
 up:=b.up
 sorted:=b.sorted
 near:=λy hy' x hx=>by
  have hi:i < fs.length:=(gQ0 hy)
  have Pf:i + 1 < fs.length:=(gQ0 hy')
  have h1:=b.near _ hy x hx
  have h2:=pairwise_iff_getElem.mp b.sorted i (i + 1) hi Pf (lt_succ_self _)
  have e1:fs[i]=(p,d):=(List.getElem?_eq_some_iff.mp hy).2
  have e2:fs[i + 1]=y:=(List.getElem?_eq_some_iff.mp hy').2
  rw[e1,e2]at h2
  have h2:d <= y.2:=h2
  have h1:x.2 <= d + 1:=h1
  omega
 cl:=λk q e hk hq s hs=>by
  rcases lt_or_ge k i with h | h
  ·exact b.cl k q e h hq s hs
  ·have:k=i:=by omega
   subst this
   rw[hy]at hq
   obtain⟨h1,h2⟩:=Prod.mk.inj (Option.some.inj hq)
   subst h1 h2
   obtain⟨x,hx,e⟩:=mem_map.mp (hc s hs)
   exact⟨x.2,by rw[←e];exact hx,b.near _ hy x hx⟩
 ix:=b.ix
 le:=(gQ0 hy)
structure BV(n:Nat)(es:Es)(g:Nat)(fs:Es):Prop where
 nd:(fs.map (·.1)).Nodup
 lt:∀x ∈ fs,x.1 < n
 g0:lk fs g=some 0
 up:∀p d,lk fs p=some d->(p=g/\d=0)∨∃q d',d=d' + 1/\lk fs q=some d'/\(p,q) ∈ es
 cl:∀s q d,(s,q) ∈ es->lk fs q=some d->∃d',lk fs s=some d'/\d' <= d + 1
 C6:∀p d,lk fs p=some d->d < n
theorem FY.far(b:FY n es g fs fs.length):BV n es g fs where
 nd:=b.nd
 lt:=b.lt
 g0:=iX b.nd b.g0
 up:=λp d h=>by
  rcases b.up p d (iB h) with h | ⟨q,d',h1,h2,h3⟩
  ·exact .inl h
  ·exact .inr ⟨q,d',h1,iX b.nd h2,h3⟩
 cl:=λs q d hs hq=>by
  obtain⟨k,hk⟩:=List.getElem?_of_mem (iB hq)
  obtain⟨d',h1,h2⟩:=b.cl k q d (gQ0 hk) hk s hs
  exact⟨d',iX b.nd h1,h2⟩
 C6:=λp d h=>by
  obtain⟨k,hk⟩:=List.getElem?_of_mem (iB h)
  have h1:=b.ix k p d hk
  have h2:=(gQ0 hk)
  have h3:=b.C6
  omega
noncomputable def fk(x:Nat × Nat):L2.Key × V:=(Sum.inl (x.1:Int),V.int (x.2:Int))
noncomputable def zp(x:Nat × Nat):Int × Int:=((x.1:Int),(x.2:Int))
theorem ij(p:Nat):∀fs:Es,ik (fs.map fk) (Sum.inl (p:Int))=(lk fs p).map λd:Nat=>V.int (d:Int)
 | []=>rfl
 | x :: fs=>by
  have ih:=ij p fs
  unfold ik lk at ih ⊢
  rw[map_cons,find?_cons,find?_cons]
  by_cases h:x.1=p
  ·have h1:(fk x).1=(Sum.inl (p:Int):L2.Key):=by rw[←h];rfl
   rw[decide_eq_true h,decide_eq_true h1];rfl
  ·have h1:¬(fk x).1=(Sum.inl (p:Int):L2.Key):=λz=>h (by have:=Sum.inl.inj z;omega)
   rw[decide_eq_false h,decide_eq_false h1];exact ih
theorem AK{s d:Nat}(h:lk fs s=none):dG (fs.map fk) (Sum.inl (s:Int)) (V.int (d:Int))=(fs ++ [(s,d)]).map fk:=by
 rw[vB _ (by rw[ij,h];rfl),map_append];rfl
noncomputable def iD(es:Es)(p:Nat):List Nat:=(List.range es.length).filter λk=>decide ((es.getD k (0,0)).2=p)
noncomputable def fF(es:Es)(p:Nat):List Nat:=(List.range es.length).filter λk=>decide ((es.getD k (0,0)).1=p)
theorem lV(es:Es)(k:Nat):(es.map zp).getD k (0,0)=zp (es.getD k (0,0)):=by
 rw[getD_eq_getElem?_getD,getD_eq_getElem?_getD,getElem?_map]
 cases es[k]?<;>rfl
theorem Pq(es:Es)(p:Nat):fI Prod.snd (es.map zp) (p:Int) (es.map zp).length=nV (iD es p):=by
 unfold fI iD nV
 rw[length_map]
 congr 1
 refine filter_congr λk _=>?_
 rw[lV]
 show decide (((es.getD k (0,0)).2:Int)=(p:Int))=decide ((es.getD k (0,0)).2=p)
 by_cases h:(es.getD k (0,0)).2=p
 ·rw[decide_eq_true h,decide_eq_true (by omega)]
 ·rw[decide_eq_false h,decide_eq_false (by omega)]
theorem AS(es:Es)(p:Nat):fI Prod.fst (es.map zp) (p:Int) (es.map zp).length=nV (fF es p):=by
 unfold fI fF nV
 rw[length_map]
 congr 1
 refine filter_congr λk _=>?_
 rw[lV]
 show decide (((es.getD k (0,0)).1:Int)=(p:Int))=decide ((es.getD k (0,0)).1=p)
 by_cases h:(es.getD k (0,0)).1=p
 ·rw[decide_eq_true h,decide_eq_true (by omega)]
 ·rw[decide_eq_false h,decide_eq_false (by omega)]
theorem yf(es:Es)(p:Nat):(fF es p).length <= es.length:=by
 unfold fF
 exact le_trans (length_filter_le _ _) (by rw[length_range];exact le_refl _)
theorem Pr(h:k ∈ iD es p):∃s,es[k]? = some (s,p)/\es.getD k (0,0)=(s,p):=by
 obtain⟨h1,h2⟩:=mem_filter.mp h
 have hk:=mem_range.mp h1
 have e:=getElem?_eq_getElem hk
 have e2:es.getD k (0,0)=es[k]:=by rw[getD_eq_getElem?_getD,e];rfl
 have h2:(es.getD k (0,0)).2=p:=of_decide_eq_true h2
 refine⟨es[k].1,?_,?_⟩
 ·rw[e,←h2,e2]
 ·rw[e2,←h2,e2]
def R1(n:Nat)(es:Es):Prop:=∀e ∈ es,e.1 < n/\e.2 < n
inductive zD(c:Cs)(vs:List V)(H:Hp)(Q:VK)(E:XK):Prop
 | mk (lx Cr lt:Addr) (Cf:List V) (n:Nat) (es:Es) (g:Nat) (_:vs=[.ref lx, .int g]) (_:cr H c lx Cr lt (n:Int) Cf (es.map zp)) (_:R1 n es) (_:es.length <= 100) (_:n <= 100) (_:g < n) (_:∀(fa:Addr)(fs:Es)(H':Hp),BX H H'->H fa=none->BV n es g fs->H' fa=some (.dK (fs.map fk))->Q (.ref fa) H')
structure Lm(K:Frag)(c:Cs)(fs fe fo fi:Addr)(ds de do' di:FuncData):Prop where
 ms:bC K c.land "start_of" fs
 bs:Binds K ds ["self", "lane"] []
 me:bC K c.land "end_of" fe
 be:Binds K de ["self", "lane"] []
 mo:bC K c.land "out_of" fo
 bo:Binds K do' ["self", "place"] []
 mi:bC K c.land "into" fi
 bi:Binds K di ["self", "place"] []
abbrev NH:List Str:=["land", "goal", "far", "line", "looked_at", "place", "lane", "start"]
theorem JW:au NH ["land", "goal"] (ai AE):=L2.C3
theorem Bp(F:C2 K "how_far" "how_far" AE f fd)(T:Txt mg)(L:lc K c)(M:Lm K c f1 f2 f3 f4 d1 d2 d3 d4)
  (Gs:BY P w K mg base ay 1 f1 d1 ["self", "lane"] (pZ c Prod.fst)) (Gi:BY P w K mg base ay 1 f4 d4 ["self", "place"] (nX c Prod.snd)):BY P w K mg base ay 2 f fd ["land", "goal"] (zD c):=by
 refine F.ok JW (λ_ _ _ _ h=>?_) (λ_ _ _ s H _ Q E hr h=>?_)
 ·obtain⟨lx,Cr,lt,Cf,n,es,g,rfl,_⟩:=h
  rfl
 ·obtain⟨lx,Cr,lt,Cf,n,es,g,rfl,hL,Er,JO,hn,hg,q⟩:=h
  have hu:=lJ hr
  refine⟨_,ae (aD (i:=2) JW.nd rfl (Or.inl rfl) (ye (vG (pv 1) ak yc) rfl rfl (by intro z;cases z) (by decide)))
   (ae (aD (i:=3) JW.nd rfl (Or.inl rfl) (aU (aa (pv 1) ac)))
   (ae (aD (i:=4) JW.nd rfl (Or.inl rfl) ak)
   (ae (vE PassesOwn.never (ax rO (pv 4) (aE aB rfl T.len PySem.boot_len (aa (pv 3) ac)) (aA _))
    (ae (aD (i:=5) JW.nd rfl (Or.inl rfl) (az aK (pv 3) (pv 4) (λ_ _=>rfl)))
    (ae (AL (i:=4) JW.nd rfl (Or.inl rfl) ak B6)
    (af (b0 PassesOwn.never rfl (aW (aC (pv 0) L.cl M.mi Gi hr M.bi .nil ap (aa (pv 5) ac))) (aw (i:=6) JW.nd rfl (Or.inl rfl))
     (ae (aD (i:=7) JW.nd rfl (Or.inl rfl) (aC (pv 0) L.cl M.ms Gs hr M.bs .nil ap (aa (pv 6) ac)))
     (af (aR (vC (tf hu (pv 7) (pv 2)))
      (ae (yb hu (pv 2) (pv 7) (aJ cn (rN hu (pv 2) (pv 5) (λ_ _=>rfl)) ak) rfl)
      (af (aP (bW plainAttrs_list PySem.F.slot_list_append PySem.F.type_list_append bQ (pv 3) (aa (pv 7) ac))))) aF))))))))
   (af (av (pv 2)))))),?_⟩
  have land:∀{H':Hp},BX H H'->cr H' c lx Cr lt (n:Int) Cf (es.map zp):=λs'=>⟨s' _ _ hL.1,s' _ _ hL.2.1,Cw.same s' hL.2.2⟩
  refine λfa FZ=>⟨_,rfl,ad,[fk (g,0)],rfl,(by show 1 <= 15;decide),?_⟩
  have s0:BX H (upd (upd H fa (.dK [])) fa (.dK (fU [] [fk (g,0)]))):=λb o e=>by rw[ah (aj e FZ),ah (aj e FZ)];exact e
  have VG:(upd (upd H fa (.dK [])) fa (.dK (fU [] [fk (g,0)]))) fa=some (.dK ([(g,0)].map fk)):=ad
  generalize upd (upd H fa (.dK [])) fa (.dK (fU [] [fk (g,0)]))=H0 at s0 VG ⊢
  refine⟨_,rfl,by show 1 <= sizeLine;decide,λln C9=>?_⟩
  have s1:=s0.new (o := .lst [.int g]) C9
  have VH:H ln=none:=s0.free C9
  have Rm:(upd H0 ln (.lst [.int g])) ln=some (.lst (nV ([(g,0)].map (·.1)))):=ad
  have Zx:(upd H0 ln (.lst [.int g])) fa=some (.dK ([(g,0)].map fk)):=by rw[ah (aj VG C9)];exact VG
  generalize upd H0 ln (.lst [.int g])=H1 at s1 Rm Zx ⊢
  refine⟨λm σ H'=>∃(fs:Es)(i:Nat)(a5 a6 a7:Option V),m=n - i/\FY n es g fs i/\BX H H'/\H' fa=some (.dK (fs.map fk))/\H' ln=some (.lst (nV (fs.map (·.1))))/\σ=[some (.ref lx),some (.int g),some (.ref fa),some (.ref ln),some (.int (i:Nat)),a5,a6,a7],
   ⟨n - 0,[(g,0)],0,none,none,none,rfl,ul hg,s1,Zx,Rm,rfl⟩,?_⟩
  rintro m σ H2 ⟨fs,i,a5,a6,a7,rfl,hB,s2,gf,gl,rfl⟩
  have EK:=hB.C6
  refine⟨_,rfl,_,rfl,ln,_,rfl, .inl (Cb.of gl),_,_,rfl,rfl,_,rfl,?_⟩
  by_cases hi:i < fs.length
  rotate_left
  ·have e:i=fs.length:=by have:=hB.le;omega
   subst e
   rw[decide_eq_false (by rw[cC,length_map];omega)]
   exact aH ⟨_,rfl,q fa fs H2 s2 FZ hB.far gf⟩
  rw[decide_eq_true (by rw[cC,length_map];omega)]
  have hy:=getElem?_eq_getElem hi
  generalize fs[i]=pd at hy
  obtain⟨p,d⟩:=pd
  have hp:p < n:=hB.lt _ (mem_of_getElem? hy)
  have Df:(nV (fs.map (·.1)))[i]? = some (.int (p:Int)):=na (by rw[getElem?_map,hy];rfl)
  refine aN ⟨λσ' H'=>∃(CH:Es)(a5 a6 a7:Option V),FY n es g CH (i + 1)/\BX H H'/\H' fa=some (.dK (CH.map fk))/\H' ln=some (.lst (nV (CH.map (·.1))))/\σ' = [some (.ref lx),some (.int g),some (.ref fa),some (.ref ln),some (.int ((i:Int) + 1)),a5,a6,a7],
   λσ' H' Cc=>by obtain⟨CH,a5,a6,a7,h1,h2,h3,h4,h5⟩:=Cc;exact⟨n - (i + 1),by omega,CH,i + 1,a5,a6,a7,rfl,h1,h2,h3,h4,h5⟩,?_⟩
  refine⟨_,rfl,_,rfl,ln,_,_,_,rfl,rfl,Cb.of gl,ao Df,?_⟩
  refine⟨_,rfl,_,_,rfl,rfl,?_⟩
  refine⟨_,rfl,lx,Cr,_,rfl,(land s2).1,rfl,_,rfl,lx,Cr,lt,(n:Int),Cf,es.map zp,(p:Int),rfl,land s2,by rw[length_map];omega,λH3 Ia s3 VI=>?_⟩
  rw[Pq]
  have u3:=s3.new (o := .lst (nV (iD es p))) VI
  have gI:(upd H3 Ia (.lst (nV (iD es p)))) Ia=some (.lst (nV (iD es p))):=ad
  have nIl:Ia ≠ ln:=Ne.symm (aj (s3 _ _ gl) VI)
  have nIf:Ia ≠ fa:=Ne.symm (aj (s3 _ _ gf) VI)
  have Zy:ln ≠ fa:=b9 gl gf (by intro z;cases z)
  generalize upd H3 Ia (.lst (nV (iD es p)))=H4 at u3 gI ⊢
  refine⟨Ia,rfl,⟨_,Cb.of gI⟩,?_⟩
  refine dB (K:=K) (a:=Ia) (xs:=nV (iD es p)) (λm σ H5=>∃(CH:Es)(a6 a7:Option V),FY n es g CH i/\CH[i]? = some (p,d)/\(∀k ∈ (iD es p).take m,(es.getD k (0,0)).1 ∈ CH.map (·.1))/\BX H H5/\H5 Ia=some (.lst (nV (iD es p)))/\H5 fa=some (.dK (CH.map fk))/\H5 ln=some (.lst (nV (CH.map (·.1)))) /\
    σ=[some (.ref lx),some (.int g),some (.ref fa),some (.ref ln),some (.int ((i:Int) + 1)),some (.int p),a6,a7])
   ⟨fs,_,_,hB,hy,λk hk=>by simp at hk,s2.trans u3,gI,u3 _ _ gf,u3 _ _ gl,rfl⟩ (λm σ H5 _ Cc=>by obtain⟨_,_,_,_,_,_,_,g5,_⟩:=Cc;exact Cb.of g5) ?_ ?_
  ·rintro m v σ H5 hv ⟨CH,a6,a7,Md,hy',Dj,s5,VJ,Mf,R3,rfl⟩
   have hm:m < (iD es p).length:=by have:=(gQ0 hv);rw[cC]at this;exact this
   have hk0:=getElem?_eq_getElem hm
   have DN:=na hk0
   rw[DN]at hv
   have hv:=Option.some.inj hv
   subst hv
   generalize hke:(iD es p)[m]=k at hk0
   obtain⟨st,hk1,Rp⟩:=Pr (mem_of_getElem? hk0)
   have FE:=mem_of_getElem? hk1
   have GR:=(Er _ FE).1
   have step:∀{VL:Es},(∀x ∈ CH.map (·.1),x ∈ VL.map (·.1))->st ∈ VL.map (·.1)->∀k ∈ (iD es p).take (m + 1),(es.getD k (0,0)).1 ∈ VL.map (·.1):=λNp HY k' Hd=>by
    rw[take_succ,hk0]at Hd
    rcases mem_append.mp Hd with h | h
    ·exact Np _ (Dj k' h)
    ·have:k' = k:=by simpa using h
     rw[this,Rp];exact HY
   refine⟨_,rfl,lx,Cr,_,rfl,(land s5).1,rfl,_,rfl,lx,Cr,lt,(n:Int),Cf,es.map zp,k,zp (st,p),rfl,land s5,by rw[getElem?_map,hk1];rfl,?_⟩
   refine⟨_,rfl,_,rfl,fa,_,rfl,DW.k (k:=Sum.inl (st:Int)) Mf,_,rfl,?_⟩
   rw[ij]
   have Zz:=Md.C6
   cases FD:lk CH st with
   | some d'=>exact aH ⟨CH,_,_,Md,hy',step (λx hx=>hx) (mem_map.mpr ⟨_,iB FD,rfl⟩),s5,VJ,Mf,R3,rfl⟩
   | none =>
    refine aN ?_
    refine⟨_,rfl,_,rfl,fa, .int (d:Int),rfl,?_,_,_,rfl,rfl,_,rfl,_,rfl,fa,_,rfl,Hv.k (k:=Sum.inl (st:Int)) Mf (by rw[sizeLine_eq,length_map];omega),?_⟩
    ·have:=DW.k (k:=Sum.inl (p:Int)) Mf
     rw[ij,iX Md.nd (mem_of_getElem? hy')]at this
     exact this
    dsimp only
    have ep:dG (CH.map fk) (Sum.inl (st:Int)) (V.int ((d:Int) + 1))=(CH ++ [(st,d + 1)]).map fk:=AK (d:=d + 1) FD
    have Z0:(upd H5 fa (.dK (dG (CH.map fk) (Sum.inl (st:Int)) (V.int ((d:Int) + 1))))) Ia=some (.lst (nV (iD es p))):=by rw[ah nIf];exact VJ
    have VM:(upd H5 fa (.dK (dG (CH.map fk) (Sum.inl (st:Int)) (V.int ((d:Int) + 1))))) ln=some (.lst (nV (CH.map (·.1)))):=by rw[ah Zy];exact R3
    have Z1:(upd H5 fa (.dK (dG (CH.map fk) (Sum.inl (st:Int)) (V.int ((d:Int) + 1))))) fa=some (.dK ((CH ++ [(st,d + 1)]).map fk)):=by rw[ad,ep]
    have s6:BX H (upd H5 fa (.dK (dG (CH.map fk) (Sum.inl (st:Int)) (V.int ((d:Int) + 1))))):=λb o e=>by rw[ah (aj e FZ)];exact s5 _ _ e
    generalize upd H5 fa (.dK (dG (CH.map fk) (Sum.inl (st:Int)) (V.int ((d:Int) + 1))))=H6 at Z0 VM Z1 s6 ⊢
    refine⟨_,rfl, .inl ⟨rfl,_,Cb.of VM⟩,_,rfl,ln,_,_,rfl,rfl,VM,by rw[sizeLine_eq,cC,length_map];omega,?_⟩
    have Pf:i < CH.length:=(gQ0 hy')
    refine⟨CH ++ [(st,d + 1)],_,_,Md.push hy' GR FE FD,by rw[getElem?_append_left Pf];exact hy',step (λx hx=>by rw[map_append];exact mem_append_left _ hx) (by rw[map_append];exact mem_append_right _ (by simp)),λb o e=>by rw[ah (aj e VH)];exact s6 _ _ e,by rw[ah nIl];exact Z0,by rw[ah (Ne.symm Zy)];exact Z1,?_,rfl⟩
    rw[ad,map_append,qF];rfl
  ·rintro σ H5 ⟨CH,a6,a7,Md,hy',Dj,s5,VJ,Mf,R3,rfl⟩
   rw[cC,take_length]at Dj
   refine⟨CH,_,_,_,Md.next hy' (λst GR=>?_),s5,Mf,R3,rfl⟩
   obtain⟨k,hk⟩:=List.getElem?_of_mem GR
   have hk1:es.getD k (0,0)=(st,p):=by rw[getD_eq_getElem?_getD,hk];rfl
   have:=Dj k (mem_filter.mpr ⟨mem_range.mpr (gQ0 hk),by rw[hk1];exact decide_eq_true rfl⟩)
   rw[hk1]at this
   exact this
noncomputable def jm(fs:Es)(d:Nat)(e:Nat):Bool:=match lk fs e with
 | some d'=>decide (d' + 1=d)
 | none=>false
noncomputable def dS(es fs:Es)(p d:Nat):List Nat:=(fF es p).filter λk=>jm fs d (es.getD k (0,0)).2
theorem vL(es:Es)(p:Nat):(fF es p).Pairwise (· < ·):=List.Pairwise.filter _ pairwise_lt_range
theorem tM(es fs:Es)(p d:Nat):(dS es fs p d).Pairwise (· < ·):=List.Pairwise.filter _ (vL es p)
theorem rT(h:k ∈ dS es fs p d):k < es.length:=mem_range.mp (mem_filter.mp (mem_filter.mp h).1).1
theorem oQ(h:ks.Pairwise (· < ·)):gY (Yd.C5 ks 0)=nV ks:=by
 rw[yM,kH (ks:=ks) (ms:=iz ks) ?_ (λk=>Iff.rfl),wM];rfl
 unfold iz
 exact List.Pairwise.map _ (λa b ID=>by show (a:Int) < (b:Int);omega) h
theorem AT(h:k ∈ fF es p):∃e,es[k]? = some (p,e)/\es.getD k (0,0)=(p,e):=by
 obtain⟨h1,h2⟩:=mem_filter.mp h
 have hk:=mem_range.mp h1
 have e:=getElem?_eq_getElem hk
 have e2:es.getD k (0,0)=es[k]:=by rw[getD_eq_getElem?_getD,e];rfl
 have h2:(es.getD k (0,0)).1=p:=of_decide_eq_true h2
 refine⟨es[k].2,?_,?_⟩
 ·rw[e,←h2,e2]
 ·rw[e2,←h2,e2]
noncomputable def vN:V->Nat
 | .int z=>z.toNat
 | _=>0
theorem jl(es fs:Es)(d:Nat):∀l:List Nat,((nV l).filter λv=>jm fs d (es.getD (vN v) (0,0)).2).map (λv=>v)=nV (l.filter λk=>jm fs d (es.getD k (0,0)).2)
 | []=>rfl
 | x :: l=>by
  have ih:=jl es fs d l
  show((V.int (x:Int) :: nV l).filter _).map _=_
  rw[filter_cons,filter_cons]
  have e:vN (V.int (x:Int))=x:=toNat_natCast x
  rw[e]
  cases jm fs d (es.getD x (0,0)).2 with
  | true=>rw[if_pos rfl,if_pos rfl,map_cons,ih];rfl
  | false=>rw[if_neg (by decide),if_neg (by decide),ih]
inductive Pt(c:Cs)(vs:List V)(H:Hp)(Q:VK)(E:XK):Prop
 | mk (lx Cr lt fa:Addr) (Cf:List V) (n:Nat) (es fs:Es) (g p d:Nat) (_:vs=[.ref lx, .ref fa, .int p]) (_:cr H c lx Cr lt (n:Int) Cf (es.map zp)) (_:es.length <= 100) (_:Rd H fa (.dK (fs.map fk))) (_:BV n es g fs) (_:lk fs p=some d) (_:∀(D:Addr)(H':Hp),BX H H'->H D=none->H' D=some (.lst (nV (dS es fs p d)))->Q (.ref D) H')
theorem vA(h:Rd H fa (.dK (fs.map fk)))(p:Nat):DW H fa (.int (p:Int)) ((lk fs p).map λd:Nat=>V.int (d:Int)) := .inl ⟨_,Sum.inl (p:Int),h,rfl,(ij p fs).symm⟩
theorem mO(s:BX H H')(h:Rd H a u):Rd H' a u:=by
 rcases h with h | ⟨o,h⟩
 ·exact .inl (s _ _ h)
 ·exact .inr ⟨o,s _ _ h⟩
noncomputable def Pu(s:Stmt):Scope:=match aI s with
 | .Return (some (.ListComp _ _ sc _)) _ :: _=>sc
 | _=>zQ0
theorem VN:au ["land", "far", "place"] ["land", "far", "place"] (ai N4):=L2.C3
theorem VO:CP ["land", "far", "place"] (ai N4) (Pu N4) ["land", "far", "place"] [0,1,2]:=L2.Dp
theorem VP:(["lane", "land", "far", "place"]:List Str).Nodup:=by decide +kernel
theorem Pw(F:C2 K "nearer_lanes" "nearer_lanes" N4 f fd)(T:Txt mg)(L:lc K c)(M:Lm K c f1 f2 f3 f4 d1 d2 d3 d4)
  (Ge:BY P w K mg base ay 1 f2 d2 ["self", "lane"] (pZ c Prod.snd)) (Go:BY P w K mg base ay 1 f3 d3 ["self", "place"] (nX c Prod.fst)):BY P w K mg base ay 2 f fd ["land", "far", "place"] (Pt c):=by
 refine F.ok VN (λ_ _ _ _ h=>?_) (λ_ _ _ s H _ Q E hr h=>?_)
 ·obtain⟨lx,Cr,lt,fa,Cf,n,es,fs,g,p,d,rfl,_⟩:=h
  rfl
 ·obtain⟨lx,Cr,lt,fa,Cf,n,es,fs,g,p,d,rfl,hL,JO,FZ,hF,FD,q⟩:=h
  have hu:=lJ hr
  refine⟨_,af (av (aT (own:=["lane"]) (capN:=["land", "far", "place"]) (cap:=[0,1,2]) VO rfl (aW (aC (pv 0) L.cl M.mo Go hr M.bo .nil ap (aa (pv 2) ac)))
   (λC s' H' fp=>⟨aw (i:=0) VP rfl (Or.inl rfl),cz (ax bz (vJ hu (pv 2) (aC (pv 1) L.cl M.me Ge hr M.be .nil ap (aa (pv 0) ac)) ⟨rfl,rfl,rfl,rfl⟩) (aJ fz (rN hu (pv 2) (pv 3) (λ_ _=>rfl)) ak) (aA _)),pv 0⟩))),?_⟩
  refine⟨_,rfl,lx,Cr,_,rfl,hL.1,rfl,_,rfl,lx,Cr,lt,(n:Int),Cf,es.map zp,(p:Int),rfl,hL,by rw[length_map];omega,λH1 O s1 hO=>?_⟩
  rw[AS]
  have s2:=s1.new (o := .lst (nV (fF es p))) hO
  have gO:(upd H1 O (.lst (nV (fF es p)))) O=some (.lst (nV (fF es p))):=ad
  generalize upd H1 O (.lst (nV (fF es p)))=H2 at s2 gO ⊢
  have Ko:=yf es p
  refine⟨O,rfl,⟨_,Cb.of gO⟩,ge (λv=>jm fs d (es.getD (vN v) (0,0)).2) (λv=>v) (by rw[sizeLine_eq,cC];omega) (Cb.of gO) ?_ ?_⟩
  ·intro v acc N hv hN
   obtain⟨k,hk,rfl⟩:=mZ hv
   obtain⟨e,he1,Jn⟩:=AT hk
   have ek:vN (V.int (k:Int))=k:=toNat_natCast k
   rw[ek,Jn]at hN
   have hN:N (if jm fs d e=true then acc ++ [V.int (k:Int)] else acc) H2:=hN
   have gd:=vA (mO s2 FZ) p
   rw[FD]at gd
   refine⟨_,rfl,fa,rfl, .inl ⟨_,mO s2 FZ⟩,_,rfl,lx,Cr,_,rfl,s2 _ _ hL.1,rfl,_,rfl,lx,Cr,lt,(n:Int),Cf,es.map zp,k,zp (p,e),rfl,⟨s2 _ _ hL.1,s2 _ _ hL.2.1,Cw.same s2 hL.2.2⟩,by rw[getElem?_map,he1];rfl,_,vA (mO s2 FZ) e,?_⟩
   refine⟨_,rfl,_,rfl,fa,_,rfl,gd,_,_,rfl,rfl,?_⟩
   unfold jm at hN
   cases hle:lk fs e with
   | none =>
    rw[hle]at hN
    refine⟨rfl,_,rfl,?_⟩
    exact aH hN
   | some d' =>
    rw[hle]at hN
    refine⟨rfl,_,rfl,?_⟩
    show(if decide (V.int (d':Int)=V.int ((d:Int) - 1))=true then _ else _)
    by_cases hd:d' + 1=d
    ·have hN:N (if decide (d' + 1=d)=true then acc ++ [V.int (k:Int)] else acc) H2:=hN
     rw[decide_eq_true hd,if_pos rfl]at hN
     rw[decide_eq_true (by rw[show (d:Int) - 1=(d':Int) by omega])]
     exact aN ⟨_,rfl,hN⟩
    ·have hN:N (if decide (d' + 1=d)=true then acc ++ [V.int (k:Int)] else acc) H2:=hN
     rw[decide_eq_false hd,if_neg (by decide)]at hN
     rw[decide_eq_false (λz=>hd (by injection z with z;omega))]
     exact aH hN
  ·intro D hD
   rw[jl]
   exact q D _ (s2.new hD) (s2.free hD) ad
structure ia where
 tab:Addr
 near:Addr
noncomputable def kk(p g:Nat):bX:=[some (p:Int),some (g:Int)]
theorem FG :kk p g=kk p' g'↔p=p'/\g=g':=by
 unfold kk
 constructor
 ·intro h
  have h1:=List.cons.inj h
  have h2:=List.cons.inj h1.2
  have e1:=Option.some.inj h1.1
  have e2:=Option.some.inj h2.1
  omega
 ·rintro⟨rfl,rfl⟩;rfl
noncomputable def ub(es fs:Es)(p:Nat):Option V:=(lk fs p).map λd=>V.int (Yd.C5 (dS es fs p d) 0:Nat)
def nE(n:Nat)(es:Es)(kvs:List eD)(G:Nat):Prop:=(∀g,g < G->∃fs,BV n es g fs/\∀p,cu kvs (kk p g)=ub es fs p)/\∀g,G <= g->∀p,cu kvs (kk p g)=none
def xr(n:Nat)(es:Es)(kvs:List eD)(G:Nat)(fs:Es)(j:Nat):Prop:=(∀g,g < G->∃fs,BV n es g fs/\∀p,cu kvs (kk p g)=ub es fs p)/\(∀p,cu kvs (kk p G)=if p ∈ (fs.take j).map (·.1) then ub es fs p else none)/\∀g,G < g->∀p,cu kvs (kk p g)=none
theorem ua(h:nE n es kvs G):xr n es kvs G fs 0 :=
 ⟨h.1,λp=>by rw[h.2 G (le_refl _) p,if_neg (by simp)],λg hg p=>h.2 g (by omega) p⟩
theorem zb(f:BV n es G fs)(h:xr n es kvs G fs fs.length):nE n es kvs (G + 1):=by
 refine⟨λg hg=>?_,λg hg p=>h.2.2 g (by omega) p⟩
 rcases lt_or_ge g G with h1 | h1
 ·exact h.1 g h1
 ·have e:g=G:=by omega
  subst e
  refine⟨fs,f,λp=>?_⟩
  rw[h.2.1 p,take_length]
  by_cases hp:p ∈ fs.map (·.1)
  ·rw[if_pos hp]
  ·rw[if_neg hp];unfold ub;rw[EW.mpr hp];rfl
theorem wW(hn:(fs.map (·.1)).Nodup)(hj:fs[j]? = some (p,d))(h:xr n es kvs G fs j) :
  xr n es (fQ kvs (kk p G) b (.int (Yd.C5 (dS es fs p d) 0:Nat))) G fs (j + 1):=by
 have FD:=iX hn (mem_of_getElem? hj)
 refine⟨λg hg=>?_,λp'=>?_,λg hg p'=>?_⟩
 ·obtain⟨CH,f',h'⟩:=h.1 g hg
  refine⟨CH,f',λp'=>?_⟩
  rw[il,if_neg (λz=>by have:=(FG.mp z).2;omega),h' p']
 ·rw[il]
  by_cases e:p' = p
  ·subst e
   rw[if_pos rfl,if_pos (by rw[take_succ,hj,map_append];exact mem_append_right _ (by simp))]
   unfold ub;rw[FD];rfl
  ·rw[if_neg (λz=>e (FG.mp z).1),h.2.1 p',take_succ,hj,map_append]
   by_cases hm:p' ∈ (fs.take j).map (·.1)
   ·rw[if_pos hm,if_pos (mem_append_left _ hm)]
   ·rw[if_neg hm,if_neg]
    intro z
    rcases mem_append.mp z with z | z
    ·exact hm z
    ·exact e (by simpa using z)
 ·rw[il,if_neg (λz=>by have:=(FG.mp z).2;omega),h.2.2 g hg p']
def zm(P:Program)(w:World)(H:Hp)(ts:ia)(x dx:Addr)(lx:Addr)(de:Addr)(kvs:List eD):Prop:=H x=some (.ins ts.near dx [("land", .ref lx),("entries", .ref de)])/\CO P w H de kvs
inductive uR(P:Program)(w:World)(c:Cs)(ts:ia)(vs:List V)(H:Hp)(Q:VK)(E:XK):Prop
 | mk (x dx lx Cr lt:Addr) (Cf:List V) (n:Nat) (es:Es) (_:vs=[.ref x, .ref lx]) (_:H x=some (.ins ts.near dx [])) (_:cr H c lx Cr lt (n:Int) Cf (es.map zp)) (_:R1 n es) (_:es.length <= 100) (_:n <= 100) (_:∀H' de kvs,Off x H H'->zm P w H' ts x dx lx de kvs->nE n es kvs n->Q .Cp H')
structure VQ(K:Frag)(mg:Str->Option Value)(ts:ia)(f1:Addr)(d1:FuncData):Prop where
 cl:EC K ts.near
 n1:Co K ts.near "land"
 n2:Co K ts.near "entries"
 mt:mg "Table" = some (.ref ts.tab)
 cm:xt K ts.tab "__init__" f1
 bt:Binds K d1 ["self", "land"] []
abbrev NNr:List Str:=["self", "land", "goal", "far", "place"]
theorem IV:au NNr ["self", "land"] (ai vm):=L2.C3
theorem yw(F:C2 K "__init__" "Nearer.__init__" vm f fd)(T:Txt mg)(L:lc K c)(B:VQ K mg ts ft dt)(G1:BY P w K mg base ay 1 ft dt ["self", "land"] (uL K))
  (mh:mg "how_far" = some (.ref fh)) (kh:keepIn K (.ref fh)=true) (bh:Binds K dh ["land", "goal"] []) (Gh:BY P w K mg base ay 2 fh dh ["land", "goal"] (zD c))
  (mn:mg "nearer_lanes" = some (.ref fn)) (kn:keepIn K (.ref fn)=true) (bn:Binds K dn ["land", "far", "place"] []) (Gn:BY P w K mg base ay 2 fn dn ["land", "far", "place"] (Pt c))
  (ms:mg "set_of" = some (.ref fs)) (ks:keepIn K (.ref fs)=true) (bs:Binds K ds ["numbers"] []) (Gs:BY P w K mg base ay 1 fs ds ["numbers"] (uM K)) :
  BY P w K mg base ay 3 f fd ["self", "land"] (uR P w c ts):=by
 refine F.ok IV (λ_ _ _ _ h=>?_) (λ_ _ _ s H _ Q E hr h=>?_)
 ·obtain⟨x,dx,lx,Cr,lt,Cf,n,es,rfl,_⟩:=h
  rfl
 ·obtain⟨x,dx,lx,Cr,lt,Cf,n,es,rfl,hx,hL,Er,JO,hn,q⟩:=h
  have CC:Cj 1 _:=hr.mono (by decide)
  have hu:=lJ hr
  refine⟨_,ae (aP (oz (dH (v := .ref ts.tab) rfl B.mt rfl) B.cm G1 CC B.bt .nil ap (aa (pv 0) (aa (pv 1) ac))))
   (ae (b7 (pv 0) (show PE _ _ (uF P w) from rM) rfl)
   (af (b0 PassesOwn.never rfl (aO rfl T.range (aa (al (pv 1) rfl) ac)) (aw (i:=2) IV.nd rfl (Or.inl rfl))
    (ae (aD (i:=3) IV.nd rfl (Or.inl rfl) (aq Gh hr rfl mh kh bh .nil ap (aa (pv 1) (aa (pv 2) ac))))
    (af (b0 PassesOwn.never rfl (yd (pv 3)) (aw (i:=4) IV.nd rfl (Or.inl rfl))
     (af (rL hu (al (pv 0) rfl) (bF (aa (pv 4) (aa (pv 2) ac))) (aq Gs CC rfl ms ks bs .nil ap (aa (aq Gn hr rfl mn kn bn .nil ap (aa (pv 1) (aa (pv 3) (aa (pv 4) ac)))) ac)) rfl)))))))),?_⟩
  refine⟨rfl,_,rfl,_,rfl,x,ts.near,dx,_,rfl,hx,B.cl,B.n1,?_⟩
  refine λde Iy=>⟨_,rfl,x,ts.near,dx,[("land", .ref lx)],rfl,by rw[ah (aj ad Iy)];exact ad,B.cl,B.n2,by show 1 < 1000;decide,?_⟩
  have Ju:x ≠ de:=aj ad Iy
  have Hz:H de=none:=by rw[ah (Ne.symm Ju)]at Iy;exact Iy
  generalize Hr:upd (upd (upd H x (.ins ts.near dx [("land", .ref lx)])) de (lb P w de [])) x (.ins ts.near dx (aS "entries" (.ref de) [("land", .ref lx)]))=H2
  have o2:Off x H H2:=λb o hb e=>by rw[←Hr,ah hb,ah (aj e Hz),ah hb];exact e
  have x2:H2 x=some (.ins ts.near dx [("land", .ref lx),("entries", .ref de)]):=by rw[←Hr,ad];rfl
  have d2:CO P w H2 de []:=⟨by rw[←Hr,ah (Ne.symm Ju),ad],λy hy=>by cases hy⟩
  have El:=Off.land o2 hx hL
  refine⟨_,rfl,lx,c.land,Cr,_,_,rfl,El.1,L.cl,L.np,rfl,(n:Int),rfl,by omega,by omega,?_⟩
  rw[toNat_natCast]
  refine bu (n:=n) (λG σ H3=>∃(a2 a3 a4:Option V)(kvs:List eD),Off x H H3/\zm P w H3 ts x dx lx de kvs/\kvs.length <= G * 100/\nE n es kvs G/\σ=[some (.ref x),some (.ref lx),a2,a3,a4])
   ⟨none,none,none,[],o2,⟨x2,d2⟩,zero_le _,⟨λg hg=>absurd hg (not_lt_zero _),λg _ p=>rfl⟩,rfl⟩ ?_ ?_
  ·rintro G σ H3 hG ⟨a2,a3,a4,kvs,o3,n3,l3,e3,rfl⟩
   rw[zero_add]
   have ES:=Off.land o3 hx hL
   refine⟨_,rfl,_,rfl,lx,Cr,lt,Cf,n,es,G,rfl,ES,Er,JO,hn,hG,λfa CH H4 s4 FZ hF gfa=>?_⟩
   have EK:CH.length <= n:=by
    have:=fT n (CH.map (·.1)) hF.nd λy hy=>by
     obtain⟨z,hz,rfl⟩:=mem_map.mp hy
     exact hF.lt z hz
    rwa [length_map]at this
   refine⟨_,rfl,fa,_,rfl,gfa,λob=>?_⟩
   have Z2:(upd H4 fa (.DT ob (.dK (CH.map fk)))) fa=some (.DT ob (.dK (CH.map fk))):=ad
   have s5:BX H3 (upd H4 fa (.DT ob (.dK (CH.map fk)))):=λb o e=>by rw[ah (aj e FZ)];exact s4 _ _ e
   generalize upd H4 fa (.DT ob (.dK (CH.map fk)))=H5 at Z2 s5 ⊢
   have nfa:H fa=none∨fa=x:=by
    by_cases h:fa=x
    ·exact .inr h
    ·exact .inl (by cases e:H fa with | none=>rfl | some o=>rw[o3 _ _ h e]at FZ;cases FZ)
   refine wS (a:=fa) (o:=ob) (kvs:=CH.map fk) (λj σ H6=>∃(a4:Option V)(kvs:List eD),Off x H H6/\zm P w H6 ts x dx lx de kvs/\kvs.length <= G * 100 + j/\xr n es kvs G CH j/\H6 fa=some (.DT ob (.dK (CH.map fk)))/\σ=[some (.ref x),some (.ref lx),some (.int G),some (.ref fa),a4])
    ⟨_,kvs,o3.same s5,⟨s5 _ _ n3.1,n3.2.same s5⟩,l3,ua e3,Z2,rfl⟩ (λj σ H6 _ Cc=>by obtain⟨_,_,_,_,_,_,g6,_⟩:=Cc;exact g6) ?_ ?_
   ·rintro j k σ H6 hk ⟨a4,kvs,o6,n6,l6,e6,g6,rfl⟩
    have hj:j < CH.length:=by have:=(gQ0 hk);simpa using this
    have hjp:=getElem?_eq_getElem hj
    generalize CH[j]=pd at hjp
    obtain⟨p,d⟩:=pd
    have ek:k=Sum.inl (p:Int):=by
     rw[getElem?_map,getElem?_map,hjp]at hk
     exact(Option.some.inj hk).symm
    subst ek
    rw[show kV (Sum.inl (p:Int))=V.int (p:Int) from rfl]
    have FD:=iX hF.nd (mem_of_getElem? hjp)
    have hL6:=Off.land o6 hx hL
    refine⟨_,rfl,_,rfl,_,rfl,lx,Cr,lt,fa,Cf,n,es,CH,G,p,d,rfl,hL6,JO, .inr ⟨_,g6⟩,hF,FD,λO H7 s7 hO gO=>?_⟩
    refine⟨O,dS es CH p d,rfl,Cb.of gO,λk hk=>by have:=rT hk;omega,?_⟩
    have n7x:=s7 _ _ n6.1
    refine⟨_,rfl,x,ts.near,dx,_,_,rfl,n7x,B.cl,B.n2,rfl,_,rfl,_,rfl,by show 2 <= sizeLine;decide,λkt TV=>?_⟩
    have s8:=s7.new (o := .tup [.int p, .int G]) TV
    have k8:(upd H7 kt (.tup [.int p, .int G])) kt=some (.tup ((kk p G).map ur)):=ad
    generalize upd H7 kt (.tup [.int p, .int G])=H8 at s8 k8 ⊢
    have d8:=n6.2.same s8
    refine⟨de,kvs,kk p G,kt,rfl,d8,rfl,k8,by rw[sizeLine_eq];have:G * 100 <= 100 * 100:=mul_le_mul_right _ (by omega);omega,?_⟩
    have nfd:fa ≠ de:=λz=>by
     have h1:=s8 _ _ g6
     rw[z,d8.1]at h1
     cases h1
    have Px:∀b ks,H8 b=some (.tup ks)->(upd H8 de (lb P w de (fQ kvs (kk p G) kt (.int (Yd.C5 (dS es CH p d) 0:Nat))))) b=some (.tup ks):=λb ks e=>by
     rw[ah (λz=>by rw[z,d8.1]at e;cases e)];exact e
    refine⟨_,fQ kvs (kk p G) kt (.int (Yd.C5 (dS es CH p d) 0:Nat)),λb o hb e=>?_,⟨?_,ad,l4 (F:=λk a=>(upd H8 de (lb P w de (fQ kvs (kk p G) kt (.int (Yd.C5 (dS es CH p d) 0:Nat))))) a=some (.tup (k.map ur))) (λy hy=>Px _ _ (d8.2 y hy)) (Px _ _ k8)⟩,?_,wW hF.nd hjp e6,?_,rfl⟩
    ·rw[ah (aj e Hz)];exact s8 _ _ (o6 _ _ hb e)
    ·rw[ah Ju];exact s8 _ _ n6.1
    ·have:=fP (kvs:=kvs) (k:=kk p G) (b:=kt) (v := .int (Yd.C5 (dS es CH p d) 0:Nat));omega
    ·rw[ah nfd];exact s8 _ _ g6
   ·rintro σ H6 ⟨a4,kvs,o6,n6,l6,e6,g6,rfl⟩
    rw[length_map]at l6 e6
    refine⟨_,_,_,kvs,o6,n6,?_,zb hF e6,rfl⟩
    rw[Nat.succ_mul];omega
  ·rintro σ H3 ⟨a2,a3,a4,kvs,o3,n3,l3,e3,rfl⟩
   exact q H3 de kvs o3 n3 e3
noncomputable def jD(es fs:Es)(p:Nat):List Nat:=match lk fs p with
 | some d=>dS es fs p d
 | none=>[]
theorem jC(es fs:Es)(p:Nat):(jD es fs p).Pairwise (· < ·):=by
 unfold jD
 split
 ·exact tM _ _ _ _
 ·exact List.Pairwise.nil
theorem uw(h:k ∈ jD es fs p):k < es.length:=by
 unfold jD at h
 split at h
 ·exact rT h
 ·cases h
theorem yN(h:ks.Pairwise (· < ·)):mN (Yd.C5 ks 0)=ks:=qD (oQ h)
noncomputable def Py(kvs:List eD):Wf:=λp g _=>mN (vN ((cu kvs (kk p g)).getD (.int 0)))
def Mg(P:Program)(w:World)(ts:ia):TJ:=λH x n wy=>∃(dx lx de:Addr)(kvs:List eD)(es:Es),zm P w H ts x dx lx de kvs/\nE n es kvs n/\es.length <= 100/\∀p g k,p < n->g < n->wy p g k=Py kvs p g k
theorem lZ(h:nE n es kvs n)(hg:g < n)(p:Nat)(k:Option Nat):∃fs,BV n es g fs/\Py kvs p g k=jD es fs p/\(cu kvs (kk p g)).getD (.int 0) = .int (Yd.C5 (jD es fs p) 0:Nat):=by
 obtain⟨fs,hF,hv⟩:=h.1 g hg
 have ev:(cu kvs (kk p g)).getD (.int 0) = .int (Yd.C5 (jD es fs p) 0:Nat):=by
  rw[hv p]
  unfold ub jD
  cases lk fs p<;>rfl
 refine⟨fs,hF,?_,ev⟩
 unfold Py
 rw[ev]
 show mN (((Yd.C5 (jD es fs p) 0:Nat):Int)).toNat=_
 rw[toNat_natCast,yN (jC es fs p)]
theorem zV(h:nE n es kvs n)(hg:g < n)(hz:z ∈ Py kvs p g k):z < es.length:=by
 obtain⟨fs,_,e,_⟩:=lZ h hg p k
 rw[e]at hz
 exact uw hz
theorem Mg.keep(h:Mg P w ts H x n wy)(k:CD H H'):Mg P w ts H' x n wy:=by
 obtain⟨dx,lx,de,kvs,es,⟨h1,h2,h3⟩,h4⟩:=h
 exact⟨dx,lx,de,kvs,es,⟨k _ _ h1 True.intro,k _ _ h2 True.intro,λy hy=>k _ _ (h3 y hy) True.intro⟩,h4⟩
inductive rB(vs:List V)(H:Hp)(Q:VK)(E:XK):Prop
 | mk (n m:Nat) (c:Int) (_:vs=[.int n, .int m, .int c]) (_:2 <= n) (_:n <= 12) (_:m <= 100) (_:∀(D:Addr)(Ct:List V)(es:Es)(H':Hp),BX H H'->H D=none->H' D=some (.lst Ct)->Cw H' Ct (es.map zp)->R1 n es->(∀e ∈ es,e.1 ≠ e.2)->es.length=m->Q (.ref D) H')
abbrev NLn:List Str:=["_law_places", "_law_amount", "_law_cell", "_law_lanes_here", "_law_k", "_law_draw", "_law_start"]
theorem xP:au ["self", "lane"] ["self", "lane"] (ai qd):=L2.C3
theorem vT(F:C2 K "start_of" "Land.start_of" qd f fd)(L:lc K c):BY P w K mg base ay 1 f fd ["self", "lane"] (pZ c Prod.fst):=by
 refine F.ok xP (λ_ _ _ _ h=>?_) (λ_ _ _ s H _ Q E hr h=>?_)
 ·obtain⟨x,dx,t,n,Cf,ps,k,pr,rfl,_⟩:=h
  rfl
 ·obtain⟨x,dx,t,n,Cf,ps,k,pr,rfl,⟨hx,ht,hl⟩,hk,q⟩:=h
  refine⟨_,af (av (az aG (az aG (al (pv 0) rfl) (pv 1) (λ_ _=>rfl)) ak (λ_ _=>rfl))),?_⟩
  obtain⟨v,hv,u,rfl,hu⟩:=Cw.Hw hl hk
  refine⟨_,rfl,x,c.land,dx,_,_,rfl,hx,L.cl,L.nl,rfl,_,rfl,t,_,_,_,rfl,rfl,Ck.of ht,ao hv,u,_,0,_,rfl,rfl,Ck.of hu,ao (j:=0) rfl,q⟩
theorem VR:au ["self", "place", "goal", "came"] ["self", "place", "goal", "came"] (ai vd):=L2.C3
theorem vR(F:C2 K "ways" "Nearer.ways" vd f fd)(B:VQ K mg ts f1 d1)(mm:mg "members" = some (.ref fm))(km:keepIn K (.ref fm)=true)(bm:Binds K dm ["some"] [])
  (Gm:BY P w K mg base ay 2 fm dm ["some"] uS):BY P w K mg base ay 3 f fd ["self", "place", "goal", "came"] (cT (Mg P w ts)):=by
 refine F.ok VR (λ_ _ _ _ h=>?_) (λ_ _ _ s H _ Q E hr h=>?_)
 ·obtain⟨x,n,wy,p,g,k,rfl,_⟩:=h
  rfl
 ·obtain⟨x,n,wy,p,g,k,rfl,⟨dx,lx,de,kvs,es,hx,hE,JO,hwy⟩,hp,hg,q⟩:=h
  rw[hwy p g k hp hg]at q
  have hu:=lJ hr
  refine⟨_,af (av (aq Gm hr rfl mm km bm .nil ap (aa (oy hu (al (pv 0) rfl) (aa (bF (aa (pv 1) (aa (pv 2) ac))) (aa ak ac))) ac))),?_⟩
  refine⟨_,rfl,x,ts.near,dx,_,_,rfl,hx.1,B.cl,B.n2,rfl,de,kvs,rfl,hx.2,?_⟩
  refine⟨_,rfl,_,rfl,by show 2 <= sizeLine;decide,λt ht=>?_⟩
  have s1:BX H (upd H t (.tup [.int p, .int g])):=(BX.refl H).new ht
  refine⟨_,_,cu kvs (kk p g),rfl,⟨kvs,kk p g,t,hx.2.same s1,rfl,ad,rfl⟩,?_⟩
  obtain⟨fs,hF,ew,ev⟩:=lZ hE hg p k
  rw[ev]
  refine⟨_,rfl,lt_of_lt_of_le (va λk hk=>uw hk) (pow_le_pow_right (by decide) (by omega)),λD hD=>?_⟩
  exact q D _ (s1.new hD) (s1.free hD) (by rw[ad,oQ (jC es fs p),ew])
theorem HM:au NLn ["_law_places", "_law_amount", "_law_cell"] (ai qi):=L2.C3
theorem wj(F:C2 K "_law_lanes" "_law_lanes" qi f fd)(T:Txt mg)(mm:mg "_law_mixed" = some (.ref fm))(km:keepIn K (.ref fm)=true)(bm:Binds K dm ["_law_cell", "_law_k"] [])
  (Gm:BY P w K mg base ay 1 fm dm ["_law_cell", "_law_k"] nU):BY P w K mg base ay 2 f fd ["_law_places", "_law_amount", "_law_cell"] rB:=by
 refine F.ok HM (λ_ _ _ _ h=>?_) (λ_ _ _ s H _ Q E hr h=>?_)
 ·obtain⟨n,m,c,rfl,_⟩:=h
  rfl
 ·obtain⟨n,m,c,rfl,Gz,HA,hm,q⟩:=h
  refine⟨_,ae (aD (i:=3) HM.nd rfl (Or.inl rfl) (aU ac))
   (ae (b0 PassesOwn.never rfl (aO rfl T.range (aa (pv 1) ac)) (aw (i:=4) HM.nd rfl (Or.inl rfl))
    (ae (aD (i:=5) HM.nd rfl (Or.inl rfl) (aq Gm hr rfl mm km bm .nil ap (aa (pv 2) (aa (pv 4) ac))))
    (ae (aD (i:=6) HM.nd rfl (Or.inl rfl) (aJ bL (pv 5) (pv 0)))
    (af (aP (bW plainAttrs_list PySem.F.slot_list_append PySem.F.type_list_append bQ (pv 3) (aa (bF (aa (pv 6) (aa (aJ bL (aJ cn (aJ cn (pv 6) ak) (aJ bL (aJ eA (pv 5) ak) (aJ fz (pv 0) ak))) (pv 0)) ac))) ac)))))))
   (af (av (pv 3)))),?_⟩
  have two:(2:Nat) <= sizeLine:=by decide
  refine⟨zero_le _,λD hD=>?_⟩
  have s0:=(BX.refl H).new (o := .lst []) hD
  refine⟨_,rfl,(m:Int),rfl,by omega,by omega,?_⟩
  rw[toNat_natCast]
  refine bu (n:=m) (λi σ H2=>∃(a3 a4 a5:Option V)(Ct:List V)(es:Es),BX H H2/\H2 D=some (.lst Ct)/\Cw H2 Ct (es.map zp)/\R1 n es/\(∀e ∈ es,e.1 ≠ e.2)/\es.length=i/\σ=[some (.int n),some (.int m),some (.int c),some (.ref D),a3,a4,a5])
   ⟨none,none,none,[],[],s0,ad, .nil,(λe he=>by cases he),(λe he=>by cases he),rfl,rfl⟩ ?_ ?_
  ·rintro i σ H2 hi ⟨a3,a4,a5,Ct,es,s2,gD,R4,Er,Di,hl,rfl⟩
   have R5:(0:Int) < (n:Int):=by omega
   have Z3:(0:Int) < (n:Int) - 1:=by omega
   rw[zero_add]
   refine⟨_,rfl,_,rfl,c,i,rfl,by omega,λd hd=>?_⟩
   refine⟨_,rfl,_,rfl,_,_,rfl,rfl,R5,?_⟩
   refine⟨_,rfl, .inl ⟨rfl,_,Cb.of gD⟩,_,rfl,_,rfl,_,_,rfl,rfl,_,rfl,_,_,rfl,rfl,⟨by decide,by decide⟩,_,rfl,_,_,rfl,rfl,_,_,rfl,rfl,Z3,_,_,rfl,rfl,_,rfl,_,_,rfl,rfl,R5,two,λt1 h1=>?_⟩
   dsimp only at h1 ⊢
   have e1:=emod_nonneg d (show (n:Int) ≠ 0 by omega)
   have e2:=emod_lt_of_pos d R5
   have e3:=emod_nonneg (d / 16) (show (n:Int) - 1 ≠ 0 by omega)
   have e4:=emod_lt_of_pos (d / 16) Z3
   generalize d % (n:Int)=st at e1 e2 h1 ⊢
   generalize d / 16 % ((n:Int) - 1)=IW at e3 e4 h1 ⊢
   have e5:=emod_nonneg (st + 1 + IW) (show (n:Int) ≠ 0 by omega)
   have e6:=emod_lt_of_pos (st + 1 + IW) R5
   have e7:(st + 1 + IW) % (n:Int) ≠ st:=by
    intro z
    rcases lt_or_le (st + 1 + IW) (n:Int) with h | h
    ·rw[Int.emod_eq_of_lt (by omega) h]at z;omega
    ·have:(st + 1 + IW) % (n:Int)=st + 1 + IW - n:=by
      rw[show st + 1 + IW = (st + 1 + IW - n) + n by omega,Int.add_emod_right,Int.emod_eq_of_lt (by omega) (by omega)];omega
     omega
   generalize (st + 1 + IW) % (n:Int)=en at e5 e6 e7 h1 ⊢
   obtain⟨s',L6,VS⟩:∃s':Nat,st=(s':Int)/\s' < n:=⟨st.toNat,by omega,by omega⟩
   obtain⟨n',S6,VT⟩:∃n':Nat,en=(n':Int)/\n' < n:=⟨en.toNat,by omega,by omega⟩
   subst L6 S6
   have u1:=(BX.refl H2).new (o := .tup [.int (s':Int), .int (n':Int)]) h1
   have v1:(upd H2 t1 (.tup [.int (s':Int), .int (n':Int)])) t1=some (.tup [.int (s':Int), .int (n':Int)]):=ad
   have nT:t1 ≠ D:=Ne.symm (aj gD h1)
   generalize upd H2 t1 (.tup [.int (s':Int), .int (n':Int)])=H3 at u1 v1 ⊢
   have Z4:=u1 _ _ gD
   have G8:Ct.length=es.length:=by rw[Paired.length R4,length_map]
   refine⟨D,Ct,_,rfl,rfl,Z4,by rw[sizeLine_eq];omega,?_⟩
   refine⟨_,_,_,Ct ++ [.ref t1],es ++ [(s',n')],λb o e=>by rw[ah (aj e hD)];exact u1 _ _ (s2 _ _ e),ad,?_,λe he=>?_,λe he=>?_,by rw[length_append,hl];rfl,rfl⟩
   ·rw[map_append]
    exact Cw.snoc (p:=zp (s',n')) ⟨t1,rfl,by rw[ah nT];exact v1⟩ (yO Z4 (Cw.same u1 R4))
   ·rcases mem_append.mp he with he | he
    ·exact Er e he
    ·rw[mem_singleton.mp he];exact⟨VS,VT⟩
   ·rcases mem_append.mp he with he | he
    ·exact Di e he
    ·rw[mem_singleton.mp he];show s' ≠ n';omega
  ·rintro σ H2 ⟨a3,a4,a5,Ct,es,s2,gD,R4,Er,Di,hl,rfl⟩
   exact⟨_,rfl,q D Ct es H2 s2 hD gD R4 Er Di hl⟩
noncomputable def v7(r:Rw):Nat:=(r.p.toNat * 100 + r.g.toNat) * 100 + xv r.c
theorem B1(h:aQ a=aQ b):v7 a=v7 b:=by
 unfold aQ at h
 injection h with h1 h2
 injection h2 with h2 h3
 injection h3 with h3 _
 injection h1 with h1
 injection h2 with h2
 have h4:a.c=b.c:=by
  cases ha:a.c with
  | none=>cases hb:b.c with
   | none=>rfl
   | some k=>rw[ha,hb]at h3;cases h3
  | some k=>cases hb:b.c with
   | none=>rw[ha,hb]at h3;cases h3
   | some k' =>
    rw[ha,hb]at h3
    have h3:some (k:Int)=some (k':Int):=h3
    injection h3 with h3
    rw[show k=k' by omega]
 unfold v7
 rw[h1,h2,h4]
structure Gd(n:Nat)(ps:List (Int × Int))(B:Nat)(rs:List Rw):Prop where
 sort:(rs.map v7).Pairwise (· < ·)
 low:∀r ∈ rs,v7 r < B
 fit:∀r ∈ rs,dY n ps r=true
 C6:∀r ∈ rs,r.s.length <= 40
theorem Gd.up(h:Gd n ps B rs)(l:B <= B'):Gd n ps B' rs:=⟨h.sort,λr hr=>lt_of_lt_of_le (h.low r hr) l,h.fit,h.C6⟩
theorem Gd.snoc(h:Gd n ps B rs)(hr:B <= v7 r)(hf:dY n ps r=true)(hl:r.s.length <= 40):Gd n ps (v7 r + 1) (rs ++ [r]):=by
 refine⟨?_,λx hx=>?_,λx hx=>?_,λx hx=>?_⟩
 ·rw[map_append,List.pairwise_append]
  refine⟨h.sort,by simp,λx hx y hy=>?_⟩
  obtain⟨r',F7,rfl⟩:=mem_map.mp hx
  have hy:y=v7 r:=by simpa using hy
  rw[hy]
  exact lt_of_lt_of_le (h.low r' F7) hr
 ·rcases mem_append.mp hx with hx | hx
  ·have:=h.low x hx;omega
  ·rw[mem_singleton.mp hx];omega
 ·rcases mem_append.mp hx with hx | hx
  ·exact h.fit x hx
  ·rw[mem_singleton.mp hx];exact hf
 ·rcases mem_append.mp hx with hx | hx
  ·exact h.C6 x hx
  ·rw[mem_singleton.mp hx];exact hl
theorem Gd.good(h:Gd n ps B rs):dC n ps rs rs.length=none:=by
 refine eI λk hk=>?_
 have hr:rs[k]? = some rs[k]:=getElem?_eq_getElem hk
 have L8:rs.getD k ⟨0,0,none,[]⟩ = rs[k]:=by rw[getD_eq_getElem?_getD,hr];rfl
 rw[L8,gi,h.fit _ (getElem_mem hk)]
 have KS:((rs.take k).any λa=>decide (aQ a=aQ rs[k]))=false:=by
  rw[any_eq_false]
  intro a ha hd
  have e:=B1 (of_decide_eq_true hd)
  obtain⟨j,hj,ea⟩:=mem_take_iff_getElem.mp ha
  have Vq:j < k:=by omega
  have:=pairwise_iff_getElem.mp h.sort j k (by rw[length_map];omega) (by rw[length_map];exact hk) Vq
  rw[getElem_map,getElem_map,ea]at this
  omega
 rw[KS];rfl
theorem Gd.len(h:Gd n ps B rs):rs.length <= B:=by
 have:=eO B (rs.map v7) (h.sort.imp λh=>ne_of_lt h) λx hx=>by
  obtain⟨r,hr,rfl⟩:=mem_map.mp hx
  exact h.low r hr
 rw[length_map]at this
 exact this
noncomputable def lim(xs:List Nat)(t:Nat):Nat:=if t=0 then 0 else xs.getD (t - 1) 0 + 1
theorem By(hs:xs.Pairwise (· < ·))(h:xs[t]? = some p):lim xs t <= p:=by
 unfold lim
 by_cases h0:t=0
 ·rw[if_pos h0];omega
 ·rw[if_neg h0]
  obtain⟨ht,e⟩:=List.getElem?_eq_some_iff.mp h
  have h1:=pairwise_iff_getElem.mp hs (t - 1) t (by omega) ht (by omega)
  rw[getD_eq_getElem?_getD,getElem?_eq_getElem (by omega)]
  rw[e]at h1
  exact h1
theorem wG(h:xs[t]? = some p):lim xs (t + 1)=p + 1:=by
 unfold lim
 rw[if_neg (by omega),Nat.add_sub_cancel,getD_eq_getElem?_getD,h];rfl
theorem yP(h:∀p ∈ xs,p < 100):lim xs xs.length <= 100:=by
 unfold lim
 by_cases h0:xs.length=0
 ·rw[if_pos h0];omega
 ·rw[if_neg h0,getD_eq_getElem?_getD,getElem?_eq_getElem (show xs.length - 1 < xs.length by omega)]
  exact h _ (getElem_mem _)
noncomputable def bM(ps:List (Int × Int))(p:Nat):List (Option Nat):=none :: (eu Prod.snd ps (p:Int)).map some
theorem zg(ps:List (Int × Int))(p:Nat):[V.Cp] ++ bK (eu Prod.snd ps (p:Int))=(bM ps p).map cV:=by
 unfold bM bK
 rw[map_cons,map_map];rfl
theorem qX(ps:List (Int × Int))(p:Nat):((bM ps p).map xv).Pairwise (· < ·):=by
 unfold bM
 rw[map_cons,map_map,pairwise_cons]
 refine⟨λx hx=>?_,?_⟩
 ·obtain⟨k,_,rfl⟩:=mem_map.mp hx
  show 0 < k + 1
  omega
 ·refine List.Pairwise.map _ (λa b h=>?_) (List.Pairwise.filter _ pairwise_lt_range)
  show a + 1 < b + 1
  omega
theorem lQ(h:cc ∈ bM ps p):xv cc <= ps.length/\∀k,cc=some k->k ∈ eu Prod.snd ps (p:Int):=by
 rcases mem_cons.mp h with rfl | h
 ·exact⟨zero_le _,λk e=>by cases e⟩
 ·obtain⟨k,hk,rfl⟩:=mem_map.mp h
  refine⟨?_,λk' e=>by cases e;exact hk⟩
  have:=mem_range.mp (mem_filter.mp hk).1
  show k + 1 <= _
  omega
inductive uN(vs:List V)(H:Hp)(Q:VK)(E:XK):Prop
 | mk (l:Addr) (Ct:List V) (ps:List (Int × Int)) (n:Nat) (cl:Int) (_:vs=[.int n, .ref l, .int cl]) (_:H l=some (.lst Ct)) (_:Cw H Ct ps) (_:(∀p ∈ ps,eE n p=true)) (_:ps.length <= 10) (_:2 <= n) (_:n <= 5) (_:∀(D:Addr)(Cv:List V)(rs:List Rw)(H':Hp),BX H H'->H D=none->H' D=some (.lst Cv)->Eb H' Cv rs->Gd n ps 50000 rs->Q (.ref D) H')
abbrev R6:List Str:=["_law_places", "_law_lanes_here", "_law_cell", "_law_rows_here", "_law_place", "_law_out", "_law_cames", "_law_goal", "_law_came", "_law_draw", "_law_ways"]
noncomputable def BM(s:Stmt):Scope:=match s with
 | .Assign _ (.BinOp _ _ (.ListComp _ _ sc _) _) _=>sc
 | _=>zQ0
noncomputable def mT:List Stmt:=qR (tL (aI jZ) 1)
noncomputable def yU:List Stmt:=qR (tL (qR (tL mT 2)) 0)
theorem DI:au R6 ["_law_places", "_law_lanes_here", "_law_cell"] (ai jZ):=L2.C3
theorem Pz:CP R6 (ai jZ) (um (tL mT 0)) ["_law_lanes_here", "_law_place"] [1,4]:=L2.Dp
theorem P4:CP R6 (ai jZ) (BM (tL mT 1)) ["_law_lanes_here", "_law_place"] [1,4]:=L2.Dp
theorem P5:CP R6 (ai jZ) (um (tL yU 1)) ["_law_draw"] [9]:=L2.Dp
theorem zM:(["_law_lane", "_law_lanes_here", "_law_place"]:List Str).Nodup:=by decide +kernel
theorem P6:(["_law_lane", "_law_draw"]:List Str).Nodup:=by decide +kernel
theorem yn(F:C2 K "_law_rows" "_law_rows" jZ f fd)(T:Txt mg)(mm:mg "_law_mixed" = some (.ref fm))(km:keepIn K (.ref fm)=true)(bm:Binds K dm ["_law_cell", "_law_k"] [])(Gm:BY P w K mg base ay 1 fm dm ["_law_cell", "_law_k"] nU) :
  BY P w K mg base ay 2 f fd ["_law_places", "_law_lanes_here", "_law_cell"] uN:=by
 refine F.ok DI (λ_ _ _ _ h=>?_) (λ_ _ _ s H _ Q E hr h=>?_)
 ·obtain⟨l,Ct,ps,n,cl,rfl,_⟩:=h
  rfl
 ·obtain⟨l,Ct,ps,n,cl,rfl,gl,He,Ci,Df,Gz,Mj,q⟩:=h
  refine⟨_,ae (aD (i:=3) DI.nd rfl (Or.inl rfl) (aU ac))
   (ae (b0 PassesOwn.never rfl (aO rfl T.range (aa (pv 0) ac)) (aw (i:=4) DI.nd rfl (Or.inr rfl))
    (ae (ca (i:=5) (own:=["_law_lane"]) (capN:=["_law_lanes_here", "_law_place"]) (cap:=[1,4]) Pz rfl DI.nd rfl rfl (aO rfl T.range (aa (aE aB rfl T.len PySem.boot_len (aa (pv 1) ac)) ac))
     (λC s' H' fp=>⟨aw (i:=0) zM rfl (Or.inl rfl),cz (ax bz (az (show lp _ (k4 K) from aG) (az (show lp _ (mP K) from aK) (pv 1) (pv 0) (λ_ _=>rfl)) ak (λ_ _=>rfl)) (pv 2) (aA _)),pv 0⟩))
    (ae (aD (i:=6) DI.nd rfl (Or.inl rfl) (aJ kD (aU (aa bP ac)) (aT (own:=["_law_lane"]) (capN:=["_law_lanes_here", "_law_place"]) (cap:=[1,4]) P4 rfl (aO rfl T.range (aa (aE aB rfl T.len PySem.boot_len (aa (pv 1) ac)) ac))
     (λC s' H' fp=>⟨aw (i:=0) zM rfl (Or.inl rfl),cz (ax bz (az (show lp _ (k4 K) from aG) (az (show lp _ (mP K) from aK) (pv 1) (pv 0) (λ_ _=>rfl)) ak (λ_ _=>rfl)) (pv 2) (aA _)),pv 0⟩))))
    (af (b0 PassesOwn.never rfl (aO rfl T.range (aa (pv 0) ac)) (aw (i:=7) DI.nd rfl (Or.inl rfl))
     (af (b0 PassesOwn.never rfl (aW (pv 6)) (aw (i:=8) DI.nd rfl (Or.inl rfl))
      (ae (aD (i:=9) DI.nd rfl (Or.inr rfl) (aq Gm hr rfl mm km bm .nil ap (aa (pv 2) (aa (aE aB rfl T.len PySem.boot_len (aa (pv 3) ac)) ac))))
      (ae (ca (i:=10) (own:=["_law_lane"]) (capN:=["_law_draw"]) (cap:=[9]) P5 rfl DI.nd rfl rfl (aW (pv 5))
       (λC s' H' fp=>⟨aw (i:=0) P6 rfl (Or.inl rfl),cz (PW.pt (fE (ax bz (aJ vO (aJ qu (pv 1) (aJ cn ak (pv 0))) ak) ak (aA _)) (dP (ax bz (aJ bL (pv 1) ak) ak (aA _))))),pv 0⟩))
      (af (aR (ax jk (pv 4) (pv 7) (aA _))
       (af (aP (bW plainAttrs_list PySem.F.slot_list_append PySem.F.type_list_append bQ (pv 3) (aa (bF (aa (pv 4) (aa (pv 7) (aa (pv 8) (aa (pv 10) ac))))) ac)))) aF)))))))))))
   (af (av (pv 3)))),?_⟩
  have G8:Ct.length=ps.length:=Paired.length He
  refine⟨zero_le _,λD hD=>?_⟩
  have s0:=(BX.refl H).new (o := .lst []) hD
  have g0:(upd H D (.lst [])) D=some (.lst []):=ad
  show dF 3 (V.ref D) _ _ _
  generalize upd H D (.lst [])=H0 at s0 g0 ⊢
  refine⟨_,rfl,(n:Int),rfl,by omega,by omega,?_⟩
  rw[toNat_natCast]
  refine bu (n:=n) (λi σ H2=>∃(a4 a5 a6 a7 a8 a9 EA:Option V)(Cv:List V)(rs:List Rw),BX H H2/\H2 D=some (.lst Cv)/\E9 D H2 Cv rs/\Gd n ps (i * 10000) rs/\σ=[some (.int n),some (.ref l),some (.int cl),some (.ref D),a4,a5,a6,a7,a8,a9,EA])
   ⟨none,none,none,none,none,none,none,[],[],s0,g0, .nil,⟨List.Pairwise.nil,(λr hr=>by cases hr),(λr hr=>by cases hr),(λr hr=>by cases hr)⟩,rfl⟩ ?_ ?_
  rotate_left
  ·rintro σ H2 ⟨a4,a5,a6,a7,a8,a9,EA,Cv,rs,s2,g2,hR,hO,rfl⟩
   exact⟨_,rfl,q D Cv rs H2 s2 hD g2 hR.rws (hO.up (by omega))⟩
  rintro p σ H2 YZ ⟨a4,a5,a6,a7,a8,a9,EA,Cv,rs,s2,g2,hR,hO,rfl⟩
  rw[zero_add]
  have AM:∀(sel:Int × Int->Int)(j:Nat)(Hx:Hp)(sx:BX H Hx)(σ0:St),True:=λ_ _ _ _ _=>True.intro
  refine⟨_,rfl,l,_,rfl, .inl (Cb.of (s2 _ _ gl)),(Ct.length:Int),rfl,by omega,by omega,?_⟩
  rw[toNat_natCast,G8]
  refine sF (sel:=Prod.fst) (ps:=ps) (pl:=(p:Int)) (by rw[sizeLine_eq];omega) (λz acc N pr hpr h=>?_) (λOu Z5=>?_)
  ·obtain⟨v,hv,u,rfl,gu⟩:=Cw.Hw He hpr
   refine⟨_,rfl,_,rfl,l,Ct,_,_,rfl,rfl,Cb.of (s2 _ _ gl),ao hv,u,_,0,_,rfl,rfl,Ck.of (s2 _ _ gu),ao (j:=0) rfl,_,rfl,rfl,_,rfl,?_⟩
   rw[fZ]
   cases hb:decide (pr.1=(p:Int)) with
   | true =>
    have Et:decide (Prod.fst pr=(p:Int))=true:=hb
    rw[Et]at h
    exact aN ⟨_,rfl,h⟩
   | false =>
    have Et:decide (Prod.fst pr=(p:Int))=false:=hb
    rw[Et]at h
    exact aH h
  have Z6:∀sel:Int × Int->Int,(eu sel ps (p:Int)).length <= 10:=λsel=>by
   have:=length_filter_le (λk=>decide (sel (ps.getD k (0,0))=(p:Int))) (List.range ps.length)
   rw[length_range]at this
   unfold eu
   omega
  have u1:=(BX.refl H2).new (o := .lst (bK (eu Prod.fst ps (p:Int)))) Z5
  have gO:(upd H2 Ou (.lst (bK (eu Prod.fst ps (p:Int))))) Ou=some (.lst (bK (eu Prod.fst ps (p:Int)))):=ad
  have nO:Ou ≠ D:=Ne.symm (aj g2 Z5)
  show dF 5 (V.ref Ou) _ (upd H2 Ou (.lst (bK (eu Prod.fst ps (p:Int))))) _
  generalize upd H2 Ou (.lst (bK (eu Prod.fst ps (p:Int))))=H3 at u1 gO ⊢
  have s3:=s2.trans u1
  refine⟨by show 1 <= sizeLine;decide,λo1 JQ=>?_⟩
  have u2:=(BX.refl H3).new (o := .lst [.Cp]) JQ
  have VU:(upd H3 o1 (.lst [.Cp])) o1=some (.lst [.Cp]):=ad
  generalize upd H3 o1 (.lst [.Cp])=H4 at u2 VU ⊢
  have s4:=s3.trans u2
  refine⟨_,rfl,l,_,rfl, .inl (Cb.of (s4 _ _ gl)),(Ct.length:Int),rfl,by omega,by omega,?_⟩
  rw[toNat_natCast,G8]
  refine sF (sel:=Prod.snd) (ps:=ps) (pl:=(p:Int)) (by rw[sizeLine_eq];omega) (λz acc N pr hpr h=>?_) (λo2 D5=>?_)
  ·obtain⟨v,hv,u,rfl,gu⟩:=Cw.Hw He hpr
   refine⟨_,rfl,_,rfl,l,Ct,_,_,rfl,rfl,Cb.of (s4 _ _ gl),ao hv,u,_,1,_,rfl,rfl,Ck.of (s4 _ _ gu),ao (j:=1) rfl,_,rfl,rfl,_,rfl,?_⟩
   rw[fZ]
   cases hb:decide (pr.2=(p:Int)) with
   | true =>
    have Et:decide (Prod.snd pr=(p:Int))=true:=hb
    rw[Et]at h
    exact aN ⟨_,rfl,h⟩
   | false =>
    have Et:decide (Prod.snd pr=(p:Int))=false:=hb
    rw[Et]at h
    exact aH h
  have u3:=(BX.refl H4).new (o := .lst (bK (eu Prod.snd ps (p:Int)))) D5
  have go2:(upd H4 o2 (.lst (bK (eu Prod.snd ps (p:Int))))) o2=some (.lst (bK (eu Prod.snd ps (p:Int)))):=ad
  have P8:(upd H4 o2 (.lst (bK (eu Prod.snd ps (p:Int))))) o1=some (.lst [.Cp]):=by rw[ah (aj VU D5)];exact VU
  generalize upd H4 o2 (.lst (bK (eu Prod.snd ps (p:Int))))=H5 at u3 go2 P8 ⊢
  have L7:=Z6 Prod.snd
  refine⟨o1,o2,_,_,rfl,rfl,P8,go2,by unfold bK;rw[length_map,sizeLine_eq];simp only[length_singleton];omega,λC hC=>?_⟩
  rw[zg]
  have u4:=(BX.refl H5).new (o := .lst ((bM ps p).map cV)) hC
  have gC:(upd H5 C (.lst ((bM ps p).map cV))) C=some (.lst ((bM ps p).map cV)):=ad
  have P9:BX H2 H5:=u1.trans (u2.trans u3)
  have nC:C ≠ D:=Ne.symm (aj (P9 _ _ g2) hC)
  show dF 6 (V.ref C) _ (upd H5 C (.lst ((bM ps p).map cV))) _
  generalize upd H5 C (.lst ((bM ps p).map cV))=H6 at u4 gC ⊢
  have VW:=P9.trans u4
  have gO6:=u4 _ _ (u3 _ _ (u2 _ _ gO))
  refine⟨_,rfl,(n:Int),rfl,by omega,by omega,?_⟩
  rw[toNat_natCast]
  refine bu (n:=n) (λi σ H7=>∃(a7 a8 a9 EA:Option V)(Cv:List V)(rs:List Rw),BX H H7/\H7 D=some (.lst Cv)/\H7 Ou=some (.lst (bK (eu Prod.fst ps (p:Int))))/\H7 C=some (.lst ((bM ps p).map cV))/\E9 D H7 Cv rs/\Gd n ps ((p * 100 + i) * 100) rs/\σ=[some (.int n),some (.ref l),some (.int cl),some (.ref D),some (.int (p:Int)),some (.ref Ou),some (.ref C),a7,a8,a9,EA])
   ⟨_,_,_,_,Cv,rs,s2.trans VW,VW _ _ g2,gO6,gC,hR.same VW,hO.up (by omega),rfl⟩ ?_ ?_
  rotate_left
  ·rintro σ H7 ⟨a7,a8,a9,EA,Cv,rs,s7,g7,_,_,VX,VY,rfl⟩
   exact⟨_,_,_,_,_,_,_,Cv,rs,s7,g7,VX,VY.up (by omega),rfl⟩
  rintro i σ H7 hi ⟨a7,a8,a9,EA,Cv,rs,s7,g7,gO7,Z7,VX,VY,rfl⟩
  rw[zero_add]
  refine⟨_,rfl,C,rfl,⟨_,Cb.of Z7⟩,?_⟩
  have ED:((bM ps p).map cV).length=(bM ps p).length:=length_map ..
  refine dB (K:=K) (a:=C) (xs:=(bM ps p).map cV) (λj σ Hb=>∃(a8 a9 EA:Option V)(Cv:List V)(rs:List Rw),BX H Hb/\Hb D=some (.lst Cv)/\Hb Ou=some (.lst (bK (eu Prod.fst ps (p:Int))))/\Hb C=some (.lst ((bM ps p).map cV))/\E9 D Hb Cv rs/\Gd n ps ((p * 100 + i) * 100 + lim ((bM ps p).map xv) j) rs/\σ=[some (.int n),some (.ref l),some (.int cl),some (.ref D),some (.int (p:Int)),some (.ref Ou),some (.ref C),some (.int (i:Int)),a8,a9,EA])
   ⟨_,_,_,Cv,rs,s7,g7,gO7,Z7,VX,VY.up (by omega),rfl⟩ (λj σ Hb _ Cc=>by obtain⟨_,_,_,_,_,_,_,_,g,_⟩:=Cc;exact Cb.of g) ?_ ?_
  rotate_left
  ·rintro σ Hb ⟨a8,a9,EA,Cv,rs,sb,gb,Lb,R7,PB,Mm,rfl⟩
   rw[ED,←length_map (f:=xv) (as:=bM ps p)]at Mm
   have:=yP (xs:=(bM ps p).map xv) λx hx=>by
    obtain⟨cc,Ji,rfl⟩:=mem_map.mp hx
    have:=(lQ Ji).1
    omega
   exact⟨_,_,_,_,Cv,rs,sb,gb,Lb,R7,PB,Mm.up (by omega),rfl⟩
  rintro j v σ Hb hv ⟨a8,a9,EA,Cv,rs,sb,gb,Lb,R7,PB,Mm,rfl⟩
  obtain⟨cc,hcj,rfl⟩:∃cc,(bM ps p)[j]? = some cc/\cV cc=v:=by
   rw[getElem?_map]at hv
   cases hx:(bM ps p)[j]? with
   | none=>rw[hx]at hv;cases hv
   | some cc=>rw[hx]at hv;exact⟨cc,rfl,Option.some.inj hv⟩
  obtain⟨Vg,VZ⟩:=lQ (mem_of_getElem? hcj)
  have PD:((bM ps p).map xv)[j]? = some (xv cc):=by rw[getElem?_map,hcj];rfl
  have hlp:=By (qX ps p) PD
  have hls:=wG PD
  have E6:Cv.length=rs.length:=Paired.length PB
  have hrm:=Mm.len
  refine⟨_,rfl,_,rfl,D,_,rfl, .inl (Cb.of gb),cl,Cv.length,rfl,by omega,λd hd=>?_⟩
  obtain⟨m,rfl⟩:∃m:Nat,d=(m:Int):=⟨d.toNat,by omega⟩
  generalize PF:eu Prod.fst ps (p:Int)=out at Lb ⊢
  have Ko:out.length <= 10:=by rw[←PF];exact Z6 _
  refine⟨_,rfl,Ou,rfl,⟨_,Cb.of Lb⟩,?_⟩
  refine ui (λk=>m.testBit (3 + k) || decide ((m:Int) % 3=0)) (by rw[sizeLine_eq];omega) (Cb.of Lb) (λk acc N hk h=>?_) (λWa Wc=>?_)
  ·refine⟨_,rfl,_,rfl,_,_,rfl,rfl,_,_,rfl,rfl,(show (0:Int) <= 3 + (k:Int) by omega),_,_,rfl,rfl,rfl,_,rfl,?_⟩
   dsimp only
   rw[show (3:Int) + (k:Int)=((3 + k:Nat):Int) by omega,UW]
   cases hb:m.testBit (3 + k) with
   | true=>rw[hb,Bool.true_or]at h;exact aN (aN ⟨_,rfl,h⟩)
   | false =>
    rw[hb,Bool.false_or]at h
    refine aH ⟨_,rfl,_,_,rfl,rfl,(by show (0:Int) < 3;decide),rfl,_,rfl,?_⟩
    rw[fZ]
    cases Z8:decide ((m:Int) % 3=0) with
    | true=>rw[Z8]at h;exact aN ⟨_,rfl,h⟩
    | false=>rw[Z8]at h;exact aH h
  generalize Z9:(out.filter λk=>m.testBit (3 + k) || decide ((m:Int) % 3=0))=us at Wc ⊢
  have husl:us.length <= 10:=by rw[←Z9];exact le_trans (length_filter_le _ _) Ko
  have We:∀k ∈ us,k ∈ out:=λk hk=>by rw[←Z9]at hk;exact(mem_filter.mp hk).1
  have u5:=(BX.refl Hb).new (o := .lst (bK us)) Wc
  have gW:(upd Hb Wa (.lst (bK us))) Wa=some (.lst (bK us)):=ad
  have nW:Wa ≠ D:=Ne.symm (aj gb Wc)
  show dF 10 (V.ref Wa) _ (upd Hb Wa (.lst (bK us))) _
  generalize upd Hb Wa (.lst (bK us))=Hc at u5 gW ⊢
  refine⟨_,rfl,_,rfl,rfl,_,rfl,?_⟩
  rw[fZ]
  by_cases IS:(p:Int)=(i:Int)
  ·rw[decide_eq_true IS]
   exact aH ⟨_,_,_,Cv,rs,sb.trans u5,u5 _ _ gb,u5 _ _ Lb,u5 _ _ R7,PB.same u5,Mm.up (by omega),rfl⟩
  rw[decide_eq_false IS]
  refine aN ⟨_,rfl, .inl ⟨rfl,_,Cb.of (u5 _ _ gb)⟩,_,rfl,_,rfl,_,rfl,_,rfl,by show 4 <= sizeLine;decide,λtt HS=>?_⟩
  have u6:=u5.new (o := .tup [.int (p:Int), .int (i:Int),cV cc, .ref Wa]) HS
  have gT:(upd Hc tt (.tup [.int (p:Int), .int (i:Int),cV cc, .ref Wa])) tt=some (.tup [.int (p:Int), .int (i:Int),cV cc, .ref Wa]):=ad
  have ZA:(upd Hc tt (.tup [.int (p:Int), .int (i:Int),cV cc, .ref Wa])) Wa=some (.lst (bK us)):=by rw[ah (aj gW HS)];exact gW
  generalize upd Hc tt (.tup [.int (p:Int), .int (i:Int),cV cc, .ref Wa])=Hf at u6 gT ZA ⊢
  have ZC:=u6 _ _ gb
  refine⟨D,Cv,_,rfl,rfl,ZC,by rw[sizeLine_eq];omega,?_⟩
  have Ep:dY n ps ⟨(p:Int),(i:Int),cc,us⟩ = true:=by
   unfold dY
   have ho:eE n ((p:Int),(i:Int))=true:=by
    unfold eE
    simp only[Bool.and_eq_true,decide_eq_true_eq,Bool.not_eq_true',decide_eq_false_iff_not]
    exact⟨⟨by omega,by omega⟩,⟨by omega,by omega⟩,IS⟩
   rw[ho,Bool.true_and]
   have hs:(us.all λz=>decide (z ∈ eu Prod.fst ps (p:Int)))=true:=by
    rw[all_eq_true]
    exact λz hz=>decide_eq_true (by rw[PF];exact We z hz)
   dsimp only
   rw[hs,Bool.and_true]
   cases cc with
   | none=>rfl
   | some k=>exact decide_eq_true (VZ k rfl)
  have ZD:v7 ⟨(p:Int),(i:Int),cc,us⟩ = (p * 100 + i) * 100 + xv cc:=by
   unfold v7
   show(((p:Int)).toNat * 100 + ((i:Int)).toNat) * 100 + xv cc=_
   rw[toNat_natCast,toNat_natCast]
  have hOn:=Mm.snoc (r:=⟨(p:Int),(i:Int),cc,us⟩) (by rw[ZD];omega) Ep (by show us.length <= 40;omega)
  refine⟨_,_,_,Cv ++ [.ref tt],rs ++ [⟨(p:Int),(i:Int),cc,us⟩],λb o e=>by rw[ah (aj e hD)];exact u6 _ _ (sb _ _ e),ad,?_,?_,?_,hOn.up (by rw[ZD,hls];omega),rfl⟩
  ·rw[ah nO];exact u6 _ _ Lb
  ·rw[ah nC];exact u6 _ _ R7
  ·have hRf:=E9.snoc (r:=⟨(p:Int),(i:Int),cc,us⟩) ⟨tt,Wa,rfl,⟨gT,ZA⟩,nW⟩ (PB.same u6)
   exact E9.off ZC hRf
noncomputable def TC(ts:Ts)(tn:ia):Bool->Addr
 | true=>tn.near
 | false=>ts.told
def JJ(P:Program)(w:World)(ts:Ts)(tn:ia):Bool->TJ
 | true=>Mg P w tn
 | false=>CI P w ts
noncomputable def okE(n:Nat)(e:Nat × Nat):eE n (zp e)=true↔(e.1 < n/\e.2 < n/\e.1 ≠ e.2):=by
 unfold eE zp
 simp only[Bool.and_eq_true,decide_eq_true_eq,Bool.not_eq_true',decide_eq_false_iff_not]
 constructor
 ·rintro⟨⟨h1,h2⟩,⟨h3,h4⟩,h5⟩;exact⟨by omega,by omega,λz=>h5 (by rw[z])⟩
 ·rintro⟨h1,h2,h3⟩;exact⟨⟨by omega,by omega⟩,⟨by omega,by omega⟩,by omega⟩
noncomputable def x8(n:Nat)(kvs:List eD):Wf:=λp g k=>if p < n/\g < n then Py kvs p g k else []
theorem uv(h:nE n es kvs n)(p g:Nat)(k:Option Nat):(∀z ∈ x8 n kvs p g k,z < es.length)/\(x8 n kvs p g k).length <= es.length:=by
 have h1:∀z ∈ x8 n kvs p g k,z < es.length:=λz hz=>by
  unfold x8 at hz
  by_cases KR:p < n/\g < n
  ·rw[if_pos KR]at hz;exact zV h KR.2 hz
  ·rw[if_neg KR]at hz;cases hz
 refine⟨h1,eO _ _ ?_ h1⟩
 unfold x8
 by_cases KR:p < n/\g < n
 ·rw[if_pos KR];exact oU _
 ·rw[if_neg KR];exact nodup_nil
def BP(n:Nat)(ps:List (Int × Int))(wy:Wf):Prop:=∀(p g:Nat)(k:Option Nat),p < n->g < n->(wy p g k).Pairwise (· < ·)/\(∀z ∈ wy p g k,z ∈ eu Prod.fst ps p)/\(p=g->wy p g k=[])
theorem uC{n:Nat}(h:∀r ∈ rs,dY n ps r=true):BP n ps (nH rs):=λp g k _ _=>by
 have at':∀z ∈ nH rs p g k,∃r ∈ rs,r.p=(p:Int)/\r.g=(g:Int)/\z ∈ r.s:=λz hz=>by
  obtain⟨r,e,hs⟩:=DH (rs:=rs).mp hz
  have ek:nj r=((p:Int),(g:Int),k):=eN (fY e)
  exact⟨r,cE e,congrArg (·.1) ek,congrArg (·.2.1) ek,hs⟩
 refine⟨Yd.DP _ _,λz hz=>?_,λe=>eq_nil_iff_forall_not_mem.mpr λz hz=>?_⟩
 ·obtain⟨r,hr,e1,_,hs⟩:=at' z hz
  have hf:=h r hr
  unfold dY at hf
  rw[Bool.and_eq_true,Bool.and_eq_true,all_eq_true]at hf
  rw[←e1]
  exact of_decide_eq_true (hf.2.2 z hs)
 ·obtain⟨r,hr,e1,e2,hs⟩:=at' z hz
  have hf:=h r hr
  unfold dY eE at hf
  simp only[Bool.and_eq_true,decide_eq_true_eq,Bool.not_eq_true',decide_eq_false_iff_not]at hf
  have:=hf.1.2.2
  omega
theorem wz(h:nE n es kvs n):BP n (es.map zp) (x8 n kvs):=λp g k hp hg=>by
 unfold x8
 rw[if_pos ⟨hp,hg⟩]
 obtain⟨fs,hF,e,_⟩:=lZ h hg p k
 rw[e]
 refine⟨jC es fs p,λz hz=>?_,λe2=>?_⟩
 ·have Ht:z ∈ fF es p:=by
   unfold jD at hz
   cases hl:lk fs p with
   | none=>rw[hl]at hz;cases hz
   | some d=>rw[hl]at hz;exact(mem_filter.mp hz).1
  obtain⟨h1,h2⟩:=mem_filter.mp Ht
  refine mem_filter.mpr ⟨by rw[length_map];exact h1,?_⟩
  rw[lV]
  exact decide_eq_true (by have:=of_decide_eq_true h2;show((es.getD z (0,0)).1:Int)=(p:Int);rw[this])
 ·subst e2
  unfold jD
  rw[hF.g0]
  refine eq_nil_iff_forall_not_mem.mpr λz hz=>?_
  have h2:=(mem_filter.mp hz).2
  unfold jm at h2
  split at h2
  ·have:=of_decide_eq_true h2;omega
  ·cases h2
noncomputable def xm(wy:Wf)(p g:Nat):List (Int × Int):=if p ≠ g/\wy p g none ≠ [] then [((p:Int),(g:Int))] else []
noncomputable def lm(wy:Wf)(n i:Nat):List (Int × Int):=(List.range i).flatMap λp=>(List.range n).flatMap (xm wy p)
inductive pW(P:Program)(w:World)(K:Frag)(c:Cs)(ts:Ts)(tn:ia)(vs:List V)(H:Hp)(Q:VK)(E:XK):Prop
 | mk (sc:Addr) (ns:List Int) (_:vs=[.ref sc]) (_:Cb K H sc (ns.map V.int)) (_:∀(b:Bool)(x lx Cr lt:Addr)(n:Nat)(Cf:List V)(ps:List (Int × Int))(wy:Wf)(H':Hp),BX H H'->H x=none->CK c (TC ts tn b) (JJ P w ts tn b) H' x lx Cr lt n Cf ps wy->(∀p g k,(wy p g k).length <= 400)->((∀p ∈ ps,eE n p=true)/\BP n ps wy)->ps.length <= 8->2 <= n->n <= 5->Q (.ref x) H')
structure ZE(P:Program)(w:World)(K:Frag)(mg:Str->Option Value)(base:Heap)(c:Cs)(ts:Ts)(tn:ia)(fc fl fi fn ft fr:Addr)(dc dl di dn dt dr:FuncData):Prop where
 mc:mg "_law_cell_at" = some (.ref fc)
 kc:keepIn K (.ref fc)=true
 bc:Binds K dc ["_law_script", "_law_k"] []
 Gc:BY P w K mg base ay 1 fc dc ["_law_script", "_law_k"] (pY K)
 ml:mg "_law_lanes" = some (.ref fl)
 kl:keepIn K (.ref fl)=true
 bl:Binds K dl ["_law_places", "_law_amount", "_law_cell"] []
 Gl:BY P w K mg base ay 2 fl dl ["_law_places", "_law_amount", "_law_cell"] rB
 mi:mg "Land" = some (.ref c.land)
 Mi:Mk K c.land fi
 bi:Binds K di ["self", "places", "lanes"] []
 Gi:BY P w K mg base ay 4 fi di ["self", "places", "lanes"] (mB K c)
 mn:mg "Nearer" = some (.ref tn.near)
 Mn:Mk K tn.near fn
 bn:Binds K dn ["self", "land"] []
 Gn:BY P w K mg base ay 3 fn dn ["self", "land"] (uR P w c tn)
 mt:mg "Told" = some (.ref ts.told)
 Mt:Mk K ts.told ft
 bt:Binds K dt ["self", "land", "rows"] []
 Gt:BY P w K mg base ay 5 ft dt ["self", "land", "rows"] (mz P w K c ts)
 mr:mg "_law_rows" = some (.ref fr)
 kr:keepIn K (.ref fr)=true
 br:Binds K dr ["_law_places", "_law_lanes_here", "_law_cell"] []
 Gr:BY P w K mg base ay 2 fr dr ["_law_places", "_law_lanes_here", "_law_cell"] uN
def j1(a:YA)(ps:List (Int × Int)):Prop:=∀p ∈ ps,∃x y:Nat,p=((x:Int),(y:Int))/\x < a.n/\y < a.n/\x ≠ y/\a.wy x y none ≠ []
inductive jx(c:Cs)(C:Addr)(J:TJ)(vs:List V)(H:Hp)(Q:VK)(E:XK):Prop
 | mk (a:YA) (_:vs=[.ref a.tb]) (_:zS c C J H a) (_:∀(D:Addr)(De:List V)(H':Hp),BX H H'->H D=none->H' D=some (.lst De)->Cw H' De (lm a.wy a.n a.n)->(lm a.wy a.n a.n).length <= 1000->Q (.ref D) H')
inductive ir(c:Cs)(C:Addr)(J:TJ)(vs:List V)(H:Hp)(Q:VK)(E:XK):Prop
 | mk (a:YA) (cl:Int) (_:vs=[.ref a.tb, .int cl]) (_:zS c C J H a) (_:∀(D:Addr)(rs:List Int)(H':Hp),BX H H'->H D=none->H' D=some (.lst (rs.map V.int))->rs.length=a.ps.length->(∀r ∈ rs,1 <= r/\r <= 60)->Q (.ref D) H')
theorem IX:au ["_law_script", "_law_places", "_law_lanes_here", "_law_land"] ["_law_script"] (ai vv):=L2.C3
theorem y1(F:C2 K "_law_table" "_law_table" vv f fd)(M:ZE P w K mg base c ts tn fc fl fi fn ft fr dc dl di dn dt dr) :
  BY P w K mg base ay 7 f fd ["_law_script"] (pW P w K c ts tn):=by
 refine F.ok IX (λ_ _ _ _ h=>?_) (λ_ _ _ s H _ Q E hr h=>?_)
 ·obtain⟨sc,ns,rfl,_⟩:=h
  rfl
 ·obtain⟨sc,ns,rfl,hS,q⟩:=h
  have CC:Cj 1 _:=hr.mono (by decide)
  have CY:Cj 2 _:=hr.mono (by decide)
  have E5:Cj 4 _:=hr.mono (by decide)
  have HH:Cj 5 _:=hr.mono (by decide)
  refine⟨_,ae (aD (i:=1) IX.nd rfl (Or.inl rfl) (aJ cn ak (aJ bL (aq M.Gc CC rfl M.mc M.kc M.bc .nil ap (aa (pv 0) (aa ak ac))) ak)))
   (ae (aD (i:=2) IX.nd rfl (Or.inl rfl) (aq M.Gl CY rfl M.ml M.kl M.bl .nil ap (aa (pv 1) (aa (aJ bL (aJ eA (aq M.Gc CC rfl M.mc M.kc M.bc .nil ap (aa (pv 0) (aa ak ac))) ak) ak) (aa (aq M.Gc CC rfl M.mc M.kc M.bc .nil ap (aa (pv 0) (aa ak ac))) ac)))))
   (ae (aD (i:=3) IX.nd rfl (Or.inl rfl) (c8 M.Mi M.Gi HH rfl M.mi M.bi .nil ap (aa (pv 1) (aa (pv 2) ac))))
   (ae (aR (ax bz (aJ bL (aq M.Gc CC rfl M.mc M.kc M.bc .nil ap (aa (pv 0) (aa ak ac))) ak) ak (aA _)) (af (av (c8 M.Mn M.Gn E5 rfl M.mn M.bn .nil ap (aa (pv 3) ac)))) aF)
   (af (av (c8 M.Mt M.Gt hr rfl M.mt M.bt .nil ap (aa (pv 3) (aa (aq M.Gr CY rfl M.mr M.kr M.br .nil ap (aa (pv 1) (aa (pv 2) (aa (aJ eA (aq M.Gc CC rfl M.mc M.kc M.bc .nil ap (aa (pv 0) (aa ak ac))) ak) ac)))) ac)))))))),?_⟩
  refine⟨_,rfl,sc,ns,0,rfl,hS,λd0=>⟨_,_,rfl,rfl,(by show (0:Int) < 4;decide),_,_,rfl,rfl,?_⟩⟩
  obtain⟨n,hn,Gz,Mj⟩:∃n:Nat,(2:Int) + d0 % 4=(n:Int)/\2 <= n/\n <= 5:=⟨(2 + d0 % 4).toNat,by omega,by omega,by omega⟩
  dsimp only
  rw[hn]
  refine⟨_,rfl,_,rfl,sc,ns,0,rfl,hS,λd1=>⟨_,_,rfl,rfl,⟨by decide,by decide⟩,_,_,rfl,rfl,(by show (0:Int) < 9;decide),_,rfl,sc,ns,1,rfl,hS,λd2=>?_⟩⟩
  obtain⟨m,hm,hm9⟩:∃m:Nat,d1 / 4 % 9=(m:Int)/\m < 9:=⟨(d1 / 4 % 9).toNat,by omega,by omega⟩
  refine⟨n,m,d2,by rw[←hm];rfl,Gz,by omega,by omega,λl Ct es H1 s1 nl gl He Er Di JO=>?_⟩
  have G8:Ct.length=es.length:=by rw[Paired.length He,length_map]
  have Df:(es.map zp).length=es.length:=length_map ..
  have Ci:∀p ∈ es.map zp,eE n p=true:=λp hp=>by
   obtain⟨e,he,rfl⟩:=mem_map.mp hp
   exact(okE n e).mpr ⟨(Er e he).1,(Er e he).2,Di e he⟩
  have gd:=wY (ps:=es.map zp) (n:=n) (by omega) (by omega) (by omega) Ci
  refine⟨_,rfl,_,rfl,λxl DZ nx GA Fz=>?_⟩
  have s2:BX H1 (upd (upd H1 DZ (.own xl)) xl (.ins c.land DZ [])):=BX.new (BX.new (BX.refl H1) GA) (by rw[ah (Ne.symm Fz)];exact nx)
  refine⟨xl,DZ,(n:Int),l,Ct,_,rfl,ad,Cb.of (s2 _ _ gl),Cw.same s2 He,by omega,(λh=>by rw[gd]at h;cases h),(λk h=>by rw[gd]at h;cases h),(λk h=>by rw[gd]at h;cases h),λ_ H3 lt Cf off hL=>⟨rfl,?_⟩⟩
  have s3:BX H1 H3:=λb o e=>off b o (aj e nx) (s2 _ _ e)
  have Mo:=s1.trans s3
  refine⟨_,rfl,sc,ns,2,rfl,Mo.seq hS,λd3=>⟨_,_,rfl,rfl,(by show (0:Int) < 2;decide),rfl,_,rfl,?_⟩⟩
  cases hb:decide (V.int (d3 % 2)=V.int 0) with
  | true =>
   refine aN ⟨_,rfl,λtb HN nt Wg Wh=>?_⟩
   have s4:BX H3 (upd (upd H3 HN (.own tb)) tb (.ins tn.near HN [])):=BX.new (BX.new (BX.refl H3) Wg) (by rw[ah (Ne.symm Wh)];exact nt)
   refine⟨tb,HN,xl,DZ,lt,Cf,n,es,rfl,ad,⟨s4 _ _ hL.1,s4 _ _ hL.2.1,Cw.same s4 hL.2.2⟩,Er,by omega,by omega,λH5 de kvs Wi ZF hE=>⟨rfl,?_⟩⟩
   have s5:BX H3 H5:=λb o e=>Wi b o (aj e nt) (s4 _ _ e)
   refine q true tb xl DZ lt n Cf (es.map zp) (x8 n kvs) H5 (Mo.trans s5) (Mo.free nt) ⟨⟨HN,xl,de,kvs,es,ZF,hE,by omega,λp g k hp hg=>by unfold x8;rw[if_pos ⟨hp,hg⟩]⟩,⟨HN,_,ZF.1,rfl,rfl⟩,⟨s5 _ _ hL.1,s5 _ _ hL.2.1,Cw.same s5 hL.2.2⟩,by omega,by omega,λp g k _ _ z hz=>by rw[Df];exact(uv hE p g k).1 z hz⟩ (λp g k=>by have:=(uv hE p g k).2;omega) ⟨Ci,wz hE⟩ (by omega) Gz Mj
  | false =>
   refine aH ⟨_,rfl,_,rfl,_,rfl,_,rfl,sc,ns,2,rfl,Mo.seq hS,λd4=>⟨_,_,rfl,rfl,⟨by decide,by decide⟩,?_⟩⟩
   refine⟨l,Ct,es.map zp,n,_,rfl,s3 _ _ gl,Cw.same s3 He,Ci,by omega,Gz,Mj,λD Cv rs H4 s4 hD gD hR hO=>?_⟩
   have E6:Cv.length=rs.length:=Paired.length hR
   have hrm:=hO.len
   refine λtb HN nt Wg Wh=>?_
   have s6:BX H4 (upd (upd H4 HN (.own tb)) tb (.ins ts.told HN [])):=BX.new (BX.new (BX.refl H4) Wg) (by rw[ah (Ne.symm Wh)];exact nt)
   have Wj:=s4.trans s6
   refine⟨tb,HN,xl,DZ,lt,D,(n:Int),Cf,Cv,es.map zp,rs,rfl,ad,⟨Wj _ _ hL.1,Wj _ _ hL.2.1,Cw.same Wj hL.2.2⟩,Cb.of (s6 _ _ gD),Eb.same s6 hR,by omega,by omega,λr hr=>⟨λk hk=>by have:=lK (hO.fit r hr) k hk;omega,by have:=hO.C6 r hr;omega⟩,(λi e=>by rw[hO.good]at e;cases e),λ_ H7 de kvs Wk ZG hd7 hv7=>⟨rfl,?_⟩⟩
   have s7:BX H4 H7:=λb o e=>Wk b o (aj e nt) (s6 _ _ e)
   have R8:=s4.trans s7
   have IL:∀r ∈ rs,∀k ∈ r.s,k < (es.map zp).length:=λr hr=>lK (hO.fit r hr)
   refine q false tb xl DZ lt n Cf (es.map zp) (nH rs) H7 (Mo.trans R8) (Mo.free (s4.free nt)) ⟨⟨HN,de,_,kvs,rs,ZG,hd7,hv7,(λr hr k hk=>by have:=IL r hr k hk;omega),rfl⟩,⟨HN,_,ZG,rfl,rfl⟩,⟨R8 _ _ hL.1,R8 _ _ hL.2.1,Cw.same R8 hL.2.2⟩,by omega,by omega,λp g k _ _ z hz=>(lY IL p g k).1 z hz⟩ (λp g k=>by have:=(lY IL p g k).2;omega) ⟨Ci,uC hO.fit⟩ (by omega) Gz Mj
abbrev NBg:List Str:=["_law_table_here", "_law_found", "_law_place", "_law_goal"]
theorem IY:au NBg ["_law_table_here"] (ai qq):=L2.C3
theorem wq(F:C2 K "_law_begins" "_law_begins" qq f fd)(T:Txt mg)(L:lc K c)(W:Wy K C fw dw J)(Gw:BY P w K mg base ay 3 fw dw ["self", "place", "goal", "came"] (cT J)) :
  BY P w K mg base ay 4 f fd ["_law_table_here"] (jx c C J):=by
 refine F.ok IY (λ_ _ _ _ h=>?_) (λ_ _ _ s H _ Q E hr h=>?_)
 ·obtain⟨a,rfl,_⟩:=h
  rfl
 ·obtain⟨a,rfl,hT,q⟩:=h
  have hu:=hr.units
  have hn:=hT.EZ
  refine⟨_,ae (aD (i:=1) IY.nd rfl (Or.inl rfl) (aU ac))
   (ae (b0 PassesOwn.never rfl (aO rfl T.range (aa (al (al (pv 0) rfl) rfl) ac)) (aw (i:=2) IY.nd rfl (Or.inl rfl))
    (af (b0 PassesOwn.never rfl (aO rfl T.range (aa (al (al (pv 0) rfl) rfl) ac)) (aw (i:=3) IY.nd rfl (Or.inl rfl))
     (af (aR (j0 (PW.pt (iQ (ax jk (pv 2) (pv 3) (aA _)) (gn (ax (vM hu) (aC (pv 0) W.cl W.m Gw hr W.b .nil ap (aa (pv 2) (aa (pv 3) (aa bP ac)))) (aU ac) (aA _))))))
      (af (aP (bW plainAttrs_list PySem.F.slot_list_append PySem.F.type_list_append bQ (pv 1) (aa (bF (aa (pv 2) (aa (pv 3) ac))) ac)))) aF)))))
   (af (av (pv 1)))),?_⟩
  obtain⟨EE,fst,E7,C4,Ds⟩:=hT.i
  refine⟨zero_le _,λD hD=>?_⟩
  have s0:=(BX.refl H).new (o := .lst []) hD
  have g0:(upd H D (.lst [])) D=some (.lst []):=ad
  show dF 1 (V.ref D) _ _ _
  generalize upd H D (.lst [])=H0 at s0 g0 ⊢
  refine⟨_,rfl,a.tb,C,EE,fst,_,rfl,s0 _ _ E7,W.cl,W.nl,C4,a.lx,c.land,a.Cr,_,_,rfl,s0 _ _ hT.l.1,L.cl,L.np,rfl,(a.n:Int),rfl,by omega,by omega,?_⟩
  rw[toNat_natCast]
  refine bu (n:=a.n) (λi σ H2=>∃(a2 a3:Option V)(De:List V)(bs:List (Int × Int)),BX H H2/\H2 D=some (.lst De)/\Cw H2 De bs/\bs=lm a.wy a.n i/\bs.length <= i * 12/\σ=[some (.ref a.tb),some (.ref D),a2,a3])
   ⟨none,none,[],[],s0,g0, .nil,rfl,by show 0 <= _;omega,rfl⟩ ?_ ?_
  rotate_left
  ·rintro σ H2 ⟨a2,a3,De,bs,s2,g2,hL,hP,Lc,rfl⟩
   subst hP
   exact⟨_,rfl,q D De H2 s2 hD g2 hL (by omega)⟩
  rintro i σ H2 hi ⟨a2,a3,De,bs,s2,g2,hL,hP,Lc,rfl⟩
  rw[zero_add]
  refine⟨_,rfl,a.tb,C,EE,fst,_,rfl,s2 _ _ E7,W.cl,W.nl,C4,a.lx,c.land,a.Cr,_,_,rfl,s2 _ _ hT.l.1,L.cl,L.np,rfl,(a.n:Int),rfl,by omega,by omega,?_⟩
  rw[toNat_natCast]
  refine bu (n:=a.n) (λj σ H3=>∃(a3:Option V)(De:List V)(bs:List (Int × Int)),BX H H3/\H3 D=some (.lst De)/\Cw H3 De bs/\bs=lm a.wy a.n i ++ (List.range j).flatMap (xm a.wy i)/\bs.length <= i * 12 + j/\σ=[some (.ref a.tb),some (.ref D),some (.int (i:Int)),a3])
   ⟨_,De,bs,s2,g2,hL,by rw[hP];exact(append_nil _).symm,by omega,rfl⟩ ?_ ?_
  rotate_left
  ·rintro σ H3 ⟨a3,De,bs,s3,g3,ES,R9,hb3,rfl⟩
   exact⟨_,_,De,bs,s3,g3,ES,by rw[R9];unfold lm;rw[range_succ,flatMap_append];simp,by omega,rfl⟩
  rintro j σ H3 hj ⟨a3,De,bs,s3,g3,ES,R9,hb3,rfl⟩
  rw[zero_add]
  have hbl3:De.length=bs.length:=Paired.length ES
  refine⟨λb H4=>BX H3 H4/\b=decide (i ≠ j/\a.wy i j none ≠ []),?_,?_⟩
  ·refine⟨_,rfl,_,rfl,rfl,_,rfl,?_⟩
   rw[bT]
   by_cases Rq:(i:Int)=(j:Int)
   ·rw[decide_eq_true Rq]
    exact aH ⟨BX.refl H3,by rw[decide_eq_false (λz=>z.1 (by omega))]⟩
   ·rw[decide_eq_false Rq]
    refine aN ⟨_,rfl,a.tb,EE,fst,rfl,s3 _ _ E7,Ds,_,rfl,_,rfl,a.tb,a.n,a.wy,i,j,none,rfl,(CK.keep W hT (BX.Cq s3)).j,hi,hj,λDw H4 s4 hDw ZH=>⟨zero_le _,λo7 RA=>?_⟩⟩
    have s5:=s4.new (o := .lst []) RA
    have PH:(upd H4 o7 (.lst [])) Dw=some (.lst (nV (a.wy i j none))):=by rw[ah (aj ZH RA)];exact ZH
    have g7:(upd H4 o7 (.lst [])) o7=some (.lst (([]:List Int).map V.int)):=ad
    generalize upd H4 o7 (.lst [])=H5 at s5 PH g7 ⊢
    refine⟨Dw,o7,iz (a.wy i j none),[],rfl,rfl,by rw[←lD];exact Cb.of PH,Cb.of g7,_,rfl,s5,?_⟩
    by_cases hw:a.wy i j none=[]
    ·rw[decide_eq_true (show iz (a.wy i j none)=[] by rw[hw];rfl),decide_eq_false (λz=>z.2 hw)];rfl
    ·rw[decide_eq_false (show ¬iz (a.wy i j none)=[] from λz=>hw (by unfold iz at z;exact map_eq_nil_iff.mp z)),decide_eq_true ⟨by omega,hw⟩];rfl
  rintro b H4 ⟨s4,rfl⟩
  by_cases hw:i ≠ j/\a.wy i j none ≠ []
  ·rw[decide_eq_true hw]
   refine aN ⟨_,rfl, .inl ⟨rfl,_,Cb.of (s4 _ _ g3)⟩,_,rfl,_,rfl,by show 2 <= sizeLine;decide,λt1 h1=>?_⟩
   have u1:=s4.new (o := .tup [.int (i:Int), .int (j:Int)]) h1
   have v1:(upd H4 t1 (.tup [.int (i:Int), .int (j:Int)])) t1=some (.tup [.int (i:Int), .int (j:Int)]):=ad
   generalize upd H4 t1 (.tup [.int (i:Int), .int (j:Int)])=H5 at u1 v1 ⊢
   have LO:=u1 _ _ g3
   have ZI:CD H5 (upd H5 D (.lst (De ++ [.ref t1]))):=oV LO
   refine⟨D,De,_,rfl,rfl,LO,by rw[sizeLine_eq];omega,?_⟩
   refine⟨_,De ++ [.ref t1],bs ++ [((i:Int),(j:Int))],λb o e=>by rw[ah (aj e hD)];exact u1 _ _ (s3 _ _ e),ad,Cw.snoc (p:=((i:Int),(j:Int))) ⟨t1,rfl,ZI _ _ v1 True.intro⟩ (ZI.G6 (Cw.same u1 ES)),by rw[R9,range_succ,flatMap_append,←append_assoc];unfold xm;simp[hw],by rw[length_append,length_singleton];omega,rfl⟩
  ·rw[decide_eq_false hw]
   exact aH ⟨_,De,bs,s3.trans s4,s4 _ _ g3,Cw.same s4 ES,by rw[R9,range_succ,flatMap_append];unfold xm;simp[hw],by omega,rfl⟩
theorem Wl:au ["_law_table_here", "_law_cell"] ["_law_table_here", "_law_cell"] (ai i5):=L2.C3
theorem Wm:CP ["_law_table_here", "_law_cell"] (ai i5) (xV ((aI i5).getD 0 (.Pass ⟨0,0,0,0⟩))) ["_law_cell"] [1]:=L2.Dp
theorem Wn:(["_law_lane", "_law_cell"]:List Str).Nodup:=by decide +kernel
theorem tK(F:C2 K "_law_rooms" "_law_rooms" i5 f fd)(T:Txt mg)(L:lc K c)(W:Wy K C fw dw J)(mm:mg "_law_mixed" = some (.ref fm))(km:keepIn K (.ref fm)=true)(bm:Binds K dm ["_law_cell", "_law_k"] [])(Gm:BY P w K mg base ay 1 fm dm ["_law_cell", "_law_k"] nU) :
  BY P w K mg base ay 2 f fd ["_law_table_here", "_law_cell"] (ir c C J):=by
 refine F.ok Wl (λ_ _ _ _ h=>?_) (λ_ _ _ s H _ Q E hr h=>?_)
 ·obtain⟨a,cl,rfl,_⟩:=h
  rfl
 ·obtain⟨a,cl,rfl,hT,q⟩:=h
  have h40:=hT.C6
  refine⟨_,af (av (aT (own:=["_law_lane"]) (capN:=["_law_cell"]) (cap:=[1]) Wm rfl (aO rfl T.range (aa (aE aB rfl T.len PySem.boot_len (aa (al (al (pv 0) rfl) rfl) ac)) ac)) (λC s' H' fp=>⟨aw (i:=0) Wn rfl (Or.inl rfl),bd,aJ cn ak (aJ bL (aq Gm hr rfl mm km bm .nil ap (aa (pv 1) (aa (pv 0) ac))) ak)⟩))),?_⟩
  obtain⟨EE,fst,E7,C4,Ds⟩:=hT.i
  have Wo:a.Cf.length=a.ps.length:=Paired.length hT.l.2.2
  refine⟨_,rfl,a.tb,C,EE,fst,_,rfl,E7,W.cl,W.nl,C4,a.lx,c.land,a.Cr,_,_,rfl,hT.l.1,L.cl,L.nl,rfl,a.lt,_,rfl, .inr (Ck.of hT.l.2.1),((a.Cf.length:Nat):Int),rfl,by omega,by omega,?_⟩
  rw[toNat_natCast,Wo]
  refine aX a.ps.length (by rw[sizeLine_eq];omega) (λi acc H'=>H' = H/\∃rs:List Int,acc=rs.map V.int/\rs.length=i/\∀r ∈ rs,1 <= r/\r <= 60) ⟨rfl,[],rfl,rfl,λr hr=>by cases hr⟩ (λi acc H' h=>by obtain⟨_,rs,rfl,e,_⟩:=h;rw[length_map];omega) (λi acc H' hi h=>?_) (λacc H' h=>?_)
  ·obtain⟨rfl,rs,rfl,e,Ku⟩:=h
   refine⟨hi,λv H2 y=>?_⟩
   obtain⟨rfl,rfl⟩:=y
   rw[zero_add]
   refine⟨_,rfl,_,rfl,cl,i,rfl,by omega,λd hd=>⟨_,_,rfl,rfl,(by show (0:Int) < 3;decide),_,_,rfl,rfl,rfl,rs ++ [1 + d % 3],by rw[map_append];rfl,by rw[length_append,e];rfl,λr hr=>?_⟩⟩
   rcases mem_append.mp hr with hr | hr
   ·exact Ku r hr
   ·rw[mem_singleton.mp hr];omega
  ·obtain⟨rfl,rs,rfl,e,Ku⟩:=h
   exact⟨le_refl _,λD hD=>q D rs _ ((BX.refl H').new hD) hD ad e Ku⟩
inductive Run(a:YA)(s:YS):List Dd->YS->Prop
 | nil:Run a s [] s
 | snoc {ds:List Dd} {s1 s2:YS} {d:Dd} (h:Run a s ds s1) (l:D7 a s1 d) (st:CB a s1 d s2):Run a s (ds ++ [d]) s2
noncomputable def mR(bs:List (Int × Int))(d:Int):Dd := .post (bs.getD (d / 4 % (bs.length:Int)).toNat (0,0)).1.toNat (bs.getD (d / 4 % (bs.length:Int)).toNat (0,0)).2.toNat (1 + d % 4) (d / 4 % 10 ^ (60:Int).toNat)
noncomputable def kT(bs:List (Int × Int))(ns:List Int):List Dd:=if bs.isEmpty then [] else ns.map (mR bs)
theorem zc{ns:List Int}(h:ns[i]? = some d):kT bs (ns.take (i + 1))=kT bs (ns.take i) ++ (if bs.isEmpty then [] else [mR bs d]):=by
 unfold kT
 rw[take_succ,h]
 cases bs.isEmpty<;>simp
theorem wZ(bs:List (Int × Int))(ns:List Int):(kT bs ns).length <= ns.length:=by
 unfold kT
 split
 ·exact zero_le _
 ·rw[length_map];exact le_refl _
inductive m5(K:Frag)(c:Cs)(TC:Addr)(J:TJ)(ys:Ys)(vs:List V)(H:Hp)(Q:VK)(E:XK):Prop
 | mk (a:YA) (s:YS) (bg cs:Addr) (De:List V) (bs:List (Int × Int)) (ns:List Int) (_:vs=[.ref a.y, .ref bg, .ref cs]) (_:CQ K ys H a s) (_:zS c TC J H a) (_:CN a s) (_:H bg=some (.lst De)) (_:Cw H De bs) (_:j1 a bs) (_:bs.length <= 1000) (_:bg ∉ a.four) (_:H cs=some (.lst (ns.map V.int))) (_:cs ∉ a.four) (_:ns.length <= 10) (_:s.U.length + ns.length <= 59) (_:s.done.length <= 9000) (_:∀(H':Hp)(s':YS),Cn [a.le,a.dn] H H'->CQ K ys H' a s'->CN a s'->Run a s (kT bs ns) s'->Q .Cp H')
abbrev NLp:List Str:=["_law_yard", "_law_begins_here", "_law_cells", "_law_cell", "_law_start", "_law_goal"]
theorem IZ:au NLp ["_law_yard", "_law_begins_here", "_law_cells"] (ai mJ):=L2.C3
theorem yp{TC f fw fp:Addr}(F:C2 K "_law_posts" "_law_posts" mJ f fd)(T:Txt mg)(Y:iL K ys)(W:Wy K TC fw dw J)
  (mp:bC K ys.Ca "post" fp) (bp:Binds K dp BS []) (Gp:BY P w K mg base ay 4 fp dp BS (m6 K c TC J ys)) :
  BY P w K mg base ay 5 f fd ["_law_yard", "_law_begins_here", "_law_cells"] (m5 K c TC J ys):=by
 refine F.ok IZ (λ_ _ _ _ h=>?_) (λ_ _ _ s H _ Q E hr h=>?_)
 ·obtain⟨a,s,bg,cs,De,bs,ns,rfl,_⟩:=h
  rfl
 ·obtain⟨a,st,bg,cs,De,bs,ns,rfl,hY,hT,hJ,gbg,Ld,hpo,Lc,nbg,ZJ,ncs,hnl,L7,hdl0,q⟩:=h
  have hu:=hr.units
  refine⟨_,af (b0 PassesOwn.never rfl (aW (pv 2)) (aw (i:=3) IZ.nd rfl (Or.inl rfl))
   (af (aR (ax (iU hu) (pv 1) (aU ac) (aA _))
    (ae (mQ (az aK (pv 1) (aJ bL (aJ eA (pv 3) ak) (aE aB rfl T.len PySem.boot_len (aa (pv 1) ac))) (λ_ _=>rfl)) (iS rfl (bV (aw (i:=4) IZ.nd rfl (Or.inl rfl)) (bV (aw (i:=5) IZ.nd rfl (Or.inl rfl)) gq))))
    (af (aP (aC (pv 0) Y.cl mp Gp hr bp .nil ap (aa (pv 4) (aa (pv 5) (aa (aJ cn ak (aJ bL (pv 3) ak)) (aa (aJ bL (aJ eA (pv 3) ak) (aJ qv ak ak)) ac)))))))) aF))),?_⟩
  refine⟨_,rfl,cs,rfl,⟨_,Cb.of ZJ⟩,?_⟩
  refine dB (K:=K) (a:=cs) (xs:=ns.map V.int) (λi σ H2=>∃(a4 a5 a6:Option V)(s2:YS),Cn [a.le,a.dn] H H2/\H2 cs=some (.lst (ns.map V.int))/\H2 bg=some (.lst De)/\CQ K ys H2 a s2/\CN a s2/\Run a st (kT bs (ns.take i)) s2/\s2.U.length <= st.U.length + i/\s2.done.length <= st.done.length + i/\σ=[some (.ref a.y),some (.ref bg),some (.ref cs),a4,a5,a6])
   ⟨none,none,none,st,BX.CF (BX.refl H),ZJ,gbg,hY,hJ,(by unfold kT;split<;>exact .nil),by omega,by omega,rfl⟩ (λi σ H2 _ Cc=>by obtain⟨_,_,_,_,_,g,_⟩:=Cc;exact Cb.of g) ?_ ?_
  rotate_left
  ·rintro σ H2 ⟨a4,a5,a6,s2,o2,_,_,E8,RB,Dx,h1,h2,rfl⟩
   rw[length_map,take_length]at Dx
   exact q H2 s2 o2 E8 RB Dx
  rintro i v σ H2 hv ⟨a4,a5,a6,s2,o2,g2,PJ,E8,RB,Dx,h1,h2,rfl⟩
  have hi:i < ns.length:=by have:=(gQ0 hv);rw[length_map]at this;exact this
  have FW:=getElem?_eq_getElem hi
  rw[getElem?_map,FW]at hv
  generalize ns[i]=d at FW hv
  cases hv
  have Le:=zc (bs:=bs) FW
  have PK:∀b ∈ [a.le,a.dn],∃xs,H b=some (.lst xs):=λb hb=>by
   simp only[mem_cons,not_mem_nil,or_false]at hb
   rcases hb with rfl | rfl
   ·exact hY.DA _ (by simp)
   ·exact hY.DA _ (by simp)
  have hT2:zS c TC J H2 a:=CK.keep W hT (Cn.Cq PK o2)
  have Wq:Cw H2 De bs:=(Cn.Cq PK o2).G6 Ld
  have ZK:De.length=bs.length:=Paired.length Ld
  have pH:∀z:Addr,z ∉ a.four->z ∉ [a.le,a.dn]:=λz hz h=>hz (by simp only[mem_cons,not_mem_nil,or_false]at h ⊢;rcases h with h | h<;>simp[h])
  refine⟨_,rfl,zero_le _,λo7 RA=>?_⟩
  have s4:=(BX.refl H2).new (o := .lst []) RA
  have g7:(upd H2 o7 (.lst [])) o7=some (.lst []):=ad
  generalize upd H2 o7 (.lst [])=H4 at s4 g7 ⊢
  have HV:=Cg.same E8 s4
  have o4:Cn [a.le,a.dn] H H4:=o2.trans (BX.CF s4)
  have PL:=Cw.same s4 Wq
  refine neN (f:=kB) (l:=bs) (.lst (Cb.of (s4 _ _ PJ)) (eV PL)) (.lst (Cb.of g7) .nil) (sS _) ⟨_,rfl,?_⟩
  cases FI:bs.isEmpty with
  | true =>
   rw[FI,if_pos rfl,append_nil]at Le
   exact aH ⟨_,_,_,s2,o4,s4 _ _ g2,s4 _ _ PJ,HV,RB,by rw[Le];exact Dx,by omega,by omega,rfl⟩
  | false =>
  rw[FI,if_neg (by decide)]at Le
  have Fv:0 < De.length:=by
   rw[ZK]
   cases bs with
   | nil=>cases FI
   | cons _ _=>exact Nat.succ_pos _
  have np:(0:Int) < ((De.length:Nat):Int):=by omega
  have z1:=emod_nonneg (d / 4) (show((De.length:Nat):Int) ≠ 0 by omega)
  have z2:=emod_lt_of_pos (d / 4) np
  obtain⟨k,hk,hkm⟩:∃k:Nat,d / 4 % ((De.length:Nat):Int)=(k:Int)/\k < De.length:=⟨(d / 4 % ((De.length:Nat):Int)).toNat,by omega,by omega⟩
  have Wr:=getElem?_eq_getElem hkm
  obtain⟨pr,hpr,pt,hpe,Ft⟩:=Paired.at PL Wr
  rw[hpe]at Wr
  obtain⟨a',b',rfl,Ws,Wt,ID,hw⟩:=hpo pr (mem_of_getElem? hpr)
  have epo:mR bs d = .post a' b' (1 + d % 4) (d / 4 % 10 ^ (60:Int).toNat):=by
   unfold mR
   rw[←ZK,hk,toNat_natCast,getD_eq_getElem?_getD,hpr]
   rfl
  rw[epo]at Le
  refine aN ⟨_,rfl,_,rfl,_,_,rfl,rfl,⟨by decide,by decide⟩,_,rfl,bg,_,rfl, .inl (Cb.of (s4 _ _ PJ)),_,_,rfl,rfl,np,bg,De,(k:Int), .ref pt,rfl,congrArg V.int hk,Cb.of (s4 _ _ PJ),ao Wr,pt,_,rfl,Ck.of Ft,rfl,_,_,rfl,_,_,rfl,rfl,?_⟩
  refine⟨_,rfl,a.y,a.dy,_,rfl,HV.ins,rfl,_,rfl,_,rfl,_,rfl,_,_,rfl,rfl,(by show (0:Int) < 4;decide),_,_,rfl,rfl,_,rfl,_,_,rfl,rfl,⟨by decide,by decide⟩,_,_,rfl,rfl,⟨by decide,by decide,by decide⟩,_,_,rfl,rfl,(by show (0:Int) < 10 ^ (60:Int).toNat;decide +kernel),?_⟩
  have w1:=emod_nonneg (d / 4) (show(10 ^ (60:Int).toNat:Int) ≠ 0 by decide +kernel)
  have w2:=emod_lt_of_pos (d / 4) (show (0:Int) < 10 ^ (60:Int).toNat by decide +kernel)
  have l1:=emod_nonneg d (show (4:Int) ≠ 0 by decide)
  have l2:=emod_lt_of_pos d (show (0:Int) < 4 by decide)
  dsimp only
  generalize d / 4 % 10 ^ (60:Int).toNat=wd at w1 w2 Le ⊢
  have EV:zK (.int wd)=true:=by
   unfold zK
   exact decide_eq_true (by rw[if_neg (by omega)];exact w2)
  obtain⟨len,hlen,LF⟩:∃len:Int,1 + d % 4=len/\1 <= len/\len <= 60:=⟨_,rfl,by omega,by omega⟩
  rw[hlen]at Le ⊢
  have gd:=l5 (n:=a.n) (wy:=a.wy) (m:=s2.U.length) Ws Wt LF EV ID hw (by omega)
  have Jv:zS c TC J H4 a:=CK.keep W hT2 (BX.Cq s4)
  have E4:s2.done.length <= 10000:=by omega
  refine⟨a.y,a.dy,a.tb,a.ro,a.la,a.le,a.li,a.dn,a.lx,a.Cr,a.lt,a.n,a.Cf,a.ps,a.wy,s2, .int a', .int b', .int len, .int wd,rfl,HV,Jv, .int _, .int _, .int _, .int _,by omega,E4,(λh=>by rw[gd]at h;cases h),(λh=>by rw[gd]at h;cases h),(λh=>by rw[gd]at h;cases h),(λh=>by rw[gd]at h;cases h),(λh=>by rw[gd]at h;cases h),λ_ H5 o5 IF=>?_⟩
  refine⟨_,_,_,k9 s2 a' b' len wd,o4.trans o5,o5 _ _ (pH _ ncs) (s4 _ _ g2),o5 _ _ (pH _ nbg) (s4 _ _ PJ),IF,RB.post Ws Wt ⟨by omega,LF.2⟩ (by omega),by rw[Le];exact .snoc Dx ⟨Ws,Wt,ID,hw,LF,EV,by omega⟩ rfl,?_,?_,rfl⟩
  ·show(s2.U ++ [_]).length <= _
   rw[length_append,length_singleton];omega
  ·show(s2.done ++ [_]).length <= _
   rw[length_append,length_singleton];omega
noncomputable def nL(n:Nat)(wy:Wf):bX->Nat
 | [some (Int.ofNat p),some (Int.ofNat g),none]=>if p < n/\g < n then Yd.C5 (wy p g none) 0 else 0
 | [some (Int.ofNat p),some (Int.ofNat g),some (Int.ofNat k)]=>if p < n/\g < n then Yd.C5 (wy p g (some k)) 0 else 0
 | _=>0
theorem zq(p g:Nat)(k:Option Nat):nL n wy (dD ((p:Int),(g:Int),k))=if p < n/\g < n then Yd.C5 (wy p g k) 0 else 0:=by
 cases k<;>rfl
section
theorem rf(h:BP n ps wy)(hp:p < n)(hg:g < n):wl (nL n wy) (dD ((p:Int),(g:Int),k))=wy p g k:=by
 unfold wl
 rw[zq,if_pos ⟨hp,hg⟩]
 exact oP (h p g k hp hg).1
theorem PM(h:BP n ps wy):Ag n ps wy (nL n wy):=λp g k hp hg _=>congrArg nV (rf h hp hg).symm
theorem uD(h:BP n ps wy):TabOk n ps (nL n wy) where
 zero p c:=by
  by_cases hp:p < n
  ·rw[rf h hp hp];exact(h p p c hp hp).2.2 rfl
  ·exact lW (by rw[zq,if_neg λz=>hp z.1])
 out p g c hp hg _ z hz:=by
  rw[rf h hp hg]at hz
  exact(h p g c hp hg).2.1 z hz
 lt k z hz:=by
  have cs:nL n wy k=0∨∃(p g:Nat)(c:Option Nat),k=dD ((p:Int),(g:Int),c)/\p < n/\g < n:=by
   unfold nL
   split
   ·split
    ·next hc=>exact .inr ⟨_,_,none,rfl,hc⟩
    ·exact .inl rfl
   ·split
    ·next hc=>exact .inr ⟨_,_,some _,rfl,hc⟩
    ·exact .inl rfl
   ·exact .inl rfl
  rcases cs with e | ⟨p,g,c,rfl,hp,hg⟩
  ·rw[lW e]at hz;cases hz
  ·rw[rf h hp hg]at hz
   exact hU ((h p g c hp hg).2.1 z hz)
theorem PN(h:BP n ps wy):Ag n ps wy (aM (bY n ps (nL n wy))):=λp g k hp hg hk=>(PM h p g k hp hg hk).trans (congrArg nV (sH (uD h) hp hg hk)).symm
structure Of(a:YA)(n:Nat)(ps:List (Int × Int))(wb:bX->Nat):Prop where
 ag:Ag n ps a.wy wb
 ps:a.ps=ps
 n:a.n=n
theorem nJ(o:Of a n ps wb)(o':Of a' n ps wb)(hp:p < n)(hg:g < n)(hk:k ∈ bG ps p):a'.wy p g k=a.wy p g k:=qD ((o'.ag p g k hp hg hk).trans (o.ag p g k hp hg hk).symm)
theorem oY(o:Of a n ps wb)(o':Of a' n ps wb)(J:CN a s){k:Nat}(ht:s.U[k]? = some t):cG a' t=cG a t:=by
 obtain⟨x,y,e1,e2,hx,hy⟩:=J.lets k t ht
 rw[o.n]at hx hy
 unfold cG
 rw[e1,e2,toNat_natCast,toNat_natCast,nJ o o' hx hy mem_cons_self]
theorem rj(o:Of a n ps wb)(o':Of a' n ps wb)(Ci:∀q ∈ ps,eE n q=true)(hn:n <= 12)(J:CN a s)(hk:k < s.lanes.length):du a' s k=du a s k:=by
 have HZ:k < ps.length:=by rw[←o.ps,←J.lanes];exact hk
 unfold du
 cases hq:ci s k with
 | none=>rfl
 | some q =>
  dsimp only
  cases ht:s.U[q.1.toNat]? with
  | none=>rfl
  | some t =>
   dsimp only
   have e:qw a' k t.goal.toNat=qw a k t.goal.toNat:=by
    obtain⟨x,y,e1,e2,hx,hy⟩:=J.lets _ t ht
    rw[o.n]at hy
    rw[e2,toNat_natCast]
    unfold qw
    rw[o.ps,o'.ps]
    have hm:=getElem_mem HZ
    have eg:ps.getD k (0,0)=ps[k]:=by rw[getD_eq_getElem?_getD,getElem?_eq_getElem HZ];rfl
    obtain⟨u,v,ev,hu,hv⟩:∃u v:Nat,ps[k]=((u:Int),(v:Int))/\u < n/\v < n:=by
     have h1:=Ci _ hm
     obtain⟨u,v,ev,_,_⟩:=i9 hn h1
     rw[ev]at h1
     unfold eE at h1
     simp only[Bool.and_eq_true,decide_eq_true_eq]at h1
     exact⟨u,v,ev,by omega,by omega⟩
    rw[eg,ev]
    dsimp only
    rw[toNat_natCast,nJ o o' hv hy (mem_cons_of_mem _ (mem_map.mpr ⟨k,mem_filter.mpr ⟨mem_range.mpr HZ,by rw[eg,ev];exact decide_eq_true rfl⟩,rfl⟩))]
   rw[e]
theorem kF(o:Of a n ps wb)(o':Of a' n ps wb)(Ci:∀q ∈ ps,eE n q=true)(hn:n <= 12)(J:CN a s):b5 a' s=b5 a s:=by
 unfold b5
 congr 1
 congr 1
 ·congr 1
  ·refine cP λk hk=>?_
   unfold iA
   cases ht:s.U[k]? with
   | none=>rfl
   | some t=>dsimp only;rw[oY o o' J ht]
  ·refine cP λk hk=>?_
   unfold iW
   rw[rj o o' Ci hn J (mem_range.mp hk)]
 ·refine cP λk hk=>?_
  unfold fG
  rw[o.ps,o'.ps]
theorem Ed.to(o:Of a n ps wb)(o':Of a' n ps wb)(Ci:∀q ∈ ps,eE n q=true)(hn:n <= 12)(J:CN a s)(h:Ed a s m s'):Ed a' s m s':=by
 cases h with
 | Dh ht hg hl C9 ho=>exact .Dh ht hg (by rw[oY o o' J ht];exact hl) C9 ho
 | on hk hq ht hl C9 ho=>exact .on hk hq ht (by rw[rj o o' Ci hn J (cx hk)];exact hl) C9 ho
 | DL hk hq ht hg he En=>exact .DL hk hq ht hg (by rw[o'.ps,←o.ps];exact he) En
 | back hk hb=>exact .back hk hb
theorem D7.to(o:Of a n ps wb)(o':Of a' n ps wb)(Ci:∀q ∈ ps,eE n q=true)(hn:n <= 12)(J:CN a s):∀{d:Dd},D7 a s d->D7 a' s d
 | .post p g l u,⟨h1,h2,h3,h4,h5⟩=>⟨by rw[o'.n,←o.n];exact h1,by rw[o'.n,←o.n];exact h2,h3,by rw[nJ o o' (by rw[←o.n];exact h1) (by rw[←o.n];exact h2) mem_cons_self];exact h4,h5⟩
 | .mv m,h=>by
  show m ∈ b5 a' s
  rw[kF o o' Ci hn J]
  exact h
theorem CB.to(o:Of a n ps wb)(o':Of a' n ps wb)(Ci:∀q ∈ ps,eE n q=true)(hn:n <= 12)(J:CN a s):∀{d:Dd},CB a s d s'->CB a' s d s'
 | .post _ _ _ _,h=>h
 | .mv m,⟨s1,h,e⟩=>⟨s1,h.to o o' Ci hn J,e⟩
theorem CG.step(h:CG n ps rs rm ds s)(o:Of a n ps (aM rs))(J:CN a s)(l:D7 a s d)(st:CB a s d s')(hm:ds.length < 100):CG n ps rs rm (ds ++ [d]) s':=by
 obtain⟨a0,f1,f2,f3,Mc⟩:=h.Pk
 have o0:Of a0 n ps (aM rs):=⟨by rw[f2];exact nB rs,f1,f3⟩
 exact⟨h.EZ,h.C6,h.GJ,h.fit,h.LZ,h.Rz,⟨a0,f1,f2,f3, .cons Mc (l.to o o0 h.GJ h.EZ.2 J) (st.to o o0 h.GJ h.EZ.2 J)⟩,by rw[length_append];show _ + 1 <= 100;omega⟩
theorem Run.pre(h:CG n ps rs rm ds s)(o:Of a n ps (aM rs))(J:CN a s)(hm:ds.length + es.length <= 100)(r:Run a s es s'):CG n ps rs rm (ds ++ es) s'/\CN a s':=by
 induction r with
 | nil=>rw[append_nil];exact⟨h,J⟩
 | snoc r l st ih =>
  rw[length_append,length_singleton]at hm
  obtain⟨h1,J1⟩:=ih (by omega)
  rw[←append_assoc]
  exact⟨h1.step o J1 l st (by rw[length_append];omega),CB.GG J1 l st⟩
theorem Ee.lets(h:Ee a rv ds s):s.U.length <= ds.length:=by
 induction h with
 | nil=>exact le_refl _
 | @cons ds s s1 d h l st ih =>
  rw[length_append,length_singleton]
  cases d with
  | post p g l u =>
   cases st
   show(s.U ++ [_]).length <= _
   rw[length_append,length_singleton];omega
  | mv m =>
   obtain⟨x,hx,rfl⟩:=st
   show x.U.length <= _
   rw[hx.len];omega
theorem CG.lets(h:CG n ps rs rm ds s):s.U.length <= ds.length:=by
 obtain⟨a0,_,_,_,t⟩:=h.Pk
 exact t.lets
theorem Run.to(o:Of a n ps wb)(o':Of a' n ps wb)(Ci:∀q ∈ ps,eE n q=true)(hn:n <= 12)(J:CN a s)(r:Run a s es s'):Run a' s es s':=by
 have:Run a' s es s'/\CN a s':=by
  induction r with
  | nil=>exact⟨.nil,J⟩
  | snoc r l st ih=>exact⟨.snoc ih.1 (l.to o o' Ci hn ih.2) (st.to o o' Ci hn ih.2),CB.GG ih.2 l st⟩
 exact this.1
theorem Run.det(h1:Run a s ds s1):∀{s2:YS},Run a s ds s2->s1=s2:=by
 induction h1 with
 | nil =>
  intro s2 h2
  generalize e:([]:List Dd)=z at h2
  cases h2 with
  | nil=>rfl
  | snoc h l st=>exact absurd e.symm (by simp)
 | @snoc ds t t' d h l st ih =>
  intro s2 h2
  generalize e:ds ++ [d]=z at h2
  cases h2 with
  | nil=>exact absurd e (by simp)
  | @snoc ds2 u u' d2 h' l' Eg =>
   obtain⟨rfl,rfl⟩:=nY e
   have:=ih h'
   subst this
   exact st.det Eg
theorem CG.sc(h:CG n ps rs rm ds s):∀d ∈ s.done,∀x ∈ d,zT x:=by
 rw[h.done.1]
 intro d hd
 obtain⟨z,_,rfl⟩:=mem_map.mp hd
 cases z with
 | mv m=>exact OM m
 | post p g l u =>
  intro x hx
  simp only[ue,mem_cons,not_mem_nil,or_false]at hx
  rcases hx with rfl | rfl | rfl | rfl | rfl
  ·exact .inr ⟨_,rfl,by decide +kernel⟩
  ·exact .inl ⟨_,rfl⟩
  ·exact .inl ⟨_,rfl⟩
  ·exact .inl ⟨_,rfl⟩
  ·exact .inl ⟨_,rfl⟩
theorem CG.dl(h:CG n ps rs rm ds s):s.done.length=ds.length:=by rw[h.done.1,length_map]
end
theorem sG(a:YA):j1 a (lm a.wy a.n a.n):=λpr hp=>by
 obtain⟨p,C7,hp⟩:=mem_flatMap.mp hp
 obtain⟨g,hg1,hp⟩:=mem_flatMap.mp hp
 unfold xm at hp
 split at hp
 ·next hc=>exact⟨p,g,mem_singleton.mp hp,mem_range.mp C7,mem_range.mp hg1,hc.1,hc.2⟩
 ·cases hp
theorem vK(o:Of a n ps wb)(o':Of a' n ps wb)(h:j1 a bs):j1 a' bs:=λpr hp=>by
 obtain⟨x,y,e,hx,hy,hn,hw⟩:=h pr hp
 exact⟨x,y,e,by rw[o'.n,←o.n];exact hx,by rw[o'.n,←o.n];exact hy,hn,by rw[nJ o o' (by rw[←o.n];exact hx) (by rw[←o.n];exact hy) mem_cons_self];exact hw⟩
mutual
theorem Den.same{K:Frag}{H H':Hp}(s:BX H H'):∀{v:V}{d:PyData},Den K H v d->Den K H' v d
 | _,_, .Cp => .Cp
 | _,_, .bl b => .bl b
 | _,_, .int i => .int i
 | _,_, .str x => .str x
 | _,_, .lst h r => .lst (s.seq h) (CW.same s r)
 | _,_, .tup h r => .tup (bD s h) (CW.same s r)
theorem CW.same{K:Frag}{H H':Hp}(s:BX H H'):∀{vs:List V}{ds:List PyData},CW K H vs ds->CW K H' vs ds
 | _,_, .nil => .nil
 | _,_, .cons h r => .cons (Den.same s h) (CW.same s r)
end
noncomputable def hD:Option Int->PyData
 | none => .none
 | some i => .int i
noncomputable def ZL(ln:cZ):PyData := .tuple [.int ln.r, .int ln.b,hD ln.h, .list (ln.qs.map kB)]
noncomputable def ZM(qs:List (Int × Int)):PyData := .list (qs.map kB)
noncomputable def vD:V->PyData
 | .int i => .int i
 | .str x => .str x
 | _ => .none
noncomputable def v6(m:List V):PyData := .tuple (m.map vD)
theorem sw{f:α->PyData}(h:∀v a,R v a->Den K H v (f a)):∀{vs:List V}{as:List α},Paired R vs as->CW K H vs (as.map f)
 | _,_, .nil => .nil
 | _,_, .cons x r => .cons (h _ _ x) (sw h r)
theorem PQ(h:Option Int):Den K H (hV h) (hD h):=by cases h<;>first | exact .Cp | exact .int _
theorem pf :∀{m:List V},(∀x ∈ m,zT x)->CW K H m (m.map vD)
 | [],_ => .nil
 | x :: m,h => .cons (by rcases h x mem_cons_self with ⟨i,rfl⟩ | ⟨t,rfl,_⟩<;>first | exact .int _ | exact .str _) (pf λy hy=>h y (mem_cons_of_mem _ hy))
theorem gA :∀{vs:List V}{ms:List (List V)},Paired (D6 H) vs ms->(∀m ∈ ms,∀x ∈ m,zT x)->CW K H vs (ms.map v6)
 | _,_, .nil,_ => .nil
 | _,_, .cons ⟨t,e,h⟩ r,hs => .cons (by subst e;exact .tup (Ck.of h) (pf (hs _ mem_cons_self))) (gA r λd hd=>hs d (mem_cons_of_mem _ hd))
theorem nZ(h:∀x ∈ m,zT x):DR (v6 m) 1:=by
 unfold v6
 refine c5 (m:=0) λy hy=>?_
 obtain⟨x,hx,rfl⟩:=mem_map.mp hy
 rcases h x hx with ⟨i,rfl⟩ | ⟨t,rfl,ht⟩
 ·exact bS _
 ·exact iu ht
theorem rE(qs:List (Int × Int)):DR (.list (qs.map kB)) 2:=bN (m:=1) λz hz=>by
 obtain⟨p,_,rfl⟩:=mem_map.mp hz
 exact c5 (m:=0) λy hy=>by
  simp only[mem_cons,not_mem_nil,or_false]at hy
  rcases hy with rfl | rfl<;>exact bS _
noncomputable def ZN(t:c7):PyData := .tuple [.int t.start, .int t.goal, .int t.len, .int t.word]
noncomputable def ZO(t:c7):PyData := .list (t.way.map λz:Nat => .int z)
noncomputable def PR(a:YA)(s:YS):PyData := .list [.list (s.lanes.map ZL), .list (s.U.map ZN), .list (s.U.map ZO), .list (s.lies.map ZM), .list ((b5 a s).map ut), .list (s.done.map v6)]
theorem Al(I0:∀d ∈ s.done,∀x ∈ d,zT x):DR (PR a s) 64:=(bN (m:=4) λy hy=>by
 simp only[mem_cons,not_mem_nil,or_false]at hy
 rcases hy with rfl | rfl | rfl | rfl | rfl | rfl
 ·refine bN (m:=3) λz hz=>?_
  obtain⟨ln,_,rfl⟩:=mem_map.mp hz
  refine c5 (m:=2) λy hy=>?_
  simp only[mem_cons,not_mem_nil,or_false]at hy
  rcases hy with rfl | rfl | rfl | rfl
  ·exact(bS _).le (by decide)
  ·exact(bS _).le (by decide)
  ·cases ln.h with
   | none=>exact Hu.le (by decide)
   | some z=>exact(bS _).le (by decide)
  ·exact rE _
 ·refine(bN (m:=1) λz hz=>?_).le (by decide)
  obtain⟨t,_,rfl⟩:=mem_map.mp hz
  refine c5 (m:=0) λx hx=>?_
  simp only[mem_cons,not_mem_nil,or_false]at hx
  rcases hx with rfl | rfl | rfl | rfl<;>exact bS _
 ·refine(bN (m:=1) λz hz=>?_).le (by decide)
  obtain⟨t,_,rfl⟩:=mem_map.mp hz
  refine bN (m:=0) λx hx=>?_
  obtain⟨u,_,rfl⟩:=mem_map.mp hx
  exact bS _
 ·refine(bN (m:=2) λz hz=>?_).le (by decide)
  obtain⟨qs,_,rfl⟩:=mem_map.mp hz
  exact rE _
 ·refine(bN (m:=1) λz hz=>?_).le (by decide)
  obtain⟨m,_,rfl⟩:=mem_map.mp hz
  exact jS m
 ·refine(bN (m:=1) λz hz=>?_).le (by decide)
  obtain⟨m,hm,rfl⟩:=mem_map.mp hz
  exact nZ (I0 m hm)).le (by decide)
theorem iI{α:Type}(f:α->PyData)(as:List α)(hn:as.length <= 900)
  (hs:∀(i:Nat)(a:α)(H1:Hp)(N:V->Hp->Prop),as[i]? = some a->BX H H1->(∀v H2,BX H1 H2->Den K H2 v (f a)->N v H2)->g (.int i) σ0 H1 λσ2 H2=>te σ2 H2 N)
  (hq:∀D H1,BX H H1->Den K H1 (.ref D) (.list (as.map f))->Q (.ref D) H1):dZ (uu 0 as.length) g nP te σ0 Q H :=
 xi (R:=λH v x=>Den K H v (f x)) (λs _ _ h=>Den.same s h) as (by rw[sizeLine_eq];omega) hs λD vs H1 s1 hD p=>hq D _ (s1.new hD) (.lst (Cb.of ad) (CW.same ((BX.refl H1).new hD) (sw (λ_ _ h=>h) p)))
structure ZP(P:Program)(w:World)(K:Frag)(mg:Str->Option Value)(base:Heap)(c:Cs)(TC:Addr)(J:TJ)(ys:Ys)(ft fw fp fy fl fm fh:Addr)(dt dw dp dy dl dm dh:FuncData):Prop where
 mt:bC K ys.Ca "lane_told" ft
 bt:Binds K dt ["self", "lane"] []
 Gt:BY P w K mg base ay 2 ft dt ["self", "lane"] (rC K ys)
 mw:bC K ys.Ca "way_told" fw
 bw:Binds K dw ["self", "number"] []
 Gw:BY P w K mg base ay 1 fw dw ["self", "number"] (uJ K ys)
 mp:bC K ys.Ca "posted" fp
 bp:Binds K dp ["self"] []
 Gp:BY P w K mg base ay 1 fp dp ["self"] (nS K ys)
 my:bC K ys.Ca "lying" fy
 UP:Binds K dy ["self", "place"] []
 Gy:BY P w K mg base ay 1 fy dy ["self", "place"] (r9 K ys)
 ml:bC K ys.Ca "letter_told" fl
 bl:Binds K dl ["self", "number"] []
 Gl:BY P w K mg base ay 1 fl dl ["self", "number"] (uV K ys)
 mm:bC K ys.Ca "moves" fm
 bm:Binds K dm ["self"] []
 Gm:BY P w K mg base ay 7 fm dm ["self"] (iq K c TC J ys)
 mh:bC K ys.Ca "history" fh
 bh:Binds K dh ["self"] []
 Gh:BY P w K mg base ay 1 fh dh ["self"] (jR K ys)
inductive jt(K:Frag)(c:Cs)(TC:Addr)(J:TJ)(ys:Ys)(vs:List V)(H:Hp)(Q:VK)(E:XK):Prop
 | mk (a:YA) (s:YS) (_:vs=[.ref a.y, .int (s.lanes.length:Nat), .int (s.lies.length:Nat)]) (_:F1 K c TC J ys H a s) (_:s.lanes.length <= 900) (_:s.lies.length <= 900) (_:s.U.length <= 900) (_:(∀d ∈ s.done,∀x ∈ d,zT x)) (_:∀(v:V)(H':Hp),BX H H'->Den K H' v (PR a s)->Q v H')
abbrev PU:List Str:=["_law_yard", "_law_lanes_here", "_law_places", "_law_ways", "_law_letters", "_law_told"]
noncomputable def v9(s:Stmt):Scope:=match s with
 | .Return (some (.List [_,_,_, .ListComp _ _ sc _,_,_] _)) _=>sc
 | _=>eC
theorem Ja:au PU ["_law_yard", "_law_lanes_here", "_law_places"] (ai dO):=L2.C3
theorem PV:CP PU (ai dO) (um ((aI dO).getD 0 (.Pass ⟨0,0,0,0⟩))) ["_law_yard"] [0]:=L2.Dp
theorem PX:CP PU (ai dO) (um ((aI dO).getD 1 (.Pass ⟨0,0,0,0⟩))) ["_law_yard"] [0]:=L2.Dp
theorem PY:CP PU (ai dO) (um ((aI dO).getD 2 (.Pass ⟨0,0,0,0⟩))) ["_law_yard"] [0]:=L2.Dp
theorem PZ:CP PU (ai dO) (v9 ((aI dO).getD 3 (.Pass ⟨0,0,0,0⟩))) ["_law_yard"] [0]:=L2.Dp
theorem zL:(["_law_number", "_law_yard"]:List Str).Nodup:=by decide +kernel
theorem Qa:(["_law_lane", "_law_yard"]:List Str).Nodup:=by decide +kernel
theorem Qb:(["_law_place", "_law_yard"]:List Str).Nodup:=by decide +kernel
theorem vU{TC f RC ft fw fp fy fl fm fh:Addr}(F:C2 K "_law_stand" "_law_stand" dO f fd)(T:Txt mg)(Y:iL K ys)(W':Wy K TC RC RD J)(S:ZP P w K mg base c TC J ys ft fw fp fy fl fm fh dt dw dp dy dl dm dh) :
  BY P w K mg base ay 8 f fd ["_law_yard", "_law_lanes_here", "_law_places"] (jt K c TC J ys):=by
 refine F.ok Ja (λvs H Q E h=>?_) (λcdv A outer s0 H vs Q E hr h=>?_)
 ·obtain⟨a,s,rfl,_⟩:=h
  rfl
 ·obtain⟨a,s,rfl,hI,O1,GU,Rj,I0,q⟩:=h
  have CC:Cj 1 _:=hr.mono (by decide)
  have CY:Cj 2 _:=hr.mono (by decide)
  refine⟨_,ae (ca (i:=3) (own:=["_law_number"]) (capN:=["_law_yard"]) (cap:=[0]) PV rfl Ja.nd rfl rfl (aO rfl T.range (aa (b6 (pv 0) Y.cl S.mp S.Gp CC S.bp .nil ap) ac)) (λC s' H' fp=>⟨aw (i:=0) zL rfl (Or.inl rfl),bd,aC (pv 1) Y.cl S.mw S.Gw CC S.bw .nil ap (aa (pv 0) ac)⟩))
   (ae (ca (i:=4) (own:=["_law_number"]) (capN:=["_law_yard"]) (cap:=[0]) PX rfl Ja.nd rfl rfl (aO rfl T.range (aa (b6 (pv 0) Y.cl S.mp S.Gp CC S.bp .nil ap) ac)) (λC s' H' fp=>⟨aw (i:=0) zL rfl (Or.inl rfl),bd,aC (pv 1) Y.cl S.ml S.Gl CC S.bl .nil ap (aa (pv 0) ac)⟩))
   (ae (ca (i:=5) (own:=["_law_lane"]) (capN:=["_law_yard"]) (cap:=[0]) PY rfl Ja.nd rfl rfl (aO rfl T.range (aa (pv 1) ac)) (λC s' H' fp=>⟨aw (i:=0) Qa rfl (Or.inl rfl),bd,aC (pv 1) Y.cl S.mt S.Gt CY S.bt .nil ap (aa (pv 0) ac)⟩))
   (af (av (aU (aa (pv 5) (aa (pv 4) (aa (pv 3) (aa (aT (own:=["_law_place"]) (capN:=["_law_yard"]) (cap:=[0]) PZ rfl (aO rfl T.range (aa (pv 2) ac)) (λC s' H' fp=>⟨aw (i:=0) Qb rfl (Or.inl rfl),bd,aC (pv 1) Y.cl S.my S.Gy CC S.UP .nil ap (aa (pv 0) ac)⟩)) (aa (b6 (pv 0) Y.cl S.mm S.Gm hr S.bm .nil ap) (aa (b6 (pv 0) Y.cl S.mh S.Gh CC S.bh .nil ap) ac))))))))))),?_⟩
  have hY:=hI.Y
  refine⟨_,rfl,a.y,a.dy,_,rfl,hY.ins,rfl,a.y,a.dy,a.tb,a.ro,a.la,a.le,a.li,a.dn,s,rfl,hY,(s.U.length:Int),rfl,by omega,by omega,?_⟩
  rw[toNat_natCast]
  refine iI (K:=K) ZO s.U Rj (λi t H1 N ht s1 hN=>?_) (λW H1 s1 dW=>?_)
  ·have DG:=Cg.same hY s1
   exact⟨_,rfl,a.y,a.dy,_,rfl,DG.ins,rfl,_,rfl,a.y,a.dy,a.tb,a.ro,a.la,a.le,a.li,a.dn,s,i,t,rfl,DG,ht,λx H2 s2 hx gx=>hN _ H2 s2 (.lst (Cb.of gx) (sy _))⟩
  have DG:=Cg.same hY s1
  refine⟨_,rfl,a.y,a.dy,_,rfl,DG.ins,rfl,a.y,a.dy,a.tb,a.ro,a.la,a.le,a.li,a.dn,s,rfl,DG,(s.U.length:Int),rfl,by omega,by omega,?_⟩
  rw[toNat_natCast]
  refine iI (K:=K) ZN s.U Rj (λi t H9 N ht s9 hN=>?_) (λE H2 s2 dE=>?_)
  ·have Gj:=Cg.same DG s9
   exact⟨_,rfl,a.y,a.dy,_,rfl,Gj.ins,rfl,_,rfl,a.y,a.dy,a.tb,a.ro,a.la,a.le,a.li,a.dn,s,i,t,rfl,Gj,ht,λx Hx sx gx=>hN _ Hx sx (.tup (Ck.of gx) (.cons (.int _) (.cons (.int _) (.cons (.int _) (.cons (.int _) .nil)))))⟩
  have E8:=Cg.same DG s2
  refine⟨_,rfl,(s.lanes.length:Int),rfl,by omega,by omega,?_⟩
  rw[toNat_natCast]
  refine iI (K:=K) ZL s.lanes O1 (λi ln H9 N C9 s9 hN=>?_) (λL H3 s3 dL=>?_)
  ·have Gj:=Cg.same E8 s9
   exact⟨_,rfl,a.y,a.dy,_,rfl,Gj.ins,rfl,_,rfl,a.y,a.dy,a.tb,a.ro,a.la,a.le,a.li,a.dn,s,i,ln,rfl,Gj,C9,λt ql Cy Hx sx Jx gt Us Wu=>hN _ Hx sx (.tup (Ck.of gt) (.cons (.int _) (.cons (.int _) (.cons (PQ _) (.cons (.lst (Cb.of Us) (eV Wu)) .nil)))))⟩
  have Ec:=Cg.same E8 s3
  refine⟨_,rfl,_,rfl,_,rfl,_,rfl,(s.lies.length:Int),rfl,by omega,by omega,?_⟩
  rw[toNat_natCast]
  refine iI (K:=K) ZM s.lies GU (λi qs H9 N En s9 hN=>?_) (λX H4 s4 dX=>?_)
  ·have Gj:=Cg.same Ec s9
   exact⟨_,rfl,a.y,a.dy,_,rfl,Gj.ins,rfl,_,rfl,a,s,i,qs,rfl,Gj,En,λD Cy Hx sx hD gD Wu=>hN _ Hx sx (.lst (Cb.of gD) (eV Wu))⟩
  have s14:=s2.trans (s3.trans s4)
  have Wv:=hI.same W' (s1.trans s14)
  refine⟨_,rfl,a.y,a.dy,_,rfl,Wv.Y.ins,rfl,a,s,rfl,Wv,λM C8 H5 s5 hM gM pM=>?_⟩
  have IF:=Cg.same Wv.Y s5
  refine⟨_,rfl,a.y,a.dy,_,rfl,IF.ins,rfl,a.y,a.dy,a.tb,a.ro,a.la,a.le,a.li,a.dn,s,rfl,IF,λD Dk H6 s6 hD gD pD=>?_⟩
  refine⟨by show 6 <= sizeLine;decide,λR hR=>?_⟩
  have u6:=(BX.refl H6).new (o := .lst [.ref L, .ref E, .ref W, .ref X, .ref M, .ref D]) hR
  have u5:=s6.trans u6
  have u4:=s5.trans u5
  have u3:=s4.trans u4
  have u2:=s3.trans u3
  have u1:=s2.trans u2
  exact q _ _ (s1.trans u1) (.lst (Cb.of ad) (.cons (Den.same u3 dL) (.cons (Den.same u2 dE) (.cons (Den.same u1 dW) (.cons (Den.same u4 dX) (.cons (.lst (Cb.of (u5 _ _ gM)) (iF (Paired.mono (λ_ _ z=>z.keep (BX.Cq u5)) pM))) (.cons (.lst (Cb.of (u6 _ _ gD)) (gA (Paired.mono (λ_ _ z=>D6.keep (BX.Cq u6) z) pD) I0)) .nil)))))))
inductive ju(c:Cs)(C C':Addr)(J J':TJ)(vs:List V)(H:Hp)(Q:VK)(E:XK):Prop
 | mk (x lx Cr lt x' LW GI lt':Addr) (n:Nat) (Cf Ek:List V) (ps:List (Int × Int)) (wf Lf:Wf) (_:vs=[.ref x, .ref x']) (_:CK c C J H x lx Cr lt n Cf ps wf) (_:CK c C' J' H x' LW GI lt' n Ek ps Lf) (_:(∀p g k,p < n->g < n->k ∈ bG ps p->Lf p g k=wf p g k)) (_:∀H',BX H H'->Q (.bl true) H')
abbrev NSw:List Str:=["_law_table_here", "_law_other", "_law_place", "_law_goal", "_law_came"]
theorem Am(ps:List (Int × Int)):DR (.tuple (ps.map kB)) 64:=(c5 (m:=1) λz hz=>by
 obtain⟨p,_,rfl⟩:=mem_map.mp hz
 exact c5 (m:=0) λy hy=>by
  simp only[mem_cons,not_mem_nil,or_false]at hy
  rcases hy with rfl | rfl<;>exact bS _).le (by decide)
theorem Jb:au NSw ["_law_table_here", "_law_other"] (ai qe):=L2.C3
theorem vV(F:C2 K "_law_same_ways" "_law_same_ways" qe f fd)(T:Txt mg)(L:lc K c)(W:Wy K C fw dw J)(W':Wy K C' RC RD J')(Gw:BY P w K mg base ay 3 fw dw ["self", "place", "goal", "came"] (cT J))(Gw':BY P w K mg base ay 3 RC RD ["self", "place", "goal", "came"] (cT J'))
  (mi:bC K c.land "into" fi) (bi:Binds K di ["self", "place"] []) (Gi:BY P w K mg base ay 1 fi di ["self", "place"] (nX c Prod.snd)) :
  BY P w K mg base ay 4 f fd ["_law_table_here", "_law_other"] (ju c C C' J J'):=by
 refine F.ok Jb (λ_ _ _ _ h=>?_) (λ_ _ _ s H _ Q E hr h=>?_)
 ·obtain⟨x,lx,Cr,lt,x',LW,GI,lt',n,Cf,Ek,ps,wf,Lf,rfl,_⟩:=h
  rfl
 ·obtain⟨x,lx,Cr,lt,x',LW,GI,lt',n,Cf,Ek,ps,wf,Lf,rfl,hT,Mp,JP,q⟩:=h
  have hu:=hr.units
  have CC:Cj 1 _:=hr.mono (by decide)
  refine⟨_,ae (aR (PW.pt (fE (ax (iU hu) (al (al (pv 1) rfl) rfl) (al (al (pv 0) rfl) rfl) (aA _)) (dP (ax jk (al (al (pv 1) rfl) rfl) (al (al (pv 0) rfl) rfl) (aA _))))) (af (av jj)) aF)
   (ae (b0 PassesOwn.never rfl (aO rfl T.range (aa (al (al (pv 0) rfl) rfl) ac)) (aw (i:=2) Jb.nd rfl (Or.inl rfl))
    (af (b0 PassesOwn.never rfl (aO rfl T.range (aa (al (al (pv 0) rfl) rfl) ac)) (aw (i:=3) Jb.nd rfl (Or.inl rfl))
     (af (b0 PassesOwn.never rfl (aW (aJ kD (aU (aa bP ac)) (aC (al (pv 0) rfl) L.cl mi Gi CC bi .nil ap (aa (pv 2) ac)))) (aw (i:=4) Jb.nd rfl (Or.inl rfl))
      (af (aR (ax (vM hu) (aC (pv 1) W'.cl W'.m Gw' hr W'.b .nil ap (aa (pv 2) (aa (pv 3) (aa (pv 4) ac)))) (aC (pv 0) W.cl W.m Gw hr W.b .nil ap (aa (pv 2) (aa (pv 3) (aa (pv 4) ac)))) (aA _)) (af (av jj)) aF)))))))
   (af (av jj))),?_⟩
  obtain⟨dx,fs,hx,C4,Ds⟩:=hT.i
  obtain⟨Fe,CH,Fy,HP,Lg⟩:=Mp.i
  have hn:=hT.EZ
  have Df:=hT.C6
  refine⟨_,rfl,x',C',Fe,CH,_,rfl,Fy,W'.cl,W'.nl,HP,LW,c.land,GI,_,_,rfl,Mp.l.1,L.cl,L.nl,rfl,_,rfl,x,C,dx,fs,_,rfl,hx,W.cl,W.nl,C4,lx,c.land,Cr,_,_,rfl,hT.l.1,L.cl,L.nl,rfl,?_⟩
  refine Yy (.tup (Ck.of Mp.l.2.1) (eV Mp.l.2.2)) (.tup (Ck.of hT.l.2.1) (eV hT.l.2.2)) (Am ps) ⟨_,rfl,aH ?_⟩
  refine⟨_,rfl,x',C',Fe,CH,_,rfl,Fy,W'.cl,W'.nl,HP,LW,c.land,GI,_,_,rfl,Mp.l.1,L.cl,L.np,rfl,_,rfl,x,C,dx,fs,_,rfl,hx,W.cl,W.nl,C4,lx,c.land,Cr,_,_,rfl,hT.l.1,L.cl,L.np,rfl,rfl,_,rfl,?_⟩
  rw[bT,decide_eq_true rfl]
  refine aH ?_
  refine⟨_,rfl,x,C,dx,fs,_,rfl,hx,W.cl,W.nl,C4,lx,c.land,Cr,_,_,rfl,hT.l.1,L.cl,L.np,rfl,(n:Int),rfl,by omega,by omega,?_⟩
  rw[toNat_natCast]
  refine bu (n:=n) (λi σ H2=>∃a2 a3 a4:Option V,BX H H2/\σ=[some (.ref x),some (.ref x'),a2,a3,a4]) ⟨none,none,none,BX.refl H,rfl⟩ ?_ ?_
  rotate_left
  ·rintro σ H2 ⟨a2,a3,a4,s2,rfl⟩
   exact q H2 s2
  rintro i σ H2 hi ⟨a2,a3,a4,s2,rfl⟩
  rw[zero_add]
  refine⟨_,rfl,x,C,dx,fs,_,rfl,s2 _ _ hx,W.cl,W.nl,C4,lx,c.land,Cr,_,_,rfl,s2 _ _ hT.l.1,L.cl,L.np,rfl,(n:Int),rfl,by omega,by omega,?_⟩
  rw[toNat_natCast]
  refine bu (n:=n) (λj σ H3=>∃a3 a4:Option V,BX H H3/\σ=[some (.ref x),some (.ref x'),some (.int (i:Int)),a3,a4]) ⟨_,_,s2,rfl⟩ ?_ ?_
  rotate_left
  ·rintro σ H3 ⟨a3,a4,s3,rfl⟩
   exact⟨_,_,_,s3,rfl⟩
  rintro j σ H3 hj ⟨a3,a4,s3,rfl⟩
  rw[zero_add]
  refine⟨by show 1 <= sizeLine;decide,λo1 JQ=>?_⟩
  have s4:=s3.new (o := .lst [.Cp]) JQ
  have g1:(upd H3 o1 (.lst [.Cp])) o1=some (.lst [.Cp]):=ad
  generalize upd H3 o1 (.lst [.Cp])=H4 at s4 g1 ⊢
  have Jv:=CK.keep W hT (BX.Cq s4)
  refine⟨_,rfl,x,C,dx,fs,_,rfl,s4 _ _ hx,W.cl,W.nl,C4,lx,Cr,_,rfl,Jv.l.1,rfl,_,rfl,lx,Cr,lt,(n:Int),Cf,ps,(i:Int),rfl,Jv.l,by omega,λH5 o2 s5 D5=>?_⟩
  have u5:=s5.new (o := .lst (fI Prod.snd ps i ps.length)) D5
  have g2:(upd H5 o2 (.lst (fI Prod.snd ps i ps.length))) o2=some (.lst (fI Prod.snd ps i ps.length)):=ad
  generalize upd H5 o2 (.lst (fI Prod.snd ps i ps.length))=H6 at u5 g2 ⊢
  have ED:=(cQ ps i).1
  have OS:[V.Cp] ++ fI Prod.snd ps i ps.length=(bG ps i).map cV:=p8 ps i
  refine⟨o1,o2,_,_,rfl,rfl,u5 _ _ g1,g2,by rw[←length_append,OS,length_map,sizeLine_eq];omega,λCm KQ=>?_⟩
  rw[OS]
  have s7:=(s4.trans u5).new (o := .lst ((bG ps i).map cV)) KQ
  have g7:(upd H6 Cm (.lst ((bG ps i).map cV))) Cm=some (.lst ((bG ps i).map cV)):=ad
  generalize upd H6 Cm (.lst ((bG ps i).map cV))=H7 at s7 g7 ⊢
  refine⟨Cm,rfl,⟨_,Cb.of g7⟩,?_⟩
  refine dB (K:=K) (a:=Cm) (xs:=(bG ps i).map cV) (λ_ σ H8=>∃a4:Option V,BX H7 H8/\σ=[some (.ref x),some (.ref x'),some (.int (i:Int)),some (.int (j:Int)),a4]) ⟨_,BX.refl _,rfl⟩ (λt σ H8 _ Cc=>by obtain⟨_,s8,_⟩:=Cc;exact Cb.of (s8 _ _ g7)) ?_ ?_
  rotate_left
  ·rintro σ H8 ⟨a4,s8,rfl⟩
   exact⟨_,_,s7.trans s8,rfl⟩
  rintro t v σ H8 hv ⟨a4,s8,rfl⟩
  obtain⟨k,hk,rfl⟩:∃k ∈ bG ps i,cV k=v:=mem_map.mp (mem_of_getElem? hv)
  have Ww:=s7.trans s8
  refine⟨_,rfl,x',Fe,CH,rfl,Ww _ _ Fy,Lg,_,rfl,_,rfl,_,rfl,x',n,Lf,i,j,k,rfl,(CK.keep W' Mp (BX.Cq Ww)).j,hi,hj,λD9 H9 s9 hD9 g9=>?_⟩
  have ZQ:=Ww.trans s9
  refine⟨_,rfl,x,dx,fs,rfl,ZQ _ _ hx,Ds,_,rfl,_,rfl,_,rfl,x,n,wf,i,j,k,rfl,(CK.keep W hT (BX.Cq ZQ)).j,hi,hj,λDa Ha sa hDa ga=>?_⟩
  refine⟨D9,Da,iz (Lf i j k),iz (wf i j k),rfl,rfl,by rw[←lD];exact Cb.of (sa _ _ g9),by rw[←lD];exact Cb.of ga,_,rfl,?_⟩
  rw[decide_eq_true (show iz (Lf i j k)=iz (wf i j k) by rw[JP i j k hi hj hk])]
  exact aH ⟨_,s8.trans (s9.trans sa),rfl⟩
inductive rA(K:Frag)(vs:List V)(H:Hp)(Q:VK)(E:XK):Prop
 | mk (a:Addr) (ns:List Int) (_:vs=[.ref a]) (_:Cb K H a (ns.map V.int)) (_:ns.length <= 63) (_:∀H',Q (.bl true) H')
abbrev ZR:List Str:=["_law_script", "_law_table_here", "_law_lanes_here", "_law_places", "_law_yard", "_law_cells", "_law_k", "_law_moves", "_law_text", "_law_other", "_law_one", "_law_move", "_law_last"]
noncomputable def iH(ns:List Int)(lo hi:Option Int):List Int:=(ns.drop (HT.DO ns.length 0 lo)).take (HT.DO ns.length ns.length hi - HT.DO ns.length 0 lo)
theorem zR(ns:List Int)(lo hi:Option Int):eK (ns.map V.int) lo hi=(iH ns lo hi).map V.int:=by
 unfold eK iH
 rw[length_map,←List.map_drop,←map_take]
theorem kX(ns:List Int)(lo hi:Option Int):(iH ns lo hi).length <= ns.length:=by
 unfold iH
 rw[length_take,length_drop]
 omega
structure Fns(P:Program)(w:World)(K:Frag)(mg:Str->Option Value)(base:Heap)(c:Cs)(ts:Ts)(tn:ia)(ys:Ys)(fW:Bool->Addr)(dW:Bool->FuncData)(fc fx ft Qc fy fb fp fv fo fe fr fs fq fh:Addr)(dc dx dt RE dy db dp dv KY de dr ds dq dh:FuncData):Prop where
 W:∀b,Wy K (TC ts tn b) (fW b) (dW b) (JJ P w ts tn b)
 mc:mg "_law_cell_at" = some (.ref fc)
 kc:keepIn K (.ref fc)=true
 bc:Binds K dc ["_law_script", "_law_k"] []
 Gc:BY P w K mg base ay 1 fc dc ["_law_script", "_law_k"] (pY K)
 mx:mg "_law_mixed" = some (.ref fx)
 kx:keepIn K (.ref fx)=true
 bx:Binds K dx ["_law_cell", "_law_k"] []
 Gx:BY P w K mg base ay 1 fx dx ["_law_cell", "_law_k"] nU
 mt:mg "_law_table" = some (.ref ft)
 kt:keepIn K (.ref ft)=true
 bt:Binds K dt ["_law_script"] []
 Gt:BY P w K mg base ay 7 ft dt ["_law_script"] (pW P w K c ts tn)
 mro:mg "_law_rooms" = some (.ref Qc)
 kro:keepIn K (.ref Qc)=true
 bro:Binds K RE ["_law_table_here", "_law_cell"] []
 Wx:∀b,BY P w K mg base ay 2 Qc RE ["_law_table_here", "_law_cell"] (ir c (TC ts tn b) (JJ P w ts tn b))
 my:mg "Yard" = some (.ref ys.Ca)
 My:Mk K ys.Ca fy
 RF:Binds K dy ["self", "table", "rooms"] []
 Gy:∀b ex,BY P w K mg base ay 4 fy dy ["self", "table", "rooms"] (jh K c (TC ts tn b) (JJ P w ts tn b) (yx ys ex))
 mb:mg "_law_begins" = some (.ref fb)
 kb:keepIn K (.ref fb)=true
 bb:Binds K db ["_law_table_here"] []
 Gb:∀b,BY P w K mg base ay 4 fb db ["_law_table_here"] (jx c (TC ts tn b) (JJ P w ts tn b))
 mp:mg "_law_posts" = some (.ref fp)
 kp:keepIn K (.ref fp)=true
 bp:Binds K dp ["_law_yard", "_law_begins_here", "_law_cells"] []
 Gp:∀b ex,BY P w K mg base ay 5 fp dp ["_law_yard", "_law_begins_here", "_law_cells"] (m5 K c (TC ts tn b) (JJ P w ts tn b) (yx ys ex))
 mv:bC K ys.Ca "moves" fv
 bv:Binds K dv ["self"] []
 Gv:∀b ex,BY P w K mg base ay 7 fv dv ["self"] (iq K c (TC ts tn b) (JJ P w ts tn b) (yx ys ex))
 mo:bC K ys.Ca "do" fo
 bo:Binds K KY ["self", "move"] []
 Go:∀b ex,BY P w K mg base ay 8 fo KY ["self", "move"] (uZ K c (TC ts tn b) (JJ P w ts tn b) (yx ys ex))
 me:mg "yard_text" = some (.ref fe)
 ke:keepIn K (.ref fe)=true
 be:Binds K de ["yard"] []
 Ge:∀b ex,BY P w K mg base ay 6 fe de ["yard"] (io K c (TC ts tn b) (JJ P w ts tn b) (yx ys ex))
 mr:mg "read_yard" = some (.ref fr)
 kr:keepIn K (.ref fr)=true
 br:Binds K dr ["text"] []
 Gr:BY P w K mg base ay 11 fr dr ["text"] (gS P w K c ts ys)
 ms:mg "_law_stand" = some (.ref fs)
 ks:keepIn K (.ref fs)=true
 bs:Binds K ds ["_law_yard", "_law_lanes_here", "_law_places"] []
 Gs:∀b ex,BY P w K mg base ay 8 fs ds ["_law_yard", "_law_lanes_here", "_law_places"] (jt K c (TC ts tn b) (JJ P w ts tn b) (yx ys ex))
 mq:mg "_law_same_ways" = some (.ref fq)
 kq:keepIn K (.ref fq)=true
 bq:Binds K dq ["_law_table_here", "_law_other"] []
 Gq:∀b,BY P w K mg base ay 4 fq dq ["_law_table_here", "_law_other"] (ju c (TC ts tn b) (TC ts tn false) (JJ P w ts tn b) (JJ P w ts tn false))
 mh:bC K ys.Ca "history" fh
 bh:Binds K dh ["self"] []
 Gh:∀ex,BY P w K mg base ay 1 fh dh ["self"] (jR K (yx ys ex))
structure EG(P:Program)(w:World)(K:Frag)(c:Cs)(ts:Ts)(tn:ia)(ys:Ys)(b:Bool)(H Hx:Hp)(e:List Addr)(a:YA)(n:Nat)(ps:List (Int × Int))(rs:List Rw)(s:YS):Prop where
 Y:F1 K c (TC ts tn b) (JJ P w ts tn b) (yx ys e) Hx a s
 J:CN a s
 o:Of a n ps (aM rs)
 fr:∀z ∈ a.four,H z=none
section
variable {P:Program}{w:World}{K:Frag}{c:Cs}{ts:Ts}{tn:ia}{ys:Ys}{fW:Bool->Addr}{dW:Bool->FuncData}{b b':Bool}{H Hx Hy:Hp}{e:List Addr}{a a':YA}{n:Nat}{ps:List (Int × Int)}{rs:List Rw}{s s':YS}
theorem EG.same(W:∀b,Wy K (TC ts tn b) (fW b) (dW b) (JJ P w ts tn b))(h:EG P w K c ts tn ys b H Hx e a n ps rs s)(z:BX Hx Hy):EG P w K c ts tn ys b H Hy e a n ps rs s:=⟨h.Y.same (W b) z,h.J,h.o,h.fr⟩
theorem EG.own(W:∀b,Wy K (TC ts tn b) (fW b) (dW b) (JJ P w ts tn b))(h:EG P w K c ts tn ys b H Hx e a n ps rs s)(o:Cn l Hx Hy)(hl:∀z ∈ l,z ∈ a.four)(hY:CQ K (yx ys e) Hy a s')(hJ:CN a s'):EG P w K c ts tn ys b H Hy e a n ps rs s' :=
 ⟨⟨hY,CK.keep (W b) h.Y.T (Cn.Cq (λz hz=>h.Y.Y.DA z (hl z hz)) o),h.Y.O,hJ.ok⟩,hJ,h.o,h.fr⟩
theorem EG.off(W:∀b,Wy K (TC ts tn b) (fW b) (dW b) (JJ P w ts tn b))(h:EG P w K c ts tn ys b H Hx a'.four a n ps rs s)(o:Cn l Hx Hy)(hl:∀z ∈ l,z ∈ a'.four)(h1:CQ K (yx ys e) Hx a' s')(h2:CQ K (yx ys e) Hy a' s2)(hn:∀z ∈ a.four,z ∉ a'.four):EG P w K c ts tn ys b H Hy a'.four a n ps rs s :=
 ⟨⟨CQ.UT h.Y.Y (λz u hz=>o z u λq=>hz (hl z q)) (λz hz=>hz) hn (λz hz=>h2.DA z hz),CK.keep (W b) h.Y.T (Cn.Cq (λz hz=>h1.DA z (hl z hz)) o),h.Y.O,h.Y.G⟩,h.J,h.o,h.fr⟩
end
end K94
namespace L2
open PySem PySem.Spec
theorem BY.ex{ι:Type}{sp:ι->Sp}(h:∀i,BY P w K mg base CX k f fd ps (sp i)):BY P w K mg base CX k f fd ps (λvs H Q E=>∃i,sp i vs H Q E) :=
 ⟨λvs H Q E Cc=>by obtain⟨i,q⟩:=Cc;exact(h i).len vs H Q E q,λA outer s H args us vs Q E hr he hb hv Cc=>by obtain⟨i,hs⟩:=Cc;exact(h i).run A outer s H args us vs Q E hr he hb hv hs⟩
end L2
namespace K94
open PySem L2
theorem Wz(o:Of a n ps (aM rs))(h1:2 <= n)(h2:n <= 5)(h3:ps.length <= 8)(h4:∀q ∈ ps,eE n q=true)(h5:zU n ps rs)(h6:rm.length=ps.length)(h7:∀r ∈ rm,1 <= r/\r <= 60):CG n ps rs rm [] (Y0 (nV rm) n) :=
 ⟨⟨by omega,by omega⟩,by omega,h4,h5,h6,h7,⟨{ a with wy:=nH rs,n:=n },o.ps,rfl,rfl,Ee.nil⟩,zero_le _⟩
theorem pH(a:YA):∀z ∈ [a.le,a.dn],z ∈ a.four:=λz hz=>by
 simp only[mem_cons,not_mem_nil,or_false]at hz ⊢
 rcases hz with h | h<;>simp[h]
theorem AM(p:Paired (D6 H) C8 ((b5 a s).map eP))(h:0 < C8.length)(d:Int):∃(k:Nat),d % (C8.length:Int)=(k:Int)/\∃(hk:k < (b5 a s).length)(v:V),C8[k]? = some v/\∃tm,v = .ref tm/\H tm=some (.tup (eP (b5 a s)[k]))/\(b5 a s)[k] ∈ b5 a s:=by
 have HF:C8.length=(b5 a s).length:=by rw[Paired.length p,length_map]
 have h1:=emod_nonneg d (show((C8.length:Nat):Int) ≠ 0 by omega)
 have h2:=emod_lt_of_pos d (show (0:Int) < (C8.length:Int) by omega)
 have EF:(d % (C8.length:Int)).toNat < (b5 a s).length:=by omega
 obtain⟨v,hv,tm,e,g⟩:=Paired.at2 p (show((b5 a s).map eP)[(d % (C8.length:Int)).toNat]? = some (eP (b5 a s)[(d % (C8.length:Int)).toNat]) by rw[getElem?_map,getElem?_eq_getElem EF];rfl)
 exact⟨_,by omega,EF,v,hv,tm,e,g,getElem_mem EF⟩
theorem both{α β:Type}{P:Bool->α->β->Prop}{a1 a2:α}{b1 b2:β}(h1:P true a1 b1)(h2:P false a2 b2):∃(f:Bool->α)(g:Bool->β),∀b,P b (f b) (g b):=⟨λb=>cond b a1 a2,λb=>cond b b1 b2,λb=>by cases b<;>assumption⟩
inductive sRo(P:Program)(w:World)(c:Cs)(ts:Ts)(tn:ia)(vs:List V)(H:Hp)(Q:VK)(E:XK):Prop
 | mk (i:Bool) (_:ir c (TC ts tn i) (JJ P w ts tn i) vs H Q E)
inductive sBg(P:Program)(w:World)(c:Cs)(ts:Ts)(tn:ia)(vs:List V)(H:Hp)(Q:VK)(E:XK):Prop
 | mk (i:Bool) (_:jx c (TC ts tn i) (JJ P w ts tn i) vs H Q E)
inductive sQu(P:Program)(w:World)(c:Cs)(ts:Ts)(tn:ia)(vs:List V)(H:Hp)(Q:VK)(E:XK):Prop
 | mk (i:Bool) (_:ju c (TC ts tn i) (TC ts tn false) (JJ P w ts tn i) (JJ P w ts tn false) vs H Q E)
inductive sYd(P:Program)(w:World)(K:Frag)(c:Cs)(ts:Ts)(tn:ia)(ys:Ys)(vs:List V)(H:Hp)(Q:VK)(E:XK):Prop
 | mk (i:Bool × List Addr) (_:jh K c (TC ts tn i.1) (JJ P w ts tn i.1) (yx ys i.2) vs H Q E)
inductive sPs(P:Program)(w:World)(K:Frag)(c:Cs)(ts:Ts)(tn:ia)(ys:Ys)(vs:List V)(H:Hp)(Q:VK)(E:XK):Prop
 | mk (i:Bool × List Addr) (_:m5 K c (TC ts tn i.1) (JJ P w ts tn i.1) (yx ys i.2) vs H Q E)
inductive sMs(P:Program)(w:World)(K:Frag)(c:Cs)(ts:Ts)(tn:ia)(ys:Ys)(vs:List V)(H:Hp)(Q:VK)(E:XK):Prop
 | mk (i:Bool × List Addr) (_:iq K c (TC ts tn i.1) (JJ P w ts tn i.1) (yx ys i.2) vs H Q E)
inductive sDs(P:Program)(w:World)(K:Frag)(c:Cs)(ts:Ts)(tn:ia)(ys:Ys)(vs:List V)(H:Hp)(Q:VK)(E:XK):Prop
 | mk (i:Bool × List Addr) (_:uZ K c (TC ts tn i.1) (JJ P w ts tn i.1) (yx ys i.2) vs H Q E)
inductive sTx(P:Program)(w:World)(K:Frag)(c:Cs)(ts:Ts)(tn:ia)(ys:Ys)(vs:List V)(H:Hp)(Q:VK)(E:XK):Prop
 | mk (i:Bool × List Addr) (_:io K c (TC ts tn i.1) (JJ P w ts tn i.1) (yx ys i.2) vs H Q E)
inductive sSt(P:Program)(w:World)(K:Frag)(c:Cs)(ts:Ts)(tn:ia)(ys:Ys)(vs:List V)(H:Hp)(Q:VK)(E:XK):Prop
 | mk (i:Bool × List Addr) (_:jt K c (TC ts tn i.1) (JJ P w ts tn i.1) (yx ys i.2) vs H Q E)
inductive sHi(K:Frag)(ys:Ys)(vs:List V)(H:Hp)(Q:VK)(E:XK):Prop
 | mk (i:List Addr) (_:jR K (yx ys i) vs H Q E)
inductive P1(P:Program)(w:World)(K:Frag)(c:Cs)(ts:Ts)(tn:ia)(ys:Ys)(H:Hp)(sc:Addr)(B:Nat)(σ:St)(Hx:Hp):Prop
 | mk (b:Bool) (a:YA) (n:Nat) (ps:List (Int × Int)) (rs:List Rw) (rm:List Nat) (ds:List Dd) (s:YS) (Ce:Addr) (ks:List Int) (a6 a7:Option V) (_:BX H Hx) (_:EG P w K c ts tn ys b H Hx [] a n ps rs s) (_:CG n ps rs rm ds s) (_:ds.length <= B) (_:Hx Ce=some (.lst (ks.map V.int))) (_:Ce ∉ a.four) (_:ks.length <= 4) (_:σ=[some (.ref sc),some (.ref a.tb),some (.int (ps.length:Nat)),some (.int n),some (.ref a.y),some (.ref Ce),a6,a7,none,none,none,none,none])
inductive P2(P:Program)(w:World)(K:Frag)(c:Cs)(ts:Ts)(tn:ia)(ys:Ys)(H:Hp)(sc:Addr)(B:Nat)(σ:St)(Hx:Hp):Prop
 | mk (b:Bool) (a a':YA) (n:Nat) (ps:List (Int × Int)) (rs:List Rw) (rm:List Nat) (ds:List Dd) (s:YS) (a5 a6 a7 a8 EA Lh:Option V) (_:BX H Hx) (_:EG P w K c ts tn ys b H Hx a'.four a n ps rs s) (_:EG P w K c ts tn ys false H Hx a.four a' n ps rs s) (_:∀z ∈ a.four,z ∉ a'.four) (_:CG n ps rs rm ds s) (_:ds.length <= B) (_:σ=[some (.ref sc),some (.ref a.tb),some (.int (ps.length:Nat)),some (.int n),some (.ref a.y),a5,a6,a7,a8,some (.ref a'.y),EA,Lh,none])
inductive LB(P:Program)(w:World)(K:Frag)(c:Cs)(ts:Ts)(tn:ia)(ys:Ys)(H:Hp)(sc:Addr)(b:Bool)(a:YA)(n:Nat)(ps:List (Int × Int))(rs:List Rw)(rm:List Nat)(Ce:Addr)(ks:List Int)(i:Nat)(σ:St)(Hy:Hp):Prop
 | mk (ds:List Dd) (s:YS) (a6 a7:Option V) (_:BX H Hy) (_:EG P w K c ts tn ys b H Hy [] a n ps rs s) (_:CG n ps rs rm ds s) (_:ds.length <= 4 + i) (_:Hy Ce=some (.lst (ks.map V.int))) (_:σ=[some (.ref sc),some (.ref a.tb),some (.int (ps.length:Nat)),some (.int n),some (.ref a.y),some (.ref Ce),a6,a7,none,none,none,none,none])
inductive LC(P:Program)(w:World)(K:Frag)(c:Cs)(ts:Ts)(tn:ia)(ys:Ys)(H:Hp)(sc:Addr)(b:Bool)(a a':YA)(n:Nat)(ps:List (Int × Int))(rs:List Rw)(s:YS)(Ce Yl:Addr)(ks:List Int)(a6 a7:Option V)(i:Nat)(σ:St)(Hy:Hp):Prop
 | mk (s0 s1:YS) (EA:Option V) (_:BX H Hy) (_:EG P w K c ts tn ys b H Hy a'.four a n ps rs s0) (_:EG P w K c ts tn ys false H Hy a.four a' n ps rs s1) (_:(i=0/\s0=s/\s1=s)∨(i=1/\Run a s (kT (lm a.wy a.n a.n) (iH ks (some 2) none)) s0/\s1=s)∨(i=2/\Run a s (kT (lm a.wy a.n a.n) (iH ks (some 2) none)) s0/\s1=s0)) (_:Hy Ce=some (.lst (ks.map V.int))) (_:Hy Yl=some (.lst [.ref a.y, .ref a'.y])) (_:σ=[some (.ref sc),some (.ref a.tb),some (.int (ps.length:Nat)),some (.int n),some (.ref a.y),some (.ref Ce),a6,a7,some (.str (yT n ps (aM rs) s)),some (.ref a'.y),EA,none,none])
inductive LD(P:Program)(w:World)(K:Frag)(c:Cs)(ts:Ts)(tn:ia)(ys:Ys)(H:Hp)(sc:Addr)(b:Bool)(a a':YA)(n:Nat)(ps:List (Int × Int))(rs:List Rw)(rm:List Nat)(a5 a8 EA:Option V)(i:Nat)(σ:St)(Hy:Hp):Prop
 | mk (ds:List Dd) (s:YS) (a6 a7 Lh:Option V) (_:BX H Hy) (_:EG P w K c ts tn ys b H Hy a'.four a n ps rs s) (_:EG P w K c ts tn ys false H Hy a.four a' n ps rs s) (_:CG n ps rs rm ds s) (_:ds.length <= 32 + i) (_:σ=[some (.ref sc),some (.ref a.tb),some (.int (ps.length:Nat)),some (.int n),some (.ref a.y),a5,a6,a7,a8,some (.ref a'.y),EA,Lh,none])
theorem DB:au ZR ["_law_script"] (ai ki):=L2.C3
theorem W0:CP ZR (ai ki) (um ((aI ki).getD 4 (.Pass ⟨0,0,0,0⟩))) ["_law_script"] [0]:=L2.Dp
theorem W2:(["_law_k", "_law_script"]:List Str).Nodup:=by decide +kernel
theorem Bo(F:C2 K "law" "law" ki f df)(T:Txt mg)(L:lc K c)(Y:iL K ys)(D:Fns P w K mg base c ts tn ys fW dW fc fx ft Qc fy fb fp fv fo fe fr fs fq fh dc dx dt RE dy db dp dv KY de dr ds_ dq dh) :
  BY P w K mg base ay 12 f df ["_law_script"] (rA K):=by
 refine F.ok DB (λvs H Q E h=>?_) (λcdv A0 outer s0 H vs Q E hr h=>?_)
 ·obtain⟨a,ns,rfl,_⟩:=h
  rfl
 ·obtain⟨sc,ns,rfl,hS,hlen,q⟩:=h
  have hu:=hr.units
  have CC:Cj 1 _:=hr.mono (by decide)
  have CY:Cj 2 _:=hr.mono (by decide)
  have E5:Cj 4 _:=hr.mono (by decide)
  have HH:Cj 5 _:=hr.mono (by decide)
  have JN:Cj 6 _:=hr.mono (by decide)
  have Ie:Cj 7 _:=hr.mono (by decide)
  have JT:Cj 8 _:=hr.mono (by decide)
  have W:=D.W
  have GRo:BY P w K mg base ay 2 _ _ _ (sRo P w c ts tn):=(BY.ex D.Wx).imp λ_ _ _ _ Cc=>by obtain⟨i,h⟩:=Cc;exact⟨i,h⟩
  have GY:BY P w K mg base ay 4 _ _ _ (sYd P w K c ts tn ys):=(BY.ex λi:Bool × List Addr=>D.Gy i.1 i.2).imp λ_ _ _ _ Cc=>by obtain⟨i,h⟩:=Cc;exact⟨i,h⟩
  have GB:BY P w K mg base ay 4 _ _ _ (sBg P w c ts tn):=(BY.ex D.Gb).imp λ_ _ _ _ Cc=>by obtain⟨i,h⟩:=Cc;exact⟨i,h⟩
  have GP:BY P w K mg base ay 5 _ _ _ (sPs P w K c ts tn ys):=(BY.ex λi:Bool × List Addr=>D.Gp i.1 i.2).imp λ_ _ _ _ Cc=>by obtain⟨i,h⟩:=Cc;exact⟨i,h⟩
  have GV:BY P w K mg base ay 7 _ _ _ (sMs P w K c ts tn ys):=(BY.ex λi:Bool × List Addr=>D.Gv i.1 i.2).imp λ_ _ _ _ Cc=>by obtain⟨i,h⟩:=Cc;exact⟨i,h⟩
  have GO:BY P w K mg base ay 8 _ _ _ (sDs P w K c ts tn ys):=(BY.ex λi:Bool × List Addr=>D.Go i.1 i.2).imp λ_ _ _ _ Cc=>by obtain⟨i,h⟩:=Cc;exact⟨i,h⟩
  have GE:BY P w K mg base ay 6 _ _ _ (sTx P w K c ts tn ys):=(BY.ex λi:Bool × List Addr=>D.Ge i.1 i.2).imp λ_ _ _ _ Cc=>by obtain⟨i,h⟩:=Cc;exact⟨i,h⟩
  have GS:BY P w K mg base ay 8 _ _ _ (sSt P w K c ts tn ys):=(BY.ex λi:Bool × List Addr=>D.Gs i.1 i.2).imp λ_ _ _ _ Cc=>by obtain⟨i,h⟩:=Cc;exact⟨i,h⟩
  have GQ:BY P w K mg base ay 4 _ _ _ (sQu P w c ts tn):=(BY.ex D.Gq).imp λ_ _ _ _ Cc=>by obtain⟨i,h⟩:=Cc;exact⟨i,h⟩
  have GH:BY P w K mg base ay 1 _ _ _ (sHi K ys):=(BY.ex D.Gh).imp λ_ _ _ _ Cc=>by obtain⟨i,h⟩:=Cc;exact⟨i,h⟩
  refine⟨_,k7 6 (ae (aD (i:=1) DB.nd rfl (Or.inl rfl) (aq D.Gt Ie rfl D.mt D.kt D.bt .nil ap (aa (pv 0) ac)))
   (ae (aD (i:=2) DB.nd rfl (Or.inl rfl) (aE aB rfl T.len PySem.boot_len (aa (al (al (pv 1) rfl) rfl) ac)))
   (ae (aD (i:=3) DB.nd rfl (Or.inl rfl) (al (al (pv 1) rfl) rfl))
   (ae (aD (i:=4) DB.nd rfl (Or.inl rfl) (gr (c8 D.My GY HH rfl D.my D.RF .nil ap (aa (pv 1) (aa (aq GRo CY rfl D.mro D.kro D.bro .nil ap (aa (pv 1) (aa (aq D.Gc CC rfl D.mc D.kc D.bc .nil ap (aa (pv 0) (aa ak ac))) ac))) ac)))))
   (ae (ca (i:=5) (own:=["_law_k"]) (capN:=["_law_script"]) (cap:=[0]) W0 rfl DB.nd rfl rfl (aO rfl T.range (aa (aJ cn ak (aJ bL (aq D.Gc CC rfl D.mc D.kc D.bc .nil ap (aa (pv 0) (aa ak ac))) ak)) ac)) (λC s' H' fp=>⟨aw (i:=0) W2 rfl (Or.inl rfl),bd,aq D.Gx CC rfl D.mx D.kx D.bx .nil ap (aa (aq D.Gc CC rfl D.mc D.kc D.bc .nil ap (aa (pv 1) (aa ak ac))) (aa (pv 0) ac))⟩))
   (af (aP (aq GP HH rfl D.mp D.kp D.bp .nil ap (aa (pv 4) (aa (aq GB E5 rfl D.mb D.kb D.bb .nil ap (aa (pv 1) ac)) (aa (cb cU (pv 5) cW (c3 ak)) ac)))))))))))
   (k7 1 (af (b0 PassesOwn.never rfl (aO rfl T.range (aa (aJ bL (aJ eA (aq D.Gc CC rfl D.mc D.kc D.bc .nil ap (aa (pv 0) (aa ak ac))) ak) ak) ac)) (aw (i:=6) DB.nd rfl (Or.inl rfl))
    (ae (aD (i:=7) DB.nd rfl (Or.inl rfl) (b6 (pv 4) Y.cl D.mv GV Ie D.bv .nil ap))
    (af (aR (ax (iU hu) (pv 7) (aU ac) (aA _)) (af (aP (aC (pv 4) Y.cl D.mo GO JT D.bo .nil ap (aa (az aK (pv 7) (aJ bL (aq D.Gx CC rfl D.mx D.kx D.bx .nil ap (aa (aq D.Gc CC rfl D.mc D.kc D.bc .nil ap (aa (pv 0) (aa ak ac))) (aa (aJ cn (pv 6) ak) ac))) (aE aB rfl T.len PySem.boot_len (aa (pv 7) ac))) (λ_ _=>rfl)) ac)))) aF)))))
   (k7 4 (ae (aD (i:=8) DB.nd rfl (Or.inl rfl) (aq GE JN rfl D.me D.ke D.be .nil ap (aa (pv 4) ac)))
   (ae (aD (i:=9) DB.nd rfl (Or.inl rfl) (aq D.Gr hr rfl D.mr D.kr D.br .nil ap (aa (pv 8) ac)))
   (ae (aR (PW.pt (fE (ax jk (aq GE JN rfl D.me D.ke D.be .nil ap (aa (pv 9) ac)) (pv 8) (aA _)) (dP (bO (bJ (aq GQ E5 rfl D.mq D.kq D.bq .nil ap (aa (pv 1) (aa (al (pv 9) rfl) ac)))))))) (af (av jj)) aF)
   (af (b0 PassesOwn.never rfl (aW (aU (aa (pv 4) (aa (pv 9) ac)))) (aw (i:=10) DB.nd rfl (Or.inl rfl))
    (af (aP (aq GP HH rfl D.mp D.kp D.bp .nil ap (aa (pv 10) (aa (aq GB E5 rfl D.mb D.kb D.bb .nil ap (aa (pv 1) ac)) (aa (cb cU (pv 5) (c3 ak) cW) ac)))))))))))
   (ae (b0 PassesOwn.never rfl (sZ rfl T.range (aa ak (aa (aE (uk rfl) rfl T.min PyProof.Rows.boot_min (aa (aE aB rfl T.len PySem.boot_len (aa (pv 0) ac)) (aa ak ac))) ac))) (aw (i:=6) DB.nd rfl (Or.inl rfl))
    (ae (aR (ax (iU hu) (aq GS JT rfl D.ms D.ks D.bs .nil ap (aa (pv 4) (aa (pv 2) (aa (pv 3) ac)))) (aq GS JT rfl D.ms D.ks D.bs .nil ap (aa (pv 9) (aa (pv 2) (aa (pv 3) ac)))) (aA _)) (af (av jj)) aF)
    (ae (aD (i:=7) DB.nd rfl (Or.inl rfl) (b6 (pv 4) Y.cl D.mv GV Ie D.bv .nil ap))
    (af (aR (ax (iU hu) (pv 7) (aU ac) (aA _))
     (ae (aD (i:=11) DB.nd rfl (Or.inl rfl) (az aK (pv 7) (aJ bL (aq D.Gx CC rfl D.mx D.kx D.bx .nil ap (aa (az aK (pv 0) (pv 6) (λ_ _=>rfl)) (aa (pv 6) ac))) (aE aB rfl T.len PySem.boot_len (aa (pv 7) ac))) (λ_ _=>rfl)))
     (ae (aP (aC (pv 4) Y.cl D.mo GO JT D.bo .nil ap (aa (pv 11) ac)))
     (af (aP (aC (pv 9) Y.cl D.mo GO JT D.bo .nil ap (aa (pv 11) ac)))))) aF)))))
   (ae (aD (i:=12) DB.nd rfl (Or.inl rfl) (aq GE JN rfl D.me D.ke D.be .nil ap (aa (pv 4) ac)))
   (af (av (dR (c9 bz (pv 12) (aq GE JN rfl D.me D.ke D.be .nil ap (aa (pv 9) ac)) (aA _)) (dQ (c9 (AX hu) (b6 (aq D.Gr hr rfl D.mr D.kr D.br .nil ap (aa (pv 12) ac)) Y.cl D.mh GH CC D.bh .nil ap) (b6 (pv 4) Y.cl D.mh GH CC D.bh .nil ap) (aA _)))))))))),?_⟩
  refine⟨P1 P w K c ts tn ys H sc 4,?_,?_⟩
  ·refine⟨_,rfl,sc,ns,rfl,hS,λb tb lx Cr lt n Cf ps wy H1 s1 Ug hT EK hot hp8 Gz Mj=>?_⟩
   obtain⟨Ci,Po⟩:=hot
   obtain⟨EE,fst,E7,C4,Ds⟩:=hT.i
   have Wo:Cf.length=ps.length:=Paired.length hT.l.2.2
   refine⟨_,rfl,tb,TC ts tn b,EE,fst,_,rfl,E7,(W b).cl,(W b).nl,C4,lx,c.land,Cr,_,_,rfl,hT.l.1,L.cl,L.nl,rfl,lt,_,rfl, .inr (Ck.of hT.l.2.1),?_⟩
   rw[Wo]
   refine⟨_,rfl,tb,TC ts tn b,EE,fst,_,rfl,E7,(W b).cl,(W b).nl,C4,lx,c.land,Cr,_,_,rfl,hT.l.1,L.cl,L.np,rfl,?_⟩
   have Ep:=kz (uD Po)
   have JP:=PN Po
   generalize bY n ps (nL n wy)=rs at Ep JP
   refine⟨λv H'=>∃(a:YA)(rm:List Nat),v = .ref a.y/\a.tb=tb/\BX H H'/\EG P w K c ts tn ys b H H' [] a n ps rs (Y0 (nV rm) n)/\rm.length=ps.length/\(∀r ∈ rm,1 <= r/\r <= 60),?_,?_⟩
   ·refine⟨_,rfl,_,rfl,_,rfl,sc,ns,3,rfl,s1.seq hS,λd3=>⟨b,⟨tb,tb,tb,tb,tb,tb,tb,tb,lx,Cr,lt,n,Cf,ps,wy⟩,d3,rfl,hT,λRo rv H2 s2 hRo gRo E6 Ib=>?_⟩⟩
    have E6:rv.length=ps.length:=E6
    refine λy dy ny KN KO=>⟨(b,[]),nI (re (P:=P) (w:=w) (E:=λ_ _ _=>False) (W b) (hT.keep (W b) (BX.Cq s2)) EK Ci (Cb.of gRo) E6 Ib (by omega) (λb hb=>by cases hb) y dy ny KN KO) ?_⟩
    rintro v H3 ⟨rfl,a,e1,e2,e3,e4,e5,s3,FX,Fw,hJ⟩
    have ez:rv.map V.int=nV (rv.map Int.toNat):=by
     unfold nV
     rw[map_map]
     refine map_congr_left λr F7=>?_
     have:=Ib r F7
     show V.int r=V.int ((r.toNat:Nat):Int)
     rw[Int.toNat_of_nonneg (by omega)]
    rw[ez]at Fw hJ
    refine⟨rfl,a,rv.map Int.toNat,e1,e2,s1.trans (s2.trans s3),⟨Fw,hJ,⟨by rw[e5];exact JP,e3,e4⟩,λz hz=>(s1.trans s2).free (FX z hz)⟩,by rw[length_map];exact E6,λr F7=>?_⟩
    obtain⟨x,hx,rfl⟩:=mem_map.mp F7
    have:=Ib x hx
    omega
   rintro _ H3 ⟨a,rm,rfl,rfl,s3,hY,E6,Ib⟩
   refine⟨_,rfl,sc,ns,4,rfl,s3.seq hS,λd4=>⟨_,_,rfl,rfl,(by show (0:Int) < 4;decide),_,_,rfl,rfl,?_⟩⟩
   obtain⟨am,W3,ham5⟩:∃am:Nat,(1:Int) + d4 % 4=(am:Int)/\am <= 4:=⟨(1 + d4 % 4).toNat,by omega,by omega⟩
   dsimp only
   rw[W3]
   refine⟨(am:Int),rfl,by omega,by omega,?_⟩
   rw[toNat_natCast]
   refine aX am (by rw[sizeLine_eq];omega) (λi acc H'=>H' = H3/\∃ks:List Int,acc=ks.map V.int/\ks.length=i) ⟨rfl,[],rfl,rfl⟩ (λi acc H' h=>by obtain⟨_,ks,rfl,e⟩:=h;rw[length_map];omega) (λi acc H' hi h=>?_) (λacc H' h=>?_)
   ·obtain⟨rfl,ks,rfl,e⟩:=h
    refine⟨hi,λv H2 y=>?_⟩
    obtain⟨rfl,rfl⟩:=y
    rw[zero_add]
    exact⟨_,rfl,sc,ns,4,rfl,s3.seq hS,λd5=>⟨_,rfl,d5,i,rfl,by omega,λd hd=>⟨rfl,ks ++ [d],by rw[map_append];rfl,by rw[length_append,e];rfl⟩⟩⟩
   obtain⟨rfl,ks,rfl,EF⟩:=h
   refine⟨le_refl _,λCe ZT=>?_⟩
   have s4:=(BX.refl H').new (o := .lst (ks.map V.int)) ZT
   have Gu:(upd H' Ce (.lst (ks.map V.int))) Ce=some (.lst (ks.map V.int)):=ad
   have Li:=cv hY.Y.Y ZT
   show dF 5 (V.ref Ce) _ (upd H' Ce (.lst (ks.map V.int))) _
   generalize upd H' Ce (.lst (ks.map V.int))=H4 at s4 Gu ⊢
   have HV:=hY.same W s4
   have Ic:=s3.trans s4
   refine⟨_,rfl,_,rfl,b,a,rfl,HV.Y.T,λBg De H5 s5 RG RH Ld Lc=>⟨_,rfl,_,rfl,Ce,_,rfl,Cb.of (s5 _ _ Gu),λCu Lj=>?_⟩⟩
   rw[zR]
   have ED:=kX ks none (some 2)
   have s6:=s5.new (o := .lst ((iH ks none (some 2)).map V.int)) Lj
   have g6:(upd H5 Cu (.lst ((iH ks none (some 2)).map V.int))) Cu=some (.lst ((iH ks none (some 2)).map V.int)):=ad
   have L9:=(BX.refl H5).new (o := .lst ((iH ks none (some 2)).map V.int)) Lj
   have nCu:=cv (HV.same W s5).Y.Y Lj
   generalize upd H5 Cu (.lst ((iH ks none (some 2)).map V.int))=H6 at s6 g6 L9 ⊢
   have RI:=HV.same W s6
   refine⟨(b,[]),a,_,Bg,Cu,De,_,_,rfl,RI.Y.Y,RI.Y.T,RI.J,L9 _ _ RH,Cw.same L9 Ld,sG a,Lc,cv HV.Y.Y RG,g6,nCu,by omega,by show 0 + _ <= 59;omega,zero_le _,λH7 s7 o7 Ig Qd hR=>?_⟩
   have P0:=Wz hY.o Gz Mj hp8 Ci Ep E6 Ib
   have E4:=wZ (lm a.wy a.n a.n) (iH ks none (some 2))
   obtain⟨P7,_⟩:=hR.pre P0 hY.o hY.J (by show 0 + _ <= 100;omega)
   refine⟨b,a,n,ps,rs,rm,_,s7,Ce,ks,none,none,dN (Ic.trans s6) o7 (λz hz=>hY.fr z (pH a z hz)),RI.own W o7 (pH a) Ig Qd,P7,(by show(kT _ _).length <= 4;omega),o7 _ _ (λz=>Li (pH a _ z)) (s6 _ _ Gu),Li,by omega,rfl⟩
  rintro σ Hx ⟨b,a,n,ps,rs,rm,ds,s,Ce,ks,a6,a7,sX,hY,hP,E4,Gu,Li,EF,rfl⟩
  refine⟨P1 P w K c ts tn ys H sc 28,?_,?_⟩
  ·refine⟨_,rfl,sc,ns,4,rfl,sX.seq hS,λd4=>⟨_,_,rfl,rfl,⟨by decide,by decide⟩,_,_,rfl,rfl,(by show (0:Int) < 25;decide),?_⟩⟩
   obtain⟨am,W3,ZU⟩:∃am:Nat,d4 / 4 % 25=(am:Int)/\am < 25:=⟨(d4 / 4 % 25).toNat,by omega,by omega⟩
   dsimp only
   rw[W3]
   refine⟨(am:Int),rfl,by omega,by omega,?_⟩
   rw[toNat_natCast]
   refine bu (n:=am) (D:=⟨P1 P w K c ts tn ys H sc 28,_,λ_ _=>True,λ_ _=>True⟩) (LB P w K c ts tn ys H sc b a n ps rs rm Ce ks)
    ⟨ds,s,a6,a7,sX,hY,hP,E4,Gu,rfl⟩ ?_ ?_
   rotate_left
   ·rintro σ Hy ⟨ds,s,a6,a7,sY,hY,hP,E4,Gu,rfl⟩
    exact⟨b,a,n,ps,rs,rm,ds,s,Ce,ks,a6,a7,sY,hY,hP,by omega,Gu,Li,EF,rfl⟩
   clear hY hP E4 Gu sX
   rintro i σ H1 hi ⟨ds,s,a6,a7,s1,hY,hP,E4,Gu,rfl⟩
   rw[zero_add]
   refine⟨_,rfl,a.y,a.dy,_,rfl,hY.Y.Y.ins,rfl,(b,[]),a,s,rfl,hY.Y,λM C8 H2 s2 hM gM pM=>?_⟩
   refine⟨_,rfl,zero_le _,λe he=>?_⟩
   have s3:=s2.new (o := .lst []) he
   have JS:=(BX.refl H2).new (o := .lst []) he
   have W4:=Paired.mono (λ_ _ z=>D6.keep (BX.Cq JS) z) pM
   have RJ:=JS _ _ gM
   refine neN (f:=ut) (l:=b5 a s) (.lst (Cb.of RJ) (iF W4)) (.lst (Cb.of ad) .nil) (rF _) ⟨_,rfl,?_⟩
   generalize upd H2 e (.lst [])=H3 at s3 JS W4 RJ ⊢
   have Ec:=hY.same W s3
   cases LP:(b5 a s).isEmpty with
   | true=>exact aH ⟨ds,s,_,_,s1.trans s3,Ec,hP,by omega,s3 _ _ Gu,rfl⟩
   | false =>
    have HF:C8.length=(b5 a s).length:=by rw[Paired.length pM,length_map]
    have Fv:0 < C8.length:=by
     rw[HF]
     exact length_pos_iff.mpr λz=>by rw[z]at LP;cases LP
    refine aN ⟨_,rfl,a.y,a.dy,_,rfl,Ec.Y.Y.ins,rfl,_,rfl,_,rfl,sc,ns,4,rfl,(s1.trans s3).seq hS,λd5=>⟨_,rfl,_,_,rfl,rfl,d5,i + 50,rfl,by omega,λd hd=>?_⟩⟩
    obtain⟨k,hk,IM,v,hv,tm,rfl,Mq,Ih⟩:=AM W4 Fv d
    generalize (b5 a s)[k]=m at Mq Ih
    refine⟨_,rfl,M,_,rfl, .inl (Cb.of RJ),_,_,rfl,rfl,(by show (0:Int) < (C8.length:Int);omega),M,_,_,_,rfl,rfl,Cb.of RJ,(by rw[hk];exact ao hv),?_⟩
    refine⟨(b,[]),a,s,tm,m,rfl,Ec.Y,Mq,Ih,hY.J.UR (by rw[hP.dl];omega),λH7 s' st off Ig=>?_⟩
    have Qe:CB a s (.mv m) { s' with done:=s.done ++ [eP m] }:=⟨s',st,rfl⟩
    have Qd:=CB.GG (d := .mv m) hY.J Ih Qe
    exact⟨ds ++ [.mv m],_,_,_,dN (s1.trans s3) off hY.fr,Ec.own W off (λ_ z=>z) Ig Qd,hP.step hY.o hY.J (d := .mv m) Ih Qe (by omega),by rw[length_append];show _ + 1 <= _;omega,off _ _ Li (s3 _ _ Gu),rfl⟩
  rintro σ Hx ⟨b,a,n,ps,rs,rm,ds,s,Ce,ks,a6,a7,sX,hY,hP,E4,Gu,Li,EF,rfl⟩
  have EV:=jB (cX hP.fit) hP.C6
  have Jc:∀{a:YA},Of a n ps (aM rs)->Ag a.n a.ps a.wy (aM rs)/\∀q ∈ a.ps,eE a.n q=true:=λo=>⟨by rw[o.n,o.ps];exact o.ag,by rw[o.n,o.ps];exact hP.GJ⟩
  refine⟨P2 P w K c ts tn ys H sc 32,?_,?_⟩
  ·refine⟨_,rfl,(b,[]),a,s,aM rs,rfl,hY.Y,(Jc hY.o).1,EV,(Jc hY.o).2,hP.Mb,λH1 s1=>?_⟩
   rw[hY.o.n,hY.o.ps]
   have DG:=hY.same W s1
   refine⟨_,rfl,n,ps,rs,rm,ds,s,a.four,rfl,hP,(λz hz=>DG.Y.Y.DA z hz),λa' H2 e1 e2 e3 s2 FX Fw hJ=>?_⟩
   have F0:=s1.trans s2
   have hn:∀z ∈ a.four,z ∉ a'.four:=λz hz Ht=>by
    obtain⟨xs,hx⟩:=DG.Y.Y.DA z hz
    rw[FX z Ht]at hx;cases hx
   have hA:EG P w K c ts tn ys b H H2 a'.four a n ps rs s:=⟨⟨CQ.exs DG.Y.Y s2 (λz hz => .inr ⟨FX z hz,Fw.Y.DA z hz⟩),(hY.same W F0).Y.T,hY.Y.O,hY.Y.G⟩,hY.J,hY.o,hY.fr⟩
   have hB:EG P w K c ts tn ys false H H2 a.four a' n ps rs s:=⟨Fw,hJ,⟨by rw[e2];exact nB rs,e1,e3⟩,λz hz=>(sX.trans s1).free (FX z hz)⟩
   have W5:Ce ∉ a'.four:=λz=>by have:=s1 _ _ Gu;rw[FX Ce z]at this;cases this
   refine⟨_,rfl,(false,a.four),a',s,aM rs,rfl,hB.Y,(Jc hB.o).1,EV,(Jc hB.o).2,hP.Mb,λH3 s3=>⟨_,rfl,rfl,_,rfl,?_⟩⟩
   rw[hB.o.n,hB.o.ps,decide_eq_true rfl]
   have Mr:=hA.same W s3
   have RK:=hB.same W s3
   have tA:CK c (TC ts tn b) (JJ P w ts tn b) H3 a.tb a.lx a.Cr a.lt n a.Cf ps a.wy:=by have:=Mr.Y.T;rw[←hA.o.n,←hA.o.ps];exact this
   have tB:CK c (TC ts tn false) (JJ P w ts tn false) H3 a'.tb a'.lx a'.Cr a'.lt n a'.Cf ps a'.wy:=by have:=RK.Y.T;rw[←hB.o.n,←hB.o.ps];exact this
   refine aH ⟨_,rfl,_,rfl,a'.y,ys.Ca,a'.dy,_,_,rfl,RK.Y.Y.ins,Y.cl,Y.n1,rfl,b,a.tb,a.lx,a.Cr,a.lt,a'.tb,a'.lx,a'.Cr,a'.lt,n,a.Cf,a'.Cf,ps,a.wy,a'.wy,rfl,tA,tB,(λp g k hp hg hk=>nJ hA.o hB.o hp hg hk),λH4 s4=>⟨_,rfl,aH ?_⟩⟩
   have W6:=Mr.same W s4
   have W7:=RK.same W s4
   have Ry:=s3.trans s4
   refine⟨_,rfl,_,rfl,by show 2 <= sizeLine;decide,λYl W8=>?_⟩
   have JX:=(BX.refl H4).new (o := .lst [.ref a.y, .ref a'.y]) W8
   have g5:(upd H4 Yl (.lst [.ref a.y, .ref a'.y])) Yl=some (.lst [.ref a.y, .ref a'.y]):=ad
   have nYl:=cv W6.Y.Y W8
   have W9:=cv W7.Y.Y W8
   generalize upd H4 Yl (.lst [.ref a.y, .ref a'.y])=H5 at JX g5 ⊢
   have P9:=Ry.trans JX
   have sX5:=sX.trans (F0.trans P9)
   have ZV:=sG a
   refine⟨Yl,rfl,⟨_,Cb.of g5⟩,?_⟩
   refine dB (K:=K) (a:=Yl) (xs:=[.ref a.y, .ref a'.y]) (D:=⟨P2 P w K c ts tn ys H sc 32,_,λ_ _=>True,λ_ _=>True⟩) (LC P w K c ts tn ys H sc b a a' n ps rs s Ce Yl ks a6 a7)
    ⟨s,s,none,sX5,W6.same W JX,W7.same W JX, .inl ⟨rfl,rfl,rfl⟩,P9 _ _ (F0 _ _ Gu),g5,rfl⟩ (λi σ Hy _ Cc=>by obtain⟨_,_,_,_,_,_,_,_,g,_⟩:=Cc;exact Cb.of g) ?_ ?_
   rotate_left
   ·rintro σ Hy ⟨s0,OE,EA,sY,hA,hB,cs,_,_,rfl⟩
    rcases cs with ⟨e,_⟩ | ⟨e,_⟩ | ⟨_,hR,rfl⟩
    ·cases e
    ·cases e
    have WA:=wZ (lm a.wy a.n a.n) (iH ks (some 2) none)
    have ED:=kX ks (some 2) none
    obtain⟨P7,_⟩:=hR.pre hP hY.o hY.J (by omega)
    exact⟨b,a,a',n,ps,rs,rm,_,OE,_,_,_,_,_,_,sY,hA,hB,hn,P7,by rw[length_append];omega,rfl⟩
   clear hA hB Mr RK W6 W7 tA tB
   rintro i v σ H6 hv ⟨s0,OE,EA,s6,hA,hB,cs,WB,ZW,rfl⟩
   have ED:=kX ks (some 2) none
   have CS:=hP.lets
   have DY:=hP.dl
   refine⟨_,rfl,_,rfl,b,a,rfl,hA.Y.T,λBg De H7 s7 RG RH Ld Lc=>⟨_,rfl,_,rfl,Ce,_,rfl,Cb.of (s7 _ _ WB),λCu Lj=>?_⟩⟩
   rw[zR]
   generalize ZX:iH ks (some 2) none=ms at ED cs ⊢
   have Ms:=(BX.refl H7).new (o := .lst (ms.map V.int)) Lj
   have g8:(upd H7 Cu (.lst (ms.map V.int))) Cu=some (.lst (ms.map V.int)):=ad
   generalize upd H7 Cu (.lst (ms.map V.int))=H8 at Ms g8 ⊢
   have JY:=s7.trans Ms
   have Mu:=hA.same W JY
   have Mw:=hB.same W JY
   rcases cs with ⟨rfl,rfl,rfl⟩ | ⟨rfl,hR,rfl⟩ | ⟨rfl,_⟩
   ·cases hv
    refine⟨(b,a'.four),a,_,Bg,Cu,De,_,_,rfl,Mu.Y.Y,Mu.Y.T,Mu.J,Ms _ _ RH,Cw.same Ms Ld,ZV,Lc,cv hA.Y.Y RG,g8,cv (hA.same W s7).Y.Y Lj,by omega,by omega,by omega,λH9 s9 o9 Gj WC hR=>?_⟩
    exact⟨s9,_,_,dN (s6.trans JY) o9 (λz hz=>hA.fr z (pH a z hz)),Mu.own W o9 (pH a) Gj WC,Mw.off W o9 (pH a) Mu.Y.Y Gj (λz hz Ht=>hn z Ht hz), .inr (.inl ⟨rfl,by rw[ZX];exact hR,rfl⟩),o9 _ _ (λz=>Li (pH a _ z)) (JY _ _ WB),o9 _ _ (λz=>nYl (pH a _ z)) (JY _ _ ZW),rfl⟩
   ·cases hv
    refine⟨(false,a.four),a',_,Bg,Cu,De,_,_,rfl,Mw.Y.Y,Mw.Y.T,Mw.J,Ms _ _ RH,Cw.same Ms Ld,vK hA.o hB.o ZV,Lc,cv hB.Y.Y RG,g8,cv (hB.same W s7).Y.Y Lj,by omega,by omega,by omega,λH9 s9 o9 Gj WC hR'=>?_⟩
    have es:s9=s0:=(hR'.to hB.o hA.o hP.GJ hP.EZ.2 hB.J).det hR
    subst es
    exact⟨_,_,_,dN (s6.trans JY) o9 (λz hz=>hB.fr z (pH a' z hz)),Mu.off W o9 (pH a') Mw.Y.Y Gj hn,Mw.own W o9 (pH a') Gj WC, .inr (.inr ⟨rfl,by rw[ZX];exact hR,rfl⟩),o9 _ _ (λz=>W5 (pH a' _ z)) (JY _ _ WB),o9 _ _ (λz=>W9 (pH a' _ z)) (JY _ _ ZW),rfl⟩
   ·cases hv
  rintro σ Hx ⟨b,a,a',n,ps,rs,rm,ds,s,a5,a6,a7,a8,EA,Lh,sX,hA,hB,hn,hP,E4,rfl⟩
  refine⟨_,rfl,sc,_,rfl, .inl (sX.seq hS),_,_,rfl,5,_,rfl,⟨by decide,by decide,?_,?_⟩,?_⟩
  ·rw[length_map];split<;>omega
  ·rw[length_map];split<;>omega
  rw[length_map]
  refine bu (lo:=5) (LD P w K c ts tn ys H sc b a a' n ps rs rm a5 a8 EA)
   ⟨ds,s,a6,a7,Lh,sX,hA,hB,hP,E4,rfl⟩ ?_ ?_
  ·clear hA hB hP E4 sX
   rintro i σ H1 hi ⟨ds,s,a6,a7,Lh,s1,hA,hB,hP,E4,rfl⟩
   have ZY:5 + i < ns.length/\i < 30:=by
    have:i < ((if (35:Int) < (ns.length:Int) then (35:Int) else (ns.length:Int)) - 5).toNat:=hi
    split at this<;>omega
   rw[show (5:Int) + (i:Int)=((5 + i:Nat):Int) by omega]
   have hsx:(ns.map V.int)[5 + i]? = some (V.int (ns[5 + i]' ZY.1)):=by rw[getElem?_map,getElem?_eq_getElem ZY.1];rfl
   have Dr:s.lanes.length=ps.length:=by rw[hA.J.lanes,hA.o.ps]
   have Ew:s.lies.length=n:=by rw[hA.J.lies,hA.o.n]
   have hfw:=hA.J.C6
   have Df:=hP.C6
   have HA:=hP.EZ.2
   refine⟨_,rfl,_,rfl,_,rfl,(b,a'.four),a,s,by rw[Dr,Ew];rfl,hA.Y,by omega,by omega,by omega,hP.sc,λv2 H2 s2 d2=>?_⟩
   refine⟨_,rfl,_,rfl,_,rfl,(false,a.four),a',s,by rw[Dr,Ew];rfl,(hB.same W s2).Y,by omega,by omega,by omega,hP.sc,λv3 H3 s3 d3=>?_⟩
   have est:PR a' s=PR a s:=by unfold PR;rw[kF hA.o hB.o hP.GJ HA hA.J]
   rw[est]at d3
   refine Yy (Den.same s3 d2) d3 (Al hP.sc) ⟨_,rfl,aH ?_⟩
   have Pb:=s2.trans s3
   have Mr:=hA.same W Pb
   refine⟨_,rfl,a.y,a.dy,_,rfl,Mr.Y.Y.ins,rfl,(b,a'.four),a,s,rfl,Mr.Y,λM C8 H4 s4 hM gM pM=>?_⟩
   refine⟨_,rfl,zero_le _,λe he=>?_⟩
   have s5:=s4.new (o := .lst []) he
   have JX:=(BX.refl H4).new (o := .lst []) he
   have WD:=Paired.mono (λ_ _ z=>D6.keep (BX.Cq JX) z) pM
   have RL:=JX _ _ gM
   refine neN (f:=ut) (l:=b5 a s) (.lst (Cb.of RL) (iF WD)) (.lst (Cb.of ad) .nil) (rF _) ⟨_,rfl,?_⟩
   generalize upd H4 e (.lst [])=H5 at s5 JX WD RL ⊢
   have Qf:=Pb.trans s5
   have Jd:=hA.same W Qf
   have ZZ:=hB.same W Qf
   cases LP:(b5 a s).isEmpty with
   | true=>exact aH ⟨ds,s,_,_,_,s1.trans Qf,Jd,ZZ,hP,by omega,rfl⟩
   | false =>
    have HF:C8.length=(b5 a s).length:=by rw[Paired.length pM,length_map]
    have Fv:0 < C8.length:=by
     rw[HF]
     exact length_pos_iff.mpr λz=>by rw[z]at LP;cases LP
    refine aN ⟨_,rfl,_,rfl,_,rfl,sc,_,_,_,rfl,rfl,(s1.trans Qf).seq hS,ao hsx,_,rfl,_,5 + i,rfl,by omega,λd hd=>?_⟩
    obtain⟨k,hk,IM,v,hv,tm,rfl,Mq,Ih⟩:=AM WD Fv d
    generalize (b5 a s)[k]=m at Mq Ih
    refine⟨_,rfl,M,_,rfl, .inl (Cb.of RL),_,_,rfl,rfl,(by show (0:Int) < (C8.length:Int);omega),M,_,_,_,rfl,rfl,Cb.of RL,(by rw[hk];exact ao hv),?_⟩
    have NG:=hA.J.UR (by rw[hP.dl];omega)
    refine⟨_,rfl,a.y,a.dy,_,rfl,Jd.Y.Y.ins,rfl,_,rfl,(b,a'.four),a,s,tm,m,rfl,Jd.Y,Mq,Ih,NG,λH7 s' st off Ig=>?_⟩
    have Qe:CB a s (.mv m) { s' with done:=s.done ++ [eP m] }:=⟨s',st,rfl⟩
    have Qd:=CB.GG (d := .mv m) hA.J Ih Qe
    have hA7:=Jd.own W off (λ_ z=>z) Ig Qd
    have RM:=ZZ.off W off (λ_ z=>z) Jd.Y.Y Ig (λz hz Ht=>hn z Ht hz)
    have WE:=(Cn.Cq (λz hz=>Jd.Y.Y.DA z hz) off) _ _ Mq True.intro
    have Qg:m ∈ b5 a' s:=by rw[kF hA.o hB.o hP.GJ HA hA.J];exact Ih
    refine⟨_,rfl,a'.y,a'.dy,_,rfl,RM.Y.Y.ins,rfl,_,rfl,(false,a.four),a',s,tm,m,rfl,RM.Y,WE,Qg,NG,λH8 OF Jj Lk hY8=>?_⟩
    have es:OF = s':=(Jj.to hB.o hA.o hP.GJ HA hB.J).det st
    subst es
    have hJ8:=CB.GG (d := .mv m) hB.J Qg ⟨OF,Jj,rfl⟩
    exact⟨ds ++ [.mv m],_,_,_,_,dN (dN (s1.trans Qf) off hA.fr) Lk hB.fr,hA7.off W Lk (λ_ z=>z) RM.Y.Y hY8 hn,RM.own W Lk (λ_ z=>z) hY8 hJ8,hP.step hA.o hA.J (d := .mv m) Ih Qe (by omega),by rw[length_append];show _ + 1 <= _;omega,rfl⟩
  clear hA hB hP E4 sX
  rintro σ H1 ⟨ds,s,a6,a7,Lh,s1,hA,hB,hP,E4,rfl⟩
  have WA:ds.length <= 62:=by
   have:ds.length <= 32 + ((if (35:Int) < (ns.length:Int) then (35:Int) else (ns.length:Int)) - 5).toNat:=E4
   split at this<;>omega
  have EV:=jB (cX hP.fit) hP.C6
  have Jc:∀{a:YA},Of a n ps (aM rs)->Ag a.n a.ps a.wy (aM rs)/\∀q ∈ a.ps,eE a.n q=true:=λo=>⟨by rw[o.n,o.ps];exact o.ag,by rw[o.n,o.ps];exact hP.GJ⟩
  refine⟨_,rfl,(b,a'.four),a,s,aM rs,rfl,hA.Y,(Jc hA.o).1,EV,(Jc hA.o).2,hP.Mb,λH2 s2=>?_⟩
  rw[hA.o.n,hA.o.ps]
  refine⟨_,rfl,_,rfl,(false,a.four),a',s,aM rs,rfl,(hB.same W s2).Y,(Jc hB.o).1,EV,(Jc hB.o).2,hP.Mb,λH3 s3=>⟨rfl,_,rfl,?_⟩⟩
  rw[hB.o.n,hB.o.ps,decide_eq_true rfl]
  refine aN ⟨_,rfl,n,ps,rs,rm,ds,s,[],rfl,hP,(λz hz=>by cases hz),λa3 H4 _ _ _ s4 _ Fw _=>?_⟩
  refine⟨a3.y,a3.dy,_,rfl,Fw.Y.ins,rfl,[],a3.y,a3.dy,a3.tb,a3.ro,a3.la,a3.le,a3.li,a3.dn,s,rfl,Fw.Y,λD1 v1 H5 s5 _ g1 p1=>?_⟩
  have Jd:=hA.same W ((s2.trans s3).trans (s4.trans s5))
  refine⟨_,rfl,a.y,a.dy,_,rfl,Jd.Y.Y.ins,rfl,a'.four,a.y,a.dy,a.tb,a.ro,a.la,a.le,a.li,a.dn,s,rfl,Jd.Y.Y,λD2 v2 H6 s6 _ g2 p2=>?_⟩
  refine eqS (d := .list (s.done.map v6)) (.lst (Cb.of (s6 _ _ g1)) (gA (Paired.mono (λ_ _ z=>D6.keep (BX.Cq s6) z) p1) hP.sc)) (.lst (Cb.of g2) (gA p2 hP.sc)) ((bN (m:=1) λz hz=>?_).le (by decide)) (q _)
  obtain⟨m,hm,rfl⟩:=mem_map.mp hz
  exact nZ (hP.sc m hm)
theorem len_of1{α:Type}{P:List α->Prop}(h:∀a0,P [a0]):∀us:List α,us.length=1->P us
 | [a0],_=>h a0
theorem len_of2{α:Type}{P:List α->Prop}(h:∀a0 a1,P [a0,a1]):∀us:List α,us.length=2->P us
 | [a0,a1],_=>h a0 a1
theorem len_of3{α:Type}{P:List α->Prop}(h:∀a0 a1 a2,P [a0,a1,a2]):∀us:List α,us.length=3->P us
 | [a0,a1,a2],_=>h a0 a1 a2
theorem len_of4{α:Type}{P:List α->Prop}(h:∀a0 a1 a2 a3,P [a0,a1,a2,a3]):∀us:List α,us.length=4->P us
 | [a0,a1,a2,a3],_=>h a0 a1 a2 a3
theorem len_of5{α:Type}{P:List α->Prop}(h:∀a0 a1 a2 a3 a4,P [a0,a1,a2,a3,a4]):∀us:List α,us.length=5->P us
 | [a0,a1,a2,a3,a4],_=>h a0 a1 a2 a3 a4
structure FT(K:Frag)(mg:Str->Option Value)(n:Str)(st:Stmt)(ps:List Str)(f:Addr)(fd:FuncData):Prop where
 F:C2 K n n st f fd
 m:mg n=some (.ref f)
 k:keepIn K (.ref f)=true
 b:Binds K fd ps []
structure FM(K:Frag)(C:Addr)(n q:Str)(st:Stmt)(ps:List Str)(f:Addr)(fd:FuncData):Prop where
 F:C2 K n q st f fd
 m:bC K C n f
 b:Binds K fd ps []
section
variable {K:Frag}{mg:Str->Option Value}{C f:Addr}{n q:Str}{st:Stmt}{ps:List Str}{h:Heap}{oc:Value}{od an:Option Addr}{FL:Array (Option Value)}{kV doc pm cdv ct:Value}
theorem mkT(X:K.In h)(G:h.Ns mainGlobals mg)(hb:∀(kV doc pm:Value) (an:Option Addr) (cdv ct:Value) (us:List Value),us.length=ps.length->bindArgs (fnOf n n (bU st) (aI st) (ai st) .none kV doc pm an cdv ct) ⟨us,[]⟩ = pure (ps.zip us))
  (a:nsIn K mainGlobals n=some (some (.ref f))) (l:K.lookup f=some ⟨oc,od, .func (fnOf n n (bU st) (aI st) (ai st) .none kV doc pm an cdv ct),FL⟩) (c:codeIn K cdv n=true) (k:keepIn K (.ref f)=true):∃fd,FT K mg n st ps f fd :=
 ⟨_,kQ l c k,mg_of X G a,k,(kQ l c k).binds hb⟩
theorem mkM(hb:∀(kV doc pm:Value) (an:Option Addr) (cdv ct:Value) (us:List Value),us.length=ps.length->bindArgs (fnOf n q (bU st) (aI st) (ai st) .none kV doc pm an cdv ct) ⟨us,[]⟩ = pure (ps.zip us))
  (a:findIn K (.ref C) n=some (some (.ref f))) (l:K.lookup f=some ⟨oc,od, .func (fnOf n q (bU st) (aI st) (ai st) .none kV doc pm an cdv ct),FL⟩) (c:codeIn K cdv q=true) (k:keepIn K (.ref f)=true) (i:isFn K (.ref f)=true):∃fd,FM K C n q st ps f fd :=
 ⟨_,kQ l c k,⟨a,i,k⟩,(kQ l c k).binds hb⟩
end
section
variable {l:PySem.W.OpenLaw}{w:World}{K:Frag}{h:Heap}{mg:Str->Option Value}{fa cL cB cD cO cA cH cJ f1 f2 f3 f4 f5 f6 f7 f8 f9 f10 QT f12 f13 f14 f15 f16 f17 f18 f19 f20 f21 f22 f23 f24 f25 f26 f27 f28 f29 WH f31 WI WJ f34 f35 f36 f37 f38 f39 WK Qh f42 RN WL RO Qi Qj f48 RP f50 WM f52 WN f54 WO WQ f57 f58 WR f60 Ll Mx WS WT WU WV WW f68 WX f70 WY WZ Xa Xb Xc Xd Xe Xf Xg Xh Xi:Addr}{t1 t2 t3 t4 t5 t6 t7:Tok}
theorem all_mk(X:K.In h)(G:h.Ns mainGlobals mg)(FZ:mg "law" = some (.ref fa))
  
   
  (gcL:nsIn K mainGlobals "Land" = some (some (.ref cL)))
  (gcB:nsIn K mainGlobals "Table" = some (some (.ref cB)))
  (gcD:nsIn K mainGlobals "Told" = some (some (.ref cD)))
  (gcO:nsIn K mainGlobals "Nearer" = some (some (.ref cO)))
  (gcA:nsIn K mainGlobals "Lane" = some (some (.ref cA)))
  (gcH:nsIn K mainGlobals "Letter" = some (some (.ref cH)))
  (gcJ:nsIn K mainGlobals "Yard" = some (some (.ref cJ)))
  (h1:∃d,FT K mg "has" xS ["some", "number"] f1 d)
  (h2:∃d,FT K mg "members" vn ["some"] f2 d)
  (h3:∃d,FT K mg "set_of" Aw ["numbers"] f3 d)
  (h4:∃d,FT K mg "is_whole" gU ["value"] f4 d)
  (h5:∃d,FT K mg "is_within" jz ["value", "least", "most"] f5 d)
  (h6:∃d,FT K mg "is_one_of" Ay ["value", "numbers"] f6 d)
  (h7:∃d,FT K mg "are_two_places" Au ["places", "one", "other"] f7 d)
  (h8:∃d,FT K mg "row_fits" oq ["land", "row"] f8 d)
  (h9:∃d,FT K mg "onward" TL ["table", "lane", "goal"] f9 d)
  (h10:∃d,FT K mg "rooms_of" gX ["land", "rooms"] f10 d)
  (h11:∃d,FT K mg "is_word" vc ["word"] QT d)
  (h12:∃d,FT K mg "is_move" oi ["move"] f12 d)
  (h13:∃d,FT K mg "words_of" qb ["row"] f13 d)
  (h14:∃d,FT K mg "number_of" i3 ["word"] f14 d)
  (h15:∃d,FT K mg "signed_of" mG ["word"] f15 d)
  (h16:∃d,FT K mg "written" jX ["thing"] f16 d)
  (h17:∃d,FT K mg "row_of" kd ["things"] f17 d)
  (h18:∃d,FT K mg "way_rows" jY ["table", "place", "goal"] f18 d)
  (h19:∃d,FT K mg "table_rows" fL ["table"] f19 d)
  (h20:∃d,FT K mg "yard_text" jW ["yard"] f20 d)
  (h21:∃d,FT K mg "rows_of" iy ["text"] f21 d)
  (h22:∃d,FT K mg "read_way" fM ["words"] f22 d)
  (h23:∃d,FT K mg "make_table" fN ["rows"] f23 d)
  (h24:∃d,FT K mg "do_deed" ot ["yard", "words"] f24 d)
  (h25:∃d,FT K mg "rooms_at" kg ["rows"] f25 d)
  (h26:∃d,FT K mg "make_yard" i4 ["rows"] f26 d)
  (h27:∃d,FT K mg "read_yard" iP ["text"] f27 d)
  (h28:∃d,FT K mg "how_far" AE ["land", "goal"] f28 d)
  (h29:∃d,FT K mg "nearer_lanes" N4 ["land", "far", "place"] f29 d)
  (h30:∃d,FT K mg "_law_cell_at" vy ["_law_script", "_law_k"] WH d)
  (h31:∃d,FT K mg "_law_mixed" Az ["_law_cell", "_law_k"] f31 d)
  (h32:∃d,FT K mg "_law_lanes" qi ["_law_places", "_law_amount", "_law_cell"] WI d)
  (h33:∃d,FT K mg "_law_rows" jZ ["_law_places", "_law_lanes_here", "_law_cell"] WJ d)
  (h34:∃d,FT K mg "_law_table" vv ["_law_script"] f34 d)
  (h35:∃d,FT K mg "_law_begins" qq ["_law_table_here"] f35 d)
  (h36:∃d,FT K mg "_law_rooms" i5 ["_law_table_here", "_law_cell"] f36 d)
  (h37:∃d,FT K mg "_law_posts" mJ ["_law_yard", "_law_begins_here", "_law_cells"] f37 d)
  (h38:∃d,FT K mg "_law_stand" dO ["_law_yard", "_law_lanes_here", "_law_places"] f38 d)
  (h39:∃d,FT K mg "_law_same_ways" qe ["_law_table_here", "_law_other"] f39 d)
  (a40:nsIn K mainGlobals "law" = some (some (.ref WK)))
  (l40:K.lookup WK=some ⟨Xp,Xj, .func (fnOf "law" "law" (bU ki) (aI ki) (ai ki) .none Qn Qo Qp Qk Ln Qq),Xm⟩)
  (c40:codeIn K Ln "law" = true)
  (k40:keepIn K (.ref WK)=true)
  (h41:∃d,FM K cL "__init__" "Land.__init__" om ["self", "places", "lanes"] Qh d)
  (h42:∃d,FM K cL "start_of" "Land.start_of" qd ["self", "lane"] f42 d)
  (h43:∃d,FM K cL "end_of" "Land.end_of" AF ["self", "lane"] RN d)
  (h44:∃d,FM K cL "out_of" "Land.out_of" vj ["self", "place"] WL d)
  (h45:∃d,FM K cL "into" "Land.into" oj ["self", "place"] RO d)
  (h46:∃d,FM K cB "__init__" "Table.__init__" Av ["self", "land"] Qi d)
  (h47:∃d,FM K cD "__init__" "Told.__init__" vf ["self", "land", "rows"] Qj d)
  (h48:∃d,FM K cD "ways" "Told.ways" qc ["self", "place", "goal", "came"] f48 d)
  (h49:∃d,FM K cO "__init__" "Nearer.__init__" vm ["self", "land"] RP d)
  (h50:∃d,FM K cO "ways" "Nearer.ways" vd ["self", "place", "goal", "came"] f50 d)
  (h51:∃d,FM K cA "__init__" "Lane.__init__" AC ["self", "room"] WM d)
  (h52:∃d,FM K cA "open_to" "Lane.open_to" vk ["self", "letter", "count"] f52 d)
  (h53:∃d,FM K cA "put" "Lane.put" Ax ["self", "letter", "count", "last"] WN d)
  (h54:∃d,FM K cA "front" "Lane.front" qk ["self"] f54 d)
  (h55:∃d,FM K cA "pull" "Lane.pull" vg ["self"] WO d)
  (h56:∃d,FM K cA "bring" "Lane.bring" qo ["self"] WQ d)
  (h57:∃d,FM K cA "told" "Lane.told" AB ["self"] f57 d)
  (h58:∃d,FM K cA "twin" "Lane.twin" AA ["self"] f58 d)
  (h59:∃d,FM K cH "__init__" "Letter.__init__" vt ["self", "start", "goal", "length", "word"] WR d)
  (h60:∃d,FM K cH "twin" "Letter.twin" vp ["self"] f60 d)
  (a61:findIn K (.ref cJ) "__init__" = some (some (.ref Ll)))
  (l61:K.lookup Ll=some ⟨Xq,Xk, .func (fnOf "__init__" "Yard.__init__" (bU iO) (aI iO) (ai iO) (.ref Qz) Qr Qs Qt Ql Lo Qu),Xn⟩)
  (d61:K.lookup Qz=some ⟨Xs,Xu, .seq #[Value.none] Xw,Xz⟩)
  (c61:codeIn K Lo "Yard.__init__" = true)
  (k61:keepIn K (.ref Ll)=true)
  (i61:isFn K (.ref Ll)=true)
  (a62:findIn K (.ref cJ) "post" = some (some (.ref Mx)))
  (l62:K.lookup Mx=some ⟨Xr,Xl, .func (fnOf "post" "Yard.post" (bU i0) (aI i0) (ai i0) (.ref Q0) Qv Qw Qx Qm Lp Qy),Xo⟩)
  (d62:K.lookup Q0=some ⟨Xt,Xv, .seq #[Value.int 0 Xy] Xx,X0⟩)
  (c62:codeIn K Lp "Yard.post" = true)
  (k62:keepIn K (.ref Mx)=true)
  (i62:isFn K (.ref Mx)=true)
  (h63:∃d,FM K cJ "moves" "Yard.moves" qg ["self"] WS d)
  (h64:∃d,FM K cJ "moves_in" "Yard.moves_in" oh ["self", "number"] WT d)
  (h65:∃d,FM K cJ "moves_on" "Yard.moves_on" og ["self", "lane"] WU d)
  (h66:∃d,FM K cJ "moves_lie" "Yard.moves_lie" qf ["self", "lane"] WV d)
  (h67:∃d,FM K cJ "moves_back" "Yard.moves_back" mI ["self", "lane"] WW d)
  (h68:∃d,FM K cJ "wanted" "Yard.wanted" iw ["self", "lane"] f68 d)
  (h69:∃d,FM K cJ "moves_like" "Yard.moves_like" vo ["self", "move"] WX d)
  (h70:∃d,FM K cJ "do" "Yard.do" TN ["self", "move"] f70 d)
  (h71:∃d,FM K cJ "go_in" "Yard.go_in" vx ["self", "number", "lane"] WY d)
  (h72:∃d,FM K cJ "enter" "Yard.enter" qm ["self", "piece", "lane"] WZ d)
  (h73:∃d,FM K cJ "lay" "Yard.lay" AD ["self", "piece", "place"] Xa d)
  (h74:∃d,FM K cJ "own_lane" "Yard.own_lane" vi ["self", "lane"] Xb d)
  (h75:∃d,FM K cJ "own_letter" "Yard.own_letter" vh ["self", "number"] Xc d)
  (h76:∃d,FM K cJ "lane_told" "Yard.lane_told" qj ["self", "lane"] Xd d)
  (h77:∃d,FM K cJ "letter_told" "Yard.letter_told" vq ["self", "number"] Xe d)
  (h78:∃d,FM K cJ "way_told" "Yard.way_told" ve ["self", "number"] Xf d)
  (h79:∃d,FM K cJ "lying" "Yard.lying" qh ["self", "place"] Xg d)
  (h80:∃d,FM K cJ "posted" "Yard.posted" mH ["self"] Xh d)
  (h81:∃d,FM K cJ "history" "Yard.history" vw ["self"] Xi d)
  (mp:nsIn K mainGlobals "MOST_PLACES" = some (some (.int 12 t1)))
  (ml:nsIn K mainGlobals "MOST_LANES" = some (some (.int 40 t2)))
  (mr:nsIn K mainGlobals "MOST_ROOM" = some (some (.int 60 t3)))
  (mh:nsIn K mainGlobals "MOST_LENGTH" = some (some (.int 60 t4)))
  (mk:nsIn K mainGlobals "MOST_LETTERS" = some (some (.int 60 t5)))
  (mq:nsIn K mainGlobals "MOST_FIGURES" = some (some (.int 60 t6)))
  (p1cL:plainGet K cL Str.empty=true)
  (p2cL:hasDictIn K cL=true)
  (p3cL:plainOver K cL=true)
  (p4cL:findIn K (.ref cL) "__setattr__" = some (some (.builtin "object.__setattr__")))
  (p5cL:makesIn K cL=true)
  (p6cL:keepIn K (.ref cL)=true)
  (ncLplaces:findIn K (.ref cL) "places" = some none)
  (ncLlanes:findIn K (.ref cL) "lanes" = some none)
  (p1cB:plainGet K cB Str.empty=true)
  (p2cB:hasDictIn K cB=true)
  (p3cB:plainOver K cB=true)
  (p4cB:findIn K (.ref cB) "__setattr__" = some (some (.builtin "object.__setattr__")))
  (p5cB:makesIn K cB=true)
  (p6cB:keepIn K (.ref cB)=true)
  (ncBland:findIn K (.ref cB) "land" = some none)
  (p1cD:plainGet K cD Str.empty=true)
  (p2cD:hasDictIn K cD=true)
  (p3cD:plainOver K cD=true)
  (p4cD:findIn K (.ref cD) "__setattr__" = some (some (.builtin "object.__setattr__")))
  (p5cD:makesIn K cD=true)
  (p6cD:keepIn K (.ref cD)=true)
  (ncDland:findIn K (.ref cD) "land" = some none)
  (ncDentries:findIn K (.ref cD) "entries" = some none)
  (p1cO:plainGet K cO Str.empty=true)
  (p2cO:hasDictIn K cO=true)
  (p3cO:plainOver K cO=true)
  (p4cO:findIn K (.ref cO) "__setattr__" = some (some (.builtin "object.__setattr__")))
  (p5cO:makesIn K cO=true)
  (p6cO:keepIn K (.ref cO)=true)
  (ncOland:findIn K (.ref cO) "land" = some none)
  (ncOentries:findIn K (.ref cO) "entries" = some none)
  (p1cA:plainGet K cA Str.empty=true)
  (p2cA:hasDictIn K cA=true)
  (p3cA:plainOver K cA=true)
  (p4cA:findIn K (.ref cA) "__setattr__" = some (some (.builtin "object.__setattr__")))
  (p5cA:makesIn K cA=true)
  (p6cA:keepIn K (.ref cA)=true)
  (ncArights:findIn K (.ref cA) "rights" = some none)
  (ncAreturning:findIn K (.ref cA) "returning" = some none)
  (ncAholder:findIn K (.ref cA) "holder" = some none)
  (ncApieces:findIn K (.ref cA) "pieces" = some none)
  (p1cH:plainGet K cH Str.empty=true)
  (p2cH:hasDictIn K cH=true)
  (p3cH:plainOver K cH=true)
  (p4cH:findIn K (.ref cH) "__setattr__" = some (some (.builtin "object.__setattr__")))
  (p5cH:makesIn K cH=true)
  (p6cH:keepIn K (.ref cH)=true)
  (ncHstart:findIn K (.ref cH) "start" = some none)
  (ncHgoal:findIn K (.ref cH) "goal" = some none)
  (ncHlength:findIn K (.ref cH) "length" = some none)
  (ncHword:findIn K (.ref cH) "word" = some none)
  (ncHgone:findIn K (.ref cH) "gone" = some none)
  (ncHway:findIn K (.ref cH) "way" = some none)
  (p1cJ:plainGet K cJ Str.empty=true)
  (p2cJ:hasDictIn K cJ=true)
  (p3cJ:plainOver K cJ=true)
  (p4cJ:findIn K (.ref cJ) "__setattr__" = some (some (.builtin "object.__setattr__")))
  (p5cJ:makesIn K cJ=true)
  (p6cJ:keepIn K (.ref cJ)=true)
  (ncJtable:findIn K (.ref cJ) "table" = some none)
  (ncJrooms:findIn K (.ref cJ) "rooms" = some none)
  (ncJlanes:findIn K (.ref cJ) "lanes" = some none)
  (ncJletters:findIn K (.ref cJ) "letters" = some none)
  (ncJlies:findIn K (.ref cJ) "lies" = some none)
  (ncJdone:findIn K (.ref cJ) "done" = some none)
  (mf:nsIn K mainGlobals "FIGURES" = some (some (.str (Str.ofString "0123456789") t7)))
  (w1cB:PySem.W.readsIn K cB (.type "type")=true)
  (w2cB:PySem.W.findCls K (.ref cB) (.type "type") "__init__" = some (.val (.ref Qi)))
  (w3cB:PySem.W.specialIn K (.ref cB) "__getattribute__" = some (some (.builtin "type.__getattribute__")))
  (kk1:kitOne K (.type "int") (.type "int")=some true)
  (kk2:kitOne K (.type "int") (.type "bool")=some false)
  (kk3:kitOne K (.type "bool") (.type "int")=some true)
  (kk4:kitOne K (.type "bool") (.type "bool")=some true)
  (kk5:kitOne K (.type "NoneType") (.type "int")=some false)
  (kk6:kitOne K (.type "str") (.type "str")=some true)
  (kk7:kitOne K (.type "int") (.type "str")=some false)
  (kk8:kitOne K (.type "tuple") (.type "tuple")=some true)
  (z0:nsIn K mainGlobals "isinstance" = some none)
  (z1:nsIn K mainGlobals "int" = some none)
  (z2:nsIn K mainGlobals "bool" = some none)
  (z3:nsIn K mainGlobals "len" = some none)
  (z4:nsIn K mainGlobals "enumerate" = some none)
  (z5:nsIn K mainGlobals "tuple" = some none)
  (z6:nsIn K mainGlobals "range" = some none)
  (z7:nsIn K mainGlobals "list" = some none)
  (z8:nsIn K mainGlobals "all" = some none)
  (z9:nsIn K mainGlobals "abs" = some none)
  (z10:nsIn K mainGlobals "str" = some none)
  (z11:nsIn K mainGlobals "min" = some none)
  : ∃fd:FuncData,(∀(s:Shared)(v:Value),BindsTo s fd ⟨[v],[]⟩ [("_law_script",v)])/\∀base:Heap,K.In base->base.Ns mainGlobals mg->BY l.prog w K mg base ay 12 fa fd ["_law_script"] (rA K):=by
 have e:=FZ.symm.trans (mg_of X G a40)
 cases e
 have T:Txt mg:=⟨mg_none_of X G z0,mg_none_of X G z1,mg_none_of X G z2,mg_none_of X G z3,mg_none_of X G z4,mg_none_of X G z5,mg_none_of X G z6,mg_none_of X G z7,mg_none_of X G z8,mg_none_of X G z9,mg_none_of X G z10,mg_none_of X G z11⟩
 obtain⟨d1,H1⟩:=h1
 obtain⟨d2,H2⟩:=h2
 obtain⟨d3,H3⟩:=h3
 obtain⟨d4,H4⟩:=h4
 obtain⟨d5,H5⟩:=h5
 obtain⟨d6,H6⟩:=h6
 obtain⟨d7,H7⟩:=h7
 obtain⟨d8,H8⟩:=h8
 obtain⟨d9,H9⟩:=h9
 obtain⟨d10,Hs⟩:=h10
 obtain⟨d11,RQ⟩:=h11
 obtain⟨d12,RS⟩:=h12
 obtain⟨d13,RT⟩:=h13
 obtain⟨d14,GK⟩:=h14
 obtain⟨d15,RU⟩:=h15
 obtain⟨d16,RV⟩:=h16
 obtain⟨d17,Ii⟩:=h17
 obtain⟨d18,RW⟩:=h18
 obtain⟨d19,RX⟩:=h19
 obtain⟨d20,Lq⟩:=h20
 obtain⟨d21,RY⟩:=h21
 obtain⟨d22,RZ⟩:=h22
 obtain⟨d23,Sa⟩:=h23
 obtain⟨d24,Sb⟩:=h24
 obtain⟨d25,Sd⟩:=h25
 obtain⟨d26,Se⟩:=h26
 obtain⟨d27,Sf⟩:=h27
 obtain⟨d28,Sg⟩:=h28
 obtain⟨d29,Sh⟩:=h29
 obtain⟨d30,Lr⟩:=h30
 obtain⟨d31,GL⟩:=h31
 obtain⟨d32,Si⟩:=h32
 obtain⟨d33,Sj⟩:=h33
 obtain⟨d34,Sk⟩:=h34
 obtain⟨d35,Sl⟩:=h35
 obtain⟨d36,Sm⟩:=h36
 obtain⟨d37,Sn⟩:=h37
 obtain⟨d38,So⟩:=h38
 obtain⟨d39,Sr⟩:=h39
 obtain⟨d41,Q2⟩:=h41
 obtain⟨d42,X1⟩:=h42
 obtain⟨d43,Q3⟩:=h43
 obtain⟨d44,Mz⟩:=h44
 obtain⟨d45,Je⟩:=h45
 obtain⟨d46,Q4⟩:=h46
 obtain⟨d47,Q5⟩:=h47
 obtain⟨d48,X2⟩:=h48
 obtain⟨d49,Ss⟩:=h49
 obtain⟨d50,X3⟩:=h50
 obtain⟨d51,Q6⟩:=h51
 obtain⟨d52,Ls⟩:=h52
 obtain⟨d53,X4⟩:=h53
 obtain⟨d54,Lu⟩:=h54
 obtain⟨d55,X5⟩:=h55
 obtain⟨d56,X6⟩:=h56
 obtain⟨d57,X7⟩:=h57
 obtain⟨d58,X8⟩:=h58
 obtain⟨d59,Q7⟩:=h59
 obtain⟨d60,X9⟩:=h60
 obtain⟨d63,Q8⟩:=h63
 obtain⟨d64,XA⟩:=h64
 obtain⟨d65,XB⟩:=h65
 obtain⟨d66,XC⟩:=h66
 obtain⟨d67,XD⟩:=h67
 obtain⟨d68,XE⟩:=h68
 obtain⟨d69,XF⟩:=h69
 obtain⟨d70,Q9⟩:=h70
 obtain⟨d71,XG⟩:=h71
 obtain⟨d72,QA⟩:=h72
 obtain⟨d73,XH⟩:=h73
 obtain⟨d74,XI⟩:=h74
 obtain⟨d75,XJ⟩:=h75
 obtain⟨d76,XM⟩:=h76
 obtain⟨d77,XN⟩:=h77
 obtain⟨d78,XO⟩:=h78
 obtain⟨d79,XQ⟩:=h79
 obtain⟨d80,XR⟩:=h80
 obtain⟨d81,Lv⟩:=h81
 have F40:=kQ (st:=ki) l40 c40 k40
 have F61:G5 K "__init__" "Yard.__init__" iO Ll _:=⟨⟨_,_,_,_,_,_,_,_,_,_,rfl,l61,c61⟩,k61⟩
 have F62:G5 K "post" "Yard.post" i0 Mx _:=⟨⟨_,_,_,_,_,_,_,_,_,_,rfl,l62,c62⟩,k62⟩
 have L:lc K ⟨cL⟩:=⟨⟨p1cL,p2cL,p3cL,p4cL⟩,ncLplaces,ncLlanes⟩
 have Z:xq K:=⟨kk1,kk2,kk3,kk4,kk5⟩
 have ZS:OG K:=⟨kk6,kk7,kk8⟩
 have B:TU K mg ⟨cB,cD⟩ Qi _:=⟨⟨p1cB,p2cB,p3cB,p4cB⟩,ncBland,⟨p1cD,p2cD,p3cD,p4cD⟩,ncDland,ncDentries,(mg_of X G gcB),⟨w1cB,w2cB,w3cB,Q4.m.kp⟩,Q4.b⟩
 have M:NB K ⟨cL⟩ WL RO _ _:=⟨Mz.m,Je.m,Mz.b,Je.b⟩
 have BN:VQ K mg ⟨cB,cO⟩ Qi _:=⟨⟨p1cO,p2cO,p3cO,p4cO⟩,ncOland,ncOentries,(mg_of X G gcB),⟨w1cB,w2cB,w3cB,Q4.m.kp⟩,Q4.b⟩
 have ME:zo K ⟨cL⟩ RN _:=⟨Q3.m,Q3.b⟩
 have Y:∀ex:List Addr,iL K ⟨cJ,cA,cH,ex⟩:=λ_=>⟨⟨p1cJ,p2cJ,p3cJ,p4cJ⟩,ncJtable,ncJrooms,ncJlanes,ncJletters,ncJlies,ncJdone,⟨p1cH,p2cH,p3cH,p4cH⟩,ncHstart,ncHgoal,ncHlength,ncHword,ncHgone,ncHway,⟨⟨p1cA,p2cA,p3cA,p4cA⟩,ncArights,ncAreturning,ncAholder,ncApieces⟩⟩
 have RF:=rb (kV:=Qr) (doc:=Qs) (pm:=Qt) (cdv:=Lo) (ct:=Qu) (an:=Ql) d61 rfl
 have bp0:=pB (kV:=Qv) (doc:=Qw) (pm:=Qx) (cdv:=Lp) (ct:=Qy) (an:=Qm) d62 rfl
 have Mi:Mk K cL Qh:=⟨p5cL,Q2.m.at_,Q2.m.fn,p6cL⟩
 have Mt:Mk K cD Qj:=⟨p5cD,Q5.m.at_,Q5.m.fn,p6cD⟩
 have Mn:Mk K cO RP:=⟨p5cO,Ss.m.at_,Ss.m.fn,p6cO⟩
 have My:Mk K cJ Ll:=⟨p5cJ,a61,i61,p6cJ⟩
 have Ma:Mk K cA WM:=⟨p5cA,Q6.m.at_,Q6.m.fn,p6cA⟩
 have Mh:Mk K cH WR:=⟨p5cH,Q7.m.at_,Q7.m.fn,p6cH⟩
 have Ml:Lm K ⟨cL⟩ f42 RN WL RO _ _ _ _:=⟨X1.m,X1.b,Q3.m,Q3.b,Mz.m,Mz.b,Je.m,Je.b⟩
 refine⟨fnOf "law" "law" (bU ki) (aI ki) (ai ki) .none Qn Qo Qp Qk Ln Qq,λs v => .of_eq rfl,λbase _ _=>?_⟩
 have Gm:BY l.prog w K mg base ay 2 f2 _ _ _:=Bh H2.F T H1.m H1.F H1.b
 obtain⟨fw,dw,WG⟩:=both (P:=λb f d=>Wy K (TC ⟨cB,cD⟩ ⟨cB,cO⟩ b) f d (JJ l.prog w ⟨cB,cD⟩ ⟨cB,cO⟩ b)/\BY l.prog w K mg base ay 3 f d ["self", "place", "goal", "came"] (cT (JJ l.prog w ⟨cB,cD⟩ ⟨cB,cO⟩ b)))
  ⟨⟨⟨p1cO,p2cO,p3cO,p4cO⟩,ncOland,X3.m,X3.b,λH H' x n wy h k=>Mg.keep (n:=n) (wy:=wy) h k⟩,vR X3.F BN H2.m H2.k H2.b Gm⟩ ⟨⟨⟨p1cD,p2cD,p3cD,p4cD⟩,ncDland,X2.m,X2.b,λH H' x n wy h k=>CI.keep (n:=n) (wy:=wy) h k⟩,pO (vS X2.F B H2.m H2.k H2.b Gm)⟩
 have Wb:=λb=>(WG b).1
 have Gb:=λb=>(WG b).2
 have Gw:BY l.prog w K mg base ay 2 f5 _ _ _:=t8 H5.F T H4.m H4.F H4.b
 have XS:BY l.prog w K mg base ay 2 f5 _ _ _:=qy H5.F T Z H4.m H4.F H4.b
 have GW:BY l.prog w K mg base ay 1 f4 _ _ _:=lA H4.F T Z
 have G2:BY l.prog w K mg base ay 3 f7 _ _ _:=AZ H7.F H5.m H5.k H5.b Gw
 have Gi:BY l.prog w K mg base ay 4 Qh _ _ _:=y8 Q2.F T L H5.m H5.k H5.b Gw H7.m H7.k H7.b G2 (mg_of X G mp) (mg_of X G ml)
 have Go:BY l.prog w K mg base ay 2 f6 _ _ _:=Bd H6.F T H4.m H4.F H4.b
 have Su:BY l.prog w K mg base ay 1 RO _ _ _:=y6 Je.F T L
 have Gf:BY l.prog w K mg base ay 4 f8 _ _ _:=yB H8.F T L M H7.m H7.k H7.b G2 H6.m H6.k H6.b Go (vY Mz.F T L) Su
 have G1:BY l.prog w K mg base ay 1 Qi _ _ _:=Ba Q4.F
 have Gse:BY l.prog w K mg base ay 1 f3 _ _ _:=Bb H3.F
 have Gt:BY l.prog w K mg base ay 5 Qj _ _ _:=ym Q5.F T B G1 H8.m H8.k H8.b Gf H3.m H3.k H3.b Gse
 have Ge:BY l.prog w K mg base ay 1 RN _ _ _:=Br Q3.F L
 have Gh:BY l.prog w K mg base ay 2 f28 _ _ _:=Bp Sg.F T L Ml (vT X1.F L) Su
 have Gnl:BY l.prog w K mg base ay 2 f29 _ _ _:=Pw Sh.F T L Ml Ge (vY Mz.F T L)
 have Gn:BY l.prog w K mg base ay 3 RP _ _ _:=yw Ss.F T L BN G1 Sg.m Sg.k Sg.b Gh Sh.m Sh.k Sh.b Gnl H3.m H3.k H3.b Gse
 have Wx:BY l.prog w K mg base ay 3 f10 _ _ _:=vX Hs.F T L H5.m H5.k H5.b XS (mg_of X G mr)
 have Um:BY l.prog w K mg base ay 2 QT _ _ _:=yk RQ.F T H4.m H4.k H4.b GW
 have Gla:BY l.prog w K mg base ay 1 WM _ _ _:=Bm Q6.F (Y []).L
 have Glt:BY l.prog w K mg base ay 1 f57 _ _ _:=Bl X7.F T (Y []).L
 have XT:BY l.prog w K mg base ay 1 f52 _ _ _:=yu Ls.F (Y []).L
 have XU:BY l.prog w K mg base ay 1 f54 _ _ _:=wm Lu.F (Y []).L
 have Gpu:BY l.prog w K mg base ay 2 WN _ _ _:=Bc X4.F (Y []).L Ls.m Ls.b XT
 have Gpl:BY l.prog w K mg base ay 1 WO _ _ _:=yo X5.F (Y []).L
 have Gbr:BY l.prog w K mg base ay 1 WQ _ _ _:=wo X6.F (Y []).L
 have Gtw:BY l.prog w K mg base ay 3 f58 _ _ _:=Bk X8.F T (Y []).L (mg_of X G gcA) Ma Q6.b Gla
 have Gle:BY l.prog w K mg base ay 1 WR _ _ _:=Bj Q7.F (Y [])
 have Gtx:BY l.prog w K mg base ay 3 f60 _ _ _:=Bi X9.F T (Y []) (mg_of X G gcH) Mh Q7.b Gle
 have Gy:∀(b:Bool)(ex:List Addr),BY l.prog w K mg base ay 4 Ll _ _ (jh K ⟨cL⟩ (TC ⟨cB,cD⟩ ⟨cB,cO⟩ b) (JJ l.prog w ⟨cB,cD⟩ ⟨cB,cO⟩ b) ⟨cJ,cA,cH,ex⟩):=λb ex=>AY F61 T L (Y ex) (Wb b) Hs.m Hs.k Hs.b Wx (mg_of X G gcA) Ma Q6.b Gla
 have Gp:∀(b:Bool)(ex:List Addr),BY l.prog w K mg base ay 4 Mx _ _ (m6 K ⟨cL⟩ (TC ⟨cB,cD⟩ ⟨cB,cO⟩ b) (JJ l.prog w ⟨cB,cD⟩ ⟨cB,cO⟩ b) ⟨cJ,cA,cH,ex⟩):=λb ex=>yq F62 T L (Y ex) (Wb b) (Gb b) H5.m H5.k H5.b XS RQ.m RQ.k RQ.b Um (mg_of X G gcH) Mh Q7.b Gle (mg_of X G mh) (mg_of X G mk)
 have Gol:∀ex:List Addr,BY l.prog w K mg base ay 4 Xb _ _ _:=λex=>yt XI.F (Y ex) X8.m X8.b Gtw
 have Got:∀ex:List Addr,BY l.prog w K mg base ay 4 Xc _ _ _:=λex=>yr XJ.F (Y ex) X9.m X9.b Gtx
 have O:∀ex:List Addr,Own l.prog w K mg base ⟨cJ,cA,cH,ex⟩ Xb Xc WN _ _ _:=λex=>⟨XI.m,XI.b,Gol ex,XJ.m,XJ.b,Got ex,X4.m,X4.b,Gpu⟩
 have Gly:∀ex:List Addr,BY l.prog w K mg base ay 1 Xa _ _ _:=λex=>Bn XH.F (Y ex)
 have Glg:∀ex:List Addr,BY l.prog w K mg base ay 1 Xg _ _ _:=λex=>wg XQ.F T (Y ex)
 have Gen:∀ex:List Addr,BY l.prog w K mg base ay 5 WZ _ _ _:=λex=>wn QA.F (Y ex) (O ex)
 have Ggi:∀ex:List Addr,BY l.prog w K mg base ay 6 WY _ _ _:=λex=>yA XG.F (Y ex) (O ex) QA.m QA.b (Gen ex)
 have Gon:∀b:Bool,BY l.prog w K mg base ay 4 f9 _ _ (uQ ⟨cL⟩ (TC ⟨cB,cD⟩ ⟨cB,cO⟩ b) (JJ l.prog w ⟨cB,cD⟩ ⟨cB,cO⟩ b)):=λb=>Be H9.F L (Wb b) (Gb b) ME Ge
 have Gmi:∀(b:Bool)(ex:List Addr),BY l.prog w K mg base ay 4 WT _ _ (pU K ⟨cL⟩ (TC ⟨cB,cD⟩ ⟨cB,cO⟩ b) (JJ l.prog w ⟨cB,cD⟩ ⟨cB,cO⟩ b) ⟨cJ,cA,cH,ex⟩):=λb ex=>yz XA.F (Y ex) (Wb b) (Gb b) Ls.m Ls.b XT
 have Gwa:∀(b:Bool)(ex:List Addr),BY l.prog w K mg base ay 5 f68 _ _ (jO K ⟨cL⟩ (TC ⟨cB,cD⟩ ⟨cB,cO⟩ b) (JJ l.prog w ⟨cB,cD⟩ ⟨cB,cO⟩ b) ⟨cJ,cA,cH,ex⟩):=λb ex=>tD XE.F (Y ex) (Wb b) Lu.m Lu.b XU H9.m H9.k H9.b (Gon b)
 have Gmo:∀(b:Bool)(ex:List Addr),BY l.prog w K mg base ay 6 WU _ _ (pT K ⟨cL⟩ (TC ⟨cB,cD⟩ ⟨cB,cO⟩ b) (JJ l.prog w ⟨cB,cD⟩ ⟨cB,cO⟩ b) ⟨cJ,cA,cH,ex⟩):=λb ex=>yy XB.F (Y ex) (Wb b) Lu.m Lu.b XU XE.m XE.b (Gwa b ex) Ls.m Ls.b XT
 have Gml:∀(b:Bool)(ex:List Addr),BY l.prog w K mg base ay 2 WV _ _ (m8 K ⟨cL⟩ (TC ⟨cB,cD⟩ ⟨cB,cO⟩ b) (JJ l.prog w ⟨cB,cD⟩ ⟨cB,cO⟩ b) ⟨cJ,cA,cH,ex⟩):=λb ex=>vZ XC.F (Y ex) L (Wb b) Lu.m Lu.b XU ME Ge
 have Gmb:∀(b:Bool)(ex:List Addr),BY l.prog w K mg base ay 1 WW _ _ (jP K ⟨cL⟩ (TC ⟨cB,cD⟩ ⟨cB,cO⟩ b) (JJ l.prog w ⟨cB,cD⟩ ⟨cB,cO⟩ b) ⟨cJ,cA,cH,ex⟩):=λb ex=>tI XD.F (Y ex)
 have MM:∀(b:Bool)(ex:List Addr),UB l.prog w K mg base ⟨cL⟩ (TC ⟨cB,cD⟩ ⟨cB,cO⟩ b) (JJ l.prog w ⟨cB,cD⟩ ⟨cB,cO⟩ b) ⟨cJ,cA,cH,ex⟩ WT WU WV WW _ _ _ _:=λb ex=>⟨XA.m,XA.b,Gmi b ex,XB.m,XB.b,Gmo b ex,XC.m,XC.b,Gml b ex,XD.m,XD.b,Gmb b ex⟩
 have Gms:∀(b:Bool)(ex:List Addr),BY l.prog w K mg base ay 7 WS _ _ (iq K ⟨cL⟩ (TC ⟨cB,cD⟩ ⟨cB,cO⟩ b) (JJ l.prog w ⟨cB,cD⟩ ⟨cB,cO⟩ b) ⟨cJ,cA,cH,ex⟩):=λb ex=>wc Q8.F T (Y ex) (Wb b) (MM b ex)
 have Gim:BY l.prog w K mg base ay 2 f12 _ _ _:=y4 RS.F T ZS H4.m H4.k H4.b GW
 have Glk:∀(b:Bool)(ex:List Addr),BY l.prog w K mg base ay 7 WX _ _ (pV K ⟨cL⟩ (TC ⟨cB,cD⟩ ⟨cB,cO⟩ b) (JJ l.prog w ⟨cB,cD⟩ ⟨cB,cO⟩ b) ⟨cJ,cA,cH,ex⟩):=λb ex=>y2 XF.F T (Y ex) (Wb b) (MM b ex) RS.m RS.k RS.b Gim H5.m H5.k H5.b XS
 have DM:∀(b:Bool)(ex:List Addr),YV l.prog w K mg base ⟨cL⟩ (TC ⟨cB,cD⟩ ⟨cB,cO⟩ b) (JJ l.prog w ⟨cB,cD⟩ ⟨cB,cO⟩ b) ⟨cJ,cA,cH,ex⟩ WX WY WZ WO WQ Xa _ _ _ _ _ _:=λb ex=>⟨XF.m,XF.b,Glk b ex,XG.m,XG.b,Ggi ex,QA.m,QA.b,Gen ex,X5.m,X5.b,Gpl,X6.m,X6.b,Gbr,XH.m,XH.b,Gly ex⟩
 have Gdo:∀(b:Bool)(ex:List Addr),BY l.prog w K mg base ay 8 f70 _ _ (uZ K ⟨cL⟩ (TC ⟨cB,cD⟩ ⟨cB,cO⟩ b) (JJ l.prog w ⟨cB,cD⟩ ⟨cB,cO⟩ b) ⟨cJ,cA,cH,ex⟩):=λb ex=>OH Q9.F (Y ex) L (Wb b) (O ex) (DM b ex) ME Ge
 have XW:∀ex:List Addr,BY l.prog w K mg base ay 2 Xd _ _ _:=λex=>wk XM.F (Y ex) X7.m X7.b Glt
 have XX:∀ex:List Addr,BY l.prog w K mg base ay 1 Xe _ _ _:=λex=>y3 XN.F (Y ex)
 have Gwt:∀ex:List Addr,BY l.prog w K mg base ay 1 Xf _ _ _:=λex=>yl XO.F T (Y ex)
 have Gpd:∀ex:List Addr,BY l.prog w K mg base ay 1 Xh _ _ _:=λex=>tG XR.F T (Y ex)
 have XY:∀ex:List Addr,BY l.prog w K mg base ay 1 Xi _ _ _:=λex=>y9 Lv.F T (Y ex)
 have Gws:BY l.prog w K mg base ay 1 f13 _ _ _:=vQ RT.F
 have Sv:BY l.prog w K mg base ay 1 f14 _ _ _:=tH GK.F T (mg_of X G mf) (mg_of X G mq)
 have Gsg:BY l.prog w K mg base ay 2 f15 _ _ _:=tE RU.F GK.m GK.k GK.b Sv
 have Gwr:BY l.prog w K mg base ay 1 f16 _ _ _:=qx RV.F T
 have XZ:BY l.prog w K mg base ay 2 f17 _ _ _:=vW Ii.F RV.m RV.k RV.b Gwr
 have Gy1:∀b:Bool,BY l.prog w K mg base ay 4 f18 _ _ (iM ⟨cL⟩ (TC ⟨cB,cD⟩ ⟨cB,cO⟩ b) (JJ l.prog w ⟨cB,cD⟩ ⟨cB,cO⟩ b)):=λb=>qz RW.F T L (Wb b) (Gb b) Je.m Je.b Su Ii.m Ii.k Ii.b XZ
 have Gr1:∀b:Bool,BY l.prog w K mg base ay 5 f19 _ _ (iN ⟨cL⟩ (TC ⟨cB,cD⟩ ⟨cB,cO⟩ b) (JJ l.prog w ⟨cB,cD⟩ ⟨cB,cO⟩ b)):=λb=>q5 RX.F T L (Wb b) Ii.m Ii.k Ii.b XZ RW.m RW.k RW.b (Gy1 b)
 have Gyt:∀(b:Bool)(ex:List Addr),BY l.prog w K mg base ay 6 f20 _ _ (io K ⟨cL⟩ (TC ⟨cB,cD⟩ ⟨cB,cO⟩ b) (JJ l.prog w ⟨cB,cD⟩ ⟨cB,cO⟩ b) ⟨cJ,cA,cH,ex⟩):=λb ex=>vP Lq.F (Y ex) (Wb b) Ii.m Ii.k Ii.b XZ RX.m RX.k RX.b (Gr1 b) Lv.m Lv.b (XY ex)
 have Grf:BY l.prog w K mg base ay 2 f21 _ _ _:=tF RY.F T kk6 RT.m RT.k RT.b Gws
 have Grw:BY l.prog w K mg base ay 2 f22 _ _ _:=qB RZ.F GK.m GK.k GK.b Sv
 have MS:Zi l.prog w K mg base ⟨cL⟩ ⟨cB,cD⟩ Qh Qj _ _:=⟨(mg_of X G gcL),Mi,Q2.b,Gi,(mg_of X G gcD),Mt,Q5.b,Gt⟩
 have Gmt:BY l.prog w K mg base ay 7 f23 _ _ (m9 l.prog w ⟨cL⟩ ⟨cB,cD⟩):=we Sa.F T MS GK.m GK.k GK.b Sv RZ.m RZ.k RZ.b Grw
 have Gde:∀ex:List Addr,BY l.prog w K mg base ay 9 f24 _ _ (pX l.prog w K ⟨cL⟩ ⟨cB,cD⟩ ⟨cJ,cA,cH,ex⟩):=λex=>yC Sb.F T (Y ex) (Wb false) RU.m RU.k RU.b Gsg ⟨a62,i62,k62⟩ bp0 (Gp false ex) Q9.m Q9.b (Gdo false ex)
 have Gra:BY l.prog w K mg base ay 1 f25 _ _ _:=qA Sd.F T
 have Gmk:BY l.prog w K mg base ay 10 f26 _ _ (jQ l.prog w K ⟨cL⟩ ⟨cB,cD⟩ ⟨cJ,cA,cH,[]⟩):=tJ (ys:=⟨cJ,cA,cH,[]⟩) Se.F (Wb false) Sd.m Sd.k Sd.b Gra Sa.m Sa.k Sa.b Gmt GK.m GK.k GK.b Sv (mg_of X G gcJ) My RF (Gy false) Sb.m Sb.k Sb.b Gde
 have Gry:BY l.prog w K mg base ay 11 f27 _ _ (gS l.prog w K ⟨cL⟩ ⟨cB,cD⟩ ⟨cJ,cA,cH,[]⟩):=oG (ys:=⟨cJ,cA,cH,[]⟩) Sf.F (Wb false) RY.m RY.k RY.b Grf Se.m Se.k Se.b Gmk Lq.m Lq.k Lq.b (Gyt false)
 have Gc:BY l.prog w K mg base ay 1 WH _ _ _:=yD Lr.F T
 have Gx:BY l.prog w K mg base ay 1 f31 _ _ _:=Bf GL.F
 have Gl:BY l.prog w K mg base ay 2 WI _ _ _:=wj Si.F T GL.m GL.k GL.b Gx
 have Grs:BY l.prog w K mg base ay 2 WJ _ _ _:=yn Sj.F T GL.m GL.k GL.b Gx
 have TM:ZE l.prog w K mg base ⟨cL⟩ ⟨cB,cD⟩ ⟨cB,cO⟩ WH WI Qh RP Qj WJ _ _ _ _ _ _:=⟨Lr.m,Lr.k,Lr.b,Gc,Si.m,Si.k,Si.b,Gl,(mg_of X G gcL),Mi,Q2.b,Gi,(mg_of X G gcO),Mn,Ss.b,Gn,(mg_of X G gcD),Mt,Q5.b,Gt,Sj.m,Sj.k,Sj.b,Grs⟩
 have Ya:BY l.prog w K mg base ay 7 f34 _ _ (pW l.prog w K ⟨cL⟩ ⟨cB,cD⟩ ⟨cB,cO⟩):=y1 Sk.F TM
 have Gbg:∀b:Bool,BY l.prog w K mg base ay 4 f35 _ _ (jx ⟨cL⟩ (TC ⟨cB,cD⟩ ⟨cB,cO⟩ b) (JJ l.prog w ⟨cB,cD⟩ ⟨cB,cO⟩ b)):=λb=>wq Sl.F T L (Wb b) (Gb b)
 have Glr:∀b:Bool,BY l.prog w K mg base ay 2 f36 _ _ (ir ⟨cL⟩ (TC ⟨cB,cD⟩ ⟨cB,cO⟩ b) (JJ l.prog w ⟨cB,cD⟩ ⟨cB,cO⟩ b)):=λb=>tK Sm.F T L (Wb b) GL.m GL.k GL.b Gx
 have Gps:∀(b:Bool)(ex:List Addr),BY l.prog w K mg base ay 5 f37 _ _ (m5 K ⟨cL⟩ (TC ⟨cB,cD⟩ ⟨cB,cO⟩ b) (JJ l.prog w ⟨cB,cD⟩ ⟨cB,cO⟩ b) ⟨cJ,cA,cH,ex⟩):=λb ex=>yp Sn.F T (Y ex) (Wb b) ⟨a62,i62,k62⟩ bp0 (Gp b ex)
 have SM:∀(b:Bool)(ex:List Addr),ZP l.prog w K mg base ⟨cL⟩ (TC ⟨cB,cD⟩ ⟨cB,cO⟩ b) (JJ l.prog w ⟨cB,cD⟩ ⟨cB,cO⟩ b) ⟨cJ,cA,cH,ex⟩ Xd Xf Xh Xg Xe WS Xi _ _ _ _ _ _ _:=λb ex=>⟨XM.m,XM.b,XW ex,XO.m,XO.b,Gwt ex,XR.m,XR.b,Gpd ex,XQ.m,XQ.b,Glg ex,XN.m,XN.b,XX ex,Q8.m,Q8.b,Gms b ex,Lv.m,Lv.b,XY ex⟩
 have Gsd:∀(b:Bool)(ex:List Addr),BY l.prog w K mg base ay 8 f38 _ _ (jt K ⟨cL⟩ (TC ⟨cB,cD⟩ ⟨cB,cO⟩ b) (JJ l.prog w ⟨cB,cD⟩ ⟨cB,cO⟩ b) ⟨cJ,cA,cH,ex⟩):=λb ex=>vU So.F T (Y ex) (Wb b) (SM b ex)
 have Gsw:∀b:Bool,BY l.prog w K mg base ay 4 f39 _ _ (ju ⟨cL⟩ (TC ⟨cB,cD⟩ ⟨cB,cO⟩ b) (TC ⟨cB,cD⟩ ⟨cB,cO⟩ false) (JJ l.prog w ⟨cB,cD⟩ ⟨cB,cO⟩ b) (JJ l.prog w ⟨cB,cD⟩ ⟨cB,cO⟩ false)):=λb=>vV Sr.F T L (Wb b) (Wb false) (Gb b) (Gb false) Je.m Je.b Su
 exact Bo (c:=⟨cL⟩) (ts:=⟨cB,cD⟩) (tn:=⟨cB,cO⟩) (ys:=⟨cJ,cA,cH,[]⟩) F40 T L (Y []) ⟨Wb,Lr.m,Lr.k,Lr.b,Gc,GL.m,GL.k,GL.b,Gx,Sk.m,Sk.k,Sk.b,Ya,Sm.m,Sm.k,Sm.b,Glr,(mg_of X G gcJ),My,RF,Gy,Sl.m,Sl.k,Sl.b,Gbg,Sn.m,Sn.k,Sn.b,Gps,Q8.m,Q8.b,Gms,Q9.m,Q9.b,Gdo,Lq.m,Lq.k,Lq.b,Gyt,Sf.m,Sf.k,Sf.b,Gry,So.m,So.k,So.b,Gsd,Sr.m,Sr.k,Sr.b,Gsw,Lv.m,Lv.b,XY⟩
end
theorem walk{l:PySem.W.OpenLaw}{K:Params->Frag}(hn:l.most=some 63)(Ng:d.params.defaults=[])
  (hY:∀(w:World)(h:Heap),YP w h->(K w.params).In h)
  (F:∀(w:World)(mg:Str->Option Value)(fa:Addr)(h:Heap),(K w.params).In h->h.Ns mainGlobals mg->mg d.name=some (.ref fa) ->
   ∃fd:FuncData,(∀(s:Shared)(u:Value),BindsTo s fd ⟨[u],[]⟩ [("_law_script",u)])/\∀base:Heap,(K w.params).In base->base.Ns mainGlobals mg->BY l.prog w (K w.params) mg base ay 12 fa fd ["_law_script"] (rA (K w.params))) :
  PySem.W.WalkO q loose XP YP l.row.toRowW d [] (λf vs=>PySem.call f vs) :=
 L2.Io (n:=63) (k:=12) (x := "_law_script") (CX:=λ_=>ay) (sp:=λw=>rA (K w.params)) hn (by decide) Ng ⟨rfl,by decide,by decide⟩ hY F (λ_ _ a ns hl _ hS=>⟨a,ns,rfl,hS,hl,λ_=>rfl⟩) λ_ _ _ _ _ z=>z
end K94
structure PySem.W.Fast:Prop where
 (tw13036098350460438702 tw14192759687232686033 tw16406033107433312563 tw12313477204795557250 tw16304859728271543276 tw7573284774958162045 tw11499608964395051226 tw13106342165305586028 tw1896355433550848131 tw12381799867263814616 tw13285771045466646521 tw9667571241084229666 tw2751804870254434491 tw1413381060567435395 tw15835516313172370339 tw967437885298268568 tw14534055798624467764 tw18037096782985817863 tw14214098191935935924 tw356903732494747732 tw17028977005152762397 tw13454247411009759674 tw5719784412481669075 tw6728766701523077197 tw4758058694356228048 tw3847424023998926951 tw8079296375763358364 tw18274391395637408245 tw11060569336799041608 tw843224456252441946 tw11823314862701567161 tw9638868028013229823 tw1025474019337387396 tw10019576484043993740 tw3916953803450032326 tw11868614731080378843 tw4335142312430458477 tw73927551371769625 tw18425959113142701902 tw12997853191181479329 tw17110256237468189279 tw4185853930942984329 tw10558665229835224599 tw14832006982496393676 tw6358814304502936803 tw6146494796983871622 tw6798231205648656510 tw18081081853145805793 tw12093913157478336099 tw2289749216257627302 tw16652050668505933018 tw10279520006452300572 tw13708034265015530137 tw15568009461121326097 tw5960927726366279095 tw2227340525663475740 tw17637962411220395408 tw13215022251258599283 tw3978639889091227559 tw1867599530543205617 tw11896512624038733734 tw15010922475229295450 tw14379550637800958756 tw5106767628247445915 tw17348196211174015471 tw4915938140783482552 tw4860496677097040723 tw5045334503596515617 tw14001622402976014501 tw12880214857200014927 tw1069720264828677054 tw10150608627260615436 tw9623620597629467912 tw11736781690054768356 tw6696688481393384055 tw6354491839494031915 tw11366201025622621540 tw7630977029810689312 tw15014691962513895607 tw16506999188424546773 tw7564137540369609114 tw5715122359767364948 tw5656722784729842622 tw1771732391231358719 tw15431637592554975764 tw2378674623368100515 tw8214272347109053319 tw4965887453262377143 tw4422914381378822026 tw6361690453433701591 tw17951554738438282327 tw11571220323400612087 tw4171933323664378410 tw9608180596644041476 tw14244895721346657259 tw8620326499229364530 tw10515294717804822513 tw793940861325255603 tw4587667133990087592 tw17654284861645585800 tw4828612117426452732 tw15029128873532748687 tw11015456972681362943 tw14332552914817603368 tw6185455718714552420 tw17418962299052290962 tw10704797719528114425 tw9369904366166143390 tw16490046190281539112 tw394742913805972133 tw15336527066199324171 tw15148192415742013314 tw12129880627990071610 tw9245399290973819590 tw16187109228580324771 tw7659381212162531649 tw7461245019355951654 tw14822886169130263101 tw5005270791316297999 tw635225993585757207 tw17426965168990495128 tw17879516536306419010 tw15552234508596737838 tw14892410370040386120 tw6323191714571723115 tw5990346434370124567 tw11193508121830627149 tw7170796989742592990 tw10476660735763978647 tw10085646149611230078 tw1628508263010634444 tw5733875111039255626 tw948079104934083259 tw17870245215817490527 tw5420101475424918482 tw4715783574287052863 tw7581449493941566309 tw18148766441607143049 tw17547253660573271932 tw14183352152832700258 tw13528553638611438716 tw6599709338182972103 tw3668253432742555219 tw8011569852330348922 tw7026772783075666632 tw16090822367658836682 tw14663510749136912537 tw14953075552491990090 tw7138146913738524141 tw6333688702521738726 tw7263132693282973113 tw9932431648466877960 tw680644162143730923 tw4058515128076400831 tw9551424027668336422 tw11380735229509418749 tw4351681234728508598 tw10248932344748533646 tw1697122567182140350 tw16540252223611261457 tw16678789937316161818 tw15505885461544744017 tw15980389927137237253 tw8872229023831676336 tw2020004399089414726 tw1935595375431720821 tw5089081908058440634 tw17396641933550679782 tw9223093589515494932 tw17178530912394467590 tw7083563100114007272 tw1463361649517213572 tw8900038460232773018 tw14657367746026927592 tw13195118161780407001 tw9788482881172166227 tw6951176771027652721 tw5763502378201581189 tw16075028436903985618 tw9402112850909626219 tw2367366617333049219 tw9765987432841130506 tw11113834340847917473 tw6813470952084008971 tw8640407605654512976 tw9673889446355288570 tw6006791812364108063 tw12111712902177262670 tw2317635435437624255 tw12107061744309042612 tw3303501910118025125 tw5630167696849128681 tw1974565657285279561 tw878594262301665496 tw6678669883763517803 tw15237963453458720097 tw1035579283774517226 tw12232171437124684694 tw759375598505764341 tw14613395418912256068 tw1550859483386284465 tw2540542199002639310 tw2722253202139731681 tw10056022039180352486 tw12987174939309041855 tw13072313340934761487 tw14875415847994273993 tw12396568621462627955 tw16437545245089037679 tw5716134307825214565 tw8930557437896494699 tw13986860750420412536 tw5065510881015434427 tw16168262854525524783 tw7890410041377406754 tw7320311332048288376 tw4908603137118189241 tw841837179193790950 tw8051806960997765006 tw1608544432630481860 tw7674394316076947342 tw10544418776721371414 tw3531749576934435617 tw15578549268686618721 tw10696287764847495695 tw3106981920421425940 tw16541089137240682110 tw11542243795445286191 tw9445262491426251456 tw10375504785622827130 tw39160616001585702 tw15478673922359084730 tw18224816970109612509 tw17832409564712194457 tw12605252259944135201 tw12040240124567344685 tw8963263354868424687 tw8315048468585539393 tw13547533987913657851 tw10168825316098646379 tw17338495719224592904 tw13705480392912982227 tw7748355713035428087 tw12545511846313488054 tw4284672364770178460 tw4582625863635244289 tw15054456404847884484 tw978618025359695693 tw7293916868731438096 tw6166040607736499204 tw12882410066309436893 tw14184088577226863381 tw9285399170831491339 tw9782810525481070940 tw1895103453139542645 tw8265552884785480848 tw5028971557501761353 tw6367961822199192980 tw17703136085547642719 tw5794040905046863990 tw6962028480972288361 tw11969595084796341457 tw15010823602753939309 tw2920787630399455316 tw14265357856082318682 tw13076944781324912062 tw6847870960751847676 tw9933893320729475321 tw6801781665055094834 tw3070755551947394606 tw16045554323512232495 tw11375065018585350322 tw10195784678506844266 tw5852442252581880892 tw785996009938040060 tw1950391868749922360 tw99057184572131096 tw776829248778662950 tw6954567784487927925 tw15624106421052285881 tw7498732824615148527 tw4240039830763695853 tw13037984874860515446 tw6785978636569620364 tw14807998875277694035 tw5782336682717945209 tw11489934273287439132 tw2969452159284269972 tw14465505549704758013 tw11664469856225176745 tw1658092760555371592 tw2306276321198886161 tw7749668596004006657 tw11398216358039275581 tw11366491531203163328 tw6810074761376502494 tw359514568084520625 tw6464085154824829715 tw15128358655654198425 tw3509271532837948411 tw346858384728070616 tw18167473288844962758 tw17588826757387260469 tw10306508373559716284 tw2252156197910642490 tw3608508779673991871 tw5498442995786061385 tw18301593997387018246 tw1713780025832083614 tw14730193384597761723 tw12288617880770091833 tw1082257547247852670 tw10536301707705712686 tw325093367863416203 tw11063157185219978957 tw912673752653054465 tw12726714213741371030 tw8045703162598434617 tw7345472712992919595 tw17389622919926927389 tw8132817319021581992 tw3580168545998178012 tw16727409282378329445 tw13768384525578987034 tw6284556087447391772 tw7685722672458085567 tw17210108406138328374 tw15539580397908546160 tw16538757820990376394 tw5880381114392296404 tw9649585697660124168 tw6651334008028087457 tw7663898346107951537 tw3875159445077998592 tw14275965072449958491 tw3331981016855004638 tw17799032603896703241 tw15069099396586085976 tw9082979343484009489 tw7275015381123626232 tw12680838253661824111 tw15832599633613801528 tw2438792548250044048 tw8968505501958389968 tw5938562905444607686 tw10235596455618146762 tw7298543595175727186 tw16530585687031849414 tw5328906682674471191 tw11427337311302681310 tw13715336256817753656 tw963009484975071819 tw2879330486889679003 tw11015756935426423302 tw15466257958420179840 tw14505511993006419585 tw3945437681181135715 tw10145674289177248614 tw12359816233326320365 tw5565744933123849926 tw16840804474314310163 tw9592696003272714537 tw17587210941451830685 tw11857812873811959106 tw10758780697952400020 tw7722954600498956209 tw2483404880362983122 tw9820611568782233700 tw4738192491934364589 tw8544174748736682541 tw8041123648350640260 tw16140089939205148854 tw689937206663074090 tw1214700601532348127 tw2650720355483890590 tw14881346583110056686 tw14860980099461048419 tw3827596818657381790 tw15051690761715110196 tw14585384751255940288 tw16893820870355008911 tw12740945917687376395 tw3489553713852437922 tw5377149944289117045 tw11029786580626962601 tw4926351486148320784 tw7729173964155646612 tw385249119693829286 tw333870619149654706 tw2246845775757622710 tw12210776862550055743 tw6069943086100070901 tw2233883510548022083 tw16303577621153554055 tw7857421418601076943 tw4607160084544485437 tw3691228912024096849 tw1059449405161498338 tw5229312596023736516 tw1248084249889811442 tw9069858365669844578 tw9037691253420984012 tw10153937592004233372 tw3201091265833231538 tw17943110006188730226 tw6684462269536097753 tw14190085154769892004 tw5308586344771173903 tw12386430105411968281 tw2009540327256476427 tw2761946844895412132 tw11489307062405438921 tw2830405226451534724 tw5389851967596669835 tw953897729364947489 tw13433962430973015136 tw18281420595797443687 tw4611779720518439393 tw65754155982705627 tw8398837935777186764 tw6697688535089529121 tw6092416081968290090 tw10885151976804851578 tw10341872751504921991 tw1716182437847833643 tw2509775589063087858 tw1790425668142849314 tw4482145800981141655 tw15609483605956294745 tw18375730810334912159 tw18214356534953825060 tw8993614247490408786 tw11012293786792496209 tw12861648337010494805 tw527252365336219868 tw5284546664882981736 tw9878923042581561288 tw7206859605766930866 tw2991688249749346252 tw7680584712920149817 tw7612311867655020597 tw5405747573783952267 tw13922861098433337365 tw2432077966949571249 tw15988216364596334539 tw9959578343008188567 tw8282527461839319429 tw15686355192233689730 tw16647051514732783717 tw12693397009345150645 tw15576769602330315753 tw8294221361646240274 tw12239274335157244890 tw8613196572113912628 tw2308449518430237571 tw1051888316867321911 tw8160646769256288218 tw17630487521274050166 tw923429763728246993 tw2246583121578934445 tw17390262406086321789 tw17263871936257504800 tw13119847037495525225 tw8786758081435907399 tw16074157921233237212 tw12927357339592421735 tw12367345221132044911 tw10197849924580352091 tw1965696236754140822 tw1084814210309135485 tw17813933117332666728 tw4780158608740351733 tw3956608826081451930 tw18367331500238724032 tw7087798527083567583 tw567611258612369401 tw40043293912658063 tw17221391890361377517 tw3913899256283095150 tw5242720307370014709 tw3431396930407398011 tw16641877475442746102 tw13225484363930505732 tw9557148417403844634 tw6883636551967010938 tw1581569443778953296 tw14567944237573674568 tw13070270424094090999 tw12860901710679368078 tw10383255046070190952 tw15581384491704696875 tw9802132980716634418 tw1717518320209178327 tw13563216650506069884 tw4549971870550032378 tw17355666851963478421 tw12359528706287758436 tw15589494498711808989 tw588453635737848894 tw18243840288400139600 tw10110706965272519899 tw14199399284620144101 tw12738538384635082061 tw4824733493149753521 tw5472545318270192550 tw16886235788118310749 tw12499591013840964305 tw15236988699847440156 tw7095512873192080630 tw7883260416773729525 tw7841141831920706364 tw222320180230300538 tw12989574611589638922 tw11884301534364134184 tw697628368767199716 tw9277764250038029685 tw14059085324613779667 tw5120107447180254790 tw5835009303909080229 tw17072243990165513387 tw15138798797304475642 tw10970924968402974610 tw4931355570058573200 tw3029569575748869445 tw9216837775871054849 tw9145169474664906081 tw3342362037494088659 tw15396673444437794915 tw14616076169965483421 tw11210288534722694775 tw9616811984743870061 tw2774994046587553053 tw1571146175312041458 tw11384818528394798403 tw13669388139702909798 tw264367334620005860 tw7785780757714044010 tw9621213299597554783 tw8515041399890479336 tw7344582466330229174 tw7003509027170316790 tw3701235350651681683 tw14477001236937190331 tw13569794317597438473 tw13431015086001222761 tw12239948003783538739 tw11397077249864872727 tw11070778967537455850 tw9742895927854533259 tw2159438324636995516 tw16207151156287755342 tw1237698036335125551 tw641130048253734476 tw11865108527146149481 tw12712895338995035441 tw3896030007650742057 tw17666059635971592296 tw11295150027281226381 tw8940480650066778563 tw13810440067677284396 tw13590949903931376278 tw9133923775694881993 tw5026740110876120557 tw3610037983358867135 tw17833576859566169777 tw15332849523422080626 tw14133166965869898142 tw8638429241423931605 tw9002286145331664794 tw4973192750853457989 tw2259985692103382006 tw17173735813406127023 tw14430139757051617165 tw13671457613122458473 tw11533306125133114689 tw4644655572810884733 tw17506682860105882696 tw6653435259956227975 tw1468144167771924108 tw1013187186963178304 tw8293035764017526861 tw10589012022240428102 tw8970284953043672638 tw8513479474264315205 tw7913396801194217116 tw6453056136141295815 tw5974546194344009232 tw3177656072716748977 tw16333262083098199851 tw14698507443264764683 tw13232712922057957138 tw12004807570386665960 tw11958800554200782606 tw9399021049109033667 tw11457021527012779077 tw6675097917057184337 tw17461564472415253747 tw940591339989996140 tw6634765786716115634 tw5665796877378817339 tw5118928488470630336 tw4362471831262183799 tw4098406944467678950 tw2611061168793071712 tw2257714021729820082 tw205884484762946920 tw1973858624840384048 tw17629635491924959913 tw14778752601575297910 tw14173951659175739111 tw13862522499211427968 tw13601221705464282344 tw12464759780581139431 tw12369266590488522640 tw11779058295575919549 tw11562606765058237950 tw11308704035525720848 tw10674744639686792638 tw9786976697281853658 tw9242738980006126194 tw9062175735055690287 tw8801172686255317016 tw750887183492409304 tw7000519721918556825 tw5872568805831240467 tw5402457809474396066 tw4406866848938858758 tw16990814034497703158 tw16742223495570323458 tw16047235899837601565 tw15480022122371338842 tw13832748052393815528 tw13661668029764327363 tw13449474338342585655 tw11937391588311096460 tw11616142945968761081 tw11122649961228490555 tw10262568255859803079 tw9778363440675895805 tw16865723226653830620 tw13502384594967885290 tw824080593395238863 tw6939217792618034984 tw6454006904250611995 tw6387115880224415395 tw6087465556285118518 tw5488172485808208111 tw3476929818860700812 tw344292468782921753 tw2233162244523986515 tw18000428887711384602 tw17175230891833432969 tw14771142906756629488 tw13352973175877785628 tw13280969079569368955 tw9428537914713699587 tw8408752722936546041 tw8101249783321317960 tw7442132074141161204 tw7354904930615866551 tw7072924183039995951 tw4947871876193198342 tw3886433893603414944 tw3347151987385599905 tw2880227307330645551 tw2575748795337696077 tw2440712103146919319 tw1868848849117116577 tw18142339254559321109 tw17581546896531460959 tw17212515941729461905 tw15757123443034456187 tw14907751663940702307 tw14394065488338314888 tw11297643534063741826 tw14261625549260875545 tw14079637387988773460 tw994504941814045661 tw9464214135892702703 tw9452614316294360031 tw9329777417807822701 tw9266427059491147690 tw9184468806286366925 tw910321692231111712 tw9096408600425777565 tw9065881183754363981 tw9060712938096505862 tw8933192439129035805 tw8801089122301484219 tw8732447988249676015 tw8659185576714622971 tw8597807405211110310 tw8517497905451336219 tw8461306359247497409 tw8430434860567771812 tw813785794152579197 tw8061924570296087301 tw7924596643564954717 tw773551898659380840 tw7477689507746616200 tw7403898720476134160 tw7399273450484087662 tw7373301539452400824 tw729411213612571947 tw7284340532823717599 tw7247463015499974893 tw7153046522899593346 tw7070823150810120873 tw6998227596697193430 tw6865881069480718798 tw6833348753833022332 tw6786182841430315108 tw6630050770863871990 tw6617180115530180945 tw6150631787363313085 tw601850091430328090 tw5877231361300746271 tw5853366399981052111 tw5852087549758264143 tw5810080478347503119 tw5807187302888199483 tw5797544172774046323 tw5664478850992285044 tw5603218437616445147 tw553360250972739684 tw549348334822204157 tw5453753289569751171 tw5279195250454954333 tw5242698433258752513 tw5157594178131489532 tw4919358352005458232 tw4919057043197594609 tw4879337000191072180 tw4802060863171143781 tw4711696505712760770 tw4703572821651518653 tw470285755256160499 tw4655337161258813923 tw4629402853010743272 tw4568671268486710248 tw4132002908755649503 tw4096076775913945015 tw4008099945991663218 tw3763559527374559039 tw3723373599493324195 tw3618353003034566100 tw3590058488595835894 tw3583410941808357704 tw3580895136605182663 tw3368847921718742742 tw3341741901839324960 tw330529205458629239 tw3240081649608269408 tw3232271593710485974 tw3193565869651010945 tw314380579427171738 tw3024377075185837844 tw3023194961993673218 tw2903819850738651346 tw2778793946235594774 tw2756440288000157168 tw2731309715379730157 tw2717932051111273373 tw270880763282960575 tw2708663629737060129 tw2599250817527305140 tw2286241947692212434 tw2285137793007023410 tw2260760322988728417 tw2142373766547367211 tw2066666004993913545 tw2049287057474467870 tw1971619313984638208 tw1934502632532368704 tw1914989694304935584 tw18412888802155759742 tw18194904112635465183 tw18135021310076357103 tw18129304046582347850 tw18032974543596989062 tw17900145577304105565 tw17826294372504149558 tw17707166703181796792 tw17669474607137006431 tw17642189686538531359 tw17633842630263231592 tw17536457385092579294 tw17321496752432966576 tw17258520881590403491 tw17221950068786156826 tw17210514606277497597 tw17158768751027745894 tw1709405399915427274 tw1688663746287565604 tw16664775881110896987 tw1659967099994964078 tw16530646120278189767 tw1650692261717897515 tw16505930165236925915 tw16492049289369568040 tw16421212647607095875 tw16269133795007226173 tw16230835947842917269 tw16221818175571252396 tw15988339115239963181 tw15974789981111352574 tw15946057883556030131 tw15883314559924566710 tw15838727667874533846 tw15695764134974690125 tw15584359862939185685 tw15495510044266070807 tw15476585055236912750 tw15441532713065421032 tw15425992676461261704 tw15421235664397547790 tw15211964493930984935 tw14949667688480849153 tw1487760241968023053 tw14749843766868594194 tw14745965077143325048 tw14630732924597102552 tw14572696446172312579 tw14569833719927658364 tw14529377095633775216 tw14528619916981534669 tw14444401113256214569 tw14296135466052620543 tw14201493825542255722 tw14196640438921255332 tw14187076572613463308 tw14135028972302997943 tw14062822617310762446 tw14048404248379296293 tw13988607964090079228 tw1388311349784699952 tw13877964910549541946 tw13724895465419338440 tw13723740854304318423 tw13630756367496606520 tw13491623804823775319 tw13416632430915751846 tw13407869121065398318 tw13350829737344277616 tw13268660687680766786 tw1326232256051696864 tw1323520613935810391 tw13112341816169181128 tw13084172372183963485 tw13024183964841787112 tw12959058584268823214 tw12956587275483117618 tw12883239226772067019 tw12719141637621960701 tw12673054848199887477 tw12568058825991005257 tw12100451389775650987 tw11976538704403990796 tw11939721929049446685 tw11818217559317341911 tw11816374351043201743 tw11799040602521411701 tw11721429715617315319 tw11704820350296023729 tw11682386474398901259 tw11655463942887858844 tw1160992851024161991 tw11429826525000770549 tw11426858716741072302 tw11197409836051794144 tw11159341416141164006 tw11088489348131194158 tw10979857197471588131 tw10942556995998659430 tw10820447106328704497 tw10818404610829185216 tw10798639122949721765 tw10787414539148140312 tw10666790064332990716 tw10598783932833647629 tw10491970551348490798 tw1046925141910528890 tw10305985501207420154 tw10281304376752715540 tw10261506509159330464 tw10114337446246021336 tw10076800948696764668 tw1003612520411526144:True)
open PySem PySem.W PyProof.Rows
set_option maxRecDepth 100000 in
set_option maxHeartbeats 0 in
theorem PySem.Challenge.cw_wormyard_k94_whole_cut_and_read_holds : PySem.Challenge.rw_wormyard_k94_whole_cut_and_read.Holds := by
 w_on;o_law;k_head; (case hw=>w_witness2)
 k_fill
 refine K94.walk (l:=PySem.Challenge.rw_wormyard_k94_whole_cut_and_read) rfl rfl (λw h Y=>PySem.W.kIn_of Y) ?F
 case F =>
  intro w mg fa h KX G hmg
  refine' K94.all_mk KX G hmg ?Aa ?Ab ?Ac ?Ad ?Ae ?Af ?Ag ?Ah ?Ai ?Aj ?Ak ?Al ?Am ?An ?Ao ?Ap ?Aq ?Ar ?As ?At ?Au ?Av ?Aw ?Ax ?Ay ?Az ?Ba ?Bb ?Bc ?Bd ?Be ?Bf ?Bg ?Bh ?Bi ?Bj ?Bk ?Bl ?Bm ?Bn ?Bo ?Bp ?Bq ?Br ?Bs ?Bt ?Bu ?Bv ?Bw ?Bx ?By ?Bz ?Ca ?Cb ?Cc ?Cd ?Ce ?Cf ?Cg ?Ch ?Ci ?Cj ?Ck ?Cl ?Cm ?Cn ?Co ?Cp ?Cq ?Cr ?Cs ?Ct ?Cu ?Cv ?Cw ?Cx ?Cy ?Cz ?Da ?Db ?Dc ?Dd ?De ?Df ?Dg ?Dh ?Di ?Dj ?Dk ?Dl ?Dm ?Dn ?Do ?Dp ?Dq ?Dr ?Ds ?Dt ?Du ?Dv ?Dw ?Dx ?Dy ?Dz ?Ea ?Eb ?Ec ?Ed ?Ee ?Ef ?Eg ?Eh ?Ei ?Ej ?Ek ?El ?Em ?En ?Eo ?Ep ?Eq ?Er ?Es ?Et ?Eu ?Ev ?Ew ?Ex ?Ey ?Ez ?Fa ?Fb ?Fc ?Fd ?Fe ?Ff ?Fg ?Fh ?Fi ?Fj ?Fk ?Fl ?Fm ?Fn ?Fo ?Fp ?Fq ?Fr ?Fs ?Ft ?Fu ?Fv ?Fw ?Fx ?Fy ?Fz ?Ga ?Gb ?Gc ?Gd ?Ge ?Gf ?Gg ?Gh ?Gi ?Gj ?Gk ?Gl ?Gm ?Gn ?Go ?Gp ?Gq ?Gr ?Gs ?Gt ?Gu ?Gv ?Gw ?Gx ?Gy ?Gz ?Ha ?Hb ?Hc ?Hd ?He ?Hf ?Hg ?Hh ?Hi ?Hj ?Hk ?Hl ?Hm ?Hn
  case Aa|Ab|Ac|Ad|Ae|Af|Ag=>k_is
  case Ah|Ai|Aj|Ak|Al|Am|An|Ao|Ap|Aq|Ar|As|At|Au|Av|Aw|Ax|Ay|Az|Ba|Bb|Bc|Bd|Be|Bf|Bg|Bh|Bi|Bj|Bk|Bl|Bm|Bn|Bo|Bp|Bq|Br|Bs|Bt|Bu|Bv|Bw|Bx|By|Bz|Ca|Cb|Cc|Cd|Ce|Cf|Cg|Ch|Ci|Cj|Ck|Cl|Cm|Cn|Co|Cp|Cq|Cr|Cs|Ct|Cu|Cv|Cw|Cx|Cy|Cz|Da|Db|Dc|Dd|De|Df|Dg|Dh|Di|Dj|Dk|Dl|Dm|Dn|Do|Dp|Dq|Dr|Ds|Dt|Du|Dv|Dw=>first |(refine' K94.mkT (by assumption) (by assumption) ?b ?a ?l ?c ?k;(case b=>first|exact λ_ _ _ _ _ _=>K94.len_of1 (λ_=>rfl)|exact λ_ _ _ _ _ _=>K94.len_of2 (λ_ _=>rfl)|exact λ_ _ _ _ _ _=>K94.len_of3 (λ_ _ _=>rfl)|exact λ_ _ _ _ _ _=>K94.len_of4 (λ_ _ _ _=>rfl)|exact λ_ _ _ _ _ _=>K94.len_of5 (λ_ _ _ _ _=>rfl));(case a=>k_is);(case l=>k_is);(case c=>k_is);(case k=>k_is))|(refine' K94.mkM ?b ?a ?l ?c ?k ?i;(case b=>first|exact λ_ _ _ _ _ _=>K94.len_of1 (λ_=>rfl)|exact λ_ _ _ _ _ _=>K94.len_of2 (λ_ _=>rfl)|exact λ_ _ _ _ _ _=>K94.len_of3 (λ_ _ _=>rfl)|exact λ_ _ _ _ _ _=>K94.len_of4 (λ_ _ _ _=>rfl)|exact λ_ _ _ _ _ _=>K94.len_of5 (λ_ _ _ _ _=>rfl));(case a=>k_is);(case l=>k_is);(case c=>k_is);(case k=>k_is);(case i=>k_is))|k_is
  case Dx|Dy|Dz|Ea|Eb|Ec|Ed|Ee|Ef|Eg|Eh|Ei|Ej|Ek|El|Em|En|Eo|Ep|Eq|Er|Es|Et|Eu|Ev|Ew|Ex|Ey|Ez|Fa|Fb|Fc|Fd|Fe|Ff|Fg|Fh|Fi|Fj|Fk|Fl|Fm|Fn|Fo|Fp|Fq|Fr|Fs|Ft|Fu|Fv|Fw|Fx|Fy|Fz|Ga|Gb|Gc|Gd|Ge|Gf|Gg|Gh|Gi|Gj|Gk|Gl|Gm|Gn|Go|Gp|Gq=>k_is
  case Gr|Gs|Gt=>first | k_is | kernel_rfl
  case Gu|Gv|Gw|Gx|Gy|Gz|Ha|Hb=>kit_is
  case Hc|Hd|He|Hf|Hg|Hh|Hi|Hj|Hk|Hl|Hm|Hn=>k_is
