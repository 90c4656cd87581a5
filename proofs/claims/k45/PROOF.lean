import PyProof.Rows.All
import Wide.All
import OpenK.AllK
import Wide.FinOn
import Lean
import PyProof.EqAt
import PyProof.EqKinds
import PyProof.TupleCall
import PyProof.ExcBaseAll.ValueError
import PyProof.Rows.SetFrom
import PyProof.Rows.SortShell
import PyProof.FactsAll.set_1
import PyProof.FactsAll.set_2
import PyProof.DictValues
import PyProof.CollectStr
import PyProof.Rows.SortWalk
import PySem.Builtin.Int.W1All
import PyProof.DictRoadsH
import PyProof.DictKinds
import PyProof.FactsAll.NoneType
import PyProof.EnumMake
import PyProof.Rows.EnumRows
import PyProof.TupleIter
import KE.KDictList
import PyProof.DictIter
import PyProof.DictWalks
import PyProof.ListRange
import KE.KRevIter
import PyProof.FactsAll.list_3
import PyProof.Rows.StrJoin2
import PyProof.StrBlockH
import KE.KIntText
import PyProof.StrWalks
import PyProof.CallStr
import PyProof.StrLawsChain
import PyProof.Rows.StrClose3
import PyProof.FitsInt
import KE.KNest
import PyProof.P3In
import PyProof.DictStraight
import KE.KNestM
import PySem.Challenge.RW_wormyard_k45_kinds_of_refusals
set_option compiler.extract_closed false
set_option Elab.async false
set_option linter.all false
set_option maxRecDepth 100000
set_option maxHeartbeats 4000000
open PySem.W (Frag keepIn findIn fnOf codeIn nsIn mg_of isFn kitOne hasDictIn mg_none_of plainGet plainOver makesIn)
open List (all_cons all_eq_true all_map any_cons any_eq_true append_assoc append_nil cons_append contains_cons drop_eq_nil_of_le eq_nil_of_length_eq_zero eq_of_mem_replicate filterMap_cons filter_append filter_cons flatten_cons forIn_cons getD_eq_getElem?_getD length_append length_cons length_filter_le length_map length_nil length_replicate length_take length_take_le lookup_cons map_append map_congr_left map_cons map_map map_nil mem_append mem_append_left mem_append_right mem_cons mem_cons_of_mem mem_cons_self mem_filter mem_map mem_of_getElem? mem_range mem_singleton nil_append nodup_cons nodup_nil not_mem_nil of_mem_zip range_succ replicate_succ size_toArray take_length take_succ)
open Nat (le_of_eq le_of_lt le_refl le_succ le_trans lt_irrefl lt_of_lt_of_le lt_trans ne_of_gt ne_of_lt not_lt not_lt_zero pow_le_pow_right zero_le)
open Int (emod_lt_of_pos emod_nonneg natCast_nonneg ofNat_lt toNat_natCast)
open PySem.F (plainAttrs_list)
open PySem.Heap (lt_size size_after_update size_push)
noncomputable section
namespace L2
theorem yz {α:Type}{n:Nat}{l:List α}(h:l.length=n + 1):∃ a t,l=a :: t/\t.length=n:=by
 cases l with
 | nil=>cases h
 | cons a t=>exact⟨a,t,rfl,Nat.succ.inj h⟩
open PySem PySem.Spec PyProof.Rows
abbrev Key:=Sum Int Str
noncomputable def ig:Key->Value->Bool
 | .inl k,v=>Value.isInt k v
 | .inr x,v=>Value.isStrOf x v
noncomputable def HA (w:World):Key->Int
 | .inl k=>hashInt k
 | .inr x=>hashStr w x
theorem aS:∀ {k:Key}{v:Value},ig k v=true->(∃ i t,k=Sum.inl i/\v=Value.int i t)∨(∃ x t,k=Sum.inr x/\v=Value.str x t)
 | .inl i,v,h=>by
  obtain⟨t,e⟩:=Value.isInt_shape (k:=i) (v:=v) h
  exact .inl ⟨i,t,rfl,e⟩
 | .inr x,v,h=>by
  obtain⟨t,e⟩:=Value.isStrOf_shape (x:=x) (v:=v) h
  exact .inr ⟨x,t,rfl,e⟩
theorem ot (i:Int)(t:Tok):ig (.inl i) (.int i t)=true:=by simp[ig,Value.isInt]
theorem oq (x:Str)(t:Tok):ig (.inr x) (.str x t)=true:=by simp[ig,Value.isStrOf]
theorem uU (a b:Int):decide ((Sum.inl a:Key)=Sum.inl b)=(a == b):=by
 by_cases e:a=b
 ·subst e;simp
 ·have h:¬ (Sum.inl a:Key)=Sum.inl b:=fun q=>e (Sum.inl.inj q)
  rw[decide_eq_false h]
  exact(beq_eq_false_iff_ne.mpr e).symm
theorem uR (a b:Str):decide ((Sum.inr a:Key)=Sum.inr b)=decide (a=b):=by
 by_cases e:a=b
 ·subst e;simp
 ·have h:¬ (Sum.inr a:Key)=Sum.inr b:=fun q=>e (Sum.inr.inj q)
  rw[decide_eq_false h,decide_eq_false e]
theorem uT (a:Int)(b:Str):decide ((Sum.inl a:Key)=Sum.inr b)=false:=decide_eq_false (fun q=>nomatch q)
theorem uS (a:Str)(b:Int):decide ((Sum.inr a:Key)=Sum.inl b)=false:=decide_eq_false (fun q=>nomatch q)
noncomputable def bc (prog:Program)(w:World):PySem.KeyKind prog w Key where
 is:=ig
 hash:=HA w
 inj:=fun v a b ha hb=>by
  rcases aS ha with ⟨i,t,rfl,rfl⟩ | ⟨x,t,rfl,rfl⟩
  ·rcases aS hb with ⟨j,u,rfl,e⟩ | ⟨y,u,rfl,e⟩
   ·injection e with e1 _;rw[e1]
   ·exact nomatch e
  ·rcases aS hb with ⟨j,u,rfl,e⟩ | ⟨y,u,rfl,e⟩
   ·exact nomatch e
   ·injection e with e1 _;rw[e1]
 byValue:=fun k v h=>by
  rcases aS h with ⟨i,t,rfl,rfl⟩ | ⟨x,t,rfl,rfl⟩<;>rfl
 pyHash:=fun hv h=>by
  rcases aS hv with ⟨i,t,rfl,rfl⟩ | ⟨x,t,rfl,rfl⟩
  ·exact wpAny_pyHash_int h
  ·exact wpAny_pyHash_str h
 eqBool:=fun hu hv h=>by
  rcases aS hu with ⟨i,t,rfl,rfl⟩ | ⟨x,t,rfl,rfl⟩
  ·rcases aS hv with ⟨j,u,rfl,rfl⟩ | ⟨y,u,rfl,rfl⟩
   ·rw[uU]at h;exact wpAny_eqBool_int h
   ·rw[uT]at h;exact SeqAt.EqAt.int_str i t y u _ _ _ _ h
  ·rcases aS hv with ⟨j,u,rfl,rfl⟩ | ⟨y,u,rfl,rfl⟩
   ·rw[uS]at h;exact SeqAt.EqAt.str_int x t j u _ _ _ _ h
   ·rw[uR]at h;exact wpAny_eqBool_str h
 «strs»:=fun k x t v h=>by
  rcases aS h with ⟨i,u,rfl,e⟩ | ⟨y,u,rfl,e⟩
  ·exact nomatch e
  ·injection e with e1 _
   subst e1
   cases v<;>rfl
theorem kA (prog:Program)(w:World)(i:Int)(t:Tok):(bc prog w).is (.inl i) (.int i t)=true:=ot i t
theorem k9 (prog:Program)(w:World)(x:Str)(t:Tok):(bc prog w).is (.inr x) (.str x t)=true:=oq x t
end L2
namespace L2
open PySem PySem.Spec PyProof.Rows
inductive V where
 | vJ | bl (b:Bool) | int (i:Int) | str (x:Str) | y0 (b:Array UInt8) | AW (b:UInt64) | ref (a:Addr) | ty (n:String)
 deriving DecidableEq
noncomputable def RelV:V->Value->Prop
 | .vJ,u=>u=Value.none
 | .bl b,u=>u=Value.bool b
 | .int i,u=>∃ t,u=Value.int i t
 | .str x,u=>∃ t,u=Value.str x t
 | .y0 b,u=>∃ t,u=Value.bytes b t
 | .AW b,u=>∃ t,u=Value.float b t
 | .ref a,u=>u=Value.ref a
 | .ty n,u=>u=Value.type n
abbrev Vals:List V->List Value->Prop:=Paired RelV
theorem Vals.length {xs:List V}{us:List Value}(r:Vals xs us):xs.length=us.length:=Paired.length r
theorem Vals.get:∀ {xs:List V}{us:List Value}{i:Nat}{x:V},Vals xs us->xs[i]? = some x->∃ u,us[i]? = some u/\RelV x u
 | _,_,_,_, .nil,e=>by simp at e
 | _,_,0,_, .cons r _,e=>by simp at e;subst e;exact⟨_,rfl,r⟩
 | _,_,i + 1,x, .cons _ t,e=>by
  obtain⟨u,h1,h2⟩:=Vals.get (i:=i) (x:=x) t (by simpa using e)
  exact⟨u,by simpa using h1,h2⟩
theorem Vals.append:∀ {xs ys:List V}{us ws:List Value},Vals xs us->Vals ys ws->Vals (xs ++ ys) (us ++ ws)
 | _,_,_,_, .nil,s=>s
 | _,_,_,_, .cons r t,s => .cons r (Vals.append t s)
noncomputable def wq:Option V->Option Value->Prop
 | some v,some u=>RelV v u
 | none,none=>True
 | _,_=>False
noncomputable def KV {κ:Type}:List (κ × V)->List (κ × Value)->Prop:=Paired fun (p:κ × V)(q:κ × Value)=>p.1=q.1/\RelV p.2 q.2
noncomputable def kV:Key->V
 | .inl i => .int i
 | .inr x => .str x
inductive HO where
  | lst (xs:List V)
  | tup (xs:List V)
  | dK (kvs:List (Key × V)) | dT (kvs:List (List Key × V))
  | set (S:Int->Bool) (n:Nat)
  | ins (C dx:Addr) (fs:List (Str × V))
  | own (x:Addr)
  | xd (fs:List (Str × V))
  | met (f x:Addr)
  | FP (lo hi:Int)
  | yk (o:Obj) (u:HO)
  | Aj (ps:Array Value)
  | ext (φ:Heap->Prop)
abbrev Hp:=Addr->Option HO
noncomputable def upd (H:Hp)(a:Addr)(o:HO):Hp:=fun b=>if b=a then some o else H b
theorem vz {H:Hp}{a:Addr}{o:HO}:upd H a o a=some o:=by unfold upd;rw[if_pos rfl]
theorem ae {H:Hp}{a b:Addr}{o:HO}(h:b ≠ a):upd H a o b=H b:=by unfold upd;rw[if_neg h]
theorem bO {H:Hp}{a b:Addr}{o u:HO}(h:H a=some o)(h':H b=some u)(d:o ≠ u):a ≠ b:=by
 intro e;subst e;rw[h]at h';exact d (Option.some.inj h')
theorem ai {H:Hp}{a b:Addr}{o:HO}(h:H a=some o)(h':H b=none):a ≠ b:=by
 intro e;subst e;rw[h]at h';cases h'
noncomputable def wH (h:Heap)(a:Addr)(items:Array Value):Prop:=∃ o,h.get? a=some o/\(o.cls = .type "tuple"/\∃ n,o.data = .seq items n)/\o.dict=none
theorem wH.isTup {h:Heap}{a:Addr}{items:Array Value}:wH h a items->IsTup h a items:=fun v9=>by obtain⟨o,e,c,_⟩:=v9;exact⟨o,e,c⟩
theorem wH.new (h:Heap)(items:Array Value):wH (h.push { cls := .type "tuple",data := .seq items }) h.objs.size items:=⟨_,Heap.get?_push_size _ rfl,⟨rfl,_,rfl⟩,rfl⟩
section
variable (P:Program)(w:World)
noncomputable def vL (H:Hp)(h:Heap)(a:Addr):HO->Prop
 | .lst xs=>xs.length <= sizeLine/\∃ (vA:List Value)(n:Nat),Vals xs vA/\h.get? a=some { cls := .type "list",data := .seq vA.toArray n }
 | .tup xs=>xs.length <= sizeLine/\∃ vA:List Value,Vals xs vA/\wH h a vA.toArray
 | .dK kvs=>kvs.length <= sizeLine/\(a == sysModules)=false/\∃ vs,KV kvs vs/\h.DictOf (bc P w) a vs
 | .dT kvs=>kvs.length <= sizeLine/\(a == sysModules)=false/\∃ xs:List (List Key × Addr × Value),
   Paired (fun (p:List Key × V)(q:List Key × Addr × Value)=>p.1=q.1/\H q.2.1=some (.tup (p.1.map kV))/\RelV p.2 q.2.2) kvs xs /\
   ∃ o es ep,h.get? a=some o/\o.ExactDict/\o.data = .dict es ep/\es.toList=xs.map (entryOfKey (tupleKind (bc P w)))/\(xs.map (·.1)).Nodup
 | .set S n=>h.SetOf (intKind P w) a S n
 | .ins C dx fs=>H dx=some (.own a)/\fs.length <= 1000/\dx ≠ a/\h.get? a=some (PySem.W.instObj C dx) /\
   ∃ mA,h.Ns1 dx mA/\(∀ f,wq (fs.lookup f) (mA f))/\PySem.Within mA (fs.map (·.1))
 | .own _=>∃ o,h.get? a=some o
 | .xd fs=>∃ mA,h.Ns1 a mA/\∀ f,wq (fs.lookup f) (mA f)
 | .FP lo hi=>∃ t u v,h.get? a=some { cls := .type "range",data := .fields #[.int lo t, .int hi u, .int 1 v] }
 | .yk o u=>h.get? a=some o/\vL H h a u
 | .Aj ps=>h.get? a=some { cls := .none,data := .fields ps }
 | .met f x=>h.get? a=some (PySem.W.methodObj (.ref f) (.ref x))
 | .ext φ=>φ h/\(∃ o,h.get? a=some o)/\∀ h1 h2:Heap,φ h1->(∀ o,h1.get? a=some o->h2.get? a=some o)->φ h2
noncomputable def wt (H:Hp)(h:Heap):Prop:=∀ a o,H a=some o->vL P w H h a o
end
section
variable {P:Program}{w:World}{H H':Hp}{h h':Heap}{a:Addr}{o:HO}
theorem vL.lt (x:vL P w H h a o):a < h.objs.size:=by
 cases o with
 | lst xs=>obtain⟨_,_,_,_,e⟩:=x;exact lt_size e
 | tup xs=>obtain⟨_,_,_,p⟩:=x;exact p.isTup.lt
 | dK kvs=>obtain⟨_,_,_,_,o,_,_,e,_⟩:=x;exact lt_size e
 | dT kvs=>obtain⟨_,_,_,_,o,_,_,e,_⟩:=x;exact lt_size e
 | set S n=>obtain⟨o,_,_,_,e,_⟩:=x;exact lt_size e
 | ins C dx fs=>obtain⟨_,_,_,e,_⟩:=x;exact lt_size e
 | own y=>obtain⟨_,e⟩:=x;exact lt_size e
 | xd fs=>obtain⟨_,⟨_,_,_,e,_⟩,_⟩:=x;exact lt_size e
 | FP lo hi=>obtain⟨_,_,_,e⟩:=x;exact lt_size e
 | yk ob u=>obtain⟨e,_⟩:=x;exact lt_size e
 | Aj ps=>exact lt_size (show h.get? a=some _ from x)
 | met f y=>exact lt_size (show h.get? a=some _ from x)
 | ext φ=>obtain⟨_,⟨_,e⟩,_⟩:=x;exact lt_size e
theorem Paired.AX {α β:Type}{F G:α->β->Prop}:∀ {l₁:List α}{l₂:List β},Paired F l₁ l₂->(∀ a b,F a b->G a b)->Paired G l₁ l₂
 | _,_, .nil,_ => .nil
 | _,_, .cons r t,f => .cons (f _ _ r) (Paired.AX t f)
theorem vL.wD (x:vL P w H h a o)(k:∀ b u,(b=a∨H b=some (.own a))->h.get? b=some u->h'.get? b=some u)
  (ho:∀ b,H b=some (.own a)->H' b=some (.own a)) (ht:∀ b xs,H b=some (.tup xs)->H' b=some (.tup xs)):vL P w H' h' a o:=by
 induction o with
 | lst xs=>obtain⟨z,vA,n,r,e⟩:=x;exact⟨z,vA,n,r,k _ _ (.inl rfl) e⟩
 | tup xs=>obtain⟨z,vA,r,ob,e,c⟩:=x;exact⟨z,vA,r,ob,k _ _ (.inl rfl) e,c⟩
 | dK kvs=>obtain⟨z,y,vs,r,ob,es,ep,e,c⟩:=x;exact⟨z,y,vs,r,ob,es,ep,k _ _ (.inl rfl) e,c⟩
 | dT kvs =>
  obtain⟨z,y,xs,r,ob,es,ep,e,c⟩:=x
  exact⟨z,y,xs,Paired.AX r fun p q z=>⟨z.1,ht _ _ z.2.1,z.2.2⟩,ob,es,ep,k _ _ (.inl rfl) e,c⟩
 | set S n=>obtain⟨ob,es,ep,t,e,c⟩:=x;exact⟨ob,es,ep,t,k _ _ (.inl rfl) e,c⟩
 | ins C dx fs =>
  obtain⟨d,z,ne,e,mA,⟨od,es,ep,e2,c⟩,r⟩:=x
  exact⟨ho _ d,z,ne,k _ _ (.inl rfl) e,mA,⟨od,es,ep,k _ _ (.inr d) e2,c⟩,r⟩
 | own y=>obtain⟨ob,e⟩:=x;exact⟨ob,k _ _ (.inl rfl) e⟩
 | xd fs=>obtain⟨mA,⟨od,es,ep,e,c⟩,r⟩:=x;exact⟨mA,⟨od,es,ep,k _ _ (.inl rfl) e,c⟩,r⟩
 | FP lo hi=>obtain⟨t,u,v,e⟩:=x;exact⟨t,u,v,k _ _ (.inl rfl) e⟩
 | yk ob u ih=>obtain⟨e,q⟩:=x;exact⟨k _ _ (.inl rfl) e,ih q⟩
 | Aj ps =>
  have e:h.get? a=some { cls := .none,data := .fields ps }:=x
  show h'.get? a=some { cls := .none,data := .fields ps }
  exact k a _ (.inl rfl) e
 | met f y =>
  have e:h.get? a=some (PySem.W.methodObj (.ref f) (.ref y)):=x
  show h'.get? a=some (PySem.W.methodObj (.ref f) (.ref y))
  exact k a _ (.inl rfl) e
 | ext φ=>obtain⟨p,⟨o,e⟩,st⟩:=x;exact⟨st _ _ p fun o q=>k _ _ (.inl rfl) q,⟨o,k _ _ (.inl rfl) e⟩,st⟩
theorem wt.lt (x:wt P w H h)(e:H a=some o):a < h.objs.size:=(x a o e).lt
theorem wt.fresh (x:wt P w H h)(e:h.objs.size <= a):H a=none:=by
 cases q:H a with
 | none=>rfl
 | some u=>exact absurd (lt_of_lt_of_le (x.lt q) e) (lt_irrefl _)
theorem wt.kept (x:wt P w H h)(k:∀ b u,h.get? b=some u->h'.get? b=some u):wt P w H h':=fun a o e =>
 (x a o e).wD (fun b u _ q=>k b u q) (fun _ q=>q) fun _ _ q=>q
theorem wt.laid (x:wt P w H h)(k:∀ b u,h.get? b=some u->h'.get? b=some u)(hp:h.objs.size <= a)(new:vL P w (upd H a o) h' a o):wt P w (upd H a o) h':=fun b u e=>by
 have hn:=x.fresh hp
 by_cases hb:b=a
 ·subst hb;rw[vz]at e;cases e;exact new
 ·rw[ae hb]at e
  exact(x b u e).wD (fun c v _ q=>k c v q) (fun c q=>by rw[ae (ai q hn)];exact q) fun c xs q=>by rw[ae (ai q hn)];exact q
end
noncomputable def Rd (H:Hp)(a:Addr)(u:HO):Prop:=H a=some u∨∃ o,H a=some (.yk o u)
theorem Rd.ok {P:Program}{w:World}{H:Hp}{h:Heap}{a:Addr}{u:HO}(r:Rd H a u)(x:wt P w H h):vL P w H h a u:=by
 rcases r with r | ⟨o,r⟩
 ·exact x a u r
 ·obtain⟨_,q⟩:=x a _ r
  exact q
noncomputable def Cr:Option HO->Prop
 | some (.lst _)=>True
 | some (.dK _)=>True
 | some (.dT _)=>True
 | some (.set _ _)=>True
 | some (.ins _ _ _)=>True
 | some (.ext _)=>True
 | _=>False
section
variable {P:Program}{w:World}{H:Hp}{h h':Heap}{x e:Addr}{o':HO}
theorem wt.write (ok:wt P w H h)(mu:Cr (H x))(he:e=x∨H e=some (.own x))(k:∀ b u,b ≠ e->h.get? b=some u->h'.get? b=some u)(BO:∃ u,h'.get? e=some u)
  (new:vL P w (upd H x o') h' x o'):wt P w (upd H x o') h':=fun b u q=>by
 have Ct:∀ c y,H c=some (.own y)->c ≠ x:=fun c y r z=>by subst z;rw[r]at mu;exact mu
 have HB:∀ c xs,H c=some (.tup xs)->c ≠ x:=fun c xs r z=>by subst z;rw[r]at mu;exact mu
 by_cases hb:b=x
 ·subst hb;rw[vz]at q;cases q;exact new
 ·rw[ae hb]at q
  by_cases yf:b=e
  ·have q':H b=some (.own x):=by
    rcases he with z | z
    ·exact absurd (yf.trans z) hb
    ·rw[yf];exact z
   rw[q]at q';cases q'
   obtain⟨v,hv⟩:=BO
   exact⟨v,by rw[yf];exact hv⟩
  ·refine(ok b u q).wD (fun c v hc r=>k c v ?_ r) (fun c r=>by rw[ae (Ct c b r)];exact r) fun c xs r=>by rw[ae (HB c xs r)];exact r
   rcases hc with rfl | hc
   ·exact yf
   ·rintro rfl
    rcases he with z | z
    ·exact Ct c b hc z
    ·rw[hc]at z;cases z;exact hb rfl
end
structure Un (fs ex:List Addr)(H H':Hp)(h h':Heap):Prop where
 keep:∀ b o,h.get? b=some o->H b=none->b ∉ fs->b ∉ ex->h'.get? b=some o
 slot:∀ b o,h.get? b=some o->H b=none->b ∈ fs->b ∉ ex->∃ sl,h'.get? b=some { o with slots:=sl }
 free:∀ b o,h.get? b=some o->H b=none->b ∉ ex->H' b=none
 there:∀ b o,h.get? b=some o->b ∉ ex->∃ o',h'.get? b=some o'
 wX:∀ b xs,H b=some (.tup xs)->H' b=some (.tup xs)
 wQ:∀ b o u,H b=some (.yk o u)->H' b=some (.yk o u)
 wY:∀ b ps,H b=some (.Aj ps)->∃ more,H' b=some (.Aj (ps ++ more))
section
variable {fs HC ex HD:List Addr}{H H1 H2:Hp}{h h1 h2 h':Heap}{a x e:Addr}{o:HO}
theorem Un.any (u:Un fs ex H H1 h h1){b:Addr}{ob:Obj}(q:h.get? b=some ob)(n:H b=none)(hx:b ∉ ex):∃ sl,h1.get? b=some { ob with slots:=sl }:=by
 by_cases hb:b ∈ fs
 ·exact u.slot b ob q n hb hx
 ·exact⟨ob.slots,u.keep b ob q n hb hx⟩
theorem Un.kept (k:∀ b u,h.get? b=some u->h'.get? b=some u):Un fs ex H H h h' :=
 ⟨fun b ob q _ _ _=>k b ob q,fun b ob q _ _ _=>⟨ob.slots,k b ob q⟩,fun _ _ _ n _=>n,fun b ob q _=>⟨ob,k b ob q⟩,fun _ _ q=>q,fun _ _ _ q=>q,fun _ ps q=>⟨#[],by rw[q];simp⟩⟩
theorem Un.refl:Un fs ex H H h h:=Un.kept fun _ _ q=>q
theorem Un.laid (k:∀ b u,h.get? b=some u->h'.get? b=some u)(hp:h.objs.size <= a)(hn:H a=none):Un fs ex H (upd H a o) h h' where
 keep:=fun b u q _ _ _=>k b u q
 slot:=fun b u q _ _ _=>⟨u.slots,k b u q⟩
 free:=fun b u q n _=>by rw[ae (ne_of_lt (lt_of_lt_of_le (lt_size q) hp))];exact n
 there:=fun b u q _=>⟨u,k b u q⟩
 wX:=fun b xs q=>by rw[ae (ai q hn)];exact q
 wQ:=fun b u xs q=>by rw[ae (ai q hn)];exact q
 wY:=fun b ps q=>⟨#[],by rw[ae (ai q hn),q];simp⟩
theorem Un.write (mu:Cr (H x))(he:e=x∨H e=some (.own x))(k:∀ b u,b ≠ e->h.get? b=some u->h'.get? b=some u)(BO:∃ u,h'.get? e=some u):Un fs ex H (upd H x o) h h':=by
 have hx:∀ b,H b=none->b ≠ x:=fun b n z=>by subst z;rw[n]at mu;exact mu
 have hb:∀ b,H b=none->b ≠ e:=fun b n z=>by
  subst z
  rcases he with r | r
  ·exact hx b n r
  ·rw[n]at r;cases r
 have hm:∀ b u,H b=some u->¬ Cr (some u)->b ≠ x:=fun b u q nm z=>by subst z;rw[q]at mu;exact nm mu
 refine⟨fun b u q n _ _=>k b u (hb b n) q,fun b u q n _ _=>⟨u.slots,k b u (hb b n) q⟩,fun b u q n _=>by rw[ae (hx b n)];exact n,fun b u q _=>?_,
  fun b xs q=>by rw[ae (hm b _ q fun z=>z)];exact q,fun b u xs q=>by rw[ae (hm b _ q fun z=>z)];exact q,fun b ps q=>⟨#[],by rw[ae (hm b _ q fun z=>z),q];simp⟩⟩
 by_cases yf:b=e
 ·subst yf;exact BO
 ·exact⟨u,k b u yf q⟩
end
noncomputable def FQ (h:Heap)(H:Hp):List Addr:=(List.range h.objs.size).filter fun a=>(H a).isSome
noncomputable def jG (h:Heap)(H:Hp):Heap:=PySem.W.hideAll h (FQ h H)
theorem oy (h:Heap)(H:Hp):(jG h H).objs.size=h.objs.size:=PySem.W.hideAll_size _ _
theorem qv {h:Heap}{H:Hp}{b:Addr}{o:Obj}(e:h.get? b=some o)(n:H b=none):(jG h H).get? b=some o :=
 PySem.W.hideAll_get _ e fun hm=>by
  have q:(H b).isSome=true:=(mem_filter.mp hm).2
  rw[n]at q;simp at q
theorem rT {h:Heap}{H:Hp}{b:Addr}{o:Obj}(e:(jG h H).get? b=some o):h.get? b=some o/\H b=none:=by
 have e':h.get? b=some o:=PySem.W.of_hideAll (FQ h H) e
 refine⟨e',?_⟩
 cases q:H b with
 | none=>rfl
 | some x =>
  have hm:b ∈ FQ h H:=mem_filter.mpr ⟨mem_range.mpr (lt_size e'),by simp[q]⟩
  have z:(jG h H).get? b=none:=PySem.W.hideAll_none (FQ h H) hm
  rw[z]at e;cases e
end L2
namespace L2
open PySem PySem.Spec PyProof.Rows
structure Mod (K:Frag)(mg:Str->Option Value)(base:Heap):Prop where
 xa:K.In base
 glob:base.Ns mainGlobals mg
 blt:∃ mb,base.Ns builtinsNs mb/\∀ x:Str,x ≠ "__name__"->mb x=bootBuiltins x
 nolimit:base.NoLimit
structure Cx where
 prog:Program
 w:World
 K:Frag
 mg:Str->Option Value
 base:Heap
 A:Around
 N:List Str
 s₀:Shared
 H₀:Hp
 env:Env
 outer:List Env
 stack:List Env
 ex:List Addr
 fn:Str->Bool
 calm:Bool
 pn:List (Addr × Obj)
 xe:Value->Shared->Prop
noncomputable def gh (l:List Env):List Addr:=l.filterMap (·.frame)
abbrev Cx.fs (X:Cx):List Addr:=gh X.outer
noncomputable def FR (sc:Scope)(x:Str):Prop:=sc.names.lookup x=some .local∨sc.names.lookup x=some .cell∨sc.names.lookup x=some .free
noncomputable def Loc (sc:Scope)(x:Str):Prop:=sc.names.lookup x=some .local∨sc.names.lookup x=some .cell
noncomputable def Look (env:Env)(h:Heap)(m:Str->Option Value)(x:Str)(u:Value):Prop :=
 (env.kindOf x=some .local/\m x=some u)∨((env.kindOf x=some .cell∨env.kindOf x=some .free)/\∃ c,env.cells.lookup x=some c/\h.IsCell c (some u))
structure Cx.Ok (X:Cx):Prop where
 mod:Mod X.K X.mg X.base
 kind:X.env.scope.kind = .function
 glob:X.env.globals=mainGlobals
 blt:X.env.builtins=builtinsNs
 above:X.s₀.heap.objs.size <= X.env.locals
 inj:∀ x y c,X.env.cells.lookup x=some c->X.env.cells.lookup y=some c->x=y
 has:∀ x,(X.env.kindOf x=some .cell∨X.env.kindOf x=some .free)->∃ c,X.env.cells.lookup x=some c
 AY:∀ x c,X.fn x=true->X.env.cells.lookup x=some c->X.s₀.heap.objs.size <= c
 hd:X.calm=true->X.A.handled=none
 frames:X.A.frames=some X.stack
 Cu:X.stack=X.outer∨(X.stack=X.env :: X.outer/\X.env.frame=some X.env.locals)
 HE:∀ b ∈ X.ex,b ≠ X.env.locals/\∀ x c,X.env.cells.lookup x=some c->c ≠ b
 bs:∀ b o,X.base.get? b=some o->X.s₀.heap.get? b=some o/\X.H₀ b=none
 yT:X.base.objs.size <= X.s₀.heap.objs.size
 yE:∀ b o,X.base.get? b=some o->b ∉ X.ex
 yU:∀ b ∈ X.ex,b ∉ X.fs
 wF:X.s₀.heap.FunFrames X.base X.outer
 zI:∀ b ∈ X.fs,X.H₀ b=none
structure Inv (X:Cx)(pins:List (Addr × Obj))(σ:List (Option V))(H:Hp)(s:Shared):Prop where
 ok:X.Ok
 os:s.os=X.s₀.os
 bare:AllBare s.gens
 base:Un X.fs X.ex X.H₀ H X.s₀.heap s.heap
 loc:∃ m,s.heap.Ns X.env.locals m/\∀ (i:Nat)(x:Str)(v:V),X.N[i]? = some x->σ[i]? = some (some v)->FR X.env.scope x->∃ u,RelV v u/\Look X.env s.heap m x u
 cell:∀ x c,X.env.cells.lookup x=some c->∃ v,s.heap.IsCell c v
 free:H X.env.locals=none
 vT:∀ x c,X.env.cells.lookup x=some c->H c=none
 pin:∀ p ∈ X.pn ++ pins,s.heap.get? p.1=some p.2/\H p.1=none/\p.1 ≠ X.env.locals/\p.1 ∉ X.fs/\∀ v,p.2.data ≠ .cell v
 vD:wt X.prog X.w H s.heap
 len:σ.length=X.N.length
section
variable {X:Cx}{pins:List (Addr × Obj)}{σ:List (Option V)}{H H':Hp}{s:Shared}{h':Heap}
theorem Cx.Ok.HF (ok:X.Ok){b:Addr}{o:Obj}(e:X.base.get? b=some o):b ∉ X.fs:=fun hb=>by
 have:=(ok.wF.mem hb).1
 rw[e]at this;cases this
theorem Inv.bs (I:Inv X pins σ H s):∀ b o,X.base.get? b=some o->s.heap.get? b=some o/\H b=none:=fun b o e =>
 ⟨I.base.keep b o (I.ok.bs b o e).1 (I.ok.bs b o e).2 (I.ok.HF e) (I.ok.yE b o e),I.base.free b o (I.ok.bs b o e).1 (I.ok.bs b o e).2 (I.ok.yE b o e)⟩
theorem Inv.bk (I:Inv X pins σ H s):∀ b o,X.base.get? b=some o->s.heap.get? b=some o:=fun b o e=>(I.bs b o e).1
theorem Inv.mod (I:Inv X pins σ H s):Mod X.K X.mg X.base:=I.ok.mod
theorem Inv.vY (I:Inv X pins σ H s):X.K.In s.heap:=I.ok.mod.xa.keeps I.bk
theorem Inv.lt (I:Inv X pins σ H s):X.env.locals < s.heap.objs.size:=let ⟨_,hn,_⟩:=I.loc;hn.lt
theorem Inv.sz (I:Inv X pins σ H s):X.s₀.heap.objs.size <= s.heap.objs.size:=le_trans I.ok.above (le_of_lt I.lt)
theorem Inv.HG (I:Inv X pins σ H s){a:Addr}(h:s.heap.objs.size <= a):a ∉ X.fs:=fun hb=>by
 obtain⟨_,o,ho,_⟩:=I.ok.wF.mem hb
 exact absurd (lt_of_lt_of_le (lt_size ho) (le_trans I.sz h)) (lt_irrefl _)
theorem Inv.yl (I:Inv X pins σ H s):∀ x c,X.env.cells.lookup x=some c->c ≠ X.env.locals:=fun x c e z=>by
 obtain⟨v,o,ho,hd⟩:=I.cell x c e
 obtain⟨m,⟨o',es,ep,zJ,AZ,_⟩,_⟩:=I.loc
 rw[z,zJ]at ho;cases ho;rw[AZ]at hd;cases hd
theorem Inv.wF (I:Inv X pins σ H s):s.heap.FunFrames X.base X.outer:=by
 have all:∀ (l:List Env),(∀ b ∈ gh l,b ∈ X.fs)->X.s₀.heap.FunFrames X.base l->s.heap.FunFrames X.base l:=by
  intro l
  induction l with
  | nil=>intro _ _;trivial
  | cons env r ih =>
   intro hs hl
   obtain⟨hk,⟨L,o,hf,hn,ho,hd⟩,hr⟩:=hl
   have hL:L ∈ X.fs:=hs L (by unfold gh;rw[filterMap_cons,hf];exact mem_cons_self)
   obtain⟨sl,e⟩:=I.base.slot L o ho (I.ok.zI L hL) hL fun z=>I.ok.yU L z hL
   exact⟨hk,⟨L,_,hf,hn,e,hd⟩,ih (fun b hb=>hs b (by unfold gh;rw[filterMap_cons,hf];exact mem_cons_of_mem _ hb)) hr⟩
 exact all X.outer (fun _ hb=>hb) I.ok.wF
theorem Inv.stack (I:Inv X pins σ H s):s.heap.FunFrames X.base X.stack:=by
 rcases I.ok.Cu with e | ⟨e,hf⟩
 ·rw[e];exact I.wF
 ·rw[e]
  obtain⟨m,hn,_⟩:=I.loc
  refine .cons (by rw[I.ok.kind];decide) hf hn ?_ I.wF
  exact Heap.get?_none_of_le (le_trans I.ok.yT I.ok.above)
theorem Inv.wx (I:Inv X pins σ H s):∀ b ∈ gh X.stack,b ∈ X.env.locals :: X.fs:=fun b hb=>by
 rcases I.ok.Cu with e | ⟨e,hf⟩
 ·rw[e]at hb;exact mem_cons_of_mem _ hb
 ·rw[e]at hb
  unfold gh at hb
  rw[filterMap_cons,hf]at hb
  exact hb
theorem Inv.xb (I:Inv X pins σ H s):∀ b ∈ gh X.stack,H b=none:=fun b hb=>by
 rcases mem_cons.mp (I.wx b hb) with e | hb
 ·rw[e];exact I.free
 ·obtain⟨_,o,ho,_⟩:=I.ok.wF.mem hb
  exact I.base.free b o ho (I.ok.zI b hb) fun z=>I.ok.yU b z hb
theorem Inv.step {g':Array GenState}{t':Nat}{d':Drawn}{ch:List Addr}(I:Inv X pins σ H s)
  (w6:∀ b ∈ ch,(b ∈ X.ex∨X.s₀.heap.objs.size <= b)/\b ≠ X.env.locals/\(∀ x c,X.env.cells.lookup x=some c->c ≠ b)/\∀ p ∈ X.pn ++ pins,p.1 ≠ b)
  (keep:∀ b o,b ≠ X.env.locals->b ∉ X.fs->b ∉ ch->s.heap.get? b=some o->H b=none->h'.get? b=some o)
  (slot:∀ b o,b ≠ X.env.locals->b ∈ X.fs->b ∉ ch->s.heap.get? b=some o->H b=none->∃ sl,h'.get? b=some { o with slots:=sl }) (free:∀ b o,b ∉ ch->s.heap.get? b=some o->H b=none->H' b=none)
  (there:∀ b o,b ∉ ch->s.heap.get? b=some o->∃ o',h'.get? b=some o')
  (wX:∀ b xs,H b=some (.tup xs)->H' b=some (.tup xs)) (wQ:∀ b o u,H b=some (.yk o u)->H' b=some (.yk o u)) (wY:∀ b ps,H b=some (.Aj ps)->∃ more,H' b=some (.Aj (ps ++ more)))
  (ns:∀ m,s.heap.Ns X.env.locals m->h'.Ns X.env.locals m) (vD:wt X.prog X.w H' h') (hg:AllBare g') :
  Inv X pins σ H' { s with heap:=h',gens:=g',drawn:=d',toks:=t' }:=by
 have Mc:∀ b o,X.s₀.heap.get? b=some o->b ≠ X.env.locals:=fun b o e=>ne_of_lt (lt_of_lt_of_le (lt_size e) I.ok.above)
 have FU:∀ b o,X.s₀.heap.get? b=some o->b ∉ X.ex->b ∉ ch:=fun b o e hx hb=>by
  rcases (w6 b hb).1 with z | z
  ·exact hx z
  ·exact absurd (lt_of_lt_of_le (lt_size e) z) (lt_irrefl _)
 have cellK:∀ x c,X.env.cells.lookup x=some c->∀ v,s.heap.IsCell c v->h'.IsCell c v:=fun x c e v ⟨o,ho,hd⟩=>by
  have Cv:c ∉ ch:=fun z=>(w6 c z).2.2.1 x c e rfl
  by_cases hc:c ∈ X.fs
  ·obtain⟨sl,q⟩:=slot c o (I.yl x c e) hc Cv ho (I.vT x c e)
   exact⟨_,q,hd⟩
  ·exact⟨o,keep c o (I.yl x c e) hc Cv ho (I.vT x c e),hd⟩
 refine⟨I.ok,I.os,hg,⟨fun b o e n hb hx=>?_,fun b o e n hb hx=>?_,fun b o e n hx=>?_,fun b o e hx=>?_,fun b xs e=>wX b xs (I.base.wX b xs e),fun b o xs e=>wQ b o xs (I.base.wQ b o xs e),fun b ps e=>?_⟩,?_,fun x c e=>?_,?_,fun x c e=>?_,fun p hp=>?_,vD,I.len⟩
 ·exact keep b o (Mc b o e) hb (FU b o e hx) (I.base.keep b o e n hb hx) (I.base.free b o e n hx)
 ·obtain⟨sl,e1⟩:=I.base.slot b o e n hb hx
  obtain⟨HH,e2⟩:=slot b _ (Mc b o e) hb (FU b o e hx) e1 (I.base.free b o e n hx)
  exact⟨HH,e2⟩
 ·obtain⟨o',e1⟩:=I.base.there b o e hx
  exact free b o' (FU b o e hx) e1 (I.base.free b o e n hx)
 ·obtain⟨o',e1⟩:=I.base.there b o e hx
  exact there b o' (FU b o e hx) e1
 ·obtain⟨m1,e1⟩:=I.base.wY b ps e
  obtain⟨m2,e2⟩:=wY b _ e1
  exact⟨m1 ++ m2,by rw[e2,Array.append_assoc]⟩
 ·obtain⟨m,hn,hl⟩:=I.loc
  refine⟨m,ns m hn,fun i x v e1 e2 e3=>?_⟩
  obtain⟨u,r,l⟩:=hl i x v e1 e2 e3
  refine⟨u,r,?_⟩
  rcases l with l | ⟨k,c,e,z⟩
  ·exact .inl l
  ·exact .inr ⟨k,c,e,cellK x c e _ z⟩
 ·obtain⟨v,z⟩:=I.cell x c e
  exact⟨v,cellK x c e v z⟩
 ·obtain⟨m,⟨o,_,_,ho,_⟩,_⟩:=I.loc
  exact free _ o (fun z=>(w6 _ z).2.1 rfl) ho I.free
 ·obtain⟨v,o,ho,hd⟩:=I.cell x c e
  exact free c o (fun z=>(w6 c z).2.2.1 x c e rfl) ho (I.vT x c e)
 ·obtain⟨e,n,ne,nf,d⟩:=I.pin p hp
  have Cv:p.1 ∉ ch:=fun z=>(w6 p.1 z).2.2.2 p hp rfl
  exact⟨keep p.1 p.2 ne nf Cv e n,free p.1 p.2 Cv e n,ne,nf,d⟩
theorem Inv.un {t':Nat}(I:Inv X pins σ H s)(u:Un X.fs [] H H' s.heap h')(vD:wt X.prog X.w H' h'):Inv X pins σ H' { s with heap:=h',toks:=t' }:=by
 obtain⟨m,⟨o,es,ep,ho,r⟩,_⟩:=id I.loc
 obtain⟨sl,hL⟩:=u.any ho I.free (by simp)
 exact I.step (g':=s.gens) (d':=s.drawn) (ch:=[]) (fun _ z=>nomatch z) (fun b o _ hb _ e n=>u.keep b o e n hb (by simp)) (fun b o _ hb _ e n=>u.slot b o e n hb (by simp)) (fun b o _ e n=>u.free b o e n (by simp)) (fun b o _ e=>u.there b o e (by simp)) u.wX u.wQ u.wY (fun m' hm=>by
  obtain⟨o',FV,HI,zJ,r'⟩:=hm
  rw[ho]at zJ;cases zJ
  exact⟨_,FV,HI,hL,r'⟩) vD I.bare
theorem Inv.call {g':Array GenState}{t':Nat}{d':Drawn}{ch:List Addr}(I:Inv X pins σ H s)(u:Un (gh X.stack) ch H H' s.heap h')(vD:wt X.prog X.w H' h')(hg:AllBare g')
  (w6:∀ b ∈ ch,(b ∈ X.ex∨X.s₀.heap.objs.size <= b)/\b ≠ X.env.locals/\(∀ x c,X.env.cells.lookup x=some c->c ≠ b)/\∀ p ∈ X.pn ++ pins,p.1 ≠ b) :
  Inv X pins σ H' { s with heap:=h',gens:=g',drawn:=d',toks:=t' }:=by
 obtain⟨m,⟨o,es,ep,ho,r⟩,_⟩:=id I.loc
 obtain⟨sl,hL⟩:=u.any ho I.free fun z=>(w6 _ z).2.1 rfl
 exact I.step (ch:=ch) w6 (fun b o hL hb hc e n=>u.keep b o e n (fun z=>(mem_cons.mp (I.wx b z)).elim hL hb) hc) (fun b o _ _ hc e n=>u.any e n hc) (fun b o hc e n=>u.free b o e n hc) (fun b o hc e=>u.there b o e hc) u.wX u.wQ u.wY (fun m' hm=>by
  obtain⟨o',FV,HI,zJ,r'⟩:=hm
  rw[ho]at zJ;cases zJ
  exact⟨_,FV,HI,hL,r'⟩) vD hg
theorem Inv.turned {t':Nat}{it:Addr}(I:Inv X pins σ H s)(k:∀ b o,b ≠ it->s.heap.get? b=some o->h'.get? b=some o)(hn:H it=none)(hL:it ≠ X.env.locals)
  (h1:it ∈ X.ex∨X.s₀.heap.objs.size <= it) (h2:∀ x c,X.env.cells.lookup x=some c->c ≠ it) (h3:∀ p ∈ X.pn ++ pins,p.1 ≠ it):Inv X pins σ H { s with heap:=h',toks:=t' }:=by
 have Md:∀ b u,H b=some u->b ≠ it:=fun b u e z=>by rw[z,hn]at e;cases e
 refine I.step (g':=s.gens) (d':=s.drawn) (ch:=[it]) (fun b hb=>?_) (fun b o _ _ hc e _=>k b o (fun z=>hc (by simp[z])) e) (fun b o _ _ hc e _=>⟨o.slots,k b o (fun z=>hc (by simp[z])) e⟩) (fun _ _ _ _ n=>n)
  (fun b o hc e=>⟨o,k b o (fun z=>hc (by simp[z])) e⟩) (fun _ _ e=>e) (fun _ _ _ e=>e) (fun b ps e=>⟨#[],by rw[e];simp⟩) (fun m hm=>?_) (fun b u e=>?_) I.bare
 ·have e:b=it:=by simpa using hb
  subst e
  exact⟨h1,hL,h2,h3⟩
 ·obtain⟨o,es,ep,ho,r⟩:=hm
  exact⟨o,es,ep,k _ o (Ne.symm hL) ho,r⟩
 ·refine(I.vD b u e).wD (fun c v hc q=>k c v ?_ q) (fun _ q=>q) fun _ _ q=>q
  rcases hc with z | z
  ·rw[z];exact Md b u e
  ·exact Md c _ z
theorem Inv.tok (I:Inv X pins σ H s)(t:Nat):Inv X pins σ H { s with toks:=t }:=I.un (h':=s.heap) (t':=t) Un.refl I.vD
theorem Inv.kept {t':Nat}(I:Inv X pins σ H s)(k:∀ b u,s.heap.get? b=some u->h'.get? b=some u):Inv X pins σ H { s with heap:=h',toks:=t' }:=I.un (Un.kept k) (I.vD.kept k)
theorem Inv.laid {a:Addr}{o:HO}{t':Nat}(I:Inv X pins σ H s)(k:∀ b u,s.heap.get? b=some u->h'.get? b=some u)(hp:s.heap.objs.size <= a)(new:vL X.prog X.w (upd H a o) h' a o) :
  Inv X pins σ (upd H a o) { s with heap:=h',toks:=t' }:=I.un (Un.laid k hp (I.vD.fresh hp)) (I.vD.laid k hp new)
theorem Inv.write {x e:Addr}{o:HO}{t':Nat}(I:Inv X pins σ H s)(mu:Cr (H x))(he:e=x∨H e=some (.own x))(k:∀ b u,b ≠ e->s.heap.get? b=some u->h'.get? b=some u)(BO:∃ u,h'.get? e=some u)
  (new:vL X.prog X.w (upd H x o) h' x o):Inv X pins σ (upd H x o) { s with heap:=h',toks:=t' }:=I.un (Un.write mu he k BO) (I.vD.write mu he k BO new)
theorem Inv.w8 {xN:List (Addr × Obj)}(I:Inv X pins σ H s)(h:∀ p ∈ xN,s.heap.get? p.1=some p.2/\H p.1=none/\p.1 ≠ X.env.locals/\p.1 ∉ X.fs/\∀ v,p.2.data ≠ .cell v):Inv X xN σ H s :=
 ⟨I.ok,I.os,I.bare,I.base,I.loc,I.cell,I.free,I.vT,fun p hp=>(mem_append.mp hp).elim (fun z=>I.pin p (mem_append_left _ z)) (h p),I.vD,I.len⟩
theorem hJ {N:List Str}(hN:N.Nodup){i j:Nat}{x:Str}(a:N[i]? = some x)(b:N[j]? = some x):i=j:=by
 obtain⟨h1,e1⟩:=List.getElem?_eq_some_iff.mp a
 obtain⟨h2,e2⟩:=List.getElem?_eq_some_iff.mp b
 exact(List.getElem_inj hN).mp (e1.trans e2.symm)
theorem iL {M:Model}{A:Around}{E:Value->Shared->Prop}{i:Nat}{x:Str}{v:V}{u:Value}{Q:Unit->Shared->Prop}(I:Inv X pins σ H s)(hN:X.N.Nodup)(hi:X.N[i]? = some x)(hx:Loc X.env.scope x)(r:RelV v u)
  (h:∀ s',Inv X pins (σ.set i (some v)) H s'->(∃ a,Heap.SameBut a s.heap s'.heap/\(a=X.env.locals∨X.env.cells.lookup x=some a))->Q () s') (hf:X.fn x=true∨X.env.scope.names.lookup x=some .local:=by first | exact .inl rfl | exact .inr rfl | assumption):wpAny M A (storeName X.env x u) Q E s:=by
 obtain⟨m,hn,hl⟩:=id I.loc
 have Ba:(X.env.scope.kind == .class || (X.env.scope.kind == .module && X.env.locals != X.env.globals))=false:=by rw[I.ok.kind];rfl
 have Cw:i < σ.length:=by rw[I.len];exact(List.getElem?_eq_some_iff.mp hi).1
 have yl:=I.yl
 have tracked:∀ {a:Addr}{h':Heap},(∃ o,s.heap.get? a=some o/\H a=none)->Heap.SameBut a s.heap h'->wt X.prog X.w H h':=fun {a h'} ha hs b ob e=>by
  obtain⟨_,_,Ak⟩:=ha
  refine(I.vD b ob e).wD (fun c w' hc q=>(hs.2 c ?_).trans q) (fun _ q=>q) fun _ _ q=>q
  rintro rfl
  rcases hc with rfl | hc
  ·rw[Ak]at e;cases e
  ·rw[Ak]at hc;cases hc
 rcases hx with hk | hk
 ·refine wpAny_storeName_local hk hn (fun h' xH hs=>?_) Ba
  obtain⟨oL,_,_,Me,_⟩:=id hn
  refine h _ ⟨I.ok,I.os,I.bare,⟨fun b o e n hb hx=>?_,fun b o e n hb hx=>?_,I.base.free,fun b o e hx=>?_,I.base.wX,I.base.wQ,I.base.wY⟩,⟨_,xH,fun j y v' e1 e2 e3=>?_⟩,fun y c e=>?_,I.free,I.vT,fun p hp=>?_,tracked ⟨oL,Me,I.free⟩ hs,by simpa using I.len⟩ ⟨_,hs, .inl rfl⟩
  ·exact(hs.2 b (ne_of_lt (lt_of_lt_of_le (lt_size e) I.ok.above))).trans (I.base.keep b o e n hb hx)
  ·obtain⟨sl,e1⟩:=I.base.slot b o e n hb hx
   exact⟨sl,(hs.2 b (ne_of_lt (lt_of_lt_of_le (lt_size e) I.ok.above))).trans e1⟩
  ·obtain⟨o',e1⟩:=I.base.there b o e hx
   exact⟨o',(hs.2 b (ne_of_lt (lt_of_lt_of_le (lt_size e) I.ok.above))).trans e1⟩
  ·by_cases hj:j=i
   ·subst hj
    rw[hi]at e1;cases e1
    rw[List.getElem?_set_self Cw]at e2
    cases e2
    exact⟨u,r, .inl ⟨hk,by simp⟩⟩
   ·rw[List.getElem?_set_ne (Ne.symm hj)]at e2
    obtain⟨u',r',q⟩:=hl j y v' e1 e2 e3
    refine⟨u',r',?_⟩
    rcases q with ⟨k,e⟩ | ⟨k,c,e,z⟩
    ·refine .inl ⟨k,?_⟩
     have:y ≠ x:=fun e=>hj (hJ hN e1 (e ▸ hi))
     simp[this,e]
    ·exact .inr ⟨k,c,e,z.sameBut hs (yl y c e)⟩
  ·obtain⟨w',z⟩:=I.cell y c e
   exact⟨w',z.sameBut hs (yl y c e)⟩
  ·obtain⟨e,n,ne,nf,d⟩:=I.pin p hp
   exact⟨(hs.2 p.1 ne).trans e,n,ne,nf,d⟩
 ·have HJ:X.fn x=true:=by
   rcases hf with z | z
   ·exact z
   ·rw[z]at hk;cases hk
  obtain⟨c,hc⟩:=I.ok.has x (.inl hk)
  obtain⟨w',z⟩:=I.cell x c hc
  refine wpAny_storeName_cell I.ok.kind hk hc z (fun h' BP hs=>?_)
  obtain⟨oc,Mf,HK⟩:=id z
  refine h { s with heap:=h' } ⟨I.ok,I.os,I.bare,⟨fun b o e n hb hx=>?_,fun b o e n hb hx=>?_,I.base.free,fun b o e hx=>?_,I.base.wX,I.base.wQ,I.base.wY⟩,⟨m,hn.sameBut hs (Ne.symm (yl x c hc)),fun j y v' e1 e2 e3=>?_⟩,fun y c' e=>?_,I.free,I.vT,fun p hp=>?_,tracked ⟨oc,Mf,I.vT x c hc⟩ hs,by simpa using I.len⟩ ⟨c,hs, .inr hc⟩
  ·exact(hs.2 b (ne_of_lt (lt_of_lt_of_le (lt_size e) (I.ok.AY x c HJ hc)))).trans (I.base.keep b o e n hb hx)
  ·obtain⟨sl,e1⟩:=I.base.slot b o e n hb hx
   exact⟨sl,(hs.2 b (ne_of_lt (lt_of_lt_of_le (lt_size e) (I.ok.AY x c HJ hc)))).trans e1⟩
  ·obtain⟨o',e1⟩:=I.base.there b o e hx
   exact⟨o',(hs.2 b (ne_of_lt (lt_of_lt_of_le (lt_size e) (I.ok.AY x c HJ hc)))).trans e1⟩
  ·by_cases hj:j=i
   ·subst hj
    rw[hi]at e1;cases e1
    rw[List.getElem?_set_self Cw]at e2
    cases e2
    exact⟨u,r, .inr ⟨.inl hk,c,hc,BP⟩⟩
   ·rw[List.getElem?_set_ne (Ne.symm hj)]at e2
    obtain⟨u',r',q⟩:=hl j y v' e1 e2 e3
    refine⟨u',r',?_⟩
    rcases q with q | ⟨k,c',e,z'⟩
    ·exact .inl q
    ·refine .inr ⟨k,c',e,z'.sameBut hs ?_⟩
     rintro rfl
     exact hj (hJ hN e1 (I.ok.inj _ _ _ e hc ▸ hi))
  ·by_cases Mj:c' = c
   ·subst Mj;exact⟨_,BP⟩
   ·obtain⟨w2,z2⟩:=I.cell y c' e
    exact⟨w2,z2.sameBut hs Mj⟩
  ·obtain⟨e,n,ne,nf,d⟩:=I.pin p hp
   refine⟨(hs.2 p.1 ?_).trans e,n,ne,nf,d⟩
   intro q
   rw[q,Mf]at e
   have q':oc=p.2:=Option.some.inj e
   exact d w' (by rw[← q'];exact HK)
theorem dL {M:Model}{A:Around}{E:Value->Shared->Prop}{i:Nat}{x:Str}{v:V}{u:Value}{Q:Unit->Shared->Prop}(I:Inv X pins σ H s)(hN:X.N.Nodup)(hi:X.N[i]? = some x)(hx:Loc X.env.scope x)(r:RelV v u)
  (h:∀ s',Inv X pins (σ.set i (some v)) H s'->Q () s') (hf:X.fn x=true∨X.env.scope.names.lookup x=some .local:=by first | exact .inl rfl | exact .inr rfl | assumption):wpAny M A (storeName X.env x u) Q E s :=
 iL I hN hi hx r (fun s' I' _=>h s' I') hf
theorem Inv.Al {s':Shared}{ch:List Addr}(I:Inv X pins σ H s)(ho:s'.os=s.os)(u:Un (gh X.stack) ch H H' s.heap s'.heap)(vD:wt X.prog X.w H' s'.heap)(hg:AllBare s'.gens)
  (w6:∀ b ∈ ch,(b ∈ X.ex∨X.s₀.heap.objs.size <= b)/\b ≠ X.env.locals/\(∀ x c,X.env.cells.lookup x=some c->c ≠ b)/\∀ p ∈ X.pn ++ pins,p.1 ≠ b):Inv X pins σ H' s':=by
 obtain⟨h',g',d',t',o'⟩:=s'
 have e:o' = s.os:=ho
 subst e
 exact I.call (g':=g') (t':=t') (d':=d') u vD hg w6
end
abbrev XK:=Value->Option Addr->Hp->Prop
abbrev St:=List (Option V)
abbrev VK:=V->Hp->Prop
abbrev TE:=St->Hp->VK->Prop
abbrev TT:=St->Hp->(Bool->Hp->Prop)->Prop
abbrev TA:=St->Hp->(List V->Hp->Prop)->Prop
structure eC where
 nx:St->Hp->Prop
 rt:VK
 bk:St->Hp->Prop:=fun _ _=>False
 ct:St->Hp->Prop:=fun _ _=>False
abbrev TS:=eC->St->Hp->Prop
noncomputable def EP (X:Cx)(pins:List (Addr × Obj))(σ:St)(Q:VK)(u:Value)(s':Shared):Prop:=∃ v H',Inv X pins σ H' s'/\RelV v u/\Q v H'
noncomputable def TP (X:Cx)(pins:List (Addr × Obj))(σ:St)(Q:Bool->Hp->Prop)(b:Bool)(s':Shared):Prop:=∃ H',Inv X pins σ H' s'/\Q b H'
noncomputable def AP (X:Cx)(pins:List (Addr × Obj))(σ:St)(Q:List V->Hp->Prop)(us:List Value)(s':Shared):Prop:=∃ vs H',Inv X pins σ H' s'/\Vals vs us/\Q vs H'
noncomputable def SP (X:Cx)(pins:List (Addr × Obj))(D:eC)(f:Flow)(s':Shared):Prop :=
 match f with
 | .next=>∃ σ' H',Inv X pins σ' H' s'/\D.nx σ' H'
 | .brk=>∃ σ' H',Inv X pins σ' H' s'/\D.bk σ' H'
 | .cont=>∃ σ' H',Inv X pins σ' H' s'/\D.ct σ' H'
 | .ret u=>∃ v σ' H',Inv X pins σ' H' s'/\RelV v u/\D.rt v H'
noncomputable def PE (X:Cx)(e:Expr)(t:TE):Prop :=
 ∀ (pins:List (Addr × Obj))(s:Shared)(σ:St)(H:Hp)(Q:VK),Inv X pins σ H s->t σ H Q->wpAny (model X.prog X.w) X.A (eval e X.env) (EP X pins σ Q) X.xe s
noncomputable def PT (X:Cx)(e:Expr)(t:TT):Prop :=
 ∀ (pins:List (Addr × Obj))(s:Shared)(σ:St)(H:Hp)(Q:Bool->Hp->Prop),Inv X pins σ H s->t σ H Q->wpAny (model X.prog X.w) X.A (isTrue e X.env (eval e X.env)) (TP X pins σ Q) X.xe s
noncomputable def PW (X:Cx)(e:Expr)(t:TT):Prop :=
 ∀ (whole:Sem Value)(pins:List (Addr × Obj))(s:Shared)(σ:St)(H:Hp)(Q:Bool->Hp->Prop),Inv X pins σ H s->t σ H Q->wpAny (model X.prog X.w) X.A (isTrue e X.env whole) (TP X pins σ Q) X.xe s
theorem PW.pt {X:Cx}{e:Expr}{t:TT}(h:PW X e t):PT X e t:=h _
noncomputable def PA (X:Cx)(es:List Expr)(t:TA):Prop :=
 ∀ (pos:Pos)(pins:List (Addr × Obj))(s:Shared)(σ:St)(H:Hp)(Q:List V->Hp->Prop),Inv X pins σ H s->t σ H Q->wpAny (model X.prog X.w) X.A (spliced (backTo pos (starEach es X.env))) (AP X pins σ Q) X.xe s
noncomputable def PS (X:Cx)(st:Stmt)(t:TS):Prop :=
 ∀ (pins:List (Addr × Obj))(s:Shared)(σ:St)(H:Hp)(D:eC),Inv X pins σ H s->t D σ H->wpAny (model X.prog X.w) X.A (exec st X.env) (SP X pins D) X.xe s
noncomputable def xI (X:Cx)(st:List Stmt)(t:TS):Prop :=
 ∀ (pins:List (Addr × Obj))(s:Shared)(σ:St)(H:Hp)(D:eC),Inv X pins σ H s->t D σ H->wpAny (model X.prog X.w) X.A (execs st X.env) (SP X pins D) X.xe s
theorem aN {α:Type}{t:Sem α}{Q Q':α->Shared->Prop}{M:Model}{A:Around}{E:Value->Shared->Prop}{s:Shared}(h:wpAny M A t Q E s)(hQ:∀ a s,Q a s->Q' a s):wpAny M A t Q' E s:=wpAny_mono h hQ fun _ _ x=>x
end L2
namespace L2
open PySem PySem.Spec PyProof.Rows
section
variable {X:Cx}
noncomputable def tP (i:Nat):TE:=fun σ H Q=>∃ v,σ[i]? = some (some v)/\Q v H
noncomputable def tC (v:V):TE:=fun _ H Q=>Q v H
theorem ux {i:Nat}{x:Str}{pos:Pos}(hN:X.N[i]? = some x)(hv:FR X.env.scope x)(hd:(x == ("__debug__":Str))=false:=by decide)(xO:(x == ("__classdict__":Str))=false:=by decide):PE X (.Name x pos) (tP i):=by
 intro pins s σ H Q I h
 obtain⟨v,e,h⟩:=h
 obtain⟨m,hn,hl⟩:=I.loc
 obtain⟨u,r,l⟩:=hl i x v hN e hv
 have fin:EP X pins σ Q u s:=⟨v,H,I,r,h⟩
 rcases l with ⟨hk,hm⟩ | ⟨hk,c,hc,xv⟩
 ·exact wpAny_Name (wpAny_loadName_local I.ok.kind hk hn hm fin) hd
 ·rcases hk with hk | hk
  ·exact wpAny_Name (wpAny_loadName_cell I.ok.kind hk hc xv fin) hd
  ·exact wpAny_Name (wpAny_loadName_free I.ok.kind hk hc xv fin xO) hd
theorem af {i j pos}:PE X (.Constant (.int i) j pos) (tC (.int i)):=fun _ _ _ H _ I h=>wpAny_Constant_int ⟨.int i,H,I.tok _,⟨_,rfl⟩,h⟩
theorem mS {b j pos}:PE X (.Constant (.bool b) j pos) (tC (.bl b)):=fun _ _ _ H _ I h=>Constant_bool ⟨.bl b,H,I,rfl,h⟩
theorem bK {j pos}:PE X (.Constant .none j pos) (tC .vJ):=fun _ _ _ H _ I h=>Constant_none ⟨.vJ,H,I,rfl,h⟩
theorem aP {x j pos}:PE X (.Constant (.str x) j pos) (tC (.str x)):=fun _ _ _ H _ I h=>Calls.Constant_str ⟨.str x,H,I.tok _,⟨_,rfl⟩,h⟩
noncomputable def Gl (X:Cx)(x:Str):Prop:=X.env.kindOf x=some .globalImplicit
theorem bI {E:Value->Shared->Prop}{pins:List (Addr × Obj)}{s:Shared}{σ:St}{H:Hp}{x:Str}{u:Value}{pos:Pos}{Q:Value->Shared->Prop}(I:Inv X pins σ H s)(hg:Gl X x)(hm:X.mg x=some u)(h:Q u s)
  (hd:(x == ("__debug__":Str))=false:=by decide):wpAny (model X.prog X.w) X.A (eval (.Name x pos) X.env) Q E s :=
 Calls.Name_function_global I.ok.kind hg (Calls.loadGlobal_global (by rw[I.ok.glob];exact I.mod.glob.keeps I.bk) hm h) hd
theorem fQ {E:Value->Shared->Prop}{pins:List (Addr × Obj)}{s:Shared}{σ:St}{H:Hp}{x:Str}{u:Value}{pos:Pos}{Q:Value->Shared->Prop}(I:Inv X pins σ H s)(hg:Gl X x)(hm:X.mg x=none)(hv:bootBuiltins x=some u)(h:Q u s)
  (hn:x ≠ "__name__":=by decide) (hd:(x == ("__debug__":Str))=false:=by decide):wpAny (model X.prog X.w) X.A (eval (.Name x pos) X.env) Q E s:=by
 obtain⟨mb,h1,h2⟩:=I.mod.blt
 exact Calls.Name_function_global I.ok.kind hg (Calls.loadGlobal_builtin (by rw[I.ok.glob];exact I.mod.glob.keeps I.bk) hm (by rw[I.ok.blt];exact h1.keeps I.bk) ((h2 x hn).trans hv) h) hd
theorem aA {x:Str}{v:V}{u:Value}{pos:Pos}(hg:Gl X x)(hm:X.mg x=some u)(r:RelV v u)(hd:(x == ("__debug__":Str))=false:=by decide):PE X (.Name x pos) (tC v) :=
 fun _ _ _ H _ I h=>bI I hg hm ⟨v,H,I,r,h⟩ hd
theorem bD {x:Str}{v:V}{u:Value}{pos:Pos}(hg:Gl X x)(hm:X.mg x=none)(hv:bootBuiltins x=some u)(r:RelV v u)(hn:x ≠ "__name__":=by decide)(hd:(x == ("__debug__":Str))=false:=by decide):PE X (.Name x pos) (tC v) :=
 fun _ _ _ H _ I h=>fQ I hg hm hv ⟨v,H,I,r,h⟩ hn hd
variable {a b:Expr}{ta tb:TE}{pos:Pos}
noncomputable def PC (X:Cx)(op:CmpOp)(a b:Expr)(t:TE):Prop :=
 ∀ (pins:List (Addr × Obj))(s:Shared)(σ:St)(H:Hp)(Q:VK),Inv X pins σ H s->t σ H Q ->
  wpAny (model X.prog X.w) X.A (eval a X.env) (fun v s₁=>wpAny (model X.prog X.w) X.A (eval b X.env) (fun u s₂=>wpAny (model X.prog X.w) X.A (compareOp op v u) (EP X pins σ Q) X.xe s₂) X.xe s₁) X.xe s
noncomputable def tB (t:TE):TT:=fun σ H Q=>t σ H fun x H1=>∃ c,x = .bl c/\Q c H1
theorem uy {op:CmpOp}{t:TE}(h:PC X op a b t)(h1:behindInMarks op b=false:=by first | exact yV _ (by decide) (by decide) | rfl):PE X (.Compare a [op] [b] pos) t:=fun pins s σ H Q I hw=>wpAny_Compare1 (h pins s σ H Q I hw) h1
theorem pA {op:CmpOp}{t:TE}(h:PC X op a b t)(h1:behindInMarks op b=false:=by first | exact yV _ (by decide) (by decide) | rfl):PT X (.Compare a [op] [b] pos) (tB t):=by
 intro pins s σ H Q I hw
 refine wpAny_isTrue_Compare1 (aN (h pins s σ H _ I hw) fun v s1 h1=>aN h1 fun u s2 h2=>aN h2 fun c s3 v9=>?_) h1
 obtain⟨x,H1,I1,r1,q1⟩:=v9
 obtain⟨d,rfl,q⟩:=q1
 cases r1
 exact wpAny_truthy_bool ⟨H1,I1,q⟩
theorem bu {e:Expr}{t:TE}(h:PE X e t)(he:∀ whole,isTrue e X.env whole=(do let v ← whole;standAt e.pos;holding [v] (truthy v)):=by intro _;rfl):PT X e (tB t):=by
 intro pins s σ H Q I hw
 refine isTrue_plain (aN (h pins s σ H _ I hw) fun v s1 v9=>?_) (he _)
 obtain⟨x,H1,I1,r1,q1⟩:=v9
 obtain⟨d,rfl,q⟩:=q1
 cases r1
 exact wpAny_truthy_bool ⟨H1,I1,q⟩
variable {tA FW:TT}{rest:List Expr}
noncomputable def HL (t u:TT):TT:=fun σ H Q=>t σ H fun c H1=>if c=true then u σ H1 Q else Q false H1
noncomputable def tOr (t u:TT):TT:=fun σ H Q=>t σ H fun c H1=>if c=true then Q true H1 else u σ H1 Q
noncomputable def HM (t:TT):TT:=fun σ H Q=>t σ H fun c H1=>Q (!c) H1
theorem eX (ha:PT X a tA):PW X (.BoolOp .And [a] pos) tA:=by
 intro wh pins s σ H Q I h
 refine isTrue_and (aN (ha pins s σ H Q I h) fun c s1 e=>?_)
 cases c with
 | true=>exact isTrue_and_nil e
 | false=>exact e
theorem dP (ha:PT X a tA):PW X (.BoolOp .Or [a] pos) tA:=by
 intro wh pins s σ H Q I h
 refine isTrue_or (aN (ha pins s σ H Q I h) fun c s1 e=>?_)
 cases c with
 | false=>exact isTrue_or_nil e
 | true=>exact e
theorem gS (ha:PT X a tA)(hb:PW X (.BoolOp .And (b :: rest) pos) FW):PW X (.BoolOp .And (a :: b :: rest) pos) (HL tA FW):=by
 intro wh pins s σ H Q I h
 refine isTrue_and (aN (ha pins s σ H _ I h) fun c s1 v9=>?_)
 obtain⟨H1,I1,q1⟩:=v9
 cases c with
 | true=>exact hb wh pins s1 σ H1 Q I1 q1
 | false=>exact⟨H1,I1,q1⟩
theorem eW (ha:PT X a tA)(hb:PW X (.BoolOp .Or (b :: rest) pos) FW):PW X (.BoolOp .Or (a :: b :: rest) pos) (tOr tA FW):=by
 intro wh pins s σ H Q I h
 refine isTrue_or (aN (ha pins s σ H _ I h) fun c s1 v9=>?_)
 obtain⟨H1,I1,q1⟩:=v9
 cases c with
 | true=>exact⟨H1,I1,q1⟩
 | false=>exact hb wh pins s1 σ H1 Q I1 q1
theorem aU (ha:PT X a tA):PT X (.UnaryOp .Not a pos) (HM tA):=by
 intro pins s σ H Q I h
 exact isTrue_not (ha pins s σ H (fun c H1=>Q (!c) H1) I h)
noncomputable def Cy (ta tb:TE):TE:=fun σ H Q=>ta σ H fun x H1=>∃ c,x = .bl c/\if c=true then tb σ H1 Q else Q (.bl false) H1
noncomputable def HN (ta tb:TE):TE:=fun σ H Q=>ta σ H fun x H1=>∃ c,x = .bl c/\if c=true then Q (.bl true) H1 else tb σ H1 Q
noncomputable def Cz (ta:TE):TE:=fun σ H Q=>ta σ H fun x H1=>∃ c,x = .bl c/\Q (.bl (!c)) H1
theorem bJ {op} {t:TE} (h:PE X a t):PE X (.BoolOp op [a] pos) t:=fun pins s σ H Q I hw=>BoolOp_one (h pins s σ H Q I hw)
theorem bE (ha:PE X a ta)(hb:PE X (.BoolOp .And (b :: rest) pos) tb):PE X (.BoolOp .And (a :: b :: rest) pos) (Cy ta tb):=by
 intro pins s σ H Q I h
 refine BoolOp_and (aN (ha pins s σ H _ I h) fun v s1 v9=>?_)
 obtain⟨x,H1,I1,r1,q1⟩:=v9
 obtain⟨c,rfl,q1⟩:=q1
 cases r1
 refine wpAny_truthy_bool ?_
 cases c with
 | true=>exact hb pins s1 σ H1 Q I1 q1
 | false=>exact⟨.bl false,H1,I1,rfl,q1⟩
theorem C0 (ha:PE X a ta)(hb:PE X (.BoolOp .Or (b :: rest) pos) tb):PE X (.BoolOp .Or (a :: b :: rest) pos) (HN ta tb):=by
 intro pins s σ H Q I h
 refine BoolOp_or (aN (ha pins s σ H _ I h) fun v s1 v9=>?_)
 obtain⟨x,H1,I1,r1,q1⟩:=v9
 obtain⟨c,rfl,q1⟩:=q1
 cases r1
 refine wpAny_truthy_bool ?_
 cases c with
 | false=>exact hb pins s1 σ H1 Q I1 q1
 | true=>exact⟨.bl true,H1,I1,rfl,q1⟩
theorem pF (ha:PE X a ta):PE X (.UnaryOp .Not a pos) (Cz ta):=by
 intro pins s σ H Q I h
 refine UnaryOp_ (aN (ha pins s σ H _ I h) fun v s1 v9=>?_)
 obtain⟨x,H1,I1,r1,q1⟩:=v9
 obtain⟨c,rfl,q1⟩:=q1
 cases r1
 exact not_of (wpAny_truthy_bool ⟨.bl (!c),H1,I1,rfl,q1⟩)
noncomputable def tIf (t:TT)(ta tb:TE):TE:=fun σ H Q=>t σ H fun c H1=>if c=true then ta σ H1 Q else tb σ H1 Q
theorem fj {c:Expr}(hc:PT X c tA)(ha:PE X a ta)(hb:PE X b tb):PE X (.IfExp c a b pos) (tIf tA ta tb):=by
 intro pins s σ H Q I h
 refine wpAny_IfExp (aN (hc pins s σ H _ I h) fun d s1 v9=>?_)
 obtain⟨H1,I1,q1⟩:=v9
 cases d with
 | true=>exact ha pins s1 σ H1 Q I1 q1
 | false=>exact hb pins s1 σ H1 Q I1 q1
end
end L2
namespace L2
open PySem PySem.Spec PyProof.Rows
noncomputable def vG (K:Frag)(H:Hp)(a:Addr)(xs:List V):Prop :=
 Rd H a (.lst xs) ∨
  ∃ (o:Obj)(vA:Array Value)(n:Nat),K.lookup a=some o/\o.cls = .type "list"/\o.dict=none/\o.data = .seq vA n/\vA.size <= sizeLine/\Vals xs vA.toList
noncomputable def vO (K:Frag)(H:Hp)(a:Addr)(xs:List V):Prop :=
 Rd H a (.tup xs) ∨
  ∃ (o:Obj)(vA:Array Value)(n:Nat),K.lookup a=some o/\o.cls = .type "tuple"/\o.data = .seq vA n/\vA.size <= sizeLine/\Vals xs vA.toList
noncomputable def HP:Value->Option V
 | .none=>some .vJ
 | .bool b=>some (.bl b)
 | .int i _=>some (.int i)
 | .str x _=>some (.str x)
 | .bytes b _=>some (.y0 b)
 | .float b _=>some (.AW b)
 | .ref a=>some (.ref a)
 | .type n=>some (.ty n)
 | _=>none
theorem RelV.abs {x:V}{u:Value}(r:RelV x u):HP u=some x:=by
 cases x with
 | vJ=>cases r;rfl
 | bl _=>cases r;rfl
 | int _=>obtain⟨t,rfl⟩:=r;rfl
 | str _=>obtain⟨t,rfl⟩:=r;rfl
 | y0 _=>obtain⟨t,rfl⟩:=r;rfl
 | AW _=>obtain⟨t,rfl⟩:=r;rfl
 | ref _=>cases r;rfl
 | ty _=>cases r;rfl
theorem RelV.inj {x y:V}{u:Value}(r:RelV x u)(q:RelV y u):x=y:=Option.some.inj (r.abs.symm.trans q.abs)
theorem Vals.inj:∀ {xs ys:List V}{us:List Value},Vals xs us->Vals ys us->xs=ys
 | _,_,_, .nil, .nil=>rfl
 | _,_,_, .cons r t, .cons r' t'=>by rw[r.inj r',Vals.inj t t']
section
variable {X:Cx}{pins:List (Addr × Obj)}{σ:St}{H:Hp}{s:Shared}{a:Addr}{xs ys:List V}
theorem vG.of {K:Frag}(h:H a=some (.lst xs)):vG K H a xs := .inl (.inl h)
theorem vO.of {K:Frag}(h:H a=some (.tup xs)):vO K H a xs := .inl (.inl h)
theorem Inv.list (I:Inv X pins σ H s)(h:vG X.K H a xs):∃ vA:List Value,Vals xs vA/\PlainL s.heap a vA.toArray/\xs.length <= sizeLine:=by
 rcases h with h | ⟨o,vA,n,hk,hc,hd,hs,hz,r⟩
 ·obtain⟨z,vA,n,r,e⟩:=h.ok I.vD
  exact⟨vA,r,⟨_,n,e,rfl,rfl,rfl⟩,z⟩
 ·refine⟨vA.toList,r,⟨o,n,I.vY a o hk,hc,hd,by simpa using hs⟩,?_⟩
  have e:=r.length
  simp only[Array.length_toList]at e
  omega
theorem Inv.tuple (I:Inv X pins σ H s)(h:vO X.K H a xs):∃ vA:List Value,Vals xs vA/\IsTup s.heap a vA.toArray/\xs.length <= sizeLine:=by
 rcases h with h | ⟨o,vA,n,hk,hc,hs,hz,r⟩
 ·obtain⟨z,vA,r,p⟩:=h.ok I.vD
  exact⟨vA,r,p.isTup,z⟩
 ·refine⟨vA.toList,r,⟨o,I.vY a o hk,hc,n,by simpa using hs⟩,?_⟩
  have e:=r.length
  simp only[Array.length_toList]at e
  omega
theorem Inv.xP (I:Inv X pins σ H s)(h:vG X.K H a xs)(h':vG X.K H a ys):xs=ys:=by
 obtain⟨vA,r,⟨o,n,e,_,_,d⟩,_⟩:=I.list h
 obtain⟨its',r',⟨o',n',e',_,_,d'⟩,_⟩:=I.list h'
 rw[e]at e';cases e'
 rw[d]at d'
 injection d' with d1 _
 have:vA=its':=by simpa using congrArg Array.toList d1
 subst this
 exact r.inj r'
theorem Inv.xw (I:Inv X pins σ H s)(h:vO X.K H a xs)(h':vO X.K H a ys):xs=ys:=by
 obtain⟨vA,r,⟨o,e,_,n,d⟩,_⟩:=I.tuple h
 obtain⟨its',r',⟨o',e',_,n',d'⟩,_⟩:=I.tuple h'
 rw[e]at e';cases e'
 rw[d]at d'
 injection d' with d1 _
 have:vA=its':=by simpa using congrArg Array.toList d1
 subst this
 exact r.inj r'
end
abbrev Cx.xg (X:Cx)(E:Value->Shared->Prop):Cx:={ X with xe:=E }
abbrev Cx.Am (X:Cx):Cx:=X.xg fun _ _=>False
theorem Cx.Ok.xg {X:Cx}(ok:X.Ok)(E:Value->Shared->Prop):(X.xg E).Ok :=
 ⟨ok.mod,ok.kind,ok.glob,ok.blt,ok.above,ok.inj,ok.has,ok.AY,ok.hd,ok.frames,ok.Cu,ok.HE,ok.bs,ok.yT,ok.yE,ok.yU,ok.wF,ok.zI⟩
theorem Cx.Ok.wk {X:Cx}{E:Value->Shared->Prop}(ok:(X.xg E).Ok):X.Ok :=
 ⟨ok.mod,ok.kind,ok.glob,ok.blt,ok.above,ok.inj,ok.has,ok.AY,ok.hd,ok.frames,ok.Cu,ok.HE,ok.bs,ok.yT,ok.yE,ok.yU,ok.wF,ok.zI⟩
section
variable {X:Cx}{pins:List (Addr × Obj)}{σ:St}{H:Hp}{s:Shared}{E:Value->Shared->Prop}
theorem Inv.xg (I:Inv X pins σ H s)(E:Value->Shared->Prop):Inv (X.xg E) pins σ H s:=⟨I.ok.xg E,I.os,I.bare,I.base,I.loc,I.cell,I.free,I.vT,I.pin,I.vD,I.len⟩
theorem Inv.wk (I:Inv (X.xg E) pins σ H s):Inv X pins σ H s:=⟨I.ok.wk,I.os,I.bare,I.base,I.loc,I.cell,I.free,I.vT,I.pin,I.vD,I.len⟩
theorem SP.wk {D:eC}{f:Flow}{s':Shared}(h:SP (X.xg E) pins D f s'):SP X pins D f s':=by
 cases f with
 | next=>obtain⟨σ',H',I,q⟩:=h;exact⟨σ',H',I.wk,q⟩
 | brk=>obtain⟨σ',H',I,q⟩:=h;exact⟨σ',H',I.wk,q⟩
 | cont=>obtain⟨σ',H',I,q⟩:=h;exact⟨σ',H',I.wk,q⟩
 | ret u=>obtain⟨v,σ',H',I,r,q⟩:=h;exact⟨v,σ',H',I.wk,r,q⟩
theorem xI.Am {st:List Stmt}{t:TS}(h:xI X.Am st t):xI X st t:=fun pins s σ H D I hw =>
 wpAny_mono (h pins s σ H D (I.xg _) hw) (fun _ _ q=>q.wk) fun _ _ z=>False.elim z
end
section
variable {X:Cx}{st:Stmt}{rest:List Stmt}{t u:TS}{e:Expr}{te:TE}{pos:Pos}
noncomputable def sT:TS:=fun D σ H=>D.nx σ H
noncomputable def HQ (t u:TS):TS:=fun D σ H=>t { D with nx:=u D } σ H
theorem am:xI X [] sT:=fun _ _ σ H _ I h=>wpAny_execs_nil ⟨σ,H,I,h⟩
theorem ad (h1:PS X st t)(h2:xI X rest u):xI X (st :: rest) (HQ t u):=by
 intro pins s σ H D I h
 refine wpAny_execs_cons (aN (h1 pins s σ H { D with nx:=u D } I h) fun f s1 q=>?_)
 cases f with
 | next =>
  obtain⟨σ',H',I',q⟩:=q
  exact h2 pins s1 σ' H' D I' q
 | ret v=>exact q
 | brk=>exact q
 | cont=>exact q
theorem ah (h1:PS X st t):xI X [st] t:=by
 intro pins s σ H D I h
 refine wpAny_execs_cons (aN (h1 pins s σ H D I h) fun f s1 q=>?_)
 cases f with
 | next=>exact wpAny_execs_nil q
 | ret v=>exact q
 | brk=>exact q
 | cont=>exact q
theorem Inv.quiet {pins:List (Addr × Obj)}{σ:St}{H:Hp}{s:Shared}(I:Inv X pins σ H s):interactive X.env=false:=by simp[interactive,I.ok.kind]
noncomputable def C1 (te:TE):TS:=fun D σ H=>te σ H fun _ H1=>D.nx σ H1
theorem aH (he:PE X e te)(hs:swapsWith e none pos.line X.env=pure false:=by rfl):PS X (.Expr e pos) (C1 te):=by
 intro pins s σ H D I h
 exact wpAny_Expr_any (aN (he pins s σ H _ I h) fun v s1 v9=>by obtain⟨x,H1,I1,r1,q1⟩:=v9;exact⟨σ,H1,I1,q1⟩) I.quiet hs
noncomputable def HR (te:TE):TS:=fun D σ H=>te σ H D.rt
theorem ay (he:PE X e te):PS X (.Return (some e) pos) (HR te):=by
 intro pins s σ H D I h
 exact wpAny_Return_some (aN (he pins s σ H _ I h) fun v s1 v9=>by obtain⟨x,H1,I1,r1,q1⟩:=v9;exact⟨x,σ,H1,I1,r1,q1⟩)
noncomputable def C2 (c:TT)(t u:TS):TS:=fun D σ H=>c σ H fun b H1=>if b=true then t D σ H1 else u D σ H1
theorem a8 {c:Expr}{a b:List Stmt}{tc:TT}(hc:PT X c tc)(ha:xI X a t)(hb:xI X b u):PS X (.If c a b pos) (C2 tc t u):=by
 intro pins s σ H D I h
 refine wpAny_If (aN (hc pins s σ H _ I h) fun d s1 v9=>?_)
 obtain⟨H1,I1,q1⟩:=v9
 cases d with
 | true=>exact ha pins s1 σ H1 D I1 q1
 | false=>exact hb pins s1 σ H1 D I1 q1
noncomputable def tU:TS:=fun _ _ _=>False
theorem aB:PS X st tU:=fun _ _ _ _ _ _ h=>h.elim
end
abbrev TG:=V->St->Hp->(St->Hp->Prop)->Prop
abbrev vt:=List V->St->Hp->(St->Hp->Prop)->Prop
noncomputable def PG (X:Cx)(target:Expr)(t:TG):Prop :=
 ∀ (pins:List (Addr × Obj))(s:Shared)(σ:St)(H:Hp)(v:V)(u:Value)(Q:St->Hp->Prop),Inv X pins σ H s->RelV v u->t v σ H Q ->
  wpAny (model X.prog X.w) X.A (assign target X.env u) (fun _ s'=>∃ σ' H',Inv X pins σ' H' s'/\Q σ' H') X.xe s
noncomputable def FX (X:Cx)(ts:List Expr)(t:vt):Prop :=
 ∀ (pins:List (Addr × Obj))(s:Shared)(σ:St)(H:Hp)(vs:List V)(us:List Value)(Q:St->Hp->Prop),Inv X pins σ H s->Vals vs us->t vs σ H Q ->
  wpAny (model X.prog X.w) X.A (assignInOrder ((assignEach ts X.env).map (·.2)) us) (fun _ s'=>∃ σ' H',Inv X pins σ' H' s'/\Q σ' H') X.xe s
abbrev FY:=V->V->Hp->VK->Prop
noncomputable def Mm (X:Cx)(op:Operator)(t:FY):Prop :=
 ∀ (pins:List (Addr × Obj))(s:Shared)(σ:St)(H:Hp)(x y:V)(v u:Value)(Q:VK),Inv X pins σ H s->RelV x v->RelV y u->t x y H Q ->
  wpAny (model X.prog X.w) X.A (inplaceOp op v u) (EP X pins σ Q) X.xe s
section
variable {X:Cx}{pos:Pos}
noncomputable def im (i:Nat):TG:=fun v σ H Q=>Q (σ.set i (some v)) H
theorem a7 {i:Nat}{x:Str}(hN:X.N.Nodup)(hi:X.N[i]? = some x)(hx:Loc X.env.scope x)(hf:X.fn x=true∨X.env.scope.names.lookup x=some .local:=by first | exact .inl rfl | exact .inr rfl | assumption):PG X (.Name x pos) (im i):=by
 intro pins s σ H v u Q I r h
 exact wpAny_assign_Name (dL I hN hi hx r (fun s' I'=>⟨_,H,I',h⟩) hf)
noncomputable def HS:vt:=fun vs σ H Q=>vs=[]/\Q σ H
noncomputable def C3 (t:TG)(u:vt):vt:=fun vs σ H Q=>∃ v r,vs=v :: r/\t v σ H fun σ' H'=>u r σ' H' Q
theorem e6:FX X [] HS:=by
 intro pins s σ H vs us Q I r h
 obtain⟨e,h⟩:=h
 subst e
 cases r
 exact assignInOrder_nil ⟨σ,H,I,h⟩
theorem bz {e:Expr}{es:List Expr}{t:TG}{u:vt}(h1:PG X e t)(h2:FX X es u)
  (hs:(assignEach (e :: es) X.env).map (·.2)=assign e X.env :: (assignEach es X.env).map (·.2):=by rfl):FX X (e :: es) (C3 t u):=by
 intro pins s σ H vs us Q I r h
 obtain⟨v,vr,e1,h⟩:=h
 subst e1
 cases r with
 | cons r rr =>
  rw[hs]
  refine assignInOrder_cons (aN (h1 pins s σ H _ _ _ I r h) fun _ s1 v9=>?_)
  obtain⟨σ1,H1,I1,q1⟩:=v9
  exact h2 pins s1 σ1 H1 _ _ Q I1 rr q1
noncomputable def sk (K:Frag)(n:Nat)(t:vt):TG:=fun v σ H Q=>∃ a xs,v = .ref a/\vO K H a xs/\xs.length=n/\t xs σ H Q
theorem fK {es:List Expr}{k:Nat}{t:vt}{n:Nat}(hc:X.calm=true)(h:FX X es t)
  (hn:(assignEach es X.env).length=n:=by rfl) (xJ:(assignEach es X.env).findIdx? (·.1)=none:=by rfl):PG X (.Tuple es k pos) (sk X.K n t):=by
 intro pins s σ H v u Q I r hw
 obtain⟨a,xs,e1,hq,hl,hw⟩:=hw
 subst e1
 cases r
 obtain⟨vA,rv,ht,hz⟩:=I.tuple hq
 refine assign_Tuple_tuple (I.ok.hd hc) ht (by simp[hn,← hl,rv.length]) xJ fun h' hx=>?_
 have I1:Inv X pins σ H { s with heap:=h' }:=I.kept (t':=s.toks) fun b o e=>hx b o (ne_of_lt (lt_size e)) e
 exact h pins _ σ H xs _ Q I1 (by simpa using rv) hw
noncomputable def C4 (te:TE)(g:TG):TS:=fun D σ H=>te σ H fun x H1=>g x σ H1 D.nx
theorem ar {i:Nat}{x:Str}{e:Expr}{te:TE}{pos':Pos}(hN:X.N.Nodup)(hi:X.N[i]? = some x)(hx:Loc X.env.scope x)(he:PE X e te)(hs:swapsWith e (some (.Name x pos')) pos.line X.env=pure false:=by rfl)(hf:X.fn x=true∨X.env.scope.names.lookup x=some .local:=by first | exact .inl rfl | exact .inr rfl | assumption) :
  PS X (.Assign [.Name x pos'] e pos) (C4 te (im i)):=by
 intro pins s σ H D I h
 refine wpAny_Assign_Name (aN (he pins s σ H _ I h) fun v s1 v9=>?_) hs
 obtain⟨y,H1,I1,r1,q1⟩:=v9
 exact dL I1 hN hi hx r1 (fun s2 I2=>⟨_,H1,I2,q1⟩) hf
noncomputable def HU (i:Nat)(te:TE)(ti:FY):TS:=fun D σ H=>∃ x,σ[i]? = some (some x)/\te σ H fun y H1=>ti x y H1 fun z H2=>D.nx (σ.set i (some z)) H2
theorem uu {i:Nat}{x:Str}{e:Expr}{te:TE}{op:Operator}{ti:FY}{pos':Pos}(hN:X.N.Nodup)(hi:X.N[i]? = some x)(hx:Loc X.env.scope x)(he:PE X e te)(ho:Mm X op ti)(hf:X.fn x=true∨X.env.scope.names.lookup x=some .local:=by first | exact .inl rfl | exact .inr rfl | assumption) :
  PS X (.AugAssign (.Name x pos') op e pos) (HU i te ti):=by
 intro pins s σ H D I h
 obtain⟨v,e1,h⟩:=h
 obtain⟨m,hn,hl⟩:=I.loc
 have vis:FR X.env.scope x:=by rcases hx with k | k;exact .inl k;exact .inr (.inl k)
 obtain⟨u,r,l⟩:=hl i x v hi e1 vis
 refine wpAny_AugAssign_Name ?_
 have go:wpAny (model X.prog X.w) X.A (eval e X.env) (fun w s₂=>wpAny (model X.prog X.w) X.A (inplaceOp op u w) (fun r s₃=>wpAny (model X.prog X.w) X.A (storeName X.env x r) (fun _=>SP X pins D .next) X.xe s₃) X.xe s₂) X.xe s:=by
  refine aN (he pins s σ H _ I h) fun w s1 v9=>?_
  obtain⟨y,H1,I1,r1,q1⟩:=v9
  refine aN (ho pins s1 σ H1 v y u w _ I1 r r1 q1) fun z s2 v9=>?_
  obtain⟨zv,H2,I2,r2,q2⟩:=v9
  exact dL I2 hN hi hx r2 (fun s3 I3=>⟨_,H2,I3,q2⟩) hf
 rcases l with ⟨hk,hm⟩ | ⟨hk,c,hc,xv⟩
 ·exact wpAny_loadName_local I.ok.kind hk hn hm go
 ·rcases hk with hk | hk
  ·exact wpAny_loadName_cell I.ok.kind hk hc xv go
  ·rcases hx with k | k
   ·have:X.env.scope.names.lookup x=some .free:=hk
    rw[k]at this;cases this
   ·have:X.env.scope.names.lookup x=some .free:=hk
    rw[k]at this;cases this
noncomputable def ipI (f:Int->Int->Int):FY:=fun x y H Q=>∃ i j,x = .int i/\y = .int j/\Q (.int (f i j)) H
theorem uX:Mm X .Add (ipI fun i j=>i + j):=by
 intro pins s σ H x y v u Q I r1 r2 h
 obtain⟨i,j,e1,e2,q⟩:=h
 subst e1;subst e2
 obtain⟨t,rfl⟩:=r1
 obtain⟨t',rfl⟩:=r2
 exact iadd_int ⟨.int _,H,I.tok _,⟨_,rfl⟩,q⟩
end
section
variable {X:Cx}{pos:Pos}
noncomputable def tO (c:TT)(tb:TS):TS:=fun D σ H=>∃ W:Nat->St->Hp->Prop,(∃ m,W m σ H)/\∀ m σ H,W m σ H ->
 c σ H fun b H1=>if b=true then ∃ N:St->Hp->Prop,(∀ σ' H',N σ' H'->∃ m',m' < m/\W m' σ' H')/\tb { D with nx:=N,ct:=N,bk:=D.nx } σ H1 else D.nx σ H1
theorem jZ {c:Expr}{body:List Stmt}{tc:TT}{tb:TS}(hp:PassesOwn (model X.prog X.w) X.A X.env X.xe)(hc:PT X c tc)(hb:xI X body tb):PS X (.While c body [] pos) (tO tc tb):=by
 intro pins s σ H D I h
 obtain⟨W,⟨m0,w0⟩,turn⟩:=h
 refine wpAny_While (codeAny_whileLoop (fun n s'=>∃ σ' H',Inv X pins σ' H' s'/\W n σ' H') ?_ m0 ⟨σ,H,I,w0⟩)
 rintro n s1 ⟨σ1,H1,I1,w1⟩
 refine wpAny_passesOwn hp (aN (hc pins s1 σ1 H1 _ I1 (turn n σ1 H1 w1)) fun b s2 v9=>?_)
 obtain⟨H2,I2,q2⟩:=v9
 cases b with
 | true =>
  obtain⟨N,hN,q2⟩:=q2
  rw[if_pos rfl]
  refine wpAny_passesOwn hp (aN (hb pins s2 σ1 H2 _ I2 q2) fun f s3 q3=>?_)
  cases f with
  | next =>
   obtain⟨σ3,H3,I3,n3⟩:=q3
   obtain⟨m',hm,w3⟩:=hN σ3 H3 n3
   exact⟨m',hm,σ3,H3,I3,w3⟩
  | cont =>
   obtain⟨σ3,H3,I3,n3⟩:=q3
   obtain⟨m',hm,w3⟩:=hN σ3 H3 n3
   exact⟨m',hm,σ3,H3,I3,w3⟩
  | brk=>exact q3
  | ret v=>exact q3
 | false =>
  rw[if_neg Bool.false_ne_true]
  exact wpAny_execs_nil ⟨σ1,H2,I2,q2⟩
end
structure It where
 go:Nat->Hp->Prop
 zy:Nat->Hp->V->Hp->Prop
 stop:Nat->Hp->Prop
noncomputable def eB (X:Cx)(pins:List (Addr × Obj))(H:Hp)(b:Addr):Prop :=
 H b=none/\b ≠ X.env.locals/\b ∉ X.fs/\(b ∈ X.ex∨X.s₀.heap.objs.size <= b)/\(∀ x c,X.env.cells.lookup x=some c->c ≠ b)/\∀ p ∈ X.pn ++ pins,p.1 ≠ b
theorem Inv.yF {X:Cx}{pins:List (Addr × Obj)}{σ:St}{H H':Hp}{s:Shared}{b:Addr}(I:Inv X pins σ H s)(hb:s.heap.objs.size <= b)(hn:H' b=none):eB X pins H' b:=by
 refine⟨hn,ne_of_gt (lt_of_lt_of_le I.lt hb),I.HG hb, .inr (le_trans I.sz hb),fun x c e z=>?_,fun p hp z=>?_⟩
 ·obtain⟨v,q⟩:=I.cell x c e
  exact absurd (lt_of_lt_of_le q.lt (by rw[z];exact hb)) (lt_irrefl _)
 ·exact absurd (lt_of_lt_of_le (lt_size (I.pin p hp).1) (by rw[z];exact hb)) (lt_irrefl _)
structure kX (P:Program)(w:World)(K:Frag)(tg:Expr)(J:It)(fp:List Addr)(it:Addr)(tn:Nat->Heap->Prop):Prop where
 mem:it ∈ fp
 obj:∀ i h,tn i h->∀ b ∈ fp,∃ o,h.get? b=some o/\∀ v,o.data ≠ .cell v
 keep:∀ i h h',tn i h->(∀ b ∈ fp,∀ o,h.get? b=some o->h'.get? b=some o)->tn i h'
 item:∀ (X:Cx),X.prog=P->X.w=w->X.K=K->X.calm=true->∀ (i:Nat)(pins:List (Addr × Obj))(s:Shared)(σ:St)(H:Hp)(E:Value->Shared->Prop),Inv X pins σ H s->(∀ b ∈ fp,eB X pins H b)->tn i s.heap->J.go i H ->
  wpAny (model P w) X.A (pyNext (.ref it)) (fun r s1=>∃ u,r=some u /\
   wpAny (model P w) X.A (letOwnedTupleGo tg (.ref it) u) (fun _ s2=>∃ x H',Inv X pins σ H' s2/\RelV x u/\J.zy i H x H'/\tn (i + 1) s2.heap/\∀ b ∈ fp,H' b=none) E s1) E s
 done:∀ (X:Cx),X.prog=P->X.w=w->X.K=K->X.calm=true->∀ (i:Nat)(pins:List (Addr × Obj))(s:Shared)(σ:St)(H:Hp)(E:Value->Shared->Prop),Inv X pins σ H s->(∀ b ∈ fp,eB X pins H b)->tn i s.heap->J.stop i H ->
  wpAny (model P w) X.A (pyNext (.ref it)) (fun r s1=>r=none/\Inv X pins σ H s1) E s
 self:∀ (A:Around)(i:Nat)(s:Shared)(Q:Value->Shared->Prop)(E:Value->Shared->Prop),tn i s.heap->Q (.ref it) s->wpAny (model P w) A (pyIter (.ref it)) Q E s
abbrev TI:=St->Hp->(It->Hp->Prop)->Prop
noncomputable def Mn (X:Cx)(pins:List (Addr × Obj))(σ:St)(tg:Expr)(R:It->Hp->Prop)(FZ:Value)(s2:Shared):Prop :=
 ∃ (it:Addr)(fp:List Addr)(tn:Nat->Heap->Prop)(J:It)(H':Hp),FZ = .ref it/\Inv X pins σ H' s2/\kX X.prog X.w X.K tg J fp it tn/\tn 0 s2.heap/\(∀ b ∈ fp,eB X pins H' b)/\R J H'
noncomputable def PI (X:Cx)(tg iter:Expr)(wi:TI):Prop :=
 ∀ (pins:List (Addr × Obj))(s:Shared)(σ:St)(H:Hp)(R:It->Hp->Prop),Inv X pins σ H s->wi σ H R ->
  wpAny (model X.prog X.w) X.A (eval iter X.env) (fun v s1=>wpAny (model X.prog X.w) X.A (pyIter v) (Mn X pins σ tg R) X.xe s1) X.xe s
theorem nk {M:Model}{A:Around}{E:Value->Shared->Prop}{s:Shared}{tg:Expr}{it:Addr}{u:Value}{o:Obj}{n:String}{vs:Array Value}{Q:Unit->Shared->Prop}(ho:s.heap.get? it=some o)(hc:o.cls = .type n)(hd:o.data = .fields vs)
  (hn:["enumerate", "zip", "dict_itemiterator", "dict_reverseitemiterator", "odict_iterator", "itertools.zip_longest", "itertools.pairwise"].contains n=false) (hQ:Q () s):wpAny M A (letOwnedTupleGo tg (.ref it) u) Q E s:=by
 unfold letOwnedTupleGo
 cases tg<;>first
  | exact wpAny_pure hQ
  | (cases u<;>first
    | exact wpAny_pure hQ
    | (refine wpAny_bind (wpAny_load ho ?_)
       rw[hc,hd]
       show wpAny M A (if (["enumerate", "zip", "dict_itemiterator", "dict_reverseitemiterator", "odict_iterator", "itertools.zip_longest", "itertools.pairwise"].contains n && vs[0]? == some (rawInt _))=true then _ else _) Q E s
       rw[if_neg (by intro h;rw[hn,Bool.false_and]at h;cases h)]
       exact wpAny_pure hQ))
noncomputable def sL (K:Frag)(a:Addr):It :=
 ⟨fun i H=>∃ xs x,vG K H a xs/\xs[i]? = some x,fun i H x H'=>H' = H/\∀ xs,vG K H a xs->xs[i]? = some x,fun i H=>∃ xs,vG K H a xs/\xs.length <= i⟩
noncomputable def Gb (K:Frag)(a:Addr):It :=
 ⟨fun i H=>∃ xs x,vO K H a xs/\xs[i]? = some x,fun i H x H'=>H' = H/\∀ xs,vO K H a xs->xs[i]? = some x,fun i H=>∃ xs,vO K H a xs/\xs.length <= i⟩
noncomputable def tD (lo:Int)(n:Nat):It:=⟨fun i _=>i < n,fun i H x H'=>H' = H/\x = .int (lo + i),fun i _=>n <= i⟩
theorem nH {P:Program}{w:World}{K:Frag}{tg:Expr}(a it:Addr):kX P w K tg (sL K a) [it] it (fun i h=>h.IsListIter it a i) where
 mem:=by simp
 obj:=fun i h st b hb=>by
  have e:b=it:=by simpa using hb
  subst e
  obtain⟨o,e,c,d⟩:=st
  exact⟨o,e,fun v z=>by rw[d]at z;cases z⟩
 keep:=fun i h h' st k=>st.at fun o e=>k it (by simp) o e
 item:=by
  intro X hP hw hK hc i pins s σ H E I hf st hg
  subst hP hw hK
  obtain⟨xs,x,hq,hx⟩:=hg
  obtain⟨vA,rv,p,hz⟩:=I.list hq
  obtain⟨u,hu,ru⟩:=rv.get hx
  obtain⟨f0,f1,f2,f3,f4,f5⟩:=hf it (by simp)
  refine wpAny_pyNext_list_item st p.isList (x:=u) (by simpa using hu) fun h' ym sb=>?_
  have I1:Inv X pins σ H { s with heap:=h' }:=I.turned (t':=s.toks) (fun b o hb e=>(sb.2 b hb).trans e) f0 f1 f3 f4 f5
  obtain⟨o,e,c,d⟩:=id ym
  exact⟨u,rfl,nk (s:={ s with heap:=h' }) e c d (by decide) ⟨x,H,I1,ru,⟨rfl,fun ys hy=>by rw[I.xP hy hq];exact hx⟩,ym,fun b hb=>(hf b hb).1⟩⟩
 done:=by
  intro X hP hw hK hc i pins s σ H E I hf st hg
  subst hP hw hK
  obtain⟨xs,hq,hx⟩:=hg
  obtain⟨vA,rv,p,hz⟩:=I.list hq
  obtain⟨f0,f1,f2,f3,f4,f5⟩:=hf it (by simp)
  have hl:=rv.length
  exact wpAny_pyNext_list_end (I.ok.hd hc) st p.isList (by simp;omega) fun h' eb=>⟨rfl,I.turned (t':=s.toks) (fun b o hb e=>eb b o hb e) f0 f1 f3 f4 f5⟩
 self:=fun _ _ _ _ _ st h=>wpAny_pyIter_listiter st h
theorem lh {P:Program}{w:World}{K:Frag}{tg:Expr}(a it:Addr):kX P w K tg (Gb K a) [it] it (fun i h=>h.IsTupleIter it a i) where
 mem:=by simp
 obj:=fun i h st b hb=>by
  have e:b=it:=by simpa using hb
  subst e
  obtain⟨o,e,c,d⟩:=st
  exact⟨o,e,fun v z=>by rw[d]at z;cases z⟩
 keep:=fun i h h' st k=>st.at fun o e=>k it (by simp) o e
 item:=by
  intro X hP hw hK hc i pins s σ H E I hf st hg
  subst hP hw hK
  obtain⟨xs,x,hq,hx⟩:=hg
  obtain⟨vA,rv,p,hz⟩:=I.tuple hq
  obtain⟨u,hu,ru⟩:=rv.get hx
  obtain⟨f0,f1,f2,f3,f4,f5⟩:=hf it (by simp)
  refine wpAny_pyNext_tuple_item st (show s.heap.IsTuple a vA.toArray from p) (x:=u) (by simpa using hu) fun h' ym sb=>?_
  have I1:Inv X pins σ H { s with heap:=h' }:=I.turned (t':=s.toks) (fun b o hb e=>(sb.2 b hb).trans e) f0 f1 f3 f4 f5
  obtain⟨o,e,c,d⟩:=id ym
  exact⟨u,rfl,nk (s:={ s with heap:=h' }) e c d (by decide) ⟨x,H,I1,ru,⟨rfl,fun ys hy=>by rw[I.xw hy hq];exact hx⟩,ym,fun b hb=>(hf b hb).1⟩⟩
 done:=by
  intro X hP hw hK hc i pins s σ H E I hf st hg
  subst hP hw hK
  obtain⟨xs,hq,hx⟩:=hg
  obtain⟨vA,rv,p,hz⟩:=I.tuple hq
  obtain⟨f0,f1,f2,f3,f4,f5⟩:=hf it (by simp)
  have hl:=rv.length
  exact wpAny_pyNext_tuple_end (I.ok.hd hc) st (show s.heap.IsTuple a vA.toArray from p) (by simp;omega) fun h' eb=>⟨rfl,I.turned (t':=s.toks) (fun b o hb e=>eb b o hb e) f0 f1 f3 f4 f5⟩
 self:=fun _ _ _ _ _ st h=>wpAny_pyIter_tupleiter st h
theorem lj {P:Program}{w:World}{K:Frag}{tg:Expr}(it:Addr)(lo:Int)(n:Nat):kX P w K tg (tD lo n) [it] it (fun i h=>IsRangeIter h it (lo + (i:Nat) * 1) ((n:Int) - (i:Nat)) 1) where
 mem:=by simp
 obj:=fun i h st b hb=>by
  have e:b=it:=by simpa using hb
  subst e
  exact⟨_,st,fun v z=>by
   have z':Data.fields _=Data.cell v:=z
   cases z'⟩
 keep:=fun i h h' st k=>k it (by simp) _ st
 item:=by
  intro X hP hw hK hc i pins s σ H E I hf st hg
  subst hP hw hK
  obtain⟨f0,f1,f2,f3,f4,f5⟩:=hf it (by simp)
  have W:=Walks.range (prog:=X.prog) (w:=X.w) (I.ok.hd hc) it lo 1 n
  refine W.item i s _ _ hg st fun v h' tk hv ym kk=>?_
  obtain⟨t,rfl⟩:=hv
  have I1:Inv X pins σ H { s with heap:=h',toks:=tk }:=I.turned (fun b o hb e=>kk b o (by simpa using hb) e) f0 f1 f3 f4 f5
  refine⟨_,rfl,nk (s:={ s with heap:=h',toks:=tk }) (n := "range_iterator") ym rfl rfl (by decide) ⟨.int (lo + i),H,I1,⟨t,?_⟩,⟨rfl,rfl⟩,ym,fun b hb=>(hf b hb).1⟩⟩
  rw[Int.mul_one]
 done:=by
  intro X hP hw hK hc i pins s σ H E I hf st hg
  subst hP hw hK
  obtain⟨f0,f1,f2,f3,f4,f5⟩:=hf it (by simp)
  exact wpAny_pyNext_range_end (I.ok.hd hc) st (by have:n <= i:=hg;omega) fun h' eb=>⟨rfl,I.turned (t':=s.toks) (fun b o hb e=>eb b o hb e) f0 f1 f3 f4 f5⟩
 self:=fun _ _ _ _ _ st h=>wpAny_pyIter_rangeiter st h
end L2
namespace L2
open PySem PySem.Spec PyProof.Rows
section
variable {X:Cx}{tg:Expr}
noncomputable def C5 (K:Frag)(tl:TE):TI:=fun σ H R=>tl σ H fun x H1=>∃ a,x = .ref a/\(∃ xs,vG K H1 a xs)/\R (sL K a) H1
noncomputable def HV (K:Frag)(tl:TE):TI:=fun σ H R=>tl σ H fun x H1=>∃ a,x = .ref a/\(∃ xs,vO K H1 a xs)/\R (Gb K a) H1
theorem bN {l:Expr}{tl:TE}(hl:PE X l tl):PI X tg l (C5 X.K tl):=by
 intro pins s σ H R I h
 refine aN (hl pins s σ H _ I h) fun v s1 v9=>?_
 obtain⟨x,H1,I1,r1,q1⟩:=v9
 obtain⟨a,e,⟨xs,hq⟩,q⟩:=q1
 subst e
 cases r1
 obtain⟨vA,rv,p,hz⟩:=I1.list hq
 refine wpAny_pyIter_list p.isList ?_
 refine⟨s1.heap.objs.size,[s1.heap.objs.size],_,_,H1,rfl,I1.kept (t':=s1.toks) fun b o e=>Heap.get?_push_of_some _ e,nH a _,⟨_,Heap.get?_push_size _ rfl,rfl,rfl⟩,fun b hb=>?_,q⟩
 have e:b=s1.heap.objs.size:=by simpa using hb
 subst e
 exact I1.yF (le_refl _) (I1.vD.fresh (le_refl _))
theorem j1 {l:Expr}{tl:TE}(hl:PE X l tl):PI X tg l (HV X.K tl):=by
 intro pins s σ H R I h
 refine aN (hl pins s σ H _ I h) fun v s1 v9=>?_
 obtain⟨x,H1,I1,r1,q1⟩:=v9
 obtain⟨a,e,⟨xs,hq⟩,q⟩:=q1
 subst e
 cases r1
 obtain⟨vA,rv,p,hz⟩:=I1.tuple hq
 refine wpAny_pyIter_tuple (show s1.heap.IsTuple a vA.toArray from p) ?_
 refine⟨s1.heap.objs.size,[s1.heap.objs.size],_,_,H1,rfl,I1.kept (t':=s1.toks) fun b o e=>Heap.get?_push_of_some _ e,lh a _,⟨_,Heap.get?_push_size _ rfl,rfl,rfl⟩,fun b hb=>?_,q⟩
 have e:b=s1.heap.objs.size:=by simpa using hb
 subst e
 exact I1.yF (le_refl _) (I1.vD.fresh (le_refl _))
theorem p7 {pins:List (Addr × Obj)}{σ:St}{H:Hp}{s:Shared}{R:It->Hp->Prop}{E:Value->Shared->Prop}{lo hi:Int}{t u v:Tok}{tk:Nat}(I:Inv X pins σ H s)(h1:-(2 ^ 62) <= lo)(h2:lo < 2 ^ 62)(h3:-(2 ^ 62) <= hi)(h4:hi < 2 ^ 62)
  (q:R (tD lo (hi - lo).toNat) H):wpAny (model X.prog X.w) X.A (pyIter (.ref s.heap.objs.size)) (Mn X pins σ tg R) E { s with heap:=s.heap.push { cls := .type "range",data := .fields #[.int lo t, .int hi u, .int 1 v] },toks:=tk }:=by
 refine wpAny_pyIter_range (IsRange.new ..) (small_one h1 h2 h3 h4) ?_
 have I1:Inv X pins σ H { s with heap:=s.heap.push { cls := .type "range",data := .fields #[.int lo t, .int hi u, .int 1 v] },toks:=tk }:=I.kept fun b o e=>Heap.get?_push_of_some _ e
 refine⟨(s.heap.push { cls := .type "range",data := .fields #[.int lo t, .int hi u, .int 1 v] }).objs.size,[(s.heap.push { cls := .type "range",data := .fields #[.int lo t, .int hi u, .int 1 v] }).objs.size],_,_,H,rfl,
  I1.kept (t':=tk) fun b o e=>Heap.get?_push_of_some _ e,lj _ lo (hi - lo).toNat,?_,fun b hb=>?_,q⟩
 ·have e1:lo + ((0:Nat):Int) * 1=lo:=by simp
  have e2:(((hi - lo).toNat:Nat):Int) - ((0:Nat):Int)=Builtin.Range.rangeSize lo hi 1:=by rw[rangeSize_one];split<;>omega
  show IsRangeIter _ _ (lo + ((0:Nat):Int) * 1) ((((hi - lo).toNat:Nat):Int) - ((0:Nat):Int)) 1
  rw[e1,e2]
  exact Heap.get?_push_size _ rfl
 ·have e:b=(s.heap.push { cls := .type "range",data := .fields #[.int lo t, .int hi u, .int 1 v] }).objs.size:=by simpa using hb
  subst e
  exact I1.yF (le_refl _) (I1.vD.fresh (le_refl _))
noncomputable def C6 (ta:TA):TI:=fun σ H R=>ta σ H fun vs H1=>∃ j:Int,vs=[.int j]/\-(2 ^ 62) <= j/\j < 2 ^ 62/\R (tD 0 j.toNat) H1
theorem et {a:Expr}{ta:TA}{p pos:Pos}(hg:Gl X "range")(hm:X.mg "range" = none)(ha:PA X [a] ta)(hs:starEach [a] X.env=[(false,eval a X.env)]:=by rfl):PI X tg (.Call (.Name "range" p) [a] [] pos) (C6 ta):=by
 intro pins s σ H R I h
 refine Call_ (fQ I hg hm boot_range (PyProof.Rows.callWith_type1 (aN (ha pos pins s σ H _ I h) fun us s1 v9=>?_) hs rfl))
 obtain⟨vs,H1,I1,r1,q1⟩:=v9
 obtain⟨j,e,q1,q2,q⟩:=q1
 subst e
 cases r1 with
 | cons r rr =>
  cases rr
  obtain⟨t,rfl⟩:=r
  exact call_range_1 (p7 I1 (by omega) (by omega) q1 q2 (by simpa using q))
noncomputable def HW (wi:TI)(g:TG)(tb:TS):TS:=fun D σ H=>wi σ H fun J H1=>∃ W:Nat->Nat->St->Hp->Prop,(∃ m,W 0 m σ H1)/\∀ i m σ H,W i m σ H ->
 (J.stop i H/\D.nx σ H)∨(J.go i H/\∃ N:St->Hp->Prop,(∀ σ' H',N σ' H'->∃ m',m' < m/\W (i + 1) m' σ' H')/\∀ x H',J.zy i H x H'->g x σ H' fun σ2 H2=>tb { D with nx:=N,ct:=N,bk:=D.nx } σ2 H2)
noncomputable def dv (fp:List Addr)(h:Heap):List (Addr × Obj):=fp.filterMap fun b=>(h.get? b).map fun o=>(b,o)
theorem dB {fp:List Addr}{h:Heap}{b:Addr}{o:Obj}(hb:b ∈ fp)(e:h.get? b=some o):(b,o) ∈ dv fp h:=List.mem_filterMap.mpr ⟨b,hb,by rw[e];rfl⟩
theorem iO {fp:List Addr}{h:Heap}{p:Addr × Obj}(hp:p ∈ dv fp h):p.1 ∈ fp/\h.get? p.1=some p.2:=by
 obtain⟨b,hb,e⟩:=List.mem_filterMap.mp hp
 cases q:h.get? b with
 | none=>rw[q]at e;cases e
 | some o =>
  rw[q]at e
  have e':(b,o)=p:=Option.some.inj e
  subst e'
  exact⟨hb,q⟩
theorem Inv.pinned {pins:List (Addr × Obj)}{σ:St}{H:Hp}{s:Shared}{fp:List Addr}(I:Inv X pins σ H s)(hf:∀ b ∈ fp,eB X pins H b)(ho:∀ b ∈ fp,∃ o,s.heap.get? b=some o/\∀ v,o.data ≠ .cell v):Inv X (pins ++ dv fp s.heap) σ H s :=
 I.w8 fun p hp=>(mem_append.mp hp).elim (fun z=>I.pin p (mem_append_right _ z)) fun z=>by
  obtain⟨hb,e⟩:=iO z
  obtain⟨f0,f1,f2,_⟩:=hf p.1 hb
  obtain⟨o,e',d⟩:=ho p.1 hb
  rw[e]at e';cases e'
  exact⟨e,f0,f1,f2,d⟩
theorem Inv.wJ {pins pl:List (Addr × Obj)}{σ:St}{H:Hp}{s:Shared}(I:Inv X (pins ++ pl) σ H s):Inv X pins σ H s:=I.w8 fun p hp=>I.pin p (mem_append_right _ (mem_append_left _ hp))
theorem dR {iter:Expr}{body:List Stmt}{wi:TI}{g:TG}{tb:TS}{pos:Pos}(hp:PassesOwn (model X.prog X.w) X.A X.env X.xe)(hc:X.calm=true)(hi:PI X tg iter wi)(hg:PG X tg g)(hb:xI X body tb)
  (hs:∀ x,foldedSetIterable iter X.env x=pure x:=by intro _;rfl):PS X (.For tg iter body [] pos) (HW wi g tb):=by
 intro pins s σ H D I h
 refine wpAny_For (aN (hi pins s σ H _ I h) fun v s1 h1=>aN h1 fun FZ s2 h2=>?_) hs
 obtain⟨it,fp,tn,J,H2,e,I2,T,C7,f2,W,⟨m0,w0⟩,turn⟩:=h2
 subst e
 have stat:∀ {H':Hp},(∀ b ∈ fp,H' b=none)->∀ b ∈ fp,eB X pins H' b:=fun hn b hb=>⟨hn b hb,(f2 b hb).2⟩
 refine codeAny_forLoop_any (fun n s'=>∃ i σ' H',Inv X pins σ' H' s'/\tn i s'.heap/\(∀ b ∈ fp,H' b=none)/\W i n σ' H') ?_ m0 ⟨0,σ,H2,I2,C7,fun b hb=>(f2 b hb).1,w0⟩
 rintro n s3 ⟨i,σ3,H3,I3,Mp,Mq,w3⟩
 rcases turn i n σ3 H3 w3 with ⟨stop,qn⟩ | ⟨go,N,hN,step⟩
 ·refine wpAny_passesOwn hp (aN (T.done X rfl rfl rfl hc i pins s3 σ3 H3 X.xe I3 (stat Mq) Mp stop) fun r s4 v9=>?_)
  obtain⟨hr,I4⟩:=v9
  subst hr
  exact wpAny_execs_nil ⟨σ3,H3,I4,qn⟩
 ·refine wpAny_passesOwn hp (aN (T.item X rfl rfl rfl hc i pins s3 σ3 H3 X.xe I3 (stat Mq) Mp go) fun r s4 v9=>?_)
  obtain⟨u,hr,h4⟩:=v9
  subst hr
  refine wpAny_passesOwn hp (aN h4 fun _ s5 v9=>?_)
  obtain⟨x,H5,I5,r5,y5,BQ,Gd⟩:=v9
  have I5':=I5.pinned (stat Gd) (T.obj _ _ BQ)
  refine wpAny_passesOwn hp (aN (hg _ s5 σ3 H5 x u _ I5' r5 (step x H5 y5)) fun _ s6 v9=>?_)
  obtain⟨σ6,H6,I6,q6⟩:=v9
  refine wpAny_passesOwn hp (aN (hb _ s6 σ6 H6 _ I6 q6) fun f s7 q7=>?_)
  have again:∀ {σ7:St}{H7:Hp},Inv X (pins ++ dv fp s5.heap) σ7 H7 s7->N σ7 H7->∃ m,m < n/\∃ i σ' H',Inv X pins σ' H' s7/\tn i s7.heap/\(∀ b ∈ fp,H' b=none)/\W i m σ' H':=fun {σ7 H7} I7 n7=>by
   obtain⟨m',hm,w7⟩:=hN σ7 H7 n7
   refine⟨m',hm,i + 1,σ7,H7,I7.wJ,T.keep _ _ _ BQ fun b hb o e=>(I7.pin (b,o) (mem_append_right _ (mem_append_right _ (dB hb e)))).1,fun b hb=>?_,w7⟩
   obtain⟨o,e,d⟩:=T.obj _ _ BQ b hb
   exact(I7.pin (b,o) (mem_append_right _ (mem_append_right _ (dB hb e)))).2.1
  cases f with
  | next=>obtain⟨σ7,H7,I7,n7⟩:=q7;exact again I7 n7
  | cont=>obtain⟨σ7,H7,I7,n7⟩:=q7;exact again I7 n7
  | brk=>obtain⟨σ7,H7,I7,q7⟩:=q7;exact⟨σ7,H7,I7.wJ,q7⟩
  | ret v=>obtain⟨x7,σ7,H7,I7,r7,q7⟩:=q7;exact⟨x7,σ7,H7,I7.wJ,r7,q7⟩
end
theorem ip {K:Frag}{a:Addr}{xs:List V}{g:TG}{tb:TS}{D:eC}{σ:St}{H:Hp}(Pv:Nat->St->Hp->Prop)(h0:Pv 0 σ H)(hl:∀ i σ H,i <= xs.length->Pv i σ H->vG K H a xs)
  (hs:∀ i x σ H,xs[i]? = some x->Pv i σ H->g x σ H fun σ2 H2=>tb { D with nx:=Pv (i + 1),ct:=Pv (i + 1),bk:=D.nx } σ2 H2) (hd:∀ σ H,Pv xs.length σ H->D.nx σ H) :
  ∃ W:Nat->Nat->St->Hp->Prop,(∃ m,W 0 m σ H)/\∀ i m σ H,W i m σ H ->
   ((sL K a).stop i H/\D.nx σ H)∨((sL K a).go i H/\∃ N:St->Hp->Prop,(∀ σ' H',N σ' H'->∃ m',m' < m/\W (i + 1) m' σ' H')/\∀ x H',(sL K a).zy i H x H'->g x σ H' fun σ2 H2=>tb { D with nx:=N,ct:=N,bk:=D.nx } σ2 H2):=by
 refine⟨fun i m σ H=>m=xs.length - i/\i <= xs.length/\Pv i σ H,⟨xs.length,by simp,zero_le _,h0⟩,?_⟩
 rintro i m σ H ⟨rfl,hi,p⟩
 have q:=hl i σ H hi p
 by_cases wA:i < xs.length
 ·refine .inr ⟨⟨xs,xs[i],q,by simp[wA]⟩,Pv (i + 1),fun σ' H' p'=>⟨xs.length - (i + 1),by omega,rfl,wA,p'⟩,fun x H' y=>?_⟩
  obtain⟨e,y⟩:=y
  subst e
  exact hs i x σ _ (y xs q) p
 ·have e:i=xs.length:=by omega
  subst e
  exact .inl ⟨⟨xs,q,le_refl _⟩,hd σ H p⟩
theorem iU {lo:Int}{n:Nat}{g:TG}{tb:TS}{D:eC}{σ:St}{H:Hp}(Pv:Nat->St->Hp->Prop)(h0:Pv 0 σ H)
  (hs:∀ i σ H,i < n->Pv i σ H->g (.int (lo + i)) σ H fun σ2 H2=>tb { D with nx:=Pv (i + 1),ct:=Pv (i + 1),bk:=D.nx } σ2 H2) (hd:∀ σ H,Pv n σ H->D.nx σ H) :
  ∃ W:Nat->Nat->St->Hp->Prop,(∃ m,W 0 m σ H)/\∀ i m σ H,W i m σ H ->
   ((tD lo n).stop i H/\D.nx σ H)∨((tD lo n).go i H/\∃ N:St->Hp->Prop,(∀ σ' H',N σ' H'->∃ m',m' < m/\W (i + 1) m' σ' H')/\∀ x H',(tD lo n).zy i H x H'->g x σ H' fun σ2 H2=>tb { D with nx:=N,ct:=N,bk:=D.nx } σ2 H2):=by
 refine⟨fun i m σ H=>m=n - i/\i <= n/\Pv i σ H,⟨n,by simp,zero_le _,h0⟩,?_⟩
 rintro i m σ H ⟨rfl,hi,p⟩
 by_cases wA:i < n
 ·refine .inr ⟨wA,Pv (i + 1),fun σ' H' p'=>⟨n - (i + 1),by omega,rfl,wA,p'⟩,fun x H' y=>?_⟩
  obtain⟨e,y⟩:=y
  subst e y
  exact hs i σ _ wA p
 ·have e:i=n:=by omega
  subst e
  exact .inl ⟨le_refl _,hd σ H p⟩
end L2
namespace L2
open PySem PySem.Spec PyProof.Rows
abbrev R2:=V->V->Hp->VK->Prop
noncomputable def eG (X:Cx)(f:Value->Value->Sem Value)(r:R2):Prop :=
 ∀ (pins:List (Addr × Obj))(s:Shared)(σ:St)(H:Hp)(x y:V)(v u:Value)(Q:VK),Inv X pins σ H s->RelV x v->RelV y u->r x y H Q ->
  wpAny (model X.prog X.w) X.A (f v u) (EP X pins σ Q) X.xe s
noncomputable def HX (X:Cx)(f:Value->Sem Value)(r:V->Hp->VK->Prop):Prop :=
 ∀ (pins:List (Addr × Obj))(s:Shared)(σ:St)(H:Hp)(x:V)(v:Value)(Q:VK),Inv X pins σ H s->RelV x v->r x H Q ->
  wpAny (model X.prog X.w) X.A (f v) (EP X pins σ Q) X.xe s
noncomputable def cp (X:Cx)(f:Value)(r:List V->Hp->VK->Prop):Prop :=
 ∀ (pins:List (Addr × Obj))(s:Shared)(σ:St)(H:Hp)(xs:List V)(us:List Value)(Q:VK),Inv X pins σ H s->Vals xs us->r xs H Q ->
  wpAny (model X.prog X.w) X.A (call f us) (EP X pins σ Q) X.xe s
noncomputable def HY (X:Cx)(r:V->Hp->(Bool->Hp->Prop)->Prop):Prop :=
 ∀ (pins:List (Addr × Obj))(s:Shared)(σ:St)(H:Hp)(x:V)(v:Value)(Q:Bool->Hp->Prop),Inv X pins σ H s->RelV x v->r x H Q ->
  wpAny (model X.prog X.w) X.A (truthy v) (TP X pins σ Q) X.xe s
noncomputable def C8 (r:R2)(ta tb:TE):TE:=fun σ H Q=>ta σ H fun x H1=>tb σ H1 fun y H2=>r x y H2 Q
noncomputable def tUn (r:V->Hp->VK->Prop)(ta:TE):TE:=fun σ H Q=>ta σ H fun x H1=>r x H1 Q
noncomputable def rI (C:Int->Int->Prop)(g:Int->Int->V):R2:=fun x y H Q=>∃ i j,x = .int i/\y = .int j/\C i j/\Q (g i j) H
noncomputable def rj (g:Int->Int->V):R2:=fun x y H Q=>∃ i j,x = .int i/\y = .int j/\Q (g i j) H
noncomputable def rU (g:Int->V):V->Hp->VK->Prop:=fun x H Q=>∃ i,x = .int i/\Q (g i) H
section
variable {X:Cx}{a b c:Expr}{ta tb tc:TE}{pos:Pos}
theorem vm (ha:PE X a ta)(hb:PE X b tb){pins:List (Addr × Obj)}{s:Shared}{σ:St}{H:Hp}{R:V->V->Hp->Prop}(I:Inv X pins σ H s)
  (h:ta σ H fun x H1=>tb σ H1 fun y H2=>R x y H2) {Q:Value->Shared->Prop} {f:Value->Value->Sem Value}
  (hf:∀ v u s2 x y H2,Inv X pins σ H2 s2->RelV x v->RelV y u->R x y H2->wpAny (model X.prog X.w) X.A (f v u) Q X.xe s2) :
  wpAny (model X.prog X.w) X.A (eval a X.env) (fun v s₁=>wpAny (model X.prog X.w) X.A (eval b X.env) (fun u s₂=>wpAny (model X.prog X.w) X.A (f v u) Q X.xe s₂) X.xe s₁) X.xe s:=by
 refine aN (ha pins s σ H _ I h) fun v s1 v9=>?_
 obtain⟨x,H1,I1,r1,q1⟩:=v9
 refine aN (hb pins s1 σ H1 _ I1 q1) fun u s2 v9=>?_
 obtain⟨y,H2,I2,r2,q2⟩:=v9
 exact hf v u s2 x y H2 I2 r1 r2 q2
theorem au {op:Operator}{r:R2}(ho:eG X (binaryOp op) r)(ha:PE X a ta)(hb:PE X b tb):PE X (.BinOp a op b pos) (C8 r ta tb):=by
 intro pins s σ H Q I h
 exact wpAny_BinOp (vm ha hb I h fun v u s2 x y H2 I2 rx ry q=>ho pins s2 σ H2 x y v u Q I2 rx ry q)
theorem C9 {op:UnaryOp}{r:V->Hp->VK->Prop}(ho:HX X (unaryOp op) r)(ha:PE X a ta):PE X (.UnaryOp op a pos) (tUn r ta):=by
 intro pins s σ H Q I h
 exact UnaryOp_ (aN (ha pins s σ H _ I h) fun v s1 v9=>by obtain⟨x,H1,I1,r1,q1⟩:=v9;exact ho pins s1 σ H1 x v Q I1 r1 q1)
theorem Gg {f:Value->Value->Sem Value}{C:Int->Int->Prop}{g:Int->Int->Int}
  (rule:∀ (i j:Int)(t u:Tok)(s:Shared)(Q:Value->Shared->Prop)(E:Value->Shared->Prop),C i j->Q (.int (g i j) s.toks) { s with toks:=s.toks + 1 }->wpAny (model X.prog X.w) X.A (f (.int i t) (.int j u)) Q E s) :
  eG X f (rI C fun i j => .int (g i j)):=by
 intro pins s σ H x y v u Q I rx ry h
 obtain⟨i,j,rfl,rfl,hc,q⟩:=h
 obtain⟨t,rfl⟩:=rx
 obtain⟨t',rfl⟩:=ry
 exact rule i j t t' s _ _ hc ⟨.int (g i j),H,I.tok _,⟨_,rfl⟩,q⟩
theorem u8 {f:Value->Value->Sem Value}{g:Int->Int->Int}
  (rule:∀ (i j:Int)(t u:Tok)(s:Shared)(Q:Value->Shared->Prop)(E:Value->Shared->Prop),Q (.int (g i j) s.toks) { s with toks:=s.toks + 1 }->wpAny (model X.prog X.w) X.A (f (.int i t) (.int j u)) Q E s) :
  eG X f (rj fun i j => .int (g i j)):=by
 intro pins s σ H x y v u Q I rx ry h
 obtain⟨i,j,rfl,rfl,q⟩:=h
 obtain⟨t,rfl⟩:=rx
 obtain⟨t',rfl⟩:=ry
 exact rule i j t t' s _ _ ⟨.int (g i j),H,I.tok _,⟨_,rfl⟩,q⟩
theorem rC {f:Value->Value->Sem Value}{g:Int->Int->Bool}
  (rule:∀ (i j:Int)(t u:Tok)(s:Shared)(Q:Value->Shared->Prop)(E:Value->Shared->Prop),Q (.bool (g i j)) s->wpAny (model X.prog X.w) X.A (f (.int i t) (.int j u)) Q E s) :
  eG X f (rj fun i j => .bl (g i j)):=by
 intro pins s σ H x y v u Q I rx ry h
 obtain⟨i,j,rfl,rfl,q⟩:=h
 obtain⟨t,rfl⟩:=rx
 obtain⟨t',rfl⟩:=ry
 exact rule i j t t' s _ _ ⟨.bl (g i j),H,I,rfl,q⟩
noncomputable def sO (i j:Int):Prop:=0 <= j/\j <= 1000000/\i.natAbs < 2 ^ 64
noncomputable def Bb (i j:Int):Prop:=(-(2 ^ 64) < i/\i < 2 ^ 64)∨(-(2 ^ 64) < j/\j < 2 ^ 64)
theorem Bb.ok {i j:Int}(h:Bb i j):IntMulOk i j:=by
 rcases h with ⟨h1,h2⟩ | ⟨h1,h2⟩
 ·exact .of_left (intBits_le_64 h1 h2)
 ·exact .of_right (intBits_le_64 h1 h2)
theorem bS:eG X (binaryOp .Add) (rj fun i j => .int (i + j)):=u8 fun _ _ _ _ _ _ _ q=>add_int q
theorem dU:eG X (binaryOp .Sub) (rj fun i j => .int (i - j)):=u8 fun _ _ _ _ _ _ _ q=>sub_int q
theorem pM:eG X (binaryOp .Mult) (rI Bb fun i j => .int (i * j)):=Gg fun _ _ _ _ _ _ _ hc q=>mul_int q hc.ok
theorem bg:eG X (binaryOp .Mod) (rI (fun _ j=>0 < j) fun i j => .int (i % j)):=Gg fun i j _ _ _ _ _ hc q=>by
 have h1:(0:Int) < j:=hc
 exact mod_int' (by omega) (by rw[Int.fmod_eq_emod_of_nonneg i (by omega)];exact q)
theorem cy:eG X (binaryOp .Pow) (rI sO fun i j => .int (i ^ j.toNat)):=Gg fun _ _ _ _ _ _ _ hc q=>pow_int_small hc.1 hc.2.1 hc.2.2 q
theorem u7:eG X (binaryOp .LShift) (rI sO fun i j => .int (i * 2 ^ j.toNat)):=Gg fun _ _ _ _ _ _ _ hc q=>lshift_int_small hc.1 hc.2.1 hc.2.2 q
theorem CA:eG X (binaryOp .BitOr) (rj fun i j => .int (Builtin.bitOr i j)):=u8 fun _ _ _ _ _ _ _ q=>or_int q
theorem unI {f:Value->Sem Value}{g:Int->Int}
  (rule:∀ (i:Int)(t:Tok)(s:Shared)(Q:Value->Shared->Prop)(E:Value->Shared->Prop),Q (.int (g i) s.toks) { s with toks:=s.toks + 1 }->wpAny (model X.prog X.w) X.A (f (.int i t)) Q E s) :
  HX X f (rU fun i => .int (g i)):=by
 intro pins s σ H x v Q I rx h
 obtain⟨i,rfl,q⟩:=h
 obtain⟨t,rfl⟩:=rx
 exact rule i t s _ _ ⟨.int (g i),H,I.tok _,⟨_,rfl⟩,q⟩
theorem tI:HX X (unaryOp .USub) (rU fun i => .int (-i)):=unI fun _ _ _ _ _ q=>neg_int q
end
noncomputable def CB:V->V->Bool
 | .vJ, .vJ=>true | .vJ, .int _=>true | .int _, .vJ=>true | .vJ, .bl _=>true | .bl _, .vJ=>true | .vJ, .str _=>true | .str _, .vJ=>true
 | .int _, .int _=>true | .bl _, .bl _=>true | .str _, .str _=>true | .y0 _, .y0 _=>true
 | .int _, .str _=>true | .str _, .int _=>true | .bl _, .str _=>true | .str _, .bl _=>true
 | _,_=>false
noncomputable def Ms:R2:=fun x y H Q=>CB x y=true/\Q (.bl (decide (x=y))) H
noncomputable def rNe:R2:=fun x y H Q=>CB x y=true/\Q (.bl (!decide (x=y))) H
theorem n0 {i j:Int}:decide (V.int i=V.int j)=(i == j):=by
 rw[Bool.eq_iff_iff]
 simp
theorem qH {i j:Bool}:decide (V.bl i=V.bl j)=(i == j):=by
 rw[Bool.eq_iff_iff]
 simp
theorem nw {i j:Str}:decide (V.str i=V.str j)=(i == j):=by
 rw[Bool.eq_iff_iff]
 simp
theorem n8 {i j:Array UInt8}:decide (V.y0 i=V.y0 j)=(i.toList == j.toList):=by
 rw[Bool.eq_iff_iff]
 cases i
 cases j
 simp
section
variable {X:Cx}{a b c:Expr}{ta tb tc:TE}{pos:Pos}
theorem aG {pins:List (Addr × Obj)}{σ:St}{H:Hp}{s:Shared}{Q:VK}{k k':Bool}(I:Inv X pins σ H s)(q:Q (.bl k) H)(e:k=k'):EP X pins σ Q (.bool k') s:=by
 subst e
 exact⟨.bl k,H,I,rfl,q⟩
theorem aL:eG X (compareOp .Eq) Ms:=by
 intro pins s σ H x y v u Q I rx ry h
 obtain⟨hs,q⟩:=h
 cases x with
 | vJ =>
  cases rx
  cases y with
  | vJ=>cases ry;exact PySem.EqNone.eq_none_none (aG I q (by simp))
  | bl j=>cases ry;exact PySem.EqNone.eq_none_bool (aG I q (by simp))
  | int j=>obtain⟨t',rfl⟩:=ry;exact PySem.EqNone.eq_none_int (aG I q (by simp))
  | str j=>obtain⟨t',rfl⟩:=ry;exact PySem.EqNone.eq_none_str (aG I q (by simp))
  | _=>exact absurd (show false=true from hs) Bool.false_ne_true
 | bl i =>
  cases rx
  cases y with
  | vJ=>cases ry;exact PySem.EqNone.eq_bool_none (aG I q (by simp))
  | bl j=>cases ry;exact eq_bool (aG I q qH)
  | str j=>obtain⟨t',rfl⟩:=ry;exact PySem.EqMixed.eq_bool_str (aG I q (by simp))
  | _=>exact absurd (show false=true from hs) Bool.false_ne_true
 | int i =>
  obtain⟨t,rfl⟩:=rx
  cases y with
  | vJ=>cases ry;exact PySem.EqNone.eq_int_none (aG I q (by simp))
  | int j=>obtain⟨t',rfl⟩:=ry;exact eq_int (aG I q n0)
  | str j=>obtain⟨t',rfl⟩:=ry;exact PySem.EqMixed.eq_int_str (aG I q (by simp))
  | _=>exact absurd (show false=true from hs) Bool.false_ne_true
 | str i =>
  obtain⟨t,rfl⟩:=rx
  cases y with
  | vJ=>cases ry;exact PySem.EqNone.eq_str_none (aG I q (by simp))
  | bl j=>cases ry;exact PySem.EqMixed.eq_str_bool (aG I q (by simp))
  | int j=>obtain⟨t',rfl⟩:=ry;exact PySem.EqMixed.eq_str_int (aG I q (by simp))
  | str j=>obtain⟨t',rfl⟩:=ry;exact eq_str (aG I q nw)
  | _=>exact absurd (show false=true from hs) Bool.false_ne_true
 | y0 i =>
  obtain⟨t,rfl⟩:=rx
  cases y with
  | y0 j=>obtain⟨t',rfl⟩:=ry;exact PySem.W.eq_bytes (aG I q n8)
  | _=>exact absurd (show false=true from hs) Bool.false_ne_true
 | _=>cases y<;>exact absurd (show false=true from hs) Bool.false_ne_true
theorem pL:eG X (compareOp .NotEq) rNe:=by
 intro pins s σ H x y v u Q I rx ry h
 obtain⟨hs,q⟩:=h
 cases x with
 | vJ =>
  cases rx
  cases y with
  | vJ=>cases ry;exact PySem.EqNone.ne_none_none (aG I q (by simp))
  | bl j=>cases ry;exact PySem.EqNone.ne_none_bool (aG I q (by simp))
  | int j=>obtain⟨t',rfl⟩:=ry;exact PySem.EqNone.ne_none_int (aG I q (by simp))
  | str j=>obtain⟨t',rfl⟩:=ry;exact PySem.EqNone.ne_none_str (aG I q (by simp))
  | _=>exact absurd (show false=true from hs) Bool.false_ne_true
 | bl i =>
  cases rx
  cases y with
  | vJ=>cases ry;exact PySem.EqNone.ne_bool_none (aG I q (by simp))
  | bl j=>cases ry;exact ne_bool (aG I q (congrArg not qH))
  | str j=>obtain⟨t',rfl⟩:=ry;exact PySem.EqMixed.ne_bool_str (aG I q (by simp))
  | _=>exact absurd (show false=true from hs) Bool.false_ne_true
 | int i =>
  obtain⟨t,rfl⟩:=rx
  cases y with
  | vJ=>cases ry;exact PySem.EqNone.ne_int_none (aG I q (by simp))
  | int j=>obtain⟨t',rfl⟩:=ry;exact ne_int (aG I q (congrArg not n0))
  | str j=>obtain⟨t',rfl⟩:=ry;exact PySem.EqMixed.ne_int_str (aG I q (by simp))
  | _=>exact absurd (show false=true from hs) Bool.false_ne_true
 | str i =>
  obtain⟨t,rfl⟩:=rx
  cases y with
  | vJ=>cases ry;exact PySem.EqNone.ne_str_none (aG I q (by simp))
  | bl j=>cases ry;exact PySem.EqMixed.ne_str_bool (aG I q (by simp))
  | int j=>obtain⟨t',rfl⟩:=ry;exact PySem.EqMixed.ne_str_int (aG I q (by simp))
  | str j=>obtain⟨t',rfl⟩:=ry;exact ne_str (aG I q (congrArg not nw))
  | _=>exact absurd (show false=true from hs) Bool.false_ne_true
 | y0 i =>
  obtain⟨t,rfl⟩:=rx
  cases y with
  | y0 j=>obtain⟨t',rfl⟩:=ry;exact PySem.W.ne_bytes (aG I q (congrArg not n8))
  | _=>exact absurd (show false=true from hs) Bool.false_ne_true
 | _=>cases y<;>exact absurd (show false=true from hs) Bool.false_ne_true
theorem kx:eG X (compareOp .Lt) (rj fun i j => .bl (decide (i < j))):=rC fun _ _ _ _ _ _ _ q=>lt_int q
theorem mU:eG X (compareOp .LtE) (rj fun i j => .bl (decide (i <= j))):=rC fun _ _ _ _ _ _ _ q=>le_int q
theorem tq:eG X (compareOp .Gt) (rj fun i j => .bl (decide (j < i))):=rC fun _ _ _ _ _ _ _ q=>gt_int q
theorem tu:eG X (compareOp .GtE) (rj fun i j => .bl (decide (j <= i))):=rC fun _ _ _ _ _ _ _ q=>ge_int q
theorem nX:eG X (compareOp .In) (fun x y H Q=>∃ i j,x = .str i/\y = .str j/\Q (.bl (!(Builtin.Str.occurrences j i 0 j.length 1).isEmpty)) H):=by
 intro pins s σ H x y v u Q I rx ry h
 obtain⟨i,j,rfl,rfl,q⟩:=h
 obtain⟨t,rfl⟩:=rx
 obtain⟨t',rfl⟩:=ry
 exact in_str (aG I q rfl)
theorem lL:eG X (compareOp .Is) (fun x y H Q=>y = .vJ/\Q (.bl (decide (x = .vJ))) H):=by
 intro pins s σ H x y v u Q I rx ry h
 obtain⟨rfl,q⟩:=h
 cases ry
 refine is_none_gen (aG I q ?_)
 cases x<;>first
  | (cases rx;rfl)
  | (obtain⟨t,rfl⟩:=rx;rfl)
theorem rB:eG X (compareOp .IsNot) (fun x y H Q=>y = .vJ/\Q (.bl (!decide (x = .vJ))) H):=by
 intro pins s σ H x y v u Q I rx ry h
 obtain⟨rfl,q⟩:=h
 cases ry
 refine isnot_none_gen (aG I q ?_)
 cases x<;>first
  | (cases rx;rfl)
  | (obtain⟨t,rfl⟩:=rx;rfl)
theorem ap (b:Expr){op:CmpOp}(h:op ≠ .In:=by decide)(h2:op ≠ .NotIn:=by decide):behindInMarks op b=false:=by
 have e1:(op == CmpOp.In)=false:=by cases op<;>first | rfl | exact absurd rfl h
 have e2:(op == CmpOp.NotIn)=false:=by cases op<;>first | rfl | exact absurd rfl h2
 cases b<;>simp[behindInMarks,e1,e2]
theorem bH {op:CmpOp}{r:R2}(ho:eG X (compareOp op) r)(ha:PE X a ta)(hb:PE X b tb)(hm:behindInMarks op b=false):PE X (.Compare a [op] [b] pos) (C8 r ta tb):=by
 intro pins s σ H Q I h
 exact wpAny_Compare1 (vm ha hb I h fun v u s2 x y H2 I2 rx ry q=>ho pins s2 σ H2 x y v u Q I2 rx ry q) hm
noncomputable def sR (t:TE):TT:=fun σ H Q=>t σ H fun x H'=>∃ k,x = .bl k/\Q k H'
theorem ao {op:CmpOp}{r:R2}(ho:eG X (compareOp op) r)(ha:PE X a ta)(hb:PE X b tb)(hm:behindInMarks op b=false):PT X (.Compare a [op] [b] pos) (sR (C8 r ta tb)):=by
 intro pins s σ H Q I h
 refine wpAny_isTrue_Compare1 (aN (ha pins s σ H _ I h) fun v s1 ⟨x,H1,I1,r1,q1⟩=>aN (hb pins s1 σ H1 _ I1 q1) fun u s2 ⟨y,H2,I2,r2,q2⟩ =>
  aN (ho pins s2 σ H2 x y v u _ I2 r1 r2 q2) fun c s3 ⟨z,H3,I3,r3,k,e,q3⟩=>?_) hm
 subst e
 cases r3
 exact wpAny_truthy_bool ⟨H3,I3,q3⟩
noncomputable def tX (r r':R2)(ta tb tc:TE):TE:=fun σ H Q=>ta σ H fun x H1=>tb σ H1 fun y H2=>r x y H2 fun z H3=>∃ k,z = .bl k /\
 (if k=true then tc σ H3 fun w' H4=>r' y w' H4 Q else Q (.bl false) H3)
theorem kn {op HZ:CmpOp}{r r':R2}(ho:eG X (compareOp op) r)(zJ:eG X (compareOp HZ) r')(ha:PE X a ta)(hb:PE X b tb)(hc:PE X c tc)
  (hm:lastMarks [op,HZ] [b,c]=false:=by with_unfolding_all rfl):PE X (.Compare a [op,HZ] [b,c] pos) (tX r r' ta tb tc):=by
 intro pins s σ H Q I h
 refine Compare_chain (aN (ha pins s σ H _ I h) fun v s1 ⟨x,H1,I1,r1,q1⟩=>chain_link (aN (hb pins s1 σ H1 _ I1 q1) fun u s2 ⟨y,H2,I2,r2,q2⟩ =>
  aN (ho pins s2 σ H2 x y v u _ I2 r1 r2 q2) fun d s3 ⟨z,H3,I3,r3,k,e,q3⟩=>?_)) hm
 subst e
 cases r3
 refine wpAny_truthy_bool ?_
 cases k with
 | false=>exact ite_ff ⟨.bl false,H3,I3,rfl,q3⟩
 | true=>exact ite_tt (chain_last (aN (hc pins s3 σ H3 _ I3 q3) fun w' s4 v9=>by obtain⟨z',H4,I4,r4,q4⟩:=v9;exact zJ pins s4 σ H4 y z' u w' Q I4 r2 r4 q4))
noncomputable def CC (K:Frag)(x:V)(H:Hp)(k:Bool):Prop :=
 match x with
 | .vJ=>k=false
 | .bl b=>k=b
 | .int i=>k=(i != 0)
 | .str y=>y.length <= sizeLine/\k=((y.length:Int) != 0)
 | .y0 y=>y.size <= sizeLine/\k=((y.size:Int) != 0)
 | .ref p=>(∃ xs,vG K H p xs/\k = !xs.isEmpty)∨(∃ xs,vO K H p xs/\k = !xs.isEmpty)∨∃ kvs,H p=some (.dK kvs)/\k = !kvs.isEmpty
 | _=>False
theorem lX {κ:Type} {kvs:List (κ × V)} {vs:List (κ × Value)} (r:KV kvs vs):(!vs.isEmpty) = !kvs.isEmpty:=by
 cases r<;>rfl
theorem ij {xs:List V}{vA:List Value}(r:Vals xs vA):(!vA.toArray.isEmpty) = !xs.isEmpty:=by
 cases r<;>simp
theorem ia:(sizeLine:Nat) < 2 ^ 63:=by rw[sizeLine_eq];decide
theorem tK:HY X (fun x H Q=>∃ k,CC X.K x H k/\Q k H):=by
 intro pins s σ H x v Q I rx h
 obtain⟨k,e,q⟩:=h
 have hl:=ia
 have hs:sizeLine=16777216:=sizeLine_eq
 cases x with
 | vJ =>
  cases rx
  have e':k=false:=e
  subst e'
  exact truthy_none ⟨H,I,q⟩
 | bl b =>
  cases rx
  have e':k=b:=e
  subst e'
  exact wpAny_truthy_bool ⟨H,I,q⟩
 | int i =>
  obtain⟨t,rfl⟩:=rx
  have e':k=(i != 0):=e
  subst e'
  exact PySem.P.truthy_int ⟨H,I,q⟩
 | str y =>
  obtain⟨t,rfl⟩:=rx
  obtain⟨hy,e'⟩:y.length <= sizeLine/\k=((y.length:Int) != 0):=e
  subst e'
  exact PySem.P.truthy_str (by omega) ⟨H,I.tok _,q⟩
 | y0 y =>
  obtain⟨t,rfl⟩:=rx
  obtain⟨hy,e'⟩:y.size <= sizeLine/\k=((y.size:Int) != 0):=e
  subst e'
  exact PySem.W.truthy_bytes (by omega) ⟨H,I.tok _,q⟩
 | ref p =>
  cases rx
  have e':(∃ xs,vG X.K H p xs/\k = !xs.isEmpty)∨(∃ xs,vO X.K H p xs/\k = !xs.isEmpty)∨∃ kvs,H p=some (.dK kvs)/\k = !kvs.isEmpty:=e
  rcases e' with ⟨xs,hx,e'⟩ | ⟨xs,hx,e'⟩ | ⟨kvs,hx,e'⟩
  ·subst e'
   obtain⟨vA,r,pl,hz⟩:=I.list hx
   have hlen:=r.length
   exact wpAny_truthy_list pl.isList (by simp only[size_toArray];omega) ⟨H,I.tok _,by rw[ij r];exact q⟩
  ·subst e'
   obtain⟨vA,r,pl,hz⟩:=I.tuple hx
   have hlen:=r.length
   exact truthy_tuple pl (by simp only[size_toArray];omega) ⟨H,I.tok _,by rw[ij r];exact q⟩
  ·subst e'
   obtain⟨hz,hS,vs,r,m⟩:kvs.length <= sizeLine/\(p == sysModules)=false/\∃ vs,KV kvs vs/\s.heap.DictOf (bc X.prog X.w) p vs:=I.vD p _ hx
   have hlen:kvs.length=vs.length:=Paired.length r
   exact wpAny_truthy_dict hS m (by omega) ⟨H,I.tok _,by rw[lX r];exact q⟩
 | _=>exact(show False from e).elim
theorem gT (ha:PE X a ta)(he:∀ whole,isTrue a X.env whole=(do let v ← whole;standAt a.pos;holding [v] (truthy v))) :
  PT X a (fun σ H Q=>ta σ H fun x H'=>∃ k,CC X.K x H' k/\Q k H'):=by
 intro pins s σ H Q I h
 exact isTrue_plain (aN (ha pins s σ H _ I h) fun v s1 v9=>by obtain⟨x,H1,I1,r1,q1⟩:=v9;exact tK pins s1 σ H1 x v Q I1 r1 q1) (he _)
theorem gX:eG X (binaryOp .Add) (fun x y H Q=>∃ i j,x = .str i/\y = .str j/\i.length + j.length <= sizeLine/\Q (.str (i ++ j)) H):=by
 intro pins s σ H x y v u Q I rx ry h
 obtain⟨i,j,rfl,rfl,hz,q⟩:=h
 obtain⟨t,rfl⟩:=rx
 obtain⟨t',rfl⟩:=ry
 exact add_str (fun t' tk=>⟨.str (i ++ j),H,I.tok _,⟨_,rfl⟩,q⟩) hz
theorem gG {x:V}{us:List Value}(r:Vals [x] us):∃ u,us=[u]/\RelV x u:=by
 cases r with
 | cons r1 r2=>cases r2;exact⟨_,rfl,r1⟩
theorem qL:cp X (.builtin "abs") (fun xs H Q=>∃ i,xs=[.int i]/\Q (.int (if i < 0 then -i else i)) H):=by
 intro pins s σ H xs us Q I r h
 obtain⟨i,rfl,q⟩:=h
 obtain⟨u,rfl,t,rfl⟩:=gG r
 exact call_abs_int fun u tk=>⟨.int (if i < 0 then -i else i),H,I.tok _,⟨_,rfl⟩,q⟩
theorem dF:cp X (.type "str") (fun xs H Q=>∃ i,xs=[.int i]/\i.natAbs.log2 < 1920/\Q (.str (toString i)) H):=by
 intro pins s σ H xs us Q I r h
 obtain⟨i,rfl,hz,q⟩:=h
 obtain⟨u,rfl,t,rfl⟩:=gG r
 exact PySem.P.str_of_int hz ⟨.str _,H,I.tok _,⟨_,rfl⟩,q⟩
end
end L2
namespace L2
open PySem PySem.Spec PyProof.Rows
structure yn (h:Heap)(x dx C:Addr)(mA:Str->Option Value):Prop where
 obj:h.get? x=some (PySem.W.instObj C dx)
 ns:h.Ns1 dx mA
 ne:dx ≠ x
theorem iQ {h:Heap}{dx:Addr}{mA:Str->Option Value}(n:h.Ns1 dx mA):∃ od,h.get? dx=some od/\∀ name,PySem.W.lookIn name od=some (mA name):=by
 obtain⟨o,es,ep,ho,hd,hk,_,hm⟩:=n
 refine⟨o,ho,fun name=>?_⟩
 have e:=hm name
 unfold nsFind findBy at e
 rw[← Array.find?_toList]at e
 unfold PySem.W.lookIn
 rw[hd]
 dsimp only
 split
 ·rename_i y q
  rw[q]at e
  exact congrArg some e
 ·rename_i q
  rw[q]at e
  have a:es.toList.any (·.refKey)=false:=by
   rw[List.any_eq_false]
   intro y hy
   obtain⟨z,t,Ia⟩:=hk y (Array.mem_toList_iff.mp hy)
   simp[DictEntry.refKey,Ia]
  have a':¬ es.toList.any (·.refKey)=true:=by rw[a];exact Bool.false_ne_true
  rw[if_neg a']
  exact congrArg some e
theorem yn.look {h:Heap}{x dx C:Addr}{mA:Str->Option Value}(I:yn h x dx C mA):∃ od,PySem.W.InstAt h x (PySem.W.instObj C dx) C (some od)/\∀ name,PySem.W.lookIn name od=some (mA name) :=
 let ⟨od,ho,hl⟩:=iQ I.ns
 ⟨od,⟨I.obj,rfl,rfl,ho⟩,hl⟩
section
variable {prog:Program}{w:World}{A:Around}{E:Value->Shared->Prop}{s:Shared}{K:Frag}{x dx C f:Addr}{mA:Str->Option Value}{name:Str}{v:Value}
theorem si {expr:Bool}{Q:Value->Shared->Prop}(X:K.In s.heap)(I:yn s.heap x dx C mA)(hg:plainGet K C name=true)(hh:hasDictIn K C=true)
  (ha:findIn K (.ref C) name=some none) (hv:mA name=some v) (zA:PySem.W.handedIn v=true) (h:Q v { s with toks:=s.toks + 1 }) :
  wpAny (model prog w) A (getAttr (.ref x) name expr) Q E s:=by
 obtain⟨od,J,hl⟩:=I.look
 exact PySem.W.get_value X J (PySem.W.plainGet_of hg).1 (PySem.W.findObj_own hh ha rfl (by rw[hl,hv])) zA h
theorem qw {pl:Sem Bool}{Q:Value × List Value->Shared->Prop}(X:K.In s.heap)(I:yn s.heap x dx C mA)(hg:plainGet K C name=true)
  (hf:findIn K (.ref C) name=some (some (.ref f))) (ht:isFn K (.ref f)=true) (hv:mA name=none) (h:Q (.ref f,[.ref x]) s) :
  wpAny (model prog w) A (getMethod (.ref x) name pl) Q E s:=by
 obtain⟨od,J,hl⟩:=I.look
 exact PySem.W.method_fn X J (PySem.W.plainGet_of hg).1 (PySem.W.plainGet_of hg).2 hf (beq_iff_eq.mp ht) (by show(PySem.W.lookIn name od).map (·.isSome)=some false;rw[hl,hv];rfl) h
theorem qX {ns:List Str}{Q:Unit->Shared->Prop}(X:K.In s.heap)(I:yn s.heap x dx C mA)
  (hs:findIn K (.ref C) "__setattr__" = some (some (.builtin "object.__setattr__"))) (hp:plainOver K C=true) (ht:PySem.W.takerIn K C name=some none) (hh:hasDictIn K C=true)
  (hw:PySem.Within mA ns) (hsz:ns.length <= sizeLine)
  (h:∀ h',yn h' x dx C (fun y=>if y=name then some v else mA y)->Heap.SameBut dx s.heap h'->Q () { s with heap:=h',toks:=s.toks + 2 }) :
  wpAny (model prog w) A (setAttr (.ref x) name v) Q E s:=by
 obtain⟨od,J,hl⟩:=I.look
 refine PySem.W.set_plain X J hs (PySem.W.osa_open (s:={ s with toks:=s.toks + 1 }) (r:=none) X J hp ht fun b=>?_)
 obtain⟨cd,hc,AZ⟩:=PySem.W.any_some hh
 have hx:s.heap.get? x=some ⟨.ref C,some dx, .plain,#[]⟩:=I.obj
 refine wpAny_bind (wpAny_pure (wpAny_bind (wpAny_bind (wpAny_loadPart hx (wpAny_bind (PySem.W.Looks.here (s:={ s with toks:=s.toks + 1 }) (PySem.W.looks_clsIn X hc) ?_))))))
 rw[AZ]
 refine wpAny_pure (a:=some dx) (wpAny_bind (wpAny_pure (wpAny_bind ?_)))
 refine wpAny_nsSet1 (s:={ s with toks:=s.toks + 1 }) I.ns fun h' Gh zB=>?_
 obtain⟨oD,Mu,Mv,CD,CF,yG⟩:=Gh.count (PySem.Within.cons name v hw)
 refine wpAny_bind (wpAny_lookBehind CD (by rw[CF];exact pastItsLine_dict (le_trans yG (by rw[length_cons];omega))) ?_)
 exact wpAny_pure (h _ ⟨(zB.2 _ (Ne.symm I.ne)).trans I.obj,Gh,I.ne⟩ zB)
theorem qp {R:Result->Shared->Prop}{vs:List Value}{kw:List (Str × Value)}(X:K.In s.heap)(hm:makesIn K C=true)
  (hi:findIn K (.ref C) "__init__" = some (some (.ref f))) (hf:PySem.W.typeIn K (.ref f)=some (.type "function"))
  (h:codeAny (model prog w) (A.under (.builtin "type.__call__" ⟨.ref C :: vs,kw⟩)) (.call (.ref f) ⟨.ref (s.heap.objs.size + 1) :: vs,kw⟩) (PySem.W.InitBack (s.heap.objs.size + 1) R)
   { s with heap:=(s.heap.push PySem.W.emptyDict).push (PySem.W.instObj C s.heap.objs.size) }) :
  codeAny (model prog w) A (.call (.ref C) ⟨vs,kw⟩) R s:=by
 obtain⟨hh,g,d,t,os⟩:=s
 exact PySem.W.make_core (PySem.W.makes_of X hm) (PySem.W.looks_findIn X hi) (fun self=>PySem.W.bind_fn X self hf) (.inl rfl) h
end
noncomputable def aQ (f:Str)(v:V):List (Str × V)->List (Str × V)
 | []=>[(f,v)]
 | (g,x) :: r=>if g=f then (g,v) :: r else (g,x) :: aQ f v r
theorem dX (f g:Str)(v:V):∀ fs:List (Str × V),(aQ f v fs).lookup g=if g=f then some v else fs.lookup g
 | []=>by
  show List.lookup g [(f,v)]=_
  by_cases h:g=f
  ·have hb:(g == f)=true:=beq_iff_eq.mpr h
   simp only[List.lookup,hb,if_pos h]
  ·have hb:(g == f)=false:=beq_eq_false_iff_ne.mpr h
   simp only[List.lookup,hb,if_neg h]
 | (k,x) :: r=>by
  have ih:=dX f g v r
  rw[show aQ f v ((k,x) :: r)=(if k=f then (k,v) :: r else (k,x) :: aQ f v r) from rfl]
  by_cases hk:k=f
  ·rw[if_pos hk]
   by_cases h:g=k
   ·have hb:(g == k)=true:=beq_iff_eq.mpr h
    simp only[List.lookup,hb,if_pos (h.trans hk)]
   ·have hb:(g == k)=false:=beq_eq_false_iff_ne.mpr h
    simp only[List.lookup,hb,if_neg (fun e:g=f=>h (e.trans hk.symm))]
  ·rw[if_neg hk]
   by_cases h:g=k
   ·have hb:(g == k)=true:=beq_iff_eq.mpr h
    simp only[List.lookup,hb,if_neg (fun e:g=f=>hk (h.symm.trans e))]
   ·have hb:(g == k)=false:=beq_eq_false_iff_ne.mpr h
    simp only[List.lookup,hb]
    exact ih
theorem fR (f:Str)(v:V):∀ fs:List (Str × V),f ∈ (aQ f v fs).map (·.1)/\∀ g,g ∈ fs.map (·.1)->g ∈ (aQ f v fs).map (·.1)
 | []=>⟨by simp[aQ],fun g h=>by simp at h⟩
 | (k,x) :: r=>by
  obtain⟨i1,i2⟩:=fR f v r
  rw[show aQ f v ((k,x) :: r)=(if k=f then (k,v) :: r else (k,x) :: aQ f v r) from rfl]
  by_cases hk:k=f
  ·rw[if_pos hk]
   subst hk
   exact⟨by simp,fun g h=>by simpa using h⟩
  ·rw[if_neg hk]
   refine⟨?_,fun g h=>?_⟩
   ·rw[map_cons]
    exact mem_cons_of_mem _ i1
   ·rw[map_cons]at h ⊢
    rcases mem_cons.mp h with e | e
    ·exact mem_cons.mpr (.inl e)
    ·exact mem_cons_of_mem _ (i2 g e)
theorem ge (f:Str)(v:V):∀ fs:List (Str × V),(aQ f v fs).length <= fs.length + 1
 | []=>by simp[aQ]
 | (k,x) :: r=>by
  have ih:=ge f v r
  rw[show aQ f v ((k,x) :: r)=(if k=f then (k,v) :: r else (k,x) :: aQ f v r) from rfl]
  by_cases hk:k=f
  ·rw[if_pos hk,length_cons,length_cons];omega
  ·rw[if_neg hk,length_cons,length_cons];omega
theorem wq.some_of {v:V}{o:Option Value}(r:wq (some v) o):∃ u,o=some u/\RelV v u:=by
 cases o with
 | none=>exact(show False from r).elim
 | some u=>exact⟨u,rfl,r⟩
theorem wq.none_of {o:Option Value}(r:wq none o):o=none:=by
 cases o with
 | none=>rfl
 | some u=>exact(show False from r).elim
theorem iT {v:V}{u:Value}(r:RelV v u):PySem.W.handedIn u=true:=by
 cases v with
 | vJ=>cases (show u=Value.none from r);rfl
 | bl b=>cases (show u=Value.bool b from r);rfl
 | int i=>obtain⟨t,e⟩:=(show ∃ t,u=Value.int i t from r);cases e;rfl
 | str x=>obtain⟨t,e⟩:=(show ∃ t,u=Value.str x t from r);cases e;rfl
 | y0 b=>obtain⟨t,e⟩:=(show ∃ t,u=Value.bytes b t from r);cases e;rfl
 | AW b=>obtain⟨t,e⟩:=(show ∃ t,u=Value.float b t from r);cases e;rfl
 | ref a=>cases (show u=Value.ref a from r);rfl
 | ty n=>cases (show u=Value.type n from r);rfl
section
variable {P:Program}{w:World}{H H':Hp}{h h':Heap}{a C dx:Addr}{fs HC:List (Str × V)}
theorem gA (vD:wt P w H h)(e:H a=some (.ins C dx fs)):∃ mA,yn h a dx C mA/\(∀ f,wq (fs.lookup f) (mA f))/\PySem.Within mA (fs.map (·.1))/\fs.length <= 1000/\H dx=some (.own a):=by
 obtain⟨d,z,ne,ob,mA,n,r,q⟩:=(show vL P w H h a (.ins C dx fs) from vD a _ e)
 exact⟨mA,⟨ob,n,ne⟩,r,q,z,d⟩
end
structure xh (K:Frag)(C:Addr):Prop where
 pg:plainGet K C Str.empty=true
 hd:hasDictIn K C=true
 po:plainOver K C=true
 sa:findIn K (.ref C) "__setattr__" = some (some (.builtin "object.__setattr__"))
theorem xh.get {K:Frag}{C:Addr}(c:xh K C)(f:Str):plainGet K C f=true:=c.pg
noncomputable def vB (K:Frag)(C:Addr)(f:Str):Prop:=findIn K (.ref C) f=some none
theorem vB.CG {K:Frag}{C:Addr}{f:Str}(n:vB K C f):PySem.W.takerIn K C f=some none:=by
 unfold PySem.W.takerIn
 rw[show findIn K (.ref C) f=some none from n]
 rfl
structure eA (K:Frag)(C:Addr)(m:Str)(f:Addr):Prop where
 at_:findIn K (.ref C) m=some (some (.ref f))
 fn:isFn K (.ref f)=true
 kp:keepIn K (.ref f)=true
section
variable {X:Cx}{pins:List (Addr × Obj)}{σ:St}{H:Hp}{s:Shared}{a C dx:Addr}{fs:List (Str × V)}{f:Str}{v:V}{A:Around}{E:Value->Shared->Prop}
theorem lZ {b:Bool}{Q:Value->Shared->Prop}(I:Inv X pins σ H s)(e:H a=some (.ins C dx fs))(c:xh X.K C)(n:vB X.K C f)(l:fs.lookup f=some v)
  (h:∀ u s',Inv X pins σ H s'->RelV v u->Q u s'):wpAny (model X.prog X.w) A (getAttr (.ref a) f b) Q E s:=by
 obtain⟨mA,O,r,_,_,_⟩:=gA I.vD e
 obtain⟨u,hu,ru⟩:=wq.some_of (v:=v) (o:=mA f) (by rw[← l];exact r f)
 exact si I.vY O (c.get f) c.hd n hu (iT ru) (h u _ (I.tok _) ru)
theorem il {m:Str}{g:Addr}{pl:Sem Bool}{Q:Value × List Value->Shared->Prop}(I:Inv X pins σ H s)(e:H a=some (.ins C dx fs))(c:xh X.K C)(k:eA X.K C m g)(l:fs.lookup m=none)
  (h:Q (.ref g,[.ref a]) s):wpAny (model X.prog X.w) A (getMethod (.ref a) m pl) Q E s:=by
 obtain⟨mA,O,r,_,_,_⟩:=gA I.vD e
 have hn:mA m=none:=wq.none_of (by rw[← l];exact r m)
 exact qw I.vY O (c.get m) k.at_ k.fn hn h
theorem l4 {y:V}{u:Value}{Q:Unit->Shared->Prop}(I:Inv X pins σ H s)(e:H a=some (.ins C dx fs))(c:xh X.K C)(n:vB X.K C f)(hl:fs.length < 1000)(ry:RelV y u)
  (h:∀ s',Inv X pins σ (upd H a (.ins C dx (aQ f y fs))) s'->Q () s'):wpAny (model X.prog X.w) A (setAttr (.ref a) f u) Q E s:=by
 obtain⟨mA,O,r,wi,_,ho⟩:=gA I.vD e
 have hz:(fs.map (·.1)).length <= sizeLine:=by rw[length_map,sizeLine_eq];omega
 refine qX I.vY O c.sa c.po n.CG c.hd wi hz fun h' O' sb=>h _ ?_
 have hd:∃ o,h'.get? dx=some o:=let ⟨o,_,_,e',_⟩:=O'.ns; ⟨o,e'⟩
 refine I.write (x:=a) (e:=dx) (by rw[e];exact True.intro) (.inr ho) (fun b q hb z=>(sb.2 b hb).trans z) hd ?_
 refine⟨by rw[ae O.ne];exact ho,?_,O.ne,O'.obj,_,O'.ns,fun g=>?_,fun g hg=>?_⟩
 ·have:=ge f y fs;omega
 ·show wq ((aQ f y fs).lookup g) (if g=f then some u else mA g)
  rw[dX]
  by_cases q:g=f
  ·rw[if_pos q,if_pos q];exact ry
  ·rw[if_neg q,if_neg q];exact r g
 ·by_cases q:g=f
  ·rw[q];exact(fR f y fs).1
  ·refine(fR f y fs).2 g (wi g fun z=>hg ?_)
   show(if g=f then some u else mA g)=none
   rw[if_neg q];exact z
theorem Inv.made (I:Inv X pins σ H s):Inv X pins σ (upd (upd H s.heap.objs.size (.own (s.heap.objs.size + 1))) (s.heap.objs.size + 1) (.ins C s.heap.objs.size []))
  { s with heap:=(s.heap.push PySem.W.emptyDict).push (PySem.W.instObj C s.heap.objs.size) }:=by
 have e1:(s.heap.push PySem.W.emptyDict).get? s.heap.objs.size=some PySem.W.emptyDict:=Heap.get?_push_size s.heap rfl
 have e2:((s.heap.push PySem.W.emptyDict).push (PySem.W.instObj C s.heap.objs.size)).get? (s.heap.objs.size + 1)=some (PySem.W.instObj C s.heap.objs.size):=by
  have:=Heap.get?_push_size (s.heap.push PySem.W.emptyDict) (o:=PySem.W.instObj C s.heap.objs.size) rfl
  rwa [size_push]at this
 have e3:(s.heap.push PySem.W.emptyDict).Ns s.heap.objs.size (fun _=>none):=⟨PySem.W.emptyDict,#[],_,e1,rfl,(fun e he=>absurd he (by simp)),fun _=>rfl⟩
 have I1:=I.laid (a:=s.heap.objs.size) (o := .own (s.heap.objs.size + 1)) (h':=s.heap.push PySem.W.emptyDict) (t':=s.toks) (fun b u q=>Heap.get?_push_of_some _ q) (le_refl _) ⟨_,e1⟩
 refine I1.laid (a:=s.heap.objs.size + 1) (o := .ins C s.heap.objs.size []) (t':=s.toks) (fun b u q=>Heap.get?_push_of_some _ q) (le_of_eq (size_push _ _)) ?_
 have ne:s.heap.objs.size ≠ s.heap.objs.size + 1:=ne_of_lt (Nat.lt_succ_self _)
 refine⟨by rw[ae ne,vz],zero_le _,ne,e2,fun _=>none,(Heap.Ns1.of_empty e3).at fun o q=>Heap.get?_push_of_some _ q,fun _=>True.intro,fun y hy=>absurd rfl hy⟩
theorem nB {prog:Program}{w:World}{env:Env}{e:Expr}{f:Str}{pos:Pos}{s:Shared}{Q:Value->Shared->Prop}(hb:attributeBase e f env (eval e env)=eval e env)
  (h:wpAny (model prog w) A (eval e env) (fun o s₁=>wpAny (model prog w) A (getAttr o f true) Q E s₁) E s):wpAny (model prog w) A (eval (.Attribute e f pos) env) Q E s :=
 Attribute_any_ h (by rw[arm_eval_Attribute,hb])
end
noncomputable def Ib (K:Frag)(ta:TE)(f:Str):TE:=fun σ H Q=>ta σ H fun x H1=>∃ a C dx fs v,x = .ref a/\H1 a=some (.ins C dx fs)/\xh K C/\vB K C f/\fs.lookup f=some v/\Q v H1
noncomputable def Ic (K:Frag)(ta tv:TE)(f:Str):TS:=fun D σ H=>tv σ H fun y H1=>ta σ H1 fun x H2=>∃ a C dx fs,x = .ref a/\H2 a=some (.ins C dx fs)/\xh K C/\vB K C f/\fs.length < 1000 /\
 D.nx σ (upd H2 a (.ins C dx (aQ f y fs)))
section
variable {X:Cx}{o e value:Expr}{f:Str}{pos pos' yo:Pos}{ta tv:TE}
theorem aK (he:PE X e ta)(hb:attributeBase e f X.env (eval e X.env)=eval e X.env):PE X (.Attribute e f pos) (Ib X.K ta f):=by
 intro pins s σ H Q I h
 refine nB hb (aN (he pins s σ H _ I h) fun u s1 v9=>?_)
 obtain⟨x,H1,I1,rx,a,C,dx,fs,v,ex,ea,c,n,l,q⟩:=v9
 subst ex
 obtain rfl:u=Value.ref a:=rx
 exact lZ I1 ea c n l fun u' s2 I2 ru=>⟨v,H1,I2,ru,q⟩
theorem aV (ha:PE X o ta)(hv:PE X value tv)(hs:swapsWith value (some (.Attribute o f pos')) pos.line X.env=pure false):PS X (.Assign [.Attribute o f pos'] value pos) (Ic X.K ta tv f):=by
 intro pins s σ H D I h
 refine plainObj_wpAny_Assign_Attribute (aN (hv pins s σ H _ I h) fun u s1 ⟨y,H1,I1,ry,q⟩=>aN (ha pins s1 σ H1 _ I1 q) fun ov s2 v9=>?_) hs
 obtain⟨x,H2,I2,rx,a,C,dx,fs,ex,ea,c,n,l,q2⟩:=v9
 subst ex
 obtain rfl:ov=Value.ref a:=rx
 exact l4 I2 ea c n l ry fun s3 I3=>⟨σ,_,I3,q2⟩
end
section
variable {X:Cx}{pins:List (Addr × Obj)}{σ:St}{H:Hp}{s:Shared}{A:Around}{E:Value->Shared->Prop}{Q:Value->Shared->Prop}{c:Value}{b:Bool}
inductive fV (K:Frag)(H:Hp):V->Value->Prop where
 | vJ:fV K H .vJ (.type "NoneType")
 | bl (x:Bool):fV K H (.bl x) (.type "bool")
 | int (i:Int):fV K H (.int i) (.type "int")
 | str (x:Str):fV K H (.str x) (.type "str")
 | AW (x:UInt64):fV K H (.AW x) (.type "float")
 | lst {a:Addr} {xs:List V} (e:H a=some (.lst xs)):fV K H (.ref a) (.type "list")
 | yk {a:Addr} {o:Obj} {xs:List V} (e:H a=some (.yk o (.lst xs))):fV K H (.ref a) (.type "list")
 | tup {a:Addr} {xs:List V} (e:H a=some (.tup xs)):fV K H (.ref a) (.type "tuple")
 | dK {a:Addr} {kvs:List (Key × V)} (e:H a=some (.dK kvs)):fV K H (.ref a) (.type "dict")
 | dT {a:Addr} {kvs:List (List Key × V)} (e:H a=some (.dT kvs)):fV K H (.ref a) (.type "dict")
 | ins {a C dx:Addr} {fs:List (Str × V)} (e:H a=some (.ins C dx fs)) (cl:xh K C) (ha:findIn K (.ref C) "__class__" = some (some (.builtin "object.__class__")))
   (hn:PySem.W.specialIn K (.builtin "object.__class__") "__get__" = some (some (.builtin "getset_descriptor.__get__"))) (zK:PySem.W.takesIn K (.builtin "object.__class__")=some true)
   (hm:PySem.W.mroIn K C (.type "object")=some true):fV K H (.ref a) (.ref C)
theorem ou {x:V}{u t:Value}(I:Inv X pins σ H s)(rx:RelV x u)(ty:fV X.K H x t)(e:kitOne X.K t c=some b)(h:∀ tk,Q (.bool b) { s with toks:=tk }) :
  wpAny (model X.prog X.w) A (call (.builtin "isinstance") [u,c]) Q E s:=by
 cases ty with
 | vJ=>cases (show u=Value.none from rx);exact PySem.W.kia_one PySem.W.kitx_none I.vY True.intro e (fun z=>nomatch z) h
 | bl y=>cases (show u=Value.bool y from rx);exact PySem.W.kia_one PySem.W.kitx_bool I.vY True.intro e (fun z=>nomatch z) h
 | int i=>obtain⟨t,q⟩:=(show ∃ t,u=Value.int i t from rx);cases q;exact PySem.W.kia_one PySem.W.kitx_int I.vY True.intro e (fun z=>nomatch z) h
 | str y=>obtain⟨t,q⟩:=(show ∃ t,u=Value.str y t from rx);cases q;exact PySem.W.kia_one PySem.W.kitx_str I.vY True.intro e (fun z=>nomatch z) h
 | AW y=>obtain⟨t,q⟩:=(show ∃ t,u=Value.float y t from rx);cases q;exact PySem.W.kia_one PySem.W.kitx_float I.vY True.intro e (fun z=>nomatch z) h
 | @lst a xs ea =>
  cases (show u=Value.ref a from rx)
  obtain⟨_,_,n,_,h1⟩:=(show vL X.prog X.w H s.heap a (.lst xs) from I.vD a _ ea)
  exact PySem.W.kia_one PySem.W.kitx_list I.vY ⟨_,h1,rfl⟩ e (fun z=>nomatch z) h
 | @yk a ob xs ea =>
  cases (show u=Value.ref a from rx)
  obtain⟨_,_,_,n,_,h1⟩:=(show vL X.prog X.w H s.heap a (.yk ob (.lst xs)) from I.vD a _ ea)
  exact PySem.W.kia_one PySem.W.kitx_list I.vY ⟨_,h1,rfl⟩ e (fun z=>nomatch z) h
 | @tup a xs ea =>
  cases (show u=Value.ref a from rx)
  obtain⟨_,_,_,p⟩:=(show vL X.prog X.w H s.heap a (.tup xs) from I.vD a _ ea)
  obtain⟨o,h1,⟨h2,_⟩,_⟩:=p
  exact PySem.W.kia_one PySem.W.kitx_tuple I.vY ⟨o,h1,h2⟩ e (fun z=>nomatch z) h
 | @dK a kvs ea =>
  cases (show u=Value.ref a from rx)
  obtain⟨_,_,vs,_,p⟩:=(show vL X.prog X.w H s.heap a (.dK kvs) from I.vD a _ ea)
  obtain⟨o,es,ep,h1,h2,_⟩:=p
  exact PySem.W.kia_one PySem.W.kitx_dict I.vY ⟨o,h1,h2.1⟩ e (fun z=>nomatch z) h
 | @dT a kvs ea =>
  cases (show u=Value.ref a from rx)
  obtain⟨_,_,xs,_,o,es,ep,h1,h2,_⟩:=(show vL X.prog X.w H s.heap a (.dT kvs) from I.vD a _ ea)
  exact PySem.W.kia_one PySem.W.kitx_dict I.vY ⟨o,h1,h2.1⟩ e (fun z=>nomatch z) h
 | @ins a C dx fs ea cl ha hn zK hm =>
  cases (show u=Value.ref a from rx)
  obtain⟨mA,O,_⟩:=gA I.vD ea
  obtain⟨od,J,_⟩:=O.look
  exact PySem.W.kia_one (PySem.W.kitx_own (cl.get _) cl.hd ha hn zK hm) I.vY J e (fun z=>nomatch z) h
end
end L2
namespace L2
open PySem PySem.Spec PyProof.Rows
structure vE (k:Nat)(A:Around):Prop where
 hd:A.handled=none
 dp:A.depth + 3 * k + 5 < recursionLimit
 un:A.units + 16 * k + 200 < cLine
theorem vE.mono {j k:Nat}{A:Around}(r:vE k A)(h:j <= k):vE j A:=⟨r.hd,by have:=r.dp;omega,by have:=r.un;omega⟩
theorem vE.deeper {k:Nat}{A:Around}(r:vE (k + 1) A)(env:Env):vE k (A.deeper env) :=
 ⟨r.hd,by have:=r.dp;show A.depth + 1 + 3 * k + 5 < _;omega,by have:=r.un;show A.units + 3 + 16 * k + 200 < _;omega⟩
theorem lT {A:Around}{C:Addr}{us:List Value}{kw:List (Str × Value)}:(A.under (.builtin "type.__call__" ⟨.ref C :: us,kw⟩)).depth=A.depth + 1:=by
 first | rfl | simp[Around.under,Code.weight,Code.isCreation,Code.isGuard,Code.isCaller,Code.frames,Code.isFrame,guardIds]
theorem lS {A:Around}{C:Addr}{us:List Value}{kw:List (Str × Value)}:(A.under (.builtin "type.__call__" ⟨.ref C :: us,kw⟩)).units=A.units + 1:=by
 first | rfl | simp[Around.under,Code.cUnits,Code.frames,Code.isFrame]
theorem vE.make {k:Nat}{A:Around}(r:vE (k + 1) A)(C:Addr)(us:List Value)(kw:List (Str × Value)):vE k (A.under (.builtin "type.__call__" ⟨.ref C :: us,kw⟩)) :=
 ⟨r.hd,by have:=r.dp;rw[lT];omega,by have:=r.un;rw[lS];omega⟩
theorem vE.depth {k:Nat}{A:Around}(r:vE k A):A.depth < recursionLimit:=by have:=r.dp;omega
theorem vE.units {k:Nat}{A:Around}(r:vE k A):A.units + 64 < cLine:=by have:=r.un;omega
noncomputable def qS:TA:=fun _ H Q=>Q [] H
noncomputable def CH (ta:TE)(tr:TA):TA:=fun σ H Q=>ta σ H fun x H1=>tr σ H1 fun xs H2=>Q (x :: xs) H2
section
variable {X:Cx}{e:Expr}{es:List Expr}{te:TE}{t:TA}{pos:Pos}
theorem ac:PA X [] qS:=fun _ _ _ _ H Q I h=>Calls.spliced_nil ⟨[],H,I, .nil,h⟩
theorem aa (ha:PE X e te)(hr:PA X es t)(hs:starEach (e :: es) X.env=(false,eval e X.env) :: starEach es X.env:=by rfl):PA X (e :: es) (CH te t):=by
 intro pos pins s σ H Q I h
 rw[hs]
 show wpAny _ _ (spliced ((false,eval e X.env) :: backTo pos (starEach es X.env))) _ _ s
 refine Calls.spliced_cons (aN (ha pins s σ H _ I h) fun u s1 v9=>?_)
 obtain⟨x,H1,I1,r1,q1⟩:=v9
 exact aN (hr pos pins s1 σ H1 _ I1 q1) fun us s2 v9=>by obtain⟨xs,H2,I2,r2,q2⟩:=v9;exact⟨x :: xs,H2,I2, .cons r1 r2,q2⟩
noncomputable def Ie (t:TA):TE:=fun σ H Q=>t σ H fun xs H1=>xs.length <= sizeLine/\∀ p,H1 p=none->Q (.ref p) (upd H1 p (.tup xs))
noncomputable def Ig (t:TA):TE:=fun σ H Q=>t σ H fun xs H1=>xs.length <= sizeLine/\∀ p,H1 p=none->Q (.ref p) (upd H1 p (.lst xs))
theorem bR {x1} (h:PA X es t):PE X (.Tuple es x1 pos) (Ie t):=by
 intro pins s σ H Q I hq
 refine wpAny_Tuple_spliced (aN (h pos pins s σ H _ I hq) fun us s1 ⟨xs,H1,I1,r,z,q⟩=>⟨by rw[← r.length];exact z,?_⟩)
 have hf:H1 s1.heap.objs.size=none:=I1.vD.fresh (le_refl _)
 refine⟨.ref s1.heap.objs.size,upd H1 s1.heap.objs.size (.tup xs),I1.laid (t':=s1.toks) (fun b u e=>Heap.get?_push_of_some _ e) (le_refl _) ?_,rfl,q _ hf⟩
 exact⟨z,us,r,⟨_,Heap.get?_push_size _ rfl,⟨rfl,_,rfl⟩,rfl⟩⟩
theorem aD (h:PA X es t):PE X (.List es pos) (Ig t):=by
 intro pins s σ H Q I hq
 refine wpAny_List_spliced (aN (h pos pins s σ H _ I hq) fun us s1 ⟨xs,H1,I1,r,z,q⟩=>⟨by rw[← r.length];exact z,?_⟩)
 have hf:H1 s1.heap.objs.size=none:=I1.vD.fresh (le_refl _)
 refine⟨.ref s1.heap.objs.size,upd H1 s1.heap.objs.size (.lst xs),I1.laid (t':=s1.toks) (fun b u e=>Heap.get?_push_of_some _ e) (le_refl _) ?_,rfl,q _ hf⟩
 exact⟨z,us,0,r,Heap.get?_push_size _ rfl⟩
end
abbrev Sp:=List V->Hp->VK->XK->Prop
abbrev iH:=List Env->Hp->Shared->XK->Value->Shared->Prop
structure xr (P:Program)(w:World)(K:Frag)(mg:Str->Option Value)(base:Heap)(A:Around)(outer:List Env)(s:Shared)(H:Hp):Prop where
 frames:A.frames=some outer
 mod:Mod K mg base
 bs:∀ b o,base.get? b=some o->s.heap.get? b=some o/\H b=none
 yT:base.objs.size <= s.heap.objs.size
 wF:s.heap.FunFrames base outer
 zI:∀ b ∈ gh outer,H b=none
 vD:wt P w H s.heap
 bare:AllBare s.gens
noncomputable def CE (outer:List Env)(P:Program)(w:World)(H:Hp)(s:Shared)(Q:VK)(u:Value)(s':Shared):Prop :=
 ∃ v H',s'.os=s.os/\AllBare s'.gens/\Un (gh outer) [] H H' s.heap s'.heap/\wt P w H' s'.heap/\RelV v u/\Q v H'
noncomputable def CR (CX:iH)(outer:List Env)(P:Program)(w:World)(H:Hp)(s:Shared)(Q:VK)(E:XK)(r:Result)(s':Shared):Prop :=
 match r with
 | .ok (.ret u)=>CE outer P w H s Q u s'
 | .ok _=>False
 | .error e=>CX outer H s E e s'
structure v7 (P:Program)(w:World)(K:Frag)(mg:Str->Option Value)(base:Heap)(CX:iH)(k:Nat)(f:Addr)(fd:FuncData)(ps:List Str)(sp:Sp):Prop where
 len:∀ vs H Q E,sp vs H Q E->vs.length=ps.length
 run:∀ (A:Around)(outer:List Env)(s:Shared)(H:Hp)(args:Args)(us:List Value)(vs:List V)(Q:VK)(E:XK),vE k A->xr P w K mg base A outer s H->BindsTo s fd args (ps.zip us)->Vals vs us->sp vs H Q E ->
  codeAny (model P w) A (.call (.ref f) args) (CR CX outer P w H s Q E) s
theorem v7.mono {P:Program}{w:World}{K:Frag}{mg:Str->Option Value}{base:Heap}{CX:iH}{j k:Nat}{f:Addr}{fd:FuncData}{ps:List Str}{sp:Sp}(F:v7 P w K mg base CX j f fd ps sp)(h:j <= k) :
  v7 P w K mg base CX k f fd ps sp:=⟨F.len,fun A outer s H args us vs Q E hr=>F.run A outer s H args us vs Q E (hr.mono h)⟩
theorem v7.imp {P:Program}{w:World}{K:Frag}{mg:Str->Option Value}{base:Heap}{CX:iH}{k:Nat}{f:Addr}{fd:FuncData}{ps:List Str}{sp Mw:Sp}(F:v7 P w K mg base CX k f fd ps sp)
  (h:∀ vs H Q E,Mw vs H Q E->sp vs H Q E):v7 P w K mg base CX k f fd ps Mw :=
 ⟨fun vs H Q E q=>F.len vs H Q E (h _ _ _ _ q),fun A outer s H args us vs Q E hr he hb hv hs=>F.run A outer s H args us vs Q E hr he hb hv (h _ _ _ _ hs)⟩
theorem xr.make {P:Program}{w:World}{K:Frag}{mg:Str->Option Value}{base:Heap}{A:Around}{outer:List Env}{s:Shared}{H:Hp}(e:xr P w K mg base A outer s H)(C:Addr)(us:List Value)(kw:List (Str × Value)) :
  xr P w K mg base (A.under (.builtin "type.__call__" ⟨.ref C :: us,kw⟩)) outer s H:=⟨by first | exact e.frames | (simpa [Around.under,Code.envs,Code.isFrame,pushEnvs] using e.frames),e.mod,e.bs,e.yT,e.wF,e.zI,e.vD,e.bare⟩
section
variable {X:Cx}{pins:List (Addr × Obj)}{σ:St}{H:Hp}{s s':Shared}
theorem Inv.zL (I:Inv X pins σ H s):xr X.prog X.w X.K X.mg X.base X.A X.stack s H :=
 ⟨I.ok.frames,I.ok.mod,I.bs,le_trans I.ok.yT I.sz,I.stack,I.xb,I.vD,I.bare⟩
theorem Inv.after {Q:VK}{u:Value}(I:Inv X pins σ H s)(h:CE X.stack X.prog X.w H s Q u s'):EP X pins σ Q u s':=by
 obtain⟨v,H',os,bare,un,vD,r,q⟩:=h
 obtain⟨hh,g,d,t,os'⟩:=s'
 obtain rfl:os' = s.os:=os
 exact⟨v,H',I.call (h':=hh) (g':=g) (d':=d) (t':=t) (ch:=[]) un vD bare (fun b z=>absurd z (by simp)),r,q⟩
end
noncomputable def m8 (sp:Sp)(wc:List V)(E:XK)(t:TA):TE:=fun σ H Q=>t σ H fun vs H1=>sp (vs ++ wc) H1 Q E
noncomputable def sU (C:Addr)(m:Str)(sp:Sp)(wc:List V)(E:XK)(ta:TE)(t:TA):TE:=fun σ H Q=>ta σ H fun x H1=>∃ a dx fs,x = .ref a/\H1 a=some (.ins C dx fs)/\fs.lookup m=none /\
 t σ H1 fun vs H2=>sp (x :: (vs ++ wc)) H2 Q E
noncomputable def sV (C:Addr)(sp:Sp)(wc:List V)(E:XK)(t:TA):TE:=fun σ H Q=>t σ H fun vs H1=>∀ x dx,H1 x=none->H1 dx=none->dx ≠ x ->
 sp (.ref x :: (vs ++ wc)) (upd (upd H1 dx (.own x)) x (.ins C dx [])) (fun v H2=>v = .vJ/\Q (.ref x) H2) E
noncomputable def Binds (K:Frag)(fd:FuncData)(ps:List Str)(ds:List Value):Prop :=
 ∀ (s:Shared)(us:List Value),K.In s.heap->(us ++ ds).length=ps.length->BindsTo s fd ⟨us,[]⟩ (ps.zip (us ++ ds))
theorem Binds.all {K:Frag}{fd:FuncData}{ps:List Str}(h:∀ us:List Value,us.length=ps.length->bindArgs fd ⟨us,[]⟩ = pure (ps.zip us)):Binds K fd ps []:=fun s us _ hl=>by
 rw[append_nil]at hl ⊢
 exact .of_eq (h us hl)
noncomputable def bZ (CX:iH)(X:Cx)(E:XK):Prop:=∀ (pins:List (Addr × Obj))(σ:St)(H:Hp)(s:Shared)(e:Value)(s':Shared),Inv X pins σ H s->CX X.stack H s E e s'->X.xe e s'
section
variable {X:Cx}{CX:iH}{k:Nat}{f C:Addr}{fd:FuncData}{ps:List Str}{sp:Sp}{wc:List V}{ds:List Value}{E:XK}{x m:Str}{p pos apos:Pos}{e o:Expr}{es:List Expr}{ta:TE}{t:TA}
theorem gP {pins:List (Addr × Obj)}{σ:St}{H:Hp}{s:Shared}{Q:VK}{us:List Value}{vs:List V}(F:v7 X.prog X.w X.K X.mg X.base CX k f fd ps sp)(hr:vE k X.A)(hb:Binds X.K fd ps ds)(hd:Vals wc ds)(hx:bZ CX X E)
  (I:Inv X pins σ H s) (r:Vals vs us) (h:sp (vs ++ wc) H Q E):wpAny (model X.prog X.w) X.A (call (.ref f) us) (EP X pins σ Q) X.xe s:=by
 have r2:Vals (vs ++ wc) (us ++ ds):=r.append hd
 have hl:(us ++ ds).length=ps.length:=by rw[← r2.length];exact F.len _ _ _ _ h
 refine wpAny_call (codeAny_mono (F.run X.A X.stack s H ⟨us,[]⟩ (us ++ ds) (vs ++ wc) Q E hr I.zL (hb s us I.vY hl) r2 h) fun r s' hq=>?_)
 cases r with
 | error e=>exact hx pins σ H s e s' I hq
 | ok fl =>
  cases fl with
  | ret u=>exact I.after hq
  | next=>exact False.elim hq
  | brk=>exact False.elim hq
  | cont=>exact False.elim hq
theorem aq (F:v7 X.prog X.w X.K X.mg X.base CX k f fd ps sp)(hr:vE k X.A)(hg:Gl X x)(hm:X.mg x=some (.ref f))(hk:keepIn X.K (.ref f)=true)(hb:Binds X.K fd ps ds)(hd:Vals wc ds)(hx:bZ CX X E)
  (ha:PA X (e :: es) t) (xt:(x == ("__debug__":Str))=false:=by decide) (he:starEach (e :: es) X.env=(false,eval e X.env) :: starEach es X.env:=by rfl) (wR:(backTo pos (starEach es X.env)).any (·.1)=false:=by rfl) :
  PE X (.Call (.Name x p) (e :: es) [] pos) (m8 sp wc E t):=by
 intro pins s σ H Q I h
 refine wpAny_Call_Name_kw (bI I hg hm ?_ xt)
 refine PySem.W.callWith_K (h₀:=X.base) I.ok.mod.xa hk (aN (ha pos pins s σ H _ I h) fun us s1 ⟨vs,H1,I1,r,q⟩=>⟨I1.vY,?_⟩) he wR
 exact gP F hr hb hd hx I1 r q
theorem ck (F:v7 X.prog X.w X.K X.mg X.base CX k f fd ps sp)(hr:vE k X.A)(hg:Gl X x)(hm:X.mg x=some (.ref f))(hk:keepIn X.K (.ref f)=true)(hb:Binds X.K fd ps ds)(hd:Vals wc ds)(hx:bZ CX X E)
  (xt:(x == ("__debug__":Str))=false:=by decide):PE X (.Call (.Name x p) [] [] pos) (m8 sp wc E qS):=by
 intro pins s σ H Q I h
 refine wpAny_Call_Name_kw (bI I hg hm ?_ xt)
 exact PySem.W.callWith_K0 I.vY hk (gP (us:=[]) F hr hb hd hx I .nil h)
theorem bj {pl:Sem Bool}(he:PE X o ta)(c:xh X.K C)(hm:eA X.K C m f)(F:v7 X.prog X.w X.K X.mg X.base CX k f fd ps sp)(hr:vE k X.A)(hb:Binds X.K fd ps ds)(hd:Vals wc ds)(hx:bZ CX X E)(ha:PA X (e :: es) t)
  (xJ:starEach (e :: es) X.env=(false,eval e X.env) :: starEach es X.env:=by rfl) (wR:(backTo pos (starEach es X.env)).any (·.1)=false:=by rfl)
  (ht:eval (.Call (.Attribute o m apos) (e :: es) [] pos) X.env=(do
   let ov ← eval o X.env
   standAt apos.atName
   let (f,first) ← holding [ov] (getMethod ov m pl)
   callWith pos f first (backTo pos (starEach (e :: es) X.env)) (backToKw pos (keywordEach [] X.env))):=by rfl) :
  PE X (.Call (.Attribute o m apos) (e :: es) [] pos) (sU C m sp wc E ta t):=by
 intro pins s σ H Q I h
 refine PySem.W.methodCall_KW (pl:=pl) (aN (he pins s σ H _ I h) fun u s1 v9=>?_) ht
 obtain⟨x,H1,I1,rx,a,dx,fs,ex,ea,l,q⟩:=v9
 subst ex
 obtain rfl:u=Value.ref a:=rx
 refine il I1 ea c hm l ?_
 refine PySem.W.callWith_K (first:=[.ref a]) (h₀:=X.base) I.ok.mod.xa hm.kp (aN (ha pos pins s1 σ H1 _ I1 q) fun us s2 ⟨vs,H2,I2,r,q2⟩=>⟨I2.vY,?_⟩) xJ wR
 exact gP (us := .ref a :: us) (vs := .ref a :: vs) F hr hb hd hx I2 (.cons rfl r) q2
theorem kl {pl:Sem Bool}(he:PE X o ta)(c:xh X.K C)(hm:eA X.K C m f)(F:v7 X.prog X.w X.K X.mg X.base CX k f fd ps sp)(hr:vE k X.A)(hb:Binds X.K fd ps ds)(hd:Vals wc ds)(hx:bZ CX X E)
  (ht:eval (.Call (.Attribute o m apos) [] [] pos) X.env=(do
   let ov ← eval o X.env
   standAt apos.atName
   let (f,first) ← holding [ov] (getMethod ov m pl)
   callWith pos f first (backTo pos (starEach [] X.env)) (backToKw pos (keywordEach [] X.env))):=by rfl) :
  PE X (.Call (.Attribute o m apos) [] [] pos) (sU C m sp wc E ta qS):=by
 intro pins s σ H Q I h
 refine PySem.W.methodCall_KW (pl:=pl) (aN (he pins s σ H _ I h) fun u s1 v9=>?_) ht
 obtain⟨x,H1,I1,rx,a,dx,fs,ex,ea,l,q⟩:=v9
 subst ex
 obtain rfl:u=Value.ref a:=rx
 refine il I1 ea c hm l ?_
 exact PySem.W.callWith_K0 (first:=[.ref a]) I1.vY hm.kp (gP (us:=[.ref a]) (vs:=[.ref a]) F hr hb hd hx I1 (.cons rfl .nil) q)
structure Mk (K:Frag)(C f:Addr):Prop where
 makes:makesIn K C=true
 init:findIn K (.ref C) "__init__" = some (some (.ref f))
 fn:isFn K (.ref f)=true
 kp:keepIn K (.ref C)=true
theorem jX {pins:List (Addr × Obj)}{σ:St}{H:Hp}{s:Shared}{Q:VK}{us:List Value}{vs:List V}(M:Mk X.K C f)(F:v7 X.prog X.w X.K X.mg X.base CX k f fd ps sp)(hr:vE (k + 1) X.A)(hb:Binds X.K fd ps ds)(hd:Vals wc ds)
  (hx:bZ CX X E) (I:Inv X pins σ H s) (r:Vals vs us)
  (h:∀ x dx,H x=none->H dx=none->dx ≠ x->sp (.ref x :: (vs ++ wc)) (upd (upd H dx (.own x)) x (.ins C dx [])) (fun v H2=>v = .vJ/\Q (.ref x) H2) E) :
  wpAny (model X.prog X.w) X.A (call (.ref C) us) (EP X pins σ Q) X.xe s:=by
 have hq:=h (s.heap.objs.size + 1) s.heap.objs.size (I.vD.fresh (le_succ _)) (I.vD.fresh (le_refl _)) (ne_of_lt (Nat.lt_succ_self _))
 have I2:=Inv.made (C:=C) I
 have r2:Vals (V.ref (s.heap.objs.size + 1) :: (vs ++ wc)) (Value.ref (s.heap.objs.size + 1) :: (us ++ ds)) := .cons rfl (r.append hd)
 have hl:(Value.ref (s.heap.objs.size + 1) :: us ++ ds).length=ps.length:=by
  have e:=r2.length
  rw[F.len _ _ _ _ hq]at e
  exact e.symm
 refine wpAny_call (qp (f:=f) I.vY M.makes M.init (beq_iff_eq.mp M.fn) (codeAny_mono (F.run _ X.stack _ _ ⟨Value.ref (s.heap.objs.size + 1) :: us,[]⟩ (Value.ref (s.heap.objs.size + 1) :: (us ++ ds)) _ _ E (hr.make C us [])
  (I2.zL.make C us []) (hb _ (Value.ref (s.heap.objs.size + 1) :: us) I2.vY hl) r2 hq) fun r s' yW=>?_))
 cases r with
 | error e=>exact hx pins σ _ _ e s' I2 yW
 | ok fl =>
  cases fl with
  | ret u =>
   obtain⟨v,H',I3,rv,ev,q3⟩:=I2.after yW
   subst ev
   exact⟨rv,⟨V.ref (s.heap.objs.size + 1),H',I3,rfl,q3⟩⟩
  | next=>exact False.elim yW
  | brk=>exact False.elim yW
  | cont=>exact False.elim yW
theorem bn (M:Mk X.K C f)(F:v7 X.prog X.w X.K X.mg X.base CX k f fd ps sp)(hr:vE (k + 1) X.A)(hg:Gl X x)(hm:X.mg x=some (.ref C))(hb:Binds X.K fd ps ds)(hd:Vals wc ds)(hx:bZ CX X E)
  (ha:PA X (e :: es) t) (xt:(x == ("__debug__":Str))=false:=by decide) (he:starEach (e :: es) X.env=(false,eval e X.env) :: starEach es X.env:=by rfl) (wR:(backTo pos (starEach es X.env)).any (·.1)=false:=by rfl) :
  PE X (.Call (.Name x p) (e :: es) [] pos) (sV C sp wc E t):=by
 intro pins s σ H Q I h
 refine wpAny_Call_Name_kw (bI I hg hm ?_ xt)
 refine PySem.W.callWith_K (h₀:=X.base) I.ok.mod.xa M.kp (aN (ha pos pins s σ H _ I h) fun us s1 ⟨vs,H1,I1,r,q⟩=>⟨I1.vY,?_⟩) he wR
 exact jX M F hr hb hd hx I1 r q
theorem pH (M:Mk X.K C f)(F:v7 X.prog X.w X.K X.mg X.base CX k f fd ps sp)(hr:vE (k + 1) X.A)(hg:Gl X x)(hm:X.mg x=some (.ref C))(hb:Binds X.K fd ps ds)(hd:Vals wc ds)(hx:bZ CX X E)
  (xt:(x == ("__debug__":Str))=false:=by decide):PE X (.Call (.Name x p) [] [] pos) (sV C sp wc E qS):=by
 intro pins s σ H Q I h
 refine wpAny_Call_Name_kw (bI I hg hm ?_ xt)
 exact PySem.W.callWith_K0 I.vY M.kp (jX (us:=[]) M F hr hb hd hx I .nil h)
end
section
variable {X:Cx}{CX:iH}{k:Nat}{f C:Addr}{fd:FuncData}{ps ks:List Str}{sp:Sp}{E:XK}{x m:Str}{p pos apos kpos:Pos}{e o:Expr}{es:List Expr}{kws:List Keyword}{te ta:TE}{t tk:TA}{nm:Option Str}
variable {g:List Value->List Value->List Value}{gV:List V->List V->List V}
end
structure aj (N P:List Str)(sc:Scope):Prop where
 kind:sc.kind = .function
 co:sc.isCoroutine=false
 gen:sc.isGenerator=false
 nd:N.Nodup
 pre:N.take P.length=P
 par:∀ x ∈ P,sc.names.lookup x=some .local∨sc.names.lookup x=some .cell
 yX:∀ y ∈ sc.names,y.2 ≠ .free
theorem iZ {kindOf:Str->Option NameKind}{x:Str}:∀ {binds:List (Str × Value)}{m:Str->Option Value},(∀ v,(x,v) ∉ binds)->bindL kindOf binds m x=m x
 | [],_,_=>rfl
 | (n,v) :: r,m,h=>by
  unfold bindL
  rw[iZ fun w hw=>h w (mem_cons_of_mem _ hw)]
  split
  ·have:x ≠ n:=by rintro rfl;exact h v mem_cons_self
   simp[this]
  ·rfl
theorem ja {kindOf:Str->Option NameKind}{x:Str}:∀ {binds:List (Str × Value)}{m:Str->Option Value},(∀ v,(x,v) ∉ binds)->bindC kindOf binds m x=m x
 | [],_,_=>rfl
 | (n,v) :: r,m,h=>by
  unfold bindC
  rw[ja fun w hw=>h w (mem_cons_of_mem _ hw)]
  split
  ·rfl
  ·have:x ≠ n:=by rintro rfl;exact h v mem_cons_self
   simp[this]
theorem fT {kindOf:Str->Option NameKind}{x:Str}{v:Value}:∀ {P:List Str}{vs:List Value}{i:Nat}{m:Str->Option Value},P.Nodup->P[i]? = some x->vs[i]? = some v->kindOf x=some .local ->
  bindL kindOf (P.zip vs) m x=some v
 | [],_,_,_,_,h,_,_=>by simp at h
 | _ :: _,[],_,_,_,_,h,_=>by simp at h
 | p :: P,w :: vs,0,m,nd,h1,h2,hk=>by
  simp at h1 h2;subst h1;subst h2
  show bindL kindOf ((p,w) :: P.zip vs) m p=_
  unfold bindL
  rw[iZ fun v hv=>(nodup_cons.mp nd).1 (of_mem_zip hv).1,if_pos hk]
  simp
 | p :: P,w :: vs,i + 1,m,nd,h1,h2,hk=>by
  show bindL kindOf ((p,w) :: P.zip vs) m x=_
  unfold bindL
  exact fT (i:=i) (nodup_cons.mp nd).2 (by simpa using h1) (by simpa using h2) hk
theorem fU {kindOf:Str->Option NameKind}{x:Str}{v:Value}:∀ {P:List Str}{vs:List Value}{i:Nat}{m:Str->Option Value},P.Nodup->P[i]? = some x->vs[i]? = some v->kindOf x ≠ some .local ->
  bindC kindOf (P.zip vs) m x=some v
 | [],_,_,_,_,h,_,_=>by simp at h
 | _ :: _,[],_,_,_,_,h,_=>by simp at h
 | p :: P,w :: vs,0,m,nd,h1,h2,hk=>by
  simp at h1 h2;subst h1;subst h2
  show bindC kindOf ((p,w) :: P.zip vs) m p=_
  unfold bindC
  rw[ja fun v hv=>(nodup_cons.mp nd).1 (of_mem_zip hv).1,if_neg hk]
  simp
 | p :: P,w :: vs,i + 1,m,nd,h1,h2,hk=>by
  show bindC kindOf ((p,w) :: P.zip vs) m x=_
  unfold bindC
  exact fU (i:=i) (nodup_cons.mp nd).2 (by simpa using h1) (by simpa using h2) hk
noncomputable def start (N:List Str)(vs:List V):St:=vs.map some ++ List.replicate (N.length - vs.length) none
noncomputable def dZ (CX:iH)(P:Program)(w:World)(K:Frag)(mg:Str->Option Value)(base:Heap)(N:List Str)(qual:Str)(scope:Scope)(f:Addr)(cd:Value)(A:Around)(outer:List Env)(s:Shared)(H:Hp)(E:XK):Cx where
 prog:=P
 w:=w
 K:=K
 mg:=mg
 base:=base
 A:=A.deeper (envOfC qual scope s.heap.objs.size f cd)
 N:=N
 s₀:=s
 H₀:=H
 env:=envOfC qual scope s.heap.objs.size f cd
 outer:=outer
 stack:=envOfC qual scope s.heap.objs.size f cd :: outer
 ex:=[]
 calm:=true
 fn:=fun _=>true
 pn:=[]
 xe:=fun e s'=>wpAny (model P w) (A.deeper (envOfC qual scope s.heap.objs.size f cd)) (leaving (envOfC qual scope s.heap.objs.size f cd) e) (fun _ zM=>CX outer H s E e zM) (fun e' zM=>CX outer H s E e' zM) s'
theorem fB {sc:Scope}{n:Nat}{x:Str}(h:sc.names.lookup x=some .cell):∃ c,(cellsFrom n sc.names []).lookup x=some c:=by
 have q:=PySem.W.cellsFrom_some sc.names n [] (.inl h)
 exact Option.isSome_iff_exists.mp q
theorem ow {CX:iH}{P:Program}{w:World}{K:Frag}{mg:Str->Option Value}{base:Heap}{N ps:List Str}{qual:Str}{scope:Scope}{f:Addr}{cd:Value}{A:Around}{outer:List Env}{s s1:Shared}{H:Hp}{E:XK}{us:List Value}{vs:List V}
  (S:aj N ps scope) (hd:A.handled=none) (e0:xr P w K mg base A outer s H) (hl:vs.length=ps.length) (r:Vals vs us)
  (x:InCallC s s.heap.objs.size (bindL (envOfC qual scope s.heap.objs.size f cd).kindOf (ps.zip us) fun _=>none) (cellsFrom (s.heap.objs.size + 1) scope.names []) (bindC (envOfC qual scope s.heap.objs.size f cd).kindOf (ps.zip us) fun _=>none) s1) :
  Inv (dZ CX P w K mg base N qual scope f cd A outer s H E) [] (start N vs) H s1:=by
 have wR:ps.length <= N.length:=by have:=congrArg List.length S.pre;rw[length_take]at this;omega
 obtain⟨h1,tk,rfl,hk⟩:=x.done
 have zN:∀ b:Addr,b ∉ (dZ CX P w K mg base N qual scope f cd A outer s H E).ex:=fun b z=>absurd (show b ∈ ([]:List Addr) from z) (by simp)
 refine⟨⟨e0.mod,S.kind,rfl,rfl,le_refl _,fun y z c h1 h2=>?_,fun y hy=>?_,fun y c _ h=>?_,fun _=>hd,Around.frames_deeper e0.frames, .inr ⟨rfl,rfl⟩,fun b z=>absurd z (zN b),e0.bs,e0.yT,fun b _ _=>zN b,fun b z=>absurd z (zN b),e0.wF,e0.zI⟩,
  rfl,e0.bare,Un.kept hk,⟨_,x.toInCall.ns,fun i y v h1 h2 h3=>?_⟩,fun y c h=>⟨_,x.cell y c h⟩,e0.vD.fresh (le_refl _),fun y c h=>?_,fun p hp=>absurd (show p ∈ ([]:List (Addr × Obj)) from hp) (by simp),e0.vD.kept hk,?_⟩
 ·exact name_of_addr x.apart (PySem.mem_of_lookup h1) (PySem.mem_of_lookup h2)
 ·have hy:scope.names.lookup y=some .cell∨scope.names.lookup y=some .free:=hy
  rcases hy with hy | hy
  ·exact fB hy
  ·exact absurd rfl (S.yX _ (PySem.mem_of_lookup hy))
 ·exact le_of_lt (x.above y c (PySem.mem_of_lookup h))
 ·have hi:i < vs.length:=by
   unfold start at h2
   by_cases hi:i < vs.length
   ·exact hi
   ·rw[List.getElem?_append_right (by simpa using hi)]at h2
    rw[List.getElem?_replicate]at h2
    split at h2<;>cases h2
  have ha:vs[i]? = some v:=by
   unfold start at h2
   rw[List.getElem?_append_left (by simpa using hi),List.getElem?_map]at h2
   cases e:vs[i]? with
   | none=>rw[e]at h2;cases h2
   | some a=>rw[e]at h2;cases h2;rfl
  obtain⟨u,hu,rv⟩:=r.get ha
  have hp:ps[i]? = some y:=by
   rw[← S.pre,List.getElem?_take_of_lt (by omega)];exact h1
  have CI:ps.Nodup:=by rw[← S.pre];exact S.nd.sublist (List.take_sublist _ _)
  refine⟨u,rv,?_⟩
  rcases S.par y (mem_of_getElem? hp) with k | k
  ·exact .inl ⟨k,fT CI hp hu k⟩
  ·obtain⟨c,e⟩:=fB (n:=s.heap.objs.size + 1) k
   refine .inr ⟨.inl k,c,e,?_⟩
   have q:=x.cell y c e
   rw[fU CI hp hu (by show scope.names.lookup y ≠ _;rw[k];decide)]at q
   exact q
 ·exact e0.vD.fresh (le_of_lt (x.above y c (PySem.mem_of_lookup h)))
 ·unfold start
  show _=N.length
  rw[length_append,length_map,length_replicate]
  omega
theorem qy {CX:iH}{P:Program}{w:World}{K:Frag}{mg:Str->Option Value}{base:Heap}{k:Nat}{f:Addr}{name qual:Str}{params:Arguments}{body:List Stmt}{scope:Scope}{dV kV doc pm cdv ct oc:Value}{an od:Option Addr}
  {xQ:Array (Option Value)} {N ps:List Str} {sp:Sp} (lk:K.lookup f=some ⟨oc,od, .func (fnOf name qual params body scope dV kV doc pm an cdv ct),xQ⟩) (xO:codeIn K cdv qual=true) (S:aj N ps scope)
  (len:∀ vs H Q E,sp vs H Q E->vs.length=ps.length)
  (wK:∀ (A:Around)(outer:List Env)(s:Shared)(H:Hp)(vs:List V)(Q:VK)(E:XK),vE k (A.deeper (envOfC qual scope s.heap.objs.size f cdv))->sp vs H Q E ->
   ∃ t,xI (dZ CX P w K mg base N qual scope f cdv A outer s H E) body t/\t { nx:=fun _ H'=>Q .vJ H',rt:=Q } (start N vs) H) :
  v7 P w K mg base CX (k + 1) f (fnOf name qual params body scope dV kV doc pm an cdv ct) ps sp:=by
 refine⟨len,fun A outer s H args us vs Q E hr e0 hb r yp=>?_⟩
 have hl:=len _ _ _ _ yp
 have KX:K.In s.heap:=e0.mod.xa.keeps fun b o e=>(e0.bs b o e).1
 have lim:s.heap.NoLimit:=e0.mod.nolimit.keeps fun b o e=>(e0.bs b o e).1
 have yY:∀ y ∈ ps.zip us,scope.names.lookup y.1=some .local∨(scope.names.lookup y.1=some .cell/\((cellsFrom (s.heap.objs.size + 1) scope.names []).lookup y.1).isSome=true):=fun⟨n,v⟩ hy=>by
  rcases S.par n (of_mem_zip hy).1 with q | q
  ·exact .inl q
  ·exact .inr ⟨q,PySem.W.cellsFrom_some _ _ _ (.inl q)⟩
 refine codeAny_call_function hr.depth (KX _ _ lk) rfl S.co S.gen rfl (PySem.W.codeRec_of KX xO) (hb _ _ _ _ ?_)
 refine wpAny_newFunctionEnv_cells S.kind yY fun env he s1 x=>?_
 subst he
 refine⟨lim.keeps x.toInCall.keep,codeAny_func ?_⟩
 obtain⟨t,ht,hq⟩:=wK A outer s H vs Q E (hr.deeper _) yp
 have I:Inv (dZ CX P w K mg base N qual scope f cdv A outer s H E) [] (start N vs) H s1:=ow S hr.hd e0 hl r x
 refine wpAny_mono (ht [] s1 (start N vs) H _ I hq) (fun fl s' hs=>?_) fun e s' hs=>hs
 have fin:∀ {σ':St}{H':Hp}{v:V}{u:Value},Inv (dZ CX P w K mg base N qual scope f cdv A outer s H E) [] σ' H' s'->RelV v u->Q v H'->CE outer P w H s Q u s' :=
  fun {σ' H' v u} J rv q=>⟨v,H',J.os,J.bare,J.base,J.vD,rv,q⟩
 cases fl with
 | ret u =>
  obtain⟨v,σ',H',J,rv,q⟩:=hs
  exact fin J rv q
 | next =>
  obtain⟨σ',H',J,q⟩:=hs
  exact fin (v:=V.vJ) (u:=Value.none) J rfl q
 | brk =>
  obtain⟨_,_,_,q⟩:=hs
  exact False.elim q
 | cont =>
  obtain⟨_,_,_,q⟩:=hs
  exact False.elim q
end L2
namespace L2
open PySem PySem.Spec PyProof.Rows
section
variable {X:Cx}{x:Str}{p pos:Pos}{e:Expr}{es:List Expr}{t:TA}{id T:String}{r:List V->Hp->VK->Prop}
noncomputable def Mx (r:List V->Hp->VK->Prop)(t:TA):TE:=fun σ H Q=>t σ H fun vs H1=>r vs H1 Q
theorem al (hc:cp X (.builtin id) r)(hg:Gl X x)(hm:X.mg x=none)(hv:bootBuiltins x=some (.builtin id))(ha:PA X (e :: es) t)(hn:x ≠ "__name__":=by decide)(xt:(x == ("__debug__":Str))=false:=by decide)
  (he:starEach (e :: es) X.env=(false,eval e X.env) :: starEach es X.env:=by rfl) (wR:(backTo pos (starEach es X.env)).any (·.1)=false:=by rfl):PE X (.Call (.Name x p) (e :: es) [] pos) (Mx r t):=by
 intro pins s σ H Q I h
 refine wpAny_Call_Name_kw (fQ I hg hm hv ?_ hn xt)
 exact PyProof.Rows.callWith_builtin1 (aN (ha pos pins s σ H _ I h) fun us s1 v9=>by obtain⟨vs,H1,I1,r1,q1⟩:=v9;exact hc pins s1 σ H1 vs us Q I1 r1 q1) he wR
theorem bC (hc:cp X (.type T) r)(hg:Gl X x)(hm:X.mg x=none)(hv:bootBuiltins x=some (.type T))(ha:PA X (e :: es) t)(hn:x ≠ "__name__":=by decide)(xt:(x == ("__debug__":Str))=false:=by decide)
  (he:starEach (e :: es) X.env=(false,eval e X.env) :: starEach es X.env:=by rfl) (wR:(backTo pos (starEach es X.env)).any (·.1)=false:=by rfl):PE X (.Call (.Name x p) (e :: es) [] pos) (Mx r t):=by
 intro pins s σ H Q I h
 refine wpAny_Call_Name_kw (fQ I hg hm hv ?_ hn xt)
 exact PyProof.Rows.callWith_type1 (aN (ha pos pins s σ H _ I h) fun us s1 v9=>by obtain⟨vs,H1,I1,r1,q1⟩:=v9;exact hc pins s1 σ H1 vs us Q I1 r1 q1) he wR
end
end L2
namespace HT
open PySem PyProof.Rows
section
open PySem.SeqAt
open PySem.AutoSeq1 (wpAny_loadPart')
open PySem.MeetsSeq PySem.MeetsSeq2 PySem.MeetsSeq3
end
section
variable {prog:Program}{w:World}{A:Around}{E:Value->Shared->Prop}{s:Shared}
end
end HT
namespace L2
open PySem PySem.Spec PyProof.Rows
section
variable {X:Cx}{e:Expr}{te:TE}{lo hi:Option Expr}{tl th:TO}{pos p2:Pos}
end
end L2
namespace L2
open PySem PySem.Spec PyProof.Rows
noncomputable def BR (n:Nat)(i:Int):Option Nat:=if 0 <= i then (if i < n then some i.toNat else none) else if -(n:Int) <= i then some (i + n).toNat else none
noncomputable def t8 {α:Type}(xs:List α)(i:Int):Option α:=(BR xs.length i).bind fun j=>xs[j]?
theorem sh {n:Nat}{i:Int}{j:Nat}(h:BR n i=some j):seqIndex? i n=some j/\j < n/\-(n:Int) <= i/\i < n:=by
 unfold BR at h
 by_cases h0:0 <= i
 ·rw[if_pos h0]at h
  by_cases h1:i < n
  ·rw[if_pos h1]at h
   have e:i.toNat=j:=Option.some.inj h
   exact⟨by rw[seqIndex_of h0 h1,e],by omega,by omega,h1⟩
  ·rw[if_neg h1]at h;cases h
 ·rw[if_neg h0]at h
  by_cases h1:-(n:Int) <= i
  ·rw[if_pos h1]at h
   have e:(i + n).toNat=j:=Option.some.inj h
   exact⟨by rw[seqIndex_neg (by omega) h1,e],by omega,h1,by omega⟩
  ·rw[if_neg h1]at h;cases h
theorem nC {α:Type}{xs:List α}{i:Int}{v:α}(h:t8 xs i=some v):∃ j,seqIndex? i xs.length=some j/\xs[j]? = some v/\j < xs.length/\-(xs.length:Int) <= i/\i < xs.length:=by
 unfold t8 at h
 cases e:BR xs.length i with
 | none=>rw[e]at h;cases h
 | some j =>
  rw[e]at h
  obtain⟨h1,h2,h3,h4⟩:=sh e
  exact⟨j,h1,h,h2,h3,h4⟩
theorem az {α:Type}{xs:List α}{j:Nat}{v:α}(h:xs[j]? = some v):t8 xs (j:Int)=some v:=by
 have hj:j < xs.length:=(List.getElem?_eq_some_iff.mp h).1
 have e:BR xs.length (j:Int)=some j:=by
  unfold BR
  rw[if_pos (by omega),if_pos (by omega)];simp
 unfold t8;rw[e];exact h
noncomputable def sJ (b:Expr):Prop:=∀ o i,subscripted b false o i=operate [o,i] (getItem o i)
noncomputable def sK (X:Cx)(r:R2):Prop :=
 ∀ (value slice:Expr)(pins:List (Addr × Obj))(s:Shared)(σ:St)(H:Hp)(x y:V)(v u:Value)(Q:VK),Inv X pins σ H s->RelV x v->RelV y u->r x y H Q ->
  subscripted slice false v u=operate [v,u] (getItem v u)->wpAny (model X.prog X.w) X.A (subscriptTail value slice v u) (EP X pins σ Q) X.xe s
noncomputable def MtR (X:Cx)(id:String)(r:V->List V->Hp->VK->Prop):Prop :=
 ∀ (pins:List (Addr × Obj))(s:Shared)(σ:St)(H:Hp)(x:V)(xs:List V)(v:Value)(us:List Value)(Q:VK),Inv X pins σ H s->RelV x v->Vals xs us->r x xs H Q ->
  wpAny (model X.prog X.w) X.A (call (.builtin id) (v :: us)) (EP X pins σ Q) X.xe s
section
variable {X:Cx}{a b:Expr}{ta tb:TE}{pos:Pos}
theorem aR {r:R2}(hr:sK X r)(ha:PE X a ta)(hb:PE X b tb)(hs:sJ b):PE X (.Subscript a b pos) (C8 r ta tb):=by
 intro pins s σ H Q I h
 exact Subscript_ (vm ha hb I h fun v u s2 x y H2 I2 rx ry q=>hr a b pins s2 σ H2 x y v u Q I2 rx ry q (hs _ _))
noncomputable def ut (K:Frag):R2:=fun x y H Q=>∃ p xs i v,x = .ref p/\y = .int i/\vG K H p xs/\t8 xs i=some v/\Q v H
noncomputable def p8 (K:Frag):R2:=fun x y H Q=>∃ p xs i v,x = .ref p/\y = .int i/\vO K H p xs/\t8 xs i=some v/\Q v H
theorem bP:sK X (ut X.K):=by
 intro value slice pins s σ H x y v u Q I rx ry h hs
 obtain⟨p,xs,i,z,rfl,rfl,hq,he,q⟩:=h
 cases rx
 obtain⟨t,rfl⟩:=ry
 obtain⟨vA,r,pl,hz⟩:=I.list hq
 obtain⟨j,h1,h2,h3,h4,h5⟩:=nC he
 obtain⟨w,ew,Ih⟩:=r.get h2
 have hl:=r.length
 have hn:=ia
 have fin:EP X pins σ Q w s:=⟨z,H,I,Ih,q⟩
 by_cases h0:0 <= i
 ·have hj:i.toNat=j:=by
   rw[seqIndex_of h0 h5]at h1
   exact Option.some.inj h1
  exact item_listR pl.isList h0 (by omega) (by rw[hj];simpa using ew) fin hs
 ·have hj:(i + (vA.toArray.size:Int)).toNat=j:=by
   rw[seqIndex_neg (by omega) h4]at h1
   rw[size_toArray,← hl]
   exact Option.some.inj h1
  exact subscriptTail_builtinR (x:=w) pl.isList.typeIs slot_list_getitem.lookup
   (wpAny_getItem_list_neg (Q:=fun r s'=>r=w/\EP X pins σ Q r s') pl.isList (by omega) (by rw[size_toArray]<;>omega) (by omega) (by rw[hj];simpa using ew) ⟨rfl,fin⟩) hs
theorem aW:sK X (p8 X.K):=by
 intro value slice pins s σ H x y v u Q I rx ry h hs
 obtain⟨p,xs,i,z,rfl,rfl,hq,he,q⟩:=h
 cases rx
 obtain⟨t,rfl⟩:=ry
 obtain⟨vA,r,pl,hz⟩:=I.tuple hq
 obtain⟨j,h1,h2,h3,h4,h5⟩:=nC he
 obtain⟨w,ew,Ih⟩:=r.get h2
 have hl:=r.length
 have hn:=ia
 have fin:EP X pins σ Q w s:=⟨z,H,I,Ih,q⟩
 exact subscriptTail_builtinR (x:=w) pl.typeIs slot_tuple_getitem.lookup
  (getItem_tuple (j:=j) (Q:=fun r s'=>r=w/\EP X pins σ Q r s') pl (by omega) (by omega) (by rw[size_toArray,← hl];exact h1) (by simpa using ew) ⟨rfl,fin⟩) hs
noncomputable def fv:V->Bool
 | .vJ=>true
 | .bl _=>true
 | .int _=>true
 | .str _=>true
 | _=>false
noncomputable def t0:V->V->Bool
 | .vJ, .vJ=>true
 | .bl a, .bl b=>a == b
 | .bl a, .int b=>(if a then 1 else 0) == b
 | .int a, .bl b=>a == (if b then 1 else 0)
 | .int a, .int b=>a == b
 | .str a, .str b=>a == b
 | _,_=>false
theorem vb {A:Around}{s:Shared}{y x:V}{u v:Value}(ry:RelV y u)(rx:RelV x v)(fy:fv y=true)(fx:fv x=true):SeqAt.EqAt A s u v (t0 y x):=by
 cases y with
 | vJ =>
  cases ry
  cases x with
  | vJ=>cases rx;exact SeqAt.EqAt.same _
  | bl b=>cases rx;exact SeqAt.EqAt.none_bool b
  | int b=>obtain⟨t,rfl⟩:=rx;exact SeqAt.EqAt.none_int b t
  | str b=>obtain⟨t,rfl⟩:=rx;exact SeqAt.EqAt.none_str b t
  | _=>exact absurd (show false=true from fx) Bool.false_ne_true
 | bl a =>
  cases ry
  cases x with
  | vJ=>cases rx;exact SeqAt.EqAt.bool_none a
  | bl b=>cases rx;exact SeqAt.EqAt.bool_bool a b
  | int b=>obtain⟨t,rfl⟩:=rx;exact SeqAt.EqAt.bool_int a b t
  | str b=>obtain⟨t,rfl⟩:=rx;exact SeqAt.EqAt.bool_str a b t
  | _=>exact absurd (show false=true from fx) Bool.false_ne_true
 | int a =>
  obtain⟨t',rfl⟩:=ry
  cases x with
  | vJ=>cases rx;exact SeqAt.EqAt.int_none a t'
  | bl b=>cases rx;exact SeqAt.EqAt.int_bool a t' b
  | int b=>obtain⟨t,rfl⟩:=rx;exact SeqAt.EqAt.int_int a t' b t
  | str b=>obtain⟨t,rfl⟩:=rx;exact SeqAt.EqAt.int_str a t' b t
  | _=>exact absurd (show false=true from fx) Bool.false_ne_true
 | str a =>
  obtain⟨t',rfl⟩:=ry
  cases x with
  | vJ=>cases rx;exact SeqAt.EqAt.str_none a t'
  | bl b=>cases rx;exact SeqAt.EqAt.str_bool a t' b
  | int b=>obtain⟨t,rfl⟩:=rx;exact SeqAt.EqAt.str_int a t' b t
  | str b=>obtain⟨t,rfl⟩:=rx;exact SeqAt.EqAt.str_str a t' b t
  | _=>exact absurd (show false=true from fx) Bool.false_ne_true
 | _=>exact absurd (show false=true from fy) Bool.false_ne_true
noncomputable def sm (x:V)(u:Value):Bool:=match u with
 | .none=>t0 .vJ x
 | .bool b=>t0 (.bl b) x
 | .int i _=>t0 (.int i) x
 | .str z _=>t0 (.str z) x
 | _=>false
theorem qz {x y:V}{u:Value}(r:RelV y u)(f:fv y=true):sm x u=t0 y x:=by
 cases y with
 | vJ=>cases r;rfl
 | bl b=>cases r;rfl
 | int i=>obtain⟨t,rfl⟩:=r;rfl
 | str z=>obtain⟨t,rfl⟩:=r;rfl
 | _=>exact absurd (show false=true from f) Bool.false_ne_true
theorem jL {x:V}:∀ {xs:List V}{us:List Value},Vals xs us->xs.all fv=true->us.any (sm x)=xs.any fun y=>t0 y x
 | _,_, .nil,_=>rfl
 | y :: xs,u :: us, .cons r t,f=>by
  rw[all_cons,Bool.and_eq_true]at f
  rw[any_cons,any_cons,qz r f.1,jL t f.2]
theorem hZ {A:Around}{s:Shared}{x:V}{v:Value}(rx:RelV x v)(fx:fv x=true):∀ {xs:List V}{us:List Value},Vals xs us->xs.all fv=true->∀ u ∈ us,SeqAt.EqAt A s u v (sm x u)
 | _,_, .nil,_=>fun u hu=>by cases hu
 | y :: xs,u :: us, .cons r t,f=>fun u' hu=>by
  rw[all_cons,Bool.and_eq_true]at f
  rcases mem_cons.mp hu with rfl | hu
  ·rw[qz r f.1];exact vb r rx f.1 fx
  ·exact hZ rx fx t f.2 u' hu
noncomputable def BS (x:V)(xs:List V):Bool:=xs.any fun y=>t0 y x
noncomputable def rIn (K:Frag)(neg:Bool):R2:=fun x y H Q=>∃ p xs,y = .ref p/\(vG K H p xs∨vO K H p xs)/\fv x=true/\xs.all fv=true/\Q (.bl (if neg then !BS x xs else BS x xs)) H
theorem nY:eG X (compareOp .In) (rIn X.K false):=by
 intro pins s σ H x y v u Q I rx ry h
 obtain⟨p,xs,rfl,hq,fx,fs,q⟩:=h
 cases ry
 rcases hq with hq | hq
 ·obtain⟨vA,r,pl,hz⟩:=I.list hq
  refine SeqAt.in_listAt (sm x) pl.isList (fun w hw=>hZ rx fx r fs w (by simpa using hw)) ⟨.bl _,H,I,rfl,?_⟩
  rw[show vA.toArray.any (sm x)=vA.any (sm x) by simp,jL r fs]
  exact q
 ·obtain⟨vA,r,pl,hz⟩:=I.tuple hq
  refine SeqAt.in_tupleAt (sm x) pl (fun w hw=>hZ rx fx r fs w (by simpa using hw)) ⟨.bl _,H,I,rfl,?_⟩
  rw[show vA.toArray.any (sm x)=vA.any (sm x) by simp,jL r fs]
  exact q
theorem aJ:cp X (.builtin "len") (fun xs H Q=>∃ p ys,xs=[.ref p]/\(vG X.K H p ys∨vO X.K H p ys)/\Q (.int ys.length) H):=by
 intro pins s σ H xs us Q I r h
 obtain⟨p,ys,rfl,hq,q⟩:=h
 obtain⟨u,rfl,rx⟩:=gG r
 cases rx
 have hn:=ia
 rcases hq with hq | hq
 ·obtain⟨vA,r',pl,hz⟩:=I.list hq
  have hlen:=r'.length
  exact Calls.call_len_list pl.isList (by simp only[size_toArray]<;>omega) ⟨.int ys.length,H,I.tok _,⟨s.toks + 1,by rw[size_toArray,hlen]⟩,q⟩
 ·obtain⟨vA,r',pl,hz⟩:=I.tuple hq
  have hlen:=r'.length
  exact len_tuple pl (by simp only[size_toArray]<;>omega) ⟨.int ys.length,H,I.tok _,⟨s.toks + 1,by rw[size_toArray,hlen]⟩,q⟩
theorem jJ:cp X (.builtin "len") (fun xs H Q=>∃ z,xs=[.str z]/\z.length <= sizeLine/\Q (.int z.length) H):=by
 intro pins s σ H xs us Q I r h
 obtain⟨z,rfl,hz,q⟩:=h
 obtain⟨u,rfl,t,rfl⟩:=gG r
 have hn:=ia
 exact len_str (by omega) ⟨.int z.length,H,I.tok _,⟨_,rfl⟩,q⟩
theorem bW:cp X (.type "tuple") (fun xs H Q=>∃ p ys,xs=[.ref p]/\((vG X.K H p ys/\∀ l,H l=none->Q (.ref l) (upd H l (.tup ys)))∨(vO X.K H p ys/\Q (.ref p) H))):=by
 intro pins s σ H xs us Q I r h
 obtain⟨p,ys,rfl,h⟩:=h
 obtain⟨u,rfl,rx⟩:=gG r
 cases rx
 rcases h with ⟨hq,q⟩ | ⟨hq,q⟩
 ·obtain⟨vA,r',pl,hz⟩:=I.list hq
  have hlen:=r'.length
  refine call_tuple_list pl.isList (fun h' kp=>?_) (by simp only[size_toArray]<;>omega)
  have I1:Inv X pins σ H { s with heap:=h' }:=I.kept (t':=s.toks) kp
  have I2:Inv X pins σ (upd H h'.objs.size (.tup ys)) { s with heap:=h'.push { cls := .type "tuple",data := .seq vA.toArray } } :=
   I1.laid (t':=s.toks) (fun b o e=>Heap.get?_push_of_some _ e) (le_refl _) (show vL X.prog X.w _ _ _ (.tup ys) from ⟨hz,vA,r',wH.new _ _⟩)
  exact⟨.ref h'.objs.size,_,I2,rfl,q _ (I1.vD.fresh (le_refl _))⟩
 ·obtain⟨vA,r',pl,hz⟩:=I.tuple hq
  exact call_tuple_same pl ⟨.ref p,H,I,rfl,q⟩
noncomputable def Mz (K:Frag)(T:String)(x:V)(H:Hp):Prop:=match x with
 | .str _=>T = "str"
 | .int _=>T = "int"
 | .ref p=>(T = "list"/\∃ xs,vG K H p xs)∨(T = "tuple"/\∃ o,K.lookup p=some o/\o.cls = .type "tuple"/\o.dict=none) ∨
   (T = "dict"/\((∃ kvs,H p=some (.dK kvs))∨∃ kvs,H p=some (.dT kvs)))∨(T = "set"/\∃ S n,H p=some (.set S n))
 | _=>False
theorem tJ {pins:List (Addr × Obj)}{σ:St}{H:Hp}{s:Shared}{T:String}{x:V}{v:Value}(I:Inv X pins σ H s)(r:RelV x v)(ty:Mz X.K T x H) :
  s.TypeIs v T/\∀ a,v = .ref a->∃ ob,s.heap.get? a=some ob/\ob.dict=none:=by
 cases x with
 | str z =>
  obtain⟨t,rfl⟩:=r
  cases (show T = "str" from ty)
  exact⟨typeIs_str s z t,fun _ e=>nomatch e⟩
 | int i =>
  obtain⟨t,rfl⟩:=r
  cases (show T = "int" from ty)
  exact⟨typeIs_int s i t,fun _ e=>nomatch e⟩
 | ref p =>
  cases r
  rcases ty with ⟨rfl,xs,hq⟩ | ⟨rfl,o,hk,hc,hd⟩ | ⟨rfl,hk⟩ | ⟨rfl,S,n,hk⟩
  ·obtain⟨vA,_,pl,_⟩:=I.list hq
   refine⟨pl.isList.typeIs,fun a e=>?_⟩
   cases e
   obtain⟨o,n,e,c,hd,_⟩:=pl
   exact⟨o,e,hd⟩
  ·refine⟨⟨o,I.vY p o hk,hc⟩,fun a e=>?_⟩
   cases e
   exact⟨o,I.vY _ o hk,hd⟩
  ·have z:∃ o,s.heap.get? p=some o/\o.ExactDict:=by
    rcases hk with ⟨kvs,hk⟩ | ⟨kvs,hk⟩
    ·obtain⟨_,_,_,_,o,_,_,e,ex,_⟩:=I.vD p _ hk
     exact⟨o,e,ex⟩
    ·obtain⟨_,_,_,_,o,_,_,e,ex,_⟩:=I.vD p _ hk
     exact⟨o,e,ex⟩
   obtain⟨o,e,ex⟩:=z
   refine⟨⟨o,e,ex.1⟩,fun a e2=>?_⟩
   cases e2
   exact⟨o,e,ex.2.1⟩
  ·obtain⟨o,_,_,_,e,ex,_⟩:=I.vD p _ hk
   refine⟨⟨o,e,ex.1⟩,fun a e2=>?_⟩
   cases e2
   exact⟨o,e,ex.2.1⟩
 | _=>exact False.elim ty
noncomputable def tBM (K:Frag)(T:String)(r:V->List V->Hp->VK->Prop)(to:TE)(t:TA):TE:=fun σ H Q=>to σ H fun x H1=>Mz K T x H1/\t σ H1 fun xs H2=>r x xs H2 Q
variable {o e:Expr}{es:List Expr}{to:TE}{t:TA}{name:Str}{apos xj:Pos}{T id:String}{r:V->List V->Hp->VK->Prop}
theorem fZ (pa:PlainAttrs T)(slot:Slot T name id)(hty:typeOf (.builtin id)=pure (.type "method_descriptor"))(hm:MtR X id r)(ho:PE X o to)(ha:PA X (e :: es) t)
  (xR:attributeBase o name X.env (eval o X.env)=eval o X.env:=by rfl)
  (Bc:((backTo xj (starEach (e :: es) X.env)).all (fun x=>!x.1) && (backToKw xj (keywordEach [] X.env)).all (fun x=>x.1.isSome)
   && decide ((e :: es).length + ([]:List Keyword).length + (if ([]:List Keyword).isEmpty then 0 else 1) < 30))=true:=by rfl)
  (CJ:(apos.endLine == xj.line)=true:=by rfl) (hs:starEach (e :: es) X.env=(false,eval e X.env) :: starEach es X.env:=by rfl) (Bd:(backTo xj (starEach es X.env)).any (·.1)=false:=by rfl) :
  PE X (.Call (.Attribute o name apos) (e :: es) [] xj) (tBM X.K T r to t):=by
 intro pins s σ H Q I h
 refine wpAny_Call_method_late xR Bc CJ rfl (aN (ho pins s σ H _ I h) fun v s1 v9=>?_)
 obtain⟨x,H1,I1,r1,ty,q1⟩:=v9
 obtain⟨h1,h2⟩:=tJ I1 r1 ty
 refine⟨T,id,pa,slot,hty,h1,h2,?_⟩
 have hA:=ha xj pins s1 σ H1 _ I1 q1
 rw[hs]at hA ⊢
 refine Calls.callWith_builtin (by show(false || (backTo xj (starEach es X.env)).any (·.1))=false;rw[Bd]<;>rfl) (Calls.evalArgs_plain ?_)
 exact aN hA fun us s2 v9=>by obtain⟨vs,H2,I2,r2,q2⟩:=v9;exact hm pins s2 σ H2 x vs v us Q I2 r1 r2 q2
end
end L2
namespace L2
open PySem PySem.Spec PyProof.Rows
noncomputable def Ii (X:Cx)(id:String)(r:V->List V->Hp->VK->Prop):Prop :=
 ∀ (pins:List (Addr × Obj))(s:Shared)(σ:St)(H:Hp)(x:V)(xs:List V)(v:Value)(us:List Value)(Q:VK),Inv X pins σ H s->RelV x v->Vals xs us->r x xs H Q ->
  wpAny (model X.prog X.w) X.A (call (.builtin id) (v :: us)) (EP X pins σ Q) X.xe s
theorem Vals.one:∀ {x:V}{us:List Value},Vals [x] us->∃ u,us=[u]/\RelV x u:=by
 intro x us h
 cases h with
 | cons r t=>cases t;exact⟨_,rfl,r⟩
theorem Vals.rep {xs:List V}{us:List Value}(h:Vals xs us):∀ k:Nat,Vals (List.replicate k xs).flatten (List.replicate k us).flatten
 | 0 => .nil
 | k + 1=>by
  rw[replicate_succ,replicate_succ,flatten_cons,flatten_cons]
  exact Vals.append h (Vals.rep h k)
theorem iV (vA:List Value):∀ (k:Nat)(acc:List Value),
  List.foldl (fun x1 x2=>x1 ++ x2) acc.toArray (List.replicate k vA.toArray)=(acc ++ (List.replicate k vA).flatten).toArray
 | 0,acc=>by simp
 | k + 1,acc=>by
  have e:acc.toArray ++ vA.toArray=(acc ++ vA).toArray:=by simp
  have e2:(acc ++ vA) ++ (List.replicate k vA).flatten=acc ++ (List.replicate (k + 1) vA).flatten:=by
   rw[replicate_succ,flatten_cons,append_assoc]
  rw[← e2,← iV vA k (acc ++ vA),← e,replicate_succ,List.foldl_cons]
section
variable {X:Cx}{pins:List (Addr × Obj)}{σ:St}{H:Hp}{s:Shared}{l b:Addr}{xs ys zs:List V}
theorem Inv.CK {vA its':List Value}{n:Nat}{f:Array Value->Array Value}{t':Nat}(I:Inv X pins σ H s)(hH:H l=some (.lst xs))
  (e:s.heap.get? l=some { cls := .type "list",data := .seq vA.toArray n }) (hf:f vA.toArray=its'.toArray) (hv:Vals ys its') (hz:ys.length <= sizeLine) :
  Inv X pins σ (upd H l (.lst ys)) { s with heap:=s.heap.update l (Obj.mapSeq f),toks:=t' }:=by
 have q:=PySem.IsL.update e f
 rw[hf]at q
 refine I.write (x:=l) (e:=l) (by rw[hH];exact trivial) (.inl rfl) (fun b' u hb hu=>(Heap.get?_update_other s.heap (Obj.mapSeq f) (Ne.symm hb)).trans hu) ⟨_,q⟩ ?_
 exact⟨hz,its',_,hv,q⟩
theorem Inv.CL {vA:List Value}{t':Nat}(I:Inv X pins σ H s)(hv:Vals ys vA)(hz:ys.length <= sizeLine) :
  Inv X pins σ (upd H s.heap.objs.size (.lst ys)) { s with heap:=s.heap.push { cls := .type "list",data := .seq vA.toArray },toks:=t' } :=
 I.laid (fun _ _ q=>Heap.get?_push_of_some _ q) (le_refl _) ⟨hz,vA,0,hv,Heap.get?_push_size _ rfl⟩
theorem Inv.fresh (I:Inv X pins σ H s):H s.heap.objs.size=none:=I.vD.fresh (le_refl _)
theorem Inv.yH (I:Inv X pins σ H s)(hH:H l=some (.lst xs)):xs.length <= sizeLine/\∃ (vA:List Value)(n:Nat),Vals xs vA/\xs.length=vA.length/\s.heap.get? l=some { cls := .type "list",data := .seq vA.toArray n }:=by
 obtain⟨z,vA,n,r,e⟩:=I.vD l _ hH
 exact⟨z,vA,n,r,r.length,e⟩
theorem kz {n:Nat}(h:n <= sizeLine):Builtin.List.listTooLong n=false:=by
 unfold Builtin.List.listTooLong
 exact decide_eq_false (by omega)
end
section
variable {X:Cx}
noncomputable def rl:V->List V->Hp->VK->Prop:=fun x vs H Q=>∃ l xs y,x = .ref l/\vs=[y]/\H l=some (.lst xs)/\xs.length < sizeLine/\Q .vJ (upd H l (.lst (xs ++ [y])))
theorem cS:Ii X "list.append" rl:=by
 intro pins s σ H x vs v us Q I rx rv h
 obtain⟨l,xs,y,rfl,rfl,hH,hz,q⟩:=h
 cases rx
 obtain⟨u,rfl,ru⟩:=rv.one
 obtain⟨z,vA,n,r,hl,e⟩:=I.yH hH
 refine call_meets F.slot_list_append ⟨_,e,rfl⟩ F.entry_list_append (F.args_list_append_2 _ _) (PySem.list_append l vA.toArray n u (by rw[size_toArray];omega)) ⟨e,?_⟩
 refine⟨.vJ,_,I.CK (its':=vA ++ [u]) hH e (by simp) (r.append (.cons ru .nil)) ?_,rfl,q⟩
 rw[length_append,List.length_singleton]
 omega
noncomputable def rk:V->List V->Hp->VK->Prop:=fun x vs H Q=>∃ l b xs zs,x = .ref l/\vs=[.ref b]/\H l=some (.lst xs)/\H b=some (.lst zs)/\xs.length + zs.length <= sizeLine/\Q .vJ (upd H l (.lst (xs ++ zs)))
theorem om:Ii X "list.extend" rk:=by
 intro pins s σ H x vs v us Q I rx rv h
 obtain⟨l,b,xs,zs,rfl,rfl,hH,hB,hz,q⟩:=h
 cases rx
 obtain⟨u,rfl,ru⟩:=rv.one
 cases ru
 obtain⟨z,vA,n,r,hl,e⟩:=I.yH hH
 obtain⟨z2,yq,n2,r2,yZ,e2⟩:=I.yH hB
 have hsz:vA.toArray.size + yq.toArray.size <= sizeLine:=by rw[size_toArray,size_toArray];omega
 have za:¬ (!vA.toArray.isEmpty && Builtin.List.listTooLong (vA.toArray.size + yq.toArray.size))=true:=by
  rw[kz hsz,Bool.and_false]
  exact Bool.false_ne_true
 refine call_meets F.slot_list_extend ⟨_,e,rfl⟩ F.entry_list_extend (F.args_list_extend_2 _ _)
  (AutoSeq1.list_extend_list_list_0 l vA.toArray n b yq.toArray n2 za (by rw[size_toArray];omega) (by omega)) ⟨e,e2,?_⟩
 refine⟨.vJ,_,I.CK (its':=vA ++ yq) hH e (by simp) (r.append r2) ?_,rfl,q⟩
 rw[length_append]
 omega
noncomputable def Ij:R2:=fun x y H Q=>∃ l b xs zs,x = .ref l/\y = .ref b/\H l=some (.lst xs)/\H b=some (.lst zs)/\xs.length + zs.length <= sizeLine/\∀ p,H p=none->Q (.ref p) (upd H p (.lst (xs ++ zs)))
theorem j5:eG X (binaryOp .Add) Ij:=by
 intro pins s σ H x y v u Q I rx ry h
 obtain⟨l,b,xs,zs,rfl,rfl,hH,hB,hz,q⟩:=h
 cases rx
 cases ry
 obtain⟨z,vA,n,r,hl,e⟩:=I.yH hH
 obtain⟨z2,yq,n2,r2,yZ,e2⟩:=I.yH hB
 refine PySem.P.add_list e e2 ?_ (by rw[size_toArray,size_toArray];omega)
 have ea:vA.toArray ++ yq.toArray=(vA ++ yq).toArray:=by simp
 rw[ea]
 exact⟨.ref _,_,I.CL (t':=s.toks) (r.append r2) (by rw[length_append];omega),rfl,q _ I.fresh⟩
noncomputable def Ik:R2:=fun x y H Q=>∃ l k xs,x = .ref l/\y = .int k/\H l=some (.lst xs)/\-(2 ^ 63) <= k/\k < 2 ^ 63/\xs.length * k.toNat <= sizeLine /\
 ∀ p,H p=none->Q (.ref p) (upd H p (.lst (List.replicate k.toNat xs).flatten))
theorem sd {α:Type}(xs:List α)(k:Nat):(List.replicate k xs).flatten.length=k * xs.length:=by
 induction k with
 | zero=>simp
 | succ k ih=>rw[replicate_succ,flatten_cons,length_append,ih,Nat.succ_mul,Nat.add_comm]
theorem pK:eG X (binaryOp .Mult) Ik:=by
 intro pins s σ H x y v u Q I rx ry h
 obtain⟨l,k,xs,rfl,rfl,hH,h1,h2,hz,q⟩:=h
 cases rx
 obtain⟨t,rfl⟩:=ry
 obtain⟨z,vA,n,r,hl,e⟩:=I.yH hH
 have hlen:vA.toArray.size * k.toNat <= sizeLine:=by rw[size_toArray,← hl];exact hz
 have Il:¬ vA.toArray.size * k.toNat > (2 ^ 63 - 1) / 8:=by
  have:(sizeLine:Nat) <= (2 ^ 63 - 1) / 8:=by decide
  omega
 have Im:¬ (!Builtin.List.listFitsIndex k)=true:=by
  rw[fitsIndex_both h1 h2]
  exact Bool.false_ne_true
 have za:¬ Builtin.List.listTooLong (vA.toArray.size * k.toNat)=true:=by
  rw[kz hlen]
  exact Bool.false_ne_true
 have Io:List.foldl (fun x1 x2=>x1 ++ x2) #[] (List.replicate (if vA.toArray.isEmpty=true then 0 else k.toNat) vA.toArray)=(List.replicate k.toNat vA).flatten.toArray:=by
  have f0:∀ m:Nat,List.foldl (fun x1 x2=>x1 ++ x2) #[] (List.replicate m vA.toArray)=(List.replicate m vA).flatten.toArray:=fun m=>by
   have:=iV vA m []
   rw[nil_append]at this
   exact this
  rw[f0]
  cases vA with
  | nil=>simp
  | cons a r'=>rw[if_neg (by simp)]
 refine wpAny_binaryOp_repeat_ref (T := "list") (U := "int") (by decide) ⟨_,e,rfl⟩ (fun s'=>typeIs_int s' k t) noFill_list_mul F.fills_int_mul F.slot_int_rmul repeat_list F.slot_int_index.lookup
  (call_meets F.slot_int_rmul (typeIs_int s k t) F.entry_int_rmul (F.args_int_rmul_2 _ _) (int___rmul___int_list k t l vA.toArray n)
   ⟨e,rfl,⟨_,e,rfl⟩,call_meets F.slot_list_mul ⟨_,e,rfl⟩ F.entry_list_mul (F.args_list_mul_2 _ _) (AutoListH.list___mul___list_int_3 l vA.toArray n k t Im Il za) ⟨e,?_⟩⟩)
 rw[Io]
 exact⟨.ref _,_,I.CL (t':=s.toks) (r.rep k.toNat) (by rw[sd,Nat.mul_comm];exact hz),rfl,q _ I.fresh⟩
end
section
variable {prog:Program}{w:World}{A:Around}{E:Value->Shared->Prop}{s:Shared}
set_option maxRecDepth 100000 in
end
section
variable {X:Cx}
end
end L2
namespace M0
open PySem PySem.W PySem.Calls PyProof.Rows
theorem gp {P:Params}{h:Heap}:∀ (ns:List Int)(vs:List Value),WellAll P h vs (ns.map WData.int)->IntsAre vs ns:=by
 intro ns
 induction ns with
 | nil =>
  intro vs w
  rw[map_nil]at w
  cases w
  exact .nil
 | cons n ns ih =>
  intro vs w
  rw[map_cons]at w
  cases w with
  | cons a b =>
   cases a
   exact .cons _ _ (ih _ b)
theorem nM {l:OpenLaw}{n:Nat}(hn:l.most=some n){P:Params}{h:Heap}{args:List WData}{vals:List Value}
  (zO:l.row.toRowW.claim.pre args=true) (Ip:WellAll P h vals args) :
  ∃ a vs ns,vals=[Value.ref a]/\args=[WData.list (ns.map WData.int)]/\h.get? a=some { cls := .type "list",data := .seq vs.toArray }/\IntsAre vs ns/\ns.length <= n:=by
 have hsh:WShape.hasAll [] args [.list .int]=true:=(pre_splitW zO).1
 have hc:l.pre.holds [] { args:=args } = true:=(pre_splitW zO).2
 obtain⟨d,r,rfl,h1,h2⟩:=hasAllW_cons hsh
 obtain rfl:=hasAllW_nil h2
 obtain⟨xs,rfl,h3⟩:=hasW_list h1
 obtain⟨ns,rfl⟩:=items_int h3
 have hlen:ns.length <= n:=by
  unfold OpenLaw.pre at hc
  have h4:(WTm.not (.lt (.lit (.int (n:Int))) (.len (.arg 0)))).holds [] { args:=[.list (ns.map .int)] } = true:=by
   have h4:=(holds_andW hc).1
   rw[hn]at h4
   exact h4
  have h5:=condW_of h4 (w_not (w_lt w_lit (w_len_list (w_arg rfl))))
  rw[length_map]at h5
  refine Nat.le_of_not_lt fun q=>?_
  have q':(n:Int) < ((ns.length:Nat):Int):=by omega
  first
   | (rw[decide_eq_true q']at h5;exact absurd h5 (by decide))
   | (simp at h5;omega)
 cases Ip with
 | cons w1 w2 =>
  cases w2
  cases w1 with
  | list ho xu=>exact⟨_,_,ns,rfl,rfl,ho,gp ns _ xu,hlen⟩
theorem nQ (l:OpenLaw)(args:List WData):l.row.toRowW.claim.post args (.bool true) args=true :=
 postW_of (r:=l.row.toRowW) (X:=(true == true))
  (show WShape.has [] (.bool true) .bool=true by first | rfl | decide | simp[WShape.has,WShape.arms,WShape.armsAll])
  (show(WTm.eq .res (.lit (.bool true))).value [] { args:=args,res:=some (.bool true),after:=args } = some (.bool (true == true)) from w_eq_bool (w_res rfl) w_lit) rfl
theorem xS {l:OpenLaw}{n:Nat}{q:Program}{loose:List Str}{XP:(Str->Option Value)->Heap->Prop}{YP:World->Heap->Prop}{d:DefRec}
  (hn:l.most=some n) (CM:d.params.defaults=[])
  (call:∀ (w:World)(s₀ s₁:Shared)(mg mb:Str->Option Value)(fa:Addr)(o:Obj)(pm cd doc:Value)(a:Addr)(vs:List Value)(ns:List Int),
   Ground q loose [] XP w s₀ mg mb s₁.heap->YP w s₁.heap ->
   s₁.heap.get? fa=some o->o.data = .func (docDef d.name d.params d.body d.scope pm cd doc)->s₁.heap.CodeRec cd d.name->mg d.name=some (.ref fa) ->
   s₁.heap.get? a=some { cls := .type "list",data := .seq vs.toArray }->IntsAre vs ns->ns.length <= n->s₁.gens = #[] ->
   codeAny (model l.prog w) callerA (.call (.ref fa) ⟨[.ref a],[]⟩) (fun r s'=>r = .ok (.ret (.bool true))/\OldK s₁.heap s'.heap/\s'.os=s₁.os/\AllBare s'.gens) s₁) :
  WalkO q loose XP YP l.row.toRowW d [] (fun f vs=>PySem.call f vs):=by
 intro w s₀ s₁ mg mb G Y fa o pm cd doc dV kV ho hd xO hD hmg hg args vals as zO hlay hrd Ip hlo
 obtain rfl:dV = .none:=Dflts.none hD CM
 obtain rfl:kV = .none:=Dflts.noKw hD
 obtain⟨a,vs,ns,rfl,rfl,Be,hints,hlen⟩:=nM hn zO Ip
 refine enter_call (codeAny_mono (call w s₀ s₁ mg mb fa o pm cd doc a vs ns G Y ho (fd_plain hd) xO hmg Be hints hlen hg) fun r s' hq=>?_)
 obtain⟨rfl,h2,h3,h4⟩:=hq
 exact⟨.inl ⟨.bool true, .bool true,[],rfl,fun _=>rfl, .bool true,nQ l _,fun _=>⟨List.Pairwise.nil,fun _ hm=>(nomatch hm)⟩⟩,h2,h3,h4⟩
section
variable {prog:Program}{w:World}{A:Around}{E:Value->Shared->Prop}{s:Shared}{K:Frag}
end
end M0
namespace L2
open PySem PySem.Spec PyProof.Rows
theorem iJ:∀ {vs:List Value}{ns:List Int},IntsAre vs ns->Vals (ns.map V.int) vs
 | _,_, .nil => .nil
 | _,_, .cons n t h => .cons ⟨t,rfl⟩ (iJ h)
noncomputable def vv (H:Hp):Prop:=∀ b,H b=none∨∃ o xs,H b=some (.yk o (.lst xs))
theorem qt {P:Program}{w:World}{K:Frag}{mg mb:Str->Option Value}{CX:iH}{k:Nat}{fa a:Addr}{fd:FuncData}{x:Str}{sp:Sp}{s₁:Shared}{vs:List Value}{ns:List Int}
  (KX:K.In s₁.heap) (An:s₁.heap.Ns mainGlobals mg) (hb:s₁.heap.Ns builtinsNs mb) (hbb:∀ x:Str,x ≠ "__name__"->mb x=bootBuiltins x) (Iq:s₁.heap.NoLimit) (hg:s₁.gens = #[])
  (ha:s₁.heap.get? a=some { cls := .type "list",data := .seq vs.toArray }) (hi:IntsAre vs ns) (hl:ns.length <= sizeLine) (hr:vE k callerA)
  (F:∀ base:Heap,K.In base->base.Ns mainGlobals mg->v7 P w K mg base CX k fa fd [x] sp) (CN:∀ (s:Shared)(u:Value),BindsTo s fd ⟨[u],[]⟩ [(x,u)])
  (yp:∀ H:Hp,vv H->vG K H a (ns.map V.int)->sp [.ref a] H (fun v _=>v = .bl true) fun _ _ _=>False)
  (Ir:∀ H e s',CX [] H s₁ (fun _ _ _=>False) e s'->False) :
  codeAny (model P w) callerA (.call (.ref fa) ⟨[.ref a],[]⟩) (fun r s'=>r = .ok (.ret (.bool true))/\OldK s₁.heap s'.heap/\s'.os=s₁.os/\AllBare s'.gens) s₁:=by
 have rv:=iJ hi
 have Iu:=hi.length
 have core:∀ H:Hp,vv H->vG K H a (ns.map V.int)->wt P w H s₁.heap->(∀ b,H b ≠ none->b=a)->(H a ≠ none->K.lookup a=none) ->
   codeAny (model P w) callerA (.call (.ref fa) ⟨[.ref a],[]⟩) (fun r s'=>r = .ok (.ret (.bool true))/\OldK s₁.heap s'.heap/\s'.os=s₁.os/\AllBare s'.gens) s₁:=by
  intro H hO hS vD hA hK
  have base_of:∀ {b:Addr}{o:Obj},s₁.heap.get? b=some o->H b=none->(jG s₁.heap H).get? b=some o:=fun e n=>qv e n
  have zN:∀ {b:Addr}{o:Obj}{es:Array DictEntry}{ep:Nat},s₁.heap.get? b=some o->o.data = .dict es ep->H b=none:=fun {b o es ep} e d=>by
   cases q:H b with
   | none=>rfl
   | some u =>
    have e':b=a:=hA b (by rw[q];simp)
    subst e'
    rw[ha]at e;cases e
    have d':Data.seq vs.toArray _=Data.dict es ep:=d
    cases d'
  have Gj:∀ {b:Addr}{m:Str->Option Value},s₁.heap.Ns b m->(jG s₁.heap H).Ns b m:=fun {b m} ⟨o,es,ep,e,d,r⟩=>⟨o,es,ep,base_of e (zN e d),d,r⟩
  have M1:K.In (jG s₁.heap H):=fun b o e=>base_of (KX b o e) (by
   cases q:H b with
   | none=>rfl
   | some u =>
    have e':b=a:=hA b (by rw[q];simp)
    subst e'
    rw[hK (by rw[q];simp)]at e;cases e)
  have hM:Mod K mg (jG s₁.heap H):=⟨M1,Gj An,⟨mb,Gj hb,hbb⟩,let ⟨mc,h1,h2⟩:=Iq; ⟨mc,Gj h1,h2⟩⟩
  have e0:xr P w K mg (jG s₁.heap H) callerA [] s₁ H:=⟨rfl,hM,fun b o e=>rT e,le_of_eq (oy _ _),trivial,fun b hb=>absurd (show b ∈ ([]:List Addr) from hb) (by simp),vD, .of_eq hg⟩
  refine codeAny_mono ((F _ M1 (Gj An)).run callerA [] s₁ H ⟨[.ref a],[]⟩ [.ref a] [.ref a] _ _ hr e0 (CN s₁ (.ref a)) (.cons rfl .nil) (yp H hO hS)) fun r s' h=>?_
  cases r with
  | error e=>exact(Ir H e s' h).elim
  | ok fl =>
   cases fl with
   | next=>exact False.elim h
   | brk=>exact False.elim h
   | cont=>exact False.elim h
   | ret u =>
    obtain⟨v,H',os,bare,un,Iv,r',q⟩:=h
    have q':v = .bl true:=q
    subst q'
    obtain rfl:u=Value.bool true:=r'
    refine⟨rfl,OldK.of_keep fun b o e=>?_,os,bare⟩
    cases q:H b with
    | none=>exact un.keep b o e q (by intro z;exact absurd (show b ∈ ([]:List Addr) from z) (by simp)) (by simp)
    | some u =>
     rcases hO b with z | ⟨ob,xs,z⟩
     ·rw[q]at z;cases z
     ·have z2:=un.wQ b ob _ z
      obtain⟨e1,_⟩:=vD b _ z
      obtain⟨e2,_⟩:=Iv b _ z2
      rw[e]at e1;cases e1
      exact e2
 cases hk:K.lookup a with
 | some o =>
  have e:=KX a o hk
  rw[ha]at e
  cases e
  refine core (fun _=>none) (fun _ => .inl rfl) (.inr ⟨_,vs.toArray,_,hk,rfl,rfl,rfl,by rw[size_toArray,Iu];exact hl,by simpa using rv⟩) (fun b u z=>by have z':(none:Option HO)=some u:=z;cases z') (fun b z=>absurd rfl z) fun z=>absurd rfl z
 | none =>
  refine core (fun b=>if b=a then some (.yk { cls := .type "list",data := .seq vs.toArray } (.lst (ns.map V.int))) else none) (fun b=>?_) (.inl (.inr ⟨{ cls := .type "list",data := .seq vs.toArray },if_pos rfl⟩)) (fun b u z=>?_) (fun b z=>?_) fun _=>hk
  ·by_cases hb:b=a
   ·exact .inr ⟨_,_,if_pos hb⟩
   ·exact .inl (if_neg hb)
  ·by_cases hb:b=a
   ·have z':=(if_pos hb).symm.trans z
    cases z'
    subst hb
    exact⟨ha,by rw[length_map];exact hl,vs,_,rv,ha⟩
   ·have z':=(if_neg hb).symm.trans z
    cases z'
  ·by_cases hb:b=a
   ·exact hb
   ·exact absurd (if_neg hb) z
end L2
namespace L2
open PySem PySem.Spec PyProof.Rows
theorem zP {l:PySem.W.OpenLaw}{n k:Nat}{q:Program}{loose:List Str}{XP:(Str->Option Value)->Heap->Prop}{YP:World->Heap->Prop}{d:DefRec}{K:Params->Frag}{CX:World->iH}{sp:World->Sp}{x:Str}
  (hn:l.most=some n) (Gh:n <= sizeLine) (CM:d.params.defaults=[]) (hr:vE k callerA)
  (hY:∀ (w:World)(h:Heap),YP w h->(K w.params).In h)
  (F:∀ (w:World)(mg:Str->Option Value)(fa:Addr)(h:Heap),(K w.params).In h->h.Ns mainGlobals mg->mg d.name=some (.ref fa) ->
   ∃ fd:FuncData,(∀ (s:Shared)(u:Value),BindsTo s fd ⟨[u],[]⟩ [(x,u)]) /\
    ∀ base:Heap,(K w.params).In base->base.Ns mainGlobals mg->v7 l.prog w (K w.params) mg base (CX w) k fa fd [x] (sp w))
  (yp:∀ (w:World)(H:Hp)(a:Addr)(ns:List Int),ns.length <= n->vv H->vG (K w.params) H a (ns.map V.int)->sp w [.ref a] H (fun v _=>v = .bl true) fun _ _ _=>False)
  (Ir:∀ (w:World)(H:Hp)(s:Shared)(e:Value)(s':Shared),CX w [] H s (fun _ _ _=>False) e s'->False) :
  PySem.W.WalkO q loose XP YP l.row.toRowW d [] (fun f vs=>PySem.call f vs):=by
 refine M0.xS hn CM fun w s₀ s₁ mg mb fa o pm cd doc a vs ns G Y ho hd xO hmg Be hints hlen hg=>?_
 have KX:=hY w _ Y
 obtain⟨fd,hb,hF⟩:=F w mg fa _ KX G.T.g hmg
 exact qt KX G.T.g G.T.b G.T.builtins G.T.nolimit hg Be hints (le_trans hlen Gh) hr hF hb (fun H hO hS=>yp w H a ns hlen hO hS) fun H e s'=>Ir w H s₁ e s'
end L2
namespace L2
open PySem PySem.Spec PyProof.Rows
noncomputable def aI (s:Stmt)(j:Nat):Stmt:=match s with
 | .ClassDef _ _ _ body _ _ _ _ _ _ _=>body.getD j (.Pass ⟨0,0,0,0⟩)
 | _ => .Pass ⟨0,0,0,0⟩
noncomputable def bd (s:Stmt):Arguments:=match s with
 | .FunctionDef _ a _ _ _ _ _ _ _ _=>a
 | _=>{ posonlyargs:=[],args:=[],vararg:=none,kwonlyargs:=[],kw_defaults:=[],kwarg:=none,defaults:=[] }
noncomputable def ax (s:Stmt):List Stmt:=match s with
 | .FunctionDef _ _ b _ _ _ _ _ _ _=>b
 | _=>[]
noncomputable def ag (s:Stmt):Scope:=match s with
 | .FunctionDef _ _ _ _ _ _ sc _ _ _=>sc
 | _=>{ kind := .function,names:=[],isGenerator:=false,isCoroutine:=false }
abbrev aE:iH:=fun _ _ _ _ _ _=>False
abbrev E0:XK:=fun _ _ _=>False
theorem aw {X:Cx}:bZ aE X E0:=fun _ _ _ _ _ _ _ h=>h.elim
structure vQ (K:Frag)(x qual:Str)(st:Stmt)(f:Addr)(fd:FuncData):Prop where
 ex:∃ (oc:Value)(od:Option Addr)(kV doc pm:Value)(an:Option Addr)(cdv ct:Value)(xQ:Array (Option Value)),
  fd=fnOf x qual (bd st) (ax st) (ag st) .none kV doc pm an cdv ct/\K.lookup f=some ⟨oc,od, .func fd,xQ⟩/\codeIn K cdv qual=true
 kp:keepIn K (.ref f)=true
section
variable {P:Program}{w:World}{K:Frag}{mg:Str->Option Value}{base:Heap}
theorem vQ.ok {x qual:Str}{st:Stmt}{f:Addr}{fd:FuncData}{N ps:List Str}{k:Nat}{sp:Sp}(F:vQ K x qual st f fd)(S:aj N ps (ag st))(len:∀ vs H Q E,sp vs H Q E->vs.length=ps.length)
  (wK:∀ (cdv:Value)(A:Around)(outer:List Env)(s:Shared)(H:Hp)(vs:List V)(Q:VK)(E:XK),vE k (A.deeper (envOfC qual (ag st) s.heap.objs.size f cdv))->sp vs H Q E ->
   ∃ t,xI (dZ aE P w K mg base N qual (ag st) f cdv A outer s H E).Am (ax st) t/\t { nx:=fun _ H'=>Q .vJ H',rt:=Q } (start N vs) H):v7 P w K mg base aE (k + 1) f fd ps sp:=by
 obtain⟨oc,od,kV,doc,pm,an,cdv,ct,xQ,rfl,lk,xO⟩:=F.ex
 refine qy lk xO S len fun A outer s H vs Q E hr yp=>?_
 obtain⟨t,h,q⟩:=wK cdv A outer s H vs Q E hr yp
 exact⟨t,h.Am,q⟩
theorem vQ.binds {x qual:Str}{st:Stmt}{f:Addr}{fd:FuncData}{ps:List Str}(F:vQ K x qual st f fd)
  (h:∀ (kV doc pm:Value)(an:Option Addr)(cdv ct:Value)(us:List Value),us.length=ps.length->bindArgs (fnOf x qual (bd st) (ax st) (ag st) .none kV doc pm an cdv ct) ⟨us,[]⟩ = pure (ps.zip us)):Binds K fd ps []:=by
 obtain⟨oc,od,kV,doc,pm,an,cdv,ct,xQ,rfl,lk,xO⟩:=F.ex
 exact .all (h kV doc pm an cdv ct)
theorem io {x qual:Str}{st:Stmt}{f:Addr}{oc:Value}{od an:Option Addr}{xQ:Array (Option Value)}{kV doc pm cdv ct:Value}(l:K.lookup f=some ⟨oc,od, .func (fnOf x qual (bd st) (ax st) (ag st) .none kV doc pm an cdv ct),xQ⟩)
  (c:codeIn K cdv qual=true) (k:keepIn K (.ref f)=true):vQ K x qual st f (fnOf x qual (bd st) (ax st) (ag st) .none kV doc pm an cdv ct):=⟨⟨oc,od,kV,doc,pm,an,cdv,ct,xQ,rfl,l,c⟩,k⟩
end
theorem tz {A:Around}{k:Nat}(hr:vE k A):A.units + 1 < cLine:=Nat.lt_of_le_of_lt (Nat.add_le_add_left (by decide:1 <= 64) _) hr.units
section
variable {X:Cx}
theorem pv (i:Nat){x:Str}{pos:Pos}(hN:X.N[i]? = some x:=by rfl)(hv:FR X.env.scope x:=by first | exact Or.inl rfl | exact Or.inr (Or.inl rfl) | exact Or.inr (Or.inr rfl))(hd:(x == ("__debug__":Str))=false:=by decide)
  (xO:(x == ("__classdict__":Str))=false:=by decide):PE X (.Name x pos) (tP i):=ux hN hv hd xO
end
theorem av {A B:Prop}(h:B):if false=true then A else B:=by
 rw[if_neg Bool.false_ne_true]
 exact h
theorem a9 {A B:Prop}(h:A):if true=true then A else B:=by
 rw[if_pos rfl]
 exact h
theorem Iw {c A B:Prop} [Decidable c] (h1:c->A) (h2:¬ c->B):if c then A else B:=by
 by_cases h:c
 ·rw[if_pos h]
  exact h1 h
 ·rw[if_neg h]
  exact h2 h
theorem CO {c A B:Prop} [Decidable c] (hc:c) (h:B):if (!decide c)=true then A else B:=by
 rw[decide_eq_true hc]
 exact av h
noncomputable def v5 (H H':Hp):Prop:=∀ b o,H b=some o->H' b=some o
theorem v5.refl (H:Hp):v5 H H:=fun _ _ h=>h
theorem v5.trans {H H1 H2:Hp}(a:v5 H H1)(b:v5 H1 H2):v5 H H2:=fun c o h=>b c o (a c o h)
theorem v5.free {H H':Hp}(e:v5 H H'){l:Addr}(h:H' l=Option.none):H l=Option.none:=by
 cases q:H l with
 | none=>rfl
 | some o =>
  rw[e l o q]at h
  cases h
theorem v5.seq {K:Frag}{H H':Hp}{a:Addr}{xs:List V}(e:v5 H H')(h:vG K H a xs):vG K H' a xs:=by
 rcases h with (h | ⟨o,h⟩) | h
 ·exact .inl (.inl (e _ _ h))
 ·exact .inl (.inr ⟨o,e _ _ h⟩)
 ·exact .inr h
end L2
namespace L2
open PySem PySem.Spec PyProof.Rows
theorem ix {o:Obj}{vs:Array Value}(hd:o.data = .fields vs)(f:Array Value->Array Value):(Obj.mapFields f o).dict=o.dict:=by
 obtain⟨c,d,dt,sl⟩:=o
 cases dt<;>rfl
noncomputable def yI (n:Bool)(h:Heap)(e:Addr)(cls:Value)(dd:Option Addr)(ch:List Addr):Prop :=
 ∃ oe vs,h.get? e=some oe/\oe.cls=cls/\oe.dict=dd/\oe.data = .fields vs/\(n=true->vs[2]? = some .none) /\
  ((vs[1]? = some .none/\ch=[e])∨∃ T oT ts,vs[1]? = some (.ref T)/\T ≠ e/\h.get? T=some oT/\oT.data = .fields ts/\ts[3]? = some .none/\ch=[e,T])
theorem yI.rec {n:Bool}{h:Heap}{e:Addr}{cls:Value}{dd:Option Addr}{ch:List Addr}(x:yI n h e cls dd ch):∀ b ∈ ch,∃ o vs,h.get? b=some o/\o.data = .fields vs:=by
 obtain⟨oe,vs,he,_,_,hd,_,h1 | ⟨T,oT,ts,_,_,hT,zb,_,rfl⟩⟩:=x
 ·obtain⟨_,rfl⟩:=h1
  intro b hb
  simp only[mem_singleton]at hb
  subst hb
  exact⟨oe,vs,he,hd⟩
 ·intro b hb
  simp only[mem_cons,not_mem_nil,or_false]at hb
  rcases hb with rfl | rfl
  ·exact⟨oe,vs,he,hd⟩
  ·exact⟨oT,ts,hT,zb⟩
theorem yI.mem {n:Bool}{h:Heap}{e:Addr}{cls:Value}{dd:Option Addr}{ch:List Addr}(x:yI n h e cls dd ch):e ∈ ch:=by
 obtain⟨oe,vs,he,_,_,hd,_,⟨_,rfl⟩ | ⟨T,oT,ts,_,_,hT,zb,_,rfl⟩⟩:=x<;>simp
structure jc (fs ch:List Addr)(h h':Heap):Prop where
 keep:∀ b o,h.get? b=some o->b ∉ ch->b ∉ fs->h'.get? b=some o
 slot:∀ b o,h.get? b=some o->b ∉ ch->∃ sl,h'.get? b=some { o with slots:=sl }
 there:∀ b o,h.get? b=some o->∃ o',h'.get? b=some o'
section
variable {M:Model}{A:Around}{E:Value->Shared->Prop}{s:Shared}
theorem iP {base:Heap}{env:Env}{outer:List Env}{L e:Addr}{oe:Obj}{vs:Array Value}{head:Value}{hadNext n:Bool}{Q:Unit->Shared->Prop}
  (zC:A.frames=some (env :: outer)) (hl:s.heap.FunFrames base (env :: outer)) (hf:env.frame=some L)
  (he:s.heap.get? e=some oe) (hd:oe.data = .fields vs) (hsz:1 < vs.size) (hn:n=true->vs[2]? = some .none)
  (h:∀ h',yI n h' e oe.cls oe.dict [e,s.heap.objs.size]->jc (gh (env :: outer)) [e] s.heap h'->Q () { s with heap:=h' }) :
  wpAny M A (do let a ← frameOf env;let pl ← entryPlaceOf L hadNext;let b ← EntryCells.newEntry head a .none (rawInt L) .none pl;setField (.ref e) 1 b) (fun _ s'=>wpAny M A (setFlight (.ref e) none) Q E s') E s:=by
 have Iy:e ∉ (env :: outer).filterMap (·.frame):=fun hm=>by
  obtain⟨_,o,ho,CP⟩:=hl.mem hm
  rw[he]at ho;injection ho with ho;subst ho;exact CP vs hd
 refine wpAny_bind (wpAny_frameOf_fun zC hl hf fun h₁ xT=>?_)
 refine wpAny_bind (wpAny_entryPlaceOf fun pl wR=>?_)
 unfold EntryCells.newEntry newFields
 refine wpAny_bind (wpAny_newObj_type ?_ (wR.sizeOk5 _ _ _ _ _))
 have Ao:h₁.get? e=some oe:=(xT.2.1 e Iy).trans he
 have Ap:=Heap.get?_push_of_some (h:=h₁) { cls := .type "traceback",dict:=none,data := .fields ([head, .ref L, .none,rawInt L, .none] ++ (if pl.isEmpty then List.replicate 6 Value.none else pl)).toArray } Ao
 refine wpAny_setField Ap hd hsz ?_
 have zQ:h₁.objs.size ≠ e:=ne_of_gt (lt_size Ao)
 have zc:=Obj.data_mapFields hd (·.setIfInBounds 1 (Value.ref h₁.objs.size))
 have zd:=Heap.get?_update_self (Obj.mapFields (·.setIfInBounds 1 (Value.ref h₁.objs.size))) Ap (Obj.isFreed_of_fields zc)
 have Aq:=(Heap.get?_update_other (h₁.push { cls := .type "traceback",dict:=none,data := .fields ([head, .ref L, .none,rawInt L, .none] ++ (if pl.isEmpty then List.replicate 6 Value.none else pl)).toArray })
  (Obj.mapFields (·.setIfInBounds 1 (Value.ref h₁.objs.size))) (Ne.symm zQ)).trans (Heap.get?_push_size h₁ rfl)
 unfold setFlight
 refine wpAny_bind (wpAny_field zd zc (x := .ref h₁.objs.size) (by simp[hsz]) ?_)
 rw[if_pos (show(Value.ref h₁.objs.size != Value.none)=true from by simp)]
 refine wpAny_setField Aq rfl (by simp only[size_toArray,length_append,length_cons,length_nil]<;>omega) (h _ ?_ ?_)
 ·refine⟨_,_,?_,Obj.cls_mapFields _ _,ix hd _,zc,(fun z=>by rw[Array.getElem?_setIfInBounds_ne (by decide)];exact hn z), .inr ⟨h₁.objs.size,_,_,by simp[hsz],zQ,Heap.get?_update_self _ Aq (Obj.isFreed_of_fields (Obj.data_mapFields rfl _)),Obj.data_mapFields rfl _,by first | (simp;done) | (rcases wR with rfl | ⟨_,_,_,_,_,_,_,rfl⟩<;>simp),by rw[xT.1]⟩⟩
  rw[Heap.get?_update_other _ _ zQ];exact zd
 ·have keep:∀ b o,b ≠ e->h₁.get? b=some o ->
    (((h₁.push { cls := .type "traceback",dict:=none,data := .fields ([head, .ref L, .none,rawInt L, .none] ++ (if pl.isEmpty then List.replicate 6 Value.none else pl)).toArray }).update e (Obj.mapFields (·.setIfInBounds 1 (Value.ref h₁.objs.size)))).update h₁.objs.size
     (Obj.mapFields (·.setIfInBounds 3 ((none:Option Addr).elim Value.none fun f=>rawInt f)))).get? b=some o:=fun b o yf hb=>by
   have Gk:h₁.objs.size ≠ b:=ne_of_gt (lt_size hb)
   rw[Heap.get?_update_other _ _ Gk,Heap.get?_update_other _ _ (Ne.symm yf)]
   exact Heap.get?_push_of_some _ hb
  refine⟨fun b o hb hc Iz=>keep b o (by simpa using hc) ((xT.2.1 b Iz).trans hb),fun b o hb hc=>?_,fun b o hb=>?_⟩
  ·obtain⟨sl,hs⟩:=xT.2.2 b o hb
   exact⟨sl,keep b _ (by simpa using hc) hs⟩
  ·by_cases yf:b=e
   ·subst yf
    exact⟨_,by rw[Heap.get?_update_other _ _ zQ];exact zd⟩
   ·obtain⟨sl,hs⟩:=xT.2.2 b o hb
    exact⟨_,keep b _ yf hs⟩
theorem fO {base:Heap}{env:Env}{outer:List Env}{L e:Addr}{cls:Value}{dd:Option Addr}{ch:List Addr}{n:Bool}{Q:Unit->Shared->Prop}
  (zC:A.frames=some (env :: outer)) (hl:s.heap.FunFrames base (env :: outer)) (hf:env.frame=some L) (x:yI n s.heap e cls dd ch)
  (h:∀ h' Bf,yI n h' e cls dd Bf->jc (gh (env :: outer)) ch s.heap h'->(∀ b ∈ Bf,b ∈ ch∨s.heap.objs.size <= b)->Q () { s with heap:=h' }) :
  wpAny M A (noteFrame (.ref e) env) (fun _ s'=>wpAny M A (setFlight (.ref e) none) Q E s') E s:=by
 obtain⟨oe,vs,he,rfl,rfl,hd,hn,⟨h1,rfl⟩ | ⟨T,oT,ts,h1,zQ,hT,zb,h3,rfl⟩⟩:=x
 ·unfold noteFrame
  simp only[hf]
  refine wpAny_bind (wpAny_field he hd h1 ?_)
  rw[if_neg (by decide)]
  refine iP zC hl hf he hd (Array.getElem?_eq_some_iff.mp h1).1 hn fun h' f m=>h h' _ f m fun b hb=>?_
  simp only[mem_cons,not_mem_nil,or_false]at hb
  rcases hb with rfl | rfl
  ·exact .inl (by simp)
  ·exact .inr (le_refl _)
 ·unfold noteFrame
  simp only[hf]
  refine wpAny_bind (wpAny_field he hd h1 ?_)
  rw[if_pos (show(Value.ref T != Value.none)=true from by simp)]
  refine wpAny_bind (wpAny_field hT zb h3 ?_)
  rw[if_neg (show ¬ ((Value.none == rawInt L)=true) from by simp[rawInt])]
  refine wpAny_bind (wpAny_setField hT zb (Array.getElem?_eq_some_iff.mp h3).1 ?_)
  have other:∀ b,b ≠ T->(s.heap.update T (Obj.mapFields (·.setIfInBounds 3 Value.none))).get? b=s.heap.get? b:=fun b hb=>Heap.get?_update_other _ _ (Ne.symm hb)
  have y1:=Heap.get?_update_self (Obj.mapFields (·.setIfInBounds 3 Value.none)) hT (Obj.isFreed_of_fields (Obj.data_mapFields zb _))
  have noRecord:∀ b o,s.heap.get? b=some o->(∀ vs,o.data ≠ .fields vs)->b ≠ T:=fun b o hb CP q=>by
   rw[q,hT]at hb;injection hb with hb;subst hb;exact CP ts zb
  have CQ:(s.heap.update T (Obj.mapFields (·.setIfInBounds 3 Value.none))).objs.size=s.heap.objs.size:=size_after_update _ _ _
  refine iP (s:={ s with heap:=s.heap.update T (Obj.mapFields (·.setIfInBounds 3 Value.none)) }) zC (hl.of_keeps fun b o hb CP=>⟨o,(other b (noRecord b o hb CP)).trans hb,rfl⟩) hf ((other e (Ne.symm zQ)).trans he) hd (Array.getElem?_eq_some_iff.mp h1).1 hn
   fun h' f m=>h h' _ f ⟨fun b o hb hc Iz=>?_,fun b o hb hc=>?_,fun b o hb=>?_⟩ fun b hb=>?_
  ·simp only[mem_cons,not_mem_nil,or_false,not_or]at hc
   exact m.keep b o ((other b hc.2).trans hb) (by simpa using hc.1) Iz
  ·simp only[mem_cons,not_mem_nil,or_false,not_or]at hc
   exact m.slot b o ((other b hc.2).trans hb) (by simpa using hc.1)
  ·by_cases Gk:b=T
   ·subst Gk
    exact m.there b _ y1
   ·exact m.there b o ((other b Gk).trans hb)
  ·simp only[mem_cons,not_mem_nil,or_false]at hb
   rcases hb with rfl | rfl
   ·exact .inl (by simp)
   ·exact .inr (le_of_eq CQ.symm)
theorem lU {base:Heap}{env:Env}{outer:List Env}{L e:Addr}{cls:Value}{dd:Option Addr}{ch:List Addr}{n:Bool}{Q:Unit->Shared->Prop}
  (zC:A.frames=some (env :: outer)) (hl:s.heap.FunFrames base (env :: outer)) (hf:env.frame=some L) (x:yI n s.heap e cls dd ch)
  (h:∀ h' Bf,yI n h' e cls dd Bf->jc (gh (env :: outer)) ch s.heap h'->(∀ b ∈ Bf,b ∈ ch∨s.heap.objs.size <= b)->Q () { s with heap:=h' }) :
  wpAny M A (leaving env (.ref e)) Q E s:=by
 unfold leaving
 exact wpAny_bind (fO zC hl hf x h)
end
section
variable {X:Cx}{pins:List (Addr × Obj)}{σ:St}{H:Hp}{s:Shared}
theorem Inv.wB {h':Heap}{ch:List Addr}(I:Inv X pins σ H s)(m:jc (gh X.stack) ch s.heap h')
  (w6:∀ b ∈ ch,X.s₀.heap.get? b=none/\H b=none/\(∀ p ∈ X.pn ++ pins,p.1 ≠ b)/\∃ o vs,s.heap.get? b=some o/\o.data = .fields vs) :
  Inv X pins σ H { s with heap:=h' }:=by
 have CS:∀ b o,s.heap.get? b=some o->(∀ vs,o.data ≠ .fields vs)->b ∉ ch:=fun b o hb hn hc=>by
  obtain⟨_,_,_,o',vs,yg,hd⟩:=w6 b hc
  rw[hb]at yg;cases yg
  exact hn vs hd
 have cellK:∀ c v,s.heap.IsCell c v->h'.IsCell c v:=fun c v ⟨o,ho,hd⟩=>by
  obtain⟨sl,e⟩:=m.slot c o ho (CS c o ho fun vs q=>by rw[hd]at q;cases q)
  exact⟨_,e,hd⟩
 refine⟨I.ok,I.os,I.bare,⟨fun b o e n hf hx=>?_,fun b o e n hf hx=>?_,I.base.free,fun b o e hx=>?_,I.base.wX,I.base.wQ,I.base.wY⟩,?_,fun x c hc=>?_,I.free,I.vT,fun p hp=>?_,fun b u e=>?_,I.len⟩
 ·have e1:=I.base.keep b o e n hf hx
  refine m.keep b o e1 (fun hc=>?_) fun hs=>?_
  ·rw[(w6 b hc).1]at e;cases e
  ·rcases mem_cons.mp (I.wx b hs) with z | z
   ·rw[z]at e
    exact absurd (lt_size e) (not_lt.mpr I.ok.above)
   ·exact hf z
 ·obtain⟨sl,e1⟩:=I.base.slot b o e n hf hx
  obtain⟨sl2,e2⟩:=m.slot b _ e1 fun hc=>by rw[(w6 b hc).1]at e;cases e
  exact⟨sl2,e2⟩
 ·obtain⟨o',e1⟩:=I.base.there b o e hx
  exact m.there b o' e1
 ·obtain⟨mm,⟨o,es,ep,ho,hd,r⟩,hl⟩:=I.loc
  obtain⟨sl,e⟩:=m.slot _ o ho (CS _ o ho fun vs q=>by rw[hd]at q;cases q)
  refine⟨mm,⟨_,es,ep,e,hd,r⟩,fun i x v h1 h2 h3=>?_⟩
  obtain⟨u,ru,lk⟩:=hl i x v h1 h2 h3
  refine⟨u,ru,?_⟩
  rcases lk with ⟨a,b⟩ | ⟨a,c,hc,xv⟩
  ·exact .inl ⟨a,b⟩
  ·exact .inr ⟨a,c,hc,cellK c _ xv⟩
 ·obtain⟨v,hv⟩:=I.cell x c hc
  exact⟨v,cellK c v hv⟩
 ·obtain⟨a,b,c,d,e⟩:=I.pin p hp
  refine⟨m.keep _ _ a (fun hc=>(w6 _ hc).2.2.1 p hp rfl) fun hs=>?_,b,c,d,e⟩
  rcases mem_cons.mp (I.wx _ hs) with z | z
  ·exact c z
  ·exact d z
 ·refine(I.vD b u e).wD (fun c v hc q=>m.keep c v q (fun z=>?_) fun z=>?_) (fun _ q=>q) fun _ _ q=>q
  ·have n:=(w6 c z).2.1
   rcases hc with rfl | hc
   ·rw[e]at n;cases n
   ·rw[hc]at n;cases n
  ·have n:=I.xb c z
   rcases hc with rfl | hc
   ·rw[e]at n;cases n
   ·rw[hc]at n;cases n
noncomputable def iG (n:Bool)(P:Program)(w:World):iH:=fun outer H s E ev s'=>∃ e cls dd ch H',ev = .ref e/\s'.os=s.os/\AllBare s'.gens/\Un (gh outer) [] H H' s.heap s'.heap/\wt P w H' s'.heap /\
 yI n s'.heap e cls dd ch/\(∀ b ∈ ch,s.heap.get? b=none/\H' b=none)/\E cls dd H'
abbrev cx:Program->World->iH:=iG true
abbrev BU:Program->World->iH:=iG false
noncomputable def XP (n:Bool)(X:Cx)(pins:List (Addr × Obj))(σ:St)(E:XK)(ev:Value)(s':Shared):Prop:=∃ e cls dd ch H',ev = .ref e/\Inv X pins σ H' s'/\yI n s'.heap e cls dd ch /\
 (∀ b ∈ ch,X.s₀.heap.get? b=none/\H' b=none/\∀ p ∈ X.pn ++ pins,p.1 ≠ b)/\E cls dd H'
theorem Inv.ze (I:Inv X pins σ H s)(hex:X.ex=[]){b:Addr}(hb:s.heap.get? b=none):X.s₀.heap.get? b=none:=by
 cases q:X.s₀.heap.get? b with
 | none=>rfl
 | some o =>
  obtain⟨o',e⟩:=I.base.there b o q (by rw[hex];simp)
  rw[e]at hb;cases hb
theorem XP.Ar {n:Bool}{E:XK}{ev:Value}{s':Shared}(I:Inv X pins σ H s)(hex:X.ex=[])(x:iG n X.prog X.w X.stack H s E ev s'):XP n X pins σ E ev s':=by
 obtain⟨e,cls,dd,ch,H',rfl,os,bare,un,vD,zD,new,q⟩:=x
 refine⟨e,cls,dd,ch,H',rfl,I.Al (ch:=[]) os un vD bare (fun b z=>absurd z (by simp)),zD,fun b hb=>⟨I.ze hex (new b hb).1,(new b hb).2,fun p hp z=>?_⟩,q⟩
 have:=(I.pin p hp).1
 rw[z,(new b hb).1]at this
 cases this
noncomputable def wL (n:Bool)(X:Cx)(E:XK):Prop:=∀ (pins:List (Addr × Obj))(σ:St)(ev:Value)(s':Shared),XP n X pins σ E ev s'->X.xe ev s'
theorem wL.passes {n:Bool}{E:XK}(h:wL n X E)(hex:X.ex=[]):bZ (iG n X.prog X.w) X E:=fun pins σ H s ev s' I x=>h pins σ ev s' (XP.Ar I hex x)
theorem wL.up {n:Bool}{E:XK}(h:wL false X E):wL n X E:=fun pins σ ev s' v9=>by obtain⟨e,cls,dd,ch,H',a,b,⟨oe,vs,c1,c2,c3,c4,_,c5⟩,d⟩:=v9;exact h pins σ ev s' ⟨e,cls,dd,ch,H',a,b,⟨oe,vs,c1,c2,c3,c4,nofun,c5⟩,d⟩
theorem v8 {n:Bool}{P:Program}{w:World}{K:Frag}{mg:Str->Option Value}{base:Heap}{N:List Str}{qual:Str}{scope:Scope}{f:Addr}{cd:Value}{A:Around}{outer:List Env}{s:Shared}{H:Hp}{E:XK} :
  wL n (dZ (iG n P w) P w K mg base N qual scope f cd A outer s H E) E:=by
 intro pins σ ev s' x
 obtain⟨e,cls,dd,ch,H',rfl,I,zD,w6,q⟩:=x
 refine lU (base:=base) (outer:=outer) I.ok.frames I.stack rfl zD fun h' Bf I0 m new=>?_
 have I':=I.wB m fun b hb=>⟨(w6 b hb).1,(w6 b hb).2.1,(w6 b hb).2.2,zD.rec b hb⟩
 refine⟨e,cls,dd,Bf,H',rfl,I'.os,I'.bare,I'.base,I'.vD,I0,fun b hb=>?_,q⟩
 rcases new b hb with z | z
 ·exact⟨(w6 b z).1,(w6 b z).2.1⟩
 ·exact⟨Heap.get?_none_of_le (le_trans I.sz z),I.vD.fresh z⟩
theorem j3 {n:Bool}{P:Program}{w:World}{K:Frag}{mg:Str->Option Value}{base:Heap}{N:List Str}{qual:Str}{scope:Scope}{f:Addr}{cd:Value}{A:Around}{outer:List Env}{s:Shared}{H:Hp}{E:XK} :
  PassesOwn (model P w) (dZ (iG n P w) P w K mg base N qual scope f cd A outer s H E).A (dZ (iG n P w) P w K mg base N qual scope f cd A outer s H E).env (dZ (iG n P w) P w K mg base N qual scope f cd A outer s H E).xe :=
 PassesOwn.leaving (Q₁:=fun e zM=>iG n P w outer H s E e zM)
end
end L2
namespace L2
open PySem PySem.Spec PyProof.Rows
noncomputable def c8:List Value:=[.type "ValueError", .type "Exception", .type "BaseException", .type "object"]
noncomputable def jH:List Value->Bool
 | []=>false
 | .ref _ :: r=>jH r
 | l=>l == c8
theorem gR (self:Value):∀ {l:List Value},jH l=true->refuseLoop self "__setattr__" l=pure ()
 | .ref c :: r,e=>by rw[refuseLoop_ref];exact gR self e
 | .type a :: r,e=>by
  have e':(Value.type a :: r)=c8:=beq_iff_eq.mp e
  rw[e'];exact PySem.F.store_ValueError.passes self
 | .none :: r,e=>by have:=beq_iff_eq.mp (show(_ == c8)=true from e);cases this
 | .bool _ :: r,e=>by have:=beq_iff_eq.mp (show(_ == c8)=true from e);cases this
 | .int _ _ :: r,e=>by have:=beq_iff_eq.mp (show(_ == c8)=true from e);cases this
 | .float _ _ :: r,e=>by have:=beq_iff_eq.mp (show(_ == c8)=true from e);cases this
 | .str _ _ :: r,e=>by have:=beq_iff_eq.mp (show(_ == c8)=true from e);cases this
 | .bytes _ _ :: r,e=>by have:=beq_iff_eq.mp (show(_ == c8)=true from e);cases this
 | .builtin _ :: r,e=>by have:=beq_iff_eq.mp (show(_ == c8)=true from e);cases this
theorem dC:∀ {l:List Value},jH l=true->l.contains (.type "object")=true/\l.contains (.type "BaseException")=true/\l.isEmpty=false
 | .ref c :: r,e=>by
  obtain⟨a,b,_⟩:=dC (l:=r) e
  exact⟨by rw[contains_cons,a,Bool.or_true],by rw[contains_cons,b,Bool.or_true],rfl⟩
 | .type a :: r,e=>by
  have e':(Value.type a :: r)=c8:=beq_iff_eq.mp e
  rw[e'];exact⟨by decide,by decide,rfl⟩
 | .none :: r,e=>by have:=beq_iff_eq.mp (show(_ == c8)=true from e);cases this
 | .bool _ :: r,e=>by have:=beq_iff_eq.mp (show(_ == c8)=true from e);cases this
 | .int _ _ :: r,e=>by have:=beq_iff_eq.mp (show(_ == c8)=true from e);cases this
 | .float _ _ :: r,e=>by have:=beq_iff_eq.mp (show(_ == c8)=true from e);cases this
 | .str _ _ :: r,e=>by have:=beq_iff_eq.mp (show(_ == c8)=true from e);cases this
 | .bytes _ _ :: r,e=>by have:=beq_iff_eq.mp (show(_ == c8)=true from e);cases this
 | .builtin _ :: r,e=>by have:=beq_iff_eq.mp (show(_ == c8)=true from e);cases this
noncomputable def md (K:Frag)(C:Addr):Bool:=(PySem.W.clsIn K C).any fun cd=>jH cd.mro
structure dH (K:Frag)(C:Addr):Prop where
 mro:md K C=true
 hd:hasDictIn K C=true
 sa:findIn K (.ref C) "__setattr__" = some (some (.builtin "object.__setattr__"))
 ga:findIn K (.ref C) "__getattribute__" = some (some (.builtin "BaseException.__getattribute__"))
 gn:findIn K (.ref C) "__getattr__" = some none
section
variable {prog:Program}{w:World}{A:Around}{E:Value->Shared->Prop}{s:Shared}{K:Frag}{x C:Addr}{ox:Obj}{name:Str}{v:Value}
open PySem.W in
theorem mT {R:Result->Shared->Prop}{od:Option Obj}{tk:Tok}(X:K.In s.heap)(I:PySem.W.InstAt s.heap x ox C od)(hp:md K C=true)(ht:findIn K (.ref C) name=some none)
  (h:∀ b,wpAny (model prog w) A.in1 (Builtin.ObjectAttr.storeInOwnDict (.ref x) (.ref C) (.str name tk) name v b)
   (fun fin s'=>match fin with | .done f=>R (.ok f) s' | .again c'=>c'.quiet=true/\codeAny (model prog w) A c' R s') (fun e s'=>R (.error e) s') s) :
  codeAny (model prog w) A (.call (.builtin "object.__setattr__") ⟨[.ref x, .str name tk,v],[]⟩) R s:=by
 have SF:=PySem.F.store_object
 obtain⟨cd,hc,ho⟩:=any_some hp
 obtain⟨h1,h2,ne⟩:=dC ho
 have sub:Looks (model prog w) s.heap (isInstance (.ref x) (.type "object")) true:=I.type.andThen (looks_mroIn X (by unfold mroIn;rw[hc,Option.bind_some,if_neg (by rw[ne];decide),h1]))
 refine codeAny_call_builtin SF.slot.plain SF.entry (@check_slot (model prog w) _ _ s "object.__setattr__" "object" "__setattr__" (.ref x) [.str name tk,v] [] _ SF.kind SF.split sub (SF.args (.ref x) (.str name tk) v) ?_)
 have hm:Looks (model prog w) s.heap (mroOf (.ref C)) cd.mro:=(looks_clsIn X hc).andThen .now
 have L3:Looks (model prog w) s.heap (Builtin.ObjectAttr.storeTaker? none) none := .now
 rw[osa_eq,refuse_eq]
 refine wpAny_bind (wpAny_bind (I.type.here (wpAny_bind (hm.here ?_))))
 rw[gR _ ho]
 refine wpAny_pure (wpAny_bind (I.type.here (wpAny_bind ((looks_findIn X ht).here (wpAny_bind (L3.here ?_))))))
 exact h _
theorem jR {vs:Array Value}{Q:Unit->Shared->Prop}(X:K.In s.heap)(hx:s.heap.get? x=some ⟨.ref C,none, .fields vs,#[]⟩)(c:dH K C)(ht:findIn K (.ref C) name=some none)
  (h:∀ h' t',h'.get? x=some ⟨.ref C,some s.heap.objs.size, .fields vs,#[]⟩->h'.Ns1 s.heap.objs.size (fun y=>if y=name then some v else none) ->
   (∀ b o,b ≠ x->s.heap.get? b=some o->h'.get? b=some o)->Q () { s with heap:=h',toks:=t' }) :
  wpAny (model prog w) A (setAttr (.ref x) name v) Q E s:=by
 have I:PySem.W.InstAt s.heap x ⟨.ref C,none, .fields vs,#[]⟩ C none:=⟨hx,rfl,rfl,True.intro⟩
 refine PySem.W.set_plain X I c.sa (mT (s:={ s with toks:=s.toks + 1 }) X I c.mro ht fun b=>?_)
 obtain⟨cd,hc,AZ⟩:=PySem.W.any_some c.hd
 obtain⟨hp,g,d,t,os⟩:=s
 dsimp only at X hx h I ⊢
 refine wpAny_bind (wpAny_pure (wpAny_bind (wpAny_bind (wpAny_loadPart hx (wpAny_bind (PySem.W.Looks.here (s:=⟨hp,g,d,t + 1,os⟩) (PySem.W.looks_clsIn X hc) ?_))))))
 rw[AZ]
 have Au:(hp.push { cls := .type "dict",data := .dict #[] }).get? x=some ⟨.ref C,none, .fields vs,#[]⟩:=Heap.get?_push_of_some _ hx
 have M3:x ≠ hp.objs.size:=ne_of_lt (lt_size hx)
 rw[if_neg (by decide)]
 dsimp only
 rw[if_neg (by simp[typeHasDict])]
 refine wpAny_bind (wpAny_alloc' ?_)
 refine wpAny_bind (wpAny_update' Au ?_)
 refine wpAny_pure ?_
 have hgd:((hp.push { cls := .type "dict",data := .dict #[] }).update x fun o=>{ cls:=o.cls,dict:=some hp.objs.size,data:=o.data,slots:=o.slots }).get? hp.objs.size
   = some { cls := .type "dict",data := .dict #[] } :=
  (Heap.get?_update_ne _ _ _ _ M3.symm).trans (Heap.get?_push_at rfl rfl)
 have hnd:((hp.push { cls := .type "dict",data := .dict #[] }).update x fun o=>{ cls:=o.cls,dict:=some hp.objs.size,data:=o.data,slots:=o.slots }).Ns hp.objs.size (fun _=>none) :=
  ⟨_,#[],_,hgd,rfl,fun e he=>absurd he (by simp),fun _=>rfl⟩
 show wpAny _ _ (Builtin.ObjectAttr.storeInDict hp.objs.size (.str name t) name v) _ _ _
 unfold Builtin.ObjectAttr.storeInDict Builtin.ObjectAttr.newKeyGuard
 refine wpAny_bind (wpAny_pure (wpAny_bind (wpAny_nsSet1 (Heap.Ns1.of_empty hnd) fun h' xH hs=>?_)))
 obtain⟨oD,Mu,Mv,CD,CF,yG⟩:=xH.count (Within.cons name v Within.nil)
 refine wpAny_bind (wpAny_lookBehind CD (by rw[CF];exact pastItsLine_dict (le_trans yG (by rw[length_cons,length_nil,sizeLine_eq];omega))) ?_)
 refine wpAny_pure (h h' _ ?_ xH fun b o hbx hb=>?_)
 ·exact(hs.2 x M3).trans (Heap.get?_update_self _ Au rfl)
 ·exact(hs.2 b (ne_of_lt (lt_size hb))).trans ((Heap.get?_update_ne _ _ _ _ hbx).trans (Heap.get?_push_of_some _ hb))
open PySem.W in
theorem sj (FA:ExcAttrFacts "ValueError"){d:Addr}{vs:Array Value}{sl:Array (Option Value)}{mA:Str->Option Value}{expr:Bool}{Q:Value->Shared->Prop}(X:K.In s.heap)(hx:s.heap.get? x=some ⟨.ref C,some d, .fields vs,sl⟩)(hn:s.heap.Ns1 d mA)
  (c:dH K C) (ht:findIn K (.ref C) name=some none) (hv:mA name=some v) (hh:handedIn v=true) (h:Q v { s with toks:=s.toks + 1 }):wpAny (model prog w) A (getAttr (.ref x) name expr) Q E s:=by
 obtain⟨od,y4,hl⟩:=iQ hn
 have I:PySem.W.InstAt s.heap x ⟨.ref C,some d, .fields vs,sl⟩ C (some od):=⟨hx,rfl,rfl,y4⟩
 have hf:findObj K C (some od) name=some (.value v):=findObj_own c.hd ht rfl (by rw[hl,hv])
 obtain⟨cd,hc,ho⟩:=any_some c.mro
 obtain⟨h1,h2,ne⟩:=dC ho
 have sub:Looks (model prog w) s.heap (isInstance (.ref x) (.type "BaseException")) true:=I.type.andThen (looks_mroIn X (by unfold mroIn;rw[hc,Option.bind_some,if_neg (by rw[ne];decide),h2]))
 have GA:=FA.ga
 have hk:builtinKind "BaseException.__getattribute__" = some .slot:=by decide +kernel
 have yr:splitId "BaseException.__getattribute__" = some ("BaseException", "__getattribute__"):=by decide +kernel
 have hx0:(expr && onTheHeap (Value.builtin "BaseException.__getattribute__"))=false:=by cases expr<;>rfl
 have Bg:(Value.builtin "BaseException.__getattribute__" == Value.builtin "object.__getattribute__")=false:=by decide +kernel
 have IA:(onTheHeap (Value.ref C) && Value.builtin "BaseException.__getattribute__" == Value.builtin "object.__getattribute__")=false:=by rw[Bg];rfl
 have L0:=I.type (M:=model prog w)
 have L1:=looks_findIn (M:=model prog w) X c.ga
 have L2:=looks_findIn (M:=model prog w) X c.gn
 have L3:=looks_find (M:=model prog w) X I hf
 obtain⟨hp,g,dr,t,os⟩:=s
 unfold getAttr getAttrBy
 refine wpAny_bind (wpAny_mkText (wpAny_holding (wpAny_bind (L0.at (wpAny_bind (L1.at ?_))))))
 dsimp only
 rw[IA,if_neg Bool.false_ne_true]
 unfold getAttrByItsOwn
 refine wpAny_bind (L2.at ?_)
 refine wpAny_bind (wpAny_attempt (wpAny_holding ?_))
 unfold callGetattribute
 rw[hx0,if_neg Bool.false_ne_true]
 unfold boundAndCalled
 rw[GA.bind]
 refine wpAny_bind (wpAny_pure (wpAny_call ?_))
 refine codeAny_call_builtin GA.plain F.entry_bexc_ga (@check_slot (model prog w) _ _ ⟨hp,g,dr,t + 1,os⟩ "BaseException.__getattribute__" "BaseException" "__getattribute__" (.ref x) [.str name t] [] _ hk yr sub (F.args_bexc_ga (.ref x) (.str name t)) ?_)
 unfold Builtin.«object.__getattribute__»
 refine wpAny_bind (wpAny_pure ?_)
 dsimp only
 refine wpAny_bind (wpAny_pure (wpAny_bind (L0.at (wpAny_bind (L3.at ?_)))))
 refine wpAny_pure ?_
 show wpAny _ _ (handedOut v) _ _ _
 rw[handedOut_of hh]
 exact wpAny_pure h
end
end L2
namespace PySem
section
variable {prog:Program}{w:World}{A:Around}{E:Value->Shared->Prop}{h:Heap}{g:Array GenState}{d:Drawn}{t:Nat}{os:OsState}
variable {nm q:Str}{C N:Addr}{bs bm Gu:List Value}{wm:Bool}{sn:List Str}{sub:List Value}{ab:Bool}{col:Option Bool}{dd:Option Addr}{k0 k1 k2 k3 k5:Option Value}{B newId zf:String}
theorem eM (F:ExcBaseFacts B newId zf Gu)(T:OwnTail h Gu bm){mN:Str->Option Value}{rest:List Value}{fI:Addr}{oI:Obj}{Q:Fin->Shared->Prop}
  (hC:h.get? C=some (excClassObj nm q C N bs bm wm sn sub ab col dd k0 k1 k2 k3 k5 newId)) (hn:h.Ns N mN) (hi:mN "__init__" = some (.ref fI))
  (IB:h.get? fI=some oI) (IC:oI.cls = .type "function")
  (hq:wpAny (model prog w) A (call (.ref fI) (.ref (h.objs.size + 1) :: rest)) (fun r s'=>r = .none/\Q (.done (.ret (.ref (h.objs.size + 1)))) s') E
   ⟨(h.push { cls := .type "tuple",data := .seq rest.toArray }).push { cls := .ref C,data := .fields #[.ref h.objs.size, .none, .none, .none, .bool false, .none] },g,d,t,os⟩) (hrest:rest.length <= sizeLine:=by size_fits) :
  wpAny (model prog w) A (Builtin.«type.__call__» ⟨.ref C :: rest,[]⟩) Q E ⟨h,g,d,t,os⟩:=by
 repeat (first | with_reducible refine wpAny_loadPart_at hC ?_ | with_reducible refine wpAny_madeBy_exc hC ?_ | wp_step)
 refine codeAny_call_builtin_code (Code.quiet_builtin _ F.quiet) (wpAny_check_new_subT F T hC ?_)
 refine codeAny_exc_new_subT F T hC ?_ hrest
 show wpAny _ _ _ _ _ _
 have Av:=Heap.get?_push_of_some { cls := .ref C,data := .fields #[.ref h.objs.size, .none, .none, .none, .bool false, .none] }
  (Heap.get?_push_of_some { cls := .type "tuple",data := .seq rest.toArray } hC)
 have Bh:=Heap.get?_push_of_some { cls := .ref C,data := .fields #[.ref h.objs.size, .none, .none, .none, .bool false, .none] }
  (Heap.get?_push_of_some { cls := .type "tuple",data := .seq rest.toArray } IB)
 have CT:((h.push { cls := .type "tuple",data := .seq rest.toArray }).push { cls := .ref C,data := .fields #[.ref h.objs.size, .none, .none, .none, .bool false, .none] }).Ns N mN :=
  let ⟨o,es,ep,e,r⟩:=hn; ⟨o,es,ep,Heap.get?_push_of_some _ (Heap.get?_push_of_some _ e),r⟩
 have Bi:((h.push { cls := .type "tuple",data := .seq rest.toArray }).push
   { cls := .ref C,data := .fields #[.ref h.objs.size, .none, .none, .none, .bool false, .none] }).get? (h.objs.size + 1)=some
   { cls := .ref C,data := .fields #[.ref h.objs.size, .none, .none, .none, .bool false, .none] }:=by heap_get
 have hcC:(Value.ref C :: bm).contains (.ref C)=true:=by simp
 have T₁:=T.keeps (h':=(h.push { cls := .type "tuple",data := .seq rest.toArray }).push { cls := .ref C,data := .fields #[.ref h.objs.size, .none, .none, .none, .bool false, .none] })
  fun b o e=>Heap.get?_push_of_some _ (Heap.get?_push_of_some _ e)
 unfold isInstance
 repeat (first | with_reducible refine wpAny_loadPart_at Bi ?_ | (with_reducible refine wpAny_isSubtype_exc Av ?_;rw[hcC]) | wp_step)
 show wpAny _ _ (typeLookup (.ref C) _) _ _ _
 refine wpAny_typeLookup_tail Av CT T₁ F.mroIs F.init.lookup ?_
 rw[hi]
 refine wpAny_holding (wpAny_bind ?_)
 unfold bindSpecial
 refine wpAny_bind (wpAny_typeOf (T := "function") ⟨_,Bh,IC⟩ ?_)
 rw[if_pos (by decide)]
 refine wpAny_pure (wpAny_bind (wpAny_mono hq (fun r s' hr=>?_) fun _ _ x=>x))
 obtain⟨rfl,hQ⟩:=hr
 wp_walk
 exact hQ
theorem jd (F:ExcBaseFacts B newId zf Gu)(T:OwnTail h Gu bm){mN:Str->Option Value}{rest:List Value}{fI:Addr}{oI:Obj}{Q:Value->Shared->Prop}
  (hC:h.get? C=some (excClassObj nm q C N bs bm wm sn sub ab col dd k0 k1 k2 k3 k5 newId)) (hn:h.Ns N mN) (hi:mN "__init__" = some (.ref fI))
  (IB:h.get? fI=some oI) (IC:oI.cls = .type "function")
  (hq:wpAny (model prog w) (A.under (.builtin "type.__call__" ⟨.ref C :: rest,[]⟩)) (call (.ref fI) (.ref (h.objs.size + 1) :: rest)) (fun r s'=>r = .none/\Q (.ref (h.objs.size + 1)) s') E
   ⟨(h.push { cls := .type "tuple",data := .seq rest.toArray }).push { cls := .ref C,data := .fields #[.ref h.objs.size, .none, .none, .none, .bool false, .none] },g,d,t,os⟩) (hrest:rest.length <= sizeLine:=by size_fits) :
  wpAny (model prog w) A (call (.ref C) rest) Q E ⟨h,g,d,t,os⟩:=by
 have f1:=tc_lookup
 have f2:=tc_bind (.ref C)
 have hT:(⟨h,g,d,t,os⟩:Shared).TypeIs (.ref C) "type":=⟨_,hC,rfl⟩
 refine wpAny_call (codeAny_of_tree ?_)
 show wpAny _ _ (callAny (.ref C) _) _ _ _
 repeat (any_goals (first | assumption | with_reducible refine wpAny_loadPart_at hC ?_ | wp_step))
 refine⟨rfl,?_⟩
 refine codeAny_call_builtin_at (Code.quiet_builtin _ (by decide +kernel)) entry_typeCall (wpAny_check_type_call_sub hC (eM (hrest:=hrest) F T hC hn hi IB IC ?_))
 exact hq
end
section
variable {M:Model}{A:Around}{E:Value->Shared->Prop}{env:Env}
variable {nm q:Str}{C N:Addr}{bs bm:List Value}{wm:Bool}{sn:List Str}{sub:List Value}{ab:Bool}{col:Option Bool}{dd:Option Addr}{k0 k1 k2 k3 k5:Option Value}{newId:String}
theorem eN {s:Shared}{x:Sem Value}{Q:Flow->Shared->Prop}(hh:A.handled=none)
  (h:wpAny M A x (fun v s₁=>∃ e t de nm q N bs bm wm sn sub ab col dd k0 k1 k2 k3 k5 newId,v = .ref e/\bm.contains (.type "BaseException")=true/\s₁.heap.get? C=some (excClassObj nm q C N bs bm wm sn sub ab col dd k0 k1 k2 k3 k5 newId) /\
   s₁.heap.get? e=some { cls := .ref C,dict:=de,data := .fields #[.ref t, .none, .none, .none, .bool false, .none] }/\E (.ref e) s₁) E s) :
  wpAny M A (raiseStmt env (some x) none) Q E s:=by
 unfold raiseStmt
 refine wpAny_bind (wpAny_mono h (fun v s₁ h₁=>?_) fun _ _ x=>x)
 obtain⟨e,t,de,nm,q,N,bs,bm,wm,sn,sub,ab,col,dd,k0,k1,k2,k3,k5,newId,rfl,xR,hC,he,hE⟩:=h₁
 have ID:(Value.ref C :: bm).contains (.type "BaseException")=true:=by rw[contains_cons,xR,Bool.or_true]
 obtain⟨hp,g,d,tk,os⟩:=s₁
 repeat (first | with_reducible refine wpAny_loadPart_at he ?_ | with_reducible refine wpAny_loadPart_at hC ?_ | (with_reducible refine wpAny_isSubtype_exc hC ?_;rw[ID]) | wp_step)
 exact wpAny_raiseNew_none hh hE
end
end PySem
namespace L2
open PySem PySem.Spec PyProof.Rows
noncomputable def aM (K:Frag)(C:Addr)(init:Option Value):Bool:=match K.lookup C with
 | some ⟨.type "type",_, .cls cd,sl⟩=>(match cd.mro,sl.toList with
  | .ref C' :: bm,[_,_,_,_,some (.builtin n),_]=>C' == C && n == "ValueError.__new__" && !cd.hasDel && PySem.W.tailIn K c8 bm && PySem.W.nsOkIn K cd.ns && nsIn K cd.ns "__init__" == some init
  | _,_=>false)
 | _=>false
theorem fN {K:Frag}{h:Heap}{N:Addr}{x:Str}{v:Value}(X:K.In h)(e:PySem.W.nsOkIn K N=true)(q:nsIn K N x=some (some v)):h.nsMap N x=some v:=by
 have G:h.Ns N (h.nsMap N) := .of_isNs (PySem.W.isNs_of_in X e)
 generalize h.nsMap N=m at G ⊢
 obtain⟨o,es,ep,ho,hd,_,hf⟩:=G
 unfold nsIn at q
 split at q
 ·rename_i c d FV n' sl z
  have:=X _ _ z
  rw[ho]at this
  cases this
  cases hd
  split at q
  ·rename_i en he
   cases q
   rw[← hf]
   unfold nsFind findBy
   rw[← Array.find?_toList,he]
   rfl
  ·split at q<;>cases q
 ·cases q
theorem gC {K:Frag}{h:Heap}{C:Addr}{init:Option Value}(X:K.In h)(q:aM K C init=true):∃ bm N nm qn bs wm sn sub ab col dd k0 k1 k2 k3 k5 mN,
  h.get? C=some (excClassObj nm qn C N bs bm wm sn sub ab col dd k0 k1 k2 k3 k5 "ValueError.__new__")/\h.Ns N mN/\mN "__init__" = init/\OwnTail h c8 bm:=by
 unfold aM at q
 split at q
 ·rename_i dd cd sl ho
  split at q
  ·rename_i C' bm k0 k1 k2 k3 n k5 hm hs
   simp only[Bool.and_eq_true,beq_iff_eq,Bool.not_eq_true']at q
   obtain⟨⟨⟨⟨⟨rfl,rfl⟩,CU⟩,ht⟩,vD⟩,zR⟩:=q
   obtain⟨nm,bs,mro,ns,qn,hd,sn,sub,ab,col,qG⟩:=cd
   dsimp only at hm CU vD zR
   subst hm CU
   have M4:sl = #[k0,k1,k2,k3,some (.builtin "ValueError.__new__"),k5]:=by
    obtain⟨l⟩:=sl
    simp only at hs
    rw[hs]
   subst M4
   refine⟨bm,ns,nm,qn,bs,hd,sn,sub,ab,col,dd,k0,k1,k2,k3,k5,_,X _ _ ho, .of_isNs (PySem.W.isNs_of_in X vD),?_,PySem.W.tail_of_in X ht⟩
   cases init with
   | none=>exact PySem.W.nsMap_none_of_in X vD zR
   | some v=>exact fN X vD zR
  ·cases q
 ·cases q
theorem iK {h:Heap}{bm:List Value}(T:OwnTail h c8 bm):bm.contains (.type "BaseException")=true:=T.hasType (by decide)
noncomputable def cn (C t:Addr)(dd:Option Addr):Obj:={ cls := .ref C,dict:=dd,data := .fields #[.ref t, .none, .none, .none, .bool false, .none] }
abbrev TX:=St->Hp->(Option Addr->Hp->Prop)->Prop
noncomputable def PX (X:Cx)(e:Expr)(C:Addr)(t:TX):Prop :=
 ∀ (pins:List (Addr × Obj))(s:Shared)(σ:St)(H:Hp)(R:Option Addr->Hp->Prop),Inv X pins σ H s->t σ H R->wpAny (model X.prog X.w) X.A (eval e X.env)
  (fun u s'=>∃ ea dd tt H',u = .ref ea/\Inv X pins σ H' s'/\s'.heap.get? ea=some (cn C tt dd)/\X.s₀.heap.get? ea=none/\H' ea=none/\(∀ p ∈ X.pn ++ pins,p.1 ≠ ea)/\R dd H') X.xe s
theorem wt.at {P:Program}{w:World}{H:Hp}{h:Heap}{a:Addr}{o:HO}(x:wt P w H h)(e:H a=some o):∃ ob,h.get? a=some ob:=by
 have q:=x a o e
 have all:∀ o,vL P w H h a o->∃ ob,h.get? a=some ob:=by
  intro o
  induction o with
  | lst xs=>intro ⟨_,vA,n,_,e⟩;exact⟨_,e⟩
  | tup xs=>intro ⟨_,vA,_,ob,e,_⟩;exact⟨_,e⟩
  | dK kvs=>intro ⟨_,_,vs,_,q⟩;obtain⟨o,es,ep,e,_⟩:=q;exact⟨_,e⟩
  | dT kvs=>intro ⟨_,_,xs,_,o,es,ep,e,_⟩;exact⟨_,e⟩
  | set S n=>intro q;obtain⟨o,_,_,_,e,_⟩:=q;exact⟨_,e⟩
  | ins C dx fs=>intro ⟨_,_,_,e,_⟩;exact⟨_,e⟩
  | own x=>intro ⟨o,e⟩;exact⟨_,e⟩
  | xd fs=>intro ⟨mA,⟨o,es,ep,e,_⟩,_⟩;exact⟨_,e⟩
  | FP lo hi=>intro ⟨_,_,_,e⟩;exact⟨_,e⟩
  | yk o u ih=>intro ⟨e,_⟩;exact⟨_,e⟩
  | Aj ps=>intro e;exact⟨_,e⟩
  | met f x=>intro e;exact⟨_,e⟩
  | ext φ=>intro ⟨_,e,_⟩;exact e
 exact all o q
theorem wt.none_of {P:Program}{w:World}{H:Hp}{h:Heap}{a:Addr}(x:wt P w H h)(e:h.get? a=none):H a=none:=by
 cases q:H a with
 | none=>rfl
 | some o =>
  obtain⟨ob,z⟩:=x.at q
  rw[e]at z;cases z
noncomputable def qG (H:Hp)(a:Addr):Hp:=fun b=>if b=a then none else H b
theorem kG {H:Hp}{a:Addr}:qG H a a=none:=if_pos rfl
theorem cz {H:Hp}{a b:Addr}(h:b ≠ a):qG H a b=H b:=if_neg h
theorem Inv.drop {X:Cx}{pins:List (Addr × Obj)}{σ:St}{H:Hp}{s:Shared}{a:Addr} {φ:Heap->Prop} (I:Inv X pins σ H s) (e:H a=some (.ext φ)):Inv X pins σ (qG H a) s:=by
 have nx:∀ b u,H b=some u->(∀ φ,u ≠ .ext φ)->b ≠ a:=fun b u q n z=>by rw[z,e]at q;cases q;exact n φ rfl
 have nn:∀ b,H b=none->qG H a b=none:=fun b q=>by unfold qG;split<;>first | rfl | exact q
 refine⟨I.ok,I.os,I.bare,⟨I.base.keep,I.base.slot,fun b o h1 h2 h3=>nn b (I.base.free b o h1 h2 h3),I.base.there,fun b xs q=>?_,fun b o u q=>?_,fun b ps q=>?_⟩,I.loc,I.cell,nn _ I.free,fun x c h=>nn _ (I.vT x c h),fun p hp=>?_,fun b u q=>?_,I.len⟩
 ·have z:=I.base.wX b xs q
  rw[cz (nx b _ z fun φ h=>by cases h)];exact z
 ·have z:=I.base.wQ b o u q
  rw[cz (nx b _ z fun φ h=>by cases h)];exact z
 ·obtain⟨more,z⟩:=I.base.wY b ps q
  exact⟨more,by rw[cz (nx b _ z fun φ h=>by cases h)];exact z⟩
 ·obtain⟨h1,h2,h3⟩:=I.pin p hp
  exact⟨h1,nn _ h2,h3⟩
 ·have hb:b ≠ a:=fun z=>by rw[z,kG]at q;cases q
  rw[cz hb]at q
  refine(I.vD b u q).wD (fun c v _ z=>z) (fun c z=>?_) fun c xs z=>?_
  ·rw[cz (nx c _ z fun φ h=>by cases h)];exact z
  ·rw[cz (nx c _ z fun φ h=>by cases h)];exact z
section
variable {X:Cx}{C f:Addr}{x:Str}{p pos apos:Pos}{e:Expr}{es:List Expr}{t:TA}
noncomputable def tM (t:TA):TX:=fun σ H R=>t σ H fun vs H1=>vs.length <= sizeLine/\R none H1
theorem aZ (hq:aM X.K C none=true)(kp:keepIn X.K (.ref C)=true)(hex:X.ex=[])(hg:Gl X x)(hm:X.mg x=some (.ref C))(ha:PA X (e :: es) t)
  (xt:(x == ("__debug__":Str))=false:=by decide) (he:starEach (e :: es) X.env=(false,eval e X.env) :: starEach es X.env:=by rfl) (wR:(backTo pos (starEach es X.env)).any (·.1)=false:=by rfl) :
  PX X (.Call (.Name x p) (e :: es) [] pos) C (tM t):=by
 intro pins s σ H R I h
 refine wpAny_Call_Name_kw (bI I hg hm ?_ xt)
 refine PySem.W.callWith_K (h₀:=X.base) I.ok.mod.xa kp (aN (ha pos pins s σ H _ I h) fun us s1 ⟨vs,H1,I1,r,hl,q⟩=>⟨I1.vY,?_⟩) he wR
 obtain⟨bm,N,nm,qn,bs,wm,sn,sub,ab,col,dd,k0,k1,k2,k3,k5,mN,hC,hn,zR,T⟩:=gC I1.vY hq
 obtain⟨hp,g,d,tk,os⟩:=s1
 refine wpAny_call_exc_subT (hrest:=by show us.length <= _;rw[← r.length];exact hl) PySem.F.excBase_ValueError T hC hn zR fun h' ea xU=>?_
 obtain⟨tt,ht,_,_⟩:=xU.there
 refine⟨ea,none,tt,H1,rfl,I1.kept (t':=tk) xU.keeps,ht,I1.ze hex xU.new,I1.vD.none_of xU.new,fun p hp z=>?_,q⟩
 have:=(I1.pin p hp).1
 rw[z]at this
 have h2:=xU.new
 rw[this]at h2
 cases h2
noncomputable def b8 (e C t:Addr)(dd:Option Addr):HO := .ext fun h=>h.get? e=some (cn C t dd)
theorem iw {P:Program}{w:World}{H:Hp}{h:Heap}{e C t:Addr}{dd:Option Addr}(q:h.get? e=some (cn C t dd)):vL P w H h e (b8 e C t dd) :=
 ⟨q,⟨_,q⟩,fun h1 h2 a b=>b _ a⟩
noncomputable def tN (C:Addr)(sp:Sp)(t:TA):TX:=fun σ H R=>t σ H fun vs H1=>vs.length <= sizeLine/\∀ e tt,H1 e=none->sp (.ref e :: vs) (upd H1 e (b8 e C tt none)) (fun v H2=>v = .vJ/\∃ dd,H2 e=some (b8 e C tt dd)/\R dd (qG H2 e)) E0
theorem gy {k:Nat}{fd:FuncData}{ps:List Str}{sp:Sp}(hq:aM X.K C (some (.ref f))=true)(hf:isFn X.K (.ref f)=true)(kp:keepIn X.K (.ref C)=true)(F:v7 X.prog X.w X.K X.mg X.base aE k f fd ps sp)(hr:vE (k + 1) X.A)(hb:Binds X.K fd ps [])
  (hg:Gl X x) (hm:X.mg x=some (.ref C)) (ha:PA X (e :: es) t)
  (xt:(x == ("__debug__":Str))=false:=by decide) (he:starEach (e :: es) X.env=(false,eval e X.env) :: starEach es X.env:=by rfl) (wR:(backTo pos (starEach es X.env)).any (·.1)=false:=by rfl) :
  PX X (.Call (.Name x p) (e :: es) [] pos) C (tN C sp t):=by
 intro pins s σ H R I h
 refine wpAny_Call_Name_kw (bI I hg hm ?_ xt)
 refine PySem.W.callWith_K (h₀:=X.base) I.ok.mod.xa kp (aN (ha pos pins s σ H _ I h) fun us s1 ⟨vs,H1,I1,r,hl,q⟩=>⟨I1.vY,?_⟩) he wR
 obtain⟨bm,N,nm,qn,bs,wm,sn,sub,ab,col,dd,k0,k1,k2,k3,k5,mN,hC,hn,zR,T⟩:=gC I1.vY hq
 obtain⟨oI,M5,hcI⟩:∃ oI,s1.heap.get? f=some oI/\oI.cls = .type "function":=by
  have z:=beq_iff_eq.mp hf
  obtain⟨o,ho,z⟩:=Option.map_eq_some_iff.mp (show(X.K.lookup f).map (·.cls)=some (.type "function") from z)
  exact⟨o,I1.vY _ _ ho,z⟩
 obtain⟨hp,g,d,tk,os⟩:=s1
 dsimp only at hC hn T M5
 refine jd (hrest:=by show us.length <= _;rw[← r.length];exact hl) PySem.F.excBase_ValueError T hC hn zR M5 hcI ?_
 have nE:hp.objs.size <= hp.objs.size + 1:=le_succ _
 have M6:=q (hp.objs.size + 1) hp.objs.size (I1.vD.fresh nE)
 have Bi:((hp.push { cls := .type "tuple",data := .seq us.toArray }).push (cn C hp.objs.size none)).get? (hp.objs.size + 1)=some (cn C hp.objs.size none):=by
  have:=Heap.get?_push_size (hp.push { cls := .type "tuple",data := .seq us.toArray }) (o:=cn C hp.objs.size none) rfl
  rwa [size_push]at this
 have I2:Inv X pins σ (upd H1 (hp.objs.size + 1) (b8 (hp.objs.size + 1) C hp.objs.size none)) ⟨(hp.push { cls := .type "tuple",data := .seq us.toArray }).push (cn C hp.objs.size none),g,d,tk,os⟩ :=
  I1.laid (t':=tk) (fun b u z=>Heap.get?_push_of_some _ (Heap.get?_push_of_some _ z)) nE (iw Bi)
 have r2:Vals (V.ref (hp.objs.size + 1) :: vs) (Value.ref (hp.objs.size + 1) :: us) := .cons rfl r
 have yZ:(Value.ref (hp.objs.size + 1) :: us ++ []).length=ps.length:=by
  have e:=r2.length
  rw[F.len _ _ _ _ M6]at e
  rw[append_nil];exact e.symm
 have M7:=hb ⟨(hp.push { cls := .type "tuple",data := .seq us.toArray }).push (cn C hp.objs.size none),g,d,tk,os⟩ (Value.ref (hp.objs.size + 1) :: us) I2.vY yZ
 rw[append_nil]at M7
 refine wpAny_call (codeAny_mono (F.run _ X.stack _ _ ⟨Value.ref (hp.objs.size + 1) :: us,[]⟩ (Value.ref (hp.objs.size + 1) :: us) _ _ E0 (hr.make C us []) (I2.zL.make C us []) M7 r2 M6) fun rr s' yW=>?_)
 cases rr with
 | error e=>exact yW.elim
 | ok fl =>
  cases fl with
  | ret u =>
   obtain⟨v,H',I3,rv,ev,de,zg,q3⟩:=I2.after yW
   subst ev
   refine⟨rv,hp.objs.size + 1,de,hp.objs.size,qG H' (hp.objs.size + 1),rfl,I3.drop zg,(I3.vD _ _ zg).1,Heap.get?_none_of_le (le_trans I1.sz nE),kG,fun p Gv z=>?_,q3⟩
   have:=lt_size (I1.pin p Gv).1
   rw[z]at this
   exact absurd this (not_lt.mpr nE)
  | next=>exact False.elim yW
  | brk=>exact False.elim yW
  | cont=>exact False.elim yW
noncomputable def tR (C:Addr)(E:XK)(t:TX):TS:=fun _ σ H=>t σ H fun dd H1=>E (.ref C) dd H1
theorem aO {n:Bool}{E:XK}{tx:TX}{init:Option Value}(hc:X.calm=true)(hq:aM X.K C init=true)(hx:wL n X E)(h:PX X e C tx):PS X (.Raise (some e) none pos) (tR C E tx):=by
 intro pins s σ H D I hw
 rw[arm_exec_Raise]
 have key:wpAny (model X.prog X.w) X.A (eval e X.env) (fun v s₁=>∃ ea t de nm q N bs bm wm sn sub ab col dd k0 k1 k2 k3 k5 newId,v = .ref ea/\bm.contains (.type "BaseException")=true/\s₁.heap.get? C=some (excClassObj nm q C N bs bm wm sn sub ab col dd k0 k1 k2 k3 k5 newId) /\
   s₁.heap.get? ea=some { cls := .ref C,dict:=de,data := .fields #[.ref t, .none, .none, .none, .bool false, .none] }/\X.xe (.ref ea) s₁) X.xe s:=by
  refine aN (h pins s σ H _ I hw) fun u s1 v9=>?_
  obtain⟨ea,dd,tt,H',eu,I1,ho,hn,hh,hp,q⟩:=v9
  obtain⟨bm,N,nm,qn,bs,wm,sn,sub,ab,col,IE,k0,k1,k2,k3,k5,mN,hC,An,zR,T⟩:=gC I1.vY hq
  refine⟨ea,tt,dd,nm,qn,N,bs,bm,wm,sn,sub,ab,col,IE,k0,k1,k2,k3,k5,_,eu,iK T,hC,ho,hx pins σ _ _ ⟨ea, .ref C,dd,[ea],H',rfl,I1,⟨_,_,ho,rfl,rfl,rfl,fun _=>rfl, .inl ⟨rfl,rfl⟩⟩,fun b hb=>?_,q⟩⟩
  simp only[mem_singleton]at hb
  subst hb
  exact⟨hn,hh,hp⟩
 first
  | refine wpAny_bind (wpAny_standAt (eN (C:=C) (I.ok.hd hc) (wpAny_bind (wpAny_mono key (fun v s₃ h₃=>wpAny_bind (wpAny_standAt (wpAny_pure h₃))) fun _ _ x=>x))))
  | (simp only[evalOpt,Option.map];refine wpAny_bind (wpAny_standAt (eN (C:=C) (I.ok.hd hc) (wpAny_bind (wpAny_mono key (fun v s₃ h₃=>wpAny_bind (wpAny_standAt (wpAny_pure h₃))) fun _ _ x=>x)))))
end
end L2
namespace L2
open PySem PySem.Spec PyProof.Rows
noncomputable def bF (cells:List (Str × Addr)):List (Str × NameKind)->List (Str × Addr)->List (Str × Addr)
 | [],acc=>acc
 | (n,k) :: r,acc=>if k == .free then bF cells r ((n,(cells.lookup n).getD 0) :: acc) else bF cells r acc
theorem eF {scope:Scope}{env:Env}(h:∀ y ∈ scope.names,y.2 = .free->∃ c,env.cells.lookup y.1=some c) :
  closureFor scope env=pure (bF env.cells scope.names []):=by
 unfold closureFor
 have key:∀ (names:List (Str × NameKind))(acc:List (Str × Addr)),(∀ y ∈ names,y.2 = .free->∃ c,env.cells.lookup y.1=some c) ->
   (forIn names acc fun (x:Str × NameKind)(cs:List (Str × Addr))=>(match x with
    | (name,kind)=>if (kind == NameKind.free)=true then do
      let c ← cellOf env name
      pure (ForInStep.yield ((name,c) :: cs))
     else pure (ForInStep.yield cs):Sem (ForInStep (List (Str × Addr)))))=(pure (bF env.cells names acc):Sem (List (Str × Addr))):=by
  intro names
  induction names with
  | nil=>intro acc _;rfl
  | cons y r ih =>
   intro acc hy
   obtain⟨n,k⟩:=y
   rw[forIn_cons]
   by_cases hk:(k == NameKind.free)=true
   ·obtain⟨c,hc⟩:=hy (n,k) mem_cons_self (by simpa using hk)
    have e1:cellOf env n=pure c:=by
     unfold cellOf
     simp only[]at hc
     rw[hc]
    simp only[hk,if_true,e1,pure_bind]
    rw[ih _ fun z hz=>hy z (mem_cons_of_mem _ hz)]
    unfold bF
    simp only[]at hc
    rw[if_pos hk,hc]
    conv=>rhs;unfold bF
    rfl
   ·simp only[hk,Bool.false_eq_true,if_false,pure_bind]
    rw[ih _ fun z hz=>hy z (mem_cons_of_mem _ hz)]
    conv=>rhs;unfold bF
    rw[if_neg hk]
 exact(congrArg (fun (m:Sem (List (Str × Addr)))=>m >>= fun z=>pure z) (key scope.names [] h)).trans (pure_bind _ _)
theorem c6 {cells:List (Str × Addr)}{x:Str}{c:Addr}:∀ (names:List (Str × NameKind))(acc:List (Str × Addr)),(∀ y ∈ names,y.2 = .free->∃ c,cells.lookup y.1=some c) ->
  (∀ c,acc.lookup x=some c->cells.lookup x=some c)->(bF cells names acc).lookup x=some c->cells.lookup x=some c
 | [],acc,_,ha,e=>ha c e
 | (n,k) :: r,acc,hn,ha,e=>by
  unfold bF at e
  have hr:=fun z hz=>hn z (mem_cons_of_mem _ hz)
  split at e
  ·rename_i hk
   refine c6 r _ hr (fun c' e'=>?_) e
   rw[lookup_cons]at e'
   split at e'
   ·rename_i hx
    have wV:x=n:=by simpa using hx
    subst wV
    obtain⟨c0,M8⟩:=hn (x,k) mem_cons_self (by simpa using hk)
    simp only[]at M8
    rw[M8]at e' ⊢
    exact e'
   ·exact ha c' e'
  ·exact c6 r acc hr ha e
theorem dE {cells:List (Str × Addr)}{x:Str}:∀ (names:List (Str × NameKind))(acc:List (Str × Addr)),((x,NameKind.free) ∈ names∨∃ c,acc.lookup x=some c) ->
  ∃ c,(bF cells names acc).lookup x=some c
 | [],acc,h=>by
  rcases h with h | h
  ·cases h
  ·exact h
 | (n,k) :: r,acc,h=>by
  unfold bF
  split
  ·rename_i hk
   refine dE r _ ?_
   rcases h with h | ⟨c,h⟩
   ·rcases mem_cons.mp h with h | h
    ·refine .inr ⟨(cells.lookup n).getD 0,?_⟩
     injection h with h1 h2
     rw[lookup_cons,h1]
     simp
    ·exact .inl h
   ·refine .inr ?_
    rw[lookup_cons]
    split
    ·exact⟨_,rfl⟩
    ·exact⟨c,h⟩
  ·rename_i hk
   refine dE r _ ?_
   rcases h with h | h
   ·rcases mem_cons.mp h with h | h
    ·injection h with h1 h2
     subst h2
     exact absurd rfl hk
    ·exact .inl h
   ·exact .inr h
theorem eV {env:Env}{x:Str}:∀ {names:List (Str × NameKind)},names.lookup x=some .free ->
  (names.map fun (n,k)=>if (k == NameKind.free && env.scope.kind == .function && env.kindOf n == some .cell) then (n,NameKind.cell) else (n,k)).lookup x=some .cell ∨
  (names.map fun (n,k)=>if (k == NameKind.free && env.scope.kind == .function && env.kindOf n == some .cell) then (n,NameKind.cell) else (n,k)).lookup x=some .free
 | [],h=>by simp at h
 | (n,k) :: r,h=>by
  have ih:=@eV env x r
  rw[map_cons]
  cases hx:x == n with
  | true =>
   rw[lookup_cons,hx]at h
   cases h
   simp only[]
   split
   ·left;rw[lookup_cons,hx]
   ·right;rw[lookup_cons,hx]
  | false =>
   rw[lookup_cons,hx]at h
   simp only[]
   split
   ·rw[lookup_cons,hx];exact ih h
   ·rw[lookup_cons,hx];exact ih h
theorem dO {env:Env}{x:Str}{k:NameKind}(hk:k = .cell∨k = .free):∀ {names:List (Str × NameKind)},(∀ y ∈ names,y.2 ≠ .cell) ->
  (names.map fun (n,k)=>if (k == NameKind.free && env.scope.kind == .function && env.kindOf n == some .cell) then (n,NameKind.cell) else (n,k)).lookup x=some k->(x,NameKind.free) ∈ names
 | [],_,h=>by simp at h
 | (n,k') :: r,hc,h=>by
  have ih:=@dO env x k hk r fun y hy=>hc y (mem_cons_of_mem _ hy)
  rw[map_cons]at h
  simp only[]at h
  cases hx:x == n with
  | true =>
   have e:x=n:=by simpa using hx
   subst e
   split at h
   ·rename_i q
    have q':k' = .free:=by
     have:=(Bool.and_eq_true _ _ ▸ q:_/\_).1
     have:=(Bool.and_eq_true _ _ ▸ this:_/\_).1
     simpa using this
    rw[q']
    exact mem_cons_self
   ·rw[lookup_cons,hx]at h
    have e2:k' = k:=Option.some.inj h
    rcases hk with z | z
    ·exact absurd (e2.trans z) (hc (x,k') mem_cons_self)
    ·rw[e2,z];exact mem_cons_self
  | false =>
   split at h
   ·rw[lookup_cons,hx]at h;exact mem_cons_of_mem _ (ih h)
   ·rw[lookup_cons,hx]at h;exact mem_cons_of_mem _ (ih h)
section
variable {prog:Program}{w:World}{A:Around}{R:Result->Shared->Prop}{s:Shared}
abbrev jg (ifs:List Expr)(env:Env):Sem Bool :=
 forIn ifs true fun c r=>if r=true then do let ok ← isTrue c env (eval c env);pure (ForInStep.yield ok) else pure (ForInStep.yield r)
theorem kM {elt tg iter:Expr}{ifs:List Expr}{scope:Scope}{pos:Pos}{it acc:Value}{env:Env}(I:Nat->Shared->Prop)
  (turn:∀ n s,I n s->wpAny (model prog w) A (pyNext it) (fun r s1=>match r with
   | none=>R (.ok .next) s1
   | some v=>wpAny (model prog w) A (letOwnedTupleGo tg it v) (fun _ s2=>wpAny (model prog w) A (assign tg env v) (fun _ s3 =>
     wpAny (model prog w) A (jg ifs env) (fun ok s4 =>
      if ok=true then wpAny (model prog w) A (eval elt env) (fun x s5 =>
       wpAny (model prog w) A (call (.builtin "list.append") [acc,x]) (fun _ s6=>∃ m,m < n/\I m s6) (fun _ _=>False) s5) (fun _ _=>False) s4
      else ∃ m,m < n/\I m s4) (fun _ _=>False) s3) (fun _ _=>False) s2) (fun _ _=>False) s1) (fun _ _=>False) s)
  (n:Nat) (h:I n s):codeAny (model prog w) A (.compLoop (.ListComp elt [⟨tg,iter,ifs,0⟩] scope pos) 0 it acc env) R s:=by
 refine codeAny_loop rfl I (fun n s hI=>?_) n h
 have no:∀ {E':Value->Shared->Prop}(e:Value)(s':Shared),False->E' e s':=fun _ _ z=>z.elim
 show wpAny _ A (Sem.onRaise (compTurn (.ListComp elt [⟨tg,iter,ifs,0⟩] scope pos) 0 it acc env) fun x=>do
  noteFrame x env
  theTreesLotGoes x) _ _ s
 refine wpAny_noted ?_
 rw[compTurn_list]
 refine wpAny_bind (wpAny_standAt (wpAny_bind (wpAny_mono (turn n s hI) (fun r s1 h1=>?_) no)))
 cases r with
 | none=>exact wpAny_pure h1
 | some v =>
  refine wpAny_bind (wpAny_mono h1 (fun _ s2 h2=>?_) no)
  refine wpAny_bind (wpAny_mono h2 (fun _ s3 h3=>?_) no)
  refine wpAny_bind (wpAny_mono h3 (fun ok s4 h4=>?_) no)
  cases ok with
  | false=>exact wpAny_pure ⟨rfl,h4⟩
  | true =>
   refine wpAny_bind (wpAny_bind (wpAny_mono h4 (fun x s5 h5=>?_) no))
   exact wpAny_bind (wpAny_mono h5 (fun _ s6 h6=>wpAny_pure (wpAny_pure ⟨rfl,h6⟩)) no)
end
noncomputable def CV (X:Cx)(ifs:List Expr)(t:TT):Prop :=
 ∀ (pins:List (Addr × Obj))(s:Shared)(σ:St)(H:Hp)(Q:Bool->Hp->Prop),Inv X pins σ H s->t σ H Q->wpAny (model X.prog X.w) X.A (jg ifs X.env) (TP X pins σ Q) X.xe s
noncomputable def nI:TT:=fun _ H Q=>Q true H
theorem bG {X:Cx}:CV X [] nI:=fun _ _ _ H _ I h=>wpAny_pure ⟨H,I,h⟩
theorem eY {X:Cx}{c:Expr}{t:TT}(h:PT X c t):CV X [c] t:=fun pins s σ H Q I hw=>by
 simp only[jg,forIn_cons,List.forIn_nil,if_true]
 exact wpAny_bind (wpAny_bind (aN (h pins s σ H Q I hw) fun b s' hb=>wpAny_pure (wpAny_pure hb)))
structure wM (N:List Str)(sc scope:Scope)(capN:List Str)(cap:List Nat):Prop where
 kind:scope.kind = .function
 yt:∀ y ∈ scope.names,y.2 ≠ .cell
 loc:∀ y ∈ scope.names,y.2 = .local->scope.names.lookup y.1=some .local
 free:∀ y ∈ scope.names,y.2 = .free->sc.names.lookup y.1=some .cell∨sc.names.lookup y.1=some .free
 len:cap.length=capN.length
 cap:∀ p ∈ capN.zip cap,scope.names.lookup p.1=some .free/\N[p.2]? = some p.1
abbrev bB (X:Cx)(scope:Scope)(N:List Str)(C:Addr)(s:Shared)(H:Hp)(fp:List Addr):Cx :=
 { X with N:=N,s₀:=s,H₀:=H,env:=compEnvC scope (bF X.env.cells scope.names []) C X.env,outer:=X.stack,stack:=X.stack,ex:=fp,fn:=fun _=>false,pn:=[],xe:=fun _ _=>False }
noncomputable def fS (n:Nat)(cap:List Nat)(σ:St):St:=List.replicate n none ++ cap.map fun j=>(σ[j]?).join
theorem kP (n:Nat)(cap:List Nat)(σ:St):(fS n cap σ).length=n + cap.length:=by simp[fS]
section
variable {X:Cx}{pins:List (Addr × Obj)}{σ:St}{H:Hp}{s:Shared}{scope:Scope}{own capN:List Str}{cap:List Nat}{fp:List Addr}
theorem wM.Bj (B:wM X.N X.env.scope scope capN cap)(ok:X.Ok):∀ y ∈ scope.names,y.2 = .free->∃ c,X.env.cells.lookup y.1=some c:=fun y hy hf=>ok.has y.1 (B.free y hy hf)
theorem wM.cell (B:wM X.N X.env.scope scope capN cap)(ok:X.Ok){x:Str}{c:Addr}(h:(bF X.env.cells scope.names []).lookup x=some c):X.env.cells.lookup x=some c :=
 c6 scope.names [] (B.Bj ok) (fun _ e=>by cases e) h
theorem wM.locs (I:Inv X pins σ H s)(B:wM X.N X.env.scope scope capN cap){h':Heap}(k:∀ x c v,X.env.cells.lookup x=some c->s.heap.IsCell c v->h'.IsCell c v)(C:Addr)(m0:Str->Option Value) :
  ∀ (i:Nat)(x:Str)(v:V),(own ++ capN)[i]? = some x->(fS own.length cap σ)[i]? = some (some v)->∃ u,RelV v u/\Look (compEnvC scope (bF X.env.cells scope.names []) C X.env) h' m0 x u:=by
 intro i x v e1 e2
 have hi:own.length <= i:=by
  by_cases q:own.length <= i
  ·exact q
  ·unfold fS at e2
   rw[List.getElem?_append_left (by simp;omega),List.getElem?_replicate,if_pos (by omega)]at e2
   cases e2
 have e1':capN[i - own.length]? = some x:=by
  rwa [List.getElem?_append_right hi]at e1
 unfold fS at e2
 rw[List.getElem?_append_right (by simpa using hi),length_replicate,List.getElem?_map]at e2
 cases ej:cap[i - own.length]? with
 | none=>rw[ej]at e2;cases e2
 | some j =>
  rw[ej]at e2
  have Gx:(σ[j]?).join=some v:=Option.some.inj e2
  have e3':σ[j]? = some (some v):=by
   cases q:σ[j]? with
   | none=>rw[q]at Gx;cases Gx
   | some u=>rw[q]at Gx;exact congrArg some Gx
  have hz:(x,j) ∈ capN.zip cap:=by
   refine List.mem_iff_getElem?.mpr ⟨i - own.length,?_⟩
   rw[List.getElem?_zip_eq_some]
   exact⟨e1',ej⟩
  obtain⟨c1,c2⟩:=B.cap (x,j) hz
  have M9:(x,NameKind.free) ∈ scope.names:=PySem.mem_of_lookup c1
  have hX:=B.free _ M9 rfl
  obtain⟨m,hm,hl⟩:=I.loc
  obtain⟨u,ru,lk⟩:=hl j x v c2 e3' (hX.elim (fun z => .inr (.inl z)) fun z => .inr (.inr z))
  refine⟨u,ru, .inr ⟨eV c1,?_⟩⟩
  rcases lk with ⟨q,_⟩ | ⟨_,c,ec,ic⟩
  ·have q':X.env.scope.names.lookup x=some .local:=q
   rcases hX with z | z
   ·rw[z]at q';cases q'
   ·rw[z]at q';cases q'
  ·obtain⟨c',MA⟩:=dE (cells:=X.env.cells) (x:=x) scope.names [] (.inl M9)
   have:=B.cell I.ok MA
   rw[ec]at this
   cases this
   exact⟨c,MA,k x c _ ec ic⟩
theorem Inv.blk {h4:Heap}{tk:Nat}{m0:Str->Option Value}{C:Addr}(I:Inv X pins σ H s)(B:wM X.N X.env.scope scope capN cap)(hC:s.heap.objs.size <= C)(k:∀ b o,s.heap.get? b=some o->h4.get? b=some o)
  (hn:h4.Ns C m0) (hf:∀ b ∈ fp,eB X pins H b) (wA:∀ b ∈ fp,b < s.heap.objs.size) :
  Inv (bB X scope (own ++ capN) C s H fp) [] (fS own.length cap σ) H { s with heap:=h4,toks:=tk }:=by
 have IF:∀ b ∈ fp,b ∉ gh X.stack:=fun b hb z=>by
  obtain⟨_,f1,f2,_⟩:=hf b hb
  rcases mem_cons.mp (I.wx b z) with e | e
  ·exact f1 e
  ·exact f2 e
 have hinv:∀ x,((relabel scope X.env).names.lookup x=some .cell∨(relabel scope X.env).names.lookup x=some .free)->(x,NameKind.free) ∈ scope.names:=fun x hx=>by
  rcases hx with q | q
  ·exact dO (.inl rfl) B.yt q
  ·exact dO (.inr rfl) B.yt q
 refine⟨⟨I.ok.mod,B.kind,I.ok.glob,I.ok.blt,hC,fun x y c h1 h2=>I.ok.inj x y c (B.cell I.ok h1) (B.cell I.ok h2),fun x hx=>dE scope.names [] (.inl (hinv x hx)),fun _ _ z=>absurd z Bool.false_ne_true,I.ok.hd,I.ok.frames, .inl rfl,
  fun b hb=>⟨ne_of_lt (lt_of_lt_of_le (wA b hb) hC),fun x c e=>(hf b hb).2.2.2.2.1 x c (B.cell I.ok e)⟩,I.bs,le_trans I.ok.yT I.sz,fun b o e hb=>?_,fun b hb=>IF b hb,I.stack,I.xb⟩,
  rfl,I.bare,Un.kept k,⟨m0,hn,fun i x v e1 e2 _=>B.locs I (fun _ _ _ _ q=>q.keeps k) C m0 i x v e1 e2⟩,fun x c e=>?_,I.vD.fresh hC,fun x c e=>I.vT x c (B.cell I.ok e),fun p hp=>absurd (show p ∈ ([]:List (Addr × Obj)) from hp) (by simp),I.vD.kept k,?_⟩
 ·rcases (hf b hb).2.2.2.1 with z | z
  ·exact I.ok.yE b o e z
  ·exact absurd (lt_of_lt_of_le (lt_size e) (le_trans I.ok.yT z)) (lt_irrefl _)
 ·obtain⟨v,q⟩:=I.cell x c (B.cell I.ok e)
  exact⟨v,q.keeps k⟩
 ·show(fS own.length cap σ).length=(own ++ capN).length
  rw[kP,length_append,B.len]
theorem Inv.reset {xN:List (Addr × Obj)}{σ':St}{H':Hp}{s':Shared}{C:Addr}(I:Inv X pins σ H s)(B:wM X.N X.env.scope scope capN cap)(hf:∀ b ∈ fp,eB X pins H b)(J:Inv (bB X scope (own ++ capN) C s H fp) xN σ' H' s') :
  Inv (bB X scope (own ++ capN) C s H fp) xN (fS own.length cap σ) H' s':=by
 obtain⟨m,hn,_⟩:=J.loc
 refine⟨J.ok,J.os,J.bare,J.base,⟨m,hn,fun i x v e1 e2 _=>?_⟩,J.cell,J.free,J.vT,J.pin,J.vD,?_⟩
 ·refine B.locs I (fun y c v' ec ic=>?_) C m i x v e1 e2
  obtain⟨o,ho,hd⟩:=ic
  have hx:c ∉ fp:=fun z=>(hf c z).2.2.2.2.1 y c ec rfl
  obtain⟨sl,e⟩:=J.base.any ho (I.vT y c ec) hx
  exact⟨_,e,hd⟩
 ·show(fS own.length cap σ).length=(own ++ capN).length
  rw[kP,length_append,B.len]
theorem Inv.adopt {D:Addr}{o:HO}(I:Inv X pins σ H s)(hn:H D=none)(h0:X.s₀.heap.objs.size <= D)(hL:D ≠ X.env.locals)(hc:∀ x c,X.env.cells.lookup x=some c->c ≠ D)(hp:∀ p ∈ X.pn ++ pins,p.1 ≠ D)
  (new:vL X.prog X.w (upd H D o) s.heap D o):Inv X pins σ (upd H D o) s:=by
 have ne:∀ b u,H b=some u->b ≠ D:=fun b u e=>ai e hn
 refine⟨I.ok,I.os,I.bare,⟨I.base.keep,I.base.slot,fun b ob e n hx=>?_,I.base.there,fun b xs e=>?_,fun b ob u e=>?_,fun b ps e=>?_⟩,I.loc,I.cell,?_,fun x c e=>?_,fun p Gv=>?_,fun b u e=>?_,I.len⟩
 ·rw[ae (ne_of_lt (lt_of_lt_of_le (lt_size e) h0))]
  exact I.base.free b ob e n hx
 ·have q:=I.base.wX b xs e
  rw[ae (ne b _ q)];exact q
 ·have q:=I.base.wQ b ob u e
  rw[ae (ne b _ q)];exact q
 ·obtain⟨more,q⟩:=I.base.wY b ps e
  exact⟨more,by rw[ae (ne b _ q)];exact q⟩
 ·rw[ae (Ne.symm hL)];exact I.free
 ·rw[ae (hc x c e)];exact I.vT x c e
 ·obtain⟨e,n,r⟩:=I.pin p Gv
  exact⟨e,by rw[ae (hp p Gv)];exact n,r⟩
 ·by_cases hb:b=D
  ·subst hb;rw[vz]at e;cases e;exact new
  ·rw[ae hb]at e
   exact(I.vD b u e).wD (fun _ _ _ q=>q) (fun c q=>by rw[ae (ne c _ q)];exact q) fun c xs q=>by rw[ae (ne c _ q)];exact q
end
noncomputable def eh (J:It)(g:TG)(tt:TT)(te:TE)(σ0:St)(Q:VK)(H1:Hp):Prop:=∃ W:Nat->Nat->List V->Hp->Prop,(∃ m,W 0 m [] H1)/\∀ i m acc H,W i m acc H ->
 acc.length < sizeLine/\((J.stop i H/\∀ D,H D=none->Q (.ref D) (upd H D (.lst acc)))∨(J.go i H/\∃ N:List V->Hp->Prop,(∀ wu H',N wu H'->∃ m',m' < m/\W (i + 1) m' wu H') /\
  ∀ x H',J.zy i H x H'->g x σ0 H' fun σ2 H2=>tt σ2 H2 fun b H3=>if b=true then te σ2 H3 fun y H4=>N (acc ++ [y]) H4 else N acc H3))
noncomputable def sW (wi:TI)(g:TG)(tt:TT)(te:TE)(n:Nat)(cap:List Nat):TE:=fun σ H Q=>wi σ H fun J H1=>eh J g tt te (fS n cap σ) Q H1
section
variable {X:Cx}{tg iter elt:Expr}{ifs:List Expr}{scope:Scope}{pos:Pos}{wi:TI}{g:TG}{tt:TT}{te:TE}{own capN:List Str}{cap:List Nat}
abbrev jB (vA:List Value)(k:Nat):Obj:={ cls := .type "list",data := .seq vA.toArray k }
theorem kJ {pins:List (Addr × Obj)}{s:Shared}{σ:St}{H:Hp}{Q:VK}{it:Addr}{fp:List Addr}{tn:Nat->Heap->Prop}{J:It}(B:wM X.N X.env.scope scope capN cap)(hc:X.calm=true)
  (hb:∀ (C:Addr)(s:Shared)(H:Hp)(fp:List Addr),PG (bB X scope (own ++ capN) C s H fp) tg g/\CV (bB X scope (own ++ capN) C s H fp) ifs tt/\PE (bB X scope (own ++ capN) C s H fp) elt te)
  (I:Inv X pins σ H s) (T:kX X.prog X.w X.K tg J fp it tn) (st:tn 0 s.heap) (hf:∀ b ∈ fp,eB X pins H b) {W:Nat->Nat->List V->Hp->Prop} {m0:Nat} (w0:W 0 m0 [] H)
  (turn:∀ i m acc H,W i m acc H->acc.length < sizeLine/\((J.stop i H/\∀ D,H D=none->Q (.ref D) (upd H D (.lst acc)))∨(J.go i H/\∃ N:List V->Hp->Prop,(∀ wu H',N wu H'->∃ m',m' < m/\W (i + 1) m' wu H') /\
   ∀ x H',J.zy i H x H'->g x (fS own.length cap σ) H' fun σ2 H2=>tt σ2 H2 fun b H3=>if b=true then te σ2 H3 fun y H4=>N (acc ++ [y]) H4 else N acc H3)))
  {RR:Value->Addr->Result->Shared->Prop}
  (fin:∀ (D C:Addr)(H':Hp)(s':Shared),Q (.ref D) H'->Inv X pins σ H' s'->(∃ m,s'.heap.Ns C m)->H' C=none->C ≠ X.env.locals->X.s₀.heap.objs.size <= C->(∀ x c,X.env.cells.lookup x=some c->c ≠ C)->(∀ p ∈ X.pn ++ pins,p.1 ≠ C) ->
   RR (.ref D) C (.ok .next) s') :
  wpAny (model X.prog X.w) X.A (newList []) (fun acc s3=>wpAny (model X.prog X.w) X.A (newFunctionEnv scope X.env.globals (bF X.env.cells scope.names []) [] X.env.qual none .none (some X.env)) (fun CW s4 =>
   codeAny (model X.prog X.w) X.A (.compStart (.ListComp elt [⟨tg,iter,ifs,0⟩] scope pos) 0 (.ref it) acc { CW with scope:=relabel scope X.env }) (RR acc CW.locals) s4) X.xe s3) X.xe s:=by
 refine wpAny_newObj_type (wpAny_newFunctionEnv B.yt (by intro y hy;simp at hy) (fun h1 An Aw=>?_) B.kind)
 dsimp only at An Aw ⊢
 generalize Bk:s.heap.push { cls := .type "list",dict:=none,data := .seq ([]:List Value).toArray } = H2 at An Aw ⊢
 have hCs:H2.objs.size=s.heap.objs.size + 1:=by rw[← Bk,size_push]
 have yu:s.heap.objs.size <= H2.objs.size:=by omega
 have zS:∀ b ∈ fp,b < s.heap.objs.size:=fun b hb=>by
  obtain⟨o,e,_⟩:=T.obj 0 s.heap st b hb
  exact lt_size e
 have old:∀ b o,s.heap.get? b=some o->h1.get? b=some o:=fun b o e =>
  Aw.extBut b o (ne_of_lt (lt_of_lt_of_le (lt_size e) yu)) (Heap.get?_push_of_some _ (Bk ▸ Heap.get?_push_of_some _ e))
 have Gz:s.heap.objs.size ≠ H2.objs.size:=by omega
 have IG:h1.get? s.heap.objs.size=some (jB [] 0):=Aw.extBut _ _ Gz (Heap.get?_push_of_some _ (Bk ▸ Heap.get?_push_size _ rfl))
 have I4:Inv (bB X scope (own ++ capN) H2.objs.size s H fp) [] (fS own.length cap σ) H { s with heap:=h1,toks:=s.toks + ([]:List (Str × Value)).length }:=I.blk (own:=own) B yu old An hf zS
 have IF:∀ b ∈ fp,b ∉ gh X.stack:=fun b hb z=>by
  obtain⟨_,f1,f2,_⟩:=hf b hb
  rcases mem_cons.mp (I.wx b z) with e | e
  ·exact f1 e
  ·exact f2 e
 have zT:∀ b ∈ gh X.stack,b < s.heap.objs.size:=fun b hb=>by
  obtain⟨_,o,ho,_⟩:=I.stack.mem hb
  exact lt_size ho
 have yw:∀ x c,X.env.cells.lookup x=some c->c < s.heap.objs.size:=fun x c e=>by
  obtain⟨v,q⟩:=I.cell x c e
  exact q.lt
 have Ax:∀ (H':Hp)(h':Heap)(vA:List Value)(k:Nat),H' s.heap.objs.size=none->h'.get? s.heap.objs.size=some (jB vA k) ->
   ∀ p ∈ [(s.heap.objs.size,jB vA k)],h'.get? p.1=some p.2/\H' p.1=none/\p.1 ≠ (bB X scope (own ++ capN) H2.objs.size s H fp).env.locals/\p.1 ∉ (bB X scope (own ++ capN) H2.objs.size s H fp).fs/\∀ v,p.2.data ≠ .cell v:=fun H' h' vA k hn he p hp=>by
  have e:p=(s.heap.objs.size,jB vA k):=by simpa using hp
  subst e
  exact⟨he,hn,Gz,fun z=>absurd (zT _ z) (lt_irrefl _),fun v z=>by cases z⟩
 have stat:∀ (H':Hp)(vA:List Value)(k:Nat),(∀ b ∈ fp,H' b=none)->∀ b ∈ fp,eB (bB X scope (own ++ capN) H2.objs.size s H fp) [(s.heap.objs.size,jB vA k)] H' b:=fun H' vA k hn b hb =>
  ⟨hn b hb,ne_of_lt (lt_of_lt_of_le (zS b hb) yu),IF b hb, .inl hb,fun x c e=>(hf b hb).2.2.2.2.1 x c (B.cell I.ok e),fun p hp=>by
   have e:p=(s.heap.objs.size,jB vA k):=by simpa using hp
   subst e
   exact ne_of_gt (zS b hb)⟩
 have loop:∀ s3:Shared,s3 = { s with heap:=h1,toks:=s.toks + ([]:List (Str × Value)).length } ->
   codeAny (model X.prog X.w) X.A (.compLoop (.ListComp elt [⟨tg,iter,ifs,0⟩] scope pos) 0 (.ref it) (.ref s.heap.objs.size) (compEnvC scope (bF X.env.cells scope.names []) H2.objs.size X.env))
    (RR (.ref s.heap.objs.size) H2.objs.size) s3:=by
  rintro s3 rfl
  refine kM (fun n s'=>∃ i acc vA k H',Inv (bB X scope (own ++ capN) H2.objs.size s H fp) [(s.heap.objs.size,jB vA k)] (fS own.length cap σ) H' s'/\tn i s'.heap/\(∀ b ∈ fp,H' b=none)/\Vals acc vA/\W i n acc H') ?_ m0
   ⟨0,[],[],0,H,I4.w8 (Ax _ _ _ _ (I.vD.fresh (le_refl _)) IG),T.keep 0 s.heap h1 st fun b _ o e=>old b o e,fun b hb=>(hf b hb).1, .nil,w0⟩
  rintro n s5 ⟨i,acc,vA,k,H5,I5,BQ,Gd,rv,w5⟩
  obtain⟨hsz,CY⟩:=turn i n acc H5 w5
  obtain⟨hgt,Bl,hte⟩:=hb H2.objs.size s H fp
  rcases CY with ⟨stop,q⟩ | ⟨go,N,hN,step⟩
  ·refine aN (T.done (bB X scope (own ++ capN) H2.objs.size s H fp) rfl rfl rfl hc i _ s5 _ H5 _ I5 (stat H5 vA k Gd) BQ stop) fun r s6 v9=>?_
   obtain⟨hr,I6⟩:=v9
   subst hr
   obtain⟨hD,CZ,_⟩:=I6.pin (s.heap.objs.size,jB vA k) (by simp)
   have J1:Inv X pins σ H5 s6:=I.Al (s':=s6) (ch:=fp) I6.os I6.base I6.vD I6.bare fun b hb=>by
    obtain⟨_,f1,_,f3,f4,f5⟩:=hf b hb
    exact⟨f3,f1,f4,f5⟩
   have J2:Inv X pins σ (upd H5 s.heap.objs.size (.lst acc)) s6:=J1.adopt CZ I.sz (ne_of_gt I.lt) (fun x c e=>ne_of_lt (yw x c e)) (fun p hp=>ne_of_lt (lt_size (I.pin p hp).1)) ⟨le_of_lt hsz,vA,k,rv,hD⟩
   obtain⟨mC,BV,_⟩:=I6.loc
   refine fin _ _ _ s6 (q _ CZ) J2 ⟨mC,BV⟩ (by rw[ae (Ne.symm Gz)];exact I6.free) (ne_of_gt (lt_of_lt_of_le I.lt yu)) (le_trans I.sz yu) (fun x c e=>ne_of_lt (lt_of_lt_of_le (yw x c e) yu)) fun p hp =>
    ne_of_lt (lt_of_lt_of_le (lt_size (I.pin p hp).1) yu)
  ·refine aN (T.item (bB X scope (own ++ capN) H2.objs.size s H fp) rfl rfl rfl hc i _ s5 _ H5 _ I5 (stat H5 vA k Gd) BQ go) fun r s6 v9=>?_
   obtain⟨u,hr,h6⟩:=v9
   subst hr
   refine aN h6 fun _ s7 v9=>?_
   obtain⟨x,H7,I7,r7,y7,IH,fr7⟩:=v9
   have I7':=I7.pinned (stat H7 vA k fr7) (T.obj _ _ IH)
   refine aN (hgt _ s7 _ H7 x u _ I7' r7 (step x H7 y7)) fun _ s8 v9=>?_
   obtain⟨σ8,H8,I8,q8⟩:=v9
   refine aN (Bl _ s8 σ8 H8 _ I8 q8) fun b s9 v9=>?_
   obtain⟨H9,I9,q9⟩:=v9
   have MC:∀ {H':Hp}{s':Shared}{σ':St},Inv (bB X scope (own ++ capN) H2.objs.size s H fp) (dv fp s7.heap) σ' H' s'->tn (i + 1) s'.heap/\∀ b ∈ fp,H' b=none:=fun {H' s' σ'} K=>by
    refine⟨T.keep _ _ _ IH fun b hb o e=>(K.pin (b,o) (dB hb e)).1,fun b hb=>?_⟩
    obtain⟨o,e,_⟩:=T.obj _ _ IH b hb
    exact(K.pin (b,o) (dB hb e)).2.1
   cases b with
   | false =>
    rw[if_neg Bool.false_ne_true]
    obtain⟨m',hm,w9⟩:=hN acc H9 (by simpa using q9)
    have K9:Inv (bB X scope (own ++ capN) H2.objs.size s H fp) (dv fp s7.heap) σ8 H9 s9:=I9.w8 fun p hp=>I9.pin p (mem_append_right _ (mem_append_right _ hp))
    obtain⟨t9,f9⟩:=MC K9
    exact⟨m',hm,i + 1,acc,vA,k,H9,I.reset B hf I9.wJ,t9,f9,rv,w9⟩
   | true =>
    rw[if_pos rfl]
    have q9':te σ8 H9 fun y H4=>N (acc ++ [y]) H4:=by simpa using q9
    refine aN (hte _ s9 σ8 H9 _ I9 q9') fun yv II v9=>?_
    obtain⟨y,zU,IJ,r10,q10⟩:=v9
    obtain⟨hD,CZ,_⟩:=IJ.pin (s.heap.objs.size,jB vA k) (by simp)
    have hlen:=rv.length
    refine wpAny_list_append_plain ⟨k,hD⟩ (fun h' wR Bm=>?_) (by rw[size_toArray];omega)
    obtain⟨k',hD'⟩:=wR
    obtain⟨m',hm,w10⟩:=hN (acc ++ [y]) zU q10
    have K10:Inv (bB X scope (own ++ capN) H2.objs.size s H fp) (dv fp s7.heap) σ8 zU II:=IJ.w8 fun p hp=>IJ.pin p (mem_append_right _ (mem_append_right _ hp))
    have MF:Inv (bB X scope (own ++ capN) H2.objs.size s H fp) (dv fp s7.heap) σ8 zU { II with heap:=h' }:=K10.turned (t':=II.toks) (it:=s.heap.objs.size) (fun b o hb e=>(Bm.2 b hb).trans e) CZ Gz (.inr (le_refl _))
     (fun x c e=>ne_of_lt (yw x c (B.cell I.ok e))) fun p hp=>by
      obtain⟨hb,_⟩:=iO (show p ∈ dv fp s7.heap from hp)
      exact ne_of_lt (zS p.1 hb)
    obtain⟨t11,Dc⟩:=MC MF
    refine⟨m',hm,i + 1,acc ++ [y],vA ++ [yv],k',zU,?_,t11,Dc,rv.append (.cons r10 .nil),w10⟩
    refine I.reset B hf (MF.w8 (Ax _ _ _ _ CZ ?_))
    show h'.get? s.heap.objs.size=some { cls := .type "list",data := .seq (vA ++ [yv]).toArray k' }
    rw[show(vA ++ [yv]).toArray=vA.toArray.push yv by simp]
    exact hD'
 exact codeAny_compStart_list (loop _ rfl) (T.self X.A 0 _ _ _ (T.keep 0 s.heap h1 st fun b _ o e=>old b o e) (loop _ rfl))
theorem bx (B:wM X.N X.env.scope scope capN cap)(hc:X.calm=true)(hi:PI X tg iter wi)
  (hb:∀ (C:Addr)(s:Shared)(H:Hp)(fp:List Addr),PG (bB X scope (own ++ capN) C s H fp) tg g/\CV (bB X scope (own ++ capN) C s H fp) ifs tt/\PE (bB X scope (own ++ capN) C s H fp) elt te)
  (hs:∀ x,foldedSetIterable iter X.env x=pure x:=by intro _;rfl):PE X (.ListComp elt [⟨tg,iter,ifs,0⟩] scope pos) (sW wi g tt te own.length cap):=by
 intro pins s σ H Q I h
 rw[eval_ListComp]
 refine wpAny_comprehension_free (use:=none) rfl hs (eF (B.Bj I.ok)) B.kind B.loc (aN (hi pins s σ H _ I h) fun v s1 h1=>aN h1 fun FZ s2 h2=>?_)
 obtain⟨it,fp,tn,J,H2,e,I2,T,C7,f2,W,⟨m0,w0⟩,turn⟩:=h2
 subst e
 refine kJ (own:=own) B hc hb I2 T C7 f2 w0 turn (RR:=fun acc C=>compPost (model X.prog X.w) X.A X.xe none (EP X pins σ Q) acc C) fun D C H' s' q J2 ⟨mC,BV⟩ fC n1 n2 n3 n4=>?_
 refine⟨mC,BV,fun h' Aw=>⟨.ref D,H',?_,rfl,q⟩⟩
 exact J2.turned (t':=s'.toks) (it:=C) (fun b o hb e=>(Aw.2 b hb).trans e) fC n1 (.inr n2) n3 n4
theorem gU {i:Nat}{x:Str}{px:Pos}{De:Pos}(B:wM X.N X.env.scope scope capN cap)(hc:X.calm=true)(hN:X.N.Nodup)(hx:X.N[i]? = some x)(hl:X.env.scope.names.lookup x=some .local)(hi:PI X tg iter wi)
  (hb:∀ (C:Addr)(s:Shared)(H:Hp)(fp:List Addr),PG (bB X scope (own ++ capN) C s H fp) tg g/\CV (bB X scope (own ++ capN) C s H fp) ifs tt/\PE (bB X scope (own ++ capN) C s H fp) elt te)
  (hsw:swapsWith (.ListComp elt [⟨tg,iter,ifs,0⟩] scope pos) (some (.Name x px)) De.line X.env=pure true:=by rfl)
  (hs:∀ x,foldedSetIterable iter X.env x=pure x:=by intro _;rfl):PS X (.Assign [.Name x px] (.ListComp elt [⟨tg,iter,ifs,0⟩] scope pos) De) (C4 (sW wi g tt te own.length cap) (im i)):=by
 intro pins s σ H D0 I h
 rw[exec_Assign_Name_used _ _ _ _ hsw]
 refine wpAny_bind (wpAny_standAt (wpAny_bind ?_))
 show wpAny _ X.A (do
  let _ ← comprehension (.ListComp elt [⟨tg,iter,ifs,0⟩] scope pos) scope X.env _ (newList []) false (eval iter X.env) (some (assign (.Name x px) X.env))) _ _ s
 refine wpAny_bind (wpAny_mono (wpAny_comprehension_free (use:=some (assign (.Name x px) X.env)) (Q:=fun _ s'=>SP X pins D0 .next s') rfl hs (eF (B.Bj I.ok)) B.kind B.loc
  (aN (hi pins s σ H _ I h) fun v s1 h1=>aN h1 fun FZ s2 h2=>?_)) (fun _ s' hq=>wpAny_pure (wpAny_pure hq)) fun _ _ e=>e)
 obtain⟨it,fp,tn,J,H2,e,I2,T,C7,f2,W,⟨m0,w0⟩,turn⟩:=h2
 subst e
 refine kJ (own:=own) (Q:=fun x H1=>im i x σ H1 D0.nx) B hc hb I2 T C7 f2 w0 turn (RR:=fun acc C=>compPost (model X.prog X.w) X.A X.xe (some (assign (.Name x px) X.env)) (fun _ s'=>SP X pins D0 .next s') acc C) fun D C H' s' q J2 ⟨mC,BV⟩ fC n1 n2 n3 n4=>?_
 show wpAny _ X.A (assign (.Name x px) X.env (.ref D)) _ _ s'
 refine wpAny_assign_Name (iL J2 hN hx (.inl hl) (show RelV (.ref D) (.ref D) from rfl) (fun zM J3 v9=>?_) (.inr hl))
 obtain⟨a,Aw,ha⟩:=v9
 have hCa:C ≠ a:=by
  rcases ha with z | z
  ·rw[z];exact n1
  ·exact(n3 x a z).symm
 refine⟨mC,BV.sameBut Aw hCa,fun h' Bm=>⟨_,H',?_,q⟩⟩
 exact J3.turned (t':=zM.toks) (it:=C) (fun b o hb e=>(Bm.2 b hb).trans e) fC n1 (.inr n2) n3 n4
end
end L2
namespace Yd
open PySem
theorem ci (x:Int):Builtin.bitNot x = -x - 1:=by
 unfold Builtin.bitNot
 omega
theorem yJ (a b:Nat):Builtin.bitOr (a:Int) (b:Int)=((a ||| b:Nat):Int):=by
 unfold Builtin.bitOr
 have h1:Builtin.bitNot (a:Int) = -(a:Int) - 1:=ci _
 have h2:Builtin.bitNot (b:Int) = -(b:Int) - 1:=ci _
 unfold Builtin.bitAnd
 rw[h1,h2]
 have e1:decide (0 <= -(a:Int) - 1)=false:=decide_eq_false (by omega)
 have e2:decide (0 <= -(b:Int) - 1)=false:=decide_eq_false (by omega)
 rw[e1,e2]
 simp only[]
 have e3:Builtin.bitNot (-(a:Int) - 1)=a:=by rw[ci];omega
 have e4:Builtin.bitNot (-(b:Int) - 1)=b:=by rw[ci];omega
 rw[e3,e4]
 simp only[toNat_natCast]
 rw[ci,ci]
 omega
noncomputable def wz:List Nat->Nat->Nat
 | [],s=>s
 | n :: r,s=>wz r (s ||| 2 ^ n)
theorem xk (k:Nat):∀ (l:List Nat)(s:Nat),(wz l s).testBit k=(s.testBit k || decide (k ∈ l))
 | [],s=>by simp[wz]
 | n :: r,s=>by
  unfold wz
  rw[xk k r]
  rw[Nat.testBit_or,Nat.testBit_two_pow]
  by_cases h:n=k
  ·subst h;simp
  ·have:¬ k=n:=fun z=>h z.symm
   simp[h,this]
theorem zh (l r:List Nat)(s:Nat):wz (l ++ r) s=wz r (wz l s):=by
 induction l generalizing s with
 | nil=>rfl
 | cons n t ih=>exact ih _
noncomputable def xV (m b:Nat):List Nat:=(List.range b).filter fun k=>m.testBit k
theorem xm {m b k:Nat}(h:m < 2 ^ b):k ∈ xV m b↔m.testBit k=true:=by
 unfold xV
 rw[mem_filter,mem_range]
 constructor
 ·exact fun z=>z.2
 ·intro z
  refine⟨?_,z⟩
  by_cases hk:k < b
  ·exact hk
  ·have:m < 2 ^ k:=lt_of_lt_of_le h (pow_le_pow_right (by decide) (by omega))
   rw[Nat.testBit_lt_two_pow this]at z
   cases z
theorem yK (m b:Nat):(xV m b).Pairwise (· < ·):=List.Pairwise.filter _ List.pairwise_lt_range
theorem xW:∀ {l r:List Int},l.Pairwise (· < ·)->r.Pairwise (· < ·)->(∀ k,k ∈ l↔k ∈ r)->l=r
 | [],[],_,_,_=>rfl
 | [],y :: r,_,_,h=>by
  have:=(h y).mpr mem_cons_self
  cases this
 | x :: l,[],_,_,h=>by
  have:=(h x).mp mem_cons_self
  cases this
 | x :: l,y :: r,hl,hr,h=>by
  obtain⟨hx,IK⟩:=List.pairwise_cons.mp hl
  obtain⟨hy,G0⟩:=List.pairwise_cons.mp hr
  have e:x=y:=by
   rcases mem_cons.mp ((h x).mp mem_cons_self) with z | z
   ·exact z
   ·rcases mem_cons.mp ((h y).mpr mem_cons_self) with z' | z'
    ·exact z'.symm
    ·have:=hx y z'
     have:=hy x z
     omega
  subst e
  congr 1
  refine xW IK G0 fun k=>?_
  constructor
  ·intro z
   rcases mem_cons.mp ((h k).mp (mem_cons_of_mem _ z)) with q | q
   ·have:=hx k z;omega
   ·exact q
  ·intro z
   rcases mem_cons.mp ((h k).mpr (mem_cons_of_mem _ z)) with q | q
   ·have:=hy k z;omega
   ·exact q
theorem x5 (m:Nat):m < 2 ^ (Builtin.Int.intBits (m:Int)):=by
 unfold Builtin.Int.intBits
 by_cases h:m=0
 ·subst h;simp
 ·have e:((m:Int) == 0)=false:=by simp[h]
  rw[e]
  simp only[Bool.false_eq_true,if_false,Int.natAbs_natCast]
  exact Nat.lt_log2_self
end Yd
namespace L2
open PySem PySem.Spec PyProof.Rows
mutual
inductive oG (K:Frag)(H:Hp):V->PyData->Prop
 | vJ:oG K H .vJ .none
 | bl (b:Bool):oG K H (.bl b) (.bool b)
 | int (i:Int):oG K H (.int i) (.int i)
 | str (x:Str):oG K H (.str x) (.str x)
 | lst {a:Addr} {xs:List V} {ds:List PyData}:vG K H a xs->lb K H xs ds->oG K H (.ref a) (.list ds)
 | tup {a:Addr} {xs:List V} {ds:List PyData}:vO K H a xs->lb K H xs ds->oG K H (.ref a) (.tuple ds)
inductive lb (K:Frag)(H:Hp):List V->List PyData->Prop
 | nil:lb K H [] []
 | cons {x:V} {d:PyData} {xs:List V} {ds:List PyData}:oG K H x d->lb K H xs ds->lb K H (x :: xs) (d :: ds)
end
section
variable {X:Cx}{pins:List (Addr × Obj)}{σ:St}{H:Hp}{s:Shared}
mutual
theorem Inv.den (I:Inv X pins σ H s):∀ {x:V}{d:PyData}{u:Value},oG X.K H x d->RelV x u->∃ as,Reads s.heap u d as
 | _,_,_, .vJ,r=>by cases r;exact⟨_, .none⟩
 | _,_,_, .bl b,r=>by cases r;exact⟨_, .bool b⟩
 | _,_,_, .int i,r=>by obtain⟨t,rfl⟩:=r;exact⟨_, .int i t⟩
 | _,_,_, .str x,r=>by obtain⟨t,rfl⟩:=r;exact⟨_, .str x t⟩
 | _,_,_, .lst hq hd,r=>by
  cases r
  obtain⟨vA,rv,⟨o,n,e,hc,_,IL⟩,_⟩:=I.list hq
  obtain⟨as,q⟩:=I.Bn hd rv
  exact⟨_, .list e hc IL (by simpa using q)⟩
 | _,_,_, .tup hq hd,r=>by
  cases r
  obtain⟨vA,rv,⟨o,e,hc,n,IL⟩,_⟩:=I.tuple hq
  obtain⟨as,q⟩:=I.Bn hd rv
  exact⟨_, .tuple e hc IL (by simpa using q)⟩
theorem Inv.Bn (I:Inv X pins σ H s):∀ {xs:List V}{ds:List PyData}{us:List Value},lb X.K H xs ds->Vals xs us->∃ as,ReadsAll s.heap us ds as
 | _,_,_, .nil, .nil=>⟨_, .nil⟩
 | _,_,_, .cons hd hr, .cons r rr=>by
  obtain⟨as,q⟩:=I.den hd r
  obtain⟨bs,q'⟩:=I.Bn hr rr
  exact⟨_, .cons q q'⟩
end
noncomputable def Df (K:Frag):R2:=fun x y H Q=>∃ da db,oG K H x da/\oG K H y db/\SeqAt.shaped da=true/\SeqAt.shaped db=true/\Q (.bl (PyData.eqv da db)) H
end
section
variable {X:Cx}
theorem pN (hu:X.A.units + 64 < cLine):eG X (compareOp .Eq) (Df X.K):=by
 intro pins s σ H x y v u Q I rx ry h
 obtain⟨da,db,h1,h2,h3,h4,q⟩:=h
 obtain⟨as,r1⟩:=I.den h1 rx
 obtain⟨bs,r2⟩:=I.den h2 ry
 exact SeqAt.compareEq_shaped r1 r2 h3 h4 hu ⟨.bl _,H,I,rfl,q⟩
noncomputable def IM (K:Frag):List V->Hp->VK->Prop:=fun xs H Q =>
 (∃ i,xs=[.int i, .ty "int"]/\Q (.bl true) H)∨(∃ i,xs=[.int i, .ty "bool"]/\Q (.bl false) H)∨(∃ p ys,xs=[.ref p, .ty "list"]/\vG K H p ys/\Q (.bl true) H)∨(∃ p ys,xs=[.ref p, .ty "tuple"]/\vO K H p ys/\Q (.bl true) H)
theorem kO:cp X (.builtin "isinstance") (IM X.K):=by
 intro pins s σ H xs us Q I r h
 rcases h with ⟨i,rfl,q⟩ | ⟨i,rfl,q⟩ | ⟨p,ys,rfl,hq,q⟩ | ⟨p,ys,rfl,hq,q⟩
 ·cases r with
  | cons r1 r2 =>
   cases r2 with
   | cons r2 r3 =>
    cases r3
    obtain⟨t,rfl⟩:=r1
    cases r2
    exact IsiPair.int_int ⟨.bl true,H,I,rfl,q⟩
 ·cases r with
  | cons r1 r2 =>
   cases r2 with
   | cons r2 r3 =>
    cases r3
    obtain⟨t,rfl⟩:=r1
    cases r2
    exact IsiPair.int_bool ⟨.bl false,H,I.tok _,rfl,q⟩
 ·cases r with
  | cons r1 r2 =>
   cases r2 with
   | cons r2 r3 =>
    cases r3
    cases r1
    cases r2
    obtain⟨vA,rv,⟨o,n,e,hc,_⟩,_⟩:=I.list hq
    exact IsiPair.list_list e hc ⟨.bl true,H,I,rfl,q⟩
 ·cases r with
  | cons r1 r2 =>
   cases r2 with
   | cons r2 r3 =>
    cases r3
    cases r1
    cases r2
    obtain⟨vA,rv,⟨o,e,hc,_⟩,_⟩:=I.tuple hq
    exact IsiPair.tuple_tuple e hc ⟨.bl true,H,I,rfl,q⟩
theorem Inv.same {pins:List (Addr × Obj)}{σ:St}{H:Hp}{s s':Shared}(I:Inv X pins σ H s)(k:∀ b o,s.heap.get? b=some o->s'.heap.get? b=some o)(g:s'.gens=s.gens)(ho:s'.os=s.os):Inv X pins σ H s':=by
 obtain⟨hh,gg,dd,tt,oo⟩:=s'
 simp only at k g ho
 subst g
 subst ho
 have J:Inv X pins σ H { s with heap:=hh,toks:=tt }:=I.kept k
 exact⟨J.ok,J.os,J.bare,J.base,J.loc,J.cell,J.free,J.vT,J.pin,J.vD,J.len⟩
theorem eg (hc:X.calm=true):cp X (.builtin "all") (fun xs H Q=>∃ (p:Addr)(bs:List Bool),xs=[.ref p]/\vG X.K H p (bs.map V.bl)/\Q (.bl (bs.all id)) H):=by
 intro pins s σ H xs us Q I r h
 obtain⟨p,bs,rfl,hq,q⟩:=h
 obtain⟨u,rfl,rx⟩:=gG r
 cases rx
 obtain⟨vA,rv,pl,hz⟩:=I.list hq
 have hlen:=rv.length
 rw[length_map]at hlen
 have wA:p < s.heap.objs.size:=by obtain⟨o,n,e,_⟩:=pl;exact lt_size e
 have MG:∀ (i:Nat)(v:Value),vA.toArray[i]? = some v->v=Value.bool (bs.getD i false):=fun i v hv=>by
  have zA:vA[i]? = some v:=by simpa using hv
  have hi:i < bs.length:=by rw[hlen];exact(List.getElem?_eq_some_iff.mp zA).1
  obtain⟨u,hu,ru⟩:=rv.get (i:=i) (x := .bl bs[i]) (by simp[hi])
  rw[zA]at hu
  cases hu
  rw[getD_eq_getElem?_getD,List.getElem?_eq_getElem hi]
  exact ru
 have hh1:X.A.in1.handled=none:=I.ok.hd hc
 refine call_all_walkS (wpAny_pyIter_list pl.isList ⟨s.heap.objs.size,[s.heap.objs.size,p],[s.heap.objs.size],fun a b=>b=a,vA.toArray.size,fun i v=>vA.toArray[i]? = some v,_,fun i=>bs.getD i false,rfl,
  (Walks.list hh1 _ p (ne_of_lt wA) vA.toArray).toS,⟨⟨_,Heap.get?_push_size _ rfl,rfl,rfl⟩,pl.isList.push _⟩,fun i v s1 Q1 E1 hv hq1=>?_,fun s' hm=>?_⟩)
 ·rw[MG i v hv]
  exact wpAny_truthy_bool hq1
 ·have I1:Inv X pins σ H { s with heap:=s.heap.push { cls := .type "list_iterator",data := .fields #[.ref p, .int 0 0] } }:=I.kept (t':=s.toks) fun b o e=>Heap.get?_push_of_some _ e
  refine⟨.bl _,H,I.same (fun b o e=>hm.heap b o (fun hb=>?_) (Heap.get?_push_of_some _ e)) hm.gens hm.os,rfl,?_⟩
  ·have yg:b=s.heap.objs.size:=by simpa using hb
   exact absurd (lt_size e) (by rw[yg];exact lt_irrefl _)
  ·have e:((List.range vA.toArray.size).all fun i=>bs.getD i false)=bs.all id:=by
    rw[size_toArray,← hlen]
    clear MG hlen hq rv q
    have:(List.range bs.length).map (fun i=>bs.getD i false)=bs:=by
     apply List.ext_getElem
     ·simp
     ·intro i h1 h2
      simp[h2]
    conv=>rhs;rw[← this]
    rw[all_map]
    rfl
   rw[e]
   exact q
end
end L2
namespace L2
open PySem PySem.Spec PyProof.Rows
section
variable {prog:Program}{w:World}{A:Around}{E:Value->Shared->Prop}{s:Shared}{K:Frag}{x C:Addr}{ox:Obj}{od:Option Obj}{name:Str}{v:Value}
open PySem.W in
theorem oE {Q:Option Value->Shared->Prop}(X:K.In s.heap)(I:PySem.W.InstAt s.heap x ox C od)(c:dH K C)(ha:findIn K (.ref C) "__class__" = some (some (.builtin "object.__class__")))
  (hn:specialIn K (.builtin "object.__class__") "__get__" = some (some (.builtin "getset_descriptor.__get__"))) (zK:takesIn K (.builtin "object.__class__")=some true)
  (h:Q (some (.ref C)) { s with toks:=s.toks + 1 }):wpAny (model prog w) A (getAttr? (.ref x) "__class__") Q E s:=by
 obtain⟨cd,hc,ho⟩:=any_some c.mro
 obtain⟨h1,h2,ne⟩:=dC ho
 have hm:mroIn K C (.type "object")=some true:=by unfold mroIn;rw[hc,Option.bind_some,if_neg (by rw[ne];decide),h1]
 have hf:findObj K C od "__class__" = some (.bind (.builtin "getset_descriptor.__get__") (.builtin "object.__class__")):=by
  unfold findObj
  rw[hc,Option.bind_some,ha,Option.bind_some]
  dsimp only
  rw[hn,Option.bind_some]
  dsimp only
  rw[zK,Option.bind_some]
 have sub:Looks (model prog w) s.heap (isInstance (.ref x) (.type "BaseException")) true:=I.type.andThen (looks_mroIn X (by unfold mroIn;rw[hc,Option.bind_some,if_neg (by rw[ne];decide),h2]))
 have GA:=F.attr_ValueError.ga
 have hk:builtinKind "BaseException.__getattribute__" = some .slot:=by decide +kernel
 have yr:splitId "BaseException.__getattribute__" = some ("BaseException", "__getattribute__"):=by decide +kernel
 have Bg:(Value.builtin "BaseException.__getattribute__" == Value.builtin "object.__getattribute__")=false:=by decide +kernel
 have IA:(onTheHeap (Value.ref C) && Value.builtin "BaseException.__getattribute__" == Value.builtin "object.__getattribute__")=false:=by rw[Bg];rfl
 have L0:=I.type (M:=model prog w)
 have L1:=looks_findIn (M:=model prog w) X c.ga
 have L2:=looks_findIn (M:=model prog w) X c.gn
 have L3:=looks_find (M:=model prog w) X I hf
 obtain⟨hp,g,dr,t,os⟩:=s
 unfold getAttr? getAttrBy? getAttrBy
 refine wpAny_bind (wpAny_mkText (wpAny_bind (wpAny_attempt (wpAny_holding (wpAny_bind (L0.at (wpAny_bind (L1.at ?_))))))))
 dsimp only
 rw[IA,if_neg Bool.false_ne_true]
 unfold getAttrByItsOwn
 refine wpAny_bind (L2.at ?_)
 refine wpAny_bind (wpAny_attempt (wpAny_holding ?_))
 unfold callGetattribute
 rw[show(false && onTheHeap (Value.builtin "BaseException.__getattribute__"))=false from rfl,if_neg Bool.false_ne_true]
 unfold boundAndCalled
 rw[GA.bind]
 refine wpAny_bind (wpAny_pure (wpAny_call ?_))
 refine codeAny_call_builtin GA.plain F.entry_bexc_ga (@check_slot (model prog w) _ _ ⟨hp,g,dr,t + 1,os⟩ "BaseException.__getattribute__" "BaseException" "__getattribute__" (.ref x) [.str "__class__" t] [] _ hk yr sub (F.args_bexc_ga (.ref x) (.str "__class__" t)) ?_)
 unfold Builtin.«object.__getattribute__»
 refine wpAny_bind (wpAny_pure ?_)
 dsimp only
 refine wpAny_bind (wpAny_pure (wpAny_bind (L0.at (wpAny_bind (L3.at ?_)))))
 show wpAny _ _ (holding [Value.builtin "object.__class__"] (call (.builtin "getset_descriptor.__get__") [.builtin "object.__class__", .ref x, .ref C]) >>= ret) _ _ _
 refine wpAny_bind (wpAny_holding (wpAny_call (class_get (s:=⟨hp,g,dr,t + 1,os⟩) (ox:=ox) (od:=od) X I hm ?_)))
 refine wpAny_pure ?_
 show wpAny _ _ (handedOut (.ref C)) _ _ _
 exact handed_on rfl (wpAny_pure h)
structure qN (K:Frag)(C:Addr):Prop where
 at_:findIn K (.ref C) "__class__" = some (some (.builtin "object.__class__"))
 get:PySem.W.specialIn K (.builtin "object.__class__") "__get__" = some (some (.builtin "getset_descriptor.__get__"))
 tak:PySem.W.takesIn K (.builtin "object.__class__")=some true
open PySem.W in
theorem kB (c:dH K C)(i:qN K C):KitX K (.ref x) (.ref C) (fun h=>∃ od,PySem.W.InstAt h x ox C od) where
 ty:=fun _ _ _ v9=>by obtain⟨_,I⟩:=v9;exact I.type
 it:=fun _ _ X _=>by
  obtain⟨cdD,yG,_⟩:=any_some c.hd
  unfold clsIn at yG
  split at yG
  ·rename_i c' d' cd' HH ho
   intro A' Q' E' s' k q
   unfold isType loadHead
   exact wpAny_bind (wpAny_loadPart (k _ _ (X _ _ ho)) (wpAny_pure q))
  ·cases yG
 ne:=fun h tp dd vA n sl X htp=>by
  obtain⟨cdD,yG,_⟩:=any_some c.hd
  refine Bool.eq_false_iff.mpr fun q=>?_
  have e:C=tp:=Value.ref.inj (beq_iff_eq.mp q)
  subst e
  unfold clsIn at yG
  split at yG
  ·rename_i c' d' cd' HH ho
   have z:=(X _ _ ho).symm.trans htp
   cases z
  ·cases yG
 ca:=fun X ⟨_,I⟩ k=>oE X I c i.at_ i.get i.tak k
end
abbrev Cx.hand (X:Cx)(ea:Addr)(oe:Obj):Cx:={ X with A:=X.A.mark (some (.ref ea)),calm:=false,pn:=(ea,oe) :: X.pn,xe:=fun _ _=>False }
section
variable {X:Cx}{pins:List (Addr × Obj)}{σ:St}{H:Hp}{s:Shared}{ea:Addr}{oe:Obj}
theorem Inv.hand (I:Inv X pins σ H s){vs:Array Value}(h1:s.heap.get? ea=some oe)(hd:oe.data = .fields vs)(h2:H ea=none):Inv (X.hand ea oe) pins σ H s:=by
 have ok:=I.ok
 refine⟨⟨ok.mod,ok.kind,ok.glob,ok.blt,ok.above,ok.inj,ok.has,ok.AY,(fun z=>by cases z),ok.frames,ok.Cu,ok.HE,ok.bs,ok.yT,ok.yE,ok.yU,ok.wF,ok.zI⟩,I.os,I.bare,I.base,I.loc,I.cell,I.free,I.vT,fun p hp=>?_,I.vD,I.len⟩
 rcases mem_cons.mp hp with rfl | hp
 ·refine⟨h1,h2,fun z=>?_,fun z=>?_,fun v q=>by rw[hd]at q;cases q⟩
  ·obtain⟨m,⟨o,es,ep,ho,MH,_⟩,_⟩:=I.loc
   have z':ea=X.env.locals:=z
   rw[← z',h1]at ho
   cases ho
   rw[hd]at MH
   cases MH
  ·obtain⟨_,o,ho,hn⟩:=I.wF.mem z
   rw[show(ea,oe).1=ea from rfl,h1]at ho
   cases ho
   exact hn vs hd
 ·exact I.pin p hp
theorem Inv.xn (J:Inv (X.hand ea oe) pins σ H s)(ok:X.Ok):Inv X pins σ H s :=
 ⟨ok,J.os,J.bare,J.base,J.loc,J.cell,J.free,J.vT,fun p hp=>J.pin p (mem_cons_of_mem _ hp),J.vD,J.len⟩
noncomputable def vq:V->Value->Prop
 | .ref a,u=>u = .ref a
 | .ty n,u=>u = .type n
 | _,_=>False
theorem jP {c:V}{u cv:Value}(r:RelV c u)(h:vq c cv):u=cv:=by
 cases c with
 | ref a=>exact(show u = .ref a from r).trans (show cv = .ref a from h).symm
 | ty n=>exact(show u = .type n from r).trans (show cv = .type n from h).symm
 | _=>exact h.elim
noncomputable def DictAt (H:Hp):Option Addr->Prop
 | none=>True
 | some d=>∃ fs,H d=some (.xd fs)
theorem Inv.Dg (I:Inv X pins σ H s)(hp:(ea,oe) ∈ X.pn){C:Addr}(hc:oe.cls = .ref C){vs:Array Value}(hd:oe.data = .fields vs)(w4:DictAt H oe.dict):∃ od,PySem.W.InstAt s.heap ea oe C od:=by
 have h1:=(I.pin (ea,oe) (mem_append_left _ hp)).1
 have hn:PySem.W.notCls oe=true:=by
  obtain⟨c,d,dt,sl⟩:=oe
  dsimp only at hd
  subst hd
  rfl
 cases hq:oe.dict with
 | none=>exact⟨none,h1,hc,hn,by rw[hq];trivial⟩
 | some d =>
  rw[hq]at w4
  obtain⟨fs,hf⟩:=w4
  obtain⟨ob,ho⟩:=I.vD.at hf
  exact⟨some ob,h1,hc,hn,by rw[hq];exact ho⟩
noncomputable def IP (X:Cx):List V->Hp->VK->Prop:=fun xs H Q=>∃ ea oe c cv C vs b,xs=[.ref ea,c]/\vq c cv/\(ea,oe) ∈ X.pn/\oe.cls = .ref C/\oe.data = .fields vs/\DictAt H oe.dict/\dH X.K C/\qN X.K C/\kitOne X.K (.ref C) cv=some b/\Q (.bl b) H
theorem bQ:cp X (.builtin "isinstance") (IP X):=by
 intro pins s σ H xs us Q I r h
 obtain⟨ea,oe,c,cv,C,vs,b,rfl,rc,hp,hc,hd,w4,xc,xi,hk,q⟩:=h
 cases r with
 | cons r1 r2 =>
  cases r2 with
  | cons r2 r3 =>
   cases r3
   cases r1
   have e:=jP r2 rc
   subst e
   obtain⟨od,J⟩:=I.Dg hp hc hd w4
   exact PySem.W.kia_one (kB (ox:=oe) xc xi) I.vY ⟨od,J⟩ hk (by intro z;cases z) fun tk=>⟨.bl b,H,I.tok _,rfl,q⟩
noncomputable def Dh (X:Cx)(ta:TE)(f:Str):TE:=fun σ H Q=>ta σ H fun x H1=>∃ ea oe C vs d fs v,x = .ref ea/\(ea,oe) ∈ X.pn/\oe.cls = .ref C/\oe.data = .fields vs/\oe.dict=some d/\H1 d=some (.xd fs)/\dH X.K C/\findIn X.K (.ref C) f=some none/\fs.lookup f=some v/\Q v H1
theorem fg {e:Expr}{f:Str}{pos:Pos}{ta:TE}(he:PE X e ta)(hb:attributeBase e f X.env (eval e X.env)=eval e X.env):PE X (.Attribute e f pos) (Dh X ta f):=by
 intro pins s σ H Q I h
 refine nB hb (aN (he pins s σ H _ I h) fun u s1 v9=>?_)
 obtain⟨x,H1,I1,rx,ea,oe,C,vs,d,fs,v,ex,hp,hc,hd,w4,hf,xc,hn,hl,q⟩:=v9
 subst ex
 obtain rfl:u=Value.ref ea:=rx
 obtain⟨mA,n,r⟩:=I1.vD d _ hf
 obtain⟨uv,hu,ru⟩:=wq.some_of (v:=v) (o:=mA f) (by rw[← hl];exact r f)
 have h1:=(I1.pin (ea,oe) (mem_append_left _ hp)).1
 obtain⟨oc,od,odt,xQ⟩:=oe
 dsimp only at hc hd w4
 subst hc hd w4
 exact sj F.attr_ValueError I1.vY h1 n xc hn hu (iT ru) ⟨v,H1,I1.tok _,ru,q⟩
end
end L2
namespace L2
open PySem PySem.Spec PyProof.Rows
noncomputable def Di (K:Frag)(ta tv:TE)(f:Str):TS:=fun D σ H=>tv σ H fun y H1=>ta σ H1 fun x H2=>∃ a C tt,x = .ref a/\H2 a=some (b8 a C tt none)/\dH K C/\findIn K (.ref C) f=some none /\
 ∀ d,H2 d=none->D.nx σ (upd (upd H2 d (.xd [(f,y)])) a (b8 a C tt (some d)))
section
variable {X:Cx}{o e value:Expr}{f:Str}{pos pos':Pos}{ta tv:TE}
theorem jz (ha:PE X o ta)(hv:PE X value tv)(hs:swapsWith value (some (.Attribute o f pos')) pos.line X.env=pure false):PS X (.Assign [.Attribute o f pos'] value pos) (Di X.K ta tv f):=by
 intro pins s σ H D I h
 refine plainObj_wpAny_Assign_Attribute (aN (hv pins s σ H _ I h) fun u s1 ⟨y,H1,I1,ry,q⟩=>aN (ha pins s1 σ H1 _ I1 q) fun ov s2 v9=>?_) hs
 obtain⟨x,H2,I2,rx,a,C,tt,ex,ea,c,n,q2⟩:=v9
 subst ex
 obtain rfl:ov=Value.ref a:=rx
 have ho:s2.heap.get? a=some (cn C tt none):=(I2.vD a _ ea).1
 have wA:a < s2.heap.objs.size:=lt_size ho
 refine jR I2.vY ho c n fun h' t' wV xH hk=>⟨σ,_,?_,q2 s2.heap.objs.size (I2.vD.fresh (le_refl _))⟩
 obtain⟨od,es,ep,y4,r⟩:=id xH
 have zC:od.isFreed=false:=(Heap.get?_some_iff.mp y4).2
 have xX:(s2.heap.push od).get? s2.heap.objs.size=some od:=Heap.get?_push_size s2.heap zC
 have I3:=I2.laid (a:=s2.heap.objs.size) (o := .xd [(f,y)]) (h':=s2.heap.push od) (t':=s2.toks) (fun b u z=>Heap.get?_push_of_some _ z) (le_refl _)
  ⟨_,xH.at (fun o z=>by rw[y4]at z;cases z;exact xX),fun g=>by
   by_cases hg:g=f
   ·have hb:(g == f)=true:=beq_iff_eq.mpr hg
    simp only[List.lookup,hb,if_pos hg]
    exact ry
   ·have hb:(g == f)=false:=beq_eq_false_iff_ne.mpr hg
    simp only[List.lookup,hb,if_neg hg]
    trivial⟩
 have xx:a ≠ s2.heap.objs.size:=ne_of_lt wA
 refine I3.write (x:=a) (e:=a) (h':=h') (t':=t') (by rw[ae xx,ea];exact True.intro) (.inl rfl) (fun b u hb z=>?_) ⟨_,wV⟩ (iw wV)
 by_cases Dj:b=s2.heap.objs.size
 ·subst Dj
  have z':(s2.heap.push od).get? s2.heap.objs.size=some u:=z
  rw[xX]at z'
  cases z'
  exact y4
 ·have z':s2.heap.get? b=some u:=by
   have z0:(s2.heap.push od).get? b=some u:=z
   exact(Heap.get?_push_cases z0).elim (fun w=>absurd w.1 Dj) fun w=>w
  exact hk b u hb z'
end
section
variable {P:Program}{w:World}{K:Frag}{mg:Str->Option Value}{base:Heap}
theorem vQ.xY {b:Bool}{x qual:Str}{st:Stmt}{f:Addr}{fd:FuncData}{N ps:List Str}{k:Nat}{sp:Sp}(F:vQ K x qual st f fd)(S:aj N ps (ag st))(len:∀ vs H Q E,sp vs H Q E->vs.length=ps.length)
  (wK:∀ (cdv:Value)(A:Around)(outer:List Env)(s:Shared)(H:Hp)(vs:List V)(Q:VK)(E:XK),vE k (A.deeper (envOfC qual (ag st) s.heap.objs.size f cdv))->sp vs H Q E ->
   ∃ t,xI (dZ (iG b P w) P w K mg base N qual (ag st) f cdv A outer s H E) (ax st) t/\t { nx:=fun _ H'=>Q .vJ H',rt:=Q } (start N vs) H):v7 P w K mg base (iG b P w) (k + 1) f fd ps sp:=by
 obtain⟨oc,od,kV,doc,pm,an,cdv,ct,xQ,rfl,lk,xO⟩:=F.ex
 exact qy lk xO S len fun A outer s H vs Q E hr yp=>wK cdv A outer s H vs Q E hr yp
end
theorem lK {b:Bool}{P:Program}{w:World}{X:Cx}:bZ (iG b P w) X E0:=fun _ _ _ _ _ _ _ v9=>by obtain⟨_,_,_,_,_,_,_,_,_,_,_,_,h⟩:=v9;exact h.elim
noncomputable def IQ (b:Bool)(X:Cx)(e:Expr)(t:St->Hp->VK->XK->Prop):Prop :=
 ∀ (pins:List (Addr × Obj))(s:Shared)(σ:St)(H:Hp)(Q:VK)(E:XK),Inv X pins σ H s->t σ H Q E->wpAny (model X.prog X.w) X.A (eval e X.env) (EP X pins σ Q) (XP b X pins σ E) s
section
variable {b:Bool}{X:Cx}{k:Nat}{f C:Addr}{fd:FuncData}{ps:List Str}{sp:Sp}{wc:List V}{ds:List Value}{x m:Str}{p pos apos:Pos}{e o:Expr}{es:List Expr}{ta:TE}{t:TA}
theorem re {pins:List (Addr × Obj)}{σ:St}{H:Hp}{s:Shared}{Q:VK}{E:XK}{us:List Value}{vs:List V}(F:v7 X.prog X.w X.K X.mg X.base (iG b X.prog X.w) k f fd ps sp)(hr:vE k X.A)(hb:Binds X.K fd ps ds)(hd:Vals wc ds)(hex:X.ex=[])
  (I:Inv X pins σ H s) (r:Vals vs us) (h:sp (vs ++ wc) H Q E):wpAny (model X.prog X.w) X.A (call (.ref f) us) (EP X pins σ Q) (XP b X pins σ E) s:=by
 have r2:Vals (vs ++ wc) (us ++ ds):=r.append hd
 have hl:(us ++ ds).length=ps.length:=by rw[← r2.length];exact F.len _ _ _ _ h
 refine wpAny_call (codeAny_mono (F.run X.A X.stack s H ⟨us,[]⟩ (us ++ ds) (vs ++ wc) Q E hr I.zL (hb s us I.vY hl) r2 h) fun r s' hq=>?_)
 cases r with
 | error e=>exact XP.Ar I hex hq
 | ok fl =>
  cases fl with
  | ret u=>exact I.after hq
  | next=>exact False.elim hq
  | brk=>exact False.elim hq
  | cont=>exact False.elim hq
theorem PA.at {E:Value->Shared->Prop}{pins:List (Addr × Obj)}{s:Shared}{σ:St}{H:Hp}{Q:List V->Hp->Prop}(ha:PA X.Am es t)(I:Inv X pins σ H s)(h:t σ H Q) :
  wpAny (model X.prog X.w) X.A (spliced (backTo pos (starEach es X.env))) (AP X pins σ Q) E s :=
 wpAny_mono (ha pos pins s σ H Q (I.xg _) h) (fun _ _ v9=>by obtain⟨vs,H',I',r,q⟩:=v9;exact⟨vs,H',I'.wk,r,q⟩) fun _ _ z=>False.elim z
theorem kj (F:v7 X.prog X.w X.K X.mg X.base (iG b X.prog X.w) k f fd ps sp)(hr:vE k X.A)(hg:Gl X x)(hm:X.mg x=some (.ref f))(hk:keepIn X.K (.ref f)=true)(hb:Binds X.K fd ps ds)(hd:Vals wc ds)(hex:X.ex=[])
  (ha:PA X.Am (e :: es) t) (xt:(x == ("__debug__":Str))=false:=by decide) (he:starEach (e :: es) X.env=(false,eval e X.env) :: starEach es X.env:=by rfl) (wR:(backTo pos (starEach es X.env)).any (·.1)=false:=by rfl) :
  IQ b X (.Call (.Name x p) (e :: es) [] pos) (fun σ H Q E=>m8 sp wc E t σ H Q):=by
 intro pins s σ H Q E I h
 refine wpAny_Call_Name_kw (bI I hg hm ?_ xt)
 refine PySem.W.callWith_K (h₀:=X.base) I.ok.mod.xa hk (aN (ha.at I h) fun us s1 ⟨vs,H1,I1,r,q⟩=>⟨I1.vY,?_⟩) he wR
 exact re F hr hb hd hex I1 r q
end
noncomputable def Dl (b:Bool)(X:Cx)(body:List Stmt)(t:eC->St->Hp->(St->XK)->Prop):Prop :=
 ∀ (pins:List (Addr × Obj))(s:Shared)(σ:St)(H:Hp)(D:eC)(E:St->XK),Inv X pins σ H s->t D σ H E->wpAny (model X.prog X.w) X.A (execs body X.env) (SP X pins D) (fun ev s'=>∃ σ',XP b X pins σ' (E σ') ev s') s
section
variable {b:Bool}{X:Cx}{e:Expr}{t:St->Hp->VK->XK->Prop}{pos yo:Pos}{n:Str}{i:Nat}
theorem sD (he:IQ b X e t)(hs:swapsWith e none pos.line X.env=pure false:=by rfl):Dl b X [.Expr e pos] (fun D σ H E=>t σ H (fun _ H1=>D.nx σ H1) (E σ)):=by
 intro pins s σ H D E I h
 refine wpAny_execs_cons (wpAny_mono (wpAny_Expr_any (Q:=SP X pins D) (wpAny_mono (he pins s σ H _ _ I h) (fun v s1 v9=>by obtain⟨x,H1,I1,r1,q1⟩:=v9;exact⟨σ,H1,I1,q1⟩) (fun _ _ z=>⟨σ,z⟩)) I.quiet hs) (fun f s1 q=>?_) fun _ _ z=>z)
 cases f with
 | next=>exact wpAny_execs_nil q
 | ret v=>exact q
 | brk=>exact q
 | cont=>exact q
theorem vh (hN:X.N.Nodup)(hi:X.N[i]? = some n)(hx:Loc X.env.scope n)(he:IQ b X e t)(hs:swapsWith e (some (.Name n yo)) pos.line X.env=pure false:=by rfl)
  (hf:X.fn n=true∨X.env.scope.names.lookup n=some .local:=by first | exact .inl rfl | exact .inr rfl | assumption) :
  Dl b X [.Assign [.Name n yo] e pos] (fun D σ H E=>t σ H (fun v H1=>D.nx (σ.set i (some v)) H1) (E σ)):=by
 intro pins s σ H D E I h
 refine wpAny_execs_cons (wpAny_mono (wpAny_Assign_Name (Q:=SP X pins D) (wpAny_mono (he pins s σ H _ _ I h) (fun v s1 v9=>by obtain⟨x,H1,I1,r1,q1⟩:=v9;exact dL I1 hN hi hx r1 (fun s' I'=>⟨_,H1,I',q1⟩) hf) (fun _ _ z=>⟨σ,z⟩)) hs) (fun f s1 q=>?_) fun _ _ z=>z)
 cases f with
 | next=>exact wpAny_execs_nil q
 | ret v=>exact q
 | brk=>exact q
 | cont=>exact q
end
section
variable {M:Model}{A:Around}{E:Value->Shared->Prop}{s:Shared}
theorem iR {e:Addr}{cls:Value}{dd:Option Addr}{ch:List Addr}{fs:List Addr}{n:Bool}{Q:Unit->Shared->Prop}(x:yI n s.heap e cls dd ch)
  (h:∀ h',yI n h' e cls dd ch->jc fs ch s.heap h'->Q () { s with heap:=h' }):wpAny M A (setFlight (.ref e) none) Q E s:=by
 obtain⟨oe,vs,he,rfl,rfl,hd,hn,⟨h1,rfl⟩ | ⟨T,oT,ts,h1,zQ,hT,zb,h3,rfl⟩⟩:=x
 ·unfold setFlight
  refine wpAny_bind (wpAny_field he hd h1 ?_)
  rw[if_neg (by decide)]
  exact wpAny_pure (h s.heap ⟨oe,vs,he,rfl,rfl,hd,hn, .inl ⟨h1,rfl⟩⟩ ⟨fun _ _ z _ _=>z,fun _ o z _=>⟨o.slots,z⟩,fun _ o z=>⟨o,z⟩⟩)
 ·unfold setFlight
  refine wpAny_bind (wpAny_field he hd h1 ?_)
  rw[if_pos (show(Value.ref T != Value.none)=true from by simp)]
  have Dm:3 < ts.size:=(Array.getElem?_eq_some_iff.mp h3).1
  have other:∀ b,b ≠ T->(s.heap.update T (Obj.mapFields (·.setIfInBounds 3 ((none:Option Addr).elim Value.none fun f=>rawInt f)))).get? b=s.heap.get? b:=fun b hb=>Heap.get?_update_other _ _ (Ne.symm hb)
  have y1:=Heap.get?_update_self (Obj.mapFields (·.setIfInBounds 3 ((none:Option Addr).elim Value.none fun f=>rawInt f))) hT (Obj.isFreed_of_fields (Obj.data_mapFields zb _))
  refine wpAny_setField hT zb Dm (h _ ⟨oe,vs,(other e (Ne.symm zQ)).trans he,rfl,rfl,hd,hn, .inr ⟨T,_,_,h1,zQ,y1,Obj.data_mapFields zb _,by simp[Dm],rfl⟩⟩ ⟨fun b o z hc _=>?_,fun b o z hc=>?_,fun b o z=>?_⟩)
  ·simp only[mem_cons,not_mem_nil,or_false,not_or]at hc
   exact(other b hc.2).trans z
  ·simp only[mem_cons,not_mem_nil,or_false,not_or]at hc
   exact⟨o.slots,(other b hc.2).trans z⟩
  ·by_cases hb:b=T
   ·subst hb;exact⟨_,y1⟩
   ·exact⟨o,(other b hb).trans z⟩
end
theorem gB {X:Cx}{pins:List (Addr × Obj)}{σ:St}{H:Hp}{s:Shared}{M:Model}{A:Around}{E:Value->Shared->Prop}{i:Nat}{x:Str}{pos:Pos}{Q:Unit->Shared->Prop}(I:Inv X pins σ H s)(hN:X.N.Nodup)(hi:X.N[i]? = some x)(hk:X.env.kindOf x=some .local)
  (h:∀ s',Inv X pins (σ.set i none) H s'->Q () s'):wpAny M A (do bindName X.env x .none;unbindBehindTheSuite X.env x pos) Q E s:=by
 obtain⟨m,hn,hl⟩:=id I.loc
 have Ba:(X.env.scope.kind == .class || (X.env.scope.kind == .module && X.env.locals != X.env.globals))=false:=by rw[I.ok.kind];rfl
 have yl:=I.yl
 refine wpAny_nameGoes_keeps hk hn Ba fun h' v xH hs=>?_
 obtain⟨oL,_,_,Me,_⟩:=id hn
 have above:∀ b o,X.s₀.heap.get? b=some o->b ≠ X.env.locals:=fun b o e=>ne_of_lt (lt_of_lt_of_le (lt_size e) I.ok.above)
 refine h _ ⟨I.ok,I.os,I.bare,⟨fun b o e n hb hx=>(hs.2 b (above b o e)).trans (I.base.keep b o e n hb hx),fun b o e n hb hx=>?_,I.base.free,fun b o e hx=>?_,I.base.wX,I.base.wQ,I.base.wY⟩,⟨_,xH,fun j y v' e1 e2 e3=>?_⟩,fun y c e=>?_,I.free,I.vT,fun p hp=>?_,fun b ob e=>?_,by simpa using I.len⟩
 ·obtain⟨sl,e1⟩:=I.base.slot b o e n hb hx
  exact⟨sl,(hs.2 b (above b o e)).trans e1⟩
 ·obtain⟨o',e1⟩:=I.base.there b o e hx
  exact⟨o',(hs.2 b (above b o e)).trans e1⟩
 ·have hj:j ≠ i:=fun z=>by
   subst z
   have wA:j < σ.length:=by rw[I.len];exact(List.getElem?_eq_some_iff.mp hi).1
   rw[List.getElem?_set_self wA]at e2
   cases e2
  rw[List.getElem?_set_ne (Ne.symm hj)]at e2
  obtain⟨u',r',q⟩:=hl j y v' e1 e2 e3
  refine⟨u',r',?_⟩
  rcases q with ⟨k,e⟩ | ⟨k,c,e,z⟩
  ·refine .inl ⟨k,?_⟩
   have:y ≠ x:=fun e=>hj (hJ hN e1 (e ▸ hi))
   simp[this,e]
  ·exact .inr ⟨k,c,e,z.sameBut hs (yl y c e)⟩
 ·obtain⟨w',z⟩:=I.cell y c e
  exact⟨w',z.sameBut hs (yl y c e)⟩
 ·obtain⟨e,n,ne,nf,d⟩:=I.pin p hp
  exact⟨(hs.2 p.1 ne).trans e,n,ne,nf,d⟩
 ·refine(I.vD b ob e).wD (fun c w' hc q=>(hs.2 c ?_).trans q) (fun _ q=>q) fun _ _ q=>q
  rintro rfl
  rcases hc with z | hc
  ·rw[← z,I.free]at e;cases e
  ·rw[I.free]at hc;cases hc
end L2
namespace L2
open PySem PySem.Spec PyProof.Rows
section
variable {b:Bool}{X:Cx}{k:Nat}{f C:Addr}{fd:FuncData}{ps:List Str}{sp:Sp}{wc:List V}{ds:List Value}{m:Str}{pos apos:Pos}{o:Expr}{ta:TE}
end
end L2
namespace PySem
theorem iE:entryFor table "proto.unchain" = some Builtin.«proto.unchain»:=entryFor_of_fast (by kernel_rfl)
section
variable {prog:Program}{w:World}{A:Around}{E:Value->Shared->Prop}{env:Env}
theorem lf {s:Shared}{x c:Sem Value}{C hd:Addr}{Q:Flow->Shared->Prop}(hh:A.handled=some (.ref hd))(hc:∀ (R:Value->Shared->Prop) s',R .none s'->wpAny (model prog w) A c R E s')
  (h:wpAny (model prog w) A x (fun v s₁=>∃ e t de nm q N bs bm wm sn sub ab col dd k0 k1 k2 k3 k5 newId,v = .ref e/\bm.contains (.type "BaseException")=true/\s₁.heap.get? C=some (excClassObj nm q C N bs bm wm sn sub ab col dd k0 k1 k2 k3 k5 newId) /\
   s₁.heap.get? e=some { cls := .ref C,dict:=de,data := .fields #[.ref t, .none, .none, .none, .bool false, .none] }/\e ≠ hd/\e ≠ C/\(∃ oh hs,s₁.heap.get? hd=some oh/\oh.data = .fields hs/\hs[2]? = some .none) /\
   ∀ h',h'.get? e=some { cls := .ref C,dict:=de,data := .fields #[.ref t, .none, .ref hd, .none, .bool true, .none] }->(∀ b,b ≠ e->h'.get? b=s₁.heap.get? b)->h'.objs.size=s₁.heap.objs.size->E (.ref e) { s₁ with heap:=h' }) E s) :
  wpAny (model prog w) A (raiseStmt env (some x) (some c)) Q E s:=by
 unfold raiseStmt
 refine wpAny_bind (wpAny_mono h (fun v s₁ h₁=>?_) fun _ _ x=>x)
 obtain⟨e,t,de,nm,q,N,bs,bm,wm,sn,sub,ab,col,dd,k0,k1,k2,k3,k5,newId,rfl,xR,hC,he,xx,BV,⟨oh,hs,hoh,hhs,h2⟩,hE⟩:=h₁
 have ID:(Value.ref C :: bm).contains (.type "BaseException")=true:=by rw[contains_cons,xR,Bool.or_true]
 obtain⟨hp,g,d,tk,os⟩:=s₁
 refine wpAny_bind (wpAny_holding (hc _ _ (wpAny_bind (wpAny_pure ?_))))
 dsimp only
 repeat (first | with_reducible refine wpAny_loadPart_at he ?_ | with_reducible refine wpAny_loadPart_at hC ?_ | (with_reducible refine wpAny_isSubtype_exc hC ?_;rw[ID]) | wp_step)
 unfold raiseNew
 refine wpAny_bind (wpAny_handled ?_)
 rw[hh]
 dsimp only
 rw[if_pos (show(Value.ref hd != Value.ref e)=true by simp[Ne.symm xx])]
 generalize hH:(hp.update e (Obj.mapFields fun x=>x.setIfInBounds 3 Value.none)).update e (Obj.mapFields fun x=>x.setIfInBounds 4 (Value.bool true))=H2
 have other:∀ b,b ≠ e->H2.get? b=hp.get? b:=fun b hb=>by rw[← hH,Heap.get?_update_other _ _ (Ne.symm hb),Heap.get?_update_other _ _ (Ne.symm hb)]
 have self:H2.get? e=some { cls := .ref C,dict:=de,data := .fields #[.ref t, .none, .none, .none, .bool true, .none] }:=by
  rw[← hH]
  exact Heap.get?_update_self (Obj.mapFields fun x=>x.setIfInBounds 4 (Value.bool true)) (Heap.get?_update_self (Obj.mapFields fun x=>x.setIfInBounds 3 Value.none) he rfl) rfl
 have sz:H2.objs.size=hp.objs.size:=by rw[← hH,size_after_update,size_after_update]
 have IS:H2.get? hd=some oh:=(other hd (Ne.symm xx)).trans hoh
 refine wpAny_bind (wpAny_holding (wpAny_runValue (codeAny_builtin iE ?_)))
 unfold Builtin.«proto.unchain»
 refine wpAny_bind (wpAny_field IS hhs h2 ?_)
 rw[if_pos (by rfl)]
 refine wpAny_pure ?_
 dsimp only
 refine wpAny_bind ?_
 show wpAny _ _ (setField (.ref e) 2 (.ref hd)) _ _ _
 refine wpAny_setField self rfl (by show 2 < 6;decide) (wpAny_throw ?_)
 refine hE _ (Heap.get?_update_self (Obj.mapFields fun x=>x.setIfInBounds 2 (Value.ref hd)) self rfl) (fun b hb=>?_) ?_
 ·rw[Heap.get?_update_other _ _ (Ne.symm hb)];exact other b hb
 ·rw[size_after_update];exact sz
end
end PySem
namespace L2
open PySem PySem.Spec PyProof.Rows
noncomputable def tQ (K:Frag)(c:Value)(C:Addr)(E:XK)(tb:eC->St->Hp->(St->XK)->Prop)(th:Addr->Obj->TX):TS:=fun D σ H =>
 tb D σ H fun σ' cls dd H'=>PySem.W.exmOne K cls c=some true/\∀ ea oe vs,oe.cls=cls->oe.dict=dd->oe.data = .fields vs->H' ea=none->th ea oe σ' H' fun G5 H2=>E (.ref C) G5 H2
theorem pB {X:Cx}{body:List Stmt}{e:Expr}{y:Str}{c:Value}{C:Addr}{init:Option Value}{E:XK}{np IT IU xj pos:Pos}{cj:Nat}{tb:eC->St->Hp->(St->XK)->Prop}{th:Addr->Obj->TX}(xJ:X.stack=X.env :: X.outer)(Dn:X.env.frame=some X.env.locals)
  (hg:Gl X y) (hm:X.mg y=some c) (hb:Dl true X body tb) (hq:aM X.K C init=true) (hx:wL false X E) (ho:∀ hd,PassesOwnAt (model X.prog X.w) (X.A.mark hd) X.A X.env X.xe) (hh:∀ ea oe,PX (X.hand ea oe) e C (th ea oe))
  (xt:(y == ("__debug__":Str))=false:=by decide) :
  PS X (.Try body [.ExceptHandler (some (.Name y np)) none [.Raise (some e) (some (.Constant .none cj xj)) IU] IT] [] [] pos) (tQ X.K c C E tb th):=by
 intro pins s σ H D I h
 refine wpAny_Try_except (wpAny_mono (hb pins s σ H D _ I h) (fun f s1 q=>?_) fun ev s1 ⟨σ1,e,cls,dd,ch,H1,ee,I1,zD,w6,IV,q⟩=>?_)
 ·cases f with
  | next=>exact wpAny_execs_nil q
  | ret v=>exact q
  | brk=>exact q
  | cont=>exact q
 subst ee
 have IW:s1.heap.FunFrames X.base (X.env :: X.outer):=xJ ▸ I1.stack
 refine fO (base:=X.base) (xJ ▸ I1.ok.frames) IW Dn zD fun h2 IX xo IY Bo=>?_
 have I2:=I1.wB (h':=h2) (xJ ▸ IY) fun b hb=>⟨(w6 b hb).1,(w6 b hb).2.1,(w6 b hb).2.2,zD.rec b hb⟩
 have xA:∀ b ∈ IX,X.s₀.heap.get? b=none/\H1 b=none/\∀ p ∈ X.pn ++ pins,p.1 ≠ b:=fun b hb=>by
  rcases Bo b hb with z | z
  ·exact w6 b z
  ·refine⟨Heap.get?_none_of_le (le_trans I1.sz z),I1.vD.fresh z,fun p hp z2=>?_⟩
   have:=lt_size (I1.pin p hp).1
   rw[z2]at this
   exact absurd this (not_lt.mpr z)
 have ty:PySem.W.Looks (model X.prog X.w) h2 (typeOf (.ref e)) cls:=by
  obtain⟨oe,vs,he,hc,_⟩:=xo
  exact hc ▸ (PySem.W.Looks.ld he).andThen .now
 refine wpAny_handleBy_cons (codeAny_handlers_test ?_) (by intro z;cases z)
 have eH:H1 e=none:=(xA e xo.mem).2.1
 obtain⟨IZ,vs2,yO,yL,hd2,Ja,_⟩:=id xo
 have J2:=I2.hand (ea:=e) (oe:=IZ) yO Ja eH
 refine bI J2 hg hm ?_ xt
 refine PySem.W.exm_one I2.vY ty IV (X.A.mark (some (.ref e))) _ _ ⟨h2,s1.gens,s1.drawn,s1.toks,s1.os⟩ (fun _ _ z=>z) ?_
 refine codeAny_handlers_suite ?_
 refine iR (fs:=gh X.stack) xo fun h3 Bp Jb=>?_
 have I3:=I2.wB (h':=h3) Jb fun b hb=>⟨(xA b hb).1,(xA b hb).2.1,(xA b hb).2.2,xo.rec b hb⟩
 obtain⟨oe,vs,he,hc,hd,hf,hcx,_⟩:=id Bp
 have J3:=I3.hand (ea:=e) (oe:=oe) he hf eH
 refine wpAny_execs_cons ?_
 rw[arm_exec_Raise]
 simp only[evalOpt,Option.map]
 refine wpAny_mono ?_ (fun _ _ z=>z) (ho (some (.ref e)))
 refine wpAny_bind (wpAny_standAt (lf (C:=C) (hd:=e) rfl (fun R s' r=>?_) ?_))
 ·exact wpAny_bind (Constant_none (wpAny_bind (wpAny_standAt (wpAny_pure r))))
 ·refine wpAny_bind (wpAny_mono (hh e oe pins _ _ H1 _ J3 (q e oe vs hc hd hf eH)) (fun u s4 v9=>?_) fun _ _ z=>False.elim z)
  obtain⟨ea,G5,tt,H2,eu,J4,G6,MI,MJ,Jc,q4⟩:=v9
  refine wpAny_bind (wpAny_standAt (wpAny_pure ?_))
  obtain⟨bm,N,nm,qn,bs,wm,sn,sub,ab,col,IE,k0,k1,k2,k3,k5,mN,hC,An,zR,T⟩:=gC J4.vY hq
  refine⟨ea,tt,G5,nm,qn,N,bs,bm,wm,sn,sub,ab,col,IE,k0,k1,k2,k3,k5,_,eu,iK T,hC,G6,?_,?_,?_,?_⟩
  ·exact Ne.symm (Jc (e,oe) (by show(e,oe) ∈ ((e,oe) :: X.pn) ++ pins;simp))
  ·intro z
   rw[z,hC]at G6
   have:=congrArg (fun o=>o.map Obj.data) G6
   cases this
  ·exact⟨oe,vs,(J4.pin (e,oe) (by show(e,oe) ∈ ((e,oe) :: X.pn) ++ pins;simp)).1,hf,hcx rfl⟩
  ·intro h' g1 g2 g3
   have m:jc (gh X.stack) [ea] s4.heap h':=⟨fun b o z hb _=>by rw[g2 b (by simpa using hb)];exact z,fun b o z hb=>⟨o.slots,by rw[g2 b (by simpa using hb)];exact z⟩,fun b o z=>by
    by_cases hb:b=ea
    ·subst hb;exact⟨_,g1⟩
    ·exact⟨o,by rw[g2 b hb];exact z⟩⟩
   have J5:=(J4.xn I.ok).wB m fun b hb=>by
    rw[mem_singleton.mp hb]
    exact⟨MI,MJ,fun p hp=>Jc p (by show p ∈ ((e,oe) :: X.pn) ++ pins;rw[cons_append];exact mem_cons_of_mem _ hp),_,_,G6,rfl⟩
   refine hx pins σ1 _ _ ⟨ea, .ref C,G5,[ea],H2,rfl,J5,⟨_,_,g1,rfl,rfl,rfl,nofun, .inl ⟨rfl,rfl⟩⟩,fun b hb=>?_,q4⟩
   rw[mem_singleton.mp hb]
   exact⟨MI,MJ,fun p hp=>Jc p (by show p ∈ ((e,oe) :: X.pn) ++ pins;rw[cons_append];exact mem_cons_of_mem _ hp)⟩
theorem nT {n:Bool}{P:Program}{w:World}{K:Frag}{mg:Str->Option Value}{base:Heap}{N:List Str}{qual:Str}{scope:Scope}{f:Addr}{cd:Value}{A:Around}{outer:List Env}{s:Shared}{H:Hp}{E:XK}(hd:Option Value) :
  PassesOwnAt (model P w) ((dZ (iG n P w) P w K mg base N qual scope f cd A outer s H E).A.mark hd) (dZ (iG n P w) P w K mg base N qual scope f cd A outer s H E).A (dZ (iG n P w) P w K mg base N qual scope f cd A outer s H E).env (dZ (iG n P w) P w K mg base N qual scope f cd A outer s H E).xe :=
 PassesOwnAt.leaving (Q₁:=fun e zM=>iG n P w outer H s E e zM)
end L2
namespace L2
open PySem PySem.Spec PyProof.Rows
end L2
namespace L2
open PySem PySem.Spec PyProof.Rows
structure Cl where
 y:Str
 c:Value
 b:Stmt
 bs:List Stmt
 th:Addr->Obj->TS
 np:Pos
 hp:Pos
noncomputable def Cl.h (n:Str)(z:Cl):ExceptHandler := .ExceptHandler (some (.Name z.y z.np)) (some n) (z.b :: z.bs) z.hp
noncomputable def MK (K:Frag)(i:Nat)(D:eC)(cls:Value)(dd:Option Addr)(σ:St)(H:Hp):List Cl->Prop
 | []=>False
 | z :: zs=>(PySem.W.exmOne K cls z.c=some true/\∀ ea oe vs,oe.cls=cls->oe.dict=dd->oe.data = .fields vs->H ea=none ->
   z.th ea oe { nx:=fun σ2 H2=>D.nx (σ2.set i none) H2,rt:=D.rt,bk:=fun σ2 H2=>D.bk (σ2.set i none) H2,ct:=fun σ2 H2=>D.ct (σ2.set i none) H2 } (σ.set i (some (.ref ea))) H) ∨
  (PySem.W.exmOne K cls z.c=some false/\MK K i D cls dd σ H zs)
noncomputable def sQ (K:Frag)(i:Nat)(tb:eC->St->Hp->(St->XK)->Prop)(zs:List Cl):TS:=fun D σ H=>tb D σ H fun σ' cls dd H'=>MK K i D cls dd σ' H' zs
structure sN (X:Cx)(z:Cl):Prop where
 g:Gl X z.y
 m:X.mg z.y=some z.c
 d:(z.y == ("__debug__":Str))=false
 h:∀ ea oe,xI (X.hand ea oe) (z.b :: z.bs) (z.th ea oe)
theorem rq {bb:Bool}{X:Cx}{body:List Stmt}{n:Str}{pos:Pos}{i:Nat}{tb:eC->St->Hp->(St->XK)->Prop}{hs:List ExceptHandler}{z₀:Cl}{zs:List Cl}(xJ:X.stack=X.env :: X.outer)(Dn:X.env.frame=some X.env.locals)
  (hN:X.N.Nodup) (hi:X.N[i]? = some n) (hk:X.env.kindOf n=some .local) (hb:Dl bb X body tb) (hh:∀ z ∈ z₀ :: zs,sN X z) (he:hs=(z₀ :: zs).map (Cl.h n):=by rfl) :
  PS X (.Try body hs [] [] pos) (sQ X.K i tb (z₀ :: zs)):=by
 subst he
 intro pins s σ H D I h
 refine wpAny_Try_except (wpAny_mono (hb pins s σ H D _ I h) (fun f s1 q=>?_) fun ev s1 ⟨σ1,e,cls,dd,ch,H1,ee,I1,zD,w6,q⟩=>?_)
 ·cases f with
  | next=>exact wpAny_execs_nil q
  | ret v=>exact q
  | brk=>exact q
  | cont=>exact q
 subst ee
 have IW:s1.heap.FunFrames X.base (X.env :: X.outer):=xJ ▸ I1.stack
 refine fO (base:=X.base) (xJ ▸ I1.ok.frames) IW Dn zD fun h2 IX xo IY Bo=>?_
 have I2:=I1.wB (h':=h2) (xJ ▸ IY) fun b hb=>⟨(w6 b hb).1,(w6 b hb).2.1,(w6 b hb).2.2,zD.rec b hb⟩
 have xA:∀ b ∈ IX,X.s₀.heap.get? b=none/\H1 b=none/\∀ p ∈ X.pn ++ pins,p.1 ≠ b:=fun b hb=>by
  rcases Bo b hb with z | z
  ·exact w6 b z
  ·refine⟨Heap.get?_none_of_le (le_trans I1.sz z),I1.vD.fresh z,fun p hp z2=>?_⟩
   have:=lt_size (I1.pin p hp).1
   rw[z2]at this
   exact absurd this (not_lt.mpr z)
 have ty:PySem.W.Looks (model X.prog X.w) h2 (typeOf (.ref e)) cls:=by
  obtain⟨oe,vs,he,hc,_⟩:=xo
  exact hc ▸ (PySem.W.Looks.ld he).andThen .now
 have eH:H1 e=none:=(xA e xo.mem).2.1
 obtain⟨IZ,vs2,yO,yL,hd2,Ja,_⟩:=id xo
 have J2:=I2.hand (ea:=e) (oe:=IZ) yO Ja eH
 show wpAny _ _ (handleBy (.ref e) X.env ((z₀ :: zs).map (Cl.h n))) _ _ _
 clear h hb
 generalize z₀ :: zs=zl at q hh
 induction zl with
 | nil=>exact False.elim q
 | cons z zs ih =>
  have ok:=hh z mem_cons_self
  rcases q with ⟨IV,q⟩ | ⟨hmf,q⟩
  ·refine wpAny_handleBy_cons (codeAny_handlers_test ?_) (by intro z;cases z)
   refine bI J2 ok.g ok.m ?_ ok.d
   refine PySem.W.exm_one I2.vY ty IV (X.A.mark (some (.ref e))) _ _ ⟨h2,s1.gens,s1.drawn,s1.toks,s1.os⟩ (fun _ _ z=>z) ?_
   refine codeAny_handlers_suite_as ?_
   refine iR (fs:=gh X.stack) xo fun h3 Bp Jb=>?_
   have I3:=I2.wB (h':=h3) Jb fun b hb=>⟨(xA b hb).1,(xA b hb).2.1,(xA b hb).2.2,xo.rec b hb⟩
   obtain⟨oe,vs,he,hc,hd,hf,_⟩:=id Bp
   have J3:=I3.hand (ea:=e) (oe:=oe) he hf eH
   refine dL (X:=X.hand e oe) J3 hN hi (.inl hk) (v := .ref e) rfl (fun s4 J4=>?_) (.inr hk)
   refine wpAny_mono (ok.h e oe pins s4 _ H1 _ J4 (q e oe vs hc hd hf eH)) (fun f s5 q5=>?_) fun _ _ z=>False.elim z
   dsimp only
   cases f with
   | next =>
    obtain⟨σ5,H5,J5,q5⟩:=q5
    exact gB (J5.xn I.ok) hN hi hk fun s6 I6=>⟨_,H5,I6,q5⟩
   | brk =>
    obtain⟨σ5,H5,J5,q5⟩:=q5
    exact gB (J5.xn I.ok) hN hi hk fun s6 I6=>⟨_,H5,I6,q5⟩
   | cont =>
    obtain⟨σ5,H5,J5,q5⟩:=q5
    exact gB (J5.xn I.ok) hN hi hk fun s6 I6=>⟨_,H5,I6,q5⟩
   | ret u =>
    obtain⟨v,σ5,H5,J5,rv,q5⟩:=q5
    exact gB (J5.xn I.ok) hN hi hk fun s6 I6=>⟨v,_,H5,I6,rv,q5⟩
  ·refine wpAny_handleBy_cons (codeAny_handlers_test ?_) (by intro z;cases z)
   refine bI J2 ok.g ok.m ?_ ok.d
   refine PySem.W.exm_one I2.vY ty hmf (X.A.mark (some (.ref e))) _ _ ⟨h2,s1.gens,s1.drawn,s1.toks,s1.os⟩ (fun _ _ z=>z) ?_
   exact ih q fun y hy=>hh y (mem_cons_of_mem _ hy)
end L2
namespace L2
open PySem PySem.Spec PyProof.Rows
section
open PySem.W
variable {prog:Program}{w:World}{A:Around}{E:Value->Shared->Prop}{s:Shared}{K:Frag}{x C:Addr}{name:Str}{v:Value}
theorem pc {d:Addr}{vs:Array Value}{mA:Str->Option Value}{ns:List Str}{Q:Unit->Shared->Prop}(X:K.In s.heap)(hx:s.heap.get? x=some ⟨.ref C,some d, .fields vs,#[]⟩)(hn:s.heap.Ns1 d mA)(hw:PySem.Within mA ns)(hl:ns.length < sizeLine)(c:dH K C)(ht:findIn K (.ref C) name=some none)
  (h:∀ h' t',h'.Ns1 d (fun y=>if y=name then some v else mA y)->(∀ b,b ≠ d->h'.get? b=s.heap.get? b)->Q () { s with heap:=h',toks:=t' }) :
  wpAny (model prog w) A (setAttr (.ref x) name v) Q E s:=by
 obtain⟨od,es,ep,y4,hr⟩:=id hn
 have I:PySem.W.InstAt s.heap x ⟨.ref C,some d, .fields vs,#[]⟩ C (some od):=⟨hx,rfl,rfl,y4⟩
 refine PySem.W.set_plain X I c.sa (mT (s:={ s with toks:=s.toks + 1 }) X I c.mro ht fun b=>?_)
 obtain⟨cd,hc,AZ⟩:=PySem.W.any_some c.hd
 obtain⟨hp,g,dr,t,os⟩:=s
 dsimp only at X hx h I hn y4 ⊢
 refine wpAny_bind (wpAny_pure (wpAny_bind (wpAny_bind (wpAny_loadPart hx (wpAny_bind (PySem.W.Looks.here (s:=⟨hp,g,dr,t + 1,os⟩) (PySem.W.looks_clsIn X hc) ?_))))))
 rw[AZ]
 rw[if_neg (by decide)]
 dsimp only
 refine wpAny_pure ?_
 show wpAny _ _ (Builtin.ObjectAttr.storeInDict d (.str name t) name v) _ _ _
 unfold Builtin.ObjectAttr.storeInDict Builtin.ObjectAttr.newKeyGuard
 refine wpAny_bind (wpAny_pure (wpAny_bind (wpAny_nsSet1 hn fun h' xH hs=>?_)))
 obtain⟨oD,Mu,Mv,CD,CF,yG⟩:=xH.count (Within.cons name v hw)
 refine wpAny_bind (wpAny_lookBehind CD (by rw[CF];exact pastItsLine_dict (le_trans yG (by rw[length_cons];omega))) ?_)
 exact wpAny_pure (h h' _ xH fun b hb=>hs.2 b hb)
end
noncomputable def Dp (d:Addr)(fs:List (Str × V)):Heap->Prop:=fun h=>∃ mA,h.Ns1 d mA/\∀ f,wq (fs.lookup f) (mA f)
theorem tF {P:Program}{w:World}{H:Hp}{h:Heap}{d:Addr}{fs:List (Str × V)}(x:Dp d fs h):vL P w H h d (.ext (Dp d fs)):=by
 refine⟨x,?_,fun h1 h2 ⟨mA,⟨od,es,ep,e,c⟩,r⟩ k=>⟨mA,⟨od,es,ep,k _ e,c⟩,r⟩⟩
 obtain⟨mA,⟨od,es,ep,e,c⟩,r⟩:=x
 exact⟨od,e⟩
noncomputable def uo (K:Frag)(ta tv:TE)(f:Str):TS:=fun D σ H=>tv σ H fun y H1=>ta σ H1 fun x H2=>∃ a C tt,x = .ref a/\H2 a=some (b8 a C tt none)/\dH K C/\findIn K (.ref C) f=some none /\
 ∀ d,H2 d=none->D.nx σ (upd (upd H2 d (.ext (Dp d [(f,y)]))) a (b8 a C tt (some d)))
noncomputable def um (K:Frag)(ta tv:TE)(f:Str):TS:=fun D σ H=>tv σ H fun y H1=>ta σ H1 fun x H2=>∃ a C tt d fs,x = .ref a/\H2 a=some (b8 a C tt (some d))/\H2 d=some (.ext (Dp d fs))/\fs.length < 1000/\dH K C/\findIn K (.ref C) f=some none /\
 D.nx σ (upd H2 d (.xd (aQ f y fs)))
section
variable {X:Cx}{o e value:Expr}{f:Str}{pos pos':Pos}{ta tv:TE}
theorem pD (ha:PE X o ta)(hv:PE X value tv)(hs:swapsWith value (some (.Attribute o f pos')) pos.line X.env=pure false):PS X (.Assign [.Attribute o f pos'] value pos) (uo X.K ta tv f):=by
 intro pins s σ H D I h
 refine plainObj_wpAny_Assign_Attribute (aN (hv pins s σ H _ I h) fun u s1 ⟨y,H1,I1,ry,q⟩=>aN (ha pins s1 σ H1 _ I1 q) fun ov s2 v9=>?_) hs
 obtain⟨x,H2,I2,rx,a,C,tt,ex,ea,c,n,q2⟩:=v9
 subst ex
 obtain rfl:ov=Value.ref a:=rx
 have ho:s2.heap.get? a=some (cn C tt none):=(I2.vD a _ ea).1
 have wA:a < s2.heap.objs.size:=lt_size ho
 refine jR I2.vY ho c n fun h' t' wV xH hk=>⟨σ,_,?_,q2 s2.heap.objs.size (I2.vD.fresh (le_refl _))⟩
 obtain⟨od,es,ep,y4,r⟩:=id xH
 have zC:od.isFreed=false:=(Heap.get?_some_iff.mp y4).2
 have xX:(s2.heap.push od).get? s2.heap.objs.size=some od:=Heap.get?_push_size s2.heap zC
 have I3:=I2.laid (a:=s2.heap.objs.size) (o := .ext (Dp s2.heap.objs.size [(f,y)])) (h':=s2.heap.push od) (t':=s2.toks) (fun b u z=>Heap.get?_push_of_some _ z) (le_refl _)
  (tF ⟨_,xH.at (fun o z=>by rw[y4]at z;cases z;exact xX),fun g=>by
   by_cases hg:g=f
   ·have hb:(g == f)=true:=beq_iff_eq.mpr hg
    simp only[List.lookup,hb,if_pos hg]
    exact ry
   ·have hb:(g == f)=false:=beq_eq_false_iff_ne.mpr hg
    simp only[List.lookup,hb,if_neg hg]
    trivial⟩)
 have xx:a ≠ s2.heap.objs.size:=ne_of_lt wA
 refine I3.write (x:=a) (e:=a) (h':=h') (t':=t') (by rw[ae xx,ea];exact True.intro) (.inl rfl) (fun b u hb z=>?_) ⟨_,wV⟩ (iw wV)
 by_cases Dj:b=s2.heap.objs.size
 ·subst Dj
  have z':(s2.heap.push od).get? s2.heap.objs.size=some u:=z
  rw[xX]at z'
  cases z'
  exact y4
 ·have z':s2.heap.get? b=some u:=by
   have z0:(s2.heap.push od).get? b=some u:=z
   exact(Heap.get?_push_cases z0).elim (fun w=>absurd w.1 Dj) fun w=>w
  exact hk b u hb z'
theorem pC (ha:PE X o ta)(hv:PE X value tv)(hs:swapsWith value (some (.Attribute o f pos')) pos.line X.env=pure false):PS X (.Assign [.Attribute o f pos'] value pos) (um X.K ta tv f):=by
 intro pins s σ H D I h
 refine plainObj_wpAny_Assign_Attribute (aN (hv pins s σ H _ I h) fun u s1 ⟨y,H1,I1,ry,q⟩=>aN (ha pins s1 σ H1 _ I1 q) fun ov s2 v9=>?_) hs
 obtain⟨x,H2,I2,rx,a,C,tt,d,fs,ex,ea,ed,Jd,c,n,q2⟩:=v9
 subst ex
 obtain rfl:ov=Value.ref a:=rx
 have ho:s2.heap.get? a=some (cn C tt (some d)):=(I2.vD a _ ea).1
 obtain⟨⟨mA,hn,hr⟩,_⟩:=I2.vD d _ ed
 have hw:PySem.Within mA (fs.map (·.1)):=fun g hg=>by
  have r:=hr g
  cases hl:fs.lookup g with
  | none=>rw[hl]at r;cases hm:mA g with
   | none=>exact absurd hm hg
   | some z=>rw[hm]at r;exact r.elim
  | some z =>
   have:∀ {l:List (Str × V)},l.lookup g=some z->g ∈ l.map (·.1):=by
    intro l
    induction l with
    | nil=>intro h;cases h
    | cons p l ih =>
     intro h
     rw[map_cons,mem_cons]
     by_cases e:g=p.1
     ·exact .inl e
     ·have hb:(g == p.1)=false:=beq_eq_false_iff_ne.mpr e
      obtain⟨p1,p2⟩:=p
      simp only[List.lookup,hb]at h
      exact .inr (ih h)
   exact this hl
 refine pc I2.vY ho hn hw (by rw[length_map,sizeLine_eq];omega) c n fun h' t' xH hk=>⟨σ,_,?_,q2⟩
 refine I2.write (x:=d) (e:=d) (h':=h') (t':=t') (by rw[ed];exact True.intro) (.inl rfl) (fun b u hb z=>?_) ?_ ⟨_,xH,fun g=>?_⟩
 ·exact(hk b hb).trans z
 ·obtain⟨od,_,_,y4,_⟩:=xH
  exact⟨od,y4⟩
 ·rw[dX]
  by_cases e:g=f
  ·rw[if_pos e];simp only[if_pos e];exact ry
  ·rw[if_neg e];simp only[if_neg e];exact hr g
end
end L2
namespace L2
open PySem
noncomputable def nh:Option Int->Value->Bool
 | none,v=>v == .none
 | some k,v=>Value.isInt k v
noncomputable def rA:Option Int->Int
 | none=>4238894112
 | some k=>hashInt k
theorem bA {k:Option Int}{v:Value}(h:nh k v=true):(k=none/\v = .none)∨∃ i t,k=some i/\v = .int i t:=by
 cases k with
 | none=>exact .inl ⟨rfl,eq_of_beq h⟩
 | some i=>obtain⟨t,e⟩:=Value.isInt_shape h;exact .inr ⟨i,t,rfl,e⟩
section
variable {prog:Program}{w:World}{A:Around}{E:Value->Shared->Prop}{s:Shared}
theorem oz {Q:Int->Shared->Prop}(h:Q 4238894112 { s with toks:=s.toks + 1 }):wpAny (model prog w) A (pyHash .none) Q E s:=by
 have hT:s.TypeIs .none "NoneType":=rfl
 unfold pyHash
 have hv:[Value.none].any Value.onHeap=false:=rfl
 refine wpAny_bind ?_
 rw[cRoomFor,if_neg (by rw[hv];exact Bool.false_ne_true)];refine wpAny_pure ?_
 refine wpAny_bind (wpAny_specialOf hT F.slot_NoneType_hash.lookup ?_)
 show wpAny _ _ (if (some (Value.builtin "NoneType.__hash__") == some Value.none)=true then _ else _) Q E s
 rw[if_neg (by rw[beq_builtin_none];exact Bool.false_ne_true)]
 refine wpAny_bind (wpAny_specialOf hT F.slot_NoneType_hash.lookup ?_)
 show wpAny _ _ (callSpecialIfBoundUnlessNone? .none "__hash__" _ >>= _) Q E s
 refine wpAny_bind (wpAny_callSpecialIfBoundUnlessNone?_slot hT F.slot_NoneType_hash (wpAny_call_entry F.slot_NoneType_hash hT F.entry_NoneType_hash
  (show wpAny _ _ (do ret (← mkInt 4238894112)) _ _ s from wpAny_ret_mkInt ?_) (F.args_NoneType_hash_1 _)))
 exact wpAny_pure h
theorem va {a b:Option Int}{u v:Value}{Q:Bool->Shared->Prop}(hu:nh a u=true)(hv:nh b v=true)(h:Q (decide (a=b)) s):wpAny (model prog w) A (PySem.eqBool u v) Q E s:=by
 rcases bA hu with ⟨rfl,rfl⟩ | ⟨i,t,rfl,rfl⟩<;>rcases bA hv with ⟨rfl,rfl⟩ | ⟨j,t',rfl,rfl⟩
 ·unfold eqBool
  refine wpAny_holding ?_
  refine wpAny_ite_split (fun _=>wpAny_bind (wpAny_rule (wpAny_pure (by simpa using h)))) (fun n=>absurd rfl n)
 ·exact PySem.SeqAt.EqAt.none_int j t' prog w E Q (by simpa using h)
 ·exact PySem.SeqAt.EqAt.int_none i t prog w E Q (by simpa using h)
 ·refine wpAny_eqBool_int ?_
  have e:(i == j)=decide (some i=some j):=by
   by_cases q:i=j
   ·simp[q]
   ·simp[q]
  rw[e];exact h
end
noncomputable def fq (prog:Program)(w:World):KeyKind prog w (Option Int) where
 is:=nh
 hash:=rA
 inj:=fun v a b ha hb=>by
  rcases bA ha with ⟨rfl,rfl⟩ | ⟨i,t,rfl,rfl⟩<;>rcases bA hb with ⟨rfl,e⟩ | ⟨j,t',rfl,e⟩
  ·rfl
  ·cases e
  ·cases e
  ·cases e;rfl
 byValue:=fun k v h=>by
  rcases bA h with ⟨_,rfl⟩ | ⟨i,t,_,rfl⟩<;>rfl
 pyHash:=fun {A E s k v Q} hv h=>by
  rcases bA hv with ⟨rfl,rfl⟩ | ⟨i,t,rfl,rfl⟩
  ·exact oz h
  ·exact wpAny_pyHash_int h
 eqBool:=fun hu hv h=>va hu hv h
 «strs»:=fun k x t v h=>by
  rcases bA h with ⟨_,e⟩ | ⟨i,t,_,e⟩<;>cases e
end L2
namespace L2
open PySem PySem.Spec PyProof.Rows
abbrev ce:=List (Option Int)
noncomputable def qQ:Option Int->V
 | none => .vJ
 | some i => .int i
abbrev gk:=ce × Addr × V
abbrev iB (p:gk)(q:ce × Addr × Value):Prop:=p.1=q.1/\p.2.1=q.2.1/\RelV p.2.2 q.2.2
noncomputable def vy (P:Program)(w:World)(a:Addr)(kvs:List gk):Heap->Prop:=fun h=>kvs.length <= sizeLine/\(a == sysModules)=false/\∃ xs,Paired iB kvs xs /\
 ∃ o es ep,h.get? a=some o/\o.ExactDict/\o.data = .dict es ep/\es.toList=xs.map (entryOfKey (tupleKind (fq P w)))/\(xs.map (·.1)).Nodup
noncomputable def kZ (P:Program)(w:World)(a:Addr)(kvs:List gk):HO := .ext (vy P w a kvs)
noncomputable def wG (P:Program)(w:World)(H:Hp)(a:Addr)(kvs:List gk):Prop:=H a=some (kZ P w a kvs)/\∀ x ∈ kvs,H x.2.1=some (.tup (x.1.map qQ))
theorem wG.same {P:Program}{w:World}{H H':Hp}{a:Addr}{kvs:List gk}(h:wG P w H a kvs)(s:v5 H H'):wG P w H' a kvs:=⟨s _ _ h.1,fun x hx=>s _ _ (h.2 x hx)⟩
noncomputable def c7 (kvs:List gk)(k:ce):Option V:=(kvs.find? fun x=>decide (x.1=k)).map (·.2.2)
noncomputable def nP (k:ce)(v:V)(x:gk):gk:=if x.1=k then (x.1,x.2.1,v) else x
noncomputable def fJ (kvs:List gk)(k:ce)(b:Addr)(v:V):List gk:=if (c7 kvs k).isSome then kvs.map (nP k v) else kvs ++ [(k,b,v)]
theorem gH {k:ce}:c7 [] k=none:=rfl
theorem bL {x:gk}{kvs:List gk}{k:ce}:c7 (x :: kvs) k=if x.1=k then some x.2.2 else c7 kvs k:=by
 unfold c7
 rw[List.find?_cons]
 by_cases h:x.1=k
 ·rw[decide_eq_true h,if_pos h];rfl
 ·rw[decide_eq_false h,if_neg h]
theorem oK {kvs:List gk}{k k':ce}{v:V}:c7 (kvs.map (nP k v)) k' = if k' = k then (c7 kvs k).map (fun _=>v) else c7 kvs k':=by
 induction kvs with
 | nil=>rw[map_nil,gH,gH];split<;>rfl
 | cons x kvs ih =>
  rw[map_cons,bL,ih,bL,bL]
  unfold nP
  by_cases h:x.1=k<;>by_cases h':k' = k
  ·have:x.1=k':=h.trans h'.symm
   simp[h,h']
  ·have:¬ x.1=k':=fun z=>h' (z.symm.trans h)
   rw[if_pos h,if_neg h',if_neg this,if_neg this,if_neg h']
  ·subst h'
   simp[h]
  ·simp[h,h']
theorem jO {kvs:List gk}{k k':ce}{b:Addr}{v:V}(h:c7 kvs k=none):c7 (kvs ++ [(k,b,v)]) k' = if k' = k then some v else c7 kvs k':=by
 induction kvs with
 | nil =>
  rw[nil_append,bL,gH]
  by_cases e:k' = k
  ·rw[if_pos e,if_pos e.symm]
  ·rw[if_neg e,if_neg (Ne.symm e)]
 | cons x kvs ih =>
  rw[bL]at h
  by_cases hx:x.1=k
  ·rw[if_pos hx]at h;cases h
  ·rw[if_neg hx]at h
   rw[cons_append,bL,ih h,bL]
   by_cases e:k' = k
   ·subst e;rw[if_neg hx,if_pos rfl,if_pos rfl]
   ·rw[if_neg e,if_neg e]
theorem oJ {kvs:List gk}{k k':ce}{b:Addr}{v:V}:c7 (fJ kvs k b v) k' = if k' = k then some v else c7 kvs k':=by
 unfold fJ
 cases h:c7 kvs k with
 | none=>rw[if_neg (by simp)];exact jO h
 | some u =>
  rw[if_pos (by simp),oK,h];rfl
theorem fY {kvs:List gk}{k:ce}{b:Addr}{v:V}:(fJ kvs k b v).length <= kvs.length + 1:=by
 unfold fJ
 split
 ·rw[length_map];omega
 ·rw[length_append];exact le_refl _
theorem nO {kvs:List gk}{k:ce}{b:Addr}{v:V}{F:ce->Addr->Prop}(h:∀ x ∈ kvs,F x.1 x.2.1)(hk:F k b):∀ x ∈ fJ kvs k b v,F x.1 x.2.1:=by
 intro x hx
 unfold fJ at hx
 split at hx
 ·obtain⟨y,hy,rfl⟩:=mem_map.mp hx
  unfold nP
  split
  ·exact h y hy
  ·exact h y hy
 ·rcases mem_append.mp hx with q | q
  ·exact h x q
  ·rw[mem_singleton.mp q];exact hk
theorem nq {kvs:List gk}{xs:List (ce × Addr × Value)}(r:Paired iB kvs xs)(k:ce):wq (c7 kvs k) ((atKey xs k).map (·.2)):=by
 induction r with
 | nil=>exact True.intro
 | @cons p q _ _ h1 _ ih =>
  rw[bL]
  unfold atKey at ih ⊢
  rw[List.find?_cons]
  by_cases e:p.1=k
  ·rw[if_pos e,decide_eq_true (h1.1.symm.trans e)];exact h1.2.2
  ·rw[if_neg e,decide_eq_false (fun z=>e (h1.1.trans z))];exact ih
theorem fX {o:Option V}{u:Option Value}(r:wq o u):o.isSome=u.isSome:=by
 cases o<;>cases u<;>first | rfl | exact r.elim
theorem sr {kvs:List gk}{xs:List (ce × Addr × Value)}{k:ce}{v:V}{u:Value}(r:Paired iB kvs xs)(hv:RelV v u):Paired iB (kvs.map (nP k v)) (xs.map (putAt k u)):=by
 induction r with
 | nil=>exact .nil
 | @cons p q _ _ h1 _ ih =>
  refine .cons ?_ ih
  unfold nP putAt
  by_cases e:p.1=k
  ·rw[if_pos e,if_pos (h1.1.symm.trans e)];exact⟨h1.1,h1.2.1,hv⟩
  ·rw[if_neg e,if_neg (fun z=>e (h1.1.trans z))];exact h1
theorem q0 {kvs:List gk}{xs:List (ce × Addr × Value)}{p:gk}{q:ce × Addr × Value}(r:Paired iB kvs xs)(h:iB p q):Paired iB (kvs ++ [p]) (xs ++ [q]):=by
 induction r with
 | nil=>exact .cons h .nil
 | cons h1 _ ih=>exact .cons h1 ih
theorem so {kvs:List gk}{xs:List (ce × Addr × Value)}{k:ce}{b:Addr}{v:V}{u:Value}(r:Paired iB kvs xs)(hv:RelV v u):Paired iB (fJ kvs k b v) (storedH xs k b u):=by
 have h:=fX (nq r k)
 rw[Option.isSome_map]at h
 unfold fJ storedH
 rw[h]
 split
 ·exact sr r hv
 ·exact q0 r ⟨rfl,rfl,hv⟩
section
variable {P:Program}{w:World}{H:Hp}{h:Heap}{a b:Addr}{kvs:List gk}{k:ce}
theorem fL:∀ {k:ce}{us:List Value},Vals (k.map qQ) us->ItemsAre (fq P w) k us
 | [],_, .nil => .nil
 | none :: _,_, .cons r t => .cons (by have e:_=Value.none:=r;subst e;rfl) (fL t)
 | some i :: _,_, .cons r t => .cons (by obtain⟨tk,e⟩:=(show ∃ t,_=Value.int i t from r);subst e;exact beq_self_eq_true i) (fL t)
theorem j4 (ok:wt P w H h)(e:H b=some (.tup (k.map qQ))):(tupleKind (fq P w)).is h k b:=by
 obtain⟨_,vA,r,o,ho,⟨hc,n,hd⟩,_⟩:=ok _ _ e
 exact⟨o,vA.toArray,n,ho,hc,hd,fL r⟩
theorem nv (ok:wt P w H h)(e:wG P w H a kvs):kvs.length <= sizeLine/\(a == sysModules)=false/\∃ xs,Paired iB kvs xs/\h.DictOfH (tupleKind (fq P w)) a xs:=by
 obtain⟨e,ek⟩:=e
 obtain⟨⟨z,hs,xs,r,o,es,ep,h1,h2,h3,h4,h5⟩,_⟩:=ok _ _ e
 refine⟨z,hs,xs,r,o,es,ep,h1,h2,h3,h4,?_,h5⟩
 have all:∀ {kvs:List gk}{xs:List (ce × Addr × Value)},Paired iB kvs xs->(∀ x ∈ kvs,H x.2.1=some (.tup (x.1.map qQ)))->∀ x ∈ xs,(tupleKind (fq P w)).is h x.1 x.2.1:=by
  intro kvs xs r
  induction r with
  | nil=>intro _ x hx;cases hx
  | @cons p q _ _ h1 _ ih =>
   intro hk x hx
   rcases mem_cons.mp hx with rfl | hx
   ·have:=hk p mem_cons_self
    rw[h1.1,h1.2.1]at this
    exact j4 ok this
   ·exact ih (fun y hy=>hk y (mem_cons_of_mem _ hy)) x hx
 exact all r ek
theorem iY (h1 h2:Heap)(p:vy P w a kvs h1)(st:∀ o,h1.get? a=some o->h2.get? a=some o):vy P w a kvs h2:=by
 obtain⟨z,hs,xs,r,o,es,ep,q,c⟩:=p
 exact⟨z,hs,xs,r,o,es,ep,st _ q,c⟩
theorem qF (hb:sysModules < h.objs.size):vL P w H (h.push { cls := .type "dict",data := .dict #[] }) h.objs.size (kZ P w h.objs.size []) :=
 ⟨⟨zero_le _,beq_eq_false_iff_ne.mpr (Ne.symm (ne_of_lt hb)),[], .nil,_,#[],0,Heap.get?_push_size _ rfl,⟨rfl,rfl,rfl⟩,rfl,rfl,nodup_nil⟩,⟨_,Heap.get?_push_size _ rfl⟩,fun _ _=>iY _ _⟩
end
noncomputable def Dq (P:Program)(w:World)(H:Hp)(a:Addr)(y:V)(r:Option V):Prop:=∃ kvs k b,wG P w H a kvs/\y = .ref b/\H b=some (.tup (k.map qQ))/\r=c7 kvs k
section
variable {X:Cx}{pins:List (Addr × Obj)}{σ:St}{H:Hp}{s:Shared}{a b:Addr}{y v d:V}{u r:Value}{o:Option V}{A:Around}{E:Value->Shared->Prop}
theorem vo (I:Inv X pins σ H s):sysModules < s.heap.objs.size :=
 lt_trans (by decide) (show mainGlobals < s.heap.objs.size from (I.mod.glob.keeps I.bk).lt)
theorem Je {Q:Value->Shared->Prop}(hu:A.units + 1 < cLine)(I:Inv X pins σ H s)(g:Dq X.prog X.w H a y o)(ry:RelV y u)(h:∀ s',Inv X pins σ H s'->Q (.bool o.isSome) s') :
  wpAny (model X.prog X.w) A (compareOp .In u (.ref a)) Q E s:=by
 obtain⟨kvs,k,b,e,rfl,eb,rfl⟩:=g
 cases (show u=Value.ref b from ry)
 obtain⟨_,hd,xs,rel,dd⟩:=nv I.vD e
 refine wpAny_in_heap (tupleKind_room_in1 hu) (j4 I.vD eb) hd dd ?_
 have q:=fX (nq rel k)
 rw[Option.isSome_map]at q
 rw[← q]
 exact h _ (I.tok _)
theorem Dr {kvs:List gk}{k:ce}{Q:Unit->Shared->Prop}(hu:A.units + 1 < cLine)(I:Inv X pins σ H s)(e:wG X.prog X.w H a kvs)(eb:H b=some (.tup (k.map qQ)))(hl:kvs.length < sizeLine)(rv:RelV v r)
  (h:∀ s',Inv X pins σ (upd H a (kZ X.prog X.w a (fJ kvs k b v))) s'->Q () s'):wpAny (model X.prog X.w) A (setItem (.ref a) (.ref b) r) Q E s:=by
 obtain⟨z,hd,xs,rel,dd⟩:=nv I.vD e
 have hz:xs.length <= sizeLine:=by rw[← Paired.length rel];exact z
 have IK:(fJ kvs k b v).length <= sizeLine:=le_trans fY hl
 refine wpAny_setItem_heap (hsz:=hz) (tupleKind_room_in1 hu) (j4 I.vD eb) dd fun h' BW hs=>h _ ?_
 obtain⟨q,es,ep,hq,h2,h3,h4,_,h5⟩:=BW
 exact I.write (x:=a) (e:=a) (by rw[e.1];exact True.intro) (.inl rfl) (fun c q hc z=>(hs.2 c hc).trans z) ⟨q,hq⟩
  ⟨⟨IK,hd,_,so rel rv,q,es,ep,hq,h2,h3,h4,h5⟩,⟨q,hq⟩,fun _ _=>iY _ _⟩
end
noncomputable def sS (P:Program)(w:World):TE:=fun _ H Q=>∀ p,H p=none->Q (.ref p) (upd H p (kZ P w p []))
noncomputable def Jf (P:Program)(w:World)(ty td:TE):TE:=fun σ H Q=>ty σ H fun y H1=>td σ H1 fun x H2=>∃ a o,x = .ref a/\Dq P w H2 a y o/\Q (.bl o.isSome) H2
noncomputable def Ds (P:Program)(w:World)(td ty tv:TE):TS:=fun D σ H=>tv σ H fun v H1=>td σ H1 fun x H2=>ty σ H2 fun y H3=>∃ a kvs k b,x = .ref a/\wG P w H3 a kvs/\y = .ref b/\H3 b=some (.tup (k.map qQ))/\kvs.length < sizeLine/\D.nx σ (upd H3 a (kZ P w a (fJ kvs k b v)))
section
variable {X:Cx}{o i e f value:Expr}{pos pos' apos xj:Pos}{td ty tv tx:TE}
theorem r9:PE X (.Dict [] [] pos) (sS X.prog X.w):=fun pins s σ H Q I h =>
 wpAny_Dict_empty ⟨.ref s.heap.objs.size,_,I.laid (a:=s.heap.objs.size) (o:=kZ X.prog X.w s.heap.objs.size []) (t':=s.toks) (fun _ _ q=>Heap.get?_push_of_some _ q) (le_refl _) (qF (vo I)),rfl,h _ (I.vD.fresh (le_refl _))⟩
theorem uz (hu:X.A.units + 1 < cLine)(hi:PE X i ty)(ho:PE X o td):PC X .In i o (Jf X.prog X.w ty td):=by
 intro pins s σ H Q I h
 refine aN (hi pins s σ H _ I h) fun iv s1 ⟨y,H1,I1,ry,q1⟩=>aN (ho pins s1 σ H1 _ I1 q1) fun u s2 v9=>?_
 obtain⟨x,H2,I2,rx,a,ov,ex,g,q2⟩:=v9
 subst ex
 obtain rfl:u=Value.ref a:=rx
 exact Je hu I2 g ry fun s3 I3=>⟨.bl ov.isSome,H2,I3,rfl,q2⟩
theorem r6 (hu:X.A.units + 1 < cLine)(ho:PE X o td)(hi:PE X i ty)(hv:PE X value tv)(hs:swapsWith value (some (.Subscript o i pos')) pos.line X.env=pure false) :
  PS X (.Assign [.Subscript o i pos'] value pos) (Ds X.prog X.w td ty tv):=by
 intro pins s σ H D I h
 refine wpAny_Assign_Subscript (aN (hv pins s σ H _ I h) fun r s1 ⟨v,H1,I1,rv,q1⟩=>aN (ho pins s1 σ H1 _ I1 q1) fun u s2 ⟨x,H2,I2,rx,q2⟩=>aN (hi pins s2 σ H2 _ I2 q2) fun iv s3 v9=>?_) hs
 obtain⟨y,H3,I3,ry,a,kvs,k,b,ex,e,ey,eb,hl,q3⟩:=v9
 subst ex ey
 obtain rfl:u=Value.ref a:=rx
 obtain rfl:iv=Value.ref b:=ry
 exact Dr hu I3 e eb hl rv fun s4 I4=>⟨σ,_,I4,q3⟩
end
end L2
namespace L2
open PySem PySem.Spec PyProof.Rows
structure qP (K:Frag)(C:Addr)(m:Str)(f:Addr):Prop where
 reads:PySem.W.readsIn K C (.type "type")=true
 found:PySem.W.findCls K (.ref C) (.type "type") m=some (.val (.ref f))
 spec:PySem.W.specialIn K (.ref C) "__getattribute__" = some (some (.builtin "type.__getattribute__"))
 kp:keepIn K (.ref f)=true
noncomputable def tY (C:Addr)(sp:Sp)(wc:List V)(E:XK)(ta:TE)(t:TA):TE:=fun σ H Q=>ta σ H fun x H1=>x = .ref C/\t σ H1 fun vs H2=>sp (vs ++ wc) H2 Q E
section
variable {X:Cx}{CX:iH}{k:Nat}{f C:Addr}{fd:FuncData}{ps:List Str}{sp:Sp}{wc:List V}{ds:List Value}{E:XK}{x m:Str}{p pos apos:Pos}{e o:Expr}{es:List Expr}{ta:TE}{t:TA}
theorem km {pl:Sem Bool}(he:PE X o ta)(hm:qP X.K C m f)(F:v7 X.prog X.w X.K X.mg X.base CX k f fd ps sp)(hr:vE k X.A)(hb:Binds X.K fd ps ds)(hd:Vals wc ds)(hx:bZ CX X E)(ha:PA X (e :: es) t)
  (h1:starEach (e :: es) X.env=(false,eval e X.env) :: starEach es X.env:=by rfl) (h2:(backTo pos (starEach es X.env)).any (·.1)=false:=by rfl)
  (ht:eval (.Call (.Attribute o m apos) (e :: es) [] pos) X.env=(do
   let ov ← eval o X.env
   standAt apos.atName
   let (f,first) ← holding [ov] (getMethod ov m pl)
   callWith pos f first (backTo pos (starEach (e :: es) X.env)) (backToKw pos (keywordEach [] X.env))):=by rfl) :
  PE X (.Call (.Attribute o m apos) (e :: es) [] pos) (tY C sp wc E ta t):=by
 intro pins s σ H Q I h
 refine PySem.W.methodCall_KW (pl:=pl) (aN (he pins s σ H _ I h) fun u s1 v9=>?_) ht
 obtain⟨x,H1,I1,rx,ex,q⟩:=v9
 subst ex
 obtain rfl:u=Value.ref C:=rx
 refine PySem.W.method_cls I1.vY hm.spec (PySem.W.cls_value I1.vY hm.reads hm.found rfl ?_)
 refine PySem.W.callWith_K (first:=[]) (h₀:=X.base) I.ok.mod.xa hm.kp (aN (ha pos pins _ σ H1 _ (I1.tok _) q) fun us s2 ⟨vs,H2,I2,r,q2⟩=>⟨I2.vY,?_⟩) h1 h2
 exact gP F hr hb hd hx I2 r q2
end
section
variable {X:Cx}
end
end L2
namespace PySem
open Sem (wp)
open AutoSeq1 (wpAny_loadPart')
theorem dg (l:Addr)(items:Array Value)(n:Nat)(Jg:Option Addr)(sl:Array (Option Value)) :
  Meets (Builtin.«enumerate.__new__» ⟨[.type "enumerate", .ref l],[]⟩) (fun _ R s=>s.heap.get? l=some { cls := .type "tuple",dict:=Jg,data := .seq items n,slots:=sl } /\
   R (.ok (.ret (.ref (s.heap.push { cls := .type "tuple_iterator",data := .fields #[.ref l, .int 0 0] }).objs.size)))
    { s with heap:=(s.heap.push { cls := .type "tuple_iterator",data := .fields #[.ref l, .int 0 0] }).push { cls := .type "enumerate",data := .fields #[.none, .bool false, .ref s.heap.objs.size,rawInt 0, .none, .none] } }) :=
 .of_wp fun prog w A R s h=>by
  obtain⟨hp,g,d,tk,os⟩:=s;obtain⟨hl,h⟩:=h
  have hsub:=sub_enumerate
  have hL:Heap.IsTuple (Shared.heap ⟨hp,g,d,tk,os⟩) l items:=⟨_,hl,rfl,n,rfl⟩
  wp_walk using wpAny_loadPart' hl
  refine wpAny_stack_any fun st=>wpAny_pure ?_
  split
  ·rename_i c _ _ _ _ _
   cases (c == Value.type "enumerate")
   ·wp_walk using wpAny_loadPart' hl,wpAny_pyIter_tuple hL
    exact⟨_,rfl,h⟩
   ·wp_walk using wpAny_loadPart' hl,wpAny_pyIter_tuple hL
    exact⟨_,rfl,h⟩
  ·wp_walk using wpAny_loadPart' hl,wpAny_pyIter_tuple hL
   exact⟨_,rfl,h⟩
section
variable {prog:Program}{w:World}{A:Around}{E:Value->Shared->Prop}{s:Shared}
theorem dj {l:Addr}{items:Array Value}{Q:Value->Shared->Prop}(hL:s.heap.IsTuple l items)
  (h:∀ h',IsEnum h' (s.heap.objs.size + 1) s.heap.objs.size 0 .none->h'.IsTupleIter s.heap.objs.size l 0->h'.objs.size=s.heap.objs.size + 2 ->
   (∀ b o,s.heap.get? b=some o->h'.get? b=some o)->Q (.ref (s.heap.objs.size + 1)) { s with heap:=h' }) :
  wpAny (model prog w) A (call (.type "enumerate") [.ref l]) Q E s:=by
 obtain⟨⟨c,Jg,dt,sl⟩,hl,hc,n,hd⟩:=hL
 replace hc:c = .type "tuple":=hc
 replace hd:dt = .seq items n:=hd
 subst hc hd
 refine callType_new F.called_enumerate (by decide) (F.typeCall_enumerate_1 _) (F.newCall_enumerate_1 _) (fun obj=>F.args_object_init_2 obj _) F.entry_enumerate_new
  (dg l items n Jg sl) ⟨hl,?_⟩
 have hz:(s.heap.push { cls := .type "tuple_iterator",data := .fields #[.ref l, .int 0 0] }).objs.size=s.heap.objs.size + 1:=size_push ..
 show _/\_
 rw[hz]
 have he:IsEnum ((s.heap.push { cls := .type "tuple_iterator",data := .fields #[.ref l, .int 0 0] }).push
   { cls := .type "enumerate",data := .fields #[.none, .bool false, .ref s.heap.objs.size,rawInt 0, .none, .none] }) (s.heap.objs.size + 1) s.heap.objs.size 0 .none:=by
  have:=Heap.get?_push_size (s.heap.push { cls := .type "tuple_iterator",data := .fields #[.ref l, .int 0 0] })
   (o:={ cls := .type "enumerate",data := .fields #[.none, .bool false, .ref s.heap.objs.size,rawInt 0, .none, .none] }) rfl
  rw[hz]at this;exact this
 refine⟨⟨_,he,rfl⟩,h _ he ⟨_,Heap.get?_push_of_some _ (Heap.get?_push_size _ rfl),rfl,rfl⟩ (by rw[size_push,hz]) fun b o x=>Heap.get?_push_of_some _ (Heap.get?_push_of_some _ x)⟩
theorem e8 {it l:Addr}{i:Nat} {items} {x:Value} {Q:Value->Shared->Prop} (hit:s.heap.IsTupleIter it l i)
  (hl:s.heap.IsTuple l items) (hx:items[i]? = some x)
  (hQ:∀ h',h'.IsTupleIter it l (i + 1)->Heap.SameBut it s.heap h'->Q x { s with heap:=h' }) :
  wpAny (model prog w) A (Builtin.SmallTypes.nextOf (.ref it)) Q E s:=by
 obtain⟨o,ho,hc,hd⟩:=id hit
 obtain⟨ol,BX,_,nl,G7⟩:=hl
 unfold Builtin.SmallTypes.nextOf
 refine wpAny_bind (wpAny_callSpecial?_slot (name:=Str.ofString "__next__") hit.typeIs F.slot_tuple_iterator_next
  (wpAny_call_entry F.slot_tuple_iterator_next hit.typeIs F.entry_tuple_iterator_next ?_ (F.args_tuple_iterator_next_1 _)))
 show wpAny _ _ (field (.ref it) 0 >>= _) _ _ s
 refine wpAny_bind (wpAny_field ho hd (x := .ref l) rfl ?_)
 show wpAny _ _ (if (Value.ref l == Value.none)=true then _ else _) _ _ s
 rw[if_neg (show ¬ ((Value.ref l == Value.none)=true) from Bool.false_ne_true)]
 show wpAny _ _ (field (.ref it) 1 >>= _) _ _ s
 refine wpAny_bind (wpAny_field ho hd (x := .int i 0) rfl ?_)
 show wpAny _ _ (seqItems? (.ref l) >>= _) _ _ s
 refine wpAny_bind (wpAny_seqItems BX G7 ?_)
 simp only[toNat_natCast,hx]
 refine wpAny_bind (wpAny_setField ho hd (by simp) (wpAny_pure ⟨x,rfl,wpAny_pure (hQ _ ?_ (Heap.SameBut.update ..))⟩))
 exact⟨_,Heap.get?_update_self _ ho (Obj.isFreed_of_fields (Obj.data_mapFields hd _)),(Obj.cls_mapFields ..).trans hc,by
  rw[Obj.data_mapFields hd];simp[rawInt]⟩
theorem eI {it l:Addr}{i:Nat} {items} {Q:Value->Shared->Prop} (hh:A.handled=none)
  (hit:s.heap.IsTupleIter it l i) (hl:s.heap.IsTuple l items) (hx:items[i]? = none)
  (hE:∀ h' e,Heap.ExtBut it s.heap h'->(∃ o,h'.get? e=some o/\o.cls = .type "StopIteration")->E (.ref e) { s with heap:=h' }) :
  wpAny (model prog w) A (Builtin.SmallTypes.nextOf (.ref it)) Q E s:=by
 obtain⟨o,ho,hc,hd⟩:=id hit
 obtain⟨ol,BX,_,nl,G7⟩:=hl
 unfold Builtin.SmallTypes.nextOf
 refine wpAny_bind (wpAny_callSpecial?_slot (name:=Str.ofString "__next__") hit.typeIs F.slot_tuple_iterator_next
  (wpAny_call_entry F.slot_tuple_iterator_next hit.typeIs F.entry_tuple_iterator_next ?_ (F.args_tuple_iterator_next_1 _)))
 show wpAny _ _ (field (.ref it) 0 >>= _) _ _ s
 refine wpAny_bind (wpAny_field ho hd (x := .ref l) rfl ?_)
 show wpAny _ _ (if (Value.ref l == Value.none)=true then _ else _) _ _ s
 rw[if_neg (show ¬ ((Value.ref l == Value.none)=true) from Bool.false_ne_true)]
 show wpAny _ _ (field (.ref it) 1 >>= _) _ _ s
 refine wpAny_bind (wpAny_field ho hd (x := .int i 0) rfl ?_)
 show wpAny _ _ (seqItems? (.ref l) >>= _) _ _ s
 refine wpAny_bind (wpAny_seqItems BX G7 ?_)
 simp only[toNat_natCast,hx]
 refine wpAny_bind (wpAny_rule (wpAny_bind (wpAny_setField ho hd (by simp) ?_)))
 show wpAny _ _ (newExc (.type "StopIteration") [] >>= _) _ _ _
 refine wpAny_bind ?_
 simp only[newExc,newTuple]
 refine wpAny_bind (wpAny_newObj_type ?_ (by size_fits))
 refine wpAny_bind (m:=firstArgMember _ _) (wpAny_of_eq (a:=Value.none) (by first | rfl | (simp only[firstArgMember];rfl)) ?_)
 refine wpAny_newObj_type ?_ (by size_fits)
 simp only[raiseNew]
 refine wpAny_bind (wpAny_handled ?_)
 first | rw[show A.in1.handled=none from hh] | rw[hh]
 refine wpAny_bind (wpAny_pure (wpAny_throw ?_))
 exact hE _ _ (((Heap.SameBut.update ..).extBut.push _).push _) ⟨_,Heap.get?_push_size _ rfl,rfl⟩
end
theorem eE {prog:Program}{w:World}{A:Around}(hh:A.handled=none)(it l:Addr)(xx:l ≠ it)(items:Array Value) :
  Draws prog w A it [it,l] items.size (fun i v=>items[i]? = some v) (fun i h=>h.IsTupleIter it l i/\h.IsTuple l items) where
 live:=fun _ _ st=>let ⟨o,ho,_⟩:=st.1; ⟨o,ho⟩
 frame:=fun _ _ _ st hk=>⟨st.1.at fun o e=>hk it (by simp) o e,let ⟨o,ho,r⟩:=st.2; ⟨o,hk l (by simp) o ho,r⟩⟩
 item:=fun i s Q E hi st hQ=>by
  refine e8 st.1 st.2 (x:=items[i]) (by simp[hi]) fun h' Jh G8=>?_
  exact hQ _ h' s.toks (by simp[hi]) ⟨Jh,let ⟨o,ho,r⟩:=st.2; ⟨o,G8.extBut l o xx ho,r⟩⟩ G8
 done:=fun s Q E st hE=>eI hh st.1 st.2 (by simp) hE
end PySem
namespace L2
open PySem PySem.Spec PyProof.Rows
section
variable {X:Cx}{pins:List (Addr × Obj)}{σ:St}{H:Hp}{s:Shared}
theorem Inv.Bq {h':Heap}{t':Nat}{a b p:Addr}{xs:List V}{us:List Value}(I:Inv X pins σ H s)(fa:eB X pins H a)(fb:eB X pins H b)(hp:s.heap.objs.size <= p)
  (k:∀ c o,c ≠ a->c ≠ b->s.heap.get? c=some o->h'.get? c=some o) (ka:∃ o,h'.get? a=some o) (kb:∃ o,h'.get? b=some o) (hl:xs.length <= sizeLine) (r:Vals xs us) (ht:wH h' p us.toArray) :
  Inv X pins σ (upd H p (.tup xs)) { s with heap:=h',toks:=t' }:=by
 have hf:H p=none:=I.vD.fresh hp
 have nt:∀ c u,H c=some u->c ≠ p:=fun c u q z=>by rw[z,hf]at q;cases q
 have lt:∀ c o,s.heap.get? c=some o->c ≠ p:=fun c o q=>ne_of_lt (lt_of_lt_of_le (lt_size q) hp)
 have ne:∀ c,c ∉ [a,b]->c ≠ a/\c ≠ b:=fun c hc=>by simpa using hc
 refine I.call (g':=s.gens) (d':=s.drawn) (ch:=[a,b]) ⟨fun c o e n h1 h2=>k c o (ne c h2).1 (ne c h2).2 e,fun c o e n h1 h2=>⟨o.slots,k c o (ne c h2).1 (ne c h2).2 e⟩,fun c o e n h2=>by rw[ae (lt c o e)];exact n,
  fun c o e h2=>⟨o,k c o (ne c h2).1 (ne c h2).2 e⟩,fun c ys q=>by rw[ae (nt c _ q)];exact q,fun c o u q=>by rw[ae (nt c _ q)];exact q,fun c ps q=>⟨#[],by rw[ae (nt c _ q),q];simp⟩⟩ (fun c u q=>?_) I.bare fun c hc=>?_
 ·by_cases hc:c=p
  ·subst hc
   rw[vz]at q
   cases q
   exact⟨hl,us,r,ht⟩
  ·rw[ae hc]at q
   refine(I.vD c u q).wD (fun d v hd z=>?_) (fun d z=>by rw[ae (nt d _ z)];exact z) fun d ys z=>by rw[ae (nt d _ z)];exact z
   have nd:∀ e,H e=none->d ≠ e:=fun e he w=>by
    rcases hd with rfl | hd
    ·rw[w,he]at q;cases q
    ·rw[w,he]at hd;cases hd
   exact k d v (nd a fa.1) (nd b fb.1) z
 ·have BP:c=a∨c=b:=by simpa using hc
  rcases BP with rfl | rfl
  ·obtain⟨_,f1,_,f3,f4,f5⟩:=fa;exact⟨f3,f1,f4,f5⟩
  ·obtain⟨_,f1,_,f3,f4,f5⟩:=fb;exact⟨f3,f1,f4,f5⟩
theorem Inv.y6 {h':Heap}{t':Nat}{a b:Addr}(I:Inv X pins σ H s)(fa:eB X pins H a)(fb:eB X pins H b)
  (k:∀ c o,c ≠ a->c ≠ b->s.heap.get? c=some o->h'.get? c=some o):Inv X pins σ H { s with heap:=h',toks:=t' }:=by
 have ne:∀ c,c ∉ [a,b]->c ≠ a/\c ≠ b:=fun c hc=>by simpa using hc
 refine I.call (g':=s.gens) (d':=s.drawn) (ch:=[a,b]) ⟨fun c o e n h1 h2=>k c o (ne c h2).1 (ne c h2).2 e,fun c o e n h1 h2=>⟨o.slots,k c o (ne c h2).1 (ne c h2).2 e⟩,fun c o e n h2=>n,
  fun c o e h2=>⟨o,k c o (ne c h2).1 (ne c h2).2 e⟩,fun c ys q=>q,fun c o u q=>q,fun c ps q=>⟨#[],by rw[q];simp⟩⟩ (fun c u q=>?_) I.bare fun c hc=>?_
 ·refine(I.vD c u q).wD (fun d v hd z=>?_) (fun d z=>z) fun d ys z=>z
  have nd:∀ e,H e=none->d ≠ e:=fun e he w=>by
   rcases hd with rfl | hd
   ·rw[w,he]at q;cases q
   ·rw[w,he]at hd;cases hd
  exact k d v (nd a fa.1) (nd b fb.1) z
 ·have BP:c=a∨c=b:=by simpa using hc
  rcases BP with rfl | rfl
  ·obtain⟨_,f1,_,f3,f4,f5⟩:=fa;exact⟨f3,f1,f4,f5⟩
  ·obtain⟨_,f1,_,f3,f4,f5⟩:=fb;exact⟨f3,f1,f4,f5⟩
theorem iX {e it:Addr}{fp:List Addr}{n i:Nat}{P:Nat->Value->Prop}{Sx:Nat->Heap->Prop}{old:Value}{xs:List V}{E:Value->Shared->Prop}{elts:List Expr}{kk:Nat}{pos:Pos}
  (D:Draws X.prog X.w X.A.in1 it fp n P Sx) (I:Inv X pins σ H s) (he:IsEnum s.heap e it i old) (xJ:Sx i s.heap) (wA:i < n) (xx:e ≠ it) (MO:e ∉ fp) (fe:eB X pins H e) (fi:eB X pins H it)
  (hP:∀ v,P i v->∃ x,xs[i]? = some x/\RelV x v) :
  wpAny (model X.prog X.w) X.A (pyNext (.ref e)) (fun r s1=>∃ u,r=some u/\wpAny (model X.prog X.w) X.A (letOwnedTupleGo (.Tuple elts kk pos) (.ref e) u) (fun _ s2=>∃ p x,xs[i]? = some x/\H p=none/\u = .ref p /\
   Inv X pins σ (upd H p (.tup [.int i,x])) s2/\(∃ old,IsEnum s2.heap e it ((i + 1:Nat):Int) old)/\Sx (i + 1) s2.heap/\p ≠ e/\p ≠ it) E s1) E s:=by
 refine wpAny_pyNext_enum_itemD D he xJ wA xx MO fun x h' tk hx ho G8 hT hsz hk=>⟨_,rfl,?_⟩
 refine wpAny_letOwnedTupleGo_enum ho fun h2 yO zB=>?_
 obtain⟨y,hy,ry⟩:=hP x hx
 have MQ:e < s.heap.objs.size:=lt_size he
 have hie:it < s.heap.objs.size:=by obtain⟨_,z⟩:=D.live _ _ xJ;exact lt_size z
 have Dt:Sx (i + 1) h2:=D.frame _ _ _ G8 fun b hb o z=>(zB.2 b fun q=>MO (q ▸ hb)).trans z
 refine⟨s.heap.objs.size,y,hy,I.vD.fresh (le_refl _),rfl,?_,⟨x,by simpa using yO⟩,Dt,ne_of_gt MQ,ne_of_gt hie⟩
 refine Inv.Bq (s:=s) (h':=h2) (t':=tk + 1) I fe fi (le_refl _) (fun c o h1 h2' z=>(zB.2 c h1).trans (hk c o h1 h2' z)) ⟨_,yO⟩ (let ⟨o,z⟩:=D.live _ _ Dt; ⟨o,z⟩) (by show 2 <= sizeLine;decide) (us:=[.int i tk,x]) (.cons ⟨tk,rfl⟩ (.cons ry .nil)) ?_
 exact⟨_,(zB.2 _ (ne_of_gt MQ)).trans hT,⟨rfl,_,rfl⟩,rfl⟩
end
noncomputable def vx (sq:Hp->List V->Prop):It :=
 ⟨fun i H=>∃ xs x,sq H xs/\xs[i]? = some x,fun i H v H'=>∃ p,H p=none/\v = .ref p/\∀ xs,sq H xs->∃ x,xs[i]? = some x/\H' = upd H p (.tup [.int i,x]),fun i H=>∃ xs,sq H xs/\xs.length=i⟩
theorem lm {P:Program}{w:World}{K:Frag}{elts:List Expr}{kk:Nat}{pos:Pos}(a e it:Addr)(xx:e ≠ it):kX P w K (.Tuple elts kk pos) (vx fun H=>vG K H a) [e,it] e (fun i h=>(∃ old,IsEnum h e it (i:Int) old)/\h.IsListIter it a i) where
 mem:=by simp
 obj:=fun i h st b hb=>by
  obtain⟨⟨old,he⟩,o,ho,c,d⟩:=st
  have yg:b=e∨b=it:=by simpa using hb
  rcases yg with rfl | rfl
  ·exact⟨_,he,fun v z=>by have z':Data.fields _=Data.cell v:=z;cases z'⟩
  ·exact⟨o,ho,fun v z=>by rw[d]at z;cases z⟩
 keep:=fun i h h' st k=>by
  obtain⟨⟨old,he⟩,hi⟩:=st
  exact⟨⟨old,k e (by simp) _ he⟩,hi.at fun o z=>k it (by simp) o z⟩
 item:=by
  intro X hP hw hK hc i pins s σ H E I hf st hg
  subst hP hw hK
  obtain⟨xs,x,hq,hx⟩:=hg
  obtain⟨vA,rv,p,hz⟩:=I.list hq
  obtain⟨⟨old,he⟩,hi⟩:=st
  have hl:i < vA.toArray.size:=by
   have:=(List.getElem?_eq_some_iff.mp hx).1
   have l2:=rv.length
   simp;omega
  have G9:e ≠ a:=by
   rintro rfl
   obtain⟨o,ho,zi,_⟩:=p.isList
   rw[he]at ho;cases ho
   injection zi with z;exact absurd z (by decide)
  have Br:a ≠ it:=by
   rintro rfl
   obtain⟨o,ho,zi,_⟩:=p.isList
   obtain⟨o2,zj,yL,_⟩:=hi
   rw[ho]at zj;cases zj;rw[zi]at yL
   injection yL with z;exact absurd z (by decide)
  refine aN (iX (xs:=xs) (Draws.list (A:=X.A.in1) (I.ok.hd hc) it a Br vA.toArray) I he ⟨hi,p.isList⟩ hl xx (by simp only[mem_cons,not_mem_nil,or_false,not_or];exact⟨xx,G9⟩) (hf e (by simp)) (hf it (by simp)) fun v hv=>?_) fun r s1 ⟨u,hr,h1⟩=>⟨u,hr,aN h1 fun _ s2 ⟨q,y,hy,Ji,hu,I2,yO,zB,n1,n2⟩=>?_⟩
  ·obtain⟨u,hu,ru⟩:=rv.get hx
   have e1:vA[i]? = some v:=by simpa using hv
   rw[hu]at e1;cases e1
   exact⟨x,hx,ru⟩
  ·refine⟨.ref q,_,I2,hu,⟨q,Ji,rfl,fun zs Jj=>⟨y,by rw[I.xP Jj hq];exact hy,rfl⟩⟩,⟨yO,zB.1⟩,fun b hb=>?_⟩
   have yg:b=e∨b=it:=by simpa using hb
   rcases yg with rfl | rfl
   ·rw[ae (Ne.symm n1)];exact(hf b (by simp)).1
   ·rw[ae (Ne.symm n2)];exact(hf b (by simp)).1
 done:=by
  intro X hP hw hK hc i pins s σ H E I hf st hg
  subst hP hw hK
  obtain⟨xs,hq,hx⟩:=hg
  obtain⟨vA,rv,p,hz⟩:=I.list hq
  obtain⟨⟨old,he⟩,hi⟩:=st
  have hl:i=vA.toArray.size:=by have l2:=rv.length;simp;omega
  have Br:a ≠ it:=by
   rintro rfl
   obtain⟨o,ho,zi,_⟩:=p.isList
   obtain⟨o2,zj,yL,_⟩:=hi
   rw[ho]at zj;cases zj;rw[zi]at yL
   injection yL with z;exact absurd z (by decide)
  refine wpAny_pyNext_enum_endD (Draws.list (A:=X.A.in1) (I.ok.hd hc) it a Br vA.toArray) he (by rw[← hl];exact⟨hi,p.isList⟩) fun h' wV=>⟨rfl,?_⟩
  exact I.y6 (t':=s.toks) (hf e (by simp)) (hf it (by simp)) fun c o h1 h2 z=>wV c o h2 z
 self:=fun _ _ _ _ _ st h=>by
  obtain⟨⟨old,he⟩,_⟩:=st
  exact wpAny_pyIter_enum he h
theorem ll {P:Program}{w:World}{K:Frag}{elts:List Expr}{kk:Nat}{pos:Pos}(a e it:Addr)(xx:e ≠ it):kX P w K (.Tuple elts kk pos) (vx fun H=>vO K H a) [e,it] e (fun i h=>(∃ old,IsEnum h e it (i:Int) old)/\h.IsTupleIter it a i) where
 mem:=by simp
 obj:=fun i h st b hb=>by
  obtain⟨⟨old,he⟩,o,ho,c,d⟩:=st
  have yg:b=e∨b=it:=by simpa using hb
  rcases yg with rfl | rfl
  ·exact⟨_,he,fun v z=>by have z':Data.fields _=Data.cell v:=z;cases z'⟩
  ·exact⟨o,ho,fun v z=>by rw[d]at z;cases z⟩
 keep:=fun i h h' st k=>by
  obtain⟨⟨old,he⟩,hi⟩:=st
  exact⟨⟨old,k e (by simp) _ he⟩,hi.at fun o z=>k it (by simp) o z⟩
 item:=by
  intro X hP hw hK hc i pins s σ H E I hf st hg
  subst hP hw hK
  obtain⟨xs,x,hq,hx⟩:=hg
  obtain⟨vA,rv,p,hz⟩:=I.tuple hq
  have pt:s.heap.IsTuple a vA.toArray:=p
  obtain⟨⟨old,he⟩,hi⟩:=st
  have hl:i < vA.toArray.size:=by
   have:=(List.getElem?_eq_some_iff.mp hx).1
   have l2:=rv.length
   simp;omega
  have G9:e ≠ a:=by
   rintro rfl
   obtain⟨o,ho,zi,_⟩:=pt
   rw[he]at ho;cases ho
   injection zi with z;exact absurd z (by decide)
  have Br:a ≠ it:=by
   rintro rfl
   obtain⟨o,ho,zi,_⟩:=pt
   obtain⟨o2,zj,yL,_⟩:=hi
   rw[ho]at zj;cases zj;rw[zi]at yL
   injection yL with z;exact absurd z (by decide)
  refine aN (iX (xs:=xs) (eE (A:=X.A.in1) (I.ok.hd hc) it a Br vA.toArray) I he ⟨hi,pt⟩ hl xx (by simp only[mem_cons,not_mem_nil,or_false,not_or];exact⟨xx,G9⟩) (hf e (by simp)) (hf it (by simp)) fun v hv=>?_) fun r s1 ⟨u,hr,h1⟩=>⟨u,hr,aN h1 fun _ s2 ⟨q,y,hy,Ji,hu,I2,yO,zB,n1,n2⟩=>?_⟩
  ·obtain⟨u,hu,ru⟩:=rv.get hx
   have e1:vA[i]? = some v:=by simpa using hv
   rw[hu]at e1;cases e1
   exact⟨x,hx,ru⟩
  ·refine⟨.ref q,_,I2,hu,⟨q,Ji,rfl,fun zs Jj=>⟨y,by rw[I.xw Jj hq];exact hy,rfl⟩⟩,⟨yO,zB.1⟩,fun b hb=>?_⟩
   have yg:b=e∨b=it:=by simpa using hb
   rcases yg with rfl | rfl
   ·rw[ae (Ne.symm n1)];exact(hf b (by simp)).1
   ·rw[ae (Ne.symm n2)];exact(hf b (by simp)).1
 done:=by
  intro X hP hw hK hc i pins s σ H E I hf st hg
  subst hP hw hK
  obtain⟨xs,hq,hx⟩:=hg
  obtain⟨vA,rv,p,hz⟩:=I.tuple hq
  have pt:s.heap.IsTuple a vA.toArray:=p
  obtain⟨⟨old,he⟩,hi⟩:=st
  have hl:i=vA.toArray.size:=by have l2:=rv.length;simp;omega
  have Br:a ≠ it:=by
   rintro rfl
   obtain⟨o,ho,zi,_⟩:=pt
   obtain⟨o2,zj,yL,_⟩:=hi
   rw[ho]at zj;cases zj;rw[zi]at yL
   injection yL with z;exact absurd z (by decide)
  refine wpAny_pyNext_enum_endD (eE (A:=X.A.in1) (I.ok.hd hc) it a Br vA.toArray) he (by rw[← hl];exact⟨hi,pt⟩) fun h' wV=>⟨rfl,?_⟩
  exact I.y6 (t':=s.toks) (hf e (by simp)) (hf it (by simp)) fun c o h1 h2 z=>wV c o h2 z
 self:=fun _ _ _ _ _ st h=>by
  obtain⟨⟨old,he⟩,_⟩:=st
  exact wpAny_pyIter_enum he h
section
variable {X:Cx}{elts:List Expr}{kk:Nat}{yo p pos:Pos}{a:Expr}{ta:TE}
noncomputable def Jk (K:Frag)(t:TA):TI:=fun σ H R=>t σ H fun vs H1=>∃ a,vs=[.ref a]/\(∃ xs,vG K H1 a xs)/\R (vx fun H=>vG K H a) H1
noncomputable def Jl (K:Frag)(t:TA):TI:=fun σ H R=>t σ H fun vs H1=>∃ a,vs=[.ref a]/\(∃ xs,vO K H1 a xs)/\R (vx fun H=>vO K H a) H1
theorem fc {t:TA}(hg:Gl X "enumerate")(hm:X.mg "enumerate" = none)(ha:PA X [a] t)(hs:starEach [a] X.env=[(false,eval a X.env)]:=by rfl):PI X (.Tuple elts kk yo) (.Call (.Name "enumerate" p) [a] [] pos) (Jk X.K t):=by
 intro pins s σ H R I h
 refine Call_ (fQ I hg hm boot_enumerate (PyProof.Rows.callWith_type1 (aN (ha pos pins s σ H _ I h) fun us s1 v9=>?_) hs rfl))
 obtain⟨vs,H1,I1,r1,q1⟩:=v9
 obtain⟨l,e,⟨xs,hq⟩,q⟩:=q1
 subst e
 cases r1 with
 | cons r rr =>
  cases rr
  cases r
  obtain⟨vA,rv,pp,hz⟩:=I1.list hq
  refine call_enumerate_list pp.isList fun h' he hit hsz hk=>?_
  have I2:Inv X pins σ H1 { s1 with heap:=h' }:=I1.kept (t':=s1.toks) hk
  refine wpAny_pyIter_enum (s:={ s1 with heap:=h' }) he ?_
  refine⟨_,_,_,_,H1,rfl,I2,lm l _ s1.heap.objs.size (Nat.succ_ne_self _),⟨⟨_,he⟩,hit⟩,fun b hb=>?_,q⟩
  have yg:b=s1.heap.objs.size + 1∨b=s1.heap.objs.size:=by simpa using hb
  have hle:s1.heap.objs.size <= b:=by
   rcases yg with e | e
   ·rw[e];exact le_succ _
   ·rw[e];exact le_refl _
  exact I1.yF hle (I1.vD.fresh hle)
theorem kg {t:TA}(hg:Gl X "enumerate")(hm:X.mg "enumerate" = none)(ha:PA X [a] t)(hs:starEach [a] X.env=[(false,eval a X.env)]:=by rfl):PI X (.Tuple elts kk yo) (.Call (.Name "enumerate" p) [a] [] pos) (Jl X.K t):=by
 intro pins s σ H R I h
 refine Call_ (fQ I hg hm boot_enumerate (PyProof.Rows.callWith_type1 (aN (ha pos pins s σ H _ I h) fun us s1 v9=>?_) hs rfl))
 obtain⟨vs,H1,I1,r1,q1⟩:=v9
 obtain⟨l,e,⟨xs,hq⟩,q⟩:=q1
 subst e
 cases r1 with
 | cons r rr =>
  cases rr
  cases r
  obtain⟨vA,rv,pp,hz⟩:=I1.tuple hq
  refine dj (show s1.heap.IsTuple l vA.toArray from pp) fun h' he hit hsz hk=>?_
  have I2:Inv X pins σ H1 { s1 with heap:=h' }:=I1.kept (t':=s1.toks) hk
  refine wpAny_pyIter_enum (s:={ s1 with heap:=h' }) he ?_
  refine⟨_,_,_,_,H1,rfl,I2,ll l _ s1.heap.objs.size (Nat.succ_ne_self _),⟨⟨_,he⟩,hit⟩,fun b hb=>?_,q⟩
  have yg:b=s1.heap.objs.size + 1∨b=s1.heap.objs.size:=by simpa using hb
  have hle:s1.heap.objs.size <= b:=by
   rcases yg with e | e
   ·rw[e];exact le_succ _
   ·rw[e];exact le_refl _
  exact I1.yF hle (I1.vD.fresh hle)
end
theorem iq {sq:Hp->List V->Prop}{xs:List V}{g:TG}{tb:TS}{D:eC}{σ:St}{H:Hp}(Pv:Nat->St->Hp->Prop)(h0:Pv 0 σ H)(hl:∀ i σ H,i <= xs.length->Pv i σ H->sq H xs)
  (hs:∀ i x p σ H,xs[i]? = some x->Pv i σ H->H p=none->g (.ref p) σ (upd H p (.tup [.int i,x])) fun σ2 H2=>tb { D with nx:=Pv (i + 1),ct:=Pv (i + 1),bk:=D.nx } σ2 H2) (hd:∀ σ H,Pv xs.length σ H->D.nx σ H) :
  ∃ W:Nat->Nat->St->Hp->Prop,(∃ m,W 0 m σ H)/\∀ i m σ H,W i m σ H ->
   ((vx sq).stop i H/\D.nx σ H)∨((vx sq).go i H/\∃ N:St->Hp->Prop,(∀ σ' H',N σ' H'->∃ m',m' < m/\W (i + 1) m' σ' H')/\∀ x H',(vx sq).zy i H x H'->g x σ H' fun σ2 H2=>tb { D with nx:=N,ct:=N,bk:=D.nx } σ2 H2):=by
 refine⟨fun i m σ H=>m=xs.length - i/\i <= xs.length/\Pv i σ H,⟨xs.length,by simp,zero_le _,h0⟩,?_⟩
 rintro i m σ H ⟨rfl,hi,p⟩
 have q:=hl i σ H hi p
 by_cases wA:i < xs.length
 ·refine .inr ⟨⟨xs,xs[i],q,by simp[wA]⟩,Pv (i + 1),fun σ' H' p'=>⟨xs.length - (i + 1),by omega,rfl,wA,p'⟩,fun x H' y=>?_⟩
  obtain⟨pp,hn,rfl,hx⟩:=y
  obtain⟨x',wV,e⟩:=hx xs q
  subst e
  exact hs i x' pp σ H wV p hn
 ·have e:i=xs.length:=by omega
  subst e
  exact .inl ⟨⟨xs,q,rfl⟩,hd σ H p⟩
end L2
namespace L2
open PySem PySem.Spec PyProof.Rows
noncomputable def xZ (d:PyData)(m:Nat):Prop:=d.canLay0=true/\d.depth <= m
theorem xZ.shaped {d:PyData}{m:Nat}(h:xZ d m)(hm:m <= 64):SeqAt.shaped d=true:=by
 unfold SeqAt.shaped
 rw[h.1,decide_eq_true (le_trans h.2 hm)];rfl
theorem qW (i:Int):xZ (.int i) 0:=⟨by simp[PyData.canLay0],by simp[PyData.depth]⟩
theorem pb (b:Bool):xZ (.bool b) 0:=⟨by simp[PyData.canLay0],by simp[PyData.depth]⟩
theorem jw {m:Nat}:∀ {ds:List PyData},(∀ d ∈ ds,xZ d m)->PyData.canLayAll0 ds=true/\PyData.depthAll ds <= m
 | [],_=>⟨by simp[PyData.canLayAll0],by simp[PyData.depthAll]⟩
 | d :: r,h=>by
  obtain⟨a,b⟩:=jw (ds:=r) fun z hz=>h z (mem_cons_of_mem _ hz)
  obtain⟨c,e⟩:=h d mem_cons_self
  exact⟨by simp[PyData.canLayAll0,c,a],by simp only[PyData.depthAll];omega⟩
theorem jQ {m:Nat}{ds:List PyData}(h:∀ d ∈ ds,xZ d m):xZ (.list ds) (m + 1):=by
 obtain⟨a,b⟩:=jw h
 exact⟨by simp[PyData.canLay0,a],by simp only[PyData.depth];omega⟩
theorem nL {m:Nat}{ds:List PyData}(h:∀ d ∈ ds,xZ d m):xZ (.tuple ds) (m + 1):=by
 obtain⟨a,b⟩:=jw h
 exact⟨by simp[PyData.canLay0,a],by simp only[PyData.depth];omega⟩
theorem MS {K:Frag}{x y:V}{H:Hp}{Q:VK}{d:PyData}(h1:oG K H x d)(h2:oG K H y d)(s:xZ d 64)(q:Q (.bl true) H):Df K x y H Q :=
 ⟨d,d,h1,h2,s.shaped (le_refl _),s.shaped (le_refl _),by rw[SeqAt.eqv_refl d s.1];exact q⟩
theorem xZ.le {d:PyData}{m n:Nat}(h:xZ d m)(l:m <= n):xZ d n:=⟨h.1,le_trans h.2 l⟩
end L2
namespace L2
open PySem
theorem qJ {n:Nat}{lo:Int}{g:TG}{tt:TT}{te:TE}{σ0:St}{H:Hp}{Q:VK}(p:Nat->Bool)(f:Nat->V)(hn:n < sizeLine)
  (hs:∀ (i:Nat)(acc:List V)(N:List V->Hp->Prop),i < n->N (if p i then acc ++ [f i] else acc) H->g (.int (lo + i)) σ0 H fun σ2 H2=>tt σ2 H2 fun b H3=>if b=true then te σ2 H3 fun y H4=>N (acc ++ [y]) H4 else N acc H3)
  (hq:∀ D,H D=none->Q (.ref D) (upd H D (.lst (((List.range n).filter p).map f)))) :
  eh (tD lo n) g tt te σ0 Q H:=by
 refine⟨fun i m acc H'=>m=n - i/\i <= n/\H' = H/\acc=((List.range i).filter p).map f,⟨n,by simp,zero_le _,rfl,rfl⟩,?_⟩
 rintro i m acc H' ⟨rfl,hi,rfl,rfl⟩
 have hl:(((List.range i).filter p).map f).length < sizeLine:=by
  rw[length_map]
  have:=length_filter_le p (List.range i)
  rw[List.length_range]at this
  omega
 refine⟨hl,?_⟩
 by_cases wA:i < n
 ·refine .inr ⟨wA,fun wu H2=>H2=H'/\wu = ((List.range (i + 1)).filter p).map f,fun wu H2 v9=>by obtain⟨h1,h2⟩:=v9;exact⟨n - (i + 1),by omega,rfl,wA,h1,h2⟩,fun x H2 y=>?_⟩
  obtain⟨e,y⟩:=y
  subst e y
  refine hs i _ (fun wu H3=>H3=H2/\wu = ((List.range (i + 1)).filter p).map f) wA ⟨rfl,?_⟩
  rw[range_succ,filter_append]
  cases hp:p i with
  | true=>simp[hp]
  | false=>simp[hp]
 ·have e:i=n:=by omega
  subst e
  exact .inl ⟨le_refl _,hq⟩
theorem i3 {K:Frag}{a:Addr}{xs:List V}{g:TG}{tt:TT}{te:TE}{σ0:St}{H:Hp}{Q:VK}(p:V->Bool)(f:V->V)(hn:xs.length < sizeLine)(ha:vG K H a xs)
  (hs:∀ (x:V)(acc:List V)(N:List V->Hp->Prop),x ∈ xs->N (if p x then acc ++ [f x] else acc) H->g x σ0 H fun σ2 H2=>tt σ2 H2 fun b H3=>if b=true then te σ2 H3 fun y H4=>N (acc ++ [y]) H4 else N acc H3)
  (hq:∀ D,H D=none->Q (.ref D) (upd H D (.lst ((xs.filter p).map f)))) :
  eh (sL K a) g tt te σ0 Q H:=by
 refine⟨fun i m acc H'=>m=xs.length - i/\i <= xs.length/\H' = H/\acc=((xs.take i).filter p).map f,⟨xs.length,by simp,zero_le _,rfl,rfl⟩,?_⟩
 rintro i m acc H' ⟨rfl,hi,rfl,rfl⟩
 have hl:(((xs.take i).filter p).map f).length < sizeLine:=by
  rw[length_map]
  have h1:=length_filter_le p (xs.take i)
  have h2:=length_take_le i xs
  omega
 refine⟨hl,?_⟩
 by_cases wA:i < xs.length
 ·refine .inr ⟨⟨xs,xs[i],ha,by simp[wA]⟩,fun wu H2=>H2=H'/\wu = ((xs.take (i + 1)).filter p).map f,fun wu H2 v9=>by obtain⟨h1,h2⟩:=v9;exact⟨xs.length - (i + 1),by omega,rfl,wA,h1,h2⟩,fun x H2 y=>?_⟩
  obtain⟨e,y⟩:=y
  subst e
  have hx:=y xs ha
  refine hs x _ (fun wu H3=>H3=H2/\wu = ((xs.take (i + 1)).filter p).map f) (mem_of_getElem? hx) ⟨rfl,?_⟩
  rw[take_succ,hx,filter_append]
  cases hp:p x with
  | true=>simp[hp]
  | false=>simp[hp]
 ·have e:i=xs.length:=by omega
  subst e
  rw[take_length]
  exact .inl ⟨⟨xs,ha,le_refl _⟩,hq⟩
theorem nj (k:Int):∀ ns:List Int,BS (.int k) (ns.map V.int)=decide (k ∈ ns)
 | []=>by simp[BS]
 | n :: r=>by
  have ih:=nj k r
  unfold BS at ih ⊢
  rw[map_cons,any_cons,ih]
  show((n == k) || decide (k ∈ r))=decide (k ∈ n :: r)
  by_cases h:k=n
  ·subst h;simp
  ·have h':¬ n=k:=fun z=>h z.symm
   simp[h,h']
theorem iW:∀ ns:List Int,(ns.map V.int).all fv=true
 | []=>rfl
 | n :: r=>by rw[map_cons,all_cons,iW r];rfl
end L2
namespace L2
open PySem PySem.Spec PyProof.Rows
section
variable {κ:Type} [DecidableEq κ]
noncomputable def eJ (kvs:List (κ × V))(k:κ):Option V:=(kvs.find? fun kv=>decide (kv.1=k)).map (·.2)
noncomputable def dQ (kvs:List (κ × V))(k:κ)(v:V):List (κ × V) :=
 if (kvs.any fun kv=>decide (kv.1=k))=true then kvs.map (fun kv=>if kv.1=k then (kv.1,v) else kv) else kvs ++ [(k,v)]
theorem eO {p:κ × V}{r:List (κ × V)}{k:κ}(e:p.1=k):eJ (p :: r) k=some p.2:=by simp[eJ,List.find?_cons,e]
theorem eP {p:κ × V}{r:List (κ × V)}{k:κ}(e:¬ p.1=k):eJ (p :: r) k=eJ r k:=by simp[eJ,List.find?_cons,e]
theorem eQ (k:κ):∀ kvs:List (κ × V),(kvs.any fun kv=>decide (kv.1=k))=(eJ kvs k).isSome
 | []=>rfl
 | p :: r=>by
  rw[any_cons]
  by_cases e:p.1=k
  ·simp only[eO e,decide_eq_true e,Bool.true_or,Option.isSome_some]
  ·rw[eP e,decide_eq_false e,Bool.false_or];exact eQ k r
theorem gc (kvs:List (κ × V))(k:κ)(v:V):(dQ kvs k v).length <= kvs.length + 1:=by
 unfold dQ
 split
 ·rw[length_map];omega
 ·rw[length_append,length_cons,length_nil];omega
theorem p9 {kvs:List (κ × V)}{k:κ}(v:V)(h:eJ kvs k=none):dQ kvs k v=kvs ++ [(k,v)]:=by
 unfold dQ
 rw[eQ,h]
 exact if_neg (by decide)
theorem wq.wg {o:Option V}{u:Option Value}(r:wq o u):o.isSome=u.isSome:=by
 cases o with
 | none=>cases u with
  | none=>rfl
  | some _=>exact(show False from r).elim
 | some _=>cases u with
  | none=>exact(show False from r).elim
  | some _=>rfl
theorem KV.val {kvs:List (κ × V)}{vs:List (κ × Value)}(r:KV kvs vs)(k:κ):wq (eJ kvs k) (valueAt vs k):=by
 unfold KV at r
 induction r with
 | nil=>exact True.intro
 | @cons p q ps qs h t ih =>
  obtain⟨h1,h2⟩:=h
  by_cases e:p.1=k
  ·have e':q.1=k:=h1.symm.trans e
   have b:valueAt (q :: qs) k=some q.2:=by simp[valueAt,List.find?_cons,e']
   rw[eO e,b];exact h2
  ·have e':¬ q.1=k:=fun z=>e (h1.trans z)
   have b:valueAt (q :: qs) k=valueAt qs k:=by simp[valueAt,List.find?_cons,e']
   rw[eP e,b];exact ih
theorem KV.any {kvs:List (κ × V)}{vs:List (κ × Value)}(r:KV kvs vs)(k:κ):(kvs.any fun kv=>decide (kv.1=k))=vs.any fun kv=>decide (kv.1=k):=by
 unfold KV at r
 induction r with
 | nil=>rfl
 | cons h t ih=>rw[any_cons,any_cons,ih,h.1]
theorem KV.Bs {kvs:List (κ × V)}{vs:List (κ × Value)}(r:KV kvs vs)(k:κ){y:V}{u:Value}(ry:RelV y u) :
  KV (kvs.map fun kv=>if kv.1=k then (kv.1,y) else kv) (vs.map fun kv=>if kv.1=k then (kv.1,u) else kv):=by
 unfold KV at r ⊢
 induction r with
 | nil=>exact .nil
 | @cons p q ps qs h t ih =>
  rw[map_cons,map_cons]
  refine .cons ?_ ih
  obtain⟨h1,h2⟩:=h
  by_cases e:p.1=k
  ·rw[if_pos e,if_pos (h1.symm.trans e)];exact⟨h1,ry⟩
  ·rw[if_neg e,if_neg (fun z=>e (h1.trans z))];exact⟨h1,h2⟩
theorem KV.put {kvs:List (κ × V)}{vs:List (κ × Value)}(r:KV kvs vs)(k:κ){y:V}{u:Value}(ry:RelV y u):KV (dQ kvs k y) (stored vs k u):=by
 unfold dQ stored
 rw[r.any k]
 by_cases e:(vs.any fun kv=>decide (kv.1=k))=true
 ·rw[if_pos e,if_pos e];exact r.Bs k ry
 ·rw[if_neg e,if_neg e];exact Paired.snoc r ⟨rfl,ry⟩
theorem KV.keys {kvs:List (κ × V)}{vs:List (κ × Value)}(r:KV kvs vs):kvs.map (·.1)=vs.map (·.1):=by
 unfold KV at r
 induction r with
 | nil=>rfl
 | cons h t ih=>rw[map_cons,map_cons,ih,h.1]
theorem KV.length {kvs:List (κ × V)}{vs:List (κ × Value)}(r:KV kvs vs):kvs.length=vs.length:=Paired.length r
end
theorem na {P:Program}{w:World}{k:Key}{u:Value}(r:RelV (kV k) u):(bc P w).is k u=true:=by
 cases k with
 | inl i=>obtain⟨t,e⟩:=(show ∃ t,u=Value.int i t from r);subst e;exact kA P w i t
 | inr x=>obtain⟨t,e⟩:=(show ∃ t,u=Value.str x t from r);subst e;exact k9 P w x t
theorem iS {P:Program}{w:World}:∀ {ks:List Key}{us:List Value},Vals (ks.map kV) us->ItemsAre (bc P w) ks us
 | [],_,r=>by rw[map_nil]at r;cases r;exact .nil
 | k :: ks,_,r=>by
  rw[map_cons]at r
  cases r with
  | cons h t=>exact .cons (na h) (iS t)
abbrev KT (H:Hp):List (List Key × V)->List (List Key × Addr × Value)->Prop:=Paired fun p q=>p.1=q.1/\H q.2.1=some (.tup (p.1.map kV))/\RelV p.2 q.2.2
theorem KT.val {H:Hp}{kvs:List (List Key × V)}{xs:List (List Key × Addr × Value)}(r:KT H kvs xs)(k:List Key):wq (eJ kvs k) ((atKey xs k).map (·.2)):=by
 induction r with
 | nil=>exact True.intro
 | @cons p q ps qs h t ih =>
  obtain⟨h1,_,h2⟩:=h
  by_cases e:p.1=k
  ·have e':q.1=k:=h1.symm.trans e
   have b:atKey (q :: qs) k=some q.2:=by simp[atKey,List.find?_cons,e']
   rw[eO e,b];exact h2
  ·have e':¬ q.1=k:=fun z=>e (h1.trans z)
   have b:atKey (q :: qs) k=atKey qs k:=by simp[atKey,List.find?_cons,e']
   rw[eP e,b];exact ih
theorem KT.Bs {H:Hp}{kvs:List (List Key × V)}{xs:List (List Key × Addr × Value)}(r:KT H kvs xs)(k:List Key){y:V}{u:Value}(ry:RelV y u) :
  KT H (kvs.map fun kv=>if kv.1=k then (kv.1,y) else kv) (xs.map (putAt k u)):=by
 induction r with
 | nil=>exact .nil
 | @cons p q ps qs h t ih =>
  rw[map_cons,map_cons]
  refine .cons ?_ ih
  obtain⟨h1,h2,h3⟩:=h
  unfold putAt
  by_cases e:p.1=k
  ·rw[if_pos e,if_pos (h1.symm.trans e)];exact⟨h1,h2,ry⟩
  ·rw[if_neg e,if_neg (fun z=>e (h1.trans z))];exact⟨h1,h2,h3⟩
theorem KT.put {H:Hp}{kvs:List (List Key × V)}{xs:List (List Key × Addr × Value)}(r:KT H kvs xs)(k:List Key){b:Addr}{y:V}{u:Value}(hb:H b=some (.tup (k.map kV)))(ry:RelV y u) :
  KT H (dQ kvs k y) (storedH xs k b u):=by
 have e:(kvs.any fun kv=>decide (kv.1=k))=(atKey xs k).isSome:=by
  rw[eQ,(r.val k).wg,Option.isSome_map]
 unfold dQ storedH
 rw[e]
 by_cases q:(atKey xs k).isSome=true
 ·rw[if_pos q,if_pos q];exact r.Bs k ry
 ·rw[if_neg q,if_neg q];exact Paired.snoc r ⟨rfl,hb,ry⟩
theorem KT.keeps {H H':Hp}{kvs:List (List Key × V)}{xs:List (List Key × Addr × Value)}(r:KT H kvs xs)(ht:∀ b ys,H b=some (.tup ys)->H' b=some (.tup ys)):KT H' kvs xs :=
 Paired.AX r fun _ _ z=>⟨z.1,ht _ _ z.2.1,z.2.2⟩
section
variable {P:Program}{w:World}{H:Hp}{h:Heap}{a:Addr}
theorem sZ {u:HO}(ok:wt P w H h)(e:Rd H a u):vL P w H h a u:=e.ok ok
theorem nu {kvs:List (Key × V)}(ok:wt P w H h)(e:Rd H a (.dK kvs)):kvs.length <= sizeLine/\(a == sysModules)=false/\∃ vs,KV kvs vs/\h.DictOf (bc P w) a vs :=
 show vL P w H h a (.dK kvs) from sZ ok e
theorem Du {kvs:List (Key × V)}(ok:wt P w H h)(e:H a=some (.dK kvs)):kvs.length <= sizeLine/\(a == sysModules)=false/\∃ vs,KV kvs vs/\h.DictOf (bc P w) a vs:=nu ok (.inl e)
theorem jE {ks:List Key}(ok:wt P w H h)(e:H a=some (.tup (ks.map kV))):(tupleKind (bc P w)).is h ks a:=by
 obtain⟨_,vA,r,o,h1,⟨h2,n,h3⟩,_⟩:=(show vL P w H h a (.tup (ks.map kV)) from ok a _ e)
 exact⟨o,vA.toArray,n,h1,h2,h3,by simpa using iS r⟩
theorem qB {kvs:List (List Key × V)}(ok:wt P w H h)(e:Rd H a (.dT kvs)):kvs.length <= sizeLine/\(a == sysModules)=false /\
  ∃ xs,KT H kvs xs/\h.DictOfH (tupleKind (bc P w)) a xs:=by
 obtain⟨z,y,xs,r,o,es,ep,h1,h2,h3,h4,h5⟩:=(show vL P w H h a (.dT kvs) from sZ ok e)
 refine⟨z,y,xs,r,o,es,ep,h1,h2,h3,h4,fun x hx=>?_,h5⟩
 have all:∀ {l:List (List Key × V)}{m:List (List Key × Addr × Value)},KT H l m->∀ x ∈ m,(tupleKind (bc P w)).is h x.1 x.2.1:=by
  intro l m q
  induction q with
  | nil=>intro x hx;exact nomatch hx
  | @cons p q ps qs hq t ih =>
   intro x hx
   rcases mem_cons.mp hx with e | hx
   ·subst e
    exact jE ok (by rw[← hq.1];exact hq.2.1)
   ·exact ih x hx
 exact all r x hx
theorem Dv {kvs:List (List Key × V)}(ok:wt P w H h)(e:H a=some (.dT kvs)):kvs.length <= sizeLine/\(a == sysModules)=false /\
  ∃ xs,KT H kvs xs/\h.DictOfH (tupleKind (bc P w)) a xs:=qB ok (.inl e)
end
noncomputable def ya (H:Hp)(a:Addr)(y:V)(r:Option V):Prop :=
 (∃ kvs k,Rd H a (.dK kvs)/\y=kV k/\r=eJ kvs k)∨∃ kvs k b,Rd H a (.dT kvs)/\y = .ref b/\H b=some (.tup (k.map kV))/\r=eJ kvs k
noncomputable def yM (H:Hp)(a:Addr)(y v:V)(H':Hp):Prop :=
 (∃ kvs k,H a=some (.dK kvs)/\y=kV k/\kvs.length < sizeLine/\H' = upd H a (.dK (dQ kvs k v))) ∨
 ∃ kvs k b,H a=some (.dT kvs)/\y = .ref b/\H b=some (.tup (k.map kV))/\kvs.length < sizeLine/\H' = upd H a (.dT (dQ kvs k v))
theorem ya.k {H:Hp}{a:Addr}{kvs:List (Key × V)}{k:Key}(e:H a=some (.dK kvs)):ya H a (kV k) (eJ kvs k) := .inl ⟨kvs,k, .inl e,rfl,rfl⟩
theorem yM.k {H:Hp}{a:Addr}{kvs:List (Key × V)}{k:Key}{v:V}(e:H a=some (.dK kvs))(hl:kvs.length < sizeLine):yM H a (kV k) v (upd H a (.dK (dQ kvs k v))) := .inl ⟨kvs,k,e,rfl,hl,rfl⟩
section
variable {X:Cx}{pins:List (Addr × Obj)}{σ:St}{H:Hp}{s:Shared}{a:Addr}{y v:V}{u r:Value}{o:Option V}{A:Around}{E:Value->Shared->Prop}
theorem Inv.big (I:Inv X pins σ H s):sysModules < s.heap.objs.size:=by
 have h:mainGlobals < s.heap.objs.size:=(I.mod.glob.keeps I.bk).lt
 exact lt_trans (by decide) h
theorem Jm {Q:Value->Shared->Prop}(hu:A.units + 1 < cLine)(I:Inv X pins σ H s)(g:ya H a y o)(ry:RelV y u)(h:∀ s',Inv X pins σ H s'->Q (.bool o.isSome) s') :
  wpAny (model X.prog X.w) A (compareOp .In u (.ref a)) Q E s:=by
 rcases g with ⟨kvs,k,e,ey,l⟩ | ⟨kvs,k,b,e,ey,eb,l⟩
 ·subst ey
  obtain⟨z,hd,vs,rel,dd⟩:=nu I.vD e
  refine wpAny_in_of (na ry) hd dd.mapOf ?_
  rw[← (rel.val k).wg,← l]
  exact h _ (I.tok _)
 ·subst ey
  cases (show u=Value.ref b from ry)
  obtain⟨z,hd,xs,rel,dd⟩:=qB I.vD e
  refine wpAny_in_heap (tupleKind_room_in1 hu) (jE I.vD eb) hd dd ?_
  have q:=(rel.val k).wg
  rw[Option.isSome_map]at q
  rw[← q,← l]
  exact h _ (I.tok _)
theorem sy {Q:Value->Shared->Prop}(hu:A.units + 1 < cLine)(I:Inv X pins σ H s)(g:ya H a y o)(ry:RelV y u)(h:∀ s',Inv X pins σ H s'->Q (.bool (!o.isSome)) s') :
  wpAny (model X.prog X.w) A (compareOp .NotIn u (.ref a)) Q E s:=by
 rcases g with ⟨kvs,k,e,ey,l⟩ | ⟨kvs,k,b,e,ey,eb,l⟩
 ·subst ey
  obtain⟨z,hd,vs,rel,dd⟩:=nu I.vD e
  refine wpAny_notIn_of (na ry) hd dd.mapOf ?_
  rw[← (rel.val k).wg,← l]
  exact h _ (I.tok _)
 ·subst ey
  cases (show u=Value.ref b from ry)
  obtain⟨z,hd,xs,rel,dd⟩:=qB I.vD e
  refine wpAny_notIn_heap (tupleKind_room_in1 hu) (jE I.vD eb) hd dd ?_
  have q:=(rel.val k).wg
  rw[Option.isSome_map]at q
  rw[← q,← l]
  exact h _ (I.tok _)
theorem n9 {h':Heap}{t':Nat}{ob:HO}(I:Inv X pins σ H s)(mu:Cr (H a))(hs:Heap.SameBut a s.heap h')(he:∃ q,h'.get? a=some q)(new:vL X.prog X.w (upd H a ob) h' a ob) :
  Inv X pins σ (upd H a ob) { s with heap:=h',toks:=t' } :=
 I.write (x:=a) (e:=a) mu (.inl rfl) (fun b q hb z=>(hs.2 b hb).trans z) he new
theorem vc {P:Program}{w:World}{H':Hp}{h':Heap}{kvs:List (Key × V)}{vs:List (Key × Value)}(z:kvs.length <= sizeLine)(hd:(a == sysModules)=false)(rel:KV kvs vs)(dd:h'.DictOf (bc P w) a vs) :
  vL P w H' h' a (.dK kvs):=⟨z,hd,vs,rel,dd⟩
theorem oA {H':Hp}{Q:Unit->Shared->Prop}(hu:A.units + 1 < cLine)(I:Inv X pins σ H s)(g:yM H a y v H')(ry:RelV y u)(rv:RelV v r)(h:∀ s',Inv X pins σ H' s'->Q () s') :
  wpAny (model X.prog X.w) A (setItem (.ref a) u r) Q E s:=by
 rcases g with ⟨kvs,k,e,ey,l,eH⟩ | ⟨kvs,k,b,e,ey,eb,l,eH⟩
 ·subst ey eH
  obtain⟨z,hd,vs,rel,dd⟩:=Du I.vD e
  have hz:vs.length <= sizeLine:=by rw[← rel.length];exact z
  have hl:(dQ kvs k v).length <= sizeLine:=by have:=gc kvs k v;omega
  refine wpAny_setItem_pairs (hsz:=hz) (na ry) dd fun h' BW hs=>h _ ?_
  have he:∃ q,h'.get? a=some q:=let ⟨q,_,_,hq,_⟩:=BW; ⟨q,hq⟩
  exact n9 I (by rw[e];exact True.intro) hs he (vc hl hd (rel.put k rv) BW)
 ·subst ey eH
  cases (show u=Value.ref b from ry)
  obtain⟨z,hd,xs,rel,dd⟩:=Dv I.vD e
  have hz:xs.length <= sizeLine:=by rw[← Paired.length rel];exact z
  have hl:(dQ kvs k v).length <= sizeLine:=by have:=gc kvs k v;omega
  refine wpAny_setItem_heap (hsz:=hz) (tupleKind_room_in1 hu) (jE I.vD eb) dd fun h' BW hs=>h _ ?_
  obtain⟨q,es,ep,hq,h2,h3,h4,_,h5⟩:=BW
  refine n9 I (by rw[e];exact True.intro) hs ⟨q,hq⟩ ⟨hl,hd,_,(rel.put k eb rv).keeps fun c ys ec=>?_,q,es,ep,hq,h2,h3,h4,h5⟩
  rw[ae (bO ec e (fun z=>nomatch z))]
  exact ec
end
section
variable {X:Cx}{pins:List (Addr × Obj)}{σ:St}{H:Hp}{s:Shared}{a:Addr}{kvs:List (Key × V)}{k:Key}{u:Value}{A:Around}{E:Value->Shared->Prop}
end
noncomputable def Jn (ty td:TE):TE:=fun σ H Q=>ty σ H fun y H1=>td σ H1 fun x H2=>∃ a o,x = .ref a/\ya H2 a y o/\Q (.bl o.isSome) H2
noncomputable def qT (ty td:TE):TE:=fun σ H Q=>ty σ H fun y H1=>td σ H1 fun x H2=>∃ a o,x = .ref a/\ya H2 a y o/\Q (.bl (!o.isSome)) H2
noncomputable def Dw (td ty tv:TE):TS:=fun D σ H=>tv σ H fun v H1=>td σ H1 fun x H2=>ty σ H2 fun y H3=>∃ a H4,x = .ref a/\yM H3 a y v H4/\D.nx σ H4
section
variable {X:Cx}{o i e value:Expr}{pos pos' yo:Pos}{td ty tv:TE}
theorem u3 (hu:X.A.units + 1 < cLine)(hi:PE X i ty)(ho:PE X o td):PC X .In i o (Jn ty td):=by
 intro pins s σ H Q I h
 refine aN (hi pins s σ H _ I h) fun iv s1 ⟨y,H1,I1,ry,q1⟩=>aN (ho pins s1 σ H1 _ I1 q1) fun u s2 v9=>?_
 obtain⟨x,H2,I2,rx,a,ov,ex,g,q2⟩:=v9
 subst ex
 obtain rfl:u=Value.ref a:=rx
 exact Jm hu I2 g ry fun s3 I3=>⟨.bl ov.isSome,H2,I3,rfl,q2⟩
theorem nR (hu:X.A.units + 1 < cLine)(hi:PE X i ty)(ho:PE X o td):PC X .NotIn i o (qT ty td):=by
 intro pins s σ H Q I h
 refine aN (hi pins s σ H _ I h) fun iv s1 ⟨y,H1,I1,ry,q1⟩=>aN (ho pins s1 σ H1 _ I1 q1) fun u s2 v9=>?_
 obtain⟨x,H2,I2,rx,a,ov,ex,g,q2⟩:=v9
 subst ex
 obtain rfl:u=Value.ref a:=rx
 exact sy hu I2 g ry fun s3 I3=>⟨.bl (!ov.isSome),H2,I3,rfl,q2⟩
theorem mP (hu:X.A.units + 1 < cLine)(ho:PE X o td)(hi:PE X i ty)(hv:PE X value tv)(hs:swapsWith value (some (.Subscript o i pos')) pos.line X.env=pure false) :
  PS X (.Assign [.Subscript o i pos'] value pos) (Dw td ty tv):=by
 intro pins s σ H D I h
 refine wpAny_Assign_Subscript (aN (hv pins s σ H _ I h) fun r s1 ⟨v,H1,I1,rv,q1⟩=>aN (ho pins s1 σ H1 _ I1 q1) fun u s2 ⟨x,H2,I2,rx,q2⟩=>aN (hi pins s2 σ H2 _ I2 q2) fun iv s3 v9=>?_) hs
 obtain⟨y,H3,I3,ry,a,H4,ex,g,q3⟩:=v9
 subst ex
 obtain rfl:u=Value.ref a:=rx
 exact oA hu I3 g ry rv fun s4 I4=>⟨σ,H4,I4,q3⟩
end
theorem qC {P:Program}{w:World}{H:Hp}(h:Heap)(hb:sysModules < h.objs.size):vL P w H (h.push { cls := .type "dict",data := .dict #[] }) h.objs.size (.dK []) :=
 ⟨zero_le _,beq_eq_false_iff_ne.mpr (Ne.symm (ne_of_lt hb)),[], .nil,Heap.DictOf.new h⟩
noncomputable def tW:TE:=fun _ H Q=>∀ p,H p=none->Q (.ref p) (upd H p (.dK []))
section
variable {X:Cx}{pos:Pos}
theorem pI:PE X (.Dict [] [] pos) tW:=fun pins s σ H Q I h =>
 wpAny_Dict_empty ⟨.ref s.heap.objs.size,_,I.laid (a:=s.heap.objs.size) (o := .dK []) (t':=s.toks) (fun _ _ q=>Heap.get?_push_of_some _ q) (le_refl _) (qC s.heap I.big),rfl,h _ (I.vD.fresh (le_refl _))⟩
end
section
variable {X:Cx}{pins:List (Addr × Obj)}{σ:St}{H:Hp}{s:Shared}{a:Addr}{y d:V}{u r:Value}{o:Option V}{A:Around}{E:Value->Shared->Prop}
end
section
variable {X:Cx}{o e f:Expr}{apos xj:Pos}{td ty tx:TE}
end
section
variable {X:Cx}{pins:List (Addr × Obj)}{σ:St}{H:Hp}{s:Shared}{a:Addr}{kvs:List (Key × V)}{A:Around}{E:Value->Shared->Prop}
end
section
variable {X:Cx}{pins:List (Addr × Obj)}{σ:St}{H:Hp}{s:Shared}{a:Addr}{y:V}{u:Value}{A:Around}{E:Value->Shared->Prop}
end
end L2
namespace L2
open PySem PySem.Spec PyProof.Rows
section
variable {X:Cx}
end
section
variable {κ:Type} [DecidableEq κ]
end
end L2
namespace L2
open PySem PySem.Spec PyProof.Rows
theorem sf {P:Program}{w:World}{k:Key}{u:Value}(h:(bc P w).is k u=true):RelV (kV k) u:=by
 rcases aS (show ig k u=true from h) with ⟨i,t,rfl,rfl⟩ | ⟨x,t,rfl,rfl⟩
 ·exact⟨t,rfl⟩
 ·exact⟨t,rfl⟩
theorem m7:∀ {xs:List V}{us:List Value},xs.length=us.length->(∀ (i:Nat)(x:V)(u:Value),xs[i]? = some x->us[i]? = some u->RelV x u)->Vals xs us
 | [],[],_,_ => .nil
 | x :: xs,u :: us,hl,h => .cons (h 0 x u rfl rfl) (m7 (by simpa using hl) fun i x u hx hu=>h (i + 1) x u hx hu)
section
variable {X:Cx}{tg:Expr}
theorem i6 (hc:X.calm=true):cp X (.type "list") (fun xs H Q=>∃ a kvs,xs=[.ref a]/\Rd H a (.dK kvs)/\∀ l,H l=none->Q (.ref l) (upd H l (.lst (kvs.map fun p=>kV p.1)))):=by
 intro pins s σ H xs us Q I r h
 obtain⟨a,kvs,rfl,ha,q⟩:=h
 obtain⟨u,rfl,ru⟩:=r.one
 cases ru
 obtain⟨z,hd,vs,rel,o,es,ep,eo,d1,d2,d3,d4,d5⟩:=nu I.vD ha
 have hD:s.heap.DictAt (bc X.prog X.w) a vs ep:=⟨o,es,eo,d1,d2,d3,d4,d5⟩
 refine PySem.W.kdl_call (PySem.W.kdl_dict (knd:=bc X.prog X.w) (kvs:=vs) (ep:=ep) hd) (I.ok.hd hc) hD (by rw[← rel.length];exact z) fun h' tk acc c keep hl it=>?_
 have hv:Vals (kvs.map fun p=>kV p.1) acc.toList:=by
  refine m7 (by rw[length_map,rel.length];exact it.1.symm) fun i x u hx hu=>?_
  obtain⟨k,y,hk,hku⟩:=it.2 i u (by simpa using hu)
  have e1:(kvs.map (·.1))[i]? = some k:=by rw[rel.keys,List.getElem?_map,hk];rfl
  have e2:x=kV k:=by
   rw[List.getElem?_map]at hx e1
   cases MU:kvs[i]? with
   | none=>rw[MU]at e1;cases e1
   | some p =>
    rw[MU]at hx e1
    have e1:p.1=k:=Option.some.inj e1
    have hx:kV p.1=x:=Option.some.inj hx
    rw[← hx,e1]
  rw[e2]
  exact sf hku
 refine⟨.ref _,_,I.laid (a:=s.heap.objs.size) (o := .lst (kvs.map fun p=>kV p.1)) (t':=tk) (fun b q hq=>keep b q hq) (le_refl _) ⟨by rw[length_map];exact z,acc.toList,c,hv,by simpa using hl⟩,rfl,q _ (I.vD.fresh (le_refl _))⟩
end
end L2
namespace L2
open PySem
section
variable {X:Cx}
noncomputable def Dx (t:TS):TS:=fun D σ H=>∃ xp:St->Hp->Prop,t { D with nx:=xp } σ H/\∀ σ' H',xp σ' H'->D.nx σ' H'
theorem r0 {st:Stmt}{t:TS}(h:PS X st t):PS X st (Dx t):=fun pins s σ H D I ⟨xp,q,k⟩ =>
 aN (h pins s σ H _ I q) fun f s1 z=>by
  cases f with
  | next=>obtain⟨σ1,H1,I1,p⟩:=z;exact⟨σ1,H1,I1,k _ _ p⟩
  | brk=>exact z
  | cont=>exact z
  | ret u=>exact z
noncomputable def tT (t:TE):TE:=fun σ H Q=>∃ xp:V->Hp->Prop,t σ H xp/\∀ v H',xp v H'->Q v H'
theorem r8 {e:Expr}{t:TE}(h:PE X e t):PE X e (tT t):=fun pins s σ H Q I ⟨xp,q,k⟩ =>
 aN (h pins s σ H _ I q) fun u s1 v9=>by obtain⟨v,H1,I1,r,p⟩:=v9;exact⟨v,H1,I1,r,k v H1 p⟩
noncomputable def tS (t:TT):TT:=fun σ H Q=>∃ xp:Bool->Hp->Prop,t σ H xp/\∀ b H',xp b H'->Q b H'
theorem mK {e:Expr}{t:TT}(h:PT X e t):PT X e (tS t):=fun pins s σ H Q I ⟨xp,q,k⟩ =>
 aN (h pins s σ H _ I q) fun b s1 v9=>by obtain⟨H1,I1,p⟩:=v9;exact⟨H1,I1,k b H1 p⟩
end
end L2
namespace L2
open PySem PySem.Spec PyProof.Rows
section
variable {X:Cx}
end
end L2
namespace L2
open PySem PySem.Spec PyProof.Rows
section
variable {X:Cx}{tg:Expr}
noncomputable def Dy (K:Frag):List V->Hp->VK->Prop:=fun xs H Q=>∃ (v:V)(t:Value)(c:String)(b:Bool),xs=[v, .ty c]/\fV K H v t/\kitOne K t (.type c)=some b/\Q (.bl b) H
theorem dc:cp X (.builtin "isinstance") (Dy X.K):=by
 intro pins s σ H xs us Q I r h
 obtain⟨v,t,c,b,rfl,ty,hk,q⟩:=h
 cases r with
 | cons r1 r2=>cases r2 with
  | cons r2 r3 =>
   cases r3
   cases r2
   exact ou I r1 ty hk fun tk=>⟨.bl b,H,I.tok _,rfl,q⟩
end
end L2
namespace L2
open PySem PySem.Spec PyProof.Rows
structure yN (K:Frag)(x qual:Str)(st:Stmt)(f:Addr)(fd:FuncData):Prop where
 ex:∃ (oc:Value)(od:Option Addr)(dV kV doc pm:Value)(an:Option Addr)(cdv ct:Value)(xQ:Array (Option Value)),
  fd=fnOf x qual (bd st) (ax st) (ag st) dV kV doc pm an cdv ct/\K.lookup f=some ⟨oc,od, .func fd,xQ⟩/\codeIn K cdv qual=true
 kp:keepIn K (.ref f)=true
section
variable {P:Program}{w:World}{K:Frag}{mg:Str->Option Value}{base:Heap}
theorem yN.xY {b:Bool}{x qual:Str}{st:Stmt}{f:Addr}{fd:FuncData}{N ps:List Str}{k:Nat}{sp:Sp}(F:yN K x qual st f fd)(S:aj N ps (ag st))(len:∀ vs H Q E,sp vs H Q E->vs.length=ps.length)
  (wK:∀ (cdv:Value)(A:Around)(outer:List Env)(s:Shared)(H:Hp)(vs:List V)(Q:VK)(E:XK),vE k (A.deeper (envOfC qual (ag st) s.heap.objs.size f cdv))->sp vs H Q E ->
   ∃ t,xI (dZ (iG b P w) P w K mg base N qual (ag st) f cdv A outer s H E) (ax st) t/\t { nx:=fun _ H'=>Q .vJ H',rt:=Q } (start N vs) H):v7 P w K mg base (iG b P w) (k + 1) f fd ps sp:=by
 obtain⟨oc,od,dV,kV,doc,pm,an,cdv,ct,xQ,rfl,lk,xO⟩:=F.ex
 exact qy lk xO S len fun A outer s H vs Q E hr yp=>wK cdv A outer s H vs Q E hr yp
end
end L2
namespace L2
open PySem PySem.Spec PyProof.Rows PySem.Builtin.Str
theorem iI:∀ (l:List (Str × Tok)),Vals ((l.map (·.1)).map V.str) (strValues l)
 | [] => .nil
 | (x,t) :: l => .cons ⟨t,rfl⟩ (iI l)
section
variable {X:Cx}
noncomputable def ur:V->List V->Hp->VK->Prop:=fun x vs H Q=>∃ z y:Str,x = .str z/\vs=[.str y]/\(y.length == 0)=false/\z.length <= 4000000/\(Txt.split z y).length <= 1000000/\∀ D,H D=none->Q (.ref D) (upd H D (.lst ((Txt.split z y).map V.str)))
theorem k8:Ii X "str.split" ur:=by
 intro pins s σ H x vs v us Q I rx rv h
 obtain⟨z,y,rfl,rfl,hy,hz,hn,q⟩:=h
 obtain⟨t,rfl⟩:=rx
 obtain⟨u,rfl,ru⟩:=rv.one
 obtain⟨u',rfl⟩:=ru
 have hx:z.length <= sizeLine:=le_trans hz (by decide)
 have fin:∀ (l:List (Str × Tok))(k:Nat),l.map (·.1)=Txt.split z y->EP X pins σ Q (.ref s.heap.objs.size) { s with heap:=s.heap.push { cls := .type "list",data := .seq (strValues l).toArray },toks:=k }:=fun l k e =>
  ⟨.ref s.heap.objs.size,_,I.laid (t':=k) (fun b o' e'=>Heap.get?_push_of_some _ e') (le_refl _) (show vL X.prog X.w _ _ _ (.lst ((Txt.split z y).map V.str)) from ⟨by rw[length_map];exact le_trans hn (by decide),strValues l,_,by rw[← e];exact iI l,Heap.get?_push_size _ rfl⟩),rfl,q _ (I.vD.fresh (le_refl _))⟩
 cases h1:(decide (z.length < y.length) || decide (strKind z < strKind y))
 ·cases hf:(occurrences z y 0 z.length (z.length + 1)).isEmpty
  ·have e:Txt.split z y=partsBetween z (occurrences z y 0 z.length (z.length + 1)) y.length:=(if_neg (ne_true_of_eq_false h1)).trans (if_neg (ne_true_of_eq_false hf))
   refine call_meets F.slot_str_split (typeIs_str _ _ _) F.entry_str_split (F.args_str_split_2 _ _) (meets_str_split_sep z y t u' h1 hy hf hx (by rw[← e];exact le_trans hn (by decide))) ?_
   have:=fin (numbered s.toks (partsBetween z (occurrences z y 0 z.length (z.length + 1)) y.length)) (s.toks + (partsBetween z (occurrences z y 0 z.length (z.length + 1)) y.length).length) ((numbered_texts _ _).trans e.symm)
   rw[← strsFrom_eq]at this
   exact this
  ·exact call_meets F.slot_str_split (typeIs_str _ _ _) F.entry_str_split (F.args_str_split_2 _ _) (meets_str_split_not_found z y t u' h1 hy hf) (fin [(z,t)] s.toks ((if_neg (ne_true_of_eq_false h1)).trans (if_pos hf)).symm)
 ·exact call_meets F.slot_str_split (typeIs_str _ _ _) F.entry_str_split (F.args_str_split_2 _ _) (meets_str_split_cannot_occur z y t u' h1) (fin [(z,t)] s.toks (if_pos h1).symm)
theorem iF:cp X (.type "int") (fun xs H Q=>∃ (x:Str)(n:Int),xs=[.str x]/\PySem.intText? x=some n/\x.length <= 640/\Q (.int n) H):=by
 intro pins s σ H xs us Q I r h
 obtain⟨x,n,rfl,hn,hl,q⟩:=h
 obtain⟨u,rfl,t,rfl⟩:=gG r
 exact PySem.W.KIN.call_text hn hl ⟨.int n,H,I.tok _,⟨_,rfl⟩,q⟩
end
noncomputable def Jo (x:Str):It:=⟨fun i _=>i < x.cps.size,fun i H v H'=>H' = H/\∃ c,x.cps[i]? = some c/\v = .str ⟨#[c]⟩,fun i _=>x.cps.size <= i⟩
theorem oM {P:Program}{w:World}{K:Frag}{tg:Expr}(x:Str)(t:Tok)(it:Addr):kX P w K tg (Jo x) [it] it (fun i h=>h.IsStrIter it (strIterType x) x t i) where
 mem:=by simp
 obj:=fun i h st b hb=>by
  have e:b=it:=by simpa using hb
  subst e
  obtain⟨o,e,c,d⟩:=st
  exact⟨o,e,fun v z=>by rw[d]at z;cases z⟩
 keep:=fun i h h' st k=>by
  obtain⟨o,e,r⟩:=st
  exact⟨o,k it (by simp) o e,r⟩
 item:=by
  intro X hP hw hK hc i pins s σ H E I hf st hg
  subst hP hw hK
  have hx:x.cps[i]? = some x.cps[i]:=Array.getElem?_eq_getElem hg
  obtain⟨f0,f1,f2,f3,f4,f5⟩:=hf it (by simp)
  have go:∀ h',h'.IsStrIter it (strIterType x) x t (i + 1)->Heap.SameBut it s.heap h'->∃ u,(some (Value.str ⟨#[x.cps[i]]⟩ s.toks):Option Value)=some u/\wpAny (model X.prog X.w) X.A (letOwnedTupleGo tg (.ref it) u) (fun _ s2=>∃ v H2,Inv X pins σ H2 s2/\RelV v u/\(Jo x).zy i H v H2/\s2.heap.IsStrIter it (strIterType x) x t (i + 1)/\∀ b ∈ [it],H2 b=none) E { s with heap:=h',toks:=s.toks + 1 }:=fun h' ym sb=>by
   have I1:Inv X pins σ H { s with heap:=h',toks:=s.toks + 1 }:=I.turned (t':=s.toks + 1) (fun b o hb e=>(sb.2 b hb).trans e) f0 f1 f3 f4 f5
   obtain⟨o,e,c,d⟩:=id ym
   refine⟨_,rfl,nk (s:={ s with heap:=h',toks:=s.toks + 1 }) e c d ?_ ⟨.str ⟨#[x.cps[i]]⟩,H,I1,⟨_,rfl⟩,⟨rfl,_,hx,rfl⟩,ym,fun b hb=>(hf b hb).1⟩⟩
   unfold strIterType
   split<;>decide
  by_cases ha:x.cps.all (· < 128)=true
  ·have e:strIterType x = "str_ascii_iterator":=if_pos ha
   rw[e]at st
   exact wpAny_pyNext_ascii_item st hx fun h' ym sb=>go h' (by rw[e];exact ym) sb
  ·have e:strIterType x = "str_iterator":=if_neg ha
   rw[e]at st
   exact wpAny_pyNext_wide_item st hx fun h' ym sb=>go h' (by rw[e];exact ym) sb
 done:=by
  intro X hP hw hK hc i pins s σ H E I hf st hg
  subst hP hw hK
  have hx:x.cps[i]? = none:=Array.getElem?_eq_none hg
  obtain⟨f0,f1,f2,f3,f4,f5⟩:=hf it (by simp)
  by_cases ha:x.cps.all (· < 128)=true
  ·have e:strIterType x = "str_ascii_iterator":=if_pos ha
   rw[e]at st
   exact wpAny_pyNext_ascii_end (I.ok.hd hc) st hx fun h' eb=>⟨rfl,I.turned (t':=s.toks) (fun b o hb e=>eb b o hb e) f0 f1 f3 f4 f5⟩
  ·have e:strIterType x = "str_iterator":=if_neg ha
   rw[e]at st
   exact wpAny_pyNext_wide_end (I.ok.hd hc) st hx fun h' eb=>⟨rfl,I.turned (t':=s.toks) (fun b o hb e=>eb b o hb e) f0 f1 f3 f4 f5⟩
 self:=fun _ _ _ _ _ st h=>by
  by_cases ha:x.cps.all (· < 128)=true
  ·rw[show strIterType x = "str_ascii_iterator" from if_pos ha]at st
   exact wpAny_pyIter_striter_ascii st h
  ·rw[show strIterType x = "str_iterator" from if_neg ha]at st
   exact wpAny_pyIter_striter_wide st h
section
variable {X:Cx}{tg:Expr}
noncomputable def Jp (tl:TE):TI:=fun σ H R=>tl σ H fun x H1=>∃ z,x = .str z/\R (Jo z) H1
theorem uw {l:Expr}{tl:TE}(hl:PE X l tl):PI X tg l (Jp tl):=by
 intro pins s σ H R I h
 refine aN (hl pins s σ H _ I h) fun v s1 v9=>?_
 obtain⟨x,H1,I1,r1,q1⟩:=v9
 obtain⟨z,e,q⟩:=q1
 subst e
 obtain⟨t,rfl⟩:=r1
 refine wpAny_pyIter_strU ?_
 refine⟨s1.heap.objs.size,[s1.heap.objs.size],_,_,H1,rfl,I1.kept (t':=s1.toks) fun b o e=>Heap.get?_push_of_some _ e,oM z t _,⟨_,Heap.get?_push_size _ rfl,rfl,rfl⟩,fun b hb=>?_,q⟩
 have e:b=s1.heap.objs.size:=by simpa using hb
 subst e
 exact I1.yF (le_refl _) (I1.vD.fresh (le_refl _))
end
end L2
namespace L2
open PySem PySem.StrLaws PySem.Builtin PySem.Builtin.Str
noncomputable def ef (c:Nat):List Nat->List (List Nat)
 | []=>[[]]
 | a :: l=>if a=c then [] :: ef c l else match ef c l with
  | []=>[[a]]
  | p :: r=>(a :: p) :: r
noncomputable def kE (c:Nat):List (List Nat)->List Nat
 | []=>[]
 | [p]=>p
 | p :: q :: r=>p ++ c :: kE c (q :: r)
theorem i0 (c a:Nat)(l:List Nat):ef c (a :: l)=if a=c then [] :: ef c l else match ef c l with
  | []=>[[a]]
  | p :: r=>(a :: p) :: r:=rfl
theorem iy {c:Nat}:∀ {p:List Nat},c ∉ p->ef c p=[p]
 | [],_=>rfl
 | a :: p,h=>by
  unfold ef
  rw[if_neg (fun e=>h (by rw[e];exact mem_cons_self)),iy fun z=>h (mem_cons_of_mem _ z)]
theorem nA {c:Nat}(l:List Nat):∀ {p:List Nat},c ∉ p->ef c (p ++ c :: l)=p :: ef c l
 | [],_=>by
  show ef c (c :: l)=_
  rw[i0,if_pos rfl]
 | a :: p,h=>by
  show ef c (a :: (p ++ c :: l))=_
  rw[i0,if_neg (fun e=>h (by rw[e];exact mem_cons_self)),nA l fun z=>h (mem_cons_of_mem _ z)]
theorem kH {c:Nat}:∀ {ps:List (List Nat)},ps ≠ []->(∀ p ∈ ps,c ∉ p)->ef c (kE c ps)=ps
 | [],h,_=>absurd rfl h
 | [p],_,h=>iy (h p mem_cons_self)
 | p :: q :: r,_,h=>by
  show ef c (p ++ c :: kE c (q :: r))=_
  rw[nA _ (h p mem_cons_self),kH (List.cons_ne_nil _ _) fun x hx=>h x (mem_cons_of_mem _ hx)]
noncomputable def eZ (x:Str)(c a:Nat):List Nat:=(List.range' a (x.length - a)).filter fun i=>decide (x.cps.toList[i]? = some c)
theorem j7 (x:Str)(c limit:Nat):∀ (m a:Nat)(st:Array Nat × Nat),st.snd <= a->st.fst.size + m <= limit ->
  (forIn (List.range' a m) st (occBody x ⟨#[c]⟩ x.length limit)).run.fst.toList=st.fst.toList ++ (List.range' a m).filter fun i=>decide (x.cps.toList[i]? = some c)
 | 0,_,st,_,_=>by simp
 | m + 1,a,st,hs,hl=>by
  rw[List.range'_succ,forIn_cons]
  unfold occBody
  by_cases h:x.cps.toList[a]? = some c
  ·have h2:=(subAt_one x c a).mpr h
   rw[if_pos ⟨⟨⟨by omega,hs⟩,h2.1⟩,h2.2⟩,filter_cons,if_pos (decide_eq_true h)]
   have:=j7 x c limit m (a + 1) (st.fst.push a,a + (⟨#[c]⟩:Str).length) (le_refl _) (by rw[Array.size_push];omega)
   have e:(st.fst.push a).toList=st.fst.toList ++ [a]:=Array.toList_push
   rw[show((st.fst.push a,a + (⟨#[c]⟩:Str).length):Array Nat × Nat).fst.toList=st.fst.toList ++ [a] from e,append_assoc]at this
   exact this
  ·rw[if_neg (fun z=>h ((subAt_one x c a).mp ⟨z.1.2,z.2⟩)),filter_cons,if_neg (by rw[decide_eq_true_eq];exact h)]
   exact j7 x c limit m (a + 1) (st.fst,st.snd) (Nat.le_succ_of_le hs) (by show st.fst.size + m <= limit;omega)
theorem mW (x:Str)(c:Nat):occurrences x ⟨#[c]⟩ 0 x.length (x.length + 1)=eZ x c 0:=by
 rw[occ_eq,j7 x c _ _ 0 (#[],0) (le_refl _) (by show 0 + (x.length + 1 - 0) <= _;omega)]
 unfold eZ
 show [] ++ _=_
 rw[nil_append,show x.length + 1 - 0=x.length - 0 + 1 by omega,List.range'_concat,filter_append]
 have:x.cps.toList[0 + 1 * (x.length - 0)]? = none:=List.getElem?_eq_none (by rw[Array.length_toList];show x.cps.size <= _;rw[show 0 + 1 * (x.length - 0)=x.cps.size by show 0 + 1 * (x.cps.size - 0)=_;omega];exact le_refl _)
 rw[filter_cons,if_neg (by rw[this,decide_eq_true_eq];exact fun z=>by cases z)]
 simp
theorem eR (x:Str)(a b:Nat):(strSub x a b).cps.toList=(x.cps.toList.take b).drop a:=by
 show(x.cps.extract a b).toList=_
 rw[Array.toList_extract,List.extract_eq_drop_take,List.take_drop]
 by_cases h:a <= b
 ·rw[show a + (b - a)=b by omega]
 ·rw[show b - a=0 by omega,Nat.add_zero,drop_eq_nil_of_le (by rw[length_take];omega),drop_eq_nil_of_le (by rw[length_take];omega)]
theorem ku (x:Str)(c:Nat):∀ (k a:Nat),a + k=x.length->(partsFrom x 1 a (eZ x c a)).map (fun s=>s.cps.toList)=ef c (x.cps.toList.drop a)
 | 0,a,h=>by
  have e:eZ x c a=[]:=by unfold eZ;rw[show x.length - a=0 by omega];rfl
  rw[e]
  show [(strSub x a x.length).cps.toList]=_
  rw[eR,drop_eq_nil_of_le (by rw[length_take];omega),drop_eq_nil_of_le (by rw[Array.length_toList];show x.length <= a;omega)]
  rfl
 | k + 1,a,h=>by
  have ha:a < x.cps.toList.length:=by rw[Array.length_toList];show a < x.length;omega
  have ed:x.cps.toList.drop a=x.cps.toList[a] :: x.cps.toList.drop (a + 1):=List.drop_eq_getElem_cons ha
  have ih:=ku x c k (a + 1) (by omega)
  have ep:eZ x c a=if x.cps.toList[a]=c then a :: eZ x c (a + 1) else eZ x c (a + 1):=by
   unfold eZ
   rw[show x.length - a=(x.length - (a + 1)) + 1 by omega,List.range'_succ,filter_cons,List.getElem?_eq_getElem ha]
   by_cases e:x.cps.toList[a]=c
   ·rw[if_pos e,if_pos (decide_eq_true (congrArg some e))]
   ·rw[if_neg e,if_neg (by rw[decide_eq_true_eq];exact fun z=>e (Option.some.inj z))]
  rw[ed,ep,i0]
  by_cases e:x.cps.toList[a]=c
  ·rw[if_pos e,if_pos e,← ih]
   show(strSub x a a).cps.toList :: _=_
   rw[eR,drop_eq_nil_of_le (by rw[length_take];omega)]
  ·rw[if_neg e,if_neg e,← ih]
   have hge:∀ i ∈ eZ x c (a + 1),a + 1 <= i:=fun i hi=>by
    have:=List.mem_range'_1.mp (mem_filter.mp hi).1
    omega
   have hd:∀ b,a + 1 <= b->(strSub x a b).cps.toList=x.cps.toList[a] :: (strSub x (a + 1) b).cps.toList:=fun b hb=>by
    rw[eR,eR,List.drop_eq_getElem_cons (by rw[length_take];omega),List.getElem_take]
   cases hp:eZ x c (a + 1) with
   | nil =>
    show [(strSub x a x.length).cps.toList]=[x.cps.toList[a] :: (strSub x (a + 1) x.length).cps.toList]
    rw[hd _ (by omega)]
   | cons i r =>
    show(strSub x a i).cps.toList :: _=(x.cps.toList[a] :: (strSub x (a + 1) i).cps.toList) :: _
    rw[hd i (hge i (by rw[hp];exact mem_cons_self))]
theorem nJ (x:Str){c:Nat}(Bt:c < 256):(Txt.split x ⟨#[c]⟩).map (fun s=>s.cps.toList)=ef c x.cps.toList:=by
 have main:∀ h:eZ x c 0=eZ x c 0,(partsFrom x 1 0 (eZ x c 0)).map (fun s=>s.cps.toList)=ef c x.cps.toList:=fun _=>by
  have:=ku x c x.length 0 (by omega)
  rw[List.drop_zero]at this
  exact this
 have Dz:c ∉ x.cps.toList->ef c x.cps.toList=[x.cps.toList]:=fun h=>iy h
 unfold Txt.split
 split
 ·rename_i h
  by_cases hc:c ∈ x.cps.toList
  ·exfalso
   rw[Bool.or_eq_true,decide_eq_true_eq,decide_eq_true_eq]at h
   rcases h with h | h
   ·have h:x.cps.size < 1:=h
    have:=List.length_pos_of_mem hc
    rw[Array.length_toList]at this
    omega
   ·have e:PySem.Builtin.Str.strKind ⟨#[c]⟩ = 1:=by
     unfold PySem.Builtin.Str.strKind
     rw[if_pos]
     simp[Bt]
    rw[e]at h
    unfold PySem.Builtin.Str.strKind at h
    split at h
    ·omega
    ·split at h<;>omega
  ·rw[Dz hc];rfl
 ·split
  ·rename_i h
   rw[mW,List.isEmpty_iff]at h
   have:=main rfl
   rw[h]at this
   rw[← this]
   show [x.cps.toList]=[(strSub x 0 x.length).cps.toList]
   rw[sub_whole]
  ·rw[partsBetween_eq,mW]
   exact main rfl
theorem e7 (c:Nat):∀ ys:List Str,(Str.join ⟨#[c]⟩ ys).cps.toList=kE c (ys.map fun s=>s.cps.toList)
 | []=>rfl
 | [y]=>rfl
 | y :: z :: r=>by
  show(y ++ ⟨#[c]⟩ ++ Str.join ⟨#[c]⟩ (z :: r)).cps.toList=y.cps.toList ++ c :: kE c ((z :: r).map fun s=>s.cps.toList)
  rw[← e7 c (z :: r)]
  show((y.cps ++ #[c]) ++ (Str.join ⟨#[c]⟩ (z :: r)).cps).toList=_
  rw[Array.toList_append,Array.toList_append,append_assoc]
  rfl
theorem gI {c:Nat}(Bt:c < 256){ys:List Str}(xx:ys ≠ [])(hf:∀ y ∈ ys,c ∉ y.cps.toList):Txt.split (Txt.join ⟨#[c]⟩ ys) ⟨#[c]⟩ = ys:=by
 have h1:=nJ (Txt.join ⟨#[c]⟩ ys) Bt
 have e:(Txt.join ⟨#[c]⟩ ys)=Str.join ⟨#[c]⟩ ys:=StrLaws.glued_eq_join _ _
 rw[e,e7,kH (fun z=>xx (List.map_eq_nil_iff.mp z)) (fun p hp=>by obtain⟨y,hy,rfl⟩:=mem_map.mp hp;exact hf y hy)]at h1
 rw[e]
 refine(List.map_inj_right fun a b h=>?_).mp h1
 cases a;cases b
 exact congrArg Str.mk (Array.toList_inj.mp h)
end L2
namespace L2
open PySem PySem.Spec PyProof.Rows PySem.Builtin.Str
section
variable {X:Cx}
end
end L2
namespace L2
open PySem PySem.Calls PySem.NumText PyProof.Rows PySem.W.KIN
noncomputable def b9 (m:Nat):Str:=Str.ofString (toString ((m:Nat):Int))
theorem cr (m:Nat):∀ c ∈ (b9 m).cps.toList,48 <= c/\c <= 57:=by
 intro c hc
 unfold b9 at hc
 rw[signs_num]at hc
 obtain⟨ch,w6,e⟩:=mem_map.mp hc
 have r:=digit_range (Nat.isDigit_of_mem_toDigits (by decide) (by decide) w6)
 rw[← e]
 exact r
theorem j8 (m:Nat):(b9 m).cps.toList ≠ []:=by
 unfold b9
 rw[signs_num]
 intro e
 have h:=toDigits_len_ge 10 m
 rw[List.map_eq_nil_iff.mp e]at h
 exact absurd h (by decide)
theorem lO {m:Nat}(hl:(b9 m).length <= 640):PySem.intText? (b9 m)=some (m:Int):=by
 have e:=intText_digits (x:=b9 m) (cr m) (j8 m) (le_trans hl (by decide))
 unfold b9 at e ⊢
 rw[signs_num,val_back]at e
 exact e
theorem dW {m k:Nat}(hk:0 < k)(h:m < 10 ^ k):(b9 m).length <= k:=toString_length_le (by omega) hk (by exact_mod_cast h)
theorem rV {m c:Nat}(h:c < 48∨57 < c):c ∉ (b9 m).cps.toList:=fun z=>by have:=cr m c z;omega
end L2
namespace L2
open PySem PySem.Spec PyProof.Rows
section
variable {X:Cx}{pins:List (Addr × Obj)}{σ:St}{H:Hp}{s:Shared}{ea:Addr}{oe:Obj}
theorem Inv.D5 (I:Inv X pins σ H s)(hp:X.base.get? ea=some oe){C:Addr}(hc:oe.cls = .ref C){vs:Array Value}(hd:oe.data = .fields vs)(w4:DictAt H oe.dict):∃ od,PySem.W.InstAt s.heap ea oe C od:=by
 have h1:=I.bk _ _ hp
 have hn:PySem.W.notCls oe=true:=by
  obtain⟨c,d,dt,sl⟩:=oe
  dsimp only at hd
  subst hd
  rfl
 cases hq:oe.dict with
 | none=>exact⟨none,h1,hc,hn,by rw[hq];trivial⟩
 | some d =>
  rw[hq]at w4
  obtain⟨fs,hf⟩:=w4
  obtain⟨ob,ho⟩:=I.vD.at hf
  exact⟨some ob,h1,hc,hn,by rw[hq];exact ho⟩
noncomputable def Jq (X:Cx):List V->Hp->VK->Prop:=fun xs H Q=>∃ ea oe c cv C vs b,xs=[.ref ea,c]/\vq c cv/\X.base.get? ea=some oe/\oe.cls = .ref C/\oe.data = .fields vs/\DictAt H oe.dict/\dH X.K C/\qN X.K C/\kitOne X.K (.ref C) cv=some b/\Q (.bl b) H
theorem be:cp X (.builtin "isinstance") (Jq X):=by
 intro pins s σ H xs us Q I r h
 obtain⟨ea,oe,c,cv,C,vs,b,rfl,rc,hp,hc,hd,w4,xc,xi,hk,q⟩:=h
 cases r with
 | cons r1 r2 =>
  cases r2 with
  | cons r2 r3 =>
   cases r3
   cases r1
   have e:=jP r2 rc
   subst e
   obtain⟨od,J⟩:=I.D5 hp hc hd w4
   exact PySem.W.kia_one (kB (ox:=oe) xc xi) I.vY ⟨od,J⟩ hk (by intro z;cases z) fun tk=>⟨.bl b,H,I.tok _,rfl,q⟩
end
end L2
namespace L2
open PySem PySem.Spec PyProof.Rows
section
variable {X:Cx}{pins q:List (Addr × Obj)}{σ:St}{H:Hp}{s:Shared}
end
structure MV (X:Cx)(cs:List (Nat × Str))(fvs:List V)(vP:Heap):Prop where
 xa:X.K.In vP
 ns:vP.Ns mainGlobals X.mg
 base:∀ b o,X.base.get? b=some o->vP.get? b=some o
 pn:∀ p ∈ X.pn,vP.get? p.1=some p.2
 cell:Paired (fun (q:Nat × Str)(v:V)=>∃ c u,X.env.cells.lookup q.2=some c/\RelV v u/\vP.IsCell c (some u)) cs fvs
 inj:∀ x y c,X.env.cells.lookup x=some c->X.env.cells.lookup y=some c->x=y
theorem kF {h base vP:Heap}:∀ {l:List Env},(∀ b ∈ gh l,vP.get? b=none)->h.FunFrames base l->h.FunFrames vP l
 | [],_,_=>trivial
 | env :: r,k,⟨hk,⟨L,o,hf,hn,ho,hd⟩,hr⟩=>⟨hk,⟨L,o,hf,k L (by unfold gh;rw[filterMap_cons,hf];exact mem_cons_self),ho,hd⟩,kF (fun b hb=>k b (by unfold gh;rw[filterMap_cons,hf];exact mem_cons_of_mem _ hb)) hr⟩
noncomputable def dY (X:Cx)(cs:List (Nat × Str))(b:Addr):Bool:=(X.base.get? b).isSome || (X.pn.map (·.1)).contains b || cs.any fun q=>X.env.cells.lookup q.2 == some b
noncomputable def gj (X:Cx)(cs:List (Nat × Str))(h:Heap):Heap:=PySem.W.hideAll h ((List.range h.objs.size).filter fun b=>!dY X cs b)
theorem jK {X:Cx}{cs:List (Nat × Str)}{h:Heap}{b:Addr}{o:Obj}(e:h.get? b=some o)(k:dY X cs b=true):(gj X cs h).get? b=some o :=
 PySem.W.hideAll_get _ e fun hm=>by
  have q:=(mem_filter.mp hm).2
  rw[k]at q;cases q
theorem qf {X:Cx}{cs:List (Nat × Str)}{h:Heap}{b:Addr}{o:Obj}(e:(gj X cs h).get? b=some o):h.get? b=some o/\dY X cs b=true:=by
 have e':h.get? b=some o:=PySem.W.of_hideAll _ e
 refine⟨e',?_⟩
 cases q:dY X cs b with
 | true=>rfl
 | false =>
  have hm:b ∈ (List.range h.objs.size).filter fun b=>!dY X cs b:=mem_filter.mpr ⟨mem_range.mpr (lt_size e'),by rw[q];rfl⟩
  have z:(gj X cs h).get? b=none:=PySem.W.hideAll_none _ hm
  rw[z]at e;cases e
theorem kC {X:Cx}{cs:List (Nat × Str)}{b:Addr}(h:dY X cs b=true):(∃ o,X.base.get? b=some o)∨(∃ p ∈ X.pn,p.1=b)∨∃ q ∈ cs,X.env.cells.lookup q.2=some b:=by
 unfold dY at h
 rcases (Bool.or_eq_true _ _).mp h with h | h
 ·rcases (Bool.or_eq_true _ _).mp h with h | h
  ·exact .inl (Option.isSome_iff_exists.mp h)
  ·obtain⟨p,hp,e⟩:=mem_map.mp (List.contains_iff_mem.mp h)
   exact .inr (.inl ⟨p,hp,e⟩)
 ·obtain⟨q,hq,e⟩:=any_eq_true.mp h
  exact .inr (.inr ⟨q,hq,eq_of_beq e⟩)
theorem vn {X:Cx}{pins:List (Addr × Obj)}{σ:St}{H:Hp}{s:Shared}{cs:List (Nat × Str)}{fvs:List V}(I:Inv X pins σ H s)(MX:∀ q ∈ cs,X.N[q.1]? = some q.2/\X.env.scope.names.lookup q.2=some .cell/\X.fn q.2=true)
  (hv:Paired (fun (q:Nat × Str)(v:V)=>σ[q.1]? = some (some v)) cs fvs):MV X cs fvs (gj X cs s.heap)/\xr X.prog X.w X.K X.mg (gj X cs s.heap) X.A X.stack s H:=by
 have kb:∀ b o,X.base.get? b=some o->(gj X cs s.heap).get? b=some o:=fun b o e=>jK (I.bk b o e) (by unfold dY;rw[e];rfl)
 have cell:∀ (GB:List (Nat × Str))(Bu:List V),(∀ q ∈ GB,q ∈ cs)->Paired (fun (q:Nat × Str)(v:V)=>σ[q.1]? = some (some v)) GB Bu ->
   Paired (fun (q:Nat × Str)(v:V)=>∃ c u,X.env.cells.lookup q.2=some c/\RelV v u/\(gj X cs s.heap).IsCell c (some u)) GB Bu:=by
  intro GB Bu hs hp
  induction hp with
  | nil=>exact .nil
  | @cons q v _ _ r _ ih =>
   refine .cons ?_ (ih fun q hq=>hs q (mem_cons_of_mem _ hq))
   have hq:=hs q mem_cons_self
   obtain⟨h1,h2,h3⟩:=MX q hq
   obtain⟨m,hn,hl⟩:=I.loc
   obtain⟨u,ru,l⟩:=hl q.1 q.2 v h1 r (.inr (.inl h2))
   rcases l with ⟨k,_⟩ | ⟨_,c,hc,o,ho,hd⟩
   ·have k:X.env.scope.names.lookup q.2=some .local:=k
    rw[h2]at k;cases k
   ·exact⟨c,u,hc,ru,o,jK ho (by
     unfold dY
     rw[show(cs.any fun q=>X.env.cells.lookup q.2 == some c)=true from any_eq_true.mpr ⟨q,hq,by rw[hc];simp⟩,Bool.or_true]),hd⟩
 have xa:=I.ok.mod.xa.keeps kb
 have ns:=I.ok.mod.glob.keeps kb
 have MZ:∀ b,dY X cs b=true->H b=none/\b ∉ gh X.stack:=fun b hb=>by
  rcases kC hb with ⟨o,e⟩ | ⟨p,hp,rfl⟩ | ⟨q,hq,e⟩
  ·refine⟨(I.bs b o e).2,fun z=>?_⟩
   have:=(I.stack.mem z).1
   rw[e]at this;cases this
  ·obtain⟨_,n,nl,nf,_⟩:=I.pin p (mem_append_left _ hp)
   exact⟨n,fun z=>(mem_cons.mp (I.wx _ z)).elim nl nf⟩
  ·refine⟨I.vT _ _ e,fun z=>?_⟩
   rcases mem_cons.mp (I.wx _ z) with z | z
   ·exact I.yl _ _ e z
   ·obtain⟨_,o,ho,_⟩:=I.ok.wF.mem z
    exact absurd (lt_of_lt_of_le (lt_size ho) (I.ok.AY _ _ (MX q hq).2.2 e)) (lt_irrefl _)
 refine⟨⟨xa,ns,kb,fun p hp=>?_,cell cs fvs (fun _ h=>h) hv,I.ok.inj⟩,I.ok.frames,⟨xa,ns,?_,I.ok.mod.nolimit.keeps kb⟩,fun b o e=>?_,?_,?_,I.xb,I.vD,I.bare⟩
 ·refine jK (I.pin p (mem_append_left _ hp)).1 ?_
  unfold dY
  rw[show(X.pn.map (·.1)).contains p.1=true from List.contains_iff_mem.mpr (List.mem_map_of_mem hp),Bool.or_true,Bool.true_or]
 ·obtain⟨mb,h1,h2⟩:=I.ok.mod.blt
  exact⟨mb,h1.keeps kb,h2⟩
 ·obtain⟨e1,k⟩:=qf e
  exact⟨e1,(MZ b k).1⟩
 ·exact le_of_eq (PySem.W.hideAll_size _ _)
 ·refine kF (fun b hb=>?_) I.stack
  cases q:(gj X cs s.heap).get? b with
  | none=>rfl
  | some o=>exact absurd hb (MZ b (qf q).2).2
section
variable {X:Cx}{CX:iH}{k:Nat}{f:Addr}{fd:FuncData}{ps:List Str}{wc:List V}{ds:List Value}{E:XK}{x:Str}{p pos:Pos}{e:Expr}{es:List Expr}{t:TA}{cs:List (Nat × Str)}{sps:List V->Sp}
end
end L2
namespace L2
open PySem PySem.Spec PyProof.Rows
end L2
namespace L2
open PySem PySem.Spec PyProof.Rows
noncomputable def rh (K:Frag):R2:=fun x y H Q=>∃ (p:Addr)(vs:List V)(d:PyData)(ds:List PyData),y = .ref p/\oG K H x d/\vG K H p vs/\lb K H vs ds/\xZ d 8/\(∀ z ∈ ds,xZ z 8)/\Q (.bl (!(ds.any fun y=>PyData.eqv y d))) H
theorem nU {X:Cx}(hu:X.A.units + 64 < cLine):eG X (compareOp .NotIn) (rh X.K):=by
 intro pins s σ H x y v u Q I rx ry h
 obtain⟨p,vs,d,ds,rfl,h1,h2,h3,s1,s2,q⟩:=h
 obtain⟨as,r1⟩:=I.den (.lst h2 h3) ry
 obtain⟨bs,r2⟩:=I.den h1 rx
 refine SeqAt.notIn_list_reads r1 r2 (jw s2).1 s1.1 ?_ ⟨.bl _,H,I,rfl,q⟩
 have:=s1.2
 have:=Nat.min_le_right (PyData.depthAll ds) d.depth
 omega
end L2
namespace L2
open PySem
noncomputable def D6:TT:=fun _ _ _=>False
theorem jy {X:Cx}{e:Expr}:PT X e D6:=fun _ _ _ _ _ _ h=>h.elim
noncomputable def D7:TE:=fun _ _ _=>False
theorem pG {X:Cx}{e:Expr}:PE X e D7:=fun _ _ _ _ _ _ h=>h.elim
end L2
namespace L2
open PySem PySem.Spec PyProof.Rows
noncomputable def sM (P:Program)(w:World)(K:Frag)(a:Addr)(ks:List Str):Prop:=(a == sysModules)=false/\∃ o kvs,K.lookup a=some o/\o.IsDictOf (strKind P w) kvs/\kvs.map (·.1)=ks
noncomputable def ri (X:Cx):R2:=fun x y H Q=>∃ (t:Str)(a:Addr)(ks:List Str),x = .str t/\y = .ref a/\sM X.prog X.w X.K a ks/\Q (.bl (!decide (t ∈ ks))) H
theorem fW {α:Type} [DecidableEq α] (k:α):∀ kvs:List (α × Value),(valueAt kvs k).isSome=decide (k ∈ kvs.map (·.1))
 | []=>by simp[valueAt]
 | (a,v) :: r=>by
  have ih:=fW k r
  unfold valueAt at ih ⊢
  by_cases h:a=k
  ·simp[h]
  ·have h':¬ k=a:=fun e=>h e.symm
   rw[List.find?_cons]
   simp only[decide_eq_false h,map_cons,mem_cons,h',false_or]
   exact ih
theorem nW {X:Cx}:eG X (compareOp .NotIn) (ri X):=by
 intro pins s σ H x y v u Q I rx ry h
 obtain⟨t,a,ks,rfl,rfl,⟨hs,o,kvs,hl,hd,rfl⟩,q⟩:=h
 cases ry
 obtain⟨tk,rfl⟩:∃ tk,v = .str t tk:=rx
 have hm:s.heap.DictOf (strKind X.prog X.w) a kvs:=Heap.dictOf_iff.mpr ⟨o,I.vY a o hl,hd⟩
 refine wpAny_notIn_of (strKind_is _ _ t tk) hs hm.mapOf ?_
 rw[fW]
 exact⟨.bl _,H,I.tok _,rfl,q⟩
theorem sx {P:Program}{w:World}{K:Frag}{a:Addr}{ep:Nat}{rs:List (Str × Tok × Value)}(hs:(a == sysModules)=false)
  (hl:K.lookup a=some ⟨.type "dict",none, .dict (rs.map fun r=>DictEntry.mk (PyData.keyHash w.params r.1) (.str r.1 r.2.1) r.2.2).toArray ep,#[]⟩) (nd:(rs.map (·.1)).Nodup):sM P w K a (rs.map (·.1)):=by
 refine⟨hs,_,rs.map fun r=>(r.1,r.2.2),hl,⟨_,ep,⟨rfl,rfl,rfl⟩,rfl,fun e he=>?_,?_,?_⟩,?_⟩
 ·obtain⟨r,_,rfl⟩:=mem_map.mp (List.mem_toArray.mp he)
  exact⟨r.1,strKind_is _ _ _ _,rfl⟩
 ·show Pairs _ (rs.map _) _
  clear hl nd
  induction rs with
  | nil=>exact .nil
  | cons r rs ih=>exact .cons (strKind_is _ _ _ _) rfl ih
 ·rw[map_map];exact nd
 ·rw[map_map];rfl
end L2
namespace L2
open PySem PySem.Spec PyProof.Rows
structure wN (k:Nat)(A:Around):Prop where
 dp:A.depth + 3 * k + 5 < recursionLimit
 un:A.units + 16 * k + 200 < cLine
theorem wN.deeper {k:Nat}{A:Around}(r:wN (k + 1) A)(env:Env):wN k (A.deeper env) :=
 ⟨by have:=r.dp;show A.depth + 1 + 3 * k + 5 < _;omega,by have:=r.un;show A.units + 3 + 16 * k + 200 < _;omega⟩
theorem wN.depth {k:Nat}{A:Around}(r:wN k A):A.depth < recursionLimit:=by have:=r.dp;omega
theorem vE.hand {k:Nat}{A:Around}(r:vE k A)(u:Option Value):wN k (A.mark u):=⟨r.dp,r.un⟩
structure nF (P:Program)(w:World)(K:Frag)(mg:Str->Option Value)(base:Heap)(k:Nat)(f:Addr)(fd:FuncData)(ps:List Str)(sp:Sp):Prop where
 len:∀ vs H Q E,sp vs H Q E->vs.length=ps.length
 run:∀ (A:Around)(outer:List Env)(s:Shared)(H:Hp)(args:Args)(us:List Value)(vs:List V)(Q:VK)(E:XK),wN k A->xr P w K mg base A outer s H->BindsTo s fd args (ps.zip us)->Vals vs us->sp vs H Q E ->
  codeAny (model P w) A (.call (.ref f) args) (CR aE outer P w H s Q E) s
abbrev D8 (P:Program)(w:World)(K:Frag)(mg:Str->Option Value)(base:Heap)(N:List Str)(qual:Str)(scope:Scope)(f:Addr)(cd:Value)(A:Around)(outer:List Env)(s:Shared)(H:Hp)(E:XK):Cx :=
 { dZ aE P w K mg base N qual scope f cd A outer s H E with calm:=false }
theorem lY {P:Program}{w:World}{K:Frag}{mg:Str->Option Value}{base:Heap}{N ps:List Str}{qual:Str}{scope:Scope}{f:Addr}{cd:Value}{A:Around}{outer:List Env}{s s1:Shared}{H:Hp}{E:XK}{us:List Value}{vs:List V}
  (S:aj N ps scope) (e0:xr P w K mg base A outer s H) (hl:vs.length=ps.length) (r:Vals vs us)
  (x:InCallC s s.heap.objs.size (bindL (envOfC qual scope s.heap.objs.size f cd).kindOf (ps.zip us) fun _=>none) (cellsFrom (s.heap.objs.size + 1) scope.names []) (bindC (envOfC qual scope s.heap.objs.size f cd).kindOf (ps.zip us) fun _=>none) s1) :
  Inv (D8 P w K mg base N qual scope f cd A outer s H E) [] (start N vs) H s1:=by
 have wR:ps.length <= N.length:=by have:=congrArg List.length S.pre;rw[length_take]at this;omega
 obtain⟨h1,tk,rfl,hk⟩:=x.done
 have zN:∀ b:Addr,b ∉ (D8 P w K mg base N qual scope f cd A outer s H E).ex:=fun b z=>absurd (show b ∈ ([]:List Addr) from z) (by simp)
 refine⟨⟨e0.mod,S.kind,rfl,rfl,le_refl _,fun y z c h1 h2=>?_,fun y hy=>?_,fun y c _ h=>?_,(fun z=>by cases z),Around.frames_deeper e0.frames, .inr ⟨rfl,rfl⟩,fun b z=>absurd z (zN b),e0.bs,e0.yT,fun b _ _=>zN b,fun b z=>absurd z (zN b),e0.wF,e0.zI⟩,
  rfl,e0.bare,Un.kept hk,⟨_,x.toInCall.ns,fun i y v h1 h2 h3=>?_⟩,fun y c h=>⟨_,x.cell y c h⟩,e0.vD.fresh (le_refl _),fun y c h=>?_,fun p hp=>absurd (show p ∈ ([]:List (Addr × Obj)) from hp) (by simp),e0.vD.kept hk,?_⟩
 ·exact name_of_addr x.apart (PySem.mem_of_lookup h1) (PySem.mem_of_lookup h2)
 ·have hy:scope.names.lookup y=some .cell∨scope.names.lookup y=some .free:=hy
  rcases hy with hy | hy
  ·exact fB hy
  ·exact absurd rfl (S.yX _ (PySem.mem_of_lookup hy))
 ·exact le_of_lt (x.above y c (PySem.mem_of_lookup h))
 ·have hi:i < vs.length:=by
   unfold start at h2
   by_cases hi:i < vs.length
   ·exact hi
   ·rw[List.getElem?_append_right (by simpa using hi)]at h2
    rw[List.getElem?_replicate]at h2
    split at h2<;>cases h2
  have ha:vs[i]? = some v:=by
   unfold start at h2
   rw[List.getElem?_append_left (by simpa using hi),List.getElem?_map]at h2
   cases e:vs[i]? with
   | none=>rw[e]at h2;cases h2
   | some a=>rw[e]at h2;cases h2;rfl
  obtain⟨u,hu,rv⟩:=r.get ha
  have hp:ps[i]? = some y:=by
   rw[← S.pre,List.getElem?_take_of_lt (by omega)];exact h1
  have CI:ps.Nodup:=by rw[← S.pre];exact S.nd.sublist (List.take_sublist _ _)
  refine⟨u,rv,?_⟩
  rcases S.par y (mem_of_getElem? hp) with k | k
  ·exact .inl ⟨k,fT CI hp hu k⟩
  ·obtain⟨c,e⟩:=fB (n:=s.heap.objs.size + 1) k
   refine .inr ⟨.inl k,c,e,?_⟩
   have q:=x.cell y c e
   rw[fU CI hp hu (by show scope.names.lookup y ≠ _;rw[k];decide)]at q
   exact q
 ·exact e0.vD.fresh (le_of_lt (x.above y c (PySem.mem_of_lookup h)))
 ·unfold start
  show _=N.length
  rw[length_append,length_map,length_replicate]
  omega
theorem vQ.okH {P:Program}{w:World}{K:Frag}{mg:Str->Option Value}{base:Heap}{x qual:Str}{st:Stmt}{f:Addr}{fd:FuncData}{N ps:List Str}{k:Nat}{sp:Sp}(F:vQ K x qual st f fd)(S:aj N ps (ag st))(len:∀ vs H Q E,sp vs H Q E->vs.length=ps.length)
  (wK:∀ (cdv:Value)(A:Around)(outer:List Env)(s:Shared)(H:Hp)(vs:List V)(Q:VK)(E:XK),wN k (A.deeper (envOfC qual (ag st) s.heap.objs.size f cdv))->sp vs H Q E ->
   ∃ t,xI (D8 P w K mg base N qual (ag st) f cdv A outer s H E).Am (ax st) t/\t { nx:=fun _ H'=>Q .vJ H',rt:=Q } (start N vs) H):nF P w K mg base (k + 1) f fd ps sp:=by
 obtain⟨oc,od,kV,doc,pm,an,cdv,ct,xQ,rfl,lk,xO⟩:=F.ex
 refine⟨len,fun A outer s H args us vs Q E hr e0 hb r yp=>?_⟩
 have hl:=len _ _ _ _ yp
 have KX:K.In s.heap:=e0.mod.xa.keeps fun b o e=>(e0.bs b o e).1
 have lim:s.heap.NoLimit:=e0.mod.nolimit.keeps fun b o e=>(e0.bs b o e).1
 have yY:∀ y ∈ ps.zip us,(ag st).names.lookup y.1=some .local∨((ag st).names.lookup y.1=some .cell/\((cellsFrom (s.heap.objs.size + 1) (ag st).names []).lookup y.1).isSome=true):=fun⟨n,v⟩ hy=>by
  rcases S.par n (of_mem_zip hy).1 with q | q
  ·exact .inl q
  ·exact .inr ⟨q,PySem.W.cellsFrom_some _ _ _ (.inl q)⟩
 refine codeAny_call_function hr.depth (KX _ _ lk) rfl S.co S.gen rfl (PySem.W.codeRec_of KX xO) (hb _ _ _ _ ?_)
 refine wpAny_newFunctionEnv_cells S.kind yY fun env he s1 x=>?_
 subst he
 refine⟨lim.keeps x.toInCall.keep,codeAny_func ?_⟩
 obtain⟨t,ht,hq⟩:=wK cdv A outer s H vs Q E (hr.deeper _) yp
 have I:Inv (D8 P w K mg base N qual (ag st) f cdv A outer s H E) [] (start N vs) H s1:=lY S e0 hl r x
 refine wpAny_mono (ht.Am [] s1 (start N vs) H _ I hq) (fun fl s' hs=>?_) fun e s' hs=>hs
 have fin:∀ {σ':St}{H':Hp}{v:V}{u:Value},Inv (D8 P w K mg base N qual (ag st) f cdv A outer s H E) [] σ' H' s'->RelV v u->Q v H'->CE outer P w H s Q u s' :=
  fun {σ' H' v u} J rv q=>⟨v,H',J.os,J.bare,J.base,J.vD,rv,q⟩
 cases fl with
 | ret u =>
  obtain⟨v,σ',H',J,rv,q⟩:=hs
  exact fin J rv q
 | next =>
  obtain⟨σ',H',J,q⟩:=hs
  exact fin (v:=V.vJ) (u:=Value.none) J rfl q
 | brk =>
  obtain⟨_,_,_,q⟩:=hs
  exact False.elim q
 | cont =>
  obtain⟨_,_,_,q⟩:=hs
  exact False.elim q
section
variable {X:Cx}{k:Nat}{f:Addr}{fd:FuncData}{ps:List Str}{x:Str}{p pos:Pos}{e:Expr}{es:List Expr}{t:TA}{sp:Sp}
theorem cC (F:∀ vP,MV X [] [] vP->nF X.prog X.w X.K X.mg vP k f fd ps sp)
  (hr:wN k X.A) (hg:Gl X x) (hm:X.mg x=some (.ref f)) (hk:keepIn X.K (.ref f)=true) (hb:Binds X.K fd ps [])
  (ha:PA X (e :: es) t) (xt:(x == ("__debug__":Str))=false:=by decide) (he:starEach (e :: es) X.env=(false,eval e X.env) :: starEach es X.env:=by rfl) (wR:(backTo pos (starEach es X.env)).any (·.1)=false:=by rfl) :
  PE X (.Call (.Name x p) (e :: es) [] pos) (m8 sp [] E0 t):=by
 intro pins s σ H Q I h
 refine wpAny_Call_Name_kw (bI I hg hm ?_ xt)
 refine PySem.W.callWith_K (h₀:=X.base) I.ok.mod.xa hk (aN (ha pos pins s σ H _ I h) fun us s1 ⟨vs,H1,I1,r,q⟩=>⟨I1.vY,?_⟩) he wR
 obtain⟨B,e0⟩:=vn (cs:=[]) (fvs:=[]) I1 (fun q h=>by cases h) .nil
 have G:=F _ B
 have r2:Vals (vs ++ []) (us ++ []):=r.append .nil
 have hl:(us ++ []).length=ps.length:=by rw[← r2.length];exact G.len _ _ _ _ q
 refine wpAny_call (codeAny_mono (G.run X.A X.stack s1 H1 ⟨us,[]⟩ (us ++ []) (vs ++ []) Q E0 hr e0 (hb s1 us I1.vY hl) r2 q) fun r s' hq=>?_)
 cases r with
 | error e=>exact False.elim hq
 | ok fl =>
  cases fl with
  | ret u=>exact I1.after hq
  | next=>exact False.elim hq
  | brk=>exact False.elim hq
  | cont=>exact False.elim hq
end
end L2
namespace L2
open PySem PySem.Spec PySem.W
noncomputable def pkO (o:Option Obj):Option Obj:=match o with
 | some ⟨_,_, .freed,_⟩=>none
 | o=>o
noncomputable def ke:List Addr->List Obj->Nat->List (Option Obj)
 | [],_,_=>[]
 | a :: as,l,i=>pkO (l.drop (a - i)).head? :: ke as (l.drop (a - i)) a
noncomputable def GC:List Addr->Nat->Bool
 | [],_=>true
 | a :: as,i=>Nat.ble i a && GC as a
theorem kc (os:List Obj):∀ (as:List Addr)(i:Nat),GC as i=true->ke as (os.drop i) i=as.map fun a=>pkO os[a]?
 | [],_,_=>rfl
 | a :: as,i,h=>by
  unfold GC at h
  obtain⟨h1,h2⟩:=Bool.and_eq_true_iff.mp h
  have h1:=Nat.le_of_ble_eq_true h1
  unfold ke
  have e:(os.drop i).drop (a - i)=os.drop a:=by rw[List.drop_drop,Nat.add_sub_cancel' h1]
  rw[e,map_cons,kc os as a h2,List.head?_drop]
noncomputable def lHook (K:Params->Frag)(as:List Addr)(e:∀ P,as=(K P).map (·.1))(ts:List Addr)(ho:GC as 0=true):Hook where
 α:=List (Option Obj) × List (Option Obj)
 obs:=fun s=>(ke as s.heap.objs.toList 0,ts.map s.heap.get?)
 val:=fun w=>((K w.params).map fun p=>some p.2,ts.map fun _=>some (tabObj #[]))
 says:=fun w h=>InK K w h/\∀ P ∈ ts,h.get? P=some (tabObj #[])
 of:=fun w s x=>by
  obtain⟨x1,x2⟩:=Prod.mk.inj x
  have h:as.map s.heap.get? = ke as s.heap.objs.toList 0:=by
   rw[show s.heap.objs.toList=s.heap.objs.toList.drop 0 from rfl,kc _ as 0 ho]
   refine map_congr_left fun a _=>?_
   show Heap.get? _ a=_
   unfold Heap.get? pkO
   rw[Array.getElem?_toList]
   rfl
  exact⟨InK.of e w s (h.trans x1),List.map_inj_left.mp x2⟩
 keeps:=fun w h h' x k=>⟨InK.keeps w h h' x.1 k,fun P hP=>k _ _ (x.2 P hP)⟩
end L2
namespace L2
open PySem
theorem b7 {J:It}{g:TG}{tt:TT}{te:TE}{σ0:St}{H:Hp}{Q:VK}(n:Nat)(hn:n < sizeLine)(W:Nat->List V->Hp->Prop)(h0:W 0 [] H)(hlen:∀ i acc H',W i acc H'->acc.length <= i)
  (turn:∀ i acc H',i < n->W i acc H'->J.go i H'/\∀ x H2,J.zy i H' x H2->g x σ0 H2 fun σ2 H3=>tt σ2 H3 fun b H4=>if b=true then te σ2 H4 fun y H5=>W (i + 1) (acc ++ [y]) H5 else W (i + 1) acc H4)
  (stop:∀ acc H',W n acc H'->J.stop n H'/\∀ D,H' D=none->Q (.ref D) (upd H' D (.lst acc))):eh J g tt te σ0 Q H:=by
 refine⟨fun i m acc H'=>m=n - i/\i <= n/\W i acc H',⟨n,by simp,zero_le _,h0⟩,?_⟩
 rintro i m acc H' ⟨rfl,hi,w⟩
 refine⟨by have:=hlen i acc H' w;omega,?_⟩
 by_cases wA:i < n
 ·obtain⟨go,q⟩:=turn i acc H' wA w
  exact .inr ⟨go,fun wu H2=>W (i + 1) wu H2,fun wu H2 w2=>⟨n - (i + 1),by omega,rfl,wA,w2⟩,q⟩
 ·have e:i=n:=by omega
  subst e
  exact .inl (stop acc H' w)
theorem v5.new {H H':Hp}{a:Addr}{o:HO}(h:v5 H H')(n:H' a=none):v5 H (upd H' a o):=fun b u e=>by rw[ae (ai (h _ _ e) n)];exact h _ _ e
end L2
namespace L2
open PySem
theorem vX {N P:List Str}{sc:Scope}(a:sc.kind = .function:=by rfl)(b:sc.isCoroutine=false:=by rfl)(c:sc.isGenerator=false:=by rfl)(d:N.Nodup:=by decide +kernel)(e:N.take P.length=P:=by rfl)(f:∀ x ∈ P,sc.names.lookup x=some .local∨sc.names.lookup x=some .cell:=by decide +kernel)(g:∀ y ∈ sc.names,y.2 ≠ .free:=by decide +kernel):aj N P sc:=⟨a,b,c,d,e,f,g⟩
theorem yb {N:List Str}{sc scope:Scope}{capN:List Str}{cap:List Nat}(a:scope.kind = .function:=by rfl)(b:∀ y ∈ scope.names,y.2 ≠ .cell:=by decide +kernel)(c:∀ y ∈ scope.names,y.2 = .local->scope.names.lookup y.1=some .local:=by decide +kernel)(d:∀ y ∈ scope.names,y.2 = .free->sc.names.lookup y.1=some .cell∨sc.names.lookup y.1=some .free:=by decide +kernel)(e:cap.length=capN.length:=by rfl)(f:∀ p ∈ capN.zip cap,scope.names.lookup p.1=some .free/\N[p.2]? = some p.1:=by decide +kernel):wM N sc scope capN cap:=⟨a,b,c,d,e,f⟩
end L2
namespace K45
open PySem L2
variable {P:Program}{w:World}{K:Frag}{mg:Str->Option Value}{base:Heap}
noncomputable def bX (i:Nat):Stmt:=PySem.Challenge.pw_wormyard_k45_kinds_of_refusals.main.body.getD i (.Pass ⟨0,0,0,0⟩)
abbrev uj:Stmt:=bX 22
abbrev dN:Stmt:=bX 24
abbrev gx:Stmt:=bX 25
abbrev rb:Stmt:=bX 26
abbrev ug:Stmt:=bX 30
abbrev jW:Stmt:=bX 33
abbrev Jr:Stmt:=bX 34
abbrev eK:Stmt:=bX 41
abbrev pf:Stmt:=bX 42
abbrev jT:Stmt:=bX 43
abbrev lF:Stmt:=bX 48
abbrev lI:Stmt:=bX 49
abbrev l7:Stmt:=bX 53
abbrev pq:Stmt:=bX 70
abbrev uh:Stmt:=bX 71
abbrev l5:Stmt:=bX 84
abbrev eU:Stmt:=bX 85
abbrev jx:Stmt:=bX 111
abbrev eT:Stmt:=bX 117
abbrev eL:Stmt:=bX 119
abbrev gO:Stmt:=bX 120
abbrev p5:Stmt:=bX 122
abbrev lD:Stmt:=bX 123
abbrev l9:Stmt:=bX 124
abbrev lB:Stmt:=bX 125
abbrev lA:Stmt:=bX 126
abbrev lC:Stmt:=bX 127
abbrev fH:Stmt:=bX 128
abbrev GD:Stmt:=aI (bX 4) 0
abbrev GF:Stmt:=aI (bX 5) 0
abbrev GG:Stmt:=aI (bX 6) 0
abbrev rd:Stmt:=aI (bX 12) 0
abbrev jV:Stmt:=aI (bX 31) 0
abbrev uq:Stmt:=aI (bX 31) 2
abbrev pu:Stmt:=aI (bX 31) 3
abbrev jU:Stmt:=aI (bX 31) 4
abbrev ui:Stmt:=aI (bX 35) 0
abbrev pj:Stmt:=aI (bX 36) 0
abbrev ul:Stmt:=aI (bX 18) 0
abbrev lE:Stmt:=aI (bX 18) 3
abbrev lH:Stmt:=aI (bX 18) 5
abbrev pz:Stmt:=aI (bX 44) 0
abbrev e9:Stmt:=aI (bX 45) 0
abbrev dI:Stmt:=aI (bX 45) 1
abbrev l8:Stmt:=aI (bX 45) 5
abbrev py:Stmt:=aI (bX 45) 8
abbrev Js:Stmt:=aI (bX 45) 9
abbrev pw:Stmt:=aI (bX 69) 0
abbrev ph:Stmt:=aI (bX 72) 0
abbrev l6:Stmt:=aI (bX 72) 1
abbrev lG:Stmt:=aI (bX 72) 2
abbrev p0:Stmt:=aI (bX 112) 0
abbrev uk:Stmt:=aI (bX 112) 1
structure Txt (mg:Str->Option Value):Prop where
 wI:mg "isinstance" = none
 int:mg "int" = none
 bool:mg "bool" = none
 len:mg "len" = none
 enum:mg "enumerate" = none
 tuple:mg "tuple" = none
 range:mg "range" = none
 list:mg "list" = none
 all:mg "all" = none
 sum:mg "sum" = none
 abs:mg "abs" = none
 str:mg "str" = none
 min:mg "min" = none
 max:mg "max" = none
 revd:mg "reversed" = none
 zip:mg "zip" = none
 zk:mg "ValueError" = none
noncomputable def vw (H:Hp)(v:V)(p:Int × Int):Prop:=∃ t,v = .ref t/\H t=some (.tup [.int p.1, .int p.2])
abbrev vV (H:Hp):List V->List (Int × Int)->Prop:=Paired (vw H)
theorem vV.same {H H':Hp}(h:v5 H H'):∀ {vs:List V}{ps:List (Int × Int)},vV H vs ps->vV H' vs ps:=fun v9=>by
 induction v9 with
 | nil=>exact .nil
 | cons zz r ih=>obtain⟨t,e,q⟩:=zz;exact .cons ⟨t,e,h _ _ q⟩ ih
theorem vV.get {H:Hp}:∀ {vs:List V}{ps:List (Int × Int)}{i:Nat}{v:V},vV H vs ps->vs[i]? = some v->∃ p,ps[i]? = some p/\vw H v p:=by
 intro _ _ i _ v9
 induction v9 generalizing i with
 | nil=>intro h;cases h
 | cons x r ih =>
  intro h
  cases i with
  | zero=>cases h;exact⟨_,rfl,x⟩
  | succ i=>exact ih (i:=i) h
theorem vV.Jt {H:Hp}:∀ {vs:List V}{ps:List (Int × Int)}{i:Nat}{p:Int × Int},vV H vs ps->ps[i]? = some p->∃ v,vs[i]? = some v/\vw H v p:=by
 intro _ _ i _ v9
 induction v9 generalizing i with
 | nil=>intro h;cases h
 | cons x r ih =>
  intro h
  cases i with
  | zero=>cases h;exact⟨_,rfl,x⟩
  | succ i=>exact ih (i:=i) h
theorem vV.snoc {H:Hp}{v:V}{p:Int × Int}(h:vw H v p):∀ {vs:List V}{ps:List (Int × Int)},vV H vs ps->vV H (vs ++ [v]) (ps ++ [p]):=fun v9=>by
 induction v9 with
 | nil=>exact .cons h .nil
 | cons q r ih=>exact .cons q ih
noncomputable def j6 (n:Int)(p:Int × Int):Bool:=decide (0 <= p.1/\p.1 <= n - 1) && (decide (0 <= p.2/\p.2 <= n - 1) && !decide (p.1=p.2))
noncomputable def gu:Sp:=fun vs H Q _=>∃ i:Int,vs=[.int i]/\Q (.bl true) H
noncomputable def c9:Sp:=fun vs H Q _=>∃ i a b:Int,vs=[.int i, .int a, .int b]/\Q (.bl (decide (a <= i/\i <= b))) H
noncomputable def m9:Sp:=fun vs H Q _=>∃ n a b:Int,vs=[.int n, .int a, .int b]/\Q (.bl (j6 n (a,b))) H
theorem mI:aj ["value"] ["value"] (ag dN):=L2.vX
theorem gZ {f:Addr}{fd:FuncData}(F:vQ K "is_whole" "is_whole" dN f fd)(T:Txt mg):v7 P w K mg base aE 1 f fd ["value"] gu:=by
 refine F.ok mI (fun vs H Q E h=>?_) (fun cdv A outer s H vs Q E hr h=>?_)
 ·obtain⟨m,rfl,_⟩:=h
  rfl
 ·obtain⟨i,rfl,q⟩:=h
  refine⟨_,ah (ay (bE (al kO rfl T.wI PyProof.Rows.boot_isinstance (aa (pv 0) (aa (bD (v := .ty "int") rfl T.int PySem.Pv.boot_int rfl) ac)))
   (bJ (pF (al kO rfl T.wI PyProof.Rows.boot_isinstance (aa (pv 0) (aa (bD (v := .ty "bool") rfl T.bool PySem.Pv.boot_bool rfl) ac))))))),?_⟩
  refine⟨_,rfl, .inl ⟨i,rfl,true,rfl,?_⟩⟩
  refine a9 ?_
  exact⟨_,rfl, .inr (.inl ⟨i,rfl,false,rfl,q⟩)⟩
theorem jS:aj ["value", "least", "most"] ["value", "least", "most"] (ag gx):=L2.vX
theorem nZ {f fh:Addr}{fd xK:FuncData}(F:vQ K "is_within" "is_within" gx f fd)(T:Txt mg)(mh:mg "is_whole" = some (.ref fh))(Fh:vQ K "is_whole" "is_whole" dN fh xK)(bh:Binds K xK ["value"] []) :
  v7 P w K mg base aE 2 f fd ["value", "least", "most"] c9:=by
 have G:v7 P w K mg base aE 1 fh xK ["value"] gu:=gZ Fh T
 refine F.ok jS (fun vs H Q E h=>?_) (fun cdv A outer s H vs Q E hr h=>?_)
 ·obtain⟨i,a,b,rfl,_⟩:=h
  rfl
 ·obtain⟨i,a,b,rfl,q⟩:=h
  refine⟨_,ah (ay (bE (aq G hr rfl mh Fh.kp bh .nil aw (aa (pv 0) ac)) (bJ (kn mU mU (pv 1) (pv 0) (pv 2))))),?_⟩
  refine⟨_,rfl,i,rfl,true,rfl,a9 ?_⟩
  refine⟨_,rfl,_,rfl,_,_,rfl,rfl,_,rfl,?_⟩
  by_cases h1:a <= i
  ·rw[decide_eq_true h1]
   refine a9 ⟨_,rfl,_,_,rfl,rfl,?_⟩
   show Q (V.bl (decide (i <= b))) H
   by_cases h2:i <= b
   ·rw[decide_eq_true h2];rw[decide_eq_true ⟨h1,h2⟩]at q;exact q
   ·rw[decide_eq_false h2];rw[decide_eq_false fun z=>h2 z.2]at q;exact q
  ·rw[decide_eq_false h1]
   refine av ?_
   rw[decide_eq_false fun z=>h1 z.1]at q;exact q
theorem Ay:aj ["places", "one", "other", "last"] ["places", "one", "other"] (ag ug):=L2.vX
theorem uA {f fh:Addr}{fd xK:FuncData}(F:vQ K "are_two_places" "are_two_places" ug f fd)(mh:mg "is_within" = some (.ref fh))(kh:keepIn K (.ref fh)=true)(bh:Binds K xK ["value", "least", "most"] [])
  (G:v7 P w K mg base aE 2 fh xK ["value", "least", "most"] c9) :
  v7 P w K mg base aE 3 f fd ["places", "one", "other"] m9:=by
 refine F.ok Ay (fun vs H Q E h=>?_) (fun cdv A outer s H vs Q E hr h=>?_)
 ·obtain⟨i,a,b,rfl,_⟩:=h
  rfl
 ·obtain⟨n,a,b,rfl,q⟩:=h
  refine⟨_,ad (ar (i:=3) Ay.nd rfl (Or.inl rfl) (au dU (pv 0) af))
   (ah (ay (bE (aq G hr rfl mh kh bh .nil aw (aa (pv 1) (aa af (aa (pv 3) ac))))
    (bE (aq G hr rfl mh kh bh .nil aw (aa (pv 2) (aa af (aa (pv 3) ac)))) (bJ (bH pL (pv 1) (pv 2) (ap _))))))),?_⟩
  refine⟨_,rfl,_,_,rfl,rfl,?_⟩
  refine⟨_,rfl,_,rfl,a,0,n - 1,rfl,_,rfl,?_⟩
  unfold j6 at q
  dsimp only at q
  by_cases h1:0 <= a/\a <= n - 1
  ·rw[decide_eq_true h1]at q ⊢
   rw[Bool.true_and]at q
   refine a9 ⟨_,rfl,_,rfl,b,0,n - 1,rfl,_,rfl,?_⟩
   by_cases h2:0 <= b/\b <= n - 1
   ·rw[decide_eq_true h2]at q ⊢
    rw[Bool.true_and]at q
    refine a9 ⟨_,rfl,_,rfl,rfl,?_⟩
    have e:decide (V.int a=V.int b)=decide (a=b):=by
     by_cases h:a=b
     ·rw[h];simp
     ·rw[decide_eq_false h,decide_eq_false fun z=>h (by injection z)]
    show Q (V.bl (!decide (V.int a=V.int b))) H
    rw[e];exact q
   ·rw[decide_eq_false h2]at q ⊢
    exact av q
  ·rw[decide_eq_false h1]at q ⊢
   exact av q
end K45
namespace L2
open PySem
theorem fP {H1:Hp}{e d:Addr}{o o' x:HO}(he:H1 e=none)(hd:upd H1 e o d=none) :
  v5 H1 (qG (upd (upd (upd H1 e o) d x) e o') e)/\(qG (upd (upd (upd H1 e o) d x) e o') e) d=some x/\(upd (upd (upd H1 e o) d x) e o') e=some o':=by
 have zg:d ≠ e:=fun z=>by rw[z,vz]at hd;cases hd
 have hd1:H1 d=none:=by rw[ae zg]at hd;exact hd
 refine⟨fun b u q=>?_,?_,vz⟩
 ·have yf:b ≠ e:=ai q he
  have hbd:b ≠ d:=ai q hd1
  rw[cz yf,ae yf,ae hbd,ae yf];exact q
 ·rw[cz zg,ae zg,vz]
end L2
namespace K45
open PySem L2
variable {P:Program}{w:World}{K:Frag}{mg:Str->Option Value}{base:Heap}
inductive Due | places | many (k:Nat) | vZ (k:Nat) | good
noncomputable def kT (n:Int)(ps:List (Int × Int)):Option Nat:=ps.findIdx? fun p=>!j6 n p
noncomputable def bM (n:Int)(ps:List (Int × Int)):Due:=if decide (1 <= n/\n <= 12)=false then .places else if 40 < ps.length then .many ps.length else match kT n ps with | some k => .vZ k | none => .good
structure Cs where
 np:Addr
 tm:Addr
 nr:Addr
 land:Addr
noncomputable def nK (K:Frag)(fld:Str):Sp:=fun vs H Q _=>∃ e C tt v,vs=[.ref e,v]/\H e=some (b8 e C tt none)/\dH K C/\findIn K (.ref C) fld=some none/\∀ d,H d=none->Q .vJ (upd (upd H d (.xd [(fld,v)])) e (b8 e C tt (some d)))
noncomputable def bU (H:Hp)(c:Cs)(x dx t:Addr)(n:Int)(vF:List V)(ps:List (Int × Int)):Prop:=H x=some (.ins c.land dx [("places", .int n),("lanes", .ref t)])/\H t=some (.tup vF)/\vV H vF ps
noncomputable def gN (K:Frag)(c:Cs):Sp:=fun vs H Q E=>∃ x dx n p vU ps,vs=[.ref x, .int n, .ref p]/\H x=some (.ins c.land dx [])/\vG K H p vU/\vV H vU ps/\vU.length <= 1000 /\
 (bM n ps = .places->∀ H',v5 H H'->E (.ref c.np) none H') /\
 (∀ k,bM n ps = .many k->∀ H' d,v5 H H'->H' d=some (.xd [("many", .int k)])->E (.ref c.tm) (some d) H') /\
 (∀ k,bM n ps = .vZ k->∀ H' d,v5 H H'->H' d=some (.xd [("lane", .int k)])->E (.ref c.nr) (some d) H') /\
 (bM n ps = .good->∀ H' t vF,(∀ b o,b ≠ x->H b=some o->H' b=some o)->bU H' c x dx t n vF ps->Q .vJ H')
noncomputable def oN (s:Stmt):Scope:=match s with
 | .Assign _ (.Call _ [.ListComp _ _ sc _] _ _) _=>sc
 | _=>{ kind := .function,names:=[],isGenerator:=false,isCoroutine:=false }
noncomputable def jY (s:Stmt):Scope:=match ax s with
 | .Return (some (.ListComp _ _ sc _)) _ :: _=>sc
 | _=>{ kind := .function,names:=[],isGenerator:=false,isCoroutine:=false }
abbrev NI:List Str:=["self", "places", "lanes", "lane", "pair"]
structure Exc (K:Frag)(mg:Str->Option Value)(c:Cs)(f1 f2:Addr)(d1 d2:FuncData):Prop where
 Ju:mg "NoPlaces" = some (.ref c.np)
 BY:aM K c.np none=true
 Jv:keepIn K (.ref c.np)=true
 mtm:mg "TooMany" = some (.ref c.tm)
 Na:aM K c.tm (some (.ref f1))=true
 ktm:keepIn K (.ref c.tm)=true
 ctm:dH K c.tm
 ntm:findIn K (.ref c.tm) "many" = some none
 itm:isFn K (.ref f1)=true
 Ftm:vQ K "__init__" "TooMany.__init__" GD f1 d1
 btm:Binds K d1 ["self", "many"] []
 mnr:mg "NoRoad" = some (.ref c.nr)
 Nb:aM K c.nr (some (.ref f2))=true
 knr:keepIn K (.ref c.nr)=true
 cnr:dH K c.nr
 nnr:findIn K (.ref c.nr) "lane" = some none
 inr:isFn K (.ref f2)=true
 Fnr:vQ K "__init__" "NoRoad.__init__" GF f2 d2
 bnr:Binds K d2 ["self", "lane"] []
structure oH (K:Frag)(c:Cs):Prop where
 cl:xh K c.land
 np:vB K c.land "places"
 nl:vB K c.land "lanes"
theorem i9 {n:Int}{ps:List (Int × Int)}(h:∀ p ∈ ps,j6 n p=true):kT n ps=none:=by
 unfold kT
 rw[List.findIdx?_eq_none_iff]
 intro p hp
 rw[h p hp];rfl
theorem i8 {n:Int}{ps:List (Int × Int)}{i:Nat}{p:Int × Int}(h:∀ q ∈ ps.take i,j6 n q=true)(hi:ps[i]? = some p)(hb:j6 n p=false):kT n ps=some i:=by
 unfold kT
 rw[List.findIdx?_eq_some_iff_getElem]
 obtain⟨wA,e⟩:=List.getElem?_eq_some_iff.mp hi
 refine⟨wA,by rw[e,hb];rfl,fun j hj=>?_⟩
 have hm:ps[j]'(lt_trans hj wA) ∈ ps.take i:=List.mem_take_iff_getElem.mpr ⟨j,by omega,rfl⟩
 rw[h _ hm];simp
noncomputable def Off (x:Addr)(H H':Hp):Prop:=∀ b o,b ≠ x->H b=some o->H' b=some o
theorem Off.sq {K:Frag}{H H':Hp}{x p C dx:Addr}{fs:List (Str × V)}{xs:List V}(o:Off x H H')(hx:H x=some (.ins C dx fs))(h:vG K H p xs):vG K H' p xs:=by
 rcases h with (h | ⟨ob,h⟩) | h
 ·exact .inl (.inl (o _ _ (bO h hx (by intro z;cases z)) h))
 ·exact .inl (.inr ⟨ob,o _ _ (bO h hx (by intro z;cases z)) h⟩)
 ·exact .inr h
theorem Off.BZ {H H':Hp}{x C dx:Addr}{fs:List (Str × V)}(o:Off x H H')(hx:H x=some (.ins C dx fs)):∀ {vs:List V}{ps:List (Int × Int)},vV H vs ps->vV H' vs ps:=fun v9=>by
 induction v9 with
 | nil=>exact .nil
 | cons zz r ih=>obtain⟨t,e,q⟩:=zz;exact .cons ⟨t,e,o _ _ (bO q hx (by intro z;cases z)) q⟩ ih
theorem Off.same {H H1 H2:Hp}{x:Addr}(a:Off x H H1)(b:v5 H1 H2):Off x H H2:=fun c o n e=>b _ _ (a c o n e)
theorem Jw:aj ["self", "many"] ["self", "many"] (ag GD):=L2.vX
theorem Jx:aj ["self", "lane"] ["self", "lane"] (ag GF):=L2.vX
theorem D9 {f:Addr}{fd:FuncData}(F:vQ K "__init__" "TooMany.__init__" GD f fd):v7 P w K mg base aE 1 f fd ["self", "many"] (nK K "many"):=by
 refine F.ok Jw (fun vs H Q E h=>?_) (fun cdv A outer s H vs Q E hr h=>?_)
 ·obtain⟨e,C,tt,v,rfl,_⟩:=h
  rfl
 ·obtain⟨e,C,tt,v,rfl,h1,h2,h3,q⟩:=h
  refine⟨_,ah (jz (pv 0) (pv 1) rfl),?_⟩
  exact⟨_,rfl,_,rfl,e,C,tt,rfl,h1,h2,h3,q⟩
theorem DA {f:Addr}{fd:FuncData}(F:vQ K "__init__" "NoRoad.__init__" GF f fd):v7 P w K mg base aE 1 f fd ["self", "lane"] (nK K "lane"):=by
 refine F.ok Jx (fun vs H Q E h=>?_) (fun cdv A outer s H vs Q E hr h=>?_)
 ·obtain⟨e,C,tt,v,rfl,_⟩:=h
  rfl
 ·obtain⟨e,C,tt,v,rfl,h1,h2,h3,q⟩:=h
  refine⟨_,ah (jz (pv 0) (pv 1) rfl),?_⟩
  exact⟨_,rfl,_,rfl,e,C,tt,rfl,h1,h2,h3,q⟩
theorem yx:aj NI ["self", "places", "lanes"] (ag jV):=L2.vX
theorem vj:wM NI (ag jV) (oN ((ax jV).getD 4 (.Pass ⟨0,0,0,0⟩))) [] []:=L2.yb
theorem uN:(["pair"]:List Str).Nodup:=by decide +kernel
theorem rO {c:Cs}{f fw ft f1 f2:Addr}{fd dw dt d1 d2:FuncData}{t1 t2:Tok}(F:vQ K "__init__" "Land.__init__" jV f fd)(T:Txt mg)(L:oH K c)(X:Exc K mg c f1 f2 d1 d2)
  (mw:mg "is_within" = some (.ref fw)) (kw:keepIn K (.ref fw)=true) (bw:Binds K dw ["value", "least", "most"] []) (Gw:v7 P w K mg base aE 2 fw dw ["value", "least", "most"] c9)
  (mt:mg "are_two_places" = some (.ref ft)) (kt:keepIn K (.ref ft)=true) (bt:Binds K dt ["places", "one", "other"] []) (Gt:v7 P w K mg base aE 3 ft dt ["places", "one", "other"] m9)
  (mp:mg "MOST_PLACES" = some (.int 12 t1)) (ml:mg "MOST_LANES" = some (.int 40 t2)) :
  v7 P w K mg base (cx P w) 4 f fd ["self", "places", "lanes"] (gN K c):=by
 have Gm:v7 P w K mg base aE 1 f1 d1 ["self", "many"] (nK K "many"):=D9 X.Ftm
 have Gr:v7 P w K mg base aE 1 f2 d2 ["self", "lane"] (nK K "lane"):=DA X.Fnr
 refine F.xY yx (fun vs H Q E h=>?_) (fun cdv A outer s H vs Q E hr h=>?_)
 ·obtain⟨x,dx,n,p,vU,ps,rfl,_⟩:=h
  rfl
 ·obtain⟨x,dx,n,p,vU,ps,rfl,hx,hp,hl,hlen,h1,h2,h3,h4⟩:=h
  have wC:vE 2 _:=hr.mono (by decide)
  refine⟨_,ad (a8 (aU (bu (aq Gw wC rfl mw kw bw .nil aw (aa (pv 1) (aa af (aa (aA (v := .int 12) rfl mp ⟨_,rfl⟩) ac))))))
    (ah (aO rfl X.BY v8 (aZ X.BY X.Jv rfl rfl X.Ju (aa aP ac)))) am)
   (ad (a8 (ao tq (al aJ rfl T.len PySem.boot_len (aa (pv 2) ac)) (aA (v := .int 40) rfl ml ⟨_,rfl⟩) (ap _))
    (ah (aO rfl X.Na v8 (gy X.Na X.itm X.ktm Gm wC X.btm rfl X.mtm (aa (al aJ rfl T.len PySem.boot_len (aa (pv 2) ac)) ac)))) am)
   (ad (dR j3 rfl (fc rfl T.enum (aa (pv 2) ac)) (fK rfl (bz (a7 (i:=3) yx.nd rfl (Or.inl rfl)) (bz (a7 (i:=4) yx.nd rfl (Or.inl rfl)) e6)))
    (ah (a8 (aU (bu (aq Gt hr rfl mt kt bt .nil aw (aa (pv 1) (aa (aR aW (pv 4) af (fun _ _=>rfl)) (aa (aR aW (pv 4) af (fun _ _=>rfl)) ac))))))
     (ah (aO rfl X.Nb v8 (gy X.Nb X.inr X.knr Gr wC X.bnr rfl X.mnr (aa (pv 3) ac)))) am)))
   (ad (aV (pv 0) (pv 1) rfl)
   (ah (aV (pv 0) (bC bW rfl T.tuple PySem.Pv.boot_tuple (aa (bx (own:=["pair"]) (capN:=[]) (cap:=[]) vj rfl (bN (pv 2))
    (fun C s' H' fp=>⟨a7 (i:=0) uN rfl (Or.inl rfl),bG,bR (aa (aR (show sK _ (p8 K) from aW) (pv 0) af (fun _ _=>rfl)) (aa (aR (show sK _ (p8 K) from aW) (pv 0) af (fun _ _=>rfl)) ac))⟩)) ac)) rfl))))),?_⟩
  refine⟨_,rfl,n,1,12,rfl,_,rfl,?_⟩
  by_cases hn:1 <= n/\n <= 12
  rotate_left
  ·rw[decide_eq_false hn]
   refine a9 ⟨by show 1 <= sizeLine;decide,?_⟩
   exact h1 (by unfold bM;rw[if_pos (decide_eq_false hn)]) H (v5.refl H)
  rw[decide_eq_true hn]
  refine av ?_
  have zm:vU.length=ps.length:=Paired.length hl
  refine⟨_,rfl,p,_,rfl, .inl hp,_,_,rfl,rfl,_,rfl,?_⟩
  by_cases hm:40 < ps.length
  ·rw[decide_eq_true (show (40:Int) < (vU.length:Nat) by omega)]
   refine a9 ⟨_,rfl,p,_,rfl, .inl hp,by show 1 <= sizeLine;decide,fun e tt he=>⟨e,_,tt,_,rfl,vz,X.ctm,X.ntm,fun d hd=>⟨rfl,?_⟩⟩⟩
   obtain⟨m1,m2,m3⟩:=fP (o:=b8 e c.tm tt none) (o':=b8 e c.tm tt (some d)) (x := .xd [("many", .int (vU.length:Nat))]) he hd
   refine⟨some d,m3,h2 ps.length ?_ _ d m1 (by rw[m2,zm])⟩
   unfold bM
   rw[decide_eq_true hn,if_neg (by decide),if_pos hm]
  rw[decide_eq_false (show ¬ (40:Int) < (vU.length:Nat) by omega)]
  refine av ?_
  refine⟨_,rfl,p,rfl,⟨_,hp⟩,iq (sq:=fun H=>vG K H p) (xs:=vU) (fun i σ H2=>∃ a b:Option V,v5 H H2/\σ=[some (.ref x),some (.int n),some (.ref p),a,b]/\∀ q ∈ ps.take i,j6 n q=true)
   ⟨none,none,v5.refl H,rfl,fun q hq=>by simp at hq⟩ (fun i σ H2 _ v9=>by obtain⟨a,b,s2,_⟩:=v9;exact s2.seq hp) ?_ ?_⟩
  ·rintro i v q σ H2 hv ⟨a,b,s2,rfl,xu⟩ hq
   obtain⟨pr,zE,t,rfl,ht⟩:=vV.get hl hv
   have s3:v5 H (upd H2 q (.tup [.int i, .ref t])):=s2.new hq
   refine⟨q,_,rfl,vO.of vz,rfl,_,_,rfl,_,_,rfl,rfl,?_⟩
   have Bl:vO K (upd H2 q (.tup [.int i, .ref t])) t [.int pr.1, .int pr.2]:=vO.of (s3 _ _ ht)
   refine⟨_,rfl,_,rfl,t,_,0,_,rfl,rfl,Bl,az (j:=0) rfl,?_⟩
   refine⟨_,rfl,t,_,1,_,rfl,rfl,Bl,az (j:=1) rfl,n,pr.1,pr.2,rfl,_,rfl,?_⟩
   cases ho:j6 n (pr.1,pr.2) with
   | true =>
    refine av ⟨some (.int i),some (.ref t),s3,rfl,fun z hz=>?_⟩
    rw[take_succ,zE]at hz
    rcases mem_append.mp hz with hz | hz
    ·exact xu z hz
    ·have:z=pr:=by simpa using hz
     rw[this];exact ho
   | false =>
    refine a9 ⟨_,rfl,by show 1 <= sizeLine;decide,fun e tt he=>⟨e,_,tt,_,rfl,vz,X.cnr,X.nnr,fun d hd=>⟨rfl,?_⟩⟩⟩
    obtain⟨m1,m2,m3⟩:=fP (o:=b8 e c.nr tt none) (o':=b8 e c.nr tt (some d)) (x := .xd [("lane", .int i)]) he hd
    refine⟨some d,m3,h3 i ?_ _ d (s3.trans m1) m2⟩
    unfold bM
    rw[decide_eq_true hn,if_neg (by decide),if_neg hm,i8 xu zE ho]
  ·rintro σ H2 ⟨a,b,s2,rfl,xu⟩
   have DC:bM n ps = .good:=by
    unfold bM
    rw[decide_eq_true hn,if_neg (by decide),if_neg hm,i9 (fun z hz=>xu z (by rw[zm,take_length];exact hz))]
   have Bg:=s2 _ _ hx
   refine⟨_,rfl,_,rfl,x,c.land,dx,_,rfl,Bg,L.cl,L.np,by show 0 < 1000;decide,?_⟩
   generalize Nc:upd H2 x (.ins c.land dx (aQ "places" (.int n) []))=H3
   have o3:Off x H H3:=fun b o hb e=>by rw[← Nc,ae hb];exact s2 _ _ e
   have x3:H3 x=some (.ins c.land dx [("places", .int n)]):=by rw[← Nc,vz];rfl
   have l3:vV H3 vU ps:=o3.BZ hx hl
   have p3:vG K H3 p vU:=o3.sq hx hp
   refine⟨_,rfl,p,rfl,⟨_,p3⟩,b7 vU.length (by rw[sizeLine_eq];omega) (fun i acc H4=>v5 H3 H4/\acc.length=i/\vV H4 acc (ps.take i)) ⟨v5.refl _,rfl, .nil⟩ (fun i acc H4 h=>le_of_eq h.2.1) ?_ ?_⟩
   ·rintro i acc H4 hi ⟨s4,ha,hA⟩
    have q4:=s4.seq p3
    refine⟨⟨vU,vU[i],q4,by simp[hi]⟩,fun y H5 ⟨e5,hy⟩=>?_⟩
    subst e5
    have hy:=hy vU q4
    obtain⟨pr,zE,t,rfl,ht⟩:=vV.get l3 hy
    have Bl:vO K H5 t [.int pr.1, .int pr.2]:=vO.of (s4 _ _ ht)
    refine⟨_,rfl,t,_,0,_,rfl,rfl,Bl,az (j:=0) rfl,?_⟩
    refine⟨_,rfl,t,_,1,_,rfl,rfl,Bl,az (j:=1) rfl,by show 2 <= sizeLine;decide,fun r G0=>?_⟩
    refine⟨s4.new G0,by rw[length_append,ha];rfl,?_⟩
    rw[take_succ,zE]
    exact vV.snoc ⟨r,rfl,vz⟩ (vV.same (v5.new (v5.refl _) G0) hA)
   ·rintro acc H4 ⟨s4,ha,hA⟩
    have q4:=s4.seq p3
    refine⟨⟨vU,q4,le_refl _⟩,fun D hD=>?_⟩
    have s5:v5 H3 (upd H4 D (.lst acc)):=s4.new hD
    refine⟨D,acc,rfl, .inl ⟨vG.of vz,fun t ht=>?_⟩⟩
    have s6:v5 H3 (upd (upd H4 D (.lst acc)) t (.tup acc)):=s5.new ht
    have x6:=s6 _ _ x3
    refine⟨_,rfl,x,c.land,dx,_,rfl,x6,L.cl,L.nl,by show 1 < 1000;decide,?_⟩
    have htx:t ≠ x:=fun z=>by rw[z,s5 _ _ x3]at ht;cases ht
    refine h4 DC _ t acc (fun b o hb e=>?_) ⟨by rw[vz];rfl,by rw[ae htx,vz],?_⟩
    ·rw[ae hb];exact s6 _ _ (o3 b o hb e)
    ·have hA':vV H4 acc ps:=by rw[zm,take_length]at hA;exact hA
     have x4:=s4 _ _ x3
     have zV:vV (upd (upd H4 D (.lst acc)) t (.tup acc)) acc ps:=vV.same (v5.new (v5.new (v5.refl _) hD) ht) hA'
     exact Off.BZ (x:=x) (fun b o hb e=>by rw[ae hb];exact e) x6 zV
noncomputable def ub (c:Cs)(sel:Int × Int->Int):Sp:=fun vs H Q _=>∃ (x dx t:Addr)(n:Int)(vF:List V)(ps:List (Int × Int))(k:Nat)(pr:Int × Int),vs=[.ref x, .int k]/\bU H c x dx t n vF ps/\ps[k]? = some pr/\Q (.int (sel pr)) H
noncomputable def jF (sel:Int × Int->Int)(ps:List (Int × Int))(pl:Int)(m:Nat):List V:=((List.range m).filter fun k=>decide (sel (ps.getD k (0,0))=pl)).map fun k:Nat=>V.int k
noncomputable def qV (c:Cs)(sel:Int × Int->Int):Sp:=fun vs H Q _=>∃ (x dx t:Addr)(n:Int)(vF:List V)(ps:List (Int × Int))(pl:Int),vs=[.ref x, .int pl]/\bU H c x dx t n vF ps/\ps.length <= 1000 /\
 ∀ H' D,v5 H H'->H' D=none->Q (.ref D) (upd H' D (.lst (jF sel ps pl ps.length)))
theorem kD {sel:Int × Int->Int}{ps:List (Int × Int)}{pl:Int}{i:Nat}{pr:Int × Int}(h:ps[i]? = some pr):jF sel ps pl (i + 1)=if decide (sel pr=pl) then jF sel ps pl i ++ [V.int i] else jF sel ps pl i:=by
 have e:ps.getD i (0,0)=pr:=by rw[getD_eq_getElem?_getD,h];rfl
 unfold jF
 rw[range_succ,filter_append]
 by_cases hs:sel pr=pl
 ·rw[if_pos (decide_eq_true hs),List.filter_cons_of_pos (by rw[e];exact decide_eq_true hs)];simp
 ·rw[if_neg (by rw[decide_eq_false hs];decide),List.filter_cons_of_neg (by rw[e,decide_eq_false hs];decide)];simp
theorem nc {sel:Int × Int->Int}{ps:List (Int × Int)}{pl:Int}{i:Nat}:(jF sel ps pl i).length <= i:=by
 unfold jF
 rw[length_map]
 have:=length_filter_le (fun k=>decide (sel (ps.getD k (0,0))=pl)) (List.range i)
 rwa [List.length_range]at this
theorem DF:aj ["self", "lane"] ["self", "lane"] (ag uq):=L2.vX
theorem uL {c:Cs}{f:Addr}{fd:FuncData}(F:vQ K "end_of" "Land.end_of" uq f fd)(L:oH K c):v7 P w K mg base aE 1 f fd ["self", "lane"] (ub c Prod.snd):=by
 refine F.ok DF (fun vs H Q E h=>?_) (fun cdv A outer s H vs Q E hr h=>?_)
 ·obtain⟨x,dx,t,n,vF,ps,k,pr,rfl,_⟩:=h
  rfl
 ·obtain⟨x,dx,t,n,vF,ps,k,pr,rfl,⟨hx,ht,hl⟩,hk,q⟩:=h
  refine⟨_,ah (ay (aR aW (aR aW (aK (pv 0) rfl) (pv 1) (fun _ _=>rfl)) af (fun _ _=>rfl))),?_⟩
  obtain⟨v,hv,u,rfl,hu⟩:=vV.Jt hl hk
  refine⟨_,rfl,x,c.land,dx,_,_,rfl,hx,L.cl,L.nl,rfl,_,rfl,t,_,_,_,rfl,rfl,vO.of ht,az hv,u,_,1,_,rfl,rfl,vO.of hu,az (j:=1) rfl,q⟩
theorem DG:aj ["self", "place"] ["self", "place"] (ag pu):=L2.vX
theorem DH:wM ["self", "place"] (ag pu) (jY pu) ["place"] [1]:=L2.yb
theorem ue:aj ["self", "place"] ["self", "place"] (ag jU):=L2.vX
theorem vi:wM ["self", "place"] (ag jU) (jY jU) ["place"] [1]:=L2.yb
theorem mX:(["lane", "pair", "place"]:List Str).Nodup:=by decide +kernel
theorem ik (a b:Int):decide (V.int a=V.int b)=decide (a=b):=by
 by_cases h:a=b
 ·rw[h];simp
 ·rw[decide_eq_false h,decide_eq_false fun z=>h (by injection z)]
theorem uG {c:Cs}{f:Addr}{fd:FuncData}(F:vQ K "out_of" "Land.out_of" pu f fd)(T:Txt mg)(L:oH K c):v7 P w K mg base aE 1 f fd ["self", "place"] (qV c Prod.fst):=by
 refine F.ok DG (fun vs H Q E h=>?_) (fun cdv A outer s H vs Q E hr h=>?_)
 ·obtain⟨x,dx,t,n,vF,ps,pl,rfl,_⟩:=h
  rfl
 ·obtain⟨x,dx,t,n,vF,ps,pl,rfl,⟨hx,ht,hl⟩,hlen,q⟩:=h
  refine⟨_,ah (ay (bx (own:=["lane", "pair"]) (capN:=["place"]) (cap:=[1]) DH rfl (kg rfl T.enum (aa (aK (pv 0) rfl) ac))
   (fun C s' H' fp=>⟨(show PG _ _ (sk K 2 _) from fK rfl (bz (a7 (i:=0) mX rfl (Or.inl rfl)) (bz (a7 (i:=1) mX rfl (Or.inl rfl)) e6))),
    eY (ao aL (aR (show sK _ (p8 K) from aW) (pv 1) af (fun _ _=>rfl)) (pv 2) (ap _)),pv 0⟩))),?_⟩
  have zm:vF.length=ps.length:=Paired.length hl
  refine⟨_,rfl,x,c.land,dx,_,_,rfl,hx,L.cl,L.nl,rfl,t,rfl,⟨_,vO.of ht⟩,b7 ps.length (by rw[sizeLine_eq];omega) (fun i acc H4=>v5 H H4/\acc=jF Prod.fst ps pl i) ⟨v5.refl _,rfl⟩ (fun i acc H4 h=>by rw[h.2];exact nc) ?_ ?_⟩
  ·rintro i acc H4 hi ⟨s4,rfl⟩
   have q4:vO K H4 t vF:=vO.of (s4 _ _ ht)
   refine⟨⟨vF,vF[i]'(by omega),q4,by simp[zm,hi]⟩,fun y H5 ⟨r,y8,ey,h5⟩=>?_⟩
   obtain⟨v,hv,rfl⟩:=h5 vF q4
   subst ey
   obtain⟨pr,zE,u,rfl,hu⟩:=vV.get hl hv
   have s5:v5 H (upd H4 r (.tup [.int i, .ref u])):=s4.new y8
   refine⟨r,_,rfl,vO.of vz,rfl,_,_,rfl,_,_,rfl,rfl,?_⟩
   refine⟨_,rfl,u,_,0,_,rfl,rfl,vO.of (s5 _ _ hu),az (j:=0) rfl,_,rfl,rfl,_,rfl,?_⟩
   rw[ik,kD zE]
   cases hd:decide (pr.1=pl) with
   | true=>exact a9 ⟨_,rfl,s5,by simp[hd]⟩
   | false=>exact av ⟨s5,by simp[hd]⟩
  ·rintro acc H4 ⟨s4,rfl⟩
   exact⟨⟨vF,vO.of (s4 _ _ ht),zm⟩,fun D hD=>q H4 D s4 hD⟩
theorem rN {c:Cs}{f:Addr}{fd:FuncData}(F:vQ K "into" "Land.into" jU f fd)(T:Txt mg)(L:oH K c):v7 P w K mg base aE 1 f fd ["self", "place"] (qV c Prod.snd):=by
 refine F.ok ue (fun vs H Q E h=>?_) (fun cdv A outer s H vs Q E hr h=>?_)
 ·obtain⟨x,dx,t,n,vF,ps,pl,rfl,_⟩:=h
  rfl
 ·obtain⟨x,dx,t,n,vF,ps,pl,rfl,⟨hx,ht,hl⟩,hlen,q⟩:=h
  refine⟨_,ah (ay (bx (own:=["lane", "pair"]) (capN:=["place"]) (cap:=[1]) vi rfl (kg rfl T.enum (aa (aK (pv 0) rfl) ac))
   (fun C s' H' fp=>⟨(show PG _ _ (sk K 2 _) from fK rfl (bz (a7 (i:=0) mX rfl (Or.inl rfl)) (bz (a7 (i:=1) mX rfl (Or.inl rfl)) e6))),
    eY (ao aL (aR (show sK _ (p8 K) from aW) (pv 1) af (fun _ _=>rfl)) (pv 2) (ap _)),pv 0⟩))),?_⟩
  have zm:vF.length=ps.length:=Paired.length hl
  refine⟨_,rfl,x,c.land,dx,_,_,rfl,hx,L.cl,L.nl,rfl,t,rfl,⟨_,vO.of ht⟩,b7 ps.length (by rw[sizeLine_eq];omega) (fun i acc H4=>v5 H H4/\acc=jF Prod.snd ps pl i) ⟨v5.refl _,rfl⟩ (fun i acc H4 h=>by rw[h.2];exact nc) ?_ ?_⟩
  ·rintro i acc H4 hi ⟨s4,rfl⟩
   have q4:vO K H4 t vF:=vO.of (s4 _ _ ht)
   refine⟨⟨vF,vF[i]'(by omega),q4,by simp[zm,hi]⟩,fun y H5 ⟨r,y8,ey,h5⟩=>?_⟩
   obtain⟨v,hv,rfl⟩:=h5 vF q4
   subst ey
   obtain⟨pr,zE,u,rfl,hu⟩:=vV.get hl hv
   have s5:v5 H (upd H4 r (.tup [.int i, .ref u])):=s4.new y8
   refine⟨r,_,rfl,vO.of vz,rfl,_,_,rfl,_,_,rfl,rfl,?_⟩
   refine⟨_,rfl,u,_,1,_,rfl,rfl,vO.of (s5 _ _ hu),az (j:=1) rfl,_,rfl,rfl,_,rfl,?_⟩
   rw[ik,kD zE]
   cases hd:decide (pr.2=pl) with
   | true=>exact a9 ⟨_,rfl,s5,by simp[hd]⟩
   | false=>exact av ⟨s5,by simp[hd]⟩
  ·rintro acc H4 ⟨s4,rfl⟩
   exact⟨⟨vF,vO.of (s4 _ _ ht),zm⟩,fun D hD=>q H4 D s4 hD⟩
noncomputable def lR (m:Nat):List V:=(Yd.xV m (Builtin.Int.intBits (m:Int))).map fun k:Nat=>V.int k
noncomputable def oU (K:Frag):Sp:=fun vs H Q _=>∃ (a:Addr)(ks:List Nat),vs=[.ref a]/\vG K H a (ks.map fun k:Nat=>V.int k)/\(∀ k ∈ ks,k <= 1000)/\Q (.int (Yd.wz ks 0:Nat)) H
theorem qh {ks:List Nat}{i:Nat}{x:V}(h:(ks.map fun k:Nat=>V.int k)[i]? = some x):∃ k,ks[i]? = some k/\x=V.int k:=by
 rw[List.getElem?_map]at h
 cases e:ks[i]? with
 | none=>rw[e]at h;cases h
 | some k=>rw[e]at h;exact⟨k,rfl,(Option.some.inj h).symm⟩
theorem y9:aj ["numbers", "some", "number"] ["numbers"] (ag uj):=L2.vX
theorem uD {f:Addr}{fd:FuncData}(F:vQ K "set_of" "set_of" uj f fd):v7 P w K mg base aE 1 f fd ["numbers"] (oU K):=by
 refine F.ok y9 (fun vs H Q E h=>?_) (fun cdv A outer s H vs Q E hr h=>?_)
 ·obtain⟨a,ks,rfl,_⟩:=h
  rfl
 ·obtain⟨a,ks,rfl,hS,hk,q⟩:=h
  refine⟨_,ad (ar (i:=1) y9.nd rfl (Or.inl rfl) af)
   (ad (dR PassesOwn.never rfl (bN (pv 0)) (a7 (i:=2) y9.nd rfl (Or.inl rfl))
    (ah (ar (i:=1) y9.nd rfl (Or.inl rfl) (au CA (pv 1) (au u7 af (pv 2))))))
   (ah (ay (pv 1)))),?_⟩
  refine⟨_,rfl,a,rfl,⟨_,hS⟩,ip (K:=K) (a:=a) (xs:=ks.map fun k:Nat=>V.int k) (fun i σ H2=>∃ v:Option V,H2=H/\σ=[some (.ref a),some (.int (Yd.wz (ks.take i) 0:Nat)),v])
   ⟨none,rfl,rfl⟩ (fun i σ H2 _ v9=>by obtain⟨_,e,_⟩:=v9;rw[e];exact hS) ?_ ?_⟩
  ·rintro i x σ H2 hx ⟨v,rfl,rfl⟩
   obtain⟨k,ek,rfl⟩:=qh hx
   have hk':=hk k (mem_of_getElem? ek)
   refine⟨_,rfl,_,rfl,_,_,rfl,rfl,⟨(show (0:Int) <= (k:Int) by omega),(show (k:Int) <= 1000000 by omega),(by decide)⟩,_,_,rfl,rfl,some (.int k),rfl,?_⟩
   have e:Builtin.bitOr ((Yd.wz (ks.take i) 0:Nat):Int) (1 * 2 ^ (k:Int).toNat)=((Yd.wz (ks.take (i + 1)) 0:Nat):Int):=by
    rw[take_succ,ek,toNat_natCast,Int.one_mul,show (2:Int) ^ k=((2 ^ k:Nat):Int) by rw[Int.natCast_pow];rfl,Yd.yJ,Yd.zh]
    rfl
   show [some (V.ref a),some (V.int _),some (V.int k)]=_
   rw[e]
  ·rintro σ H2 ⟨v,rfl,rfl⟩
   refine⟨_,rfl,?_⟩
   rw[length_map,take_length]
   exact q
noncomputable def iz (ks:List Nat):List Int:=ks.map fun k:Nat=>(k:Int)
theorem uW (ks:List Nat):(iz ks).map V.int=ks.map fun k:Nat=>V.int k:=by rw[iz,map_map];rfl
theorem rZ (m:Nat):lR m=(iz (Yd.xV m (Builtin.Int.intBits (m:Int)))).map V.int:=by rw[uW];rfl
theorem sg {ks:List Nat}(h:ks.Pairwise (· < ·)):(iz ks).Pairwise (· < ·):=by
 unfold iz
 rw[List.pairwise_map]
 exact h.imp fun z=>by omega
theorem xB {ks:List Nat}{k:Int}:k ∈ iz ks↔∃ n ∈ ks,(n:Int)=k:=mem_map
theorem lQ {ks:List Nat}{ms:List Int}(h1:ms.Pairwise (· < ·))(h2:∀ k,k ∈ ms↔k ∈ iz ks):iz (Yd.xV (Yd.wz ks 0) (Builtin.Int.intBits ((Yd.wz ks 0:Nat):Int)))=ms:=by
 refine Yd.xW (sg (Yd.yK _ _)) h1 fun k=>?_
 rw[h2 k,xB,xB]
 constructor
 ·rintro⟨n,hn,e⟩
  rw[Yd.xm (Yd.x5 _),Yd.xk]at hn
  exact⟨n,by simpa using hn,e⟩
 ·rintro⟨n,hn,e⟩
  refine⟨n,?_,e⟩
  rw[Yd.xm (Yd.x5 _),Yd.xk]
  simpa using hn
structure Rw where
 p:Int
 g:Int
 c:Option Nat
 s:List Nat
noncomputable def bv (r:Rw):ce:=[some r.p,some r.g,r.c.map fun k:Nat=>(k:Int)]
noncomputable def jM (sel:Int × Int->Int)(ps:List (Int × Int))(pl:Int):List Nat:=(List.range ps.length).filter fun k=>decide (sel (ps.getD k (0,0))=pl)
noncomputable def gq (n:Int)(ps:List (Int × Int))(r:Rw):Bool :=
 j6 n (r.p,r.g) && ((match r.c with | none=>true | some k=>decide (k ∈ jM Prod.snd ps r.p)) && r.s.all fun k=>decide (k ∈ jM Prod.fst ps r.p))
noncomputable def ky (sel:Int × Int->Int)(ps:List (Int × Int))(pl:Int)(k:Nat):Bool:=decide (ps.length <= k) || !decide (sel (ps.getD k (0,0))=pl)
noncomputable def kS (n:Int)(ps:List (Int × Int))(ahead:List Rw)(r:Rw):Bool :=
 !j6 n (r.p,r.g) || ((match r.c with | none=>false | some k=>ky Prod.snd ps r.p k) || ((r.s.any fun k=>ky Prod.fst ps r.p k) || ahead.any fun a=>decide (bv a=bv r)))
theorem ng {sel:Int × Int->Int}{ps:List (Int × Int)}{pl:Int}{k:Nat}:decide (k ∈ jM sel ps pl) = !ky sel ps pl k:=by
 unfold jM ky
 by_cases h1:ps.length <= k
 ·rw[decide_eq_true h1,decide_eq_false]
  ·rfl
  ·intro z
   have:=mem_range.mp (mem_filter.mp z).1
   omega
 ·rw[decide_eq_false h1]
  by_cases h2:sel (ps.getD k (0,0))=pl
  ·rw[decide_eq_true h2,decide_eq_true]
   ·rfl
   ·exact mem_filter.mpr ⟨mem_range.mpr (by omega),decide_eq_true h2⟩
  ·rw[decide_eq_false h2,decide_eq_false]
   ·rfl
   ·intro z
    exact h2 (of_decide_eq_true (mem_filter.mp z).2)
theorem sG {l:List Nat}{f:Nat->Bool}:(l.all fun k=>!f k) = !(l.any f):=by
 induction l with
 | nil=>rfl
 | cons a l ih=>rw[all_cons,any_cons,ih,Bool.not_or]
theorem i7 (n:Int)(ps:List (Int × Int))(ahead:List Rw)(r:Rw):kS n ps ahead r=(!gq n ps r || ahead.any fun a=>decide (bv a=bv r)):=by
 unfold kS gq
 have e:(r.s.all fun k=>decide (k ∈ jM Prod.fst ps r.p)) = !(r.s.any fun k=>ky Prod.fst ps r.p k):=by
  rw[← sG]
  congr 1
  funext k
  exact ng
 rw[e]
 cases hc:r.c with
 | none =>
  dsimp only
  cases j6 n (r.p,r.g)<;>cases (r.s.any fun k=>ky Prod.fst ps r.p k)<;>cases (ahead.any fun a=>decide (bv a=bv r))<;>rfl
 | some k =>
  dsimp only
  rw[ng]
  cases j6 n (r.p,r.g)<;>cases (ky Prod.snd ps r.p k)<;>cases (r.s.any fun k=>ky Prod.fst ps r.p k)<;>cases (ahead.any fun a=>decide (bv a=bv r))<;>rfl
noncomputable def bY (n:Int)(ps:List (Int × Int))(rs:List Rw)(m:Nat):Option Nat:=(List.range m).find? fun k=>kS n ps (rs.take k) (rs.getD k ⟨0,0,none,[]⟩)
theorem iD {n:Int}{ps:List (Int × Int)}{rs:List Rw}:∀ {m:Nat},(∀ k,k < m->kS n ps (rs.take k) (rs.getD k ⟨0,0,none,[]⟩)=false)->bY n ps rs m=none:=by
 intro m h
 unfold bY
 rw[List.find?_eq_none]
 intro k hk
 rw[h k (mem_range.mp hk)]
 decide
theorem iC {n:Int}{ps:List (Int × Int)}{rs:List Rw}{m i:Nat}(hi:i < m)(h:∀ k,k < i->kS n ps (rs.take k) (rs.getD k ⟨0,0,none,[]⟩)=false)(hb:kS n ps (rs.take i) (rs.getD i ⟨0,0,none,[]⟩)=true):bY n ps rs m=some i:=by
 unfold bY
 rw[List.find?_range_eq_some]
 refine⟨hb,mem_range.mpr hi,fun j hj=>?_⟩
 rw[h j hj]
 rfl
noncomputable def ie (rs:List Rw)(k:ce):Option Rw:=rs.reverse.find? fun r=>decide (bv r=k)
theorem lV {rs:List Rw}{r:Rw}{k:ce}:ie (rs ++ [r]) k=if k=bv r then some r else ie rs k:=by
 unfold ie
 rw[List.reverse_append,List.reverse_singleton,List.singleton_append,List.find?_cons]
 by_cases h:bv r=k
 ·rw[decide_eq_true h,if_pos h.symm]
 ·rw[decide_eq_false h,if_neg (Ne.symm h)]
theorem jD {rs:List Rw}{k:ce}:(ie rs k).isSome=rs.any fun r=>decide (bv r=k):=by
 unfold ie
 rw[Bool.eq_iff_iff,List.find?_isSome,any_eq_true]
 exact⟨fun v9=>by obtain⟨x,hx,h⟩:=v9;exact⟨x,List.mem_reverse.mp hx,h⟩,fun v9=>by obtain⟨x,hx,h⟩:=v9;exact⟨x,List.mem_reverse.mpr hx,h⟩⟩
noncomputable def cV:Option Nat->V
 | none => .vJ
 | some k => .int k
noncomputable def lP (ks:List Nat):List V:=ks.map fun k:Nat=>V.int k
noncomputable def Ca (H:Hp)(t l:Addr)(r:Rw):Prop:=H t=some (.tup [.int r.p, .int r.g,cV r.c, .ref l])/\H l=some (.lst (lP r.s))
noncomputable def Nd (H:Hp)(v:V)(r:Rw):Prop:=∃ t l,v = .ref t/\Ca H t l r
abbrev DI (H:Hp):List V->List Rw->Prop:=Paired (Nd H)
theorem Ca.same {H H':Hp}{t l:Addr}{r:Rw}(h:v5 H H')(x:Ca H t l r):Ca H' t l r:=⟨h _ _ x.1,h _ _ x.2⟩
theorem DI.get {H:Hp}:∀ {vs:List V}{rs:List Rw}{i:Nat}{v:V},DI H vs rs->vs[i]? = some v->∃ r,rs[i]? = some r/\Nd H v r
 | _,_,_,_, .nil,e=>by simp at e
 | _,_,0,_, .cons x _,e=>by simp at e;subst e;exact⟨_,rfl,x⟩
 | _,_,i + 1,v, .cons _ t,e=>by
  obtain⟨r,h1,h2⟩:=DI.get (i:=i) (v:=v) t (by simpa using e)
  exact⟨r,by simpa using h1,h2⟩
theorem se (r:Rw):(bv r).map qQ=[.int r.p, .int r.g,cV r.c]:=by
 cases r with
 | mk p g c s=>cases c<;>rfl
theorem lW {sel:Int × Int->Int}{ps:List (Int × Int)}{pl:Int}:jF sel ps pl ps.length=(iz (jM sel ps pl)).map V.int:=by rw[uW];rfl
theorem qu {k:Nat}{l:List Nat}:decide ((k:Int) ∈ iz l)=decide (k ∈ l):=by
 congr 1
 refine propext ⟨fun h=>?_,fun h=>xB.mpr ⟨k,h,rfl⟩⟩
 obtain⟨n,hn,e⟩:=xB.mp h
 have:n=k:=by omega
 rw[← this]
 exact hn
theorem nD (ks l:List Nat):((lP ks).filter fun _=>true).map (fun v=>match v with | .int i=>V.bl (decide (i ∈ iz l)) | _ => .vJ)=(ks.map fun k=>decide (k ∈ l)).map V.bl:=by
 rw[List.filter_eq_self.mpr (fun _ _=>rfl)]
 unfold lP
 rw[map_map,map_map]
 refine map_congr_left fun k _=>?_
 show V.bl (decide ((k:Int) ∈ iz l))=V.bl (decide (k ∈ l))
 rw[qu]
theorem qM (ks:List Nat)(p:Nat->Bool):(ks.map p).all id=ks.all p:=by rw[all_map];rfl
noncomputable def oX (K:Frag):Sp:=fun vs H Q _=>∃ (i:Int)(p:Addr)(ns:List Int),vs=[.int i, .ref p]/\vG K H p (ns.map V.int)/\Q (.bl (decide (i ∈ ns))) H
noncomputable def ly (c:Cs):Sp:=fun vs H Q _=>∃ (x dx lt t l:Addr)(n:Int)(vF:List V)(ps:List (Int × Int))(r:Rw),vs=[.ref x, .ref t]/\bU H c x dx lt n vF ps/\Ca H t l r/\ps.length <= 1000/\r.s.length <= 1000/\∀ H',v5 H H'->Q (.bl (gq n ps r)) H'
structure DJ (K:Frag)(c:Cs)(f3 f4:Addr)(d3 d4:FuncData):Prop where
 m3:eA K c.land "out_of" f3
 m4:eA K c.land "into" f4
 b3:Binds K d3 ["self", "place"] []
 b4:Binds K d4 ["self", "place"] []
abbrev NF:List Str:=["land", "row", "place", "came", "begin_here"]
noncomputable def kU (s:Stmt):Scope:=match s with
 | .Return (some (.Call _ [.ListComp _ _ sc _] _ _)) _=>sc
 | _=>{ kind := .function,names:=[],isGenerator:=false,isCoroutine:=false }
theorem sY:aj ["value", "numbers"] ["value", "numbers"] (ag rb):=L2.vX
theorem uH {f fh:Addr}{fd xK:FuncData}(F:vQ K "is_one_of" "is_one_of" rb f fd)(T:Txt mg)(mh:mg "is_whole" = some (.ref fh))(Fh:vQ K "is_whole" "is_whole" dN fh xK)(bh:Binds K xK ["value"] []) :
  v7 P w K mg base aE 2 f fd ["value", "numbers"] (oX K):=by
 have G:v7 P w K mg base aE 1 fh xK ["value"] gu:=gZ Fh T
 refine F.ok sY (fun vs H Q E h=>?_) (fun cdv A outer s H vs Q E hr h=>?_)
 ·obtain⟨i,p,ns,rfl,_⟩:=h
  rfl
 ·obtain⟨i,p,ns,rfl,hS,q⟩:=h
  refine⟨_,ah (ay (bE (aq G hr rfl mh Fh.kp bh .nil aw (aa (pv 0) ac)) (bJ (bH nY (pv 0) (pv 1) (by with_unfolding_all rfl))))),?_⟩
  refine⟨_,rfl,i,rfl,true,rfl,a9 ?_⟩
  refine⟨_,rfl,_,rfl,p,_,rfl, .inl hS,rfl,iW _,?_⟩
  show Q (V.bl (BS (V.int i) (ns.map V.int))) H
  rw[nj]
  exact q
theorem xC:aj NF ["land", "row"] (ag jW):=L2.vX
theorem vk:wM NF (ag jW) (kU ((ax jW).getD 5 (.Pass ⟨0,0,0,0⟩))) ["begin_here"] [4]:=L2.yb
theorem uP:(["lane", "begin_here"]:List Str).Nodup:=by decide +kernel
theorem rP {c:Cs}{f ft fo f3 f4:Addr}{fd dt d1 d3 d4:FuncData}(F:vQ K "row_fits" "row_fits" jW f fd)(T:Txt mg)(L:oH K c)(M:DJ K c f3 f4 d3 d4)
  (mt:mg "are_two_places" = some (.ref ft)) (kt:keepIn K (.ref ft)=true) (bt:Binds K dt ["places", "one", "other"] []) (Gt:v7 P w K mg base aE 3 ft dt ["places", "one", "other"] m9)
  (mo:mg "is_one_of" = some (.ref fo)) (ko:keepIn K (.ref fo)=true) (bo:Binds K d1 ["value", "numbers"] []) (Go:v7 P w K mg base aE 2 fo d1 ["value", "numbers"] (oX K))
  (G3:v7 P w K mg base aE 1 f3 d3 ["self", "place"] (qV c Prod.fst)) (G4:v7 P w K mg base aE 1 f4 d4 ["self", "place"] (qV c Prod.snd)) :
  v7 P w K mg base aE 4 f fd ["land", "row"] (ly c):=by
 refine F.ok xC (fun vs H Q E h=>?_) (fun cdv A outer s H vs Q E hr h=>?_)
 ·obtain⟨x,dx,lt,t,l,n,vF,ps,r,rfl,_⟩:=h
  rfl
 ·obtain⟨x,dx,lt,t,l,n,vF,ps,r,rfl,hL,hR,hlen,M4,q⟩:=h
  have xf:vE 1 _:=hr.mono (by decide)
  have wC:vE 2 _:=hr.mono (by decide)
  refine⟨_,ad (ar (i:=2) xC.nd rfl (Or.inl rfl) (aR aW (pv 1) af (fun _ _=>rfl)))
   (ad (ar (i:=3) xC.nd rfl (Or.inl rfl) (aR aW (pv 1) af (fun _ _=>rfl)))
   (ad (a8 (aU (bu (aq Gt hr rfl mt kt bt .nil aw (aa (aK (pv 0) rfl) (aa (pv 2) (aa (aR aW (pv 1) af (fun _ _=>rfl)) ac)))))) (ah (ay mS)) am)
   (ad (a8 (PW.pt (gS (ao rB (pv 3) bK (ap _)) (eX (aU (bu (aq Go wC rfl mo ko bo .nil aw (aa (pv 3) (aa (bj (pv 0) L.cl M.m4 G4 xf M.b4 .nil aw (aa (pv 2) ac)) ac)))))))) (ah (ay mS)) am)
   (ad (ar (i:=4) xC.nd rfl (Or.inr rfl) (bj (pv 0) L.cl M.m3 G3 xf M.b3 .nil aw (aa (pv 2) ac)))
   (ah (ay (al (eg rfl) rfl T.all PyProof.Rows.boot_all (aa (bx (own:=["lane"]) (capN:=["begin_here"]) (cap:=[4]) vk rfl (bN (aR aW (pv 1) af (fun _ _=>rfl)))
    (fun C s' H' fp=>⟨a7 (i:=0) uP rfl (Or.inl rfl),bG,aq Go wC rfl mo ko bo .nil aw (aa (pv 0) (aa (pv 1) ac))⟩)) ac)))))))),?_⟩
  obtain⟨hT,hl⟩:=hR
  have Jy:vO K H t [.int r.p, .int r.g,cV r.c, .ref l]:=vO.of hT
  refine⟨_,rfl,t,_,0,_,rfl,rfl,Jy,az (j:=0) rfl,?_⟩
  refine⟨_,rfl,t,_,2,_,rfl,rfl,Jy,az (j:=2) rfl,?_⟩
  refine⟨_,rfl,x,c.land,dx,_,_,rfl,hL.1,L.cl,L.np,rfl,_,rfl,_,rfl,t,_,1,_,rfl,rfl,Jy,az (j:=1) rfl,n,r.p,r.g,rfl,_,rfl,?_⟩
  cases ho:j6 n (r.p,r.g) with
  | false =>
   have e:gq n ps r=false:=by unfold gq;rw[ho];rfl
   refine a9 ?_
   have:=q H (v5.refl H)
   rw[e]at this
   exact this
  | true =>
   refine av ?_
   cases hc:r.c with
   | none =>
    refine⟨_,rfl,rfl,_,rfl,av (av ?_)⟩
    have s1:=v5.refl H
    have e1:gq n ps r=r.s.all fun k=>decide (k ∈ jM Prod.fst ps r.p):=by unfold gq;rw[ho,hc];rfl
    refine⟨_,rfl,x,dx,_,rfl,s1 _ _ hL.1,rfl,_,rfl,x,dx,lt,n,vF,ps,r.p,rfl,⟨s1 _ _ hL.1,s1 _ _ hL.2.1,vV.same s1 hL.2.2⟩,hlen,fun H2 D2 s2 wZ=>?_⟩
    have s3:=(s1.trans s2).new (o := .lst (jF Prod.fst ps r.p ps.length)) wZ
    have g2:(upd H2 D2 (.lst (jF Prod.fst ps r.p ps.length))) D2=some (.lst (jF Prod.fst ps r.p ps.length)):=vz
    generalize upd H2 D2 (.lst (jF Prod.fst ps r.p ps.length))=H3 at s3 g2 ⊢
    refine⟨_,rfl,t,_,3,_,rfl,rfl,vO.of (s3 _ _ hT),az (j:=3) rfl,l,rfl,⟨_,vG.of (s3 _ _ hl)⟩,?_⟩
    refine i3 (xs:=lP r.s) (fun _=>true) (fun v=>match v with | .int i => .bl (decide (i ∈ iz (jM Prod.fst ps r.p))) | _ => .vJ) (by rw[sizeLine_eq];simp only[lP,length_map];omega) (vG.of (s3 _ _ hl)) (fun y acc N hy h=>?_) (fun D hD=>?_)
    ·obtain⟨k',_,rfl⟩:=mem_map.mp hy
     exact⟨_,rfl,_,rfl,(k':Int),D2,iz (jM Prod.fst ps r.p),rfl,by rw[← lW];exact vG.of g2,by simpa using h⟩
    ·rw[nD]
     refine⟨D,r.s.map fun k=>decide (k ∈ jM Prod.fst ps r.p),rfl,vG.of vz,?_⟩
     have:=q _ (s3.new (o := .lst ((r.s.map fun k=>decide (k ∈ jM Prod.fst ps r.p)).map V.bl)) hD)
     rw[e1]at this
     rw[qM]
     exact this
   | some k =>
    refine⟨_,rfl,rfl,_,rfl,a9 ?_⟩
    refine⟨_,rfl,_,rfl,x,dx,_,rfl,hL.1,rfl,_,rfl,x,dx,lt,n,vF,ps,r.p,rfl,hL,hlen,fun H' D s' hD=>?_⟩
    have s1:=s'.new (o := .lst (jF Prod.snd ps r.p ps.length)) hD
    refine⟨(k:Int),D,iz (jM Prod.snd ps r.p),rfl,by rw[← lW];exact vG.of vz,_,rfl,?_⟩
    rw[qu]
    cases hk:decide (k ∈ jM Prod.snd ps r.p) with
    | false =>
     refine a9 ?_
     have e:gq n ps r=false:=by unfold gq;rw[ho,hc];dsimp only;rw[hk];rfl
     have:=q _ s1
     rw[e]at this
     exact this
    | true =>
     have e1:gq n ps r=r.s.all fun k=>decide (k ∈ jM Prod.fst ps r.p):=by unfold gq;rw[ho,hc];dsimp only;rw[hk];rfl
     refine av ?_
     refine⟨_,rfl,x,dx,_,rfl,s1 _ _ hL.1,rfl,_,rfl,x,dx,lt,n,vF,ps,r.p,rfl,⟨s1 _ _ hL.1,s1 _ _ hL.2.1,vV.same s1 hL.2.2⟩,hlen,fun H2 D2 s2 wZ=>?_⟩
     have s3:=(s1.trans s2).new (o := .lst (jF Prod.fst ps r.p ps.length)) wZ
     have g2:(upd H2 D2 (.lst (jF Prod.fst ps r.p ps.length))) D2=some (.lst (jF Prod.fst ps r.p ps.length)):=vz
     generalize upd H2 D2 (.lst (jF Prod.fst ps r.p ps.length))=H3 at s3 g2 ⊢
     refine⟨_,rfl,t,_,3,_,rfl,rfl,vO.of (s3 _ _ hT),az (j:=3) rfl,l,rfl,⟨_,vG.of (s3 _ _ hl)⟩,?_⟩
     refine i3 (xs:=lP r.s) (fun _=>true) (fun v=>match v with | .int i => .bl (decide (i ∈ iz (jM Prod.fst ps r.p))) | _ => .vJ) (by rw[sizeLine_eq];simp only[lP,length_map];omega) (vG.of (s3 _ _ hl)) (fun y acc N hy h=>?_) (fun D hD=>?_)
     ·obtain⟨k',_,rfl⟩:=mem_map.mp hy
      exact⟨_,rfl,_,rfl,(k':Int),D2,iz (jM Prod.fst ps r.p),rfl,by rw[← lW];exact vG.of g2,by simpa using h⟩
     ·rw[nD]
      refine⟨D,r.s.map fun k=>decide (k ∈ jM Prod.fst ps r.p),rfl,vG.of vz,?_⟩
      have:=q _ (s3.new (o := .lst ((r.s.map fun k=>decide (k ∈ jM Prod.fst ps r.p)).map V.bl)) hD)
      rw[e1]at this
      rw[qM]
      exact this
structure Ts where
 loop:Addr
 tree:Addr
 tab:Addr
 told:Addr
 ne:Addr
noncomputable def mB (K:Frag):Sp:=fun vs H Q _=>∃ (x C dx:Addr)(lv:V),vs=[.ref x,lv]/\H x=some (.ins C dx [])/\xh K C/\vB K C "land"/\Q .vJ (upd H x (.ins C dx [("land",lv)]))
noncomputable def qY (r:Rw):V := .int (Yd.wz r.s 0:Nat)
noncomputable def lq (P:Program)(w:World)(K:Frag)(c:Cs)(ts:Ts):Sp:=fun vs H Q E=>∃ (x dx lx vK lt p:Addr)(n:Int)(vF vR:List V)(ps:List (Int × Int))(rs:List Rw),
 vs=[.ref x, .ref lx, .ref p]/\H x=some (.ins ts.told dx [])/\bU H c lx vK lt n vF ps/\vG K H p vR/\DI H vR rs/\vR.length <= 100000/\ps.length <= 1000/\(∀ r ∈ rs,(∀ k ∈ r.s,k <= 1000)/\r.s.length <= 1000) /\
 (∀ i,bY n ps rs rs.length=some i->∀ H' d,Off x H H'->H' d=some (.xd [("row", .int i)])->E (.ref ts.ne) (some d) H') /\
 (bY n ps rs rs.length=none->∀ H' de kvs,Off x H H'->H' x=some (.ins ts.told dx [("land", .ref lx),("entries", .ref de)])->wG P w H' de kvs->(∀ k,c7 kvs k=(ie rs k).map qY)->Q .vJ H')
structure Nf (K:Frag)(mg:Str->Option Value)(ts:Ts)(f1 f2:Addr)(d1 d2:FuncData):Prop where
 ct:xh K ts.tab
 nt:vB K ts.tab "land"
 cd:xh K ts.told
 nd1:vB K ts.told "land"
 Jz:vB K ts.told "entries"
 mt:mg "Table" = some (.ref ts.tab)
 cm:qP K ts.tab "__init__" f1
 bt:Binds K d1 ["self", "land"] []
 mne:mg "NoEntry" = some (.ref ts.ne)
 Ng:aM K ts.ne (some (.ref f2))=true
 kne:keepIn K (.ref ts.ne)=true
 yl:dH K ts.ne
 Nh:findIn K (.ref ts.ne) "row" = some none
 ine:isFn K (.ref f2)=true
 Fne:vQ K "__init__" "NoEntry.__init__" GG f2 d2
 bne:Binds K d2 ["self", "row"] []
abbrev NT:List Str:=["self", "land", "rows", "number", "row", "key"]
theorem Off.land {H H':Hp}{x C dx:Addr}(o:Off x H H')(hx:H x=some (.ins C dx [])){c:Cs}{lx vK lt:Addr}{n:Int}{vF:List V}{ps:List (Int × Int)}(h:bU H c lx vK lt n vF ps):bU H' c lx vK lt n vF ps :=
 ⟨o _ _ (bO h.1 hx (by intro z;cases z)) h.1,o _ _ (bO h.2.1 hx (by intro z;cases z)) h.2.1,o.BZ hx h.2.2⟩
theorem J0:aj ["self", "row"] ["self", "row"] (ag GG):=L2.vX
theorem DL {f:Addr}{fd:FuncData}(F:vQ K "__init__" "NoEntry.__init__" GG f fd):v7 P w K mg base aE 1 f fd ["self", "row"] (nK K "row"):=by
 refine F.ok J0 (fun vs H Q E h=>?_) (fun cdv A outer s H vs Q E hr h=>?_)
 ·obtain⟨e,C,tt,v,rfl,_⟩:=h
  rfl
 ·obtain⟨e,C,tt,v,rfl,h1,h2,h3,q⟩:=h
  refine⟨_,ah (jz (pv 0) (pv 1) rfl),?_⟩
  exact⟨_,rfl,_,rfl,e,C,tt,rfl,h1,h2,h3,q⟩
theorem DM:aj ["self", "land"] ["self", "land"] (ag ui):=L2.vX
theorem uC {f:Addr}{fd:FuncData}(F:vQ K "__init__" "Table.__init__" ui f fd):v7 P w K mg base aE 1 f fd ["self", "land"] (mB K):=by
 refine F.ok DM (fun vs H Q E h=>?_) (fun cdv A outer s H vs Q E hr h=>?_)
 ·obtain⟨x,C,dx,lv,rfl,_⟩:=h
  rfl
 ·obtain⟨x,C,dx,lv,rfl,hx,hc,hn,q⟩:=h
  refine⟨_,ah (aV (pv 0) (pv 1) rfl),?_⟩
  exact⟨_,rfl,_,rfl,x,C,dx,_,rfl,hx,hc,hn,by show 0 < 1000;decide,q⟩
theorem xD:aj NT ["self", "land", "rows"] (ag pj):=L2.vX
theorem rG {c:Cs}{ts:Ts}{f ff fs f1 f2:Addr}{fd df ds d1 d2:FuncData}(F:vQ K "__init__" "Told.__init__" pj f fd)(T:Txt mg)(B:Nf K mg ts f1 f2 d1 d2)(G1:v7 P w K mg base aE 1 f1 d1 ["self", "land"] (mB K))
  (mf:mg "row_fits" = some (.ref ff)) (kf:keepIn K (.ref ff)=true) (bf:Binds K df ["land", "row"] []) (Gf:v7 P w K mg base aE 4 ff df ["land", "row"] (ly c))
  (ms:mg "set_of" = some (.ref fs)) (ks:keepIn K (.ref fs)=true) (bs:Binds K ds ["numbers"] []) (Gs:v7 P w K mg base aE 1 fs ds ["numbers"] (oU K)) :
  v7 P w K mg base (cx P w) 5 f fd ["self", "land", "rows"] (lq P w K c ts):=by
 have Gn:v7 P w K mg base aE 1 f2 d2 ["self", "row"] (nK K "row"):=DL B.Fne
 refine F.xY xD (fun vs H Q E h=>?_) (fun cdv A outer s H vs Q E hr h=>?_)
 ·obtain⟨x,dx,lx,vK,lt,p,n,vF,vR,ps,rs,rfl,_⟩:=h
  rfl
 ·obtain⟨x,dx,lx,vK,lt,p,n,vF,vR,ps,rs,rfl,hx,hL,hp,hR,hlen,zm,Ni,hE,hQ⟩:=h
  have xf:vE 1 _:=hr.mono (by decide)
  have wC:vE 2 _:=hr.mono (by decide)
  have hu:=tz hr
  refine⟨_,ad (aH (km (aA (v := .ref ts.tab) rfl B.mt rfl) B.cm G1 xf B.bt .nil aw (aa (pv 0) (aa (pv 1) ac))))
   (ad (aV (pv 0) (show PE _ _ (sS P w) from r9) rfl)
   (ah (dR j3 rfl (fc rfl T.enum (aa (pv 2) ac)) (fK rfl (bz (a7 (i:=3) xD.nd rfl (Or.inl rfl)) (bz (a7 (i:=4) xD.nd rfl (Or.inl rfl)) e6)))
    (ad (ar (i:=5) xD.nd rfl (Or.inl rfl) (bR (aa (aR aW (pv 4) af (fun _ _=>rfl)) (aa (aR aW (pv 4) af (fun _ _=>rfl)) (aa (aR aW (pv 4) af (fun _ _=>rfl)) ac)))))
    (ad (a8 (PW.pt (eW (aU (bu (aq Gf hr rfl mf kf bf .nil aw (aa (pv 1) (aa (pv 4) ac))))) (dP (pA (uz hu (pv 5) (aK (pv 0) rfl))))))
     (ah (aO rfl B.Ng v8 (gy B.Ng B.ine B.kne Gn wC B.bne rfl B.mne (aa (pv 3) ac)))) am)
    (ah (r6 hu (aK (pv 0) rfl) (pv 5) (aq Gs xf rfl ms ks bs .nil aw (aa (aR aW (pv 4) af (fun _ _=>rfl)) ac)) rfl))))))),?_⟩
  refine⟨rfl,_,rfl,_,rfl,x,ts.told,dx,_,rfl,hx,B.cd,B.nd1,?_⟩
  refine fun de zg=>⟨_,rfl,x,ts.told,dx,[("land", .ref lx)],rfl,by rw[ae (ai vz zg)];exact vz,B.cd,B.Jz,by show 1 < 1000;decide,?_⟩
  have Cb:x ≠ de:=ai vz zg
  have DN:H de=none:=by rw[ae (Ne.symm Cb)]at zg;exact zg
  generalize Bk:upd (upd (upd H x (.ins ts.told dx [("land", .ref lx)])) de (kZ P w de [])) x (.ins ts.told dx (aQ "entries" (.ref de) [("land", .ref lx)]))=H2
  have o2:Off x H H2:=fun b o hb e=>by rw[← Bk,ae hb,ae (ai e DN),ae hb];exact e
  have x2:H2 x=some (.ins ts.told dx [("land", .ref lx),("entries", .ref de)]):=by rw[← Bk,vz];rfl
  have d2:wG P w H2 de []:=⟨by rw[← Bk,ae (Ne.symm Cb),vz],fun y hy=>by cases hy⟩
  have hrs:vR.length=rs.length:=Paired.length hR
  refine⟨_,rfl,p,rfl,⟨_,o2.sq hx hp⟩,iq (sq:=fun H=>vG K H p) (xs:=vR) (fun i σ H3=>∃ (a b k:Option V)(kvs:List gk),Off x H H3/\H3 x=some (.ins ts.told dx [("land", .ref lx),("entries", .ref de)])/\wG P w H3 de kvs/\kvs.length <= i /\
    (∀ k,c7 kvs k=(ie (rs.take i) k).map qY)/\(∀ j,j < i->kS n ps (rs.take j) (rs.getD j ⟨0,0,none,[]⟩)=false)/\σ=[some (.ref x),some (.ref lx),some (.ref p),a,b,k])
   ⟨none,none,none,[],o2,x2,d2,le_refl _,fun k=>rfl,fun j hj=>absurd hj (not_lt_zero _),rfl⟩ (fun i σ H3 _ v9=>by obtain⟨_,_,_,_,o3,_⟩:=v9;exact o3.sq hx hp) ?_ ?_⟩
  ·rintro i v q σ H3 hv ⟨a,b,k,kvs,o3,x3,d3,l3,v3,g3,rfl⟩ hq
   obtain⟨r,hri,t,l,rfl,hT⟩:=DI.get hR hv
   have hi:i < rs.length:=(List.getElem?_eq_some_iff.mp hri).1
   have Nj:rs.getD i ⟨0,0,none,[]⟩ = r:=by rw[getD_eq_getElem?_getD,hri];rfl
   have J6:Ca H3 t l r:=⟨o3 _ _ (bO hT.1 hx (by intro z;cases z)) hT.1,o3 _ _ (bO hT.2 hx (by intro z;cases z)) hT.2⟩
   have DO:=o3.land hx hL
   have s4:v5 H3 (upd H3 q (.tup [.int i, .ref t])):=(v5.refl H3).new hq
   refine⟨q,_,rfl,vO.of vz,rfl,_,_,rfl,_,_,rfl,rfl,?_⟩
   generalize upd H3 q (.tup [.int i, .ref t])=H4 at s4 ⊢
   have J7:vO K H4 t [.int r.p, .int r.g,cV r.c, .ref l]:=vO.of (s4 _ _ J6.1)
   refine⟨_,rfl,t,_,0,_,rfl,rfl,J7,az (j:=0) rfl,_,rfl,t,_,1,_,rfl,rfl,J7,az (j:=1) rfl,_,rfl,t,_,2,_,rfl,rfl,J7,az (j:=2) rfl,by show 3 <= sizeLine;decide,fun kt hkt=>?_⟩
   have s5:v5 H3 (upd H4 kt (.tup [.int r.p, .int r.g,cV r.c])):=s4.new hkt
   have k5:(upd H4 kt (.tup [.int r.p, .int r.g,cV r.c])) kt=some (.tup ((bv r).map qQ)):=by rw[se];exact vz
   generalize upd H4 kt (.tup [.int r.p, .int r.g,cV r.c])=H5 at s5 k5 ⊢
   refine⟨_,rfl,_,rfl,lx,vK,lt,t,l,n,vF,ps,r,rfl,⟨s5 _ _ DO.1,s5 _ _ DO.2.1,vV.same s5 DO.2.2⟩,J6.same s5,zm,(Ni r (mem_of_getElem? hri)).2,fun H6 Nk=>⟨_,rfl,?_⟩⟩
   have s6:=s5.trans Nk
   have k6:=Nk _ _ k5
   have x6:=s6 _ _ x3
   have d6:=d3.same s6
   have Az:kS n ps (rs.take i) r=true->∀ e tt,H6 e=none->∀ d,upd H6 e (b8 e ts.ne tt none) d=none ->
     ∃ dd,(upd (upd (upd H6 e (b8 e ts.ne tt none)) d (.xd [("row", .int i)])) e (b8 e ts.ne tt (some d))) e=some (b8 e ts.ne tt dd)/\E (.ref ts.ne) dd (qG (upd (upd (upd H6 e (b8 e ts.ne tt none)) d (.xd [("row", .int i)])) e (b8 e ts.ne tt (some d))) e):=by
    intro hb e tt he d hd
    obtain⟨m1,m2,m3⟩:=fP (o:=b8 e ts.ne tt none) (o':=b8 e ts.ne tt (some d)) (x := .xd [("row", .int i)]) he hd
    exact⟨some d,m3,hE i (iC hi g3 (by rw[Nj];exact hb)) _ d (o3.same (s6.trans m1)) m2⟩
   cases hf:gq n ps r with
   | false =>
    refine a9 (a9 ⟨_,rfl,by show 1 <= sizeLine;decide,fun e tt he=>⟨e,_,tt,_,rfl,vz,B.yl,B.Nh,fun d hd=>⟨rfl,?_⟩⟩⟩)
    exact Az (by rw[i7,hf];rfl) e tt he d hd
   | true =>
    refine av ⟨_,rfl,_,rfl,x,ts.told,dx,_,_,rfl,x6,B.cd,B.Jz,rfl,de,_,rfl,⟨kvs,bv r,kt,d6,rfl,k6,rfl⟩,_,rfl,?_⟩
    have eS:(c7 kvs (bv r)).isSome=(rs.take i).any fun a=>decide (bv a=bv r):=by rw[v3,Option.isSome_map,jD]
    cases hS:(c7 kvs (bv r)).isSome with
    | true =>
     refine a9 ⟨_,rfl,by show 1 <= sizeLine;decide,fun e tt he=>⟨e,_,tt,_,rfl,vz,B.yl,B.Nh,fun d hd=>⟨rfl,?_⟩⟩⟩
     exact Az (by rw[i7,hf,← eS,hS];rfl) e tt he d hd
    | false =>
     refine av ?_
     have Nl:=J6.same s6
     refine⟨_,rfl,t,_,3,_,rfl,rfl,vO.of Nl.1,az (j:=3) rfl,l,r.s,rfl,vG.of Nl.2,(Ni r (mem_of_getElem? hri)).1,?_⟩
     refine⟨_,rfl,x,ts.told,dx,_,_,rfl,x6,B.cd,B.Jz,rfl,_,rfl,de,kvs,bv r,kt,rfl,d6,rfl,k6,by rw[sizeLine_eq];omega,?_⟩
     have Nm:x ≠ de:=Cb
     refine⟨_,_,_,fJ kvs (bv r) kt (qY r),fun b' o hb e=>?_,?_,⟨vz,nO (F:=fun k a=>(upd H6 de (kZ P w de (fJ kvs (bv r) kt (qY r)))) a=some (.tup (k.map qQ))) (fun y hy=>?_) ?_⟩,?_,fun k'=>?_,fun j hj=>?_,rfl⟩
     ·rw[ae (ai e DN)];exact s6 _ _ (o3 _ _ hb e)
     ·rw[ae Cb];exact x6
     ·rw[ae (bO (d6.2 y hy) d6.1 (by intro z;cases z))];exact d6.2 y hy
     ·rw[ae (bO k6 d6.1 (by intro z;cases z))];exact k6
     ·exact le_trans fY (Nat.succ_le_succ l3)
     ·rw[oJ,take_succ,hri,Option.toList_some,lV,v3]
      by_cases hk:k' = bv r
      ·rw[if_pos hk,if_pos hk];rfl
      ·rw[if_neg hk,if_neg hk]
     ·rcases Nat.lt_or_ge j i with h | h
      ·exact g3 j h
      ·have:j=i:=by omega
       subst this
       rw[Nj,i7,hf,← eS,hS];rfl
  ·rintro σ H3 ⟨a,b,k,kvs,o3,x3,d3,l3,v3,g3,rfl⟩
   rw[hrs]at g3 v3
   rw[take_length]at v3
   exact hQ (iD g3) H3 de kvs o3 x3 d3 v3
theorem mZ {H:Hp}{l:Addr}{xs:List V}{o:HO}(hl:H l=some (.lst xs)):∀ {vs:List V}{ps:List (Int × Int)},vV H vs ps->vV (upd H l o) vs ps:=fun v9=>by
 induction v9 with
 | nil=>exact .nil
 | cons zz r ih=>obtain⟨t,e,q⟩:=zz;exact .cons ⟨t,e,by rw[ae (bO q hl (by intro z;cases z))];exact q⟩ ih
noncomputable def fu:Scope:={ kind := .function,names:=[],isGenerator:=false,isCoroutine:=false }
abbrev oF:=Hp->Addr->Nat->(ce->Nat)->Prop
noncomputable def ji (J:oF):Sp:=fun vs H Q _=>∃ (x:Addr)(n:Nat)(wy:ce->Nat)(r:Rw),vs=[.ref x, .int r.p, .int r.g,cV r.c]/\J H x n wy/\(0 <= r.p/\r.p < n)/\(0 <= r.g/\r.g < n)/\∀ H' D,v5 H H'->H' D=none->Q (.ref D) (upd H' D (.lst (lR (wy (bv r)))))
structure vp (K:Frag)(C fw:Addr)(dw:FuncData)(J:oF):Prop where
 cl:xh K C
 m:eA K C "ways" fw
 b:Binds K dw ["self", "place", "goal", "came"] []
 inst:∀ H x n wy,J H x n wy->∃ dx fs,H x=some (.ins C dx fs)/\fs.lookup ("ways":Str)=none
 wD:∀ H H' x n wy,J H x n wy->v5 H H'->J H' x n wy
end K45
namespace K45
open PySem L2
abbrev As:=List (Nat × Option Nat)
noncomputable def addW (l:Option Nat)(a:As)(ws:List Nat):As:=ws.foldl (fun a x=>if x ∈ a.map (·.1) then a else a ++ [(x,l)]) a
noncomputable def gQ (on:Nat->List Nat):Nat->As->Nat->As
 | 0,a,_=>a
 | f + 1,a,i=>match a[i]? with
  | some x=>gQ on f (addW (some x.1) a (on x.1)) (i + 1)
  | none=>a
structure xM (L:Nat)(a:As):Prop where
 nd:(a.map (·.1)).Nodup
 lt:∀ x ∈ a,x.1 < L
theorem hG:∀ (n:Nat)(l:List Nat),l.Nodup->(∀ x ∈ l,x < n)->l.length <= n
 | 0,l,_,h=>by
  cases l with
  | nil=>exact le_refl _
  | cons x l=>exact absurd (h x mem_cons_self) (not_lt_zero _)
 | n + 1,l,hn,h=>by
  by_cases hm:n ∈ l
  ·have e:=List.length_erase_of_mem hm
   have:=hG n (l.erase n) (hn.erase n) fun x hx=>by
    have wV:=(hn.mem_erase_iff).mp hx
    have:=h x wV.2
    have:=wV.1
    omega
   omega
  ·have:=hG n l hn fun x hx=>by
    have:=h x hx
    have:x ≠ n:=fun z=>hm (by rw[← z];exact hx)
    omega
   omega
theorem xM.zW {L:Nat}{a:As}(h:xM L a):a.length <= L:=by
 have:=hG L (a.map (·.1)) h.nd fun x hx=>by
  obtain⟨y,hy,rfl⟩:=mem_map.mp hx
  exact h.lt y hy
 rwa [length_map]at this
theorem xM.add {L:Nat}{a:As}{l:Option Nat}{x:Nat}(h:xM L a)(hx:x < L)(hn:x ∉ a.map (·.1)):xM L (a ++ [(x,l)]) where
 nd:=by
  rw[map_append,List.nodup_append]
  refine⟨h.nd,by simp,fun y hy c hc=>?_⟩
  have hc:c=x:=by simpa using hc
  intro z
  rw[z,hc]at hy
  exact hn hy
 lt:=fun y hy=>by
  rcases mem_append.mp hy with hy | hy
  ·exact h.lt y hy
  ·rw[mem_singleton.mp hy];exact hx
theorem jb (l:Option Nat)(a:As)(ws:List Nat)(x:Nat):addW l a (ws ++ [x])=if x ∈ (addW l a ws).map (·.1) then addW l a ws else addW l a ws ++ [(x,l)]:=by
 unfold addW
 rw[List.foldl_append];rfl
theorem p6 {on:Nat->List Nat}{a:As}{i:Nat}(h:a[i]? = none):∀ f,gQ on f a i=a
 | 0=>rfl
 | f + 1=>by unfold gQ;rw[h]
theorem nN {on:Nat->List Nat}{a:As}{i f:Nat}{x:Nat × Option Nat}(h:a[i]? = some x):gQ on (f + 1) a i=gQ on f (addW (some x.1) a (on x.1)) (i + 1):=by
 rw[gQ,h]
noncomputable def nV (ps:List Nat):List V:=ps.map fun q:Nat=>V.int (q:Int)
theorem bT (ps:List Nat):(nV ps).length=ps.length:=by simp[nV]
theorem hU {ps:List Nat}{k q:Nat}(h:ps[k]? = some q):(nV ps)[k]? = some (V.int (q:Int)):=by simp[nV,h]
theorem qj (a b:List Nat):nV (a ++ b)=nV a ++ nV b:=by unfold nV;rw[map_append]
noncomputable def wl (wy:ce->Nat)(k:ce):List Nat:=Yd.xV (wy k) (Builtin.Int.intBits ((wy k:Nat):Int))
theorem j9 (wy:ce->Nat)(k:ce):lR (wy k)=nV (wl wy k):=rfl
noncomputable def pO (wy:ce->Nat)(ps:List (Int × Int))(g l:Nat):List Nat:=if (ps.getD l (0,0)).2=(g:Int) then [] else wl wy [some (ps.getD l (0,0)).2,some (g:Int),some (l:Int)]
noncomputable def aX (wy:ce->Nat)(g m:Nat):List Nat:=(List.range m).flatMap fun p:Nat=>wl wy [some (p:Int),some (g:Int),none]
theorem iu (wy:ce->Nat)(g m:Nat):aX wy g (m + 1)=aX wy g m ++ wl wy [some (m:Int),some (g:Int),none]:=by
 unfold aX
 rw[range_succ,List.flatMap_append];simp
structure wO (c:Cs)(C:Addr)(J:oF)(H:Hp)(x lx vK lt:Addr)(n:Nat)(vF:List V)(ps:List (Int × Int))(wy:ce->Nat):Prop where
 j:J H x n wy
 i:∃ dx fs,H x=some (.ins C dx fs)/\fs.lookup ("land":Str)=some (.ref lx)
 l:bU H c lx vK lt (n:Int) vF ps
 DP:n <= 12
 zW:ps.length <= 40
 ok:∀ k,∀ z ∈ wl wy k,z < ps.length
 nr:∀ k,(wl wy k).length <= 40
 pk:∀ q ∈ ps,j6 n q=true
theorem wO.same {K:Frag}{c:Cs}{C fw:Addr}{dw:FuncData}{J:oF}{H H':Hp}{x lx vK lt:Addr}{n:Nat}{vF:List V}{ps:List (Int × Int)}{wy:ce->Nat}(W:vp K C fw dw J)(h:wO c C J H x lx vK lt n vF ps wy)(s:v5 H H'):wO c C J H' x lx vK lt n vF ps wy :=
 ⟨W.wD _ _ _ _ _ h.j s,let ⟨dx,fs,h1,h2⟩:=h.i; ⟨dx,fs,s _ _ h1,h2⟩,⟨s _ _ h.l.1,s _ _ h.l.2.1,vV.same s h.l.2.2⟩,h.DP,h.zW,h.ok,h.nr,h.pk⟩
theorem rS {n:Int}{q:Int × Int}(h:j6 n q=true):0 <= q.2/\q.2 < n:=by
 unfold j6 at h
 simp only[Bool.and_eq_true,decide_eq_true_eq]at h
 omega
structure DQ (K:Frag)(c:Cs)(f:Addr)(d:FuncData):Prop where
 m:eA K c.land "end_of" f
 b:Binds K d ["self", "lane"] []
noncomputable def tZ (c:Cs)(C:Addr)(J:oF):Sp:=fun vs H Q _=>∃ (x lx vK lt:Addr)(n:Nat)(vF:List V)(ps:List (Int × Int))(wy:ce->Nat)(l g:Nat),vs=[.ref x, .int l, .int g]/\wO c C J H x lx vK lt n vF ps wy/\l < ps.length/\g < n /\
 ∀ (D:Addr)(H':Hp),v5 H H'->H D=none->H' D=some (.lst (nV (pO wy ps g l)))->Q (.ref D) H'
noncomputable def js (c:Cs)(C:Addr)(J:oF):Sp:=fun vs H Q _=>∃ (x lx vK lt:Addr)(n:Nat)(vF:List V)(ps:List (Int × Int))(wy:ce->Nat)(g:Nat),vs=[.ref x, .int g]/\wO c C J H x lx vK lt n vF ps wy/\g < n /\
 ∀ (D:Addr)(H':Hp),v5 H H'->H D=none->H' D=some (.lst (nV (aX wy g n)))->Q (.ref D) H'
theorem cu (a b:Int):decide (V.int a=V.int b)=decide (a=b):=by
 by_cases h:a=b
 ·rw[h];simp
 ·rw[decide_eq_false h,decide_eq_false fun z=>h (by injection z)]
theorem DR:aj ["table", "lane", "goal", "end"] ["table", "lane", "goal"] (ag Jr):=L2.vX
theorem DS {c:Cs}{J:oF}{C f fw fe:Addr}{fd dw de:FuncData}(F:vQ K "onward" "onward" Jr f fd)(L:oH K c)(W:vp K C fw dw J)(nl:vB K C "land")(Gw:v7 P w K mg base aE 3 fw dw ["self", "place", "goal", "came"] (ji J))
  (M:DQ K c fe de) (Ge:v7 P w K mg base aE 1 fe de ["self", "lane"] (ub c Prod.snd)):v7 P w K mg base aE 4 f fd ["table", "lane", "goal"] (tZ c C J):=by
 refine F.ok DR (fun vs H Q E h=>?_) (fun cdv A outer s H vs Q E hr h=>?_)
 ·obtain⟨x,lx,vK,lt,n,vF,ps,wy,l,g,rfl,_⟩:=h
  rfl
 ·obtain⟨x,lx,vK,lt,n,vF,ps,wy,l,g,rfl,hT,hl,hg,q⟩:=h
  have xf:vE 1 _:=hr.mono (by decide)
  refine⟨_,ad (ar (i:=3) DR.nd rfl (Or.inl rfl) (bj (aK (pv 0) rfl) L.cl M.m Ge xf M.b .nil aw (aa (pv 1) ac)))
   (ah (ay (fj (ao aL (pv 3) (pv 2) (ap _)) (aD ac) (bj (pv 0) W.cl W.m Gw hr W.b .nil aw (aa (pv 3) (aa (pv 2) (aa (pv 1) ac))))))),?_⟩
  obtain⟨dx,fs,hx,hf⟩:=hT.i
  obtain⟨dx',HC,wV,J8⟩:=W.inst _ _ _ _ hT.j
  rw[hx]at wV
  injection wV with wV
  injection wV with _ e1 e2
  subst e1 e2
  have he:=List.getElem?_eq_getElem hl
  have heD:ps.getD l (0,0)=ps[l]:=by rw[getD_eq_getElem?_getD,he];rfl
  unfold pO at q
  rw[heD]at q
  generalize ps[l]=pr at he q
  refine⟨_,rfl,x,C,dx,fs,_,rfl,hx,W.cl,nl,hf,lx,vK,_,rfl,hT.l.1,rfl,_,rfl,lx,vK,lt,(n:Int),vF,ps,l,pr,rfl,hT.l,he,?_⟩
  refine⟨_,rfl,_,rfl,rfl,_,rfl,?_⟩
  rw[cu]
  by_cases h1:pr.2=(g:Int)
  ·rw[decide_eq_true h1]
   rw[if_pos h1]at q
   exact a9 ⟨zero_le _,fun D hD=>q D _ ((v5.refl H).new hD) hD vz⟩
  ·rw[decide_eq_false h1]
   rw[if_neg h1]at q
   exact av ⟨_,rfl,x,dx,fs,rfl,hx,J8,_,rfl,_,rfl,_,rfl,x,n,wy,⟨pr.2,(g:Int),some l,[]⟩,rfl,hT.j,rS (hT.pk pr (mem_of_getElem? he)),⟨natCast_nonneg g,ofNat_lt.mpr hg⟩,fun H' D s' hD=>q D _ (s'.new hD) (s'.free hD) vz⟩
theorem Bv:aj ["table", "goal", "found", "place"] ["table", "goal"] (ag lF):=L2.vX
theorem qb {c:Cs}{J:oF}{C f fw:Addr}{fd dw:FuncData}(F:vQ K "first_lanes" "first_lanes" lF f fd)(T:Txt mg)(L:oH K c)(W:vp K C fw dw J)(nl:vB K C "land")(Gw:v7 P w K mg base aE 3 fw dw ["self", "place", "goal", "came"] (ji J)) :
  v7 P w K mg base aE 4 f fd ["table", "goal"] (js c C J):=by
 refine F.ok Bv (fun vs H Q E h=>?_) (fun cdv A outer s H vs Q E hr h=>?_)
 ·obtain⟨x,lx,vK,lt,n,vF,ps,wy,g,rfl,_⟩:=h
  rfl
 ·obtain⟨x,lx,vK,lt,n,vF,ps,wy,g,rfl,hT,hg,q⟩:=h
  refine⟨_,ad (ar (i:=2) Bv.nd rfl (Or.inl rfl) (aD ac))
   (ad (dR PassesOwn.never rfl (et rfl T.range (aa (aK (aK (pv 0) rfl) rfl) ac)) (a7 (i:=3) Bv.nd rfl (Or.inl rfl))
    (ah (aH (fZ plainAttrs_list PySem.F.slot_list_extend PySem.F.type_list_extend om (pv 2) (aa (bj (pv 0) W.cl W.m Gw hr W.b .nil aw (aa (pv 3) (aa (pv 1) (aa bK ac)))) ac)))))
   (ah (ay (pv 2)))),?_⟩
  obtain⟨dx,fs,hx,hf⟩:=hT.i
  obtain⟨dx',HC,wV,J8⟩:=W.inst _ _ _ _ hT.j
  rw[hx]at wV
  injection wV with wV
  injection wV with _ e1 e2
  subst e1 e2
  have hn:=hT.DP
  refine⟨zero_le _,fun D hD=>?_⟩
  have s0:=(v5.refl H).new (o := .lst []) hD
  refine⟨_,rfl,x,C,dx,fs,_,rfl,s0 _ _ hx,W.cl,nl,hf,lx,c.land,vK,_,_,rfl,s0 _ _ hT.l.1,L.cl,L.np,rfl,(n:Int),rfl,by omega,by omega,?_⟩
  rw[toNat_natCast]
  refine iU (n:=n) (fun i σ H2=>∃ a3:Option V,v5 H H2/\H2 D=some (.lst (nV (aX wy g i)))/\(aX wy g i).length <= 40 * i/\σ=[some (.ref x),some (.int g),some (.ref D),a3])
   ⟨none,s0,vz,zero_le _,rfl⟩ ?_ ?_
  ·rintro i σ H2 hi ⟨a3,s2,gD,hl,rfl⟩
   rw[Int.zero_add]
   refine⟨_,rfl, .inl ⟨rfl,_,vG.of gD⟩,_,rfl,x,dx,fs,rfl,s2 _ _ hx,J8,_,rfl,_,rfl,x,n,wy,⟨(i:Int),(g:Int),none,[]⟩,rfl,W.wD _ _ _ _ _ hT.j s2,⟨natCast_nonneg i,ofNat_lt.mpr hi⟩,⟨natCast_nonneg g,ofNat_lt.mpr hg⟩,fun H3 D3 s3 zX=>?_⟩
   have hk:bv ⟨(i:Int),(g:Int),none,[]⟩ = [some (i:Int),some (g:Int),none]:=rfl
   rw[hk,j9]
   have s4:=s3.new (o := .lst (nV (wl wy [some (i:Int),some (g:Int),none]))) zX
   have g4:(upd H3 D3 (.lst (nV (wl wy [some (i:Int),some (g:Int),none])))) D3=some (.lst (nV (wl wy [some (i:Int),some (g:Int),none]))):=vz
   generalize upd H3 D3 (.lst (nV (wl wy [some (i:Int),some (g:Int),none])))=H4 at s4 g4 ⊢
   have hw:=hT.nr [some (i:Int),some (g:Int),none]
   refine⟨D,D3,_,_,rfl,rfl,s4 _ _ gD,g4,by rw[sizeLine_eq,bT,bT];omega,?_⟩
   refine⟨_,fun b o e=>by rw[ae (ai e hD)];exact s4 _ _ (s2 _ _ e),by rw[vz,iu,qj],by rw[iu,length_append];omega,rfl⟩
  ·rintro σ H2 ⟨a3,s2,gD,hl,rfl⟩
   exact⟨_,rfl,q D H2 s2 hD gD⟩
noncomputable def oV:Option Nat->V
 | some l => .int (l:Int)
 | none => .vJ
noncomputable def ak (x:Nat × Option Nat):L2.Key × V:=(Sum.inl (x.1:Int),oV x.2)
theorem iA (p:Nat):∀ a:As,(eJ (a.map ak) (Sum.inl (p:Int))).isSome=decide (p ∈ a.map (·.1))
 | []=>rfl
 | x :: a=>by
  have ih:=iA p a
  rw[map_cons]
  by_cases h:x.1=p
  ·rw[eO (show(ak x).1=Sum.inl (p:Int) by rw[← h];rfl),decide_eq_true (by rw[map_cons,h];exact mem_cons_self)];rfl
  ·rw[eP (show ¬ (ak x).1=Sum.inl (p:Int) from fun z=>h (by have:=Sum.inl.inj z;omega)),ih,map_cons]
   by_cases hm:p ∈ a.map (·.1)
   ·rw[decide_eq_true hm,decide_eq_true (mem_cons_of_mem _ hm)]
   ·rw[decide_eq_false hm,decide_eq_false fun z=>(mem_cons.mp z).elim (fun e=>h e.symm) hm]
theorem mJ {a:As}{x:Nat}{c:Option Nat}(h:x ∉ a.map (·.1)):dQ (a.map ak) (Sum.inl (x:Int)) (oV c)=(a ++ [(x,c)]).map ak:=by
 have hv:eJ (a.map ak) (Sum.inl (x:Int))=none:=by
  have:=iA x a
  rw[decide_eq_false h]at this
  exact Option.not_isSome_iff_eq_none.mp (by rw[this];decide)
 rw[p9 _ hv,map_append];rfl
theorem rn {a:As}{x:Nat}(xu:∀ y ∈ a,y.2=none)(h:x ∈ a.map (·.1)):dQ (a.map ak) (Sum.inl (x:Int)) .vJ=a.map ak:=by
 unfold dQ
 rw[eQ,iA,decide_eq_true h,if_pos rfl,map_map]
 refine map_congr_left fun y hy=>?_
 show(if (ak y).1=Sum.inl (x:Int) then ((ak y).1,V.vJ) else ak y)=ak y
 split
 ·unfold ak;rw[xu y hy];rfl
 ·rfl
theorem kW:∀ (ws:List Nat)(a:As),(∀ y ∈ a,y.2=none)->∀ y ∈ addW none a ws,y.2=none
 | [],a,h=>h
 | x :: ws,a,h=>by
  show ∀ y ∈ addW none (if x ∈ a.map (·.1) then a else a ++ [(x,none)]) ws,y.2=none
  refine kW ws _ ?_
  split
  ·exact h
  ·intro y hy
   rcases mem_append.mp hy with hy | hy
   ·exact h y hy
   ·rw[mem_singleton.mp hy]
theorem xM.addW {L:Nat}{l:Option Nat}:∀ (ws:List Nat){a:As},xM L a->(∀ x ∈ ws,x < L)->xM L (K45.addW l a ws)
 | [],a,h,_=>h
 | x :: ws,a,h,hw=>by
  show xM L (K45.addW l (if x ∈ a.map (·.1) then a else a ++ [(x,l)]) ws)
  refine xM.addW ws ?_ fun y hy=>hw y (mem_cons_of_mem _ hy)
  split
  ·exact h
  ·exact h.add (hw x mem_cons_self) (by assumption)
noncomputable def dG (wy:ce->Nat)(ps:List (Int × Int))(n g:Nat):As:=gQ (pO wy ps g) ps.length (addW none [] (aX wy g n)) 0
noncomputable def jv (c:Cs)(C:Addr)(J:oF):Sp:=fun vs H Q _=>∃ (x lx vK lt:Addr)(n:Nat)(vF:List V)(ps:List (Int × Int))(wy:ce->Nat)(g:Nat),vs=[.ref x, .int g]/\wO c C J H x lx vK lt n vF ps wy/\g < n /\
 ∀ (D:Addr)(H':Hp),v5 H H'->H D=none->xM ps.length (dG wy ps n g)->H' D=some (.dK ((dG wy ps n g).map ak))->Q (.ref D) H'
abbrev NAh:List Str:=["table", "goal", "ahead", "lane", "line", "looked_at", "way"]
theorem yd:aj NAh ["table", "goal"] (ag lI):=L2.vX
theorem qe {c:Cs}{J:oF}{C f fw ff fo:Addr}{fd dw df Nn:FuncData}(F:vQ K "lanes_ahead" "lanes_ahead" lI f fd)(T:Txt mg)(W:vp K C fw dw J)
  (mf:mg "first_lanes" = some (.ref ff)) (kf:keepIn K (.ref ff)=true) (bf:Binds K df ["table", "goal"] []) (Gf:v7 P w K mg base aE 4 ff df ["table", "goal"] (js c C J))
  (mo:mg "onward" = some (.ref fo)) (ko:keepIn K (.ref fo)=true) (bo:Binds K Nn ["table", "lane", "goal"] []) (Go:v7 P w K mg base aE 4 fo Nn ["table", "lane", "goal"] (tZ c C J)) :
  v7 P w K mg base aE 5 f fd ["table", "goal"] (jv c C J):=by
 refine F.ok yd (fun vs H Q E h=>?_) (fun cdv A outer s H vs Q E hr h=>?_)
 ·obtain⟨x,lx,vK,lt,n,vF,ps,wy,g,rfl,_⟩:=h
  rfl
 ·obtain⟨x,lx,vK,lt,n,vF,ps,wy,g,rfl,hT,hg,q⟩:=h
  have hu:=tz hr
  have h40:=hT.zW
  refine⟨_,ad (ar (i:=2) yd.nd rfl (Or.inl rfl) pI)
   (ad (dR PassesOwn.never rfl (bN (aq Gf hr rfl mf kf bf .nil aw (aa (pv 0) (aa (pv 1) ac)))) (a7 (i:=3) yd.nd rfl (Or.inl rfl))
    (ah (mP hu (pv 2) (pv 3) bK rfl)))
   (ad (ar (i:=4) yd.nd rfl (Or.inl rfl) (bC (i6 rfl) rfl T.list PySem.Pv.boot_list (aa (pv 2) ac)))
   (ad (ar (i:=5) yd.nd rfl (Or.inl rfl) af)
   (ad (jZ PassesOwn.never (ao kx (pv 5) (al aJ rfl T.len PySem.boot_len (aa (pv 4) ac)) (ap _))
    (ad (ar (i:=3) yd.nd rfl (Or.inl rfl) (aR bP (pv 4) (pv 5) (fun _ _=>rfl)))
    (ad (uu (i:=5) yd.nd rfl (Or.inl rfl) af uX)
    (ah (dR PassesOwn.never rfl (bN (aq Go hr rfl mo ko bo .nil aw (aa (pv 0) (aa (pv 3) (aa (pv 1) ac))))) (a7 (i:=6) yd.nd rfl (Or.inl rfl))
     (ah (a8 (pA (nR hu (pv 6) (pv 2)))
      (ad (mP hu (pv 2) (pv 6) (pv 3) rfl)
      (ah (aH (fZ plainAttrs_list PySem.F.slot_list_append PySem.F.type_list_append cS (pv 4) (aa (pv 6) ac))))) am)))))))
   (ah (ay (pv 2))))))),?_⟩
  refine fun fa Cc=>?_
  have s0:=(v5.refl H).new (o := .dK []) Cc
  have J9:(upd H fa (.dK [])) fa=some (.dK ([].map ak)):=vz
  generalize upd H fa (.dK [])=H0 at s0 J9 ⊢
  refine⟨_,rfl,_,rfl,x,lx,vK,lt,n,vF,ps,wy,g,rfl,hT.same W s0,hg,fun Fl H1 s1 hFl Np=>⟨Fl,rfl,⟨_,vG.of Np⟩,?_⟩⟩
  have gf1:=s1 _ _ J9
  have nFf:Fl ≠ fa:=Ne.symm (ai J9 hFl)
  have Jd:∀ z ∈ aX wy g n,z < ps.length:=fun z hz=>by
   obtain⟨p,_,hz⟩:=List.mem_flatMap.mp hz
   exact hT.ok _ z hz
  refine ip (K:=K) (a:=Fl) (xs:=nV (aX wy g n)) (fun i σ H2=>∃ a3:Option V,v5 H H2/\H2 Fl=some (.lst (nV (aX wy g n)))/\H2 fa=some (.dK ((addW none [] ((aX wy g n).take i)).map ak))/\σ=[some (.ref x),some (.int g),some (.ref fa),a3,none,none,none])
   ⟨none,s0.trans s1,Np,gf1,rfl⟩ (fun i σ H2 _ v9=>by obtain⟨_,_,g2,_⟩:=v9;exact vG.of g2) ?_ ?_
  ·rintro i v σ H2 hv ⟨a3,s2,g2,gf,rfl⟩
   have hi:i < (aX wy g n).length:=by have:=(List.getElem?_eq_some_iff.mp hv).1;rw[bT]at this;exact this
   have hk0:=List.getElem?_eq_getElem hi
   have zA:=hU hk0
   rw[zA]at hv
   have hv:=Option.some.inj hv
   subst hv
   generalize (aX wy g n)[i]=l at hk0
   have hA:xM ps.length (addW none [] ((aX wy g n).take i)):=xM.addW _ ⟨by simp,fun y hy=>by cases hy⟩ fun z hz=>Jd z (List.mem_of_mem_take hz)
   have Bc:=hA.zW
   have JA:=kW ((aX wy g n).take i) [] fun y hy=>by cases hy
   have DT:=jb none [] ((aX wy g n).take i) l
   have zK:(aX wy g n).take (i + 1)=(aX wy g n).take i ++ [l]:=by rw[take_succ,hk0];rfl
   refine⟨_,rfl,_,rfl,fa,_,rfl,yM.k (k:=Sum.inl (l:Int)) gf (by rw[sizeLine_eq,length_map];omega),?_⟩
   refine⟨_,fun b o e=>by rw[ae (ai e Cc)];exact s2 _ _ e,by rw[ae nFf];exact g2,?_,rfl⟩
   rw[vz,zK,DT]
   by_cases hm:l ∈ (addW none [] ((aX wy g n).take i)).map (·.1)
   ·rw[if_pos hm,rn JA hm]
   ·rw[if_neg hm]
    exact congrArg (fun z=>some (HO.dK z)) (mJ (c:=none) hm)
  rintro σ H2 ⟨a3,s2,g2,gf,rfl⟩
  rw[bT,take_length]at gf
  have DU:xM ps.length (addW none [] (aX wy g n)):=xM.addW _ ⟨by simp,fun y hy=>by cases hy⟩ Jd
  have DV:dG wy ps n g=gQ (pO wy ps g) (ps.length - 0) (addW none [] (aX wy g n)) 0:=rfl
  generalize addW none [] (aX wy g n)=a0 at gf DU DV
  refine⟨_,rfl,fa,_,rfl, .inl gf,fun ln zF=>?_⟩
  have el:(a0.map ak).map (fun p=>kV p.1)=nV (a0.map (·.1)):=by
   unfold nV
   rw[map_map,map_map];rfl
  rw[el]
  have s3:=s2.new (o := .lst (nV (a0.map (·.1)))) zF
  have JB:H ln=none:=s2.free zF
  have gl:(upd H2 ln (.lst (nV (a0.map (·.1))))) ln=some (.lst (nV (a0.map (·.1)))):=vz
  have Nq:(upd H2 ln (.lst (nV (a0.map (·.1))))) fa=some (.dK (a0.map ak)):=by rw[ae (ai gf zF)];exact gf
  generalize upd H2 ln (.lst (nV (a0.map (·.1))))=H3 at s3 gl Nq ⊢
  refine⟨fun m σ H'=>∃ (a:As)(i:Nat)(b3 b6:Option V),m=ps.length - i/\xM ps.length a/\i <= a.length/\dG wy ps n g=gQ (pO wy ps g) (ps.length - i) a i/\v5 H H'/\H' fa=some (.dK (a.map ak))/\H' ln=some (.lst (nV (a.map (·.1))))/\σ=[some (.ref x),some (.int g),some (.ref fa),b3,some (.ref ln),some (.int (i:Nat)),b6],
   ⟨ps.length - 0,a0,0,_,_,rfl,DU,zero_le _,DV,s3,Nq,gl,rfl⟩,?_⟩
  rintro m σ H4 ⟨a,i,b3,b6,rfl,hA,hile,zY,s4,GH,DW,rfl⟩
  have Bc:=hA.zW
  refine⟨_,rfl,_,rfl,ln,_,rfl, .inl (vG.of DW),_,_,rfl,rfl,_,rfl,?_⟩
  by_cases hi:i < a.length
  rotate_left
  ·have e:i=a.length:=by omega
   subst e
   rw[decide_eq_false (by rw[bT,length_map];omega)]
   rw[p6 (List.getElem?_eq_none (le_refl _))]at zY
   exact av ⟨_,rfl,q fa H4 s4 Cc (by rw[zY];exact hA) (by rw[zY];exact GH)⟩
  rw[decide_eq_true (by rw[bT,length_map];omega)]
  have hy:=List.getElem?_eq_getElem hi
  generalize a[i]=lc at hy
  obtain⟨l,lc⟩:=lc
  have hl:l < ps.length:=hA.lt _ (mem_of_getElem? hy)
  have wR:(nV (a.map (·.1)))[i]? = some (.int (l:Int)):=hU (by rw[List.getElem?_map,hy];rfl)
  have AA:dG wy ps n g=gQ (pO wy ps g) (ps.length - (i + 1)) (addW (some l) a (pO wy ps g l)) (i + 1):=by
   rw[zY,show ps.length - i=(ps.length - (i + 1)) + 1 by omega,nN hy]
  have BX:∀ z ∈ pO wy ps g l,z < ps.length:=fun z hz=>by
   unfold pO at hz
   split at hz
   ·cases hz
   ·exact hT.ok _ z hz
  refine a9 ⟨fun σ' H'=>∃ (a':As)(b3 b6:Option V),xM ps.length a'/\i + 1 <= a'.length/\dG wy ps n g=gQ (pO wy ps g) (ps.length - (i + 1)) a' (i + 1)/\v5 H H'/\H' fa=some (.dK (a'.map ak))/\H' ln=some (.lst (nV (a'.map (·.1))))/\σ' = [some (.ref x),some (.int g),some (.ref fa),b3,some (.ref ln),some (.int ((i:Int) + 1)),b6],
   fun σ' H' v9=>by obtain⟨a',b3,b6,h1,h2,h3,h4,h5,h6,h7⟩:=v9;exact⟨ps.length - (i + 1),by omega,a',i + 1,b3,b6,rfl,h1,h2,h3,h4,h5,h6,h7⟩,?_⟩
  refine⟨_,rfl,_,rfl,ln,_,_,_,rfl,rfl,vG.of DW,az wR,?_⟩
  refine⟨_,rfl,_,_,rfl,rfl,?_⟩
  refine⟨_,rfl,_,rfl,_,rfl,x,lx,vK,lt,n,vF,ps,wy,l,g,rfl,hT.same W s4,hl,hg,fun Ol H5 s5 Nr JC=>⟨Ol,rfl,⟨_,vG.of JC⟩,?_⟩⟩
  have ql:Ol ≠ fa:=Ne.symm (ai GH Nr)
  have nOl:Ol ≠ ln:=Ne.symm (ai DW Nr)
  have Nt:ln ≠ fa:=bO DW GH (by intro z;cases z)
  generalize pO wy ps g l=ws at JC BX AA
  refine ip (K:=K) (a:=Ol) (xs:=nV ws) (fun m σ H6=>∃ b6:Option V,xM ps.length (addW (some l) a (ws.take m))/\a.length <= (addW (some l) a (ws.take m)).length/\v5 H H6/\H6 Ol=some (.lst (nV ws))/\H6 fa=some (.dK ((addW (some l) a (ws.take m)).map ak))/\H6 ln=some (.lst (nV ((addW (some l) a (ws.take m)).map (·.1)))) /\
    σ=[some (.ref x),some (.int g),some (.ref fa),some (.int (l:Int)),some (.ref ln),some (.int ((i:Int) + 1)),b6])
   ⟨_,hA,le_refl _,s4.trans s5,JC,s5 _ _ GH,s5 _ _ DW,rfl⟩ (fun m σ H6 _ v9=>by obtain⟨_,_,_,_,g6,_⟩:=v9;exact vG.of g6) ?_ ?_
  ·rintro m v σ H6 hv ⟨b6,zV,yA,s6,JD,Bw,Cd,rfl⟩
   have hm:m < ws.length:=by have:=(List.getElem?_eq_some_iff.mp hv).1;rw[bT]at this;exact this
   have hk0:=List.getElem?_eq_getElem hm
   have zA:=hU hk0
   rw[zA]at hv
   have hv:=Option.some.inj hv
   subst hv
   generalize ws[m]=y at hk0
   have hyl:=BX y (mem_of_getElem? hk0)
   have zK:ws.take (m + 1)=ws.take m ++ [y]:=by rw[take_succ,hk0];rfl
   have DT:=jb (some l) a (ws.take m) y
   generalize G9:addW (some l) a (ws.take m)=a6 at zV yA Bw Cd DT
   have hf6:=zV.zW
   refine⟨_,rfl,_,rfl,fa,_,rfl,ya.k (k:=Sum.inl (y:Int)) Bw,_,rfl,?_⟩
   rw[iA]
   by_cases Ce:y ∈ a6.map (·.1)
   ·rw[decide_eq_true Ce]
    refine av ⟨_,?_,?_,s6,JD,?_,?_,rfl⟩<;>rw[zK,DT,if_pos Ce]
    ·exact zV
    ·exact yA
    ·exact Bw
    ·exact Cd
   ·rw[decide_eq_false Ce]
    refine a9 ⟨_,rfl,_,rfl,_,rfl,fa,_,rfl,yM.k (k:=Sum.inl (y:Int)) Bw (by rw[sizeLine_eq,length_map];omega),?_⟩
    have ep:dQ (a6.map ak) (Sum.inl (y:Int)) (V.int (l:Int))=(a6 ++ [(y,some l)]).map ak:=mJ (c:=some l) Ce
    rw[ep]
    have Nu:(upd H6 fa (.dK ((a6 ++ [(y,some l)]).map ak))) Ol=some (.lst (nV ws)):=by rw[ae ql];exact JD
    have JE:(upd H6 fa (.dK ((a6 ++ [(y,some l)]).map ak))) ln=some (.lst (nV (a6.map (·.1)))):=by rw[ae Nt];exact Cd
    have Nv:(upd H6 fa (.dK ((a6 ++ [(y,some l)]).map ak))) fa=some (.dK ((a6 ++ [(y,some l)]).map ak)):=vz
    have s7:v5 H (upd H6 fa (.dK ((a6 ++ [(y,some l)]).map ak))):=fun b o e=>by rw[ae (ai e Cc)];exact s6 _ _ e
    generalize upd H6 fa (.dK ((a6 ++ [(y,some l)]).map ak))=H7 at Nu JE Nv s7 ⊢
    refine⟨_,rfl, .inl ⟨rfl,_,vG.of JE⟩,_,rfl,ln,_,_,rfl,rfl,JE,by rw[sizeLine_eq,bT,length_map];omega,?_⟩
    refine⟨_,?_,?_,fun b o e=>by rw[ae (ai e JB)];exact s7 _ _ e,by rw[ae nOl];exact Nu,?_,?_,rfl⟩<;>rw[zK,DT,if_neg Ce]
    ·exact zV.add hyl Ce
    ·rw[length_append];omega
    ·rw[ae (Ne.symm Nt)];exact Nv
    ·rw[vz,map_append,qj];rfl
  ·rintro σ H6 ⟨b6,zV,yA,s6,JD,Bw,Cd,rfl⟩
   rw[bT,take_length]at zV yA Bw Cd
   exact⟨_,_,_,zV,by omega,AA,s6,Bw,Cd,rfl⟩
structure Nw (K:Frag)(mg:Str->Option Value)(nm:Addr):Prop where
 m:mg "NotMet" = some (.ref nm)
 x:aM K nm none=true
 k:keepIn K (.ref nm)=true
noncomputable def ls:Sp:=fun vs H Q _=>∃ (i:Int)(p:Addr)(kvs:List (L2.Key × V)),vs=[.int i, .ref p]/\H p=some (.dK kvs)/\Q (.bl (eJ kvs (Sum.inl i)).isSome) H
noncomputable def jj (c:Cs)(C:Addr)(J:oF)(nm:Addr):Sp:=fun vs H Q E=>∃ (x lx vK lt:Addr)(n:Nat)(vF:List V)(ps:List (Int × Int))(wy:ce->Nat)(l g:Nat),vs=[.ref x, .int l, .int g]/\wO c C J H x lx vK lt n vF ps wy/\g < n /\
 l ∉ (dG wy ps n g).map (·.1)/\∀ H',v5 H H'->E (.ref nm) none H'
abbrev NWt:List Str:=["table", "lane", "goal", "ahead", "back", "last"]
theorem rJ {f fh:Addr}{fd xK:FuncData}(F:vQ K "is_one_of" "is_one_of" rb f fd)(T:Txt mg)(mh:mg "is_whole" = some (.ref fh))(Fh:vQ K "is_whole" "is_whole" dN fh xK)(bh:Binds K xK ["value"] []) :
  v7 P w K mg base aE 2 f fd ["value", "numbers"] ls:=by
 have G:v7 P w K mg base aE 1 fh xK ["value"] gu:=gZ Fh T
 refine F.ok sY (fun vs H Q E h=>?_) (fun cdv A outer s H vs Q E hr h=>?_)
 ·obtain⟨i,p,kvs,rfl,_⟩:=h
  rfl
 ·obtain⟨i,p,kvs,rfl,hd,q⟩:=h
  have hu1:=Nat.lt_of_le_of_lt (Nat.add_le_add_left (show 1 <= 64 by decide) _) hr.units
  refine⟨_,ah (ay (bE (aq G hr rfl mh Fh.kp bh .nil aw (aa (pv 0) ac)) (bJ (uy (u3 hu1 (pv 0) (pv 1)) (by with_unfolding_all rfl))))),?_⟩
  refine⟨_,rfl,i,rfl,true,rfl,a9 ?_⟩
  exact⟨_,rfl,_,rfl,p,_,rfl,ya.k (k:=Sum.inl i) hd,q⟩
theorem DX:aj NWt ["table", "lane", "goal"] (ag l7):=L2.vX
theorem pR {c:Cs}{J:oF}{C f nm fw fi fo fa:Addr}{fd dw di Nx da:FuncData}(F:vQ K "way_to" "way_to" l7 f fd)(T:Txt mg)(L:oH K c)(W:vp K C fw dw J)(nl:vB K C "land")(X:Nw K mg nm)
  (mi:mg "is_within" = some (.ref fi)) (ki:keepIn K (.ref fi)=true) (bi:Binds K di ["value", "least", "most"] []) (Gi:v7 P w K mg base aE 2 fi di ["value", "least", "most"] c9)
  (mo:mg "is_one_of" = some (.ref fo)) (ko:keepIn K (.ref fo)=true) (bo:Binds K Nx ["value", "numbers"] []) (Go:v7 P w K mg base aE 2 fo Nx ["value", "numbers"] ls)
  (ma:mg "lanes_ahead" = some (.ref fa)) (ka:keepIn K (.ref fa)=true) (ba:Binds K da ["table", "goal"] []) (Ga:v7 P w K mg base aE 5 fa da ["table", "goal"] (jv c C J)) :
  v7 P w K mg base (cx P w) 6 f fd ["table", "lane", "goal"] (jj c C J nm):=by
 refine F.xY DX (fun vs H Q E h=>?_) (fun cdv A outer s H vs Q E hr h=>?_)
 ·obtain⟨x,lx,vK,lt,n,vF,ps,wy,l,g,rfl,_⟩:=h
  rfl
 ·obtain⟨x,lx,vK,lt,n,vF,ps,wy,l,g,rfl,hT,hg,hm,hno⟩:=h
  have wC:vE 2 _:=hr.mono (by decide)
  refine⟨_,ad (a8 (aU (bu (aq Gi wC rfl mi ki bi .nil aw (aa (pv 2) (aa af (aa (au dU (aK (aK (pv 0) rfl) rfl) af) ac))))))
    (ah (aO rfl X.x v8 (aZ X.x X.k rfl rfl X.m (aa aP ac)))) am)
   (ad (ar (i:=3) DX.nd rfl (Or.inl rfl) (aq Ga hr rfl ma ka ba .nil aw (aa (pv 0) (aa (pv 2) ac))))
   (ad (a8 (aU (bu (aq Go wC rfl mo ko bo .nil aw (aa (pv 1) (aa (pv 3) ac)))))
    (ah (aO rfl X.x v8 (aZ X.x X.k rfl rfl X.m (aa aP ac)))) am)
   (ad aB (ad aB (ad aB (ah aB)))))),?_⟩
  obtain⟨dx,fs,hx,hf⟩:=hT.i
  refine⟨_,rfl,_,rfl,x,C,dx,fs,_,rfl,hx,W.cl,nl,hf,lx,c.land,vK,_,_,rfl,hT.l.1,L.cl,L.np,rfl,_,_,rfl,rfl,(g:Int),0,_,rfl,_,rfl,?_⟩
  rw[decide_eq_true (show (0:Int) <= (g:Int)/\(g:Int) <= (n:Int) - 1 by omega)]
  refine av ?_
  refine⟨_,rfl,_,rfl,x,lx,vK,lt,n,vF,ps,wy,g,rfl,hT,hg,fun Dd H1 s1 hDd hA gD=>?_⟩
  generalize dG wy ps n g=a at hA gD hm
  refine⟨_,rfl,_,rfl,(l:Int),Dd,_,rfl,gD,_,rfl,?_⟩
  rw[iA]
  rw[decide_eq_false hm]
  exact a9 ⟨by show 1 <= sizeLine;decide,hno H1 s1⟩
end K45
namespace K45
open PySem L2
noncomputable def par (ps:List Nat)(k:Nat):Nat:=min (ps.getD k 0) k
theorem dA (ps:List Nat)(k:Nat):par ps k <= k:=by unfold par;omega
noncomputable def upF (ps:List Nat):Nat->Nat->List Nat
 | 0,_=>[0]
 | f + 1,p=>if p=0 then [0] else p :: upF ps f (par ps (p - 1))
noncomputable def ve (ps:List Nat)(pl:Nat):Nat->Nat->Option Nat
 | 0,_=>none
 | f + 1,g=>if g=0 then none else if par ps (g - 1)=pl then some g else ve ps pl f (par ps (g - 1))
noncomputable def ct (ps:List Nat)(pl g:Nat):Option Nat:=ve ps pl g g
theorem sC (ps:List Nat)(pl:Nat):∀ f p:Nat,p <= f->ve ps pl f p=ve ps pl p p:=by
 intro f
 induction f using Nat.strongRecOn with
 | ind f ih =>
  intro p hp
  cases p with
  | zero=>cases f<;>rfl
  | succ p =>
   cases f with
   | zero=>omega
   | succ f =>
    have h:=dA ps p
    show(if p + 1=0 then none else if par ps p=pl then some (p + 1) else ve ps pl f (par ps p))=if p + 1=0 then none else if par ps p=pl then some (p + 1) else ve ps pl p (par ps p)
    rw[ih f (by omega) _ (by omega),ih p (by omega) _ h]
noncomputable def yP (ps:List Nat):Prop:=ps.length <= 11/\∀ k q:Nat,ps[k]? = some q->q <= k
theorem yP.at_ {ps:List Nat}(h:yP ps){k q:Nat}(e:ps[k]? = some q):par ps k=q:=by
 have:=h.2 k q e
 unfold par
 rw[getD_eq_getElem?_getD,e]
 show min q k=q
 omega
theorem gE (ps:List Nat)(pl:Nat):ct ps pl 0=none:=rfl
theorem fA (ps:List Nat)(pl g:Nat):ct ps pl (g + 1)=if par ps g=pl then some (g + 1) else ct ps pl (par ps g):=by
 show(if g + 1=0 then none else if par ps g=pl then some (g + 1) else ve ps pl g (par ps g))=_
 rw[if_neg (Nat.succ_ne_zero g),sC ps pl g _ (dA ps g)]
 rfl
noncomputable def je (ps:List Nat)(p g:Nat):List Nat:=if p=g then [] else match ct ps p g with | none=>[2 * (p - 1)] | some b=>[2 * (b - 1) + 1]
noncomputable def aT (ps:List Nat):Nat->List (Int × Int)
 | 0=>[]
 | k + 1=>aT ps k ++ [((k:Int) + 1,((ps.getD k 0:Nat):Int)),(((ps.getD k 0:Nat):Int),(k:Int) + 1)]
theorem dJ (ps:List Nat):∀ k,(aT ps k).length=2 * k
 | 0=>rfl
 | k + 1=>by unfold aT;rw[length_append,dJ ps k];simp;omega
theorem qx {ps:List Nat}(h:yP ps){k:Nat}(hk:k < ps.length):ps.getD k 0=par ps k:=by
 have e:=List.getElem?_eq_getElem hk
 rw[h.at_ e,getD_eq_getElem?_getD,e];rfl
noncomputable def isI:V->Bool
 | .int _=>true
 | _=>false
noncomputable def gb:V->Int->Int->Bool
 | .int i,a,b=>decide (a <= i/\i <= b)
 | _,_,_=>false
inductive mz:V->Prop
 | int (i:Int):mz (.int i)
 | bl (b:Bool):mz (.bl b)
 | vJ:mz .vJ
structure qO (K:Frag):Prop where
 ii:kitOne K (.type "int") (.type "int")=some true
 ib:kitOne K (.type "int") (.type "bool")=some false
 bi:kitOne K (.type "bool") (.type "int")=some true
 bb:kitOne K (.type "bool") (.type "bool")=some true
 ni:kitOne K (.type "NoneType") (.type "int")=some false
noncomputable def dM:Sp:=fun vs H Q _=>∃ v,vs=[v]/\mz v/\Q (.bl (isI v)) H
noncomputable def cf:Sp:=fun vs H Q _=>∃ (v:V)(a b:Int),vs=[v, .int a, .int b]/\mz v/\Q (.bl (gb v a b)) H
noncomputable def j2 (xs:List V)(m:Nat):List Bool:=(List.range m).map fun i:Nat=>gb (xs.getD i .vJ) 0 (i:Int)
noncomputable def iN (xs:List V):Bool:=decide (xs.length < 12) && (j2 xs xs.length).all id
noncomputable def oW (K:Frag):Sp:=fun vs H Q _=>∃ (a:Addr)(xs:List V),vs=[.ref a]/\vG K H a xs/\(∀ x ∈ xs,mz x)/\xs.length <= 1000/\∀ H',v5 H H'->Q (.bl (iN xs)) H'
noncomputable def oS (K:Frag):Sp:=fun vs H Q _=>∃ (a:Addr)(ps:List Nat),vs=[.ref a]/\vG K H a (nV ps)/\ps.length <= 100/\∀ (D:Addr)(vU:List V)(H':Hp),v5 H H'->H D=none->H' D=some (.lst vU)->vV H' vU (aT ps ps.length)->Q (.ref D) H'
noncomputable def mx (H:Hp)(ts:Ts)(x dx:Addr)(lv:V)(t:Addr)(ps:List Nat):Prop:=H x=some (.ins ts.tree dx [("land",lv),("parents", .ref t)])/\H t=some (.tup (nV ps))
noncomputable def jk (K:Frag)(c:Cs)(ts:Ts):Sp:=fun vs H Q E=>∃ (x dx a:Addr)(xs:List V),vs=[.ref x, .ref a]/\H x=some (.ins ts.tree dx [])/\vG K H a xs/\(∀ v ∈ xs,mz v)/\xs.length <= 1000 /\
 (iN xs=false->∀ H',v5 H H'->E (.ref c.np) none H') /\
 (iN xs=true->∃ ps,xs=nV ps/\yP ps/\∀ H' lx vK lt vF t,Off x H H'->mx H' ts x dx (.ref lx) t ps->bU H' c lx vK lt ((ps.length:Int) + 1) vF (aT ps ps.length)->Q .vJ H')
noncomputable def oVT:Option Nat->V
 | some k => .int (k:Int)
 | none => .vJ
noncomputable def jt (ts:Ts):Sp:=fun vs H Q _=>∃ (x dx:Addr)(lv:V)(t:Addr)(ps:List Nat)(p g:Nat),vs=[.ref x, .int p, .int g]/\mx H ts x dx lv t ps/\yP ps/\g <= ps.length/\Q (oVT (ct ps p g)) H
noncomputable def gw (ts:Ts):Sp:=fun vs H Q _=>∃ (x dx:Addr)(lv:V)(t:Addr)(ps:List Nat)(p g:Nat)(cv:V),vs=[.ref x, .int p, .int g,cv]/\mx H ts x dx lv t ps/\yP ps/\p <= ps.length/\g <= ps.length /\
 ∀ (D:Addr)(H':Hp),v5 H H'->H D=none->H' D=some (.lst (nV (je ps p g)))->Q (.ref D) H'
structure sI (K:Frag)(mg:Str->Option Value)(ts:Ts)(f1:Addr)(d1:FuncData):Prop where
 cl:xh K ts.tree
 n1:vB K ts.tree "land"
 n2:vB K ts.tree "parents"
 mt:mg "Table" = some (.ref ts.tab)
 cm:qP K ts.tab "__init__" f1
 bt:Binds K d1 ["self", "land"] []
theorem nS (xs:List V)(i:Nat){v:V}(h:xs[i]? = some v):j2 xs (i + 1)=j2 xs i ++ [gb v 0 (i:Int)]:=by
 unfold j2
 rw[range_succ,map_append,List.map_singleton,getD_eq_getElem?_getD,h];rfl
theorem pJ (xs:List V)(m:Nat):(j2 xs m).length=m:=by simp[j2]
theorem iM {f:Addr}{fd:FuncData}(F:vQ K "is_whole" "is_whole" dN f fd)(T:Txt mg)(Z:qO K):v7 P w K mg base aE 1 f fd ["value"] dM:=by
 refine F.ok mI (fun vs H Q E h=>?_) (fun cdv A outer s H vs Q E hr h=>?_)
 ·obtain⟨m,rfl,_⟩:=h
  rfl
 ·obtain⟨v,rfl,hv,q⟩:=h
  refine⟨_,ah (ay (bE (al dc rfl T.wI PyProof.Rows.boot_isinstance (aa (pv 0) (aa (bD (v := .ty "int") rfl T.int PySem.Pv.boot_int rfl) ac)))
   (bJ (pF (al dc rfl T.wI PyProof.Rows.boot_isinstance (aa (pv 0) (aa (bD (v := .ty "bool") rfl T.bool PySem.Pv.boot_bool rfl) ac))))))),?_⟩
  cases hv with
  | int i=>exact⟨_,rfl, .int i,_, "int",true,rfl, .int i,Z.ii,true,rfl,a9 ⟨_,rfl, .int i,_, "bool",false,rfl, .int i,Z.ib,false,rfl,q⟩⟩
  | bl b=>exact⟨_,rfl, .bl b,_, "int",true,rfl, .bl b,Z.bi,true,rfl,a9 ⟨_,rfl, .bl b,_, "bool",true,rfl, .bl b,Z.bb,true,rfl,q⟩⟩
  | vJ=>exact⟨_,rfl, .vJ,_, "int",false,rfl, .vJ,Z.ni,false,rfl,av q⟩
theorem lM {f fh:Addr}{fd xK:FuncData}(F:vQ K "is_within" "is_within" gx f fd)(T:Txt mg)(Z:qO K)(mh:mg "is_whole" = some (.ref fh))(Fh:vQ K "is_whole" "is_whole" dN fh xK)(bh:Binds K xK ["value"] []) :
  v7 P w K mg base aE 2 f fd ["value", "least", "most"] cf:=by
 have G:v7 P w K mg base aE 1 fh xK ["value"] dM:=iM Fh T Z
 refine F.ok jS (fun vs H Q E h=>?_) (fun cdv A outer s H vs Q E hr h=>?_)
 ·obtain⟨i,a,b,rfl,_⟩:=h
  rfl
 ·obtain⟨v,a,b,rfl,hv,q⟩:=h
  refine⟨_,ah (ay (bE (aq G hr rfl mh Fh.kp bh .nil aw (aa (pv 0) ac)) (bJ (kn mU mU (pv 1) (pv 0) (pv 2))))),?_⟩
  cases hv with
  | bl x=>exact⟨_,rfl,_,rfl, .bl x,false,rfl,av q⟩
  | vJ=>exact⟨_,rfl,_,rfl, .vJ,false,rfl,av q⟩
  | int i =>
   refine⟨_,rfl,_,rfl, .int i,true,rfl,a9 ?_⟩
   refine⟨_,rfl,_,rfl,_,_,rfl,rfl,_,rfl,?_⟩
   have q:Q (V.bl (decide (a <= i/\i <= b))) H:=q
   by_cases h1:a <= i
   ·rw[decide_eq_true h1]
    refine a9 ⟨_,rfl,_,_,rfl,rfl,?_⟩
    show Q (V.bl (decide (i <= b))) H
    by_cases h2:i <= b
    ·rw[decide_eq_true h2];rw[decide_eq_true ⟨h1,h2⟩]at q;exact q
    ·rw[decide_eq_false h2];rw[decide_eq_false fun z=>h2 z.2]at q;exact q
   ·rw[decide_eq_false h1]
    refine av ?_
    rw[decide_eq_false fun z=>h1 z.1]at q;exact q
theorem DY:aj ["parents"] ["parents"] (ag pq):=L2.vX
theorem DZ:wM ["parents"] (ag pq) (kU ((ax pq).getD 1 (.Pass ⟨0,0,0,0⟩))) [] []:=L2.yb
theorem tw:(["number", "above"]:List Str).Nodup:=by decide +kernel
theorem uF {f fw:Addr}{fd dw:FuncData}{t1:Tok}(F:vQ K "are_parents" "are_parents" pq f fd)(T:Txt mg)
  (mw:mg "is_within" = some (.ref fw)) (kw:keepIn K (.ref fw)=true) (bw:Binds K dw ["value", "least", "most"] []) (Gw:v7 P w K mg base aE 2 fw dw ["value", "least", "most"] cf)
  (mp:mg "MOST_PLACES" = some (.int 12 t1)):v7 P w K mg base aE 3 f fd ["parents"] (oW K):=by
 refine F.ok DY (fun vs H Q E h=>?_) (fun cdv A outer s H vs Q E hr h=>?_)
 ·obtain⟨a,xs,rfl,_⟩:=h
  rfl
 ·obtain⟨a,xs,rfl,hS,zZ,hlen,q⟩:=h
  refine⟨_,ad (a8 (ao tu (al aJ rfl T.len PySem.boot_len (aa (pv 0) ac)) (aA (v := .int 12) rfl mp ⟨_,rfl⟩) (ap _)) (ah (ay mS)) am)
   (ah (ay (al (eg rfl) rfl T.all PyProof.Rows.boot_all (aa (bx (own:=["number", "above"]) (capN:=[]) (cap:=[]) DZ rfl (fc rfl T.enum (aa (pv 0) ac))
    (fun C s' H' fp=>⟨(show PG _ _ (sk K 2 _) from fK rfl (bz (a7 (i:=0) tw rfl (Or.inl rfl)) (bz (a7 (i:=1) tw rfl (Or.inl rfl)) e6))),bG,aq Gw hr rfl mw kw bw .nil aw (aa (pv 1) (aa af (aa (pv 0) ac)))⟩)) ac)))),?_⟩
  refine⟨_,rfl,a,_,rfl, .inl hS,_,_,rfl,rfl,_,rfl,?_⟩
  by_cases hm:xs.length < 12
  rotate_left
  ·rw[decide_eq_true (show (12:Int) <= (xs.length:Nat) by omega)]
   have:=q H (v5.refl H)
   unfold iN at this
   rw[decide_eq_false hm]at this
   exact a9 this
  rw[decide_eq_false (show ¬ (12:Int) <= (xs.length:Nat) by omega)]
  refine av ?_
  refine⟨_,rfl,a,rfl,⟨_,hS⟩,b7 xs.length (by rw[sizeLine_eq];omega) (fun i acc H4=>v5 H H4/\acc=(j2 xs i).map V.bl) ⟨v5.refl _,rfl⟩ (fun i acc H4 h=>by rw[h.2,length_map,pJ];exact le_refl _) ?_ ?_⟩
  ·rintro i acc H4 hi ⟨s4,rfl⟩
   have q4:vG K H4 a xs:=s4.seq hS
   refine⟨⟨xs,xs[i],q4,List.getElem?_eq_getElem hi⟩,fun y H5 ⟨r,y8,ey,h5⟩=>?_⟩
   obtain⟨v,hv,rfl⟩:=h5 xs q4
   subst ey
   have s5:v5 H (upd H4 r (.tup [.int i,v])):=s4.new y8
   refine⟨r,_,rfl,vO.of vz,rfl,_,_,rfl,_,_,rfl,rfl,?_⟩
   refine⟨_,rfl,_,rfl,v,0,(i:Int),rfl,zZ v (mem_of_getElem? hv),s5,?_⟩
   rw[nS xs i hv,map_append];rfl
  ·rintro acc H4 ⟨s4,rfl⟩
   refine⟨⟨xs,s4.seq hS,rfl⟩,fun D hD=>?_⟩
   refine⟨D,j2 xs xs.length,rfl,vG.of vz,?_⟩
   have:=q _ (s4.new (o := .lst ((j2 xs xs.length).map V.bl)) hD)
   unfold iN at this
   rw[decide_eq_true hm]at this
   exact this
abbrev NTr:List Str:=["parents", "lanes", "number", "above"]
theorem yB:aj NTr ["parents"] (ag uh):=L2.vX
theorem uB {f:Addr}{fd:FuncData}(F:vQ K "tree_lanes" "tree_lanes" uh f fd)(T:Txt mg):v7 P w K mg base aE 1 f fd ["parents"] (oS K):=by
 refine F.ok yB (fun vs H Q E h=>?_) (fun cdv A outer s H vs Q E hr h=>?_)
 ·obtain⟨a,ps,rfl,_⟩:=h
  rfl
 ·obtain⟨a,ps,rfl,hS,hlen,q⟩:=h
  refine⟨_,ad (ar (i:=1) yB.nd rfl (Or.inl rfl) (aD ac))
   (ad (dR PassesOwn.never rfl (fc rfl T.enum (aa (pv 0) ac)) (fK rfl (bz (a7 (i:=2) yB.nd rfl (Or.inl rfl)) (bz (a7 (i:=3) yB.nd rfl (Or.inl rfl)) e6)))
    (ad (aH (fZ plainAttrs_list PySem.F.slot_list_append PySem.F.type_list_append cS (pv 1) (aa (bR (aa (au bS (pv 2) af) (aa (pv 3) ac))) ac)))
    (ah (aH (fZ plainAttrs_list PySem.F.slot_list_append PySem.F.type_list_append cS (pv 1) (aa (bR (aa (pv 3) (aa (au bS (pv 2) af) ac))) ac))))))
   (ah (ay (pv 1)))),?_⟩
  have gm:(2:Nat) <= sizeLine:=by decide
  refine⟨zero_le _,fun D hD=>?_⟩
  have s0:=(v5.refl H).new (o := .lst []) hD
  refine⟨_,rfl,a,rfl,⟨_,s0.seq hS⟩,?_⟩
  refine iq (sq:=fun H=>vG K H a) (xs:=nV ps) (fun i σ H2=>∃ (a2 a3:Option V)(vU:List V),v5 H H2/\H2 D=some (.lst vU)/\vV H2 vU (aT ps i)/\σ=[some (.ref a),some (.ref D),a2,a3])
   ⟨none,none,[],s0,vz, .nil,rfl⟩ (fun i σ H2 _ v9=>by obtain⟨_,_,_,s2,_⟩:=v9;exact s2.seq hS) ?_ ?_
  ·rintro i v r σ H2 hv ⟨a2,a3,vU,s2,gD,hL,rfl⟩ wC
   have hi:i < ps.length:=by have:=(List.getElem?_eq_some_iff.mp hv).1;rw[bT]at this;exact this
   have zA:=hU (List.getElem?_eq_getElem hi)
   rw[zA]at hv
   have hv:=Option.some.inj hv
   subst hv
   have eD:ps.getD i 0=ps[i]:=by rw[getD_eq_getElem?_getD,List.getElem?_eq_getElem hi];rfl
   generalize hpi:ps[i]=pi at *
   have s3:=(v5.refl H2).new (o := .tup [.int i, .int pi]) wC
   refine⟨r,_,rfl,vO.of vz,rfl,_,_,rfl,_,_,rfl,rfl,?_⟩
   generalize upd H2 r (.tup [.int i, .int pi])=H3 at s3 ⊢
   have JF:=s3 _ _ gD
   have Ea:vU.length=2 * i:=(Paired.length hL).trans (dJ ps i)
   refine⟨_,rfl, .inl ⟨rfl,_,vG.of JF⟩,_,rfl,_,_,rfl,rfl,_,rfl,gm,fun t1 h1=>?_⟩
   have u1:=(v5.refl H3).new (o := .tup [.int ((i:Int) + 1), .int pi]) h1
   have v1:(upd H3 t1 (.tup [.int ((i:Int) + 1), .int pi])) t1=some (.tup [.int ((i:Int) + 1), .int pi]):=vz
   have n1:t1 ≠ D:=Ne.symm (ai JF h1)
   generalize upd H3 t1 (.tup [.int ((i:Int) + 1), .int pi])=H4 at u1 v1 ⊢
   have Ny:=u1 _ _ JF
   refine⟨D,vU,_,rfl,rfl,Ny,by rw[sizeLine_eq];omega,?_⟩
   have GI:(upd H4 D (.lst (vU ++ [.ref t1]))) D=some (.lst (vU ++ [.ref t1])):=vz
   have Nz:vV (upd H4 D (.lst (vU ++ [.ref t1]))) (vU ++ [.ref t1]) (aT ps i ++ [((i:Int) + 1,(pi:Int))]):=vV.snoc (p:=((i:Int) + 1,(pi:Int))) ⟨t1,rfl,by rw[ae n1];exact v1⟩ (mZ Ny (vV.same u1 (vV.same s3 hL)))
   have s5:v5 H (upd H4 D (.lst (vU ++ [.ref t1]))):=fun b o e=>by rw[ae (ai e hD)];exact u1 _ _ (s3 _ _ (s2 _ _ e))
   generalize upd H4 D (.lst (vU ++ [.ref t1]))=H5 at GI Nz s5 ⊢
   refine⟨_,rfl, .inl ⟨rfl,_,vG.of GI⟩,_,rfl,_,rfl,_,_,rfl,rfl,gm,fun t2 h2=>?_⟩
   have u2:=(v5.refl H5).new (o := .tup [.int pi, .int ((i:Int) + 1)]) h2
   have v2:(upd H5 t2 (.tup [.int pi, .int ((i:Int) + 1)])) t2=some (.tup [.int pi, .int ((i:Int) + 1)]):=vz
   have n2:t2 ≠ D:=Ne.symm (ai GI h2)
   generalize upd H5 t2 (.tup [.int pi, .int ((i:Int) + 1)])=H6 at u2 v2 ⊢
   have N0:=u2 _ _ GI
   refine⟨D,_,_,rfl,rfl,N0,by rw[sizeLine_eq,length_append];simp;omega,?_⟩
   refine⟨_,_,(vU ++ [.ref t1]) ++ [.ref t2],fun b o e=>by rw[ae (ai e hD)];exact u2 _ _ (s5 _ _ e),vz,?_,rfl⟩
   have e2:aT ps (i + 1)=(aT ps i ++ [((i:Int) + 1,(pi:Int))]) ++ [((pi:Int),(i:Int) + 1)]:=by
    show aT ps i ++ [((i:Int) + 1,((ps.getD i 0:Nat):Int)),(((ps.getD i 0:Nat):Int),(i:Int) + 1)]=_
    rw[eD,append_assoc];rfl
   rw[e2]
   exact vV.snoc (p:=((pi:Int),(i:Int) + 1)) ⟨t2,rfl,by rw[ae n2];exact v2⟩ (mZ N0 (vV.same u2 Nz))
  ·rintro σ H2 ⟨a2,a3,vU,s2,gD,hL,rfl⟩
   rw[bT]at hL
   exact⟨_,rfl,q D vU H2 s2 hD gD hL⟩
theorem fz (ps:List Nat):∀ g,g ≠ 0->ct ps 0 g ≠ none:=by
 intro g
 induction g using Nat.strongRecOn with
 | ind g ih =>
  intro h
  match g with
  | 0=>exact absurd rfl h
  | g + 1 =>
   rw[fA]
   by_cases e:par ps g=0
   ·rw[if_pos e];intro z;cases z
   ·rw[if_neg e];exact ih _ (by have:=dA ps g;omega) e
theorem qI {ps:List Nat}{p b:Nat}:∀ g,ct ps p g=some b->1 <= b:=by
 intro g
 induction g using Nat.strongRecOn with
 | ind g ih =>
  intro h
  match g with
  | 0=>rw[gE]at h;cases h
  | g + 1 =>
   rw[fA]at h
   by_cases e:par ps g=p
   ·rw[if_pos e]at h;have:=Option.some.inj h;omega
   ·rw[if_neg e]at h;exact ih _ (by have:=dA ps g;omega) h
theorem Eb {ps:List Nat}{p b:Nat}:∀ g,ct ps p g=some b->b <= g:=by
 intro g
 induction g using Nat.strongRecOn with
 | ind g ih =>
  intro h
  match g with
  | 0=>rw[gE]at h;cases h
  | g + 1 =>
   rw[fA]at h
   have hl:=dA ps g
   by_cases e:par ps g=p
   ·rw[if_pos e]at h;have:=Option.some.inj h;omega
   ·rw[if_neg e]at h;have:=ih _ (by omega) h;omega
theorem jf {ps:List Nat}(hP:yP ps):∀ m,m <= ps.length->∀ p ∈ aT ps m,j6 ((ps.length:Int) + 1) p=true
 | 0,_,p,hp=>by cases hp
 | m + 1,hm,p,hp=>by
  unfold aT at hp
  have h2:ps.getD m 0 <= m:=by rw[qx hP (by omega)];exact dA ps m
  generalize ps.getD m 0=q at hp h2
  rcases mem_append.mp hp with hp | hp
  ·exact jf hP m (by omega) p hp
  ·simp only[mem_cons,not_mem_nil,or_false]at hp
   unfold j6
   simp only[Bool.and_eq_true,decide_eq_true_eq,Bool.not_eq_true',decide_eq_false_iff_not]
   rcases hp with rfl | rfl
   ·refine⟨⟨?_,?_⟩,⟨?_,?_⟩,?_⟩<;>dsimp only<;>omega
   ·refine⟨⟨?_,?_⟩,⟨?_,?_⟩,?_⟩<;>dsimp only<;>omega
theorem oO {ps:List Nat}(hP:yP ps):bM ((ps.length:Int) + 1) (aT ps ps.length) = .good:=by
 have:=hP.1
 unfold bM
 rw[decide_eq_true (show (1:Int) <= (ps.length:Int) + 1/\(ps.length:Int) + 1 <= 12 by omega),if_neg (by decide),if_neg (by rw[dJ];omega),i9 (jf hP _ (le_refl _))]
theorem ud:aj ["self", "parents"] ["self", "parents"] (ag ph):=L2.vX
theorem rF {c:Cs}{ts:Ts}{f fp fr fi ft f1 f2:Addr}{fd dp dr di dt d1 d2:FuncData}(F:vQ K "__init__" "Tree.__init__" ph f fd)(T:Txt mg)(X:Exc K mg c f1 f2 d1 d2)(B:sI K mg ts ft dt)(G1:v7 P w K mg base aE 1 ft dt ["self", "land"] (mB K))
  (mq:mg "are_parents" = some (.ref fp)) (kq:keepIn K (.ref fp)=true) (bq:Binds K dp ["parents"] []) (Gq:v7 P w K mg base aE 3 fp dp ["parents"] (oW K))
  (mr:mg "tree_lanes" = some (.ref fr)) (kr:keepIn K (.ref fr)=true) (br:Binds K dr ["parents"] []) (Gr:v7 P w K mg base aE 1 fr dr ["parents"] (oS K))
  (M:Mk K c.land fi) (ml:mg "Land" = some (.ref c.land)) (bi:Binds K di ["self", "places", "lanes"] []) (Gi:v7 P w K mg base (cx P w) 4 fi di ["self", "places", "lanes"] (gN K c)) :
  v7 P w K mg base (cx P w) 6 f fd ["self", "parents"] (jk K c ts):=by
 refine F.xY ud (fun vs H Q E h=>?_) (fun cdv A outer s H vs Q E hr h=>?_)
 ·obtain⟨x,dx,a,xs,rfl,_⟩:=h
  rfl
 ·obtain⟨x,dx,a,xs,rfl,hx,hS,zZ,hlen,hE,hQ⟩:=h
  have xf:vE 1 _:=hr.mono (by decide)
  have hr3:vE 3 _:=hr.mono (by decide)
  refine⟨_,ad (a8 (aU (bu (aq Gq hr3 rfl mq kq bq .nil aw (aa (pv 1) ac))))
    (ah (aO rfl X.BY v8 (aZ X.BY X.Jv rfl rfl X.Ju (aa aP ac)))) am)
   (ad (aH (km (aA (v := .ref ts.tab) rfl B.mt rfl) B.cm G1 xf B.bt .nil aw (aa (pv 0) (aa (bn M Gi hr rfl ml bi .nil lK (aa (au bS (al aJ rfl T.len PySem.boot_len (aa (pv 1) ac)) af) (aa (aq Gr xf rfl mr kr br .nil aw (aa (pv 1) ac)) ac))) ac))))
   (ah (aV (pv 0) (bC bW rfl T.tuple PySem.Pv.boot_tuple (aa (pv 1) ac)) rfl))),?_⟩
  refine⟨_,rfl,a,xs,rfl,hS,zZ,hlen,fun H0 s0=>⟨_,rfl,?_⟩⟩
  cases ho:iN xs with
  | false=>exact a9 ⟨by show 1 <= sizeLine;decide,hE ho H0 s0⟩
  | true =>
   obtain⟨ps,rfl,hP,hQ⟩:=hQ ho
   rw[bT]at hlen
   refine av ?_
   refine⟨rfl,_,rfl,_,rfl,a,_,rfl, .inl (s0.seq hS),_,_,rfl,rfl,_,rfl,a,ps,rfl,s0.seq hS,by have:=hP.1;omega,fun D vU H1 s1 hD gD hL=>?_⟩
   refine fun lx vK nx xE Ec=>?_
   have Bx:v5 H1 (upd (upd H1 vK (.own lx)) lx (.ins c.land vK [])):=v5.new (v5.new (v5.refl H1) xE) (by rw[ae (Ne.symm Ec)];exact nx)
   have gd:=oO hP
   have Ea:vU.length=2 * ps.length:=(Paired.length hL).trans (dJ ps _)
   have h11:=hP.1
   have N1:=s0.trans s1
   refine⟨lx,vK,(ps.length:Int) + 1,D,vU,aT ps ps.length,?_,vz,vG.of (Bx _ _ gD),vV.same Bx hL,by omega,(fun h=>by rw[gd]at h;cases h),(fun k h=>by rw[gd]at h;cases h),(fun k h=>by rw[gd]at h;cases h),fun _ H8 lt vF off hLd=>⟨rfl,?_⟩⟩
   ·show [V.ref lx,V.int (((nV ps).length:Nat) + 1),V.ref D]=_
    rw[bT]
   have s8:v5 H H8:=fun b' o z=>off b' o (ai (N1 _ _ z) nx) (Bx _ _ (N1 _ _ z))
   have x8:=s8 _ _ hx
   refine⟨x,ts.tree,dx,_,rfl,x8,B.cl,B.n1,?_⟩
   have By:Off x H8 (upd H8 x (.ins ts.tree dx [("land", .ref lx)])):=fun b' o hb e=>by rw[ae hb];exact e
   refine⟨_,rfl,a,nV ps,rfl, .inl ⟨By.sq x8 (s8.seq hS),fun t ht=>?_⟩⟩
   have N2:(upd (upd H8 x (.ins ts.tree dx [("land", .ref lx)])) t (.tup (nV ps))) x=some (.ins ts.tree dx [("land", .ref lx)]):=by
    rw[ae (ai vz ht)];exact vz
   have Ed:Off x H8 (upd (upd H8 x (.ins ts.tree dx [("land", .ref lx)])) t (.tup (nV ps))):=fun b' o hb e=>by rw[ae (ai (By _ _ hb e) ht)];exact By _ _ hb e
   have N3:(upd (upd H8 x (.ins ts.tree dx [("land", .ref lx)])) t (.tup (nV ps))) t=some (.tup (nV ps)):=vz
   have ntx:t ≠ x:=Ne.symm (ai vz ht)
   generalize upd (upd H8 x (.ins ts.tree dx [("land", .ref lx)])) t (.tup (nV ps))=H9 at N2 Ed N3 ⊢
   refine⟨_,rfl,x,ts.tree,dx,[("land", .ref lx)],rfl,N2,B.cl,B.n2,by show 1 < 1000;decide,?_⟩
   have AB:Off x H8 (upd H9 x (.ins ts.tree dx (aQ "parents" (.ref t) [("land", .ref lx)]))):=fun b' o hb e=>by rw[ae hb];exact Ed _ _ hb e
   exact hQ _ lx vK lt vF t (fun b' o hb e=>AB b' o hb (s8 _ _ e)) ⟨by rw[vz];rfl,by rw[ae ntx];exact N3⟩ (Off.land AB x8 hLd)
abbrev NCh:List Str:=["self", "place", "goal", "child", "above"]
theorem Aa:aj NCh ["self", "place", "goal"] (ag lG):=L2.vX
theorem qc {ts:Ts}{f ft:Addr}{fd dt:FuncData}(F:vQ K "child_towards" "Tree.child_towards" lG f fd)(B:sI K mg ts ft dt):v7 P w K mg base aE 1 f fd ["self", "place", "goal"] (jt ts):=by
 refine F.ok Aa (fun vs H Q E h=>?_) (fun cdv A outer s H vs Q E hr h=>?_)
 ·obtain⟨x,dx,lv,t,ps,p,g,rfl,_⟩:=h
  rfl
 ·obtain⟨x,dx,lv,t,ps,p,g,rfl,hx,hP,hg,q⟩:=h
  refine⟨_,ad (ar (i:=3) Aa.nd rfl (Or.inl rfl) (pv 2))
   (ad (jZ PassesOwn.never (ao pL (pv 3) af (ap _))
    (ad (ar (i:=4) Aa.nd rfl (Or.inl rfl) (aR aW (aK (pv 0) rfl) (au dU (pv 3) af) (fun _ _=>rfl)))
    (ad (a8 (ao aL (pv 4) (pv 1) (ap _)) (ah (ay (pv 3))) am)
    (ah (ar (i:=3) Aa.nd rfl (Or.inl rfl) (pv 4))))))
   (ah (ay bK))),?_⟩
  refine⟨_,rfl,?_⟩
  refine⟨fun m σ H'=>∃ a4:Option V,H' = H/\m <= ps.length/\ct ps p m=ct ps p g/\σ=[some (.ref x),some (.int p),some (.int g),some (.int (m:Nat)),a4],⟨g,none,rfl,hg,rfl,rfl⟩,?_⟩
  rintro m σ H' ⟨a4,rfl,hm,hc,rfl⟩
  refine⟨_,rfl,rfl,_,rfl,?_⟩
  rw[ik]
  match m with
  | 0 =>
   rw[gE]at hc
   rw[← hc]at q
   exact CO rfl q
  | r + 1 =>
   rw[decide_eq_false (show ¬ ((r + 1:Nat):Int)=0 by omega)]
   have GJ:r < ps.length:=by omega
   have zE:ps[r]? = some (par ps r):=by
    have e:=List.getElem?_eq_getElem GJ
    rw[e,hP.at_ e]
   have hple:=dA ps r
   refine a9 ⟨fun σ' H2=>∃ a4:Option V,H2=H'/\ct ps p (par ps r)=ct ps p g/\σ' = [some (.ref x),some (.int p),some (.int g),some (.int (par ps r:Nat)),a4],fun σ' H2 v9=>by obtain⟨a4,e1,e2,e3⟩:=v9;exact⟨par ps r,by omega,a4,e1,by omega,e2,e3⟩,?_⟩
   refine⟨_,rfl,x,ts.tree,dx,_,_,rfl,hx.1,B.cl,B.n2,rfl,_,rfl,_,_,rfl,rfl,t,_,_,_,rfl,rfl,vO.of hx.2,(by show t8 (nV ps) (((r + 1:Nat):Int) - 1)=_;rw[show((r + 1:Nat):Int) - 1=(r:Nat) by omega];exact az (hU zE)),?_⟩
   refine⟨_,rfl,_,rfl,rfl,_,rfl,?_⟩
   rw[ik]
   rw[fA]at hc
   by_cases N4:par ps r=p
   ·rw[decide_eq_true (show((par ps r:Nat):Int)=(p:Int) by omega)]
    rw[if_pos N4]at hc
    rw[← hc]at q
    exact a9 ⟨_,rfl,q⟩
   ·rw[decide_eq_false (show ¬ ((par ps r:Nat):Int)=(p:Int) by omega)]
    rw[if_neg N4]at hc
    exact av ⟨_,rfl,_,rfl,hc,rfl⟩
structure Ch (K:Frag)(ts:Ts)(f:Addr)(d:FuncData):Prop where
 m:eA K ts.tree "child_towards" f
 b:Binds K d ["self", "place", "goal"] []
abbrev NWy:List Str:=["self", "place", "goal", "came", "child"]
theorem AD:aj NWy ["self", "place", "goal", "came"] (ag l6):=L2.vX
theorem pQ {ts:Ts}{f fn ft:Addr}{fd dn dt:FuncData}(F:vQ K "ways" "Tree.ways" l6 f fd)(B:sI K mg ts ft dt)(N:Ch K ts fn dn)(Gn:v7 P w K mg base aE 1 fn dn ["self", "place", "goal"] (jt ts)) :
  v7 P w K mg base aE 2 f fd ["self", "place", "goal", "came"] (gw ts):=by
 refine F.ok AD (fun vs H Q E h=>?_) (fun cdv A outer s H vs Q E hr h=>?_)
 ·obtain⟨x,dx,lv,t,ps,p,g,cv,rfl,_⟩:=h
  rfl
 ·obtain⟨x,dx,lv,t,ps,p,g,cv,rfl,hx,hP,hp,hg,q⟩:=h
  have h11:=hP.1
  refine⟨_,ad (a8 (ao aL (pv 1) (pv 2) (ap _)) (ah (ay (aD ac))) am)
   (ad (ar (i:=4) AD.nd rfl (Or.inl rfl) (bj (pv 0) B.cl N.m Gn hr N.b .nil aw (aa (pv 1) (aa (pv 2) ac))))
   (ad (a8 (ao lL (pv 4) bK (ap _)) (ah (ay (aD (aa (au pM af (au dU (pv 1) af)) ac)))) am)
   (ah (ay (aD (aa (au bS (au pM af (au dU (pv 4) af)) af) ac)))))),?_⟩
  refine⟨_,rfl,_,rfl,rfl,_,rfl,?_⟩
  rw[ik]
  by_cases N5:p=g
  ·rw[decide_eq_true (show (p:Int)=(g:Int) by omega)]
   refine a9 ⟨zero_le _,fun D hD=>q D _ ((v5.refl H).new hD) hD ?_⟩
   rw[vz];unfold je;rw[if_pos N5];rfl
  ·rw[decide_eq_false (show ¬ (p:Int)=(g:Int) by omega)]
   refine av ?_
   refine⟨_,rfl,x,dx,_,rfl,hx.1,rfl,_,rfl,_,rfl,x,dx,lv,t,ps,p,g,rfl,hx,hP,hg,?_⟩
   unfold je at q
   rw[if_neg N5]at q
   cases hc:ct ps p g with
   | none =>
    rw[hc]at q
    have hp0:1 <= p:=by
     rcases Nat.eq_zero_or_pos p with z | z
     ·subst z;exact absurd hc (fz ps g (by omega))
     ·exact z
    refine⟨_,rfl,rfl,_,rfl,a9 ?_⟩
    refine⟨_,rfl,_,_,rfl,rfl,_,_,rfl,rfl, .inl ⟨by decide,by decide⟩,by show 1 <= sizeLine;decide,fun D hD=>q D _ ((v5.refl H).new hD) hD ?_⟩
    rw[vz]
    show some (HO.lst [V.int (2 * ((p:Int) - 1))])=some (HO.lst [V.int ((2 * (p - 1):Nat):Int)])
    rw[show 2 * ((p:Int) - 1)=((2 * (p - 1):Nat):Int) by omega]
   | some b =>
    rw[hc]at q
    have hb1:=qI g hc
    refine⟨_,rfl,rfl,_,rfl,av ?_⟩
    refine⟨_,rfl,_,_,rfl,rfl,_,_,rfl,rfl, .inl ⟨by decide,by decide⟩,_,_,rfl,rfl,by show 1 <= sizeLine;decide,fun D hD=>q D _ ((v5.refl H).new hD) hD ?_⟩
    rw[vz]
    show some (HO.lst [V.int (2 * ((b:Int) - 1) + 1)])=some (HO.lst [V.int ((2 * (b - 1) + 1:Nat):Int)])
    rw[show 2 * ((b:Int) - 1) + 1=((2 * (b - 1) + 1:Nat):Int) by omega]
noncomputable def JG (m:Nat):List Nat:=Yd.xV m (Builtin.Int.intBits (m:Int))
theorem qo {m p:Nat}:p ∈ JG m↔m.testBit p=true:=Yd.xm (Yd.x5 m)
theorem qm {ks:List Nat}(h:ks.Pairwise (· < ·)):lR (Yd.wz ks 0)=nV ks:=by
 rw[rZ,lQ (ks:=ks) (ms:=iz ks) ?_ (fun k=>Iff.rfl),uW];rfl
 unfold iz
 exact List.Pairwise.map _ (fun a b Ee=>by show (a:Int) < (b:Int);omega) h
abbrev Wx:=Nat->Nat->Option Int->List Nat
noncomputable def fD (n:Nat)(f:Wx):ce->Nat
 | [some p,some g,c]=>if (0 <= p/\p < n)/\(0 <= g/\g < n) then Yd.wz (f p.toNat g.toNat c) 0 else 0
 | _=>0
theorem qi:∀ {a b:List Nat},nV a=nV b->a=b
 | [],[],_=>rfl
 | [],_ :: _,h=>by simp[nV]at h
 | _ :: _,[],h=>by simp[nV]at h
 | x :: a,y :: b,h=>by
  unfold nV at h
  rw[map_cons,map_cons]at h
  obtain⟨h1,h2⟩:=List.cons.inj h
  injection h1 with h1
  rw[qi (a:=a) (b:=b) h2,show x=y by omega]
theorem Ef {n:Nat}{f:Wx}{p g:Nat}{c:Option Int}(hp:p < n)(hg:g < n):fD n f [some (p:Int),some (g:Int),c]=Yd.wz (f p g c) 0:=by
 show(if (0 <= (p:Int)/\(p:Int) < n)/\(0 <= (g:Int)/\(g:Int) < n) then _ else _)=_
 rw[if_pos (by omega)]
 rfl
theorem sP {n:Nat}{f:Wx}(hf:∀ p g c,(f p g c).Pairwise (· < ·)){p g:Nat}{c:Option Int}(hp:p < n)(hg:g < n):wl (fD n f) [some (p:Int),some (g:Int),c]=f p g c:=by
 have h:=qm (hf p g c)
 rw[← Ef hp hg (f:=f)]at h
 rw[j9]at h
 exact qi h
theorem cq {wy:ce->Nat}{k:ce}(h:wy k=0):wl wy k=[]:=by
 refine List.eq_nil_iff_forall_not_mem.mpr fun z hz=>?_
 unfold wl at hz
 rw[h]at hz
 have:=(qo (m:=0) (p:=z)).mp hz
 rw[Nat.zero_testBit]at this
 cases this
theorem jN {n:Nat}{f:Wx}(hf:∀ p g c,(f p g c).Pairwise (· < ·))(k:ce):wl (fD n f) k=[]∨∃ p g c,p < n/\g < n/\wl (fD n f) k=f p g c:=by
 match k with
 | [some p,some g,c] =>
  by_cases h:(0 <= p/\p < n)/\(0 <= g/\g < n)
  ·refine .inr ⟨p.toNat,g.toNat,c,by omega,by omega,?_⟩
   have:=sP hf (n:=n) (p:=p.toNat) (g:=g.toNat) (c:=c) (by omega) (by omega)
   rw[Int.toNat_of_nonneg h.1.1,Int.toNat_of_nonneg h.2.1]at this
   exact this
  ·refine .inl (cq ?_)
   show(if _ then _ else _)=0
   rw[if_neg h]
 | []=>exact .inl (cq rfl)
 | [_]=>exact .inl (cq (by cases ‹Option Int›<;>rfl))
 | [none,_]=>exact .inl (cq rfl)
 | [some _,_]=>exact .inl (cq (by cases ‹Option Int›<;>rfl))
 | [none,_,_]=>exact .inl (cq rfl)
 | [some _,none,_]=>exact .inl (cq rfl)
 | a :: b :: c :: d :: e=>exact .inl (cq (by cases a<;>cases b<;>rfl))
theorem Eg {n L:Nat}{f:Wx}(hf:∀ p g c,(f p g c).Pairwise (· < ·))(h:∀ p g c,p < n->g < n->∀ z ∈ f p g c,z < L):∀ k,∀ z ∈ wl (fD n f) k,z < L:=fun k z hz=>by
 rcases jN hf (n:=n) k with e | ⟨p,g,c,hp,hg,e⟩
 ·rw[e]at hz;cases hz
 ·rw[e]at hz;exact h p g c hp hg z hz
theorem tH {n L:Nat}{f:Wx}(hf:∀ p g c,(f p g c).Pairwise (· < ·))(h:∀ p g c,p < n->g < n->(f p g c).length <= L):∀ k,(wl (fD n f) k).length <= L:=fun k=>by
 rcases jN hf (n:=n) k with e | ⟨p,g,c,hp,hg,e⟩
 ·rw[e];exact zero_le _
 ·rw[e];exact h p g c hp hg
noncomputable def fM (nx:Nat->Nat->Option Int->Nat):Wx:=fun p g c=>if p=g then [] else [nx p g c]
theorem gY (nx:Nat->Nat->Option Int->Nat)(p g:Nat)(c:Option Int):(fM nx p g c).Pairwise (· < ·):=by
 unfold fM
 split
 ·exact .nil
 ·exact List.pairwise_singleton _ _
theorem rD (nx:Nat->Nat->Option Int->Nat)(p g:Nat)(c:Option Int):(fM nx p g c).length <= 40:=by
 unfold fM
 split<;>simp
theorem vd {ps:List Nat}{p b:Nat}:∀ g,ct ps p g=some b->par ps (b - 1)=p:=by
 intro g
 induction g using Nat.strongRecOn with
 | ind g ih =>
  intro h
  match g with
  | 0=>rw[gE]at h;cases h
  | g + 1 =>
   rw[fA]at h
   by_cases e:par ps g=p
   ·rw[if_pos e]at h;rw[← Option.some.inj h];exact e
   ·rw[if_neg e]at h;exact ih _ (by have:=dA ps g;omega) h
noncomputable def oj (ps:List Nat)(p g:Nat)(_c:Option Int):Nat:=match ct ps p g with | none=>2 * (p - 1) | some b=>2 * (b - 1) + 1
theorem qR (ps:List Nat)(p g:Nat)(c:Option Int):je ps p g=fM (oj ps) p g c:=by
 unfold je fM oj
 split
 ·rfl
 ·cases ct ps p g<;>rfl
noncomputable def BT (ps:List Nat)(l g:Nat):Bool:=if l % 2=0 then decide (ct ps (l / 2 + 1) g=none/\l / 2 + 1 ≠ g) else decide (ct ps (par ps (l / 2)) g=some (l / 2 + 1))
theorem uM {ps:List Nat}{p g:Nat}(c:Option Int)(hp:p <= ps.length)(hg:g <= ps.length)(ne:p ≠ g):oj ps p g c < 2 * ps.length/\BT ps (oj ps p g c) g=true/\((oj ps p g c=2 * (p - 1)/\1 <= p)∨∃ b,ct ps p g=some b/\oj ps p g c=2 * (b - 1) + 1/\p < b):=by
 unfold oj
 cases h:ct ps p g with
 | none =>
  have h0:p ≠ 0:=fun z=>by
   subst z
   exact fz ps g (Ne.symm ne) h
  dsimp only
  refine⟨by omega,?_, .inl ⟨rfl,by omega⟩⟩
  unfold BT
  rw[if_pos (by omega),show 2 * (p - 1) / 2 + 1=p by omega]
  exact decide_eq_true ⟨h,ne⟩
 | some b =>
  have b1:=qI g h
  have b2:=Eb g h
  have b3:=vd g h
  have b4:=dA ps (b - 1)
  dsimp only
  refine⟨by omega,?_, .inr ⟨b,rfl,rfl,by omega⟩⟩
  unfold BT
  rw[if_neg (by omega),show(2 * (b - 1) + 1) / 2=b - 1 by omega,b3,show b - 1 + 1=b by omega]
  exact decide_eq_true h
theorem sA {H H':Hp}{D:Addr}{o:HO}(s:v5 H H')(hn:H D=none)(h:H' D=some o):∃ JH,v5 H JH/\JH D=none/\upd JH D o=H':=by
 refine⟨fun a=>if a=D then none else H' a,fun b u hb=>?_,if_pos rfl,?_⟩
 ·have:b ≠ D:=fun e=>by rw[e,hn]at hb;cases hb
  show(if b=D then none else H' b)=_
  rw[if_neg this]
  exact s b u hb
 ·funext a
  unfold upd
  by_cases e:a=D
  ·subst e;simp[h]
  ·simp[e]
theorem rY {n:Nat}{f:Wx}(hf:∀ p g c,(f p g c).Pairwise (· < ·)){p g:Nat}{c:Option Int}(hp:p < n)(hg:g < n):lR (fD n f [some (p:Int),some (g:Int),c])=nV (f p g c):=by
 rw[j9,sP hf hp hg]
noncomputable def JT (ts:Ts):oF:=fun H x n wy=>∃ (dx:Addr)(lv:V)(t:Addr)(ps:List Nat),mx H ts x dx lv t ps/\yP ps/\n=ps.length + 1/\wy=fD n (fM (oj ps))
section
variable {P:Program}{w:World}{K:Frag}{mg:Str->Option Value}{base:Heap}{c:Cs}{ts:Ts}{f:Addr}{fd:FuncData}{k:Nat}
theorem Eh (h:v7 P w K mg base aE k f fd ["self", "place", "goal", "came"] (gw ts)):v7 P w K mg base aE k f fd ["self", "place", "goal", "came"] (ji (JT ts)) :=
 h.imp fun vs H Q E ⟨x,n,wy,r,e,⟨dx,lv,t,ps,h1,hP,en,ew⟩,hp,hg,q⟩=>by
  subst e ew
  obtain⟨rp,rg,rc,rs⟩:=r
  dsimp only at hp hg q ⊢
  obtain⟨p,rfl⟩:∃ p:Nat,rp=(p:Int):=⟨rp.toNat,by omega⟩
  obtain⟨g,rfl⟩:∃ g:Nat,rg=(g:Int):=⟨rg.toNat,by omega⟩
  refine⟨x,dx,lv,t,ps,p,g,cV rc,rfl,h1,hP,by omega,by omega,fun D H' s hn hD=>?_⟩
  obtain⟨H2,s2,n2,rfl⟩:=sA s hn hD
  have e:nV (je ps p g)=lR (fD n (fM (oj ps)) (bv ⟨(p:Int),(g:Int),rc,rs⟩)):=by
   show _=lR (fD n (fM (oj ps)) [some (p:Int),some (g:Int),rc.map fun k:Nat=>(k:Int)])
   rw[rY (gY _) (by omega) (by omega),qR]
  rw[e]
  exact q H2 D s2 n2
theorem W_T (cl:xh K ts.tree)(m:eA K ts.tree "ways" f)(b:Binds K fd ["self", "place", "goal", "came"] []):vp K ts.tree f fd (JT ts) :=
 ⟨cl,m,b,fun H x n wy v9=>by obtain⟨dx,lv,t,ps,h1,_⟩:=v9;exact⟨dx,_,h1.1,rfl⟩,fun H H' x n wy ⟨dx,lv,t,ps,h1,h2⟩ s=>⟨dx,lv,t,ps,⟨s _ _ h1.1,s _ _ h1.2⟩,h2⟩⟩
end
theorem Ei {c:Cs}{ts:Ts}{H:Hp}{x dx lx vK lt t:Addr}{vF:List V}{ps:List Nat}(hP:yP ps)(h1:mx H ts x dx (.ref lx) t ps)(h2:bU H c lx vK lt ((ps.length:Int) + 1) vF (aT ps ps.length)) :
  wO c ts.tree (JT ts) H x lx vK lt (ps.length + 1) vF (aT ps ps.length) (fD (ps.length + 1) (fM (oj ps))):=by
 have h11:=hP.1
 have hl:=dJ ps ps.length
 refine⟨⟨dx,_,t,ps,h1,hP,rfl,rfl⟩,⟨dx,_,h1.1,rfl⟩,by rw[Int.natCast_add];exact h2,by omega,by omega,Eg (gY _) fun p g c hp hg z hz=>?_,tH (gY _) fun p g c _ _=>rD _ p g c,fun q hq=>by
  have:=jf hP ps.length (le_refl _) q hq
  rw[Int.natCast_add];exact this⟩
 unfold fM at hz
 split at hz
 ·cases hz
 ·next ne =>
  obtain rfl:=mem_singleton.mp hz
  rw[hl]
  exact(uM c (by omega) (by omega) ne).1
theorem vV.imp {H H':Hp}(h:∀ v p,vw H v p->vw H' v p):∀ {vs:List V}{ps:List (Int × Int)},vV H vs ps->vV H' vs ps:=fun v9=>by
 induction v9 with
 | nil=>exact .nil
 | cons z r ih=>exact .cons (h _ _ z) ih
noncomputable def hV:Option Int->V
 | none => .vJ
 | some z => .int z
abbrev Fs:=List (Str × V)
noncomputable def fs4 (r b:Int)(h:V)(pa:Addr):Fs:=[("rights", .int r),("returning", .int b),("holder",h),("pieces", .ref pa)]
structure wd (H:Hp)(C x dx pa:Addr)(r b:Int)(h:Option Int)(xF:List V)(qs:List (Int × Int)):Prop where
 ins:H x=some (.ins C dx (fs4 r b (hV h) pa))
 lst:H pa=some (.lst xF)
 JI:vV H xF qs
theorem wd.same {H H':Hp}{C x dx pa:Addr}{r b:Int}{h:Option Int}{xF:List V}{qs:List (Int × Int)}(L:wd H C x dx pa r b h xF qs)(s:v5 H H'):wd H' C x dx pa r b h xF qs:=⟨s _ _ L.ins,s _ _ L.lst,vV.same s L.JI⟩
structure GL (K:Frag)(C:Addr):Prop where
 cl:xh K C
 n1:vB K C "rights"
 n2:vB K C "returning"
 n3:vB K C "holder"
 n4:vB K C "pieces"
noncomputable def mD (C:Addr):Sp:=fun vs H Q _=>∃ (x dx:Addr)(room:Int),vs=[.ref x, .int room]/\H x=some (.ins C dx [])/\∀ (pa:Addr)(H':Hp),H pa=none->(∀ a o,a ≠ x->H a=some o->H' a=some o)->wd H' C x dx pa room 0 none [] []->Q .vJ H'
noncomputable def uZ:List V->V
 | [] => .vJ
 | v :: _=>v
inductive jr (C:Addr)(vs:List V)(H:Hp)(Q:VK)(E:XK):Prop
 | mk (x dx pa:Addr) (r b:Int) (h:Option Int) (xF:List V) (qs:List (Int × Int)) (_:vs=[.ref x]) (_:wd H C x dx pa r b h xF qs) (_:Q (uZ xF) H)
theorem Ej:aj ["self", "room"] ["self", "room"] (ag ul):=L2.vX
theorem uJ {C f:Addr}{fd:FuncData}(F:vQ K "__init__" "Lane.__init__" ul f fd)(L:GL K C):v7 P w K mg base aE 1 f fd ["self", "room"] (mD C):=by
 refine F.ok Ej (fun vs H Q E h=>?_) (fun cdv A outer s H vs Q E hr h=>?_)
 ·obtain⟨x,dx,room,rfl,_⟩:=h
  rfl
 ·obtain⟨x,dx,room,rfl,hx,q⟩:=h
  refine⟨_,ad (aV (pv 0) (pv 1) rfl) (ad (aV (pv 0) af rfl) (ad (aV (pv 0) bK rfl) (ah (aV (pv 0) (aD ac) rfl)))),?_⟩
  refine⟨_,rfl,_,rfl,x,C,dx,_,rfl,hx,L.cl,L.n1,by show 0 < 1000;decide,?_⟩
  refine⟨_,rfl,x,C,dx,_,rfl,vz,L.cl,L.n2,by show 1 < 1000;decide,?_⟩
  refine⟨_,rfl,x,C,dx,_,rfl,vz,L.cl,L.n3,by show 2 < 1000;decide,?_⟩
  refine⟨zero_le _,fun pa zo=>?_⟩
  have Bz:x ≠ pa:=ai vz zo
  refine⟨_,rfl,x,C,dx,_,rfl,by rw[ae Bz];exact vz,L.cl,L.n4,by show 3 < 1000;decide,?_⟩
  have Ek:H pa=none:=by
   rw[ae (Ne.symm Bz),ae (Ne.symm Bz),ae (Ne.symm Bz)]at zo
   exact zo
  refine q pa _ Ek (fun a o ha e=>?_) ⟨vz,by rw[ae (Ne.symm Bz)];exact vz, .nil⟩
  have nap:a ≠ pa:=fun z=>by
   rw[z,Ek]at e
   cases e
  rw[ae ha,ae nap,ae ha,ae ha,ae ha]
  exact e
theorem qZ:aj ["self"] ["self"] (ag lE):=L2.vX
theorem qa {C f:Addr}{fd:FuncData}(F:vQ K "front" "Lane.front" lE f fd)(L:GL K C):v7 P w K mg base aE 1 f fd ["self"] (jr C):=by
 refine F.ok qZ (fun vs H Q E h=>?_) (fun cdv A outer s H vs Q E hr h=>?_)
 ·obtain⟨x,dx,pa,r,b,h,xF,qs,rfl,_⟩:=h
  rfl
 ·obtain⟨x,dx,pa,r,b,h,xF,qs,rfl,hL,q⟩:=h
  refine⟨_,ah (ay (fj (gT (aK (pv 0) rfl) (fun _=>rfl)) (aR bP (aK (pv 0) rfl) af (fun _ _=>rfl)) bK)),?_⟩
  refine⟨_,rfl,x,C,dx,_,_,rfl,hL.ins,L.cl,L.n4,rfl,_, .inl ⟨_,vG.of hL.lst,rfl⟩,?_⟩
  cases xF with
  | nil=>exact av q
  | cons v rest=>exact a9 ⟨_,rfl,x,C,dx,_,_,rfl,hL.ins,L.cl,L.n4,rfl,pa,_,0,v,rfl,rfl,vG.of hL.lst,az (j:=0) rfl,q⟩
noncomputable def mV (m:Nat)(vR:List V):Bool:=decide (vR.length=m) && vR.all fun v=>gb v 1 60
noncomputable def Sq (K:Frag)(H:Hp)(a:Addr)(xs:List V):Prop:=vG K H a xs∨vO K H a xs
noncomputable def jl (K:Frag)(c:Cs)(nr:Addr):Sp:=fun vs H Q E=>∃ (lx vK lt:Addr)(n:Int)(vF:List V)(ps:List (Int × Int))(rv:V),vs=[.ref lx,rv]/\bU H c lx vK lt n vF ps/\ps.length <= 1000 /\
 ((rv = .vJ/\∀ t H',v5 H H'->H' t=some (.tup (List.replicate ps.length (.int 1)))->Q (.ref t) H') ∨
  (∃ ra vR,rv = .ref ra/\Sq K H ra vR/\vR.length <= 1000/\(∀ v ∈ vR,mz v)/\(mV ps.length vR=false->∀ H',v5 H H'->E (.ref nr) none H')/\(mV ps.length vR=true->∀ t H',v5 H H'->vO K H' t vR->Q (.ref t) H')))
noncomputable def uY (s:Stmt):Scope:=match s with
 | .If _ (.Return (some (.Call _ [.ListComp _ _ sc _] _ _)) _ :: _) _ _=>sc
 | _=>{ kind := .function,names:=[],isGenerator:=false,isCoroutine:=false }
noncomputable def u5 (s:Stmt):Scope:=match s with
 | .If (.BoolOp _ [_, .UnaryOp _ (.Call _ [.ListComp _ _ sc _] _ _) _] _) _ _ _=>sc
 | _=>{ kind := .function,names:=[],isGenerator:=false,isCoroutine:=false }
noncomputable def El:V->Bool
 | .int i=>decide ((if i < 0 then -i else i) < 10 ^ (60:Int).toNat)
 | _=>false
noncomputable def lp:Sp:=fun vs H Q _=>∃ v,vs=[v]/\mz v/\Q (.bl (El v)) H
noncomputable def sX (K:Frag)(f1 f2:Str):Sp:=fun vs H Q _=>∃ e C tt v1 v2,vs=[.ref e,v1,v2]/\H e=some (b8 e C tt none)/\dH K C/\findIn K (.ref C) f1=some none/\findIn K (.ref C) f2=some none/\∀ d H',H d=none->(∀ b o,b ≠ e->H b=some o->H' b=some o)->H' e=some (b8 e C tt (some d))->H' d=some (.xd [(f1,v1),(f2,v2)])->Q .vJ H'
theorem aY {K:Frag}{H H':Hp}{a:Addr}{xs:List V}(e:v5 H H')(h:vO K H a xs):vO K H' a xs:=by
 rcases h with h | h
 ·refine .inl ?_
  rcases h with h | ⟨o,h⟩
  ·exact .inl (e _ _ h)
  ·exact .inr ⟨o,e _ _ h⟩
 ·exact .inr h
theorem Em {X:Cx}{tg it:Expr}{a b:TI}(h1:PI X tg it a)(h2:PI X tg it b):PI X tg it (fun σ H R=>a σ H R∨b σ H R):=fun pins s σ H R I h=>h.elim (h1 pins s σ H R I) (h2 pins s σ H R I)
theorem kL {J:It}{xs:List V}{g:TG}{te:TE}{σ0:St}{H:Hp}{Q:VK}(f:V->V)(hn:xs.length < sizeLine)(hgo:∀ i,i < xs.length->J.go i H)(xJ:J.stop xs.length H)(hy:∀ i x H',J.zy i H x H'->H' = H/\xs[i]? = some x)
  (hs:∀ (x:V)(N:V->Hp->Prop),x ∈ xs->N (f x) H->g x σ0 H fun σ2 H2=>te σ2 H2 N)
  (hq:∀ D,H D=none->Q (.ref D) (upd H D (.lst (xs.map f)))):eh J g nI te σ0 Q H:=by
 refine b7 xs.length hn (fun i acc H'=>H' = H/\acc=(xs.take i).map f) ⟨rfl,rfl⟩ (fun i acc H' h=>by rw[h.2,length_map];exact length_take_le _ _) (fun i acc H' hi h=>?_) (fun acc H' h=>?_)
 ·obtain⟨rfl,rfl⟩:=h
  refine⟨hgo i hi,fun v H2 y=>?_⟩
  obtain⟨e,hx⟩:=hy i v H2 y
  subst e
  exact hs v (fun y H4=>H4=H2/\(xs.take i).map f ++ [y]=(xs.take (i + 1)).map f) (mem_of_getElem? hx) ⟨rfl,by rw[take_succ,hx,map_append];rfl⟩
 ·obtain⟨rfl,rfl⟩:=h
  rw[take_length]
  exact⟨xJ,hq⟩
theorem vf {K:Frag}{a:Addr}{xs:List V}{g:TG}{te:TE}{σ0:St}{H:Hp}{Q:VK}(f:V->V)(hn:xs.length < sizeLine)(ha:vG K H a xs)(hs:∀ (x:V) (N:V->Hp->Prop),x ∈ xs->N (f x) H->g x σ0 H fun σ2 H2=>te σ2 H2 N)
  (hq:∀ D,H D=none->Q (.ref D) (upd H D (.lst (xs.map f)))):eh (sL K a) g nI te σ0 Q H :=
 kL f hn (fun i hi=>⟨xs,xs[i],ha,by simp[hi]⟩) ⟨xs,ha,le_refl _⟩ (fun i x H' y=>⟨y.1,y.2 xs ha⟩) hs hq
theorem qK {K:Frag}{a:Addr}{xs:List V}{g:TG}{te:TE}{σ0:St}{H:Hp}{Q:VK}(f:V->V)(hn:xs.length < sizeLine)(ha:vO K H a xs)(hs:∀ (x:V) (N:V->Hp->Prop),x ∈ xs->N (f x) H->g x σ0 H fun σ2 H2=>te σ2 H2 N)
  (hq:∀ D,H D=none->Q (.ref D) (upd H D (.lst (xs.map f)))):eh (Gb K a) g nI te σ0 Q H :=
 kL f hn (fun i hi=>⟨xs,xs[i],ha,by simp[hi]⟩) ⟨xs,ha,le_refl _⟩ (fun i x H' y=>⟨y.1,y.2 xs ha⟩) hs hq
structure kY (K:Frag)(mg:Str->Option Value)(x:Str)(C:Addr):Prop where
 m:mg x=some (.ref C)
 x:aM K C none=true
 k:keepIn K (.ref C)=true
theorem JJ:aj ["land", "rooms"] ["land", "rooms"] (ag eK):=L2.vX
theorem JK:wM ["land", "rooms"] (ag eK) (uY ((ax eK).getD 0 (.Pass ⟨0,0,0,0⟩))) [] []:=L2.yb
theorem JL:wM ["land", "rooms"] (ag eK) (u5 ((ax eK).getD 1 (.Pass ⟨0,0,0,0⟩))) [] []:=L2.yb
theorem JM:(["lane"]:List Str).Nodup:=by decide +kernel
theorem En:(["room"]:List Str).Nodup:=by decide +kernel
theorem pS {c:Cs}{f fw nr:Addr}{fd dw:FuncData}{t1:Tok}(F:vQ K "rooms_of" "rooms_of" eK f fd)(T:Txt mg)(L:oH K c)(X:kY K mg "NoRooms" nr)
  (mw:mg "is_within" = some (.ref fw)) (kw:keepIn K (.ref fw)=true) (bw:Binds K dw ["value", "least", "most"] []) (Gw:v7 P w K mg base aE 2 fw dw ["value", "least", "most"] cf) (mp:mg "MOST_ROOM" = some (.int 60 t1)) :
  v7 P w K mg base (cx P w) 3 f fd ["land", "rooms"] (jl K c nr):=by
 refine F.xY JJ (fun vs H Q E h=>?_) (fun cdv A outer s H vs Q E hr h=>?_)
 ·obtain⟨lx,vK,lt,n,vF,ps,rv,rfl,_⟩:=h
  rfl
 ·obtain⟨lx,vK,lt,n,vF,ps,rv,rfl,hL,wR,hh⟩:=h
  refine⟨_,ad (a8 (ao lL (pv 1) bK (ap _)) (ah (ay (bC bW rfl T.tuple PySem.Pv.boot_tuple (aa (bx (own:=["lane"]) (capN:=[]) (cap:=[]) JK rfl (j1 (aK (pv 0) rfl))
     (fun C s' H' fp=>⟨a7 (i:=0) JM rfl (Or.inl rfl),bG,af⟩)) ac)))) am)
   (ad (a8 (mK (PW.pt (eW (ao pL (al aJ rfl T.len PySem.boot_len (aa (pv 1) ac)) (al aJ rfl T.len PySem.boot_len (aa (aK (pv 0) rfl) ac)) (ap _))
     (dP (aU (bu (al (eg rfl) rfl T.all PyProof.Rows.boot_all (aa (bx (own:=["room"]) (capN:=[]) (cap:=[]) JL rfl (Em (bN (pv 1)) (j1 (pv 1)))
      (fun C s' H' fp=>⟨a7 (i:=0) En rfl (Or.inl rfl),bG,aq Gw hr rfl mw kw bw .nil aw (aa (pv 0) (aa af (aa (aA (v := .int 60) rfl mp ⟨_,rfl⟩) ac)))⟩)) ac))))))))
    (ah (aO rfl X.x v8 (aZ X.x X.k rfl rfl X.m (aa aP ac)))) am)
   (ah (ay (bC bW rfl T.tuple PySem.Pv.boot_tuple (aa (pv 1) ac))))),?_⟩
  have Ea:vF.length=ps.length:=Paired.length hL.2.2
  refine⟨_,rfl,rfl,_,rfl,?_⟩
  rcases hh with ⟨rfl,q⟩ | ⟨ra,vR,rfl,hR,GJ,zZ,qE,q⟩
  ·refine a9 ⟨_,rfl,lx,c.land,vK,_,_,rfl,hL.1,L.cl,L.nl,rfl,lt,rfl,⟨_,vO.of hL.2.1⟩,?_⟩
   refine qK (fun _ => .int 1) (by rw[sizeLine_eq];omega) (vO.of hL.2.1) (fun x N hx h=>h) (fun D hD=>?_)
   have s1:=(v5.refl H).new (o := .lst (vF.map fun _=>V.int 1)) hD
   refine⟨D,_,rfl, .inl ⟨vG.of vz,fun t ht=>q t _ (s1.new ht) ?_⟩⟩
   rw[vz,List.map_const',Ea]
  ·refine av ?_
   have len1:∀ {H:Hp},Sq K H ra vR->(vG K H ra vR∨vO K H ra vR):=fun h=>h
   refine⟨fun b H'=>v5 H H'/\b = !mV ps.length vR,?_,?_⟩
   ·refine⟨_,rfl,ra,vR,rfl,hR,_,rfl,lx,c.land,vK,_,_,rfl,hL.1,L.cl,L.nl,rfl,lt,_,rfl, .inr (vO.of hL.2.1),rfl,_,rfl,?_⟩
    rw[cu,Ea]
    by_cases N6:vR.length=ps.length
    rotate_left
    ·rw[decide_eq_false (show ¬ ((vR.length:Nat):Int)=(ps.length:Nat) by omega)]
     refine a9 ⟨v5.refl H,?_⟩
     unfold mV
     rw[decide_eq_false N6];rfl
    rw[decide_eq_true (show((vR.length:Nat):Int)=(ps.length:Nat) by omega)]
    have step:∀ (x:V)(N:V->Hp->Prop),x ∈ vR->N (.bl (gb x 1 60)) H->mz x:=fun x _ hx _=>zZ x hx
    have fin:∀ D,H D=none->∃ (p:Addr)(bs:List Bool),[V.ref D]=[.ref p]/\vG K (upd H D (.lst (vR.map fun v=>V.bl (gb v 1 60)))) p (bs.map V.bl)/\∃ cc,V.bl (bs.all id) = .bl cc/\(v5 H (upd H D (.lst (vR.map fun v=>V.bl (gb v 1 60))))/\(!cc) = !mV ps.length vR):=fun D hD=>by
     refine⟨D,vR.map fun v=>gb v 1 60,rfl,vG.of (by rw[vz,map_map];rfl),_,rfl,(v5.refl H).new hD,?_⟩
     unfold mV
     rw[decide_eq_true N6,Bool.true_and,all_map];rfl
    refine av ?_
    rcases hR with hR | hR
    ·refine .inl ⟨_,rfl,ra,rfl,⟨_,hR⟩,?_⟩
     exact vf (fun v => .bl (gb v 1 60)) (by rw[sizeLine_eq];omega) hR (fun x N hx h=>⟨_,rfl,x,1,60,rfl,zZ x hx,h⟩) fin
    ·refine .inr ⟨_,rfl,ra,rfl,⟨_,hR⟩,?_⟩
     exact qK (fun v => .bl (gb v 1 60)) (by rw[sizeLine_eq];omega) hR (fun x N hx h=>⟨_,rfl,x,1,60,rfl,zZ x hx,h⟩) fin
   rintro b H' ⟨s',rfl⟩
   cases vD:mV ps.length vR with
   | false=>exact a9 ⟨by show 1 <= sizeLine;decide,qE vD H' s'⟩
   | true =>
    refine av ⟨_,rfl,ra,vR,rfl,?_⟩
    rcases hR with hR | hR
    ·exact .inl ⟨s'.seq hR,fun t ht=>q vD t _ (s'.new ht) (vO.of vz)⟩
    ·exact .inr ⟨aY s' hR,q vD ra _ s' (aY s' hR)⟩
theorem JN:aj ["word"] ["word"] (ag pf):=L2.vX
theorem rE {f fh:Addr}{fd dh:FuncData}(F:vQ K "is_word" "is_word" pf f fd)(T:Txt mg)(mh:mg "is_whole" = some (.ref fh))(kh:keepIn K (.ref fh)=true)(bh:Binds K dh ["value"] [])(G:v7 P w K mg base aE 1 fh dh ["value"] dM) :
  v7 P w K mg base aE 2 f fd ["word"] lp:=by
 refine F.ok JN (fun vs H Q E h=>?_) (fun cdv A outer s H vs Q E hr h=>?_)
 ·obtain⟨v,rfl,_⟩:=h
  rfl
 ·obtain⟨v,rfl,hv,q⟩:=h
  refine⟨_,ah (ay (bE (aq G hr rfl mh kh bh .nil aw (aa (pv 0) ac)) (bJ (bH kx (al qL rfl T.abs PyProof.Rows.boot_abs (aa (pv 0) ac)) (au cy af af) (ap _))))),?_⟩
  cases hv with
  | int i=>exact⟨_,rfl,_,rfl, .int i,true,rfl,a9 ⟨_,rfl,i,rfl,_,_,rfl,rfl,⟨by decide,by decide,by decide⟩,_,_,rfl,rfl,q⟩⟩
  | bl b=>exact⟨_,rfl,_,rfl, .bl b,false,rfl,av q⟩
  | vJ=>exact⟨_,rfl,_,rfl, .vJ,false,rfl,av q⟩
theorem JO:aj ["self", "start", "goal"] ["self", "start", "goal"] (ag rd):=L2.vX
theorem Eo {f:Addr}{fd:FuncData}(F:vQ K "__init__" "NoWay.__init__" rd f fd):v7 P w K mg base aE 1 f fd ["self", "start", "goal"] (sX K "start" "goal"):=by
 refine F.ok JO (fun vs H Q E h=>?_) (fun cdv A outer s H vs Q E hr h=>?_)
 ·obtain⟨e,C,tt,v1,v2,rfl,_⟩:=h
  rfl
 ·obtain⟨e,C,tt,v1,v2,rfl,he,hx,n1,n2,q⟩:=h
  refine⟨_,ad (pD (pv 0) (pv 1) rfl) (ah (pC (pv 0) (pv 2) rfl)),?_⟩
  refine⟨_,rfl,_,rfl,e,C,tt,rfl,he,hx,n1,fun d hd=>?_⟩
  have N7:e ≠ d:=ai he hd
  refine⟨_,rfl,_,rfl,e,C,tt,d,[("start",v1)],rfl,vz,by rw[ae (Ne.symm N7)];exact vz,by show 1 < 1000;decide,hx,n2,?_⟩
  refine q d _ hd (fun b o nb eb=>?_) (by rw[ae N7];exact vz) (by rw[vz];rfl)
  have N8:b ≠ d:=ai eb hd
  rw[ae N8,ae nb,ae N8]
  exact eb
abbrev Wf:=Nat->Nat->Option Nat->List Nat
abbrev TJ:=Hp->Addr->Nat->Wf->Prop
noncomputable def NL:HO->Prop
 | .lst _=>False
 | .ins _ _ []=>False
 | _=>True
noncomputable def wb (H H':Hp):Prop:=∀ b o,H b=some o->NL o->H' b=some o
theorem v5.wj {H H':Hp}(s:v5 H H'):wb H H':=fun b o e _=>s b o e
theorem wb.trans {H H1 H2:Hp}(a:wb H H1)(b:wb H1 H2):wb H H2:=fun x o e n=>b x o (a x o e n) n
theorem wb.BZ {H H':Hp}(k:wb H H'){vs:List V}{ps:List (Int × Int)}(h:vV H vs ps):vV H' vs ps:=vV.imp (fun _ _ ⟨t,e,q⟩=>⟨t,e,k _ _ q True.intro⟩) h
structure yy (c:Cs)(C:Addr)(J:TJ)(H:Hp)(x lx vK lt:Addr)(n:Nat)(vF:List V)(ps:List (Int × Int))(wy:Wf):Prop where
 j:J H x n wy
 i:∃ dx fs,H x=some (.ins C dx fs)/\fs.lookup ("land":Str)=some (.ref lx)/\fs.lookup ("ways":Str)=none
 l:bU H c lx vK lt (n:Int) vF ps
 DP:n <= 12
 zW:ps.length <= 40
 ok:∀ p g k,p < n->g < n->∀ z ∈ wy p g k,z < ps.length
structure Wy (K:Frag)(C fw:Addr)(dw:FuncData)(J:TJ):Prop where
 cl:xh K C
 nl:vB K C "land"
 m:eA K C "ways" fw
 b:Binds K dw ["self", "place", "goal", "came"] []
 wD:∀ H H' x n wy,J H x n wy->wb H H'->J H' x n wy
theorem yy.keep {K:Frag}{c:Cs}{C fw:Addr}{dw:FuncData}{J:TJ}{H H':Hp}{x lx vK lt:Addr}{n:Nat}{vF:List V}{ps:List (Int × Int)}{wy:Wf}(W:Wy K C fw dw J)(h:yy c C J H x lx vK lt n vF ps wy)(k:wb H H'):yy c C J H' x lx vK lt n vF ps wy :=
 ⟨W.wD _ _ _ _ _ h.j k,let ⟨dx,fs,h1,h2⟩:=h.i; ⟨dx,fs,k _ _ h1 (by cases fs with | nil=>cases h2.1 | cons _ _=>exact True.intro),h2⟩,⟨k _ _ h.l.1 True.intro,k _ _ h.l.2.1 True.intro,k.BZ h.l.2.2⟩,h.DP,h.zW,h.ok⟩
noncomputable def jh (J:TJ):Sp:=fun vs H Q _=>∃ (x:Addr)(n:Nat)(wy:Wf)(p g:Nat)(k:Option Nat),vs=[.ref x, .int p, .int g,cV k]/\J H x n wy/\p < n/\g < n/\∀ (D:Addr)(H':Hp),v5 H H'->H D=none->H' D=some (.lst (nV (wy p g k)))->Q (.ref D) H'
structure m5 where
 r:Int
 b:Int
 h:Option Int
 qs:List (Int × Int)
structure Ep where
 start:Int
 goal:Int
 len:Int
 word:Int
 gone:Int
 way:List Nat
structure YS where
 rooms:List V
 lanes:List m5
 vH:List Ep
 lies:List (List (Int × Int))
 done:List (List V)
structure Ys where
 vC:Addr
 vZ:Addr
 vM:Addr
noncomputable def xq (H:Hp)(C:Addr)(ex:List Addr)(v:V)(s:m5):Prop:=∃ x dx pa xF,v = .ref x/\wd H C x dx pa s.r s.b s.h xF s.qs/\pa ∉ ex
noncomputable def N9 (s:Ep)(wa:Addr):Fs:=[("start", .int s.start),("goal", .int s.goal),("length", .int s.len),("word", .int s.word),("gone", .int s.gone),("way", .ref wa)]
noncomputable def xG (H:Hp)(C:Addr)(ex:List Addr)(v:V)(s:Ep):Prop:=∃ x dx wa,v = .ref x/\H x=some (.ins C dx (N9 s wa))/\H wa=some (.lst (nV s.way))/\wa ∉ ex
noncomputable def wU (H:Hp)(v:V)(qs:List (Int × Int)):Prop:=∃ t vs,v = .ref t/\H t=some (.tup vs)/\vV H vs qs
noncomputable def AE (H:Hp)(v:V)(m:List V):Prop:=∃ t,v = .ref t/\H t=some (.tup m)
theorem Paired.mono {α β:Type}{R R':α->β->Prop}(h:∀ a b,R a b->R' a b):∀ {as:List α}{bs:List β},Paired R as bs->Paired R' as bs:=fun v9=>by
 induction v9 with
 | nil=>exact .nil
 | cons x r ih=>exact .cons (h _ _ x) ih
theorem Paired.snoc {α β:Type}{R:α->β->Prop}{a:α}{b:β}(h:R a b):∀ {as:List α}{bs:List β},Paired R as bs->Paired R (as ++ [a]) (bs ++ [b]):=fun v9=>by
 induction v9 with
 | nil=>exact .cons h .nil
 | cons x r ih=>exact .cons x ih
theorem Paired.at2 {α β:Type}{R:α->β->Prop}:∀ {as:List α}{bs:List β}{i:Nat}{b:β},Paired R as bs->bs[i]? = some b->∃ a,as[i]? = some a/\R a b:=by
 intro _ _ i _ v9
 induction v9 generalizing i with
 | nil=>intro h;cases h
 | cons x r ih =>
  intro h
  cases i with
  | zero=>cases h;exact⟨_,rfl,x⟩
  | succ i=>exact ih (i:=i) h
noncomputable def vS (ex:List Addr)(H H':Hp):Prop:=∀ b o,b ∉ ex->H b=some o->H' b=some o
theorem v5.wo {ex:List Addr}{H H':Hp}(s:v5 H H'):vS ex H H':=fun b o _ e=>s b o e
theorem vS.trans {ex:List Addr}{H H1 H2:Hp}(a:vS ex H H1)(b:vS ex H1 H2):vS ex H H2:=fun x o n e=>b x o n (a x o n e)
theorem vV.wo {ex:List Addr}{H H':Hp}(hx:∀ b ∈ ex,∃ xs,H b=some (.lst xs))(o:vS ex H H'){vs:List V}{ps:List (Int × Int)}(h:vV H vs ps):vV H' vs ps :=
 vV.imp (fun _ _ v9=>by obtain⟨t,e,q⟩:=v9;exact⟨t,e,o _ _ (fun z=>by obtain⟨xs,hz⟩:=hx _ z;rw[q]at hz;cases hz) q⟩) h
theorem vS.AF {ex:List Addr}{H H':Hp}(hx:∀ b ∈ ex,∃ o,H b=some o/\¬ NL o)(o:vS ex H H'):wb H H':=fun b u e n=>o b u (fun z=>by obtain⟨o',hz,hn⟩:=hx _ z;rw[e]at hz;cases hz;exact hn n) e
theorem vS.wj {ex:List Addr}{H H':Hp}(hx:∀ b ∈ ex,∃ xs,H b=some (.lst xs))(o:vS ex H H'):wb H H':=o.AF fun b hb=>let ⟨xs,hz⟩:=hx b hb; ⟨_,hz,id⟩
theorem xq.wo {ex:List Addr}{H H':Hp}{C:Addr}{v:V}{s:m5}(hx:∀ b ∈ ex,∃ xs,H b=some (.lst xs))(o:vS ex H H')(h:xq H C ex v s):xq H' C ex v s:=by
 obtain⟨x,dx,pa,xF,e,L,n⟩:=h
 have k:=o.wj hx
 exact⟨x,dx,pa,xF,e,⟨k _ _ L.ins True.intro,o _ _ n L.lst,vV.wo hx o L.JI⟩,n⟩
theorem xG.wo {ex:List Addr}{H H':Hp}{C:Addr}{v:V}{s:Ep}(hx:∀ b ∈ ex,∃ xs,H b=some (.lst xs))(o:vS ex H H')(h:xG H C ex v s):xG H' C ex v s:=by
 obtain⟨x,dx,wa,e,h1,h2,n⟩:=h
 exact⟨x,dx,wa,e,o.wj hx _ _ h1 True.intro,o _ _ n h2,n⟩
theorem wU.keep {H H':Hp}{v:V}{qs:List (Int × Int)}(k:wb H H')(h:wU H v qs):wU H' v qs:=by
 obtain⟨t,vs,e,h1,h2⟩:=h
 exact⟨t,vs,e,k _ _ h1 True.intro,k.BZ h2⟩
theorem AE.keep {H H':Hp}{v:V}{m:List V}(k:wb H H')(h:AE H v m):AE H' v m:=by
 obtain⟨t,e,h1⟩:=h
 exact⟨t,e,k _ _ h1 True.intro⟩
noncomputable def NA (tb ro la le li dn:Addr):Fs:=[("table", .ref tb),("rooms", .ref ro),("lanes", .ref la),("letters", .ref le),("lies", .ref li),("done", .ref dn)]
structure vN (K:Frag)(ys:Ys)(H:Hp)(y dy tb ro la le li dn:Addr)(s:YS):Prop where
 ins:H y=some (.ins ys.vC dy (NA tb ro la le li dn))
 GN:vO K H ro s.rooms
 yh:∃ vs,H la=some (.lst vs)/\Paired (xq H ys.vZ [la,le,li,dn]) vs s.lanes
 hle:∃ vs,H le=some (.lst vs)/\Paired (xG H ys.vM [la,le,li,dn]) vs s.vH
 yC:∃ vs,H li=some (.lst vs)/\Paired (wU H) vs s.lies
 yi:∃ vs,H dn=some (.lst vs)/\Paired (AE H) vs s.done
 ne:[la,le,li,dn].Nodup
theorem vN.Ab {K:Frag}{ys:Ys}{H:Hp}{y dy tb ro la le li dn:Addr}{s:YS}(h:vN K ys H y dy tb ro la le li dn s):∀ b ∈ [la,le,li,dn],∃ xs,H b=some (.lst xs):=by
 intro b hb
 obtain⟨v1,h1,_⟩:=h.yh
 obtain⟨v2,h2,_⟩:=h.hle
 obtain⟨v3,h3,_⟩:=h.yC
 obtain⟨v4,h4,_⟩:=h.yi
 simp only[mem_cons,not_mem_nil,or_false]at hb
 rcases hb with rfl | rfl | rfl | rfl
 ·exact⟨_,h1⟩
 ·exact⟨_,h2⟩
 ·exact⟨_,h3⟩
 ·exact⟨_,h4⟩
theorem vN.same {K:Frag}{ys:Ys}{H H':Hp}{y dy tb ro la le li dn:Addr}{s:YS}(h:vN K ys H y dy tb ro la le li dn s)(e:v5 H H'):vN K ys H' y dy tb ro la le li dn s:=by
 have hx:=h.Ab
 obtain⟨v1,h1,p1⟩:=h.yh
 obtain⟨v2,h2,p2⟩:=h.hle
 obtain⟨v3,h3,p3⟩:=h.yC
 obtain⟨v4,h4,p4⟩:=h.yi
 have o:vS [la,le,li,dn] H H':=v5.wo e
 exact⟨e _ _ h.ins,aY e h.GN,⟨v1,e _ _ h1,Paired.mono (fun _ _ z=>z.wo hx o) p1⟩,⟨v2,e _ _ h2,Paired.mono (fun _ _ z=>z.wo hx o) p2⟩,⟨v3,e _ _ h3,Paired.mono (fun _ _ z=>z.keep (v5.wj e)) p3⟩,⟨v4,e _ _ h4,Paired.mono (fun _ _ z=>z.keep (v5.wj e)) p4⟩,h.ne⟩
structure sH (K:Frag)(ys:Ys):Prop where
 cl:xh K ys.vC
 n1:vB K ys.vC "table"
 n2:vB K ys.vC "rooms"
 n3:vB K ys.vC "lanes"
 n4:vB K ys.vC "letters"
 n5:vB K ys.vC "lies"
 n6:vB K ys.vC "done"
 ct:xh K ys.vM
 t1:vB K ys.vM "start"
 t2:vB K ys.vM "goal"
 t3:vB K ys.vM "length"
 t4:vB K ys.vM "word"
 t5:vB K ys.vM "gone"
 t6:vB K ys.vM "way"
 L:GL K ys.vZ
noncomputable def oZ (C:Addr):Sp:=fun vs H Q _=>∃ (x dx:Addr)(a b l u:Int),vs=[.ref x, .int a, .int b, .int l, .int u]/\H x=some (.ins C dx [])/\∀ (wa:Addr)(H':Hp),H wa=none->(∀ z o,z ≠ x->H z=some o->H' z=some o)->H' x=some (.ins C dx (N9 ⟨a,b,l,u,0,[]⟩ wa))->H' wa=some (.lst (nV []))->Q .vJ H'
theorem Er:aj ["self", "start", "goal", "length", "word"] ["self", "start", "goal", "length", "word"] (ag pz):=L2.vX
theorem uI {ys:Ys}{f:Addr}{fd:FuncData}(F:vQ K "__init__" "Letter.__init__" pz f fd)(Y:sH K ys):v7 P w K mg base aE 1 f fd ["self", "start", "goal", "length", "word"] (oZ ys.vM):=by
 refine F.ok Er (fun vs H Q E h=>?_) (fun cdv A outer s H vs Q E hr h=>?_)
 ·obtain⟨x,dx,a,b,l,u,rfl,_⟩:=h
  rfl
 ·obtain⟨x,dx,a,b,l,u,rfl,hx,q⟩:=h
  refine⟨_,ad (aV (pv 0) (pv 1) rfl) (ad (aV (pv 0) (pv 2) rfl) (ad (aV (pv 0) (pv 3) rfl) (ad (aV (pv 0) (pv 4) rfl) (ad (aV (pv 0) af rfl) (ah (aV (pv 0) (aD ac) rfl)))))),?_⟩
  refine⟨_,rfl,_,rfl,x,ys.vM,dx,_,rfl,hx,Y.ct,Y.t1,by show 0 < 1000;decide,?_⟩
  refine⟨_,rfl,_,rfl,x,ys.vM,dx,_,rfl,vz,Y.ct,Y.t2,by show 1 < 1000;decide,?_⟩
  refine⟨_,rfl,_,rfl,x,ys.vM,dx,_,rfl,vz,Y.ct,Y.t3,by show 2 < 1000;decide,?_⟩
  refine⟨_,rfl,_,rfl,x,ys.vM,dx,_,rfl,vz,Y.ct,Y.t4,by show 3 < 1000;decide,?_⟩
  refine⟨_,rfl,x,ys.vM,dx,_,rfl,vz,Y.ct,Y.t5,by show 4 < 1000;decide,?_⟩
  refine⟨zero_le _,fun wa zG=>?_⟩
  have B0:x ≠ wa:=ai vz zG
  refine⟨_,rfl,x,ys.vM,dx,_,rfl,by rw[ae B0];exact vz,Y.ct,Y.t6,by show 5 < 1000;decide,?_⟩
  have Es:H wa=none:=by
   rw[ae (Ne.symm B0),ae (Ne.symm B0),ae (Ne.symm B0),ae (Ne.symm B0),ae (Ne.symm B0)]at zG
   exact zG
  refine q wa _ Es (fun z o nz e=>?_) vz (by rw[ae (Ne.symm B0)];exact vz)
  have nzw:z ≠ wa:=ai e Es
  rw[ae nz,ae nzw,ae nz,ae nz,ae nz,ae nz,ae nz]
  exact e
noncomputable def vI:V->Int
 | .int i=>i
 | _=>0
noncomputable def qr (v:V):m5:=⟨vI v,0,none,[]⟩
noncomputable def Y0 (rooms:List V)(n:Nat):YS:=⟨rooms,rooms.map qr,[],List.replicate n [],[]⟩
noncomputable def wW (H0 H:Hp)(C:Addr)(v:V)(s:m5):Prop:=∃ x dx pa,v = .ref x/\wd H C x dx pa s.r s.b s.h [] []/\s.qs=[]/\H0 x=none/\H0 pa=none
theorem wW.same {H0 H H':Hp}{C:Addr}{v:V}{s:m5}(h:wW H0 H C v s)(e:v5 H H'):wW H0 H' C v s:=by
 obtain⟨x,dx,pa,h1,h2,h3⟩:=h
 exact⟨x,dx,pa,h1,h2.same e,h3⟩
noncomputable def vW (y:Addr)(ex:List Addr)(H:Hp)(C:Addr)(v:V)(s:m5):Prop:=∃ x dx pa,v = .ref x/\wd H C x dx pa s.r s.b s.h [] []/\s.qs=[]/\x ≠ y/\pa ≠ y/\pa ∉ ex
theorem wW.Et {H0 H:Hp}{C y:Addr}{v:V}{s:m5}{u:HO}(h:wW H0 H C v s)(hy:H0 y=some u):vW y [] H C v s:=by
 obtain⟨x,dx,pa,h1,h2,h3,h4,h5⟩:=h
 exact⟨x,dx,pa,h1,h2,h3,(fun z=>by rw[z,hy]at h4;cases h4),(fun z=>by rw[z,hy]at h5;cases h5),not_mem_nil⟩
theorem vW.same {y:Addr}{ex:List Addr}{H H':Hp}{C:Addr}{v:V}{s:m5}(h:vW y ex H C v s)(e:v5 H H'):vW y ex H' C v s:=by
 obtain⟨x,dx,pa,h1,h2,h3⟩:=h
 exact⟨x,dx,pa,h1,h2.same e,h3⟩
theorem vW.upd {y:Addr}{ex:List Addr}{H:Hp}{C:Addr}{v:V}{s:m5}{o:HO}(h:vW y ex H C v s):vW y ex (upd H y o) C v s:=by
 obtain⟨x,dx,pa,h1,h2,h3,h4,h5,h6⟩:=h
 exact⟨x,dx,pa,h1,⟨by rw[ae h4];exact h2.ins,by rw[ae h5];exact h2.lst, .nil⟩,h3,h4,h5,h6⟩
theorem vW.new {y a:Addr}{ex:List Addr}{H:Hp}{C:Addr}{v:V}{s:m5}{o:HO}(h:vW y ex H C v s)(ha:H a=none):vW y (a :: ex) (L2.upd H a o) C v s:=by
 obtain⟨x,dx,pa,h1,h2,h3,h4,h5,h6⟩:=h
 exact⟨x,dx,pa,h1,h2.same ((v5.refl H).new ha),h3,h4,h5,fun z=>(mem_cons.mp z).elim (fun z=>by rw[z]at h2;rw[h2.lst]at ha;cases ha) h6⟩
theorem vW.Eu {y:Addr}{ex HD:List Addr}{H:Hp}{C:Addr}{v:V}{s:m5}(h:vW y ex H C v s)(hs:∀ a ∈ HD,a ∈ ex):xq H C HD v s:=by
 obtain⟨x,dx,pa,h1,h2,h3,h4,h5,h6⟩:=h
 exact⟨x,dx,pa,[],h1,by rw[h3];exact h2,fun z=>h6 (hs _ z)⟩
theorem me {K:Frag}{ro C:Addr}{vR:List V}{g:TG}{te:TE}{σ0:St}{H:Hp}{Q:VK}(hn:vR.length < sizeLine)(ha:vO K H ro vR)(hint:∀ v ∈ vR,∃ r,v = .int r)
  (hs:∀ (r:Int)(H1:Hp)(N:V->Hp->Prop),v5 H H1->(∀ x dx pa H2,H1 x=none->H1 pa=none->v5 H1 H2->wd H2 C x dx pa r 0 none [] []->N (.ref x) H2)->g (.int r) σ0 H1 fun σ2 H2=>te σ2 H2 N)
  (hq:∀ D vs H1,v5 H H1->H1 D=none->Paired (wW H H1 C) vs (vR.map qr)->Q (.ref D) (upd H1 D (.lst vs))):eh (Gb K ro) g nI te σ0 Q H:=by
 refine b7 vR.length hn (fun i acc H'=>v5 H H'/\Paired (wW H H' C) acc ((vR.take i).map qr)) ⟨v5.refl _, .nil⟩ (fun i acc H' h=>by have:=Paired.length h.2;rw[this,length_map];exact length_take_le _ _) (fun i acc H' hi h=>?_) (fun acc H' h=>?_)
 ·obtain⟨s,hL⟩:=h
  refine⟨⟨vR,vR[i],aY s ha,by simp[hi]⟩,fun v H2 y=>?_⟩
  obtain⟨e,y⟩:=y
  subst e
  have hv:=y _ (aY s ha)
  obtain⟨r,rfl⟩:=hint v (mem_of_getElem? hv)
  refine hs r H2 (fun y H4=>v5 H H4/\Paired (wW H H4 C) (acc ++ [y]) ((vR.take (i + 1)).map qr)) s fun x dx pa H3 nx npa s3 DO=>⟨s.trans s3,?_⟩
  rw[take_succ,hv,Option.toList_some,map_append]
  exact Paired.snoc (b:=qr (.int r)) ⟨x,dx,pa,rfl,DO,rfl,s.free nx,s.free npa⟩ (Paired.mono (fun _ _ z=>z.same s3) hL)
 ·obtain⟨s,hL⟩:=h
  rw[take_length]at hL
  exact⟨⟨vR,aY s ha,le_refl _⟩,fun D hD=>hq D acc H' s hD hL⟩
theorem oC {n:Nat}{g:TG}{te:TE}{σ0:St}{H:Hp}{Q:VK}(hn:n <= 1000)
  (hs:∀ (i:Nat)(H1:Hp)(N:V->Hp->Prop),v5 H H1->(∀ t,H1 t=none->N (.ref t) (upd H1 t (.tup [])))->g (.int (0 + i)) σ0 H1 fun σ2 H2=>te σ2 H2 N)
  (hq:∀ D vs H1,v5 H H1->H1 D=none->Paired (wU H1) vs (List.replicate n [])->Q (.ref D) (upd H1 D (.lst vs))):eh (tD 0 n) g nI te σ0 Q H:=by
 refine b7 n (by rw[sizeLine_eq];omega) (fun i acc H'=>v5 H H'/\Paired (wU H') acc (List.replicate i [])) ⟨v5.refl _, .nil⟩ (fun i acc H' h=>by have:=Paired.length h.2;rw[this,length_replicate];exact le_refl _) (fun i acc H' hi h=>?_) (fun acc H' h=>?_)
 ·obtain⟨s,hL⟩:=h
  refine⟨hi,fun v H2 y=>?_⟩
  obtain⟨e1,e2⟩:=y
  subst e1 e2
  refine hs i H2 (fun y H4=>v5 H H4/\Paired (wU H4) (acc ++ [y]) (List.replicate (i + 1) [])) s fun t ht=>⟨s.new ht,?_⟩
  rw[List.replicate_succ']
  exact Paired.snoc ⟨t,[],rfl,vz, .nil⟩ (Paired.mono (fun _ _ z=>z.keep (v5.wj ((v5.refl H2).new ht))) hL)
 ·obtain⟨s,hL⟩:=h
  exact⟨le_refl n,fun D hD=>hq D acc H' s hD hL⟩
theorem ei {K:Frag}{H:Hp}{a y C d:Addr}{fs:Fs}{o:HO}{xs:List V}(hy:H y=some (.ins C d fs))(h:vO K H a xs):vO K (upd H y o) a xs:=by
 rcases h with h | h
 ·refine .inl ?_
  rcases h with h | ⟨u,h⟩
  ·exact .inl (by rw[ae (bO h hy (by intro z;cases z))];exact h)
  ·exact .inr ⟨u,by rw[ae (bO h hy (by intro z;cases z))];exact h⟩
 ·exact .inr h
theorem qU {K:Frag}{H:Hp}{a y C d:Addr}{fs:Fs}{o:HO}{xs:List V}(hy:H y=some (.ins C d fs))(h:vG K H a xs):vG K (upd H y o) a xs:=by
 rcases h with h | h
 ·refine .inl ?_
  rcases h with h | ⟨u,h⟩
  ·exact .inl (by rw[ae (bO h hy (by intro z;cases z))];exact h)
  ·exact .inr ⟨u,by rw[ae (bO h hy (by intro z;cases z))];exact h⟩
 ·exact .inr h
noncomputable def oR (K:Frag)(c:Cs)(TC:Addr)(J:TJ)(ys:Ys)(nr:Addr):Sp:=fun vs H Q E=>∃ (y dy tb lx vK lt:Addr)(n:Nat)(vF:List V)(ps:List (Int × Int))(wy:Wf)(rv:V)(vR:List V),vs=[.ref y, .ref tb,rv]/\H y=some (.ins ys.vC dy [])/\yy c TC J H tb lx vK lt n vF ps wy /\
 ((rv = .vJ/\vR=List.replicate ps.length (.int 1))∨(∃ ra,rv = .ref ra/\Sq K H ra vR/\vR.length <= 1000/\(∀ v ∈ vR,mz v)/\(mV ps.length vR=false->∀ H',vS [y] H H'->E (.ref nr) none H'))) /\
 (mV ps.length vR=true->∀ (ro la le li dn:Addr)(H':Hp),vS [y] H H'->H la=none->H le=none->H li=none->H dn=none->vN K ys H' y dy tb ro la le li dn (Y0 vR n)->Q .vJ H')
noncomputable def Ew (s:Stmt):Scope:=match s with
 | .Assign _ (.ListComp _ _ sc _) _=>sc
 | _=>{ kind := .function,names:=[],isGenerator:=false,isCoroutine:=false }
theorem gz {v:V}{a b:Int}(h:gb v a b=true):∃ r,v = .int r:=by
 cases v<;>first | exact⟨_,rfl⟩ | cases h
theorem JP:aj ["self", "table", "rooms"] ["self", "table", "rooms"] (ag e9):=L2.vX
theorem Ex:wM ["self", "table", "rooms"] (ag e9) (Ew ((ax e9).getD 2 (.Pass ⟨0,0,0,0⟩))) [] []:=L2.yb
theorem Ey:wM ["self", "table", "rooms"] (ag e9) (Ew ((ax e9).getD 4 (.Pass ⟨0,0,0,0⟩))) [] []:=L2.yb
theorem Ez:(["place"]:List Str).Nodup:=by decide +kernel
theorem u9 {c:Cs}{ys:Ys}{J:TJ}{TC f GO fr fl nr:Addr}{fd GP dr dl:FuncData}(F:yN K "__init__" "Yard.__init__" e9 f fd)(T:Txt mg)(L:oH K c)(Y:sH K ys)(W:Wy K TC GO GP J)
  (mr:mg "rooms_of" = some (.ref fr)) (kr:keepIn K (.ref fr)=true) (br:Binds K dr ["land", "rooms"] []) (Gr:v7 P w K mg base (cx P w) 3 fr dr ["land", "rooms"] (jl K c nr))
  (ml:mg "Lane" = some (.ref ys.vZ)) (Ml:Mk K ys.vZ fl) (bl:Binds K dl ["self", "room"] []) (Gl:v7 P w K mg base aE 1 fl dl ["self", "room"] (mD ys.vZ)) :
  v7 P w K mg base (cx P w) 4 f fd ["self", "table", "rooms"] (oR K c TC J ys nr):=by
 refine F.xY JP (fun vs H Q E h=>?_) (fun cdv A outer s H vs Q E hr h=>?_)
 ·obtain⟨y,dy,tb,lx,vK,lt,n,vF,ps,wy,rv,vR,rfl,_⟩:=h
  rfl
 ·obtain⟨y,dy,tb,lx,vK,lt,n,vF,ps,wy,rv,vR,rfl,hy,hT,hrv,q⟩:=h
  have wC:vE 2 _:=hr.mono (by decide)
  refine⟨_,ad (aV (pv 0) (pv 1) rfl)
   (ad (aV (pv 0) (r8 (aq Gr hr rfl mr kr br .nil (wL.passes v8 rfl) (aa (aK (pv 1) rfl) (aa (pv 2) ac)))) rfl)
   (ad (aV (pv 0) (bx (own:=["room"]) (capN:=[]) (cap:=[]) Ex rfl (j1 (aK (pv 0) rfl)) (fun C s' H' fp=>⟨a7 (i:=0) En rfl (Or.inl rfl),bG,bn Ml Gl wC rfl ml bl .nil aw (aa (pv 0) ac)⟩)) rfl)
   (ad (aV (pv 0) (aD ac) rfl)
   (ad (aV (pv 0) (bx (own:=["place"]) (capN:=[]) (cap:=[]) Ey rfl (et rfl T.range (aa (aK (aK (pv 1) rfl) rfl) ac)) (fun C s' H' fp=>⟨a7 (i:=0) Ez rfl (Or.inl rfl),bG,bR ac⟩)) rfl)
   (ah (aV (pv 0) (aD ac) rfl)))))),?_⟩
  have hm40:=hT.zW
  have hn12:=hT.DP
  obtain⟨E2,fst,Cf,xy,_⟩:=hT.i
  have kp:∀ {H':Hp},vS [y] H H'->wb H H':=fun o=>o.AF fun b hb=>by rw[mem_singleton.mp hb];exact⟨_,hy,id⟩
  have NB:tb ≠ y:=bO Cf hy (fun z=>by injection z with _ _ z3;rw[z3]at xy;cases xy)
  refine⟨_,rfl,_,rfl,y,ys.vC,dy,_,rfl,hy,Y.cl,Y.n1,by show 0 < 1000;decide,?_⟩
  have o1:vS [y] H (upd H y (.ins ys.vC dy (aQ "table" (.ref tb) []))):=fun b o nb e=>by rw[ae (fun z=>nb (by rw[z];exact mem_singleton.mpr rfl))];exact e
  have g1:(upd H y (.ins ys.vC dy (aQ "table" (.ref tb) []))) y=some (.ins ys.vC dy [("table", .ref tb)]):=vz
  have NC:∀ ra,Sq K H ra vR->Sq K (upd H y (.ins ys.vC dy (aQ "table" (.ref tb) []))) ra vR:=fun ra h=>h.elim (fun h => .inl (qU hy h)) fun h => .inr (ei hy h)
  show _
  generalize upd H y (.ins ys.vC dy (aQ "table" (.ref tb) []))=A1 at o1 g1 NC ⊢
  have JQ:=hT.keep W (kp o1)
  have E3:∀ {Ha Hb:Hp}{o:HO},vS [y] Ha Hb->vS [y] Ha (upd Hb y o):=fun {Ha Hb o} h b u nb e=>by rw[ae (fun z=>nb (by rw[z];exact mem_singleton.mpr rfl))];exact h b u nb e
  refine⟨fun v A2=>∃ ro,v = .ref ro/\v5 A1 A2/\vO K A2 ro vR/\mV ps.length vR=true,?_,?_⟩
  ·refine⟨_,rfl,tb,TC,E2,fst,_,rfl,o1 _ _ (fun z=>NB (mem_singleton.mp z)) Cf,W.cl,W.nl,xy,_,rfl,lx,vK,lt,(n:Int),vF,ps,rv,rfl,JQ.l,by omega,?_⟩
   rcases hrv with ⟨rfl,rfl⟩ | ⟨ra,rfl,hR,GJ,zZ,qE⟩
   ·refine .inl ⟨rfl,fun t A2 s2 ht=>⟨t,rfl,s2,vO.of ht,?_⟩⟩
    unfold mV
    rw[length_replicate,decide_eq_true rfl,Bool.true_and,all_eq_true]
    intro v hv
    rw[eq_of_mem_replicate hv];rfl
   ·have hR1:Sq K A1 ra vR:=NC ra hR
    exact .inr ⟨ra,vR,rfl,hR1,GJ,zZ,fun vD A2 s2=>qE vD A2 (o1.trans (v5.wo s2)),fun vD t A2 s2 ht=>⟨t,rfl,s2,ht,vD⟩⟩
  rintro v A2 ⟨ro,rfl,s2,GN,vD⟩
  have xu:vR.length=ps.length/\∀ v ∈ vR,∃ r,v = .int r:=by
   unfold mV at vD
   rw[Bool.and_eq_true,decide_eq_true_eq,all_eq_true]at vD
   exact⟨vD.1,fun v hv=>gz (vD.2 v hv)⟩
  have o2:vS [y] H A2:=o1.trans (v5.wo s2)
  have g2:=s2 _ _ g1
  refine⟨_,rfl,y,ys.vC,dy,_,rfl,g2,Y.cl,Y.n2,by show 1 < 1000;decide,?_⟩
  have o3:=E3 (o := .ins ys.vC dy (aQ "rooms" (.ref ro) [("table", .ref tb)])) o2
  have g3:(upd A2 y (.ins ys.vC dy (aQ "rooms" (.ref ro) [("table", .ref tb)]))) y=some (.ins ys.vC dy [("table", .ref tb),("rooms", .ref ro)]):=vz
  have Ac:vO K (upd A2 y (.ins ys.vC dy (aQ "rooms" (.ref ro) [("table", .ref tb)]))) ro vR:=ei g2 GN
  show _
  generalize upd A2 y (.ins ys.vC dy (aQ "rooms" (.ref ro) [("table", .ref tb)]))=A3 at o3 g3 Ac ⊢
  refine⟨_,rfl,y,ys.vC,dy,_,_,rfl,g3,Y.cl,Y.n2,rfl,ro,rfl,⟨_,Ac⟩,?_⟩
  refine me (C:=ys.vZ) (by rw[sizeLine_eq];omega) Ac xu.2 (fun r B N sB hN=>?_) (fun la vU A4 s4 yh hLn=>?_)
  ·refine⟨_,rfl,fun x dx nx xE Ec=>⟨x,dx,r,rfl,vz,fun pa B2 zo off hL=>⟨rfl,?_⟩⟩⟩
   have Bz:B pa=none:=by
    by_cases e1:pa=x
    ·rw[e1,vz]at zo;cases zo
    ·by_cases e2:pa=dx
     ·rw[e2,ae Ec,vz]at zo;cases zo
     ·rw[ae e1,ae e2]at zo;exact zo
   refine hN x dx pa B2 nx Bz (fun b o e=>off b o (ai e nx) ?_) hL
   rw[ae (ai e nx),ae (ai e xE)]
   exact e
  have o4:vS [y] H A4:=o3.trans (v5.wo s4)
  have g4:=s4 _ _ g3
  have Cg:la ≠ y:=Ne.symm (ai g4 yh)
  have la0:H la=none:=by
   cases e:H la with
   | none=>rfl
   | some u=>rw[o4 _ _ (fun z=>Cg (mem_singleton.mp z)) e]at yh;cases yh
  have ND:Paired (vW y [la] (upd A4 la (.lst vU)) ys.vZ) vU (vR.map qr):=Paired.mono (fun _ _ z=>(z.Et g3).new yh) hLn
  have o5:vS [y] H (upd A4 la (.lst vU)):=o4.trans (v5.wo ((v5.refl A4).new yh))
  have g5:(upd A4 la (.lst vU)) y=some (.ins ys.vC dy [("table", .ref tb),("rooms", .ref ro)]):=by rw[ae (Ne.symm Cg)];exact g4
  have E4:(upd A4 la (.lst vU)) la=some (.lst vU):=vz
  have E5:vO K (upd A4 la (.lst vU)) ro vR:=aY ((v5.refl A4).new yh) (aY s4 Ac)
  refine⟨_,rfl,y,ys.vC,dy,_,rfl,g5,Y.cl,Y.n3,by show 2 < 1000;decide,?_⟩
  generalize upd A4 la (.lst vU)=A5 at ND o5 g5 E4 E5 ⊢
  have NG:Paired (vW y [la] (upd A5 y (.ins ys.vC dy (aQ "lanes" (.ref la) [("table", .ref tb),("rooms", .ref ro)]))) ys.vZ) vU (vR.map qr):=Paired.mono (fun _ _ z=>z.upd) ND
  have o6:=E3 (o := .ins ys.vC dy (aQ "lanes" (.ref la) [("table", .ref tb),("rooms", .ref ro)])) o5
  have g6:(upd A5 y (.ins ys.vC dy (aQ "lanes" (.ref la) [("table", .ref tb),("rooms", .ref ro)]))) y=some (.ins ys.vC dy [("table", .ref tb),("rooms", .ref ro),("lanes", .ref la)]):=vz
  have B1:(upd A5 y (.ins ys.vC dy (aQ "lanes" (.ref la) [("table", .ref tb),("rooms", .ref ro)]))) la=some (.lst vU):=by rw[ae Cg];exact E4
  have E6:=ei (o := .ins ys.vC dy (aQ "lanes" (.ref la) [("table", .ref tb),("rooms", .ref ro)])) g5 E5
  generalize upd A5 y (.ins ys.vC dy (aQ "lanes" (.ref la) [("table", .ref tb),("rooms", .ref ro)]))=A6 at NG o6 g6 B1 E6 ⊢
  refine⟨zero_le _,fun le hle=>?_⟩
  have E7:le ≠ y:=Ne.symm (ai g6 hle)
  have AG:la ≠ le:=ai B1 hle
  have le0:H le=none:=by
   cases e:H le with
   | none=>rfl
   | some u=>rw[o6 _ _ (fun z=>E7 (mem_singleton.mp z)) e]at hle;cases hle
  have NH:Paired (vW y [le,la] (upd A6 le (.lst [])) ys.vZ) vU (vR.map qr):=Paired.mono (fun _ _ z=>z.new hle) NG
  have o7:vS [y] H (upd A6 le (.lst [])):=o6.trans (v5.wo ((v5.refl A6).new hle))
  have g7:(upd A6 le (.lst [])) y=some (.ins ys.vC dy [("table", .ref tb),("rooms", .ref ro),("lanes", .ref la)]):=by rw[ae (Ne.symm E7)];exact g6
  have E8:(upd A6 le (.lst [])) la=some (.lst vU):=by rw[ae AG];exact B1
  have E9:(upd A6 le (.lst [])) le=some (.lst []):=vz
  have EA:vO K (upd A6 le (.lst [])) ro vR:=aY ((v5.refl A6).new hle) E6
  refine⟨_,rfl,y,ys.vC,dy,_,rfl,g7,Y.cl,Y.n4,by show 3 < 1000;decide,?_⟩
  generalize upd A6 le (.lst [])=A7 at NH o7 g7 E8 E9 EA ⊢
  have NJ:Paired (vW y [le,la] (upd A7 y (.ins ys.vC dy (aQ "letters" (.ref le) [("table", .ref tb),("rooms", .ref ro),("lanes", .ref la)]))) ys.vZ) vU (vR.map qr):=Paired.mono (fun _ _ z=>z.upd) NH
  have o8:=E3 (o := .ins ys.vC dy (aQ "letters" (.ref le) [("table", .ref tb),("rooms", .ref ro),("lanes", .ref la)])) o7
  have g8:(upd A7 y (.ins ys.vC dy (aQ "letters" (.ref le) [("table", .ref tb),("rooms", .ref ro),("lanes", .ref la)]))) y=some (.ins ys.vC dy [("table", .ref tb),("rooms", .ref ro),("lanes", .ref la),("letters", .ref le)]):=vz
  have B3:(upd A7 y (.ins ys.vC dy (aQ "letters" (.ref le) [("table", .ref tb),("rooms", .ref ro),("lanes", .ref la)]))) la=some (.lst vU):=by rw[ae Cg];exact E8
  have B4:(upd A7 y (.ins ys.vC dy (aQ "letters" (.ref le) [("table", .ref tb),("rooms", .ref ro),("lanes", .ref la)]))) le=some (.lst []):=by rw[ae E7];exact E9
  have EB:=ei (o := .ins ys.vC dy (aQ "letters" (.ref le) [("table", .ref tb),("rooms", .ref ro),("lanes", .ref la)])) g7 EA
  generalize upd A7 y (.ins ys.vC dy (aQ "letters" (.ref le) [("table", .ref tb),("rooms", .ref ro),("lanes", .ref la)]))=A8 at NJ o8 g8 B3 B4 EB ⊢
  have hT8:=hT.keep W (kp o8)
  refine⟨_,rfl,tb,TC,E2,fst,_,rfl,o8 _ _ (fun z=>NB (mem_singleton.mp z)) Cf,W.cl,W.nl,xy,lx,c.land,vK,_,_,rfl,hT8.l.1,L.cl,L.np,rfl,(n:Int),rfl,by omega,by omega,?_⟩
  rw[toNat_natCast]
  refine oC (by omega) (fun i B N sB hN=>⟨zero_le _,fun t ht=>hN t ht⟩) (fun li zp A9 s9 yC hLi=>?_)
  have g9:=s9 _ _ g8
  have o9:vS [y] H A9:=o8.trans (v5.wo s9)
  have JR:li ≠ y:=Ne.symm (ai g9 yC)
  have EC:la ≠ li:=ai (s9 _ _ B3) yC
  have ED:le ≠ li:=ai (s9 _ _ B4) yC
  have li0:H li=none:=by
   cases e:H li with
   | none=>rfl
   | some u=>rw[o9 _ _ (fun z=>JR (mem_singleton.mp z)) e]at yC;cases yC
  have Ci:=(v5.refl A9).new (o := .lst zp) yC
  have EE:Paired (vW y [li,le,la] (upd A9 li (.lst zp)) ys.vZ) vU (vR.map qr):=Paired.mono (fun _ _ z=>(z.same s9).new yC) NJ
  have AH:Paired (wU (upd A9 li (.lst zp))) zp (List.replicate n []):=Paired.mono (fun _ _ z=>z.keep (v5.wj Ci)) hLi
  have AI:(upd A9 li (.lst zp)) li=some (.lst zp):=vz
  have NK:vS [y] H (upd A9 li (.lst zp)):=o9.trans (v5.wo Ci)
  have GQ:=Ci _ _ g9
  have AJ:=Ci _ _ (s9 _ _ B3)
  have AK:=Ci _ _ (s9 _ _ B4)
  have AL:=aY Ci (aY s9 EB)
  refine⟨_,rfl,y,ys.vC,dy,_,rfl,GQ,Y.cl,Y.n5,by show 4 < 1000;decide,?_⟩
  generalize upd A9 li (.lst zp)=B5 at EE AH AI NK GQ AJ AK AL ⊢
  have EF:∀ {B:Hp}{o:HO}{C d:Addr}{fs:Fs}{v:V}{qs:List (Int × Int)},B y=some (.ins C d fs)->wU B v qs->wU (upd B y o) v qs:=fun {B o C d fs v qs} hB h=>by
   obtain⟨t,ws,e,h1,h2⟩:=h
   exact⟨t,ws,e,by rw[ae (bO h1 hB (by intro z;cases z))];exact h1,vV.imp (fun _ _ v9=>by obtain⟨t',e',q'⟩:=v9;exact⟨t',e',by rw[ae (bO q' hB (by intro z;cases z))];exact q'⟩) h2⟩
  have EG:Paired (vW y [li,le,la] (upd B5 y (.ins ys.vC dy (aQ "lies" (.ref li) [("table", .ref tb),("rooms", .ref ro),("lanes", .ref la),("letters", .ref le)]))) ys.vZ) vU (vR.map qr):=Paired.mono (fun _ _ z=>z.upd) EE
  have AM:Paired (wU (upd B5 y (.ins ys.vC dy (aQ "lies" (.ref li) [("table", .ref tb),("rooms", .ref ro),("lanes", .ref la),("letters", .ref le)])))) zp (List.replicate n []):=Paired.mono (fun _ _ z=>EF GQ z) AH
  have JS:=E3 (o := .ins ys.vC dy (aQ "lies" (.ref li) [("table", .ref tb),("rooms", .ref ro),("lanes", .ref la),("letters", .ref le)])) NK
  have JU:(upd B5 y (.ins ys.vC dy (aQ "lies" (.ref li) [("table", .ref tb),("rooms", .ref ro),("lanes", .ref la),("letters", .ref le)]))) y=some (.ins ys.vC dy [("table", .ref tb),("rooms", .ref ro),("lanes", .ref la),("letters", .ref le),("lies", .ref li)]):=vz
  have zq:(upd B5 y (.ins ys.vC dy (aQ "lies" (.ref li) [("table", .ref tb),("rooms", .ref ro),("lanes", .ref la),("letters", .ref le)]))) la=some (.lst vU):=by rw[ae Cg];exact AJ
  have zr:(upd B5 y (.ins ys.vC dy (aQ "lies" (.ref li) [("table", .ref tb),("rooms", .ref ro),("lanes", .ref la),("letters", .ref le)]))) le=some (.lst []):=by rw[ae E7];exact AK
  have zt:(upd B5 y (.ins ys.vC dy (aQ "lies" (.ref li) [("table", .ref tb),("rooms", .ref ro),("lanes", .ref la),("letters", .ref le)]))) li=some (.lst zp):=by rw[ae JR];exact AI
  have AN:=ei (o := .ins ys.vC dy (aQ "lies" (.ref li) [("table", .ref tb),("rooms", .ref ro),("lanes", .ref la),("letters", .ref le)])) GQ AL
  generalize upd B5 y (.ins ys.vC dy (aQ "lies" (.ref li) [("table", .ref tb),("rooms", .ref ro),("lanes", .ref la),("letters", .ref le)]))=A11 at EG AM JS JU zq zr zt AN ⊢
  refine⟨zero_le _,fun dn yi=>?_⟩
  have NM:dn ≠ y:=Ne.symm (ai JU yi)
  have EH:la ≠ dn:=ai zq yi
  have EI:le ≠ dn:=ai zr yi
  have EJ:li ≠ dn:=ai zt yi
  have dn0:H dn=none:=by
   cases e:H dn with
   | none=>rfl
   | some u=>rw[JS _ _ (fun z=>NM (mem_singleton.mp z)) e]at yi;cases yi
  have B6:=(v5.refl A11).new (o := .lst []) yi
  have JV:=B6 _ _ JU
  refine⟨_,rfl,y,ys.vC,dy,_,rfl,JV,Y.cl,Y.n6,by show 5 < 1000;decide,?_⟩
  refine q vD ro la le li dn _ (E3 (JS.trans (v5.wo B6))) la0 le0 li0 dn0 ⟨vz,ei JV (aY B6 AN),⟨vU,by rw[ae Cg];exact B6 _ _ zq,?_⟩,⟨[],by rw[ae E7];exact B6 _ _ zr, .nil⟩,⟨zp,by rw[ae JR];exact B6 _ _ zt,Paired.mono (fun _ _ z=>EF JV (z.keep (v5.wj B6))) AM⟩,⟨[],by rw[ae NM];exact vz, .nil⟩,?_⟩
  ·refine Paired.mono (fun _ _ z=>((z.new yi).upd).Eu fun a ha=>?_) EG
   simp only[mem_cons,not_mem_nil,or_false]at ha ⊢
   rcases ha with rfl | rfl | rfl | rfl
   ·exact .inr (.inr (.inr rfl))
   ·exact .inr (.inr (.inl rfl))
   ·exact .inr (.inl rfl)
   ·exact .inl rfl
  ·simp only[nodup_cons,mem_cons,not_mem_nil,or_false,not_or,not_false_eq_true,and_true,nodup_nil]
   exact⟨⟨AG,EC,EH⟩,⟨ED,EI⟩,EJ⟩
theorem vN.off {K:Frag}{ys:Ys}{H H':Hp}{y dy tb ro la le li dn:Addr}{s:YS}(h:vN K ys H y dy tb ro la le li dn s)(o:vS [la,le,li,dn] H H'):H' y=some (.ins ys.vC dy (NA tb ro la le li dn))/\vO K H' ro s.rooms/\(∀ vs ss,Paired (xq H ys.vZ [la,le,li,dn]) vs ss->Paired (xq H' ys.vZ [la,le,li,dn]) vs ss)/\(∀ vs ss,Paired (xG H ys.vM [la,le,li,dn]) vs ss->Paired (xG H' ys.vM [la,le,li,dn]) vs ss)/\(∀ vs ss,Paired (wU H) vs ss->Paired (wU H') vs ss)/\∀ vs ss,Paired (AE H) vs ss->Paired (AE H') vs ss:=by
 have hx:=h.Ab
 have k:=o.wj hx
 refine⟨k _ _ h.ins True.intro,?_,fun vs ss=>Paired.mono fun _ _ z=>z.wo hx o,fun vs ss=>Paired.mono fun _ _ z=>z.wo hx o,fun vs ss=>Paired.mono fun _ _ z=>z.keep k,fun vs ss=>Paired.mono fun _ _ z=>z.keep k⟩
 rcases h.GN with r | r
 ·refine .inl ?_
  rcases r with r | ⟨u,r⟩
  ·exact .inl (k _ _ r True.intro)
  ·exact .inr ⟨u,k _ _ r True.intro⟩
 ·exact .inr r
theorem gr {ex:List Addr}{a:Addr}{H:Hp}{o:HO}(ha:a ∈ ex):vS ex H (upd H a o):=fun b u nb e=>by rw[ae (fun z=>nb (by rw[z];exact ha))];exact e
theorem vN.EK {K:Frag}{ys:Ys}{H:Hp}{y dy tb ro la le li dn:Addr}{s:YS}(h:vN K ys H y dy tb ro la le li dn s){vs:List V}{v:V}{t:Ep}(hv:H le=some (.lst vs))(hL:xG H ys.vM [la,le,li,dn] v t):vN K ys (upd H le (.lst (vs ++ [v]))) y dy tb ro la le li dn { s with vH:=s.vH ++ [t] }:=by
 obtain⟨h1,h2,f1,f2,f3,f4⟩:=h.off (gr (a:=le) (o := .lst (vs ++ [v])) (by simp))
 obtain⟨v1,a1,p1⟩:=h.yh
 obtain⟨v2,a2,p2⟩:=h.hle
 obtain⟨v3,a3,p3⟩:=h.yC
 obtain⟨v4,a4,p4⟩:=h.yi
 rw[hv]at a2
 cases a2
 have ne:=h.ne
 simp only[nodup_cons,mem_cons,not_mem_nil,or_false,not_or,not_false_eq_true,and_true,nodup_nil]at ne
 have JW:Paired (xG (upd H le (.lst (vs ++ [v]))) ys.vM [la,le,li,dn]) [v] [t]:=f2 [v] [t] (.cons hL .nil)
 exact⟨h1,h2,⟨v1,by rw[ae ne.1.1];exact a1,f1 _ _ p1⟩,⟨vs ++ [v],vz,Paired.snoc (by cases JW with | cons z _=>exact z) (f2 _ _ p2)⟩,⟨v3,by rw[ae (Ne.symm ne.2.1.1)];exact a3,f3 _ _ p3⟩,⟨v4,by rw[ae (Ne.symm ne.2.1.2)];exact a4,f4 _ _ p4⟩,h.ne⟩
theorem vN.EL {K:Frag}{ys:Ys}{H:Hp}{y dy tb ro la le li dn:Addr}{s:YS}(h:vN K ys H y dy tb ro la le li dn s){vs:List V}{v:V}{t:List V}(hv:H dn=some (.lst vs))(hL:AE H v t):vN K ys (upd H dn (.lst (vs ++ [v]))) y dy tb ro la le li dn { s with done:=s.done ++ [t] }:=by
 obtain⟨h1,h2,f1,f2,f3,f4⟩:=h.off (gr (a:=dn) (o := .lst (vs ++ [v])) (by simp))
 obtain⟨v1,a1,p1⟩:=h.yh
 obtain⟨v2,a2,p2⟩:=h.hle
 obtain⟨v3,a3,p3⟩:=h.yC
 obtain⟨v4,a4,p4⟩:=h.yi
 rw[hv]at a4
 cases a4
 have ne:=h.ne
 simp only[nodup_cons,mem_cons,not_mem_nil,or_false,not_or,not_false_eq_true,and_true,nodup_nil]at ne
 have JW:Paired (AE (upd H dn (.lst (vs ++ [v])))) [v] [t]:=f4 [v] [t] (.cons hL .nil)
 exact⟨h1,h2,⟨v1,by rw[ae ne.1.2.2];exact a1,f1 _ _ p1⟩,⟨v2,by rw[ae ne.2.1.2];exact a2,f2 _ _ p2⟩,⟨v3,by rw[ae ne.2.2];exact a3,f3 _ _ p3⟩,⟨vs ++ [v],vz,Paired.snoc (by cases JW with | cons z _=>exact z) (f4 _ _ p4)⟩,h.ne⟩
inductive Pd
 | place | length | word | way | full | good
noncomputable def dS (n:Nat)(wy:Wf)(m:Nat)(sv gv lv wv:V):Pd :=
 if (gb sv 0 ((n:Int) - 1) && gb gv 0 ((n:Int) - 1))=false then .place else if gb lv 1 60=false then .length else if El wv=false then .word
 else if vI sv=vI gv∨wy (vI sv).toNat (vI gv).toNat none=[] then .way else if 60 <= m then .full else .good
structure Xs where
 place:Addr
 length:Addr
 word:Addr
 way:Addr
 full:Addr
noncomputable def pE (s:YS)(a b l u:Int):YS:={ s with vH:=s.vH ++ [⟨a,b,l,u,0,[]⟩],done:=s.done ++ [[.str "post", .int a, .int b, .int l, .int u]] }
noncomputable def lr (K:Frag)(c:Cs)(TC:Addr)(J:TJ)(ys:Ys)(x:Xs):Sp:=fun vs H Q E=>∃ (y dy tb ro la le li dn lx vK lt:Addr)(n:Nat)(vF:List V)(ps:List (Int × Int))(wy:Wf)(s:YS)(sv gv lv wv:V),vs=[.ref y,sv,gv,lv,wv]/\vN K ys H y dy tb ro la le li dn s/\yy c TC J H tb lx vK lt n vF ps wy/\mz sv/\mz gv/\mz lv/\mz wv/\s.vH.length <= 900/\s.done.length <= 10000 /\
 (dS n wy s.vH.length sv gv lv wv = .place->∀ H',v5 H H'->E (.ref x.place) none H') /\
 (dS n wy s.vH.length sv gv lv wv = .length->∀ H',v5 H H'->E (.ref x.length) none H') /\
 (dS n wy s.vH.length sv gv lv wv = .word->∀ H',v5 H H'->E (.ref x.word) none H') /\
 (dS n wy s.vH.length sv gv lv wv = .way->∀ H' d,v5 H H'->H' d=some (.xd [("start",sv),("goal",gv)])->E (.ref x.way) (some d) H') /\
 (dS n wy s.vH.length sv gv lv wv = .full->∀ H',v5 H H'->E (.ref x.full) none H') /\
 (dS n wy s.vH.length sv gv lv wv = .good->∀ H',vS [le,dn] H H'->vN K ys H' y dy tb ro la le li dn (pE s (vI sv) (vI gv) (vI lv) (vI wv))->Q (.int s.vH.length) H')
structure NN (K:Frag)(mg:Str->Option Value)(C f:Addr)(d:FuncData):Prop where
 m:mg "NoWay" = some (.ref C)
 x:aM K C (some (.ref f))=true
 k:keepIn K (.ref C)=true
 c:dH K C
 n1:findIn K (.ref C) "start" = some none
 n2:findIn K (.ref C) "goal" = some none
 i:isFn K (.ref f)=true
 F:vQ K "__init__" "NoWay.__init__" rd f d
 b:Binds K d ["self", "start", "goal"] []
abbrev NPo:List Str:=["self", "start", "goal", "length", "word", "last_place"]
abbrev vu:List Str:=["self", "start", "goal", "length", "word"]
theorem EM:aj NPo vu (ag dI):=L2.vX
theorem rH {c:Cs}{ys:Ys}{x:Xs}{J:TJ}{TC f GO fw JX fl NO:Addr}{fd GP dw NP dl NQ:FuncData}{t1 t2:Tok}(F:yN K "post" "Yard.post" dI f fd)(T:Txt mg)(L:oH K c)(Y:sH K ys)(W:Wy K TC GO GP J)(JZ:v7 P w K mg base aE 3 GO GP ["self", "place", "goal", "came"] (jh J))
  (mw:mg "is_within" = some (.ref fw)) (kw:keepIn K (.ref fw)=true) (bw:Binds K dw ["value", "least", "most"] []) (Gw:v7 P w K mg base aE 2 fw dw ["value", "least", "most"] cf)
  (mwo:mg "is_word" = some (.ref JX)) (kwo:keepIn K (.ref JX)=true) (bwo:Binds K NP ["word"] []) (Ka:v7 P w K mg base aE 2 JX NP ["word"] lp)
  (ml:mg "Letter" = some (.ref ys.vM)) (Ml:Mk K ys.vM fl) (bl:Binds K dl ["self", "start", "goal", "length", "word"] []) (Gl:v7 P w K mg base aE 1 fl dl ["self", "start", "goal", "length", "word"] (oZ ys.vM))
  (mL:mg "MOST_LENGTH" = some (.int 60 t1)) (mM:mg "MOST_LETTERS" = some (.int 60 t2)) (X1:kY K mg "NoPlace" x.place) (X2:kY K mg "NoLength" x.length) (X3:kY K mg "NoWord" x.word) (X4:NN K mg x.way NO NQ) (X5:kY K mg "Full" x.full) :
  v7 P w K mg base (cx P w) 4 f fd vu (lr K c TC J ys x):=by
 have Gnw:v7 P w K mg base aE 1 NO NQ ["self", "start", "goal"] (sX K "start" "goal"):=Eo X4.F
 refine F.xY EM (fun vs H Q E h=>?_) (fun cdv A outer s H vs Q E hr h=>?_)
 ·obtain⟨y,dy,tb,ro,la,le,li,dn,lx,vK,lt,n,vF,ps,wy,s,sv,gv,lv,wv,rfl,_⟩:=h
  rfl
 ·obtain⟨y,dy,tb,ro,la,le,li,dn,lx,vK,lt,n,vF,ps,wy,st,sv,gv,lv,wv,rfl,hY,hT,cs,cg,cl,cw,hl9,hd9,e1,e2,e3,e4,e5,q⟩:=h
  have wC:vE 2 _:=hr.mono (by decide)
  refine⟨_,ad (ar (i:=5) EM.nd rfl (Or.inl rfl) (au dU (aK (aK (aK (pv 0) rfl) rfl) rfl) af))
   (ad (a8 (PW.pt (eW (aU (bu (aq Gw wC rfl mw kw bw .nil aw (aa (pv 1) (aa af (aa (pv 5) ac)))))) (dP (aU (bu (aq Gw wC rfl mw kw bw .nil aw (aa (pv 2) (aa af (aa (pv 5) ac)))))))))
    (ah (aO rfl X1.x v8 (aZ X1.x X1.k rfl rfl X1.m (aa aP ac)))) am)
   (ad (a8 (aU (bu (aq Gw wC rfl mw kw bw .nil aw (aa (pv 3) (aa af (aa (aA (v := .int 60) rfl mL ⟨_,rfl⟩) ac))))))
    (ah (aO rfl X2.x v8 (aZ X2.x X2.k rfl rfl X2.m (aa aP ac)))) am)
   (ad (a8 (aU (bu (aq Ka wC rfl mwo kwo bwo .nil aw (aa (pv 4) ac))))
    (ah (aO rfl X3.x v8 (aZ X3.x X3.k rfl rfl X3.m (aa aP ac)))) am)
   (ad (a8 (mK (PW.pt (eW (ao aL (pv 1) (pv 2) (ap _)) (dP (aU (gT (bj (aK (pv 0) rfl) W.cl W.m JZ hr W.b .nil aw (aa (pv 1) (aa (pv 2) (aa bK ac)))) (fun _=>rfl)))))))
    (ah (aO rfl X4.x v8 (gy X4.x X4.i X4.k Gnw wC X4.b rfl X4.m (aa (pv 1) (aa (pv 2) ac))))) am)
   (ad (a8 (ao tu (al aJ rfl T.len PySem.boot_len (aa (aK (pv 0) rfl) ac)) (aA (v := .int 60) rfl mM ⟨_,rfl⟩) (ap _))
    (ah (aO rfl X5.x v8 (aZ X5.x X5.k rfl rfl X5.m (aa aP ac)))) am)
   (ad (aH (fZ plainAttrs_list PySem.F.slot_list_append PySem.F.type_list_append cS (aK (pv 0) rfl) (aa (bn Ml Gl wC rfl ml bl .nil aw (aa (pv 1) (aa (pv 2) (aa (pv 3) (aa (pv 4) ac))))) ac)))
   (ad (aH (fZ plainAttrs_list PySem.F.slot_list_append PySem.F.type_list_append cS (aK (pv 0) rfl) (aa (bR (aa aP (aa (pv 1) (aa (pv 2) (aa (pv 3) (aa (pv 4) ac)))))) ac)))
   (ah (ay (au dU (al aJ rfl T.len PySem.boot_len (aa (aK (pv 0) rfl) ac)) af)))))))))),?_⟩
  obtain⟨E2,fst,Cf,xy,EN⟩:=hT.i
  unfold dS at e1 e2 e3 e4 e5 q
  refine⟨_,rfl,y,ys.vC,dy,_,_,rfl,hY.ins,Y.cl,Y.n1,rfl,tb,TC,E2,fst,_,rfl,Cf,W.cl,W.nl,xy,lx,c.land,vK,_,_,rfl,hT.l.1,L.cl,L.np,rfl,_,_,rfl,rfl,?_⟩
  refine⟨_,rfl,_,rfl,sv,0,(n:Int) - 1,rfl,cs,_,rfl,?_⟩
  cases h1:gb sv 0 ((n:Int) - 1) with
  | false =>
   refine a9 (a9 ⟨by show 1 <= sizeLine;decide,?_⟩)
   exact e1 (by rw[h1,Bool.false_and,if_pos rfl]) H (v5.refl H)
  | true =>
  refine av ⟨_,rfl,_,rfl,gv,0,(n:Int) - 1,rfl,cg,_,rfl,?_⟩
  cases h2:gb gv 0 ((n:Int) - 1) with
  | false =>
   refine a9 ⟨by show 1 <= sizeLine;decide,?_⟩
   exact e1 (by rw[h1,h2,Bool.and_false,if_pos rfl]) H (v5.refl H)
  | true =>
  rw[h1,h2,Bool.true_and,if_neg (by decide)]at e2 e3 e4 e5 q
  refine av ⟨_,rfl,lv,1,60,rfl,cl,_,rfl,?_⟩
  cases h3:gb lv 1 60 with
  | false =>
   refine a9 ⟨by show 1 <= sizeLine;decide,?_⟩
   exact e2 (by rw[h3,if_pos rfl]) H (v5.refl H)
  | true =>
  rw[h3,if_neg (by decide)]at e3 e4 e5 q
  refine av ⟨_,rfl,wv,rfl,cw,_,rfl,?_⟩
  cases h4:El wv with
  | false =>
   refine a9 ⟨by show 1 <= sizeLine;decide,?_⟩
   exact e3 (by rw[h4,if_pos rfl]) H (v5.refl H)
  | true =>
  rw[h4,if_neg (by decide)]at e4 e5 q
  refine av ?_
  obtain⟨a,rfl⟩:=gz h1
  obtain⟨b,rfl⟩:=gz h2
  obtain⟨l,rfl⟩:=gz h3
  obtain⟨u,rfl⟩:∃ u,wv = .int u:=by
   cases wv<;>first | exact⟨_,rfl⟩ | cases h4
  have ha:0 <= a/\a <= (n:Int) - 1:=of_decide_eq_true h1
  have hb:0 <= b/\b <= (n:Int) - 1:=of_decide_eq_true h2
  obtain⟨a',rfl⟩:∃ a':Nat,a=(a':Int):=⟨a.toNat,by omega⟩
  obtain⟨b',rfl⟩:∃ b':Nat,b=(b':Int):=⟨b.toNat,by omega⟩
  have ev:∀ z:Int,vI (.int z)=z:=fun _=>rfl
  rw[ev,ev,toNat_natCast,toNat_natCast]at e4 e5 q
  refine⟨fun k H1=>v5 H H1/\k=decide ((a':Int)=(b':Int)∨wy a' b' none=[]),?_,?_⟩
  ·refine⟨_,rfl,_,rfl,rfl,_,rfl,?_⟩
   rw[cu]
   by_cases Ee:(a':Int)=(b':Int)
   ·rw[decide_eq_true Ee]
    exact a9 ⟨v5.refl H,by rw[decide_eq_true (Or.inl Ee)]⟩
   ·rw[decide_eq_false Ee]
    refine av ⟨_,rfl,y,ys.vC,dy,_,_,rfl,hY.ins,Y.cl,Y.n1,rfl,tb,E2,fst,rfl,Cf,EN,_,rfl,_,rfl,tb,n,wy,a',b',none,rfl,hT.j,by omega,by omega,fun D H1 s1 hD gD=>⟨_, .inl ⟨_,vG.of gD,rfl⟩,s1,?_⟩⟩
    cases hw:wy a' b' none with
    | nil=>rw[decide_eq_true (Or.inr rfl)];rfl
    | cons z zs=>rw[decide_eq_false (fun z=>z.elim Ee fun z=>by cases z)];rfl
  rintro k H1 ⟨s1,rfl⟩
  have yD:=hY.same s1
  by_cases Ad:(a':Int)=(b':Int)∨wy a' b' none=[]
  ·rw[decide_eq_true Ad]
   refine a9 ⟨_,rfl,_,rfl,by show 2 <= sizeLine;decide,fun e tt he=>⟨e,_,tt,_,_,rfl,vz,X4.c,X4.n1,X4.n2,fun d H2 hd off yO hd2=>⟨rfl,some d,yO,?_⟩⟩⟩
   have Cb:d ≠ e:=fun z=>by rw[z,vz]at hd;cases hd
   refine e4 (by rw[if_pos Ad]) _ d (fun z o ez=>?_) (by rw[cz Cb];exact hd2)
   have Kb:z ≠ e:=ai (s1 _ _ ez) he
   rw[cz Kb]
   exact off z o Kb (by rw[ae Kb];exact s1 _ _ ez)
  rw[decide_eq_false Ad]
  rw[if_neg Ad]at e5 q
  refine av ?_
  obtain⟨zu,Kc,pl⟩:=yD.hle
  have Ea:zu.length=st.vH.length:=Paired.length pl
  refine⟨_,rfl,y,ys.vC,dy,_,_,rfl,yD.ins,Y.cl,Y.n4,rfl,le,_,rfl, .inl (vG.of Kc),_,_,rfl,rfl,_,rfl,?_⟩
  by_cases AO:60 <= st.vH.length
  ·rw[decide_eq_true (show (60:Int) <= (zu.length:Nat) by omega)]
   refine a9 ⟨by show 1 <= sizeLine;decide,?_⟩
   exact e5 (by rw[if_pos AO]) H1 s1
  rw[decide_eq_false (show ¬ (60:Int) <= (zu.length:Nat) by omega)]
  rw[if_neg AO]at q
  refine av ?_
  refine⟨_,rfl,y,ys.vC,dy,_,_,rfl,yD.ins,Y.cl,Y.n4,rfl, .inl ⟨rfl,_,vG.of Kc⟩,_,rfl,_,rfl,_,rfl,_,rfl,fun xl Cj nx xE Ec=>⟨xl,Cj,(a':Int),(b':Int),l,u,rfl,vz,fun wa H2 zG off Bg hw2=>⟨rfl,?_⟩⟩⟩
  have Bx:v5 H1 H2:=fun z o ez=>off z o (ai ez nx) (by rw[ae (ai ez nx),ae (ai ez xE)];exact ez)
  have Kd:H1 wa=none:=by
   by_cases z1:wa=xl
   ·rw[z1,vz]at zG;cases zG
   ·by_cases z2:wa=Cj
    ·rw[z2,ae Ec,vz]at zG;cases zG
    ·rw[ae z1,ae z2]at zG;exact zG
  have hY2:=yD.same Bx
  have EO:=Bx _ _ Kc
  have hlv:xG H2 ys.vM [la,le,li,dn] (.ref xl) ⟨(a':Int),(b':Int),l,u,0,[]⟩:=⟨xl,Cj,wa,rfl,Bg,hw2,fun z=>by obtain⟨xs,hz⟩:=yD.Ab wa z;rw[Kd]at hz;cases hz⟩
  refine⟨le,_,_,rfl,rfl,EO,by rw[sizeLine_eq];omega,?_⟩
  have Ck:=hY2.EK EO hlv
  have o3:vS [le,dn] H (upd H2 le (.lst (zu ++ [.ref xl]))):=(v5.wo (s1.trans Bx)).trans (gr (by simp))
  generalize upd H2 le (.lst (zu ++ [.ref xl]))=H3 at Ck o3 ⊢
  obtain⟨wc,NR,pd⟩:=Ck.yi
  have G7:wc.length=st.done.length:=Paired.length pd
  refine⟨_,rfl,y,ys.vC,dy,_,_,rfl,Ck.ins,Y.cl,Y.n6,rfl, .inl ⟨rfl,_,vG.of NR⟩,_,rfl,_,rfl,_,rfl,_,rfl,by show 5 <= sizeLine;decide,fun t ht=>?_⟩
  have GR:=(v5.refl H3).new (o := .tup [.str "post", .int (a':Int), .int (b':Int), .int l, .int u]) ht
  have NS:(upd H3 t (.tup [.str "post", .int (a':Int), .int (b':Int), .int l, .int u])) t=some (.tup [.str "post", .int (a':Int), .int (b':Int), .int l, .int u]):=vz
  generalize upd H3 t (.tup [.str "post", .int (a':Int), .int (b':Int), .int l, .int u])=H4 at GR NS ⊢
  have hY4:=Ck.same GR
  have ER:=GR _ _ NR
  refine⟨dn,_,_,rfl,rfl,ER,by rw[sizeLine_eq];omega,?_⟩
  have GS:=hY4.EL ER ⟨t,rfl,NS⟩
  have o5:vS [le,dn] H (upd H4 dn (.lst (wc ++ [.ref t]))):=(o3.trans (v5.wo GR)).trans (gr (by simp))
  generalize upd H4 dn (.lst (wc ++ [.ref t]))=H5 at GS o5 ⊢
  obtain⟨NU,Ke,pl5⟩:=GS.hle
  have hl5:NU.length=st.vH.length + 1:=by rw[Paired.length pl5,length_append];rfl
  refine⟨_,rfl,y,ys.vC,dy,_,_,rfl,GS.ins,Y.cl,Y.n4,rfl,le,_,rfl, .inl (vG.of Ke),_,_,rfl,rfl,?_⟩
  have er:((NU.length:Nat):Int) - 1=(st.vH.length:Int):=by omega
  dsimp only
  rw[er]
  exact q rfl H5 o5 GS
noncomputable def gi:Str:=⟨#[32]⟩
inductive gs (vs:List V)(H:Hp)(Q:VK)(E:XK):Prop
 | mk (x:Str) (_:vs=[.str x]) (_:x.length <= 1000000) (_:(Txt.split x gi).length <= 1000000) (_:∀ D,H D=none->Q (.ref D) (upd H D (.lst ((Txt.split x gi).map V.str))))
noncomputable def ql (x:Str):Option Nat:=if x=b9 (NumText.digitsVal x.cps.toList)/\NumText.digitsVal x.cps.toList < 10 ^ 60 then some (NumText.digitsVal x.cps.toList) else none
theorem k7 {x:Str}{m:Nat}(h:ql x=some m):x=b9 m/\m < 10 ^ 60:=by
 unfold ql at h
 split at h
 ·next hh=>cases h;exact hh
 ·cases h
theorem rX {m:Nat}(h:m < 10 ^ 60):ql (b9 m)=some m:=by
 have hl:(b9 m).length <= 60:=dW (by decide) h
 have e:NumText.digitsVal (b9 m).cps.toList=m:=by
  have h1:=lO (m:=m) (le_trans hl (by decide))
  rw[PySem.intText_digits (cr m) (j8 m) (le_trans hl (by decide))]at h1
  injection h1 with h1
  exact Int.ofNat.inj h1
 unfold ql
 rw[e,if_pos ⟨rfl,h⟩]
theorem qk {x:Str}(h:∀ m,m < 10 ^ 60->x ≠ b9 m):ql x=none:=by
 cases e:ql x with
 | none=>rfl
 | some m=>exact absurd (k7 e).1 (h m (k7 e).2)
theorem qD:∀ (cs:List Nat)(a:Nat),NumText.AllDigits cs->cs.foldl (fun acc c=>acc * 10 + (c - 48)) a < (a + 1) * 10 ^ cs.length
 | [],a,_=>by simp
 | c :: cs,a,h=>by
  have hc:=h.head
  have:=qD cs (a * 10 + (c - 48)) h.tail
  refine lt_of_lt_of_le this ?_
  rw[length_cons,Nat.pow_succ,Nat.mul_comm (10 ^ cs.length) 10,← Nat.mul_assoc]
  exact Nat.mul_le_mul_right _ (by omega)
inductive gL (vs:List V)(H:Hp)(Q:VK)(E:XK):Prop
 | mk (x:Str) (_:vs=[.str x]) (_:x.length <= 1000000) (_:∀ H',v5 H H'->Q (oV (ql x)) H')
noncomputable def u6 (s:Stmt):Scope:=match s with
 | .If (.BoolOp _ [_,_, .UnaryOp _ (.Call _ [.ListComp _ _ sc _] _ _) _] _) _ _ _=>sc
 | _=>{ kind := .function,names:=[],isGenerator:=false,isCoroutine:=false }
abbrev tl (x:Str):List Nat:=x.cps.toList
theorem tL (x y:Str):tl (x ++ y)=tl x ++ tl y:=by
 show(x.cps ++ y.cps).toList=_
 exact Array.toList_append
theorem oQ {x y:Str}(h:tl x=tl y):x=y:=by
 cases x;cases y
 exact congrArg Str.mk (Array.toList_inj.mp h)
theorem oP (x:Str):x.length=(tl x).length:=by
 show x.cps.size=_
 exact Array.length_toList.symm
theorem ES (c:Nat)(h:c ∈ (Str.ofString "0123456789").cps.toList):48 <= c/\c <= 57:=by
 have e:(Str.ofString "0123456789").cps.toList=[48,49,50,51,52,53,54,55,56,57]:=by decide
 rw[e]at h
 simp only[mem_cons,not_mem_nil,or_false]at h
 omega
theorem Kf (c:Nat)(h:48 <= c/\c <= 57):c ∈ (Str.ofString "0123456789").cps.toList:=by
 have e:(Str.ofString "0123456789").cps.toList=[48,49,50,51,52,53,54,55,56,57]:=by decide
 rw[e]
 have:c=48∨c=49∨c=50∨c=51∨c=52∨c=53∨c=54∨c=55∨c=56∨c=57:=by omega
 rcases this with rfl | rfl | rfl | rfl | rfl | rfl | rfl | rfl | rfl | rfl<;>decide
noncomputable def Kh:R2:=fun x y H Q=>∃ i j:Str,x = .str i/\y = .str j/\Q (.bl (!(Builtin.Str.occurrences j i 0 j.length 1).isEmpty)) H
theorem jA {m:Nat}(h:m < 10 ^ 60):(m:Int).natAbs.log2 < 1920:=by
 rw[Int.natAbs_natCast]
 by_cases h0:m=0
 ·rw[h0];decide
 ·have h1:=Nat.log2_self_le h0
  refine Nat.lt_of_not_le fun h2=>?_
  have h3:2 ^ 1920 <= 2 ^ m.log2:=pow_le_pow_right (by decide) h2
  have h4:(10:Nat) ^ 60 <= 2 ^ 1920:=by
   have:(10:Nat) ^ 60 <= 16 ^ 60:=Nat.pow_le_pow_left (by decide) 60
   have e:(16:Nat) ^ 60=2 ^ 240:=by rw[show (16:Nat)=2 ^ 4 by decide,← Nat.pow_mul]
   have h5:(2:Nat) ^ 240 <= 2 ^ 1920:=pow_le_pow_right (by decide) (by decide)
   omega
  omega
theorem ET:aj ["row"] ["row"] (ag l5):=L2.vX
theorem pP {f:Addr}{fd:FuncData}(F:vQ K "words_of" "words_of" l5 f fd):v7 P w K mg base aE 1 f fd ["row"] gs:=by
 refine F.ok ET (fun vs H Q E h=>?_) (fun cdv A outer s H vs Q E hr h=>?_)
 ·obtain⟨x,rfl,_⟩:=h
  rfl
 ·obtain⟨x,rfl,h1,h2,q⟩:=h
  refine⟨_,ah (ay (fZ PySem.F.plainAttrs_str PySem.F.slot_str_split PySem.F.type_str_split k8 (pv 0) (aa aP ac))),?_⟩
  exact⟨_,rfl,rfl,x,gi,rfl,rfl,rfl,le_trans h1 (by decide),h2,q⟩
theorem EU:aj ["word", "number"] ["word"] (ag eU):=L2.vX
theorem Ki:wM ["word", "number"] (ag eU) (u6 ((ax eU).getD 0 (.Pass ⟨0,0,0,0⟩))) [] []:=L2.yb
theorem Kj:(["sign"]:List Str).Nodup:=by decide +kernel
theorem og {f:Addr}{fd:FuncData}{t1 t2:Tok}(F:vQ K "number_of" "number_of" eU f fd)(T:Txt mg)(mf:mg "FIGURES" = some (.str (Str.ofString "0123456789") t1))(mm:mg "MOST_FIGURES" = some (.int 60 t2)):v7 P w K mg base aE 1 f fd ["word"] gL:=by
 refine F.ok EU (fun vs H Q E h=>?_) (fun cdv A outer s H vs Q E hr h=>?_)
 ·obtain⟨x,rfl,_⟩:=h
  rfl
 ·obtain⟨x,rfl,Nm,q⟩:=h
  refine⟨_,ad (a8 (PW.pt (eW (ao tq (al jJ rfl T.len PySem.boot_len (aa (pv 0) ac)) (aA (v := .int 60) rfl mm ⟨_,rfl⟩) (ap _)) (eW (aU (gT (pv 0) (fun _=>rfl))) (dP (aU (bu (al (eg rfl) rfl T.all PyProof.Rows.boot_all (aa (bx (own:=["sign"]) (capN:=[]) (cap:=[]) Ki rfl (uw (pv 0))
     (fun C s' H' fp=>⟨a7 (i:=0) Kj rfl (Or.inl rfl),bG,bH (show eG _ (compareOp .In) Kh from nX) (pv 0) (aA (v := .str (Str.ofString "0123456789")) rfl mf ⟨_,rfl⟩) (by with_unfolding_all rfl)⟩)) ac)))))))) (ah (ay bK)) am)
   (ad (ar (i:=1) EU.nd rfl (Or.inl rfl) (bC iF rfl T.int PySem.Pv.boot_int (aa (pv 0) ac)))
   (ah (ay (fj (ao aL (bC dF rfl T.str PySem.Pv.boot_str (aa (pv 1) ac)) (pv 0) (ap _)) (pv 1) bK)))),?_⟩
  have hsz:x.length <= sizeLine:=le_trans Nm (by decide)
  have none_:(∀ m,m < 10 ^ 60->x ≠ b9 m)->∀ H',v5 H H'->Q .vJ H':=fun h H' s'=>by
   have:=q H' s'
   rw[qk h]at this;exact this
  refine⟨_,rfl,x,rfl,hsz,_,_,rfl,rfl,_,rfl,?_⟩
  by_cases Cm:60 < x.length
  ·rw[decide_eq_true (show (60:Int) < (x.length:Nat) by omega)]
   refine a9 (none_ (fun m hm e=>?_) H (v5.refl H))
   have:=dW (by decide) hm
   rw[← e]at this
   omega
  rw[decide_eq_false (show ¬ (60:Int) < (x.length:Nat) by omega)]
  refine av ⟨_,rfl,_,⟨hsz,rfl⟩,?_⟩
  by_cases h0:x.length=0
  ·rw[show(((x.length:Nat):Int) != 0)=false by rw[h0];rfl]
   refine a9 (none_ (fun m hm e=>?_) H (v5.refl H))
   have:=List.length_pos_iff.mpr (j8 m)
   rw[Array.length_toList,← e]at this
   have:0 < x.length:=this
   omega
  rw[show(((x.length:Nat):Int) != 0)=true by rw[bne_iff_ne];omega]
  refine av ⟨_,rfl,x,rfl,?_⟩
  refine b7 x.cps.size (by rw[sizeLine_eq];show x.length < _;omega) (fun i acc H'=>H' = H/\acc=((x.cps.toList.take i).map fun c=>decide (c ∈ (Str.ofString "0123456789").cps.toList)).map V.bl) ⟨rfl,rfl⟩ (fun i acc H' h=>by rw[h.2,length_map,length_map];exact length_take_le _ _) (fun i acc H' hi h=>?_) (fun acc H' h=>?_)
  ·obtain⟨rfl,rfl⟩:=h
   refine⟨hi,fun v H2 y=>?_⟩
   obtain⟨rfl,c,hc,rfl⟩:=y
   refine⟨_,rfl,_,_,rfl,rfl,?_⟩
   rw[StrLaws.found_one]
   refine⟨rfl,?_⟩
   rw[take_succ,show x.cps.toList[i]? = some c by rw[Array.getElem?_toList];exact hc,map_append,map_append]
   rfl
  obtain⟨rfl,rfl⟩:=h
  rw[show x.cps.size=x.cps.toList.length from Array.length_toList.symm,take_length]
  refine⟨le_refl _,fun D hD=>⟨D,_,rfl,vG.of vz,_,rfl,?_⟩⟩
  have s1:=(v5.refl H').new (o := .lst ((x.cps.toList.map fun c=>decide (c ∈ (Str.ofString "0123456789").cps.toList)).map V.bl)) hD
  generalize upd H' D (.lst ((x.cps.toList.map fun c=>decide (c ∈ (Str.ofString "0123456789").cps.toList)).map V.bl))=H1 at s1 ⊢
  cases hb:(x.cps.toList.map fun c=>decide (c ∈ (Str.ofString "0123456789").cps.toList)).all id with
  | false =>
   refine a9 (none_ (fun m hm e=>?_) H1 s1)
   rw[List.all_eq_false]at hb
   obtain⟨b,hb,h⟩:=hb
   obtain⟨c,hc,rfl⟩:=mem_map.mp hb
   rw[e]at hc
   exact h (decide_eq_true (Kf c (cr m c hc)))
  | true =>
  have hd:NumText.AllDigits x.cps.toList:=fun c hc=>by
   rw[all_eq_true]at hb
   exact ES c (of_decide_eq_true (hb _ (mem_map.mpr ⟨c,hc,rfl⟩)))
  have xx:x.cps.toList ≠ []:=fun e=>h0 (by show x.cps.size=0;rw[← Array.length_toList,e];rfl)
  have hv:NumText.digitsVal x.cps.toList < 10 ^ 60:=by
   have:=qD x.cps.toList 0 hd
   refine lt_of_lt_of_le this ?_
   rw[Nat.zero_add,Nat.one_mul]
   exact pow_le_pow_right (by decide) (by rw[Array.length_toList];show x.length <= 60;omega)
  refine av ⟨_,rfl,x,_,rfl,PySem.intText_digits hd xx (by omega),by omega,?_⟩
  have q:=q H1 s1
  unfold ql at q
  generalize NumText.digitsVal x.cps.toList=m at hv q ⊢
  refine⟨_,rfl,(m:Int),rfl,jA hv,_,rfl,rfl,_,rfl,?_⟩
  by_cases he:x=b9 m
  ·rw[if_pos ⟨he,hv⟩]at q
   rw[decide_eq_true (show V.str (toString (m:Int))=V.str x from by rw[he];rfl)]
   exact a9 ⟨_,rfl,q⟩
  ·rw[if_neg fun z=>he z.1]at q
   rw[decide_eq_false (show ¬ V.str (toString (m:Int))=V.str x from fun z=>he (by injection z with z;exact z.symm))]
   exact av q
noncomputable def JY (ts:Ts):TJ:=fun H x n wy=>∃ (dx:Addr)(lv:V)(t:Addr)(ps:List Nat),mx H ts x dx lv t ps/\yP ps/\n=ps.length + 1/\wy=fun p g _=>je ps p g
theorem W_Y {K:Frag}{ts:Ts}{f:Addr}{fd:FuncData}(cl:xh K ts.tree)(nl:vB K ts.tree "land")(m:eA K ts.tree "ways" f)(b:Binds K fd ["self", "place", "goal", "came"] []):Wy K ts.tree f fd (JY ts) :=
 ⟨cl,nl,m,b,fun H H' x n wy ⟨dx,lv,t,ps,h1,h2⟩ k=>⟨dx,lv,t,ps,⟨k _ _ h1.1 True.intro,k _ _ h1.2 True.intro⟩,h2⟩⟩
abbrev gm:List Nat:=[0,0]
theorem u4:yP gm:=⟨by decide,fun k q h=>by
 match k,h with
 | 0,h=>cases h;exact le_refl _
 | 1,h=>cases h;exact zero_le _⟩
abbrev m6:Wf:=fun p g _=>je gm p g
structure EV (c:Cs)(ts:Ts)(H:Hp)(x lx vK lt:Addr)(vF:List V):Prop where
 t:∃ dx t,mx H ts x dx (.ref lx) t gm
 l:bU H c lx vK lt 3 vF (aT gm 2)
theorem EV.tb {c:Cs}{ts:Ts}{H:Hp}{x lx vK lt:Addr}{vF:List V}(h:EV c ts H x lx vK lt vF):yy c ts.tree (JY ts) H x lx vK lt 3 vF (aT gm 2) m6:=by
 obtain⟨⟨dx,t,h1⟩,h2⟩:=h
 refine⟨⟨dx,_,t,gm,h1,u4,rfl,rfl⟩,⟨dx,_,h1.1,rfl,rfl⟩,h2,by decide,by decide,fun p g k hp hg z hz=>?_⟩
 have:∀ p < 3,∀ g < 3,∀ z ∈ je gm p g,z < (aT gm 2).length:=by decide
 exact this p hp g hg z hz
theorem EV.ta {c:Cs}{ts:Ts}{H:Hp}{x lx vK lt:Addr}{vF:List V}(h:EV c ts H x lx vK lt vF):wO c ts.tree (JT ts) H x lx vK lt 3 vF (aT gm 2) (fD 3 (fM (oj gm))):=by
 obtain⟨⟨dx,t,h1⟩,h2⟩:=h
 exact Ei u4 h1 h2
theorem rW:0 ∉ (dG (fD 3 (fM (oj gm))) (aT gm 2) 3 1).map (·.1):=by decide +kernel
noncomputable def YdH (K:Frag)(c:Cs)(ts:Ts)(ys:Ys)(H0 H:Hp)(y:Addr)(s:YS):Prop:=∃ dy tb ro la le li dn lx vK lt vF,(∀ b ∈ [la,le,li,dn],H0 b=none)/\v5 H0 H/\vN K ys H y dy tb ro la le li dn s/\yy c ts.tree (JY ts) H tb lx vK lt 3 vF (aT gm 2) m6
abbrev AQ:YS:=Y0 (List.replicate 4 (.int 1)) 3
inductive jn (K:Frag)(c:Cs)(ts:Ts)(ys:Ys)(vs:List V)(H:Hp)(Q:VK)(E:XK):Prop
 | mk (_:vs=[]) (_:∀ y H',YdH K c ts ys H H' y AQ->Q (.ref y) H')
structure GU (P:Program)(w:World)(K:Frag)(mg:Str->Option Value)(base:Heap)(c:Cs)(ts:Ts)(f:Addr)(d:FuncData):Prop where
 M:Mk K ts.tree f
 m:mg "Tree" = some (.ref ts.tree)
 b:Binds K d ["self", "parents"] []
 G:v7 P w K mg base (cx P w) 6 f d ["self", "parents"] (jk K c ts)
structure Kk (P:Program)(w:World)(K:Frag)(mg:Str->Option Value)(base:Heap)(c:Cs)(ts:Ts)(ys:Ys)(nr:Addr)(f:Addr)(d:FuncData):Prop where
 M:Mk K ys.vC f
 m:mg "Yard" = some (.ref ys.vC)
 b:Binds K d ["self", "table", "rooms"] [.none]
 b0:Binds K d ["self", "table", "rooms"] []
 G:v7 P w K mg base (cx P w) 4 f d ["self", "table", "rooms"] (oR K c ts.tree (JY ts) ys nr)
theorem EW {k:Nat}{ts:Ts}{f:Addr}{fd:FuncData}(h:v7 P w K mg base aE k f fd ["self", "place", "goal", "came"] (gw ts)):v7 P w K mg base aE k f fd ["self", "place", "goal", "came"] (jh (JY ts)) :=
 h.imp fun vs H Q E ⟨x,n,wy,p,g,k,e,⟨dx,lv,t,ps,h1,hP,en,ew⟩,hp,hg,q⟩=>by
  subst e ew en
  exact⟨x,dx,lv,t,ps,p,g,cV k,rfl,h1,hP,by omega,by omega,fun D H' s hn hD=>q D H' s hn hD⟩
theorem EX:aj [] [] (ag l9):=L2.vX
theorem fE {c:Cs}{ts:Ts}{H:Hp}{Q:Hp->Prop}{E:XK}{D x dx:Addr}(hD:H D=none)(nx:(upd H D (.lst [.int 0, .int 0])) x=none)(xE:(upd H D (.lst [.int 0, .int 0])) dx=none)(ne:dx ≠ x)
  (q:∀ H' lx vK lt vF,v5 H H'->EV c ts H' x lx vK lt vF->Q H') :
  jk K c ts [.ref x, .ref D] (upd (upd (upd H D (.lst [.int 0, .int 0])) dx (.own x)) x (.ins ts.tree dx [])) (fun v H2=>v = .vJ/\Q H2) E:=by
 have s1:v5 H (upd H D (.lst [.int 0, .int 0])):=v5.new (v5.refl H) hD
 have s2:v5 (upd H D (.lst [.int 0, .int 0])) (upd (upd (upd H D (.lst [.int 0, .int 0])) dx (.own x)) x (.ins ts.tree dx [])):=v5.new (v5.new (v5.refl _) xE) (by rw[ae (Ne.symm ne)];exact nx)
 refine⟨x,dx,D,[.int 0, .int 0],rfl,vz,vG.of (s2 _ _ vz),fun v hv=>?_,by decide,fun h=>absurd h (by decide),fun _=>⟨gm,rfl,u4,fun H' lx vK lt vF t off hT hL=>⟨rfl,q _ lx vK lt vF (fun b o e=>off b o (ai (s1 _ _ e) nx) (s2 _ _ (s1 _ _ e))) ⟨⟨dx,t,hT⟩,hL⟩⟩⟩⟩
 simp only[mem_cons,not_mem_nil,or_false]at hv
 rcases hv with rfl | rfl<;>exact .int _
theorem pV {c:Cs}{ts:Ts}{ys:Ys}{nr f ft fy fw:Addr}{fd dt dy dw:FuncData}(F:vQ K "_law_yard" "_law_yard" l9 f fd)(W:Wy K ts.tree fw dw (JY ts))(MT:GU P w K mg base c ts ft dt)(MY:Kk P w K mg base c ts ys nr fy dy):v7 P w K mg base aE 8 f fd [] (jn K c ts ys):=by
 refine F.ok EX (fun vs H Q E h=>?_) (fun cdv A outer s H vs Q E hr h=>?_)
 ·obtain⟨rfl,_⟩:=h
  rfl
 ·obtain⟨rfl,q⟩:=h
  have GV:vE 7 _:=hr
  have zH:vE 5 _:=hr.mono (by decide)
  refine⟨_,ah (ay (bn MY.M MY.G zH rfl MY.m MY.b (.cons (show RelV .vJ .none from rfl) .nil) lK (aa (bn MT.M MT.G GV rfl MT.m MT.b .nil lK (aa (aD (aa af (aa af ac))) ac)) ac))),?_⟩
  refine⟨by show 2 <= sizeLine;decide,fun D hD x dx nx xE ne=>fE hD nx xE ne fun H1 lx vK lt vF s1 hT=>?_⟩
  refine fun y yQ ny ye Kl=>?_
  have s2:v5 H1 (upd (upd H1 yQ (.own y)) y (.ins ys.vC yQ [])):=v5.new (v5.new (v5.refl H1) ye) (by rw[ae (Ne.symm Kl)];exact ny)
  refine⟨y,yQ,x,lx,vK,lt,3,vF,aT gm 2,m6, .vJ,List.replicate 4 (.int 1),rfl,vz,hT.tb.keep W (v5.wj s2), .inl ⟨rfl,rfl⟩,fun _ ro la le li dn H' o yh hle yC yi hY=>⟨rfl,?_⟩⟩
  have s3:v5 H1 H':=fun b u e=>o b u (fun z=>by rw[mem_singleton.mp z,ny]at e;cases e) (s2 _ _ e)
  have s4:v5 H (upd (upd H1 yQ (.own y)) y (.ins ys.vC yQ [])):=s1.trans s2
  have fr:∀ {b:Addr},(upd (upd H1 yQ (.own y)) y (.ins ys.vC yQ [])) b=none->H b=none:=fun {b} h=>by
   cases e:H b with
   | none=>rfl
   | some u=>rw[s4 _ _ e]at h;cases h
  exact q y H' ⟨yQ,x,ro,la,le,li,dn,lx,vK,lt,vF,fun b hb=>by
   simp only[mem_cons,not_mem_nil,or_false]at hb
   rcases hb with rfl | rfl | rfl | rfl
   ·exact fr yh
   ·exact fr hle
   ·exact fr yC
   ·exact fr yi,s1.trans s3,hY,hT.tb.keep W (v5.wj s3)⟩
theorem v5.AR {H0 H H':Hp}{ex:List Addr}(s:v5 H0 H)(o:vS ex H H')(h:∀ b ∈ ex,H0 b=none):v5 H0 H':=fun b u e=>o b u (fun z=>by rw[h b z]at e;cases e) (s _ _ e)
inductive jp (x:Xs)(vs:List V)(H:Hp)(Q:VK)(E:XK):Prop
 | mk (_:vs=[]) (_:∀ H',v5 H H'->E (.ref x.full) none H')
structure Km (P:Program)(w:World)(K:Frag)(mg:Str->Option Value)(base:Heap)(c:Cs)(ts:Ts)(ys:Ys)(x:Xs)(f:Addr)(d:FuncData):Prop where
 M:eA K ys.vC "post" f
 b:∃ tk,Binds K d vu [.int 0 tk]
 b0:Binds K d vu []
 G:v7 P w K mg base (cx P w) 4 f d vu (lr K c ts.tree (JY ts) ys x)
structure Kn (P:Program)(w:World)(K:Frag)(mg:Str->Option Value)(base:Heap)(c:Cs)(ts:Ts)(ys:Ys)(f:Addr)(d:FuncData):Prop where
 m:mg "_law_yard" = some (.ref f)
 k:keepIn K (.ref f)=true
 b:Binds K d [] []
 G:v7 P w K mg base aE 8 f d [] (jn K c ts ys)
noncomputable def tf:Nat->YS
 | 0=>AQ
 | k + 1=>pE (tf k) 0 1 1 0
theorem mO:∀ k,(tf k).vH.length=k/\(tf k).done.length=k
 | 0=>⟨rfl,rfl⟩
 | k + 1=>by
  obtain⟨h1,h2⟩:=mO k
  unfold tf pE
  dsimp only
  rw[length_append,length_append,h1,h2]
  exact⟨rfl,rfl⟩
theorem EY (m:Nat):dS 3 m6 m (.int 0) (.int 1) (.int 1) (.int 0)=if 60 <= m then .full else .good:=by
 unfold dS
 rw[if_neg (by decide),if_neg (by decide),if_neg (by decide +kernel),if_neg (by decide)]
abbrev NFu:List Str:=["_law_yard_here", "_law_k"]
theorem B7:aj NFu [] (ag lB):=L2.vX
theorem pX {c:Cs}{ts:Ts}{ys:Ys}{x:Xs}{f fp fy fw:Addr}{fd dp dy dw:FuncData}(F:vQ K "_law_full" "_law_full" lB f fd)(T:Txt mg)(Y:sH K ys)(W:Wy K ts.tree fw dw (JY ts))(ML:Kn P w K mg base c ts ys fy dy)(MP:Km P w K mg base c ts ys x fp dp):v7 P w K mg base (cx P w) 9 f fd [] (jp x):=by
 obtain⟨tk,bp⟩:=MP.b
 refine F.xY B7 (fun vs H Q E h=>?_) (fun cdv A outer s H vs Q E hr h=>?_)
 ·obtain⟨rfl,_⟩:=h
  rfl
 ·obtain⟨rfl,q⟩:=h
  have Ae:vE 8 _:=hr
  have y8:vE 4 _:=hr.mono (by decide)
  refine⟨_,ad (ar (i:=0) B7.nd rfl (Or.inl rfl) (ck ML.G Ae rfl ML.m ML.k ML.b .nil aw))
   (ah (dR j3 rfl (et rfl T.range (aa af ac)) (a7 (i:=1) B7.nd rfl (Or.inl rfl))
    (ah (aH (bj (pv 0) Y.cl MP.M MP.G y8 bp (.cons (show RelV (.int 0) (.int 0 tk) from ⟨tk,rfl⟩) .nil) (v8.passes rfl) (aa af (aa af (aa af ac)))))))),?_⟩
  refine⟨rfl,fun y H1 hY=>?_⟩
  obtain⟨yQ,tb,ro,la,le,li,dn,lx,vK,lt,vF,hn,s1,hY,hT⟩:=hY
  refine⟨61,rfl,by decide,by decide,?_⟩
  refine iU (n:=(61:Int).toNat) (fun k σ H2=>∃ (a1:Option V),k <= 60/\wb H1 H2/\v5 H H2/\vN K ys H2 y yQ tb ro la le li dn (tf k)/\σ=[some (.ref y),a1])
   ⟨none,by decide,fun _ _ e _=>e,s1,hY,rfl⟩ ?_ ?_
  ·rintro k σ H2 hk ⟨a1,k60,k1,s2,yD,rfl⟩
   obtain⟨hl,hd⟩:=mO k
   have JQ:=hT.keep W k1
   have du:=EY (tf k).vH.length
   refine⟨_,rfl,y,yQ,_,rfl,yD.ins,rfl,y,yQ,tb,ro,la,le,li,dn,lx,vK,lt,3,vF,aT gm 2,m6,tf k, .int 0, .int 1, .int 1, .int 0,rfl,yD,JQ, .int _, .int _, .int _, .int _,by omega,by omega,?_⟩
   rw[du]
   by_cases h:60 <= (tf k).vH.length
   ·rw[if_pos h]
    exact⟨nofun,nofun,nofun,nofun,fun _ H' s'=>q H' (s2.trans s'),nofun⟩
   ·rw[if_neg h]
    refine⟨nofun,nofun,nofun,nofun,nofun,fun _ H3 o3 Ck=>⟨_,by omega,k1.trans (o3.wj fun z hz=>yD.Ab z (by simp only[mem_cons,not_mem_nil,or_false]at hz ⊢;rcases hz with rfl | rfl;exact .inr (.inl rfl);exact .inr (.inr (.inr rfl)))),v5.AR s2 o3 fun b hb=>hn b (by simp only[mem_cons,not_mem_nil,or_false]at hb ⊢;rcases hb with rfl | rfl;exact .inr (.inl rfl);exact .inr (.inr (.inr rfl))),Ck,rfl⟩⟩
  ·rintro σ H2 ⟨a1,h61,_⟩
   exact absurd h61 (by decide)
structure EZ (K:Frag):Prop where
 ss:kitOne K (.type "str") (.type "str")=some true
 ns:kitOne K (.type "int") (.type "str")=some false
 tt:kitOne K (.type "tuple") (.type "tuple")=some true
theorem pe {a b:Str}(h:a ≠ b):decide (V.str a=V.str b)=false:=decide_eq_false fun z=>h (by injection z)
theorem Fb (a:Str):decide (V.str a=V.str a)=true:=decide_eq_true rfl
inductive lw (vs:List V)(H:Hp)(Q:VK)(E:XK):Prop
 | mk (p:Addr) (xs:List V) (_:vs=[.ref p]) (_:H p=some (.tup xs)) (_:xs.length <= 100) (_:(∀ x ∈ xs,(∃ t,x = .str t)∨∃ i,x = .int i)) (_:∀ H',v5 H H'->Q (.bl true) H')
noncomputable def sF (s:Stmt):Scope:=match s with
 | .Return (some (.BoolOp _ [_, .Call _ [.ListComp _ _ sc _] _ _] _)) _=>sc
 | _=>{ kind := .function,names:=[],isGenerator:=false,isCoroutine:=false }
theorem Ko:aj ["move"] ["move"] (ag jT):=L2.vX
theorem Kp:wM ["move"] (ag jT) (sF ((ax jT).getD 0 (.Pass ⟨0,0,0,0⟩))) [] []:=L2.yb
theorem Kq:(["thing"]:List Str).Nodup:=by decide +kernel
theorem rM {f fh:Addr}{fd dh:FuncData}(F:vQ K "is_move" "is_move" jT f fd)(T:Txt mg)(Z:EZ K)(mh:mg "is_whole" = some (.ref fh))(kh:keepIn K (.ref fh)=true)(bh:Binds K dh ["value"] [])(G:v7 P w K mg base aE 1 fh dh ["value"] dM) :
  v7 P w K mg base aE 2 f fd ["move"] lw:=by
 refine F.ok Ko (fun vs H Q E h=>?_) (fun cdv A outer s H vs Q E hr h=>?_)
 ·obtain⟨p,xs,rfl,_⟩:=h
  rfl
 ·obtain⟨p,xs,rfl,hp,hl,hx,q⟩:=h
  refine⟨_,ah (ay (bE (al dc rfl T.wI PyProof.Rows.boot_isinstance (aa (pv 0) (aa (bD (v := .ty "tuple") rfl T.tuple PySem.Pv.boot_tuple rfl) ac)))
   (bJ (al (eg rfl) rfl T.all PyProof.Rows.boot_all (aa (bx (own:=["thing"]) (capN:=[]) (cap:=[]) Kp rfl (j1 (pv 0)) (fun C s' H' fp=>⟨a7 (i:=0) Kq rfl (Or.inl rfl),bG,
    C0 (al (show cp _ (.builtin "isinstance") (Dy K) from dc) rfl T.wI PyProof.Rows.boot_isinstance (aa (pv 0) (aa (bD (v := .ty "str") rfl T.str PySem.Pv.boot_str rfl) ac))) (bJ (aq G hr rfl mh kh bh .nil aw (aa (pv 0) ac)))⟩)) ac))))),?_⟩
  refine⟨_,rfl, .ref p,_, "tuple",true,rfl, .tup hp,Z.tt,true,rfl,a9 ⟨_,rfl,p,rfl,⟨_,vO.of hp⟩,?_⟩⟩
  refine b7 xs.length (by rw[sizeLine_eq];omega) (fun i acc H'=>H' = H/\acc=(List.replicate i true).map V.bl) ⟨rfl,rfl⟩ (fun i acc H' h=>by rw[h.2];simp) (fun i acc H' hi h=>?_) (fun acc H' h=>?_)
  ·obtain⟨rfl,rfl⟩:=h
   refine⟨⟨xs,xs[i],vO.of hp,List.getElem?_eq_getElem hi⟩,fun v H2 y=>?_⟩
   obtain⟨rfl,y⟩:=y
   have hv:=y xs (vO.of hp)
   have e:(List.replicate i true).map V.bl ++ [V.bl true]=(List.replicate (i + 1) true).map V.bl:=by rw[List.replicate_succ',map_append];rfl
   rcases hx v (mem_of_getElem? hv) with ⟨t,rfl⟩ | ⟨z,rfl⟩
   ·exact⟨_,rfl, .str t,_, "str",true,rfl, .str t,Z.ss,true,rfl,a9 ⟨rfl,e⟩⟩
   ·exact⟨_,rfl, .int z,_, "str",false,rfl, .int z,Z.ns,false,rfl,av ⟨_,rfl, .int z,rfl, .int z,rfl,e⟩⟩
  ·obtain⟨rfl,rfl⟩:=h
   refine⟨⟨xs,vO.of hp,le_refl _⟩,fun D hD=>⟨D,List.replicate xs.length true,rfl,vG.of vz,?_⟩⟩
   have e:(List.replicate xs.length true).all id=true:=by rw[all_eq_true];intro b hb;rw[eq_of_mem_replicate hb];rfl
   rw[e]
   exact q _ ((v5.refl H').new hD)
structure FrM (P:Program)(w:World)(K:Frag)(mg:Str->Option Value)(base:Heap)(ys:Ys)(f:Addr)(d:FuncData):Prop where
 m:eA K ys.vZ "front" f
 b:Binds K d ["self"] []
 G:v7 P w K mg base aE 1 f d ["self"] (jr ys.vZ)
inductive jm (K:Frag)(ys:Ys)(vs:List V)(H:Hp)(Q:VK)(E:XK):Prop
 | mk (y dy tb ro la le li dn:Addr) (s:YS) (k:Nat) (ln:m5) (_:vs=[.ref y, .int k]) (_:vN K ys H y dy tb ro la le li dn s) (_:s.lanes[k]? = some ln) (_:ln.qs=[]) (_:∀ D,H D=none->Q (.ref D) (upd H D (.lst [])))
inductive lu (K:Frag)(ys:Ys)(vs:List V)(H:Hp)(Q:VK)(E:XK):Prop
 | mk (y dy tb ro la le li dn:Addr) (s:YS) (k:Nat) (ln:m5) (p:Addr) (_:vs=[.ref y, .ref p]) (_:H p=some (.tup [.str "lie", .int k])) (_:vN K ys H y dy tb ro la le li dn s) (_:s.lanes[k]? = some ln) (_:ln.qs=[]) (_:∀ D H',v5 H H'->H' D=some (.lst [])->Q (.ref D) H')
inductive ua (K:Frag)(ys:Ys)(mv:Addr)(vs:List V)(H:Hp)(Q:VK)(E:XK):Prop
 | mk (y dy tb ro la le li dn:Addr) (s:YS) (k:Nat) (ln:m5) (p:Addr) (_:vs=[.ref y, .ref p]) (_:H p=some (.tup [.str "lie", .int k])) (_:vN K ys H y dy tb ro la le li dn s) (_:s.lanes[k]? = some ln) (_:ln.qs=[]) (_:∀ H',v5 H H'->E (.ref mv) none H')
inductive ju (C mv:Addr)(vs:List V)(H:Hp)(Q:VK)(E:XK):Prop
 | mk (x dx pa:Addr) (r:Int) (h:Option Int) (xF:List V) (qs:List (Int × Int)) (_:vs=[.ref x]) (_:wd H C x dx pa r 0 h xF qs) (_:∀ H',v5 H H'->E (.ref mv) none H')
theorem Kr:aj ["self"] ["self"] (ag lH):=L2.vX
theorem qd {C mv f:Addr}{fd:FuncData}(F:vQ K "bring" "Lane.bring" lH f fd)(L:GL K C)(X:kY K mg "NoMove" mv):v7 P w K mg base (cx P w) 1 f fd ["self"] (ju C mv):=by
 refine F.xY Kr (fun vs H Q E h=>?_) (fun cdv A outer s H vs Q E hr h=>?_)
 ·obtain⟨x,dx,pa,r,h,xF,qs,rfl,_⟩:=h
  rfl
 ·obtain⟨x,dx,pa,r,h,xF,qs,rfl,hL,q⟩:=h
  refine⟨_,ad (a8 (ao aL (aK (pv 0) rfl) af (ap _)) (ah (aO rfl X.x v8 (aZ X.x X.k rfl rfl X.m (aa aP ac)))) am)
   (ad aB (ah aB)),?_⟩
  refine⟨_,rfl,x,C,dx,_,_,rfl,hL.ins,L.cl,L.n2,rfl,rfl,_,rfl,?_⟩
  rw[cu,decide_eq_true rfl]
  exact a9 ⟨by show 1 <= sizeLine;decide,q H (v5.refl H)⟩
theorem Fc:aj ["self", "lane", "piece"] ["self", "lane"] (ag l8):=L2.vX
theorem pT {ys:Ys}{f ff:Addr}{fd df:FuncData}(F:vQ K "moves_lie" "Yard.moves_lie" l8 f fd)(Y:sH K ys)(M:FrM P w K mg base ys ff df):v7 P w K mg base aE 2 f fd ["self", "lane"] (jm K ys):=by
 refine F.ok Fc (fun vs H Q E h=>?_) (fun cdv A outer s H vs Q E hr h=>?_)
 ·obtain⟨y,dy,tb,ro,la,le,li,dn,s,k,ln,rfl,_⟩:=h
  rfl
 ·obtain⟨y,dy,tb,ro,la,le,li,dn,st,k,ln,rfl,hY,zF,Fd,q⟩:=h
  refine⟨_,ad (ar (i:=2) Fc.nd rfl (Or.inl rfl) (kl (aR bP (aK (pv 0) rfl) (pv 1) (fun _ _=>rfl)) Y.L.cl M.m M.G hr M.b .nil aw))
   (ad (a8 (PW.pt (eW (ao lL (pv 2) bK (ap _)) (dP jy))) (ah (ay (aD ac))) am)
   (ah aB)),?_⟩
  obtain⟨vU,Ks,Kt⟩:=hY.yh
  obtain⟨vl,hvl,xl,Cj,pal,pvl,rfl,hL,_⟩:=Paired.at2 Kt zF
  have e0:pvl=[]:=by
   have:=hL.JI
   rw[Fd]at this
   cases this
   rfl
  subst e0
  refine⟨_,rfl,y,ys.vC,dy,_,_,rfl,hY.ins,Y.cl,Y.n3,rfl,_,rfl,la,vU,(k:Int),_,rfl,rfl,vG.of Ks,az hvl,xl,Cj,_,rfl,hL.ins,rfl,xl,Cj,pal,ln.r,ln.b,ln.h,[],ln.qs,rfl,hL,?_⟩
  exact⟨_,rfl,rfl,_,rfl,a9 (a9 ⟨zero_le _,q⟩)⟩
structure Fg (P:Program)(w:World)(K:Frag)(mg:Str->Option Value)(base:Heap)(CX:iH)(k:Nat)(n:Str)(ps:List Str)(sp:Sp)(f:Addr)(d:FuncData):Prop where
 m:mg n=some (.ref f)
 kp:keepIn K (.ref f)=true
 b:Binds K d ps []
 G:v7 P w K mg base CX k f d ps sp
structure Mg (P:Program)(w:World)(K:Frag)(mg:Str->Option Value)(base:Heap)(CX:iH)(k:Nat)(C:Addr)(n:Str)(ps:List Str)(sp:Sp)(f:Addr)(d:FuncData):Prop where
 m:eA K C n f
 b:Binds K d ps []
 G:v7 P w K mg base CX k f d ps sp
theorem Ku:aj ["self", "move"] ["self", "move"] (ag py):=L2.vX
theorem rL {ys:Ys}{f fl fm fn:Addr}{fd dl dm dn:FuncData}(F:vQ K "moves_like" "Yard.moves_like" py f fd)(T:Txt mg)(Y:sH K ys)(ML:Mg P w K mg base aE 2 ys.vC "moves_lie" ["self", "lane"] (jm K ys) fl dl)
  (MM:Fg P w K mg base aE 2 "is_move" ["move"] lw fm dm) (MN:Fg P w K mg base aE 2 "is_within" ["value", "least", "most"] cf fn dn) :
  v7 P w K mg base aE 7 f fd ["self", "move"] (lu K ys):=by
 refine F.ok Ku (fun vs H Q E h=>?_) (fun cdv A outer s H vs Q E hr h=>?_)
 ·obtain⟨y,dy,tb,ro,la,le,li,dn,s,k,ln,p,rfl,_⟩:=h
  rfl
 ·obtain⟨y,dy,tb,ro,la,le,li,dn,st,k,ln,p,rfl,hp,hY,zF,Fd,q⟩:=h
  have wC:vE 2 _:=hr.mono (by decide)
  refine⟨_,ad (a8 (PW.pt (eW (aU (bu (aq MM.G wC rfl MM.m MM.kp MM.b .nil aw (aa (pv 1) ac)))) (dP (ao kx (al aJ rfl T.len PySem.boot_len (aa (pv 1) ac)) af (ap _))))) (ah aB) am)
   (ad (a8 (ao aL (aR aW (pv 1) af (fun _ _=>rfl)) aP (ap _)) (ah aB) am)
   (ad (a8 (aU (bu (aq MN.G wC rfl MN.m MN.kp MN.b .nil aw (aa (aR aW (pv 1) af (fun _ _=>rfl)) (aa af (aa (au dU (al aJ rfl T.len PySem.boot_len (aa (aK (pv 0) rfl) ac)) af) ac)))))) (ah aB) am)
   (ad (a8 (ao aL (aR aW (pv 1) af (fun _ _=>rfl)) aP (ap _)) (ah aB) am)
   (ad (a8 (ao aL (aR aW (pv 1) af (fun _ _=>rfl)) aP (ap _)) (ah (ay (bj (pv 0) Y.cl ML.m ML.G wC ML.b .nil aw (aa (aR aW (pv 1) af (fun _ _=>rfl)) ac)))) am)
   (ah aB))))),?_⟩
  refine⟨_,rfl,p,_,rfl,hp,by simp,fun x hx=>?_,fun H1 s1=>⟨_,rfl,av ?_⟩⟩
  ·simp only[mem_cons,not_mem_nil,or_false]at hx
   rcases hx with rfl | rfl
   ·exact .inl ⟨_,rfl⟩
   ·exact .inr ⟨_,rfl⟩
  have Cn:=s1 _ _ hp
  have yD:=hY.same s1
  obtain⟨vU,Ks,Kt⟩:=yD.yh
  have yh:vU.length=st.lanes.length:=Paired.length Kt
  have hk:=(List.getElem?_eq_some_iff.mp zF).1
  refine⟨_,rfl,p,_,rfl, .inr (vO.of Cn),_,_,rfl,rfl,_,rfl,av ?_⟩
  refine⟨_,rfl,p,_,0,_,rfl,rfl,vO.of Cn,az (j:=0) rfl,rfl,_,rfl,?_⟩
  rw[pe (by decide)]
  refine av ?_
  refine⟨_,rfl,p,_,1,_,rfl,rfl,vO.of Cn,az (j:=1) rfl,_,rfl,y,ys.vC,dy,_,_,rfl,yD.ins,Y.cl,Y.n3,rfl,la,_,rfl, .inl (vG.of Ks),_,_,rfl,rfl, .int k,0,_,rfl, .int _,_,rfl,?_⟩
  rw[show gb (.int k) 0 (((vU.length:Nat):Int) - 1)=true from decide_eq_true (by omega)]
  refine av ?_
  refine⟨_,rfl,p,_,0,_,rfl,rfl,vO.of Cn,az (j:=0) rfl,rfl,_,rfl,?_⟩
  rw[pe (by decide)]
  refine av ?_
  refine⟨_,rfl,p,_,0,_,rfl,rfl,vO.of Cn,az (j:=0) rfl,rfl,_,rfl,?_⟩
  rw[Fb]
  refine a9 ?_
  exact⟨_,rfl,y,dy,_,rfl,yD.ins,rfl,_,rfl,p,_,1,_,rfl,rfl,vO.of Cn,az (j:=1) rfl,y,dy,tb,ro,la,le,li,dn,st,k,ln,rfl,yD,zF,Fd,fun D hD=>q D _ (s1.new hD) vz⟩
theorem Kv:aj ["self", "move"] ["self", "move"] (ag Js):=L2.vX
theorem Fe {ys:Ys}{mv f fl:Addr}{fd dl:FuncData}(F:vQ K "do" "Yard.do" Js f fd)(Y:sH K ys)(ML:Mg P w K mg base aE 7 ys.vC "moves_like" ["self", "move"] (lu K ys) fl dl)(X:kY K mg "NoMove" mv) :
  v7 P w K mg base (cx P w) 8 f fd ["self", "move"] (ua K ys mv):=by
 refine F.xY Kv (fun vs H Q E h=>?_) (fun cdv A outer s H vs Q E hr h=>?_)
 ·obtain⟨y,dy,tb,ro,la,le,li,dn,s,k,ln,p,rfl,_⟩:=h
  rfl
 ·obtain⟨y,dy,tb,ro,la,le,li,dn,st,k,ln,p,rfl,hp,hY,zF,Fd,q⟩:=h
  have hu:=hr.units
  refine⟨_,ad (a8 (ao (nU hu) (pv 1) (bj (pv 0) Y.cl ML.m ML.G hr ML.b .nil aw (aa (pv 1) ac)) (by with_unfolding_all rfl)) (ah (aO rfl X.x v8 (aZ X.x X.k rfl rfl X.m (aa aP ac)))) am)
   (ad aB (ah aB)),?_⟩
  refine⟨_,rfl,_,rfl,y,dy,_,rfl,hY.ins,rfl,_,rfl,y,dy,tb,ro,la,le,li,dn,st,k,ln,p,rfl,hp,hY,zF,Fd,fun D H1 s1 gD=>?_⟩
  refine⟨D,[], .tuple [.str "lie", .int k],[],rfl, .tup (vO.of (s1 _ _ hp)) (.cons (.str _) (.cons (.int _) .nil)),vG.of gD, .nil,?_,nofun,_,rfl,a9 ⟨by show 1 <= sizeLine;decide,q H1 s1⟩⟩
  refine(nL (m:=0) fun z hz=>?_).le (by decide)
  simp only[mem_cons,not_mem_nil,or_false]at hz
  rcases hz with rfl | rfl
  ·exact⟨by simp only[PyData.canLay0];decide +kernel,by simp[PyData.depth]⟩
  ·exact qW _
structure Ot where
 nm:Addr
 rm:Addr
 mv:Addr
 tx:Addr
 rw:Addr
noncomputable def dD (c:Cs)(ts:Ts)(x:Xs)(o:Ot):Nat->Addr
 | 0=>c.np | 1=>c.tm | 2=>c.nr | 3=>ts.ne | 4=>o.nm | 5=>o.rm | 6=>x.place | 7=>x.length | 8=>x.word | 9=>x.way | 10=>x.full | 11=>o.mv | 12=>o.tx | _=>o.rw
noncomputable def tG (u:Int):Nat->Option (List (Str × V))
 | 1=>some [("many", .int (41 + u % 20))]
 | 2=>some [("lane", .int (u % 7))]
 | 3=>some [("row", .int 1)]
 | 9=>some [("start", .int (u % 3)),("goal", .int (u % 3))]
 | _=>none
noncomputable def DD (u:Int)(k:Nat)(H:Hp)(dd:Option Addr):Prop:=match tG u k with
 | none=>dd=none
 | some fs=>∃ d,dd=some d/\H d=some (.xd fs)
noncomputable def Ff (cs:Nat->Addr)(k:Nat)(u:Int)(E:XK)(H:Hp):Prop:=∀ H' dd,v5 H H'->DD u k H' dd->E (.ref (cs k)) dd H'
inductive fG (c:Cs)(ts:Ts)(vs:List V)(H:Hp)(Q:VK)(E:XK):Prop
 | mk (x dx:Addr) (n:Int) (_:vs=[.ref x, .int n]) (_:H x=some (.ins ts.loop dx [])) (_:13 <= n) (_:∀ H',v5 H H'->E (.ref c.np) none H')
inductive jo (cs:Nat->Addr)(vs:List V)(H:Hp)(Q:VK)(E:XK):Prop
 | mk (k:Nat) (u:Int) (_:vs=[.int k, .int u]) (_:k < 5) (_:Ff cs k u E H)
structure Kg (P:Program)(w:World)(K:Frag)(mg:Str->Option Value)(base:Heap)(CX:iH)(k:Nat)(C:Addr)(n:Str)(ps:List Str)(sp:Sp)(f:Addr)(d:FuncData):Prop where
 M:Mk K C f
 m:mg n=some (.ref C)
 b:Binds K d ps []
 G:v7 P w K mg base CX k f d ps sp
theorem ir {α:Type}(x:α):∀ n:Nat,(List.replicate n [x]).flatten=List.replicate n x
 | 0=>rfl
 | n + 1=>by rw[replicate_succ,flatten_cons,ir x n];rfl
theorem jC {H:Hp}{v:V}{p:Int × Int}(h:vw H v p):∀ n:Nat,vV H (List.replicate n v) (List.replicate n p)
 | 0 => .nil
 | n + 1 => .cons h (jC h n)
abbrev NLo:List Str:=["self", "many", "once"]
theorem Kw:aj NLo ["self", "many"] (ag pw):=L2.vX
theorem rK {c:Cs}{ts:Ts}{f fw f1 f2:Addr}{fd dw d1 d2:FuncData}{t1:Tok}(F:vQ K "__init__" "Loop.__init__" pw f fd)(X:Exc K mg c f1 f2 d1 d2)(MN:Fg P w K mg base aE 2 "is_within" ["value", "least", "most"] c9 fw dw)(mp:mg "MOST_PLACES" = some (.int 12 t1)) :
  v7 P w K mg base (cx P w) 3 f fd ["self", "many"] (fG c ts):=by
 refine F.xY Kw (fun vs H Q E h=>?_) (fun cdv A outer s H vs Q E hr h=>?_)
 ·obtain⟨x,dx,n,rfl,_⟩:=h
  rfl
 ·obtain⟨x,dx,n,rfl,hx,hn,q⟩:=h
  refine⟨_,ad (a8 (aU (bu (aq MN.G hr rfl MN.m MN.kp MN.b .nil aw (aa (pv 1) (aa af (aa (aA (v := .int 12) rfl mp ⟨_,rfl⟩) ac))))))
    (ah (aO rfl X.BY v8 (aZ X.BY X.Jv rfl rfl X.Ju (aa aP ac)))) am)
   (ad aB (ad aB (ah aB))),?_⟩
  refine⟨_,rfl,n,2,12,rfl,_,rfl,?_⟩
  rw[decide_eq_false (by omega)]
  exact a9 ⟨by show 1 <= sizeLine;decide,q H (v5.refl H)⟩
theorem tj:(0:Int) < 10 ^ (20:Int).toNat:=by decide +kernel
theorem kI:sO 10 20:=⟨by decide,by decide,by decide⟩
theorem Kx:aj ["_law_which", "_law_cell"] ["_law_which", "_law_cell"] (ag lA):=L2.vX
theorem pW {c:Cs}{ts:Ts}{x:Xs}{o:Ot}{f f1 f2 f3 f4 f5:Addr}{fd d1 d2 d3 d4 d5:FuncData}(F:vQ K "_law_land" "_law_land" lA f fd)(LO:Kg P w K mg base (cx P w) 3 ts.loop "Loop" ["self", "many"] (fG c ts) f1 d1)
  (LA:Kg P w K mg base (cx P w) 4 c.land "Land" ["self", "places", "lanes"] (gN K c) f2 d2) (TO:Kg P w K mg base (cx P w) 5 ts.told "Told" ["self", "land", "rows"] (lq P w K c ts) f3 d3)
  (MT:GU P w K mg base c ts f4 d4) (WT:Fg P w K mg base (cx P w) 6 "way_to" ["table", "lane", "goal"] (jj c ts.tree (JT ts) o.nm) f5 d5) :
  v7 P w K mg base (cx P w) 8 f fd ["_law_which", "_law_cell"] (jo (dD c ts x o)):=by
 refine F.xY Kx (fun vs H Q E h=>?_) (fun cdv A outer s H vs Q E hr h=>?_)
 ·obtain⟨k,u,rfl,_⟩:=h
  rfl
 ·obtain⟨k,u,rfl,hk,q⟩:=h
  have y8:vE 4 _:=hr.mono (by decide)
  have zH:vE 5 _:=hr.mono (by decide)
  have NV:vE 6 _:=hr.mono (by decide)
  refine⟨_,ad (a8 (PW.pt (gS (ao aL (pv 0) af (ap _)) (eX (ao aL (au bg (pv 1) af) af (ap _)))))
    (ah (aH (bn LO.M LO.G y8 rfl LO.m LO.b .nil (v8.passes rfl) (aa (au bS af (au bg (pv 1) (au cy af af))) ac)))) am)
   (ad (a8 (ao aL (pv 0) af (ap _))
    (ah (aH (bn LA.M LA.G zH rfl LA.m LA.b .nil (v8.passes rfl) (aa (aR bP (aD (aa af (aa (au bS af (au bg (pv 1) (au cy af af))) ac))) (au bg (pv 1) af) (fun _ _=>rfl)) (aa (aD ac) ac))))) am)
   (ad (a8 (ao aL (pv 0) af (ap _))
    (ah (aH (bn LA.M LA.G zH rfl LA.m LA.b .nil (v8.passes rfl) (aa af (aa (au pK (aD (aa (bR (aa af (aa af ac))) ac)) (au bS af (au bg (pv 1) af))) ac))))) am)
   (ad (a8 (ao aL (pv 0) af (ap _))
    (ah (aH (bn LA.M LA.G zH rfl LA.m LA.b .nil (v8.passes rfl) (aa af (aa (au j5 (au pK (aD (aa (bR (aa af (aa af ac))) ac)) (au bg (pv 1) af)) (aD (aa (bR (aa af (aa af ac))) ac))) ac))))) am)
   (ad (a8 (ao aL (pv 0) af (ap _))
    (ah (aH (bn TO.M TO.G NV rfl TO.m TO.b .nil (v8.passes rfl) (aa (bn LA.M LA.G zH rfl LA.m LA.b .nil (v8.passes rfl) (aa af (aa (aD (aa (bR (aa af (aa af ac))) ac)) ac)))
     (aa (aD (aa (bR (aa af (aa af (aa bK (aa (aD (aa af ac)) ac))))) (aa (bR (aa af (aa af (aa bK (aa (aD ac) ac))))) ac))) ac))))) am)
   (ah (a8 (ao aL (pv 0) af (ap _))
    (ah (aH (aq WT.G NV rfl WT.m WT.kp WT.b .nil (v8.passes rfl) (aa (bn MT.M MT.G hr rfl MT.m MT.b .nil (v8.passes rfl) (aa (aD (aa af (aa af ac))) ac)) (aa af (aa af ac)))))) am)))))),?_⟩
  have m20:=emod_nonneg u (show (10:Int) ^ (20:Int).toNat ≠ 0 by decide +kernel)
  have fresh:∀ {H:Hp}{C x dx:Addr},H x=none->H dx=none->dx ≠ x->v5 H (upd (upd H dx (.own x)) x (.ins C dx [])):=fun nx xE ne=>v5.new (v5.new (v5.refl _) xE) (by rw[ae (Ne.symm ne)];exact nx)
  match k,hk,q with
  | 0,_,q =>
   refine⟨_,rfl,rfl,_,rfl,?_⟩
   show(if decide (V.int ((0:Nat):Int)=V.int 0)=true then _ else _)
   rw[show decide (V.int ((0:Nat):Int)=V.int 0)=true from rfl]
   refine a9 ⟨_,rfl,_,_,rfl,rfl,(by show (0:Int) < 3;decide),rfl,_,rfl,?_⟩
   show(if decide (V.int (u % 3)=V.int 0)=true then _ else _)
   rw[cu]
   by_cases h3:u % 3=0
   ·rw[decide_eq_true h3]
    refine a9 ?_
    refine⟨_,rfl,_,_,rfl,rfl,kI,_,_,rfl,rfl,tj,_,_,rfl,rfl,fun y dy ny ye ne=>?_⟩
    exact⟨y,dy,_,rfl,vz,by omega,fun H' s'=>q H' none ((fresh ny ye ne).trans s') rfl⟩
   rw[decide_eq_false h3]
   refine av ⟨_,rfl,rfl,_,rfl,?_⟩
   show(if decide (V.int ((0:Nat):Int)=V.int 0)=true then _ else _)
   rw[show decide (V.int ((0:Nat):Int)=V.int 0)=true from rfl]
   refine a9 ⟨_,rfl,_,_,rfl,rfl,kI,_,_,rfl,rfl,tj,_,_,rfl,rfl,by show 2 <= sizeLine;decide,fun D hD=>?_⟩
   have s1:v5 H (upd H D (.lst [.int 0, .int (13 + u % 10 ^ (20:Int).toNat)])):=v5.new (v5.refl _) hD
   obtain⟨n,hn,hat⟩:∃ n,bM n [] = .places/\t8 [V.int 0, .int (13 + u % 10 ^ (20:Int).toNat)] (u % 2)=some (.int n):=by
    have h2:u % 2=0∨u % 2=1:=by omega
    rcases h2 with h2 | h2
    ·exact⟨0,rfl,by rw[h2];rfl⟩
    ·exact⟨13 + u % 10 ^ (20:Int).toNat,by unfold bM;rw[if_pos (decide_eq_false (by omega))],by rw[h2];rfl⟩
   refine⟨_,rfl,_,_,rfl,rfl,(by show (0:Int) < 2;decide),D,_,_,_,rfl,rfl,vG.of vz,hat,zero_le _,fun D2 wZ y dy ny ye ne=>?_⟩
   have s2:=s1.trans ((v5.refl _).new (o := .lst []) wZ)
   have s3:=fresh (C:=c.land) ny ye ne
   exact⟨y,dy,n,D2,[],[],rfl,vz,vG.of (s3 _ _ vz), .nil,by decide,fun _ H' s'=>q H' none (s2.trans (s3.trans s')) rfl,(fun k h=>by rw[hn]at h;cases h),(fun k h=>by rw[hn]at h;cases h),(fun h=>by rw[hn]at h;cases h)⟩
  | 1,_,q =>
   refine⟨_,rfl,rfl,_,rfl,?_⟩
   show(if decide (V.int ((1:Nat):Int)=V.int 0)=true then _ else _)
   rw[show decide (V.int ((1:Nat):Int)=V.int 0)=false from rfl]
   refine av (av ⟨_,rfl,rfl,_,rfl,?_⟩)
   show(if decide (V.int ((1:Nat):Int)=V.int 0)=true then _ else _)
   rw[show decide (V.int ((1:Nat):Int)=V.int 0)=false from rfl]
   refine av ⟨_,rfl,rfl,_,rfl,?_⟩
   show(if decide (V.int ((1:Nat):Int)=V.int 1)=true then _ else _)
   rw[show decide (V.int ((1:Nat):Int)=V.int 1)=true from rfl]
   have m0:=emod_nonneg u (show (20:Int) ≠ 0 by decide)
   have m1:=emod_lt_of_pos u (show (0:Int) < 20 by decide)
   obtain⟨n,en⟩:∃ n:Nat,41 + u % 20=(n:Int):=⟨(41 + u % 20).toNat,by omega⟩
   refine a9 ⟨by show 2 <= sizeLine;decide,fun t1 Fi=>⟨by show 1 <= sizeLine;decide,fun D hD=>⟨_,rfl,_,_,rfl,rfl,(by show (0:Int) < 20;decide),_,_,rfl,rfl,?_⟩⟩⟩
   have s1:v5 H (upd H t1 (.tup [.int 0, .int 1])):=(v5.refl H).new Fi
   have s2:=s1.new (o := .lst [.ref t1]) hD
   have gt:(upd (upd H t1 (.tup [.int 0, .int 1])) D (.lst [.ref t1])) t1=some (.tup [.int 0, .int 1]):=by rw[ae (ai vz hD)];exact vz
   refine⟨D,_,[.ref t1],rfl,rfl,vz,by omega,by omega,?_,fun D2 wZ=>?_⟩
   ·rw[sizeLine_eq,en,toNat_natCast]
    show 1 * n <= _
    omega
   rw[en,toNat_natCast,ir]
   have s3:=(v5.refl _).new (o := .lst (List.replicate n (V.ref t1))) wZ
   refine fun y dy ny ye ne=>?_
   have s4:=fresh (C:=c.land) ny ye ne
   have gl:=jC (p:=(0,1)) ⟨t1,rfl,s4 _ _ (s3 _ _ gt)⟩ n
   have hd:bM 2 (List.replicate n (0,1)) = .many n:=by
    unfold bM
    rw[if_neg (by decide),if_pos (by rw[length_replicate];omega),length_replicate]
   refine⟨y,dy,2,D2,_,_,rfl,vz,vG.of (s4 _ _ vz),gl,by rw[length_replicate];omega,(fun h=>by rw[hd]at h;cases h),fun k h H' d s' g=>?_,(fun k h=>by rw[hd]at h;cases h),(fun h=>by rw[hd]at h;cases h)⟩
   rw[hd]at h
   cases h
   exact q H' _ (s2.trans (s3.trans (s4.trans s'))) ⟨d,rfl,by rw[g,en]⟩
  | 2,_,q =>
   refine⟨_,rfl,rfl,_,rfl,?_⟩
   show(if decide (V.int ((2:Nat):Int)=V.int 0)=true then _ else _)
   rw[show decide (V.int ((2:Nat):Int)=V.int 0)=false from rfl]
   refine av (av ⟨_,rfl,rfl,_,rfl,?_⟩)
   show(if decide (V.int ((2:Nat):Int)=V.int 0)=true then _ else _)
   rw[show decide (V.int ((2:Nat):Int)=V.int 0)=false from rfl]
   refine av ⟨_,rfl,rfl,_,rfl,?_⟩
   show(if decide (V.int ((2:Nat):Int)=V.int 1)=true then _ else _)
   rw[show decide (V.int ((2:Nat):Int)=V.int 1)=false from rfl]
   refine av ⟨_,rfl,rfl,_,rfl,?_⟩
   show(if decide (V.int ((2:Nat):Int)=V.int 2)=true then _ else _)
   rw[show decide (V.int ((2:Nat):Int)=V.int 2)=true from rfl]
   have m0:=emod_nonneg u (show (7:Int) ≠ 0 by decide)
   have m1:=emod_lt_of_pos u (show (0:Int) < 7 by decide)
   obtain⟨n,en⟩:∃ n:Nat,u % 7=(n:Int):=⟨(u % 7).toNat,by omega⟩
   refine a9 ⟨by show 2 <= sizeLine;decide,fun t1 Fi=>⟨by show 1 <= sizeLine;decide,fun D hD=>⟨_,rfl,_,_,rfl,rfl,(by show (0:Int) < 7;decide),?_⟩⟩⟩
   have s1:v5 H (upd H t1 (.tup [.int 0, .int 1])):=(v5.refl H).new Fi
   have s2:=s1.new (o := .lst [.ref t1]) hD
   have gt:(upd (upd H t1 (.tup [.int 0, .int 1])) D (.lst [.ref t1])) t1=some (.tup [.int 0, .int 1]):=by rw[ae (ai vz hD)];exact vz
   refine⟨D,_,[.ref t1],rfl,rfl,vz,by omega,by omega,?_,fun D2 wZ=>?_⟩
   ·rw[sizeLine_eq,en,toNat_natCast]
    show 1 * n <= _
    omega
   rw[en,toNat_natCast,ir]
   have s3:=(v5.refl _).new (o := .lst (List.replicate n (V.ref t1))) wZ
   refine⟨by show 2 <= sizeLine;decide,fun t2 Ky=>⟨by show 1 <= sizeLine;decide,fun D3 zX=>⟨D2,D3,List.replicate n (V.ref t1),[.ref t2],rfl,rfl,?_,vz,by rw[sizeLine_eq,length_replicate];show n + 1 <= _;omega,fun D4 Kz y dy ny ye ne=>?_⟩⟩⟩
   ·rw[ae (ai (show _=some (.lst (List.replicate n (V.ref t1))) from by rw[ae (ai vz Ky)];exact vz) zX),ae (ai vz Ky)];exact vz
   have s5:=(v5.refl _).new (o := .tup [.int 2, .int 2]) Ky
   have s6:=(v5.refl _).new (o := .lst [.ref t2]) zX
   have s7:=(v5.refl _).new (o := .lst (List.replicate n (V.ref t1) ++ [.ref t2])) Kz
   have s8:=fresh (C:=c.land) ny ye ne
   have gl:=jC (p:=(0,1)) ⟨t1,rfl,s8 _ _ (s7 _ _ (s6 _ _ (s5 _ _ (s3 _ _ gt))))⟩ n
   have gl2:=vV.snoc (v := .ref t2) (p:=(2,2)) ⟨t2,rfl,s8 _ _ (s7 _ _ (s6 _ _ vz))⟩ gl
   have vD:∀ z ∈ List.replicate n ((0:Int),(1:Int)),j6 3 z=true:=fun z hz=>by rw[eq_of_mem_replicate hz];decide
   have hd:bM 3 (List.replicate n (0,1) ++ [(2,2)]) = .vZ n:=by
    unfold bM
    rw[if_neg (by decide),if_neg (by rw[length_append,length_replicate];show ¬ 40 < n + 1;omega),i8 (i:=n) (p:=(2,2)) (fun z hz=>vD z (by rw[List.take_left' (length_replicate ..)]at hz;exact hz)) (by rw[List.getElem?_append_right (by rw[length_replicate];exact le_refl _),length_replicate,Nat.sub_self];rfl) (by decide)]
   refine⟨y,dy,3,D4,_,_,rfl,vz,vG.of (s8 _ _ vz),gl2,by rw[length_append,length_replicate];show n + 1 <= 1000;omega,(fun h=>by rw[hd]at h;cases h),(fun k h=>by rw[hd]at h;cases h),fun k h H' d s' g=>?_,(fun h=>by rw[hd]at h;cases h)⟩
   rw[hd]at h
   cases h
   exact q H' _ (s2.trans (s3.trans (s5.trans (s6.trans (s7.trans (s8.trans s')))))) ⟨d,rfl,by rw[g,en]⟩
  | 3,_,q =>
   refine⟨_,rfl,rfl,_,rfl,?_⟩
   show(if decide (V.int ((3:Nat):Int)=V.int 0)=true then _ else _)
   rw[show decide (V.int ((3:Nat):Int)=V.int 0)=false from rfl]
   refine av (av ⟨_,rfl,rfl,_,rfl,?_⟩)
   show(if decide (V.int ((3:Nat):Int)=V.int 0)=true then _ else _)
   rw[show decide (V.int ((3:Nat):Int)=V.int 0)=false from rfl]
   refine av ⟨_,rfl,rfl,_,rfl,?_⟩
   show(if decide (V.int ((3:Nat):Int)=V.int 1)=true then _ else _)
   rw[show decide (V.int ((3:Nat):Int)=V.int 1)=false from rfl]
   refine av ⟨_,rfl,rfl,_,rfl,?_⟩
   show(if decide (V.int ((3:Nat):Int)=V.int 2)=true then _ else _)
   rw[show decide (V.int ((3:Nat):Int)=V.int 2)=false from rfl]
   refine av ⟨_,rfl,rfl,_,rfl,?_⟩
   show(if decide (V.int ((3:Nat):Int)=V.int 3)=true then _ else _)
   rw[show decide (V.int ((3:Nat):Int)=V.int 3)=true from rfl]
   refine a9 ⟨by show 2 <= sizeLine;decide,fun t1 Fi=>⟨by show 1 <= sizeLine;decide,fun D hD y dy ny ye ne=>?_⟩⟩
   have s1:v5 H (upd H t1 (.tup [.int 0, .int 1])):=(v5.refl H).new Fi
   have s2:=s1.new (o := .lst [.ref t1]) hD
   have gt:(upd (upd H t1 (.tup [.int 0, .int 1])) D (.lst [.ref t1])) t1=some (.tup [.int 0, .int 1]):=by rw[ae (ai vz hD)];exact vz
   have s3:=fresh (C:=c.land) ny ye ne
   have hd:bM 2 [(0,1)] = .good:=rfl
   refine⟨y,dy,2,D,[.ref t1],[(0,1)],rfl,vz,vG.of (s3 _ _ vz),(.cons ⟨t1,rfl,s3 _ _ gt⟩ .nil),(by show 1 <= 1000;decide),(fun h=>by rw[hd]at h;cases h),(fun k h=>by rw[hd]at h;cases h),(fun k h=>by rw[hd]at h;cases h),fun _ H1 lt vF off hL=>⟨rfl,?_⟩⟩
   have s4:v5 H H1:=fun b o e=>off b o (ai (s2 _ _ e) ny) (s3 _ _ (s2 _ _ e))
   clear s1 s2 s3 gt
   refine⟨by show 1 <= sizeLine;decide,fun l1 Af=>⟨by show 4 <= sizeLine;decide,fun r1 xf=>⟨zero_le _,fun l2 yZ=>⟨by show 4 <= sizeLine;decide,fun r2 wC=>⟨by show 2 <= sizeLine;decide,fun D2 wZ z dz nz ndz nez=>?_⟩⟩⟩⟩⟩
   have a1:=(v5.refl H1).new (o := .lst [.int 0]) Af
   have a2:=(v5.refl _).new (o := .tup [.int 0, .int 1, .vJ, .ref l1]) xf
   have a3:=(v5.refl _).new (o := .lst []) yZ
   have a4:=(v5.refl _).new (o := .tup [.int 0, .int 0, .vJ, .ref l2]) wC
   have a5:=(v5.refl _).new (o := .lst [.ref r1, .ref r2]) wZ
   have a6:=fresh (C:=ts.told) nz ndz nez
   have b5:=a5.trans a6
   have b4:=a4.trans b5
   have b3:=a3.trans b4
   have b2:=a2.trans b3
   have b1:=a1.trans b2
   refine⟨z,dz,y,dy,lt,D2,2,vF,[.ref r1, .ref r2],[(0,1)],[⟨0,1,none,[0]⟩,⟨0,0,none,[]⟩],rfl,vz,⟨b1 _ _ hL.1,b1 _ _ hL.2.1,vV.same b1 hL.2.2⟩,vG.of (a6 _ _ vz), .cons ⟨r1,l1,rfl,b3 _ _ vz,b2 _ _ vz⟩ (.cons ⟨r2,l2,rfl,b5 _ _ vz,b4 _ _ vz⟩ .nil),(by show 2 <= 100000;decide),by decide,by decide,fun i h H' d K0 g=>?_,fun h=>absurd h (by decide)⟩
   have h1:bY 2 [(0,1)] [⟨0,1,none,[0]⟩,⟨0,0,none,[]⟩] 2=some 1:=by decide
   have h:bY 2 [(0,1)] [⟨0,1,none,[0]⟩,⟨0,0,none,[]⟩] 2=some i:=h
   rw[h1]at h
   cases h
   exact q H' _ (fun b o e=>K0 b o (ai (b5.trans (v5.refl _) |> fun _=>s4 _ _ e |> fun e=>(a5 _ _ (a4 _ _ (a3 _ _ (a2 _ _ (a1 _ _ e)))))) nz) (b1 _ _ (s4 _ _ e))) ⟨d,rfl,g⟩
  | 4,_,q =>
   refine⟨_,rfl,rfl,_,rfl,?_⟩
   show(if decide (V.int ((4:Nat):Int)=V.int 0)=true then _ else _)
   rw[show decide (V.int ((4:Nat):Int)=V.int 0)=false from rfl]
   refine av (av ⟨_,rfl,rfl,_,rfl,?_⟩)
   show(if decide (V.int ((4:Nat):Int)=V.int 0)=true then _ else _)
   rw[show decide (V.int ((4:Nat):Int)=V.int 0)=false from rfl]
   refine av ⟨_,rfl,rfl,_,rfl,?_⟩
   show(if decide (V.int ((4:Nat):Int)=V.int 1)=true then _ else _)
   rw[show decide (V.int ((4:Nat):Int)=V.int 1)=false from rfl]
   refine av ⟨_,rfl,rfl,_,rfl,?_⟩
   show(if decide (V.int ((4:Nat):Int)=V.int 2)=true then _ else _)
   rw[show decide (V.int ((4:Nat):Int)=V.int 2)=false from rfl]
   refine av ⟨_,rfl,rfl,_,rfl,?_⟩
   show(if decide (V.int ((4:Nat):Int)=V.int 3)=true then _ else _)
   rw[show decide (V.int ((4:Nat):Int)=V.int 3)=false from rfl]
   refine av ⟨_,rfl,rfl,_,rfl,?_⟩
   show(if decide (V.int ((4:Nat):Int)=V.int 4)=true then _ else _)
   rw[show decide (V.int ((4:Nat):Int)=V.int 4)=true from rfl]
   refine a9 ⟨by show 2 <= sizeLine;decide,fun D hD y dy ny ye ne=>fE hD ny ye ne fun H1 lx vK lt vF s1 hT=>?_⟩
   exact⟨y,lx,vK,lt,3,vF,_,_,0,1,rfl,hT.ta,by decide,rW,fun H' s'=>q H' none (s1.trans s') rfl⟩
noncomputable def mH (s:Stmt):Scope:=match s with
 | .Assign _ (.ListComp _ _ sc _) _=>sc
 | _=>fu
noncomputable def sE (s:Stmt):Scope:=match s with
 | .Assign _ (.Call _ [_, .ListComp _ _ sc _] _ _) _=>sc
 | _=>fu
abbrev uQ (i:Nat):Stmt:=(ax eL).getD i (.Pass ⟨0,0,0,0⟩)
abbrev GX:List Str:=["rows", "lanes", "ways", "land"]
inductive oY (c:Cs)(vs:List V)(H:Hp)(Q:VK)(E:XK):Prop
 | mk (D r:Addr) (t:Str) (n:Nat) (_:vs=[.ref D]) (_:H D=some (.lst [.ref r])) (_:H r=some (.lst [.str "places", .str t])) (_:ql t=some n) (_:t.length <= 100) (_:13 <= n) (_:∀ H',v5 H H'->E (.ref c.np) none H')
theorem kK {K:Frag}{D:Addr}{v:V}{g:TG}{tt:TT}{te:TE}{σ0:St}{H:Hp}{Q:VK}(hD:vG K H D [v])
  (turn:∀ N:Nat->List V->Hp->Prop,N 1 [] H->g v σ0 H fun σ2 H3=>tt σ2 H3 fun b H4=>if b=true then te σ2 H4 fun y H5=>N (0 + 1) ([] ++ [y]) H5 else N (0 + 1) [] H4)
  (q:∀ D1,H D1=none->Q (.ref D1) (upd H D1 (.lst []))):eh (sL K D) g tt te σ0 Q H:=by
 refine b7 1 (by rw[sizeLine_eq];decide) (fun i acc H'=>H' = H/\acc=[]) ⟨rfl,rfl⟩ (fun i acc H' h=>by rw[h.2];exact zero_le _) (fun i acc H' hi h=>?_) (fun acc H' h=>?_)
 ·obtain⟨rfl,rfl⟩:=h
  obtain rfl:i=0:=by omega
  refine⟨⟨_,v,hD,rfl⟩,fun x H2 y=>?_⟩
  obtain⟨rfl,y⟩:=y
  have hv:=y _ hD
  cases hv
  exact turn (fun i acc H'=>H' = H2/\acc=[]) ⟨rfl,rfl⟩
 ·obtain⟨rfl,rfl⟩:=h
  exact⟨⟨_,hD,le_refl _⟩,q⟩
theorem oB {K:Frag}{D:Addr}{g:TG}{tt:TT}{te:TE}{σ0:St}{H:Hp}{Q:VK}(hD:vG K H D [])
  (q:∀ D1,H D1=none->Q (.ref D1) (upd H D1 (.lst []))):eh (sL K D) g tt te σ0 Q H:=by
 refine b7 0 (by rw[sizeLine_eq];decide) (fun i acc H'=>H' = H/\acc=[]) ⟨rfl,rfl⟩ (fun i acc H' h=>by rw[h.2];exact zero_le _) (fun i acc H' hi h=>absurd hi (not_lt_zero _)) (fun acc H' h=>?_)
 obtain⟨rfl,rfl⟩:=h
 exact⟨⟨_,hD,le_refl _⟩,q⟩
theorem Ag:aj GX ["rows"] (ag eL):=L2.vX
theorem K1:wM GX (ag eL) (mH (uQ 0)) [] []:=L2.yb
theorem K2:wM GX (ag eL) (mH (uQ 1)) [] []:=L2.yb
theorem K3:wM GX (ag eL) (sE (uQ 2)) [] []:=L2.yb
theorem uO:(["words"]:List Str).Nodup:=by decide +kernel
theorem pU {c:Cs}{f fn fi:Addr}{fd dn di:FuncData}(F:vQ K "make_table" "make_table" eL f fd)(T:Txt mg)(LA:Kg P w K mg base (cx P w) 4 c.land "Land" ["self", "places", "lanes"] (gN K c) fi di)(MN:Fg P w K mg base aE 1 "number_of" ["word"] gL fn dn) :
  v7 P w K mg base (cx P w) 6 f fd ["rows"] (oY c):=by
 refine F.xY Ag (fun vs H Q E h=>?_) (fun cdv A outer s H vs Q E hr h=>?_)
 ·obtain⟨D,r,t,n,rfl,_⟩:=h
  rfl
 ·obtain⟨D,r,t,n,rfl,hD,K4,hn,hl,h13,q⟩:=h
  have xf:vE 1 _:=hr.mono (by decide)
  have zH:vE 5 _:=hr
  refine⟨_,ad (gU (i:=1) (own:=["words"]) (capN:=[]) (cap:=[]) K1 rfl Ag.nd rfl rfl (bN (pv 0))
    (fun C s' H' fp=>⟨a7 (i:=0) uO rfl (Or.inl rfl),eY (PW.pt (gS (ao aL (aR (show sK _ (ut K) from bP) (pv 0) af (fun _ _=>rfl)) aP (ap _)) (eX jy))),pv 0⟩))
   (ad (gU (i:=2) (own:=["words"]) (capN:=[]) (cap:=[]) K2 rfl Ag.nd rfl rfl (bN (pv 0))
    (fun C s' H' fp=>⟨a7 (i:=0) uO rfl (Or.inl rfl),eY (PW.pt (gS (ao aL (aR (show sK _ (ut K) from bP) (pv 0) af (fun _ _=>rfl)) aP (ap _)) (eX jy))),pv 0⟩))
   (ad (ar (i:=3) Ag.nd rfl (Or.inl rfl) (bn LA.M LA.G zH rfl LA.m LA.b .nil (v8.passes rfl) (aa (aq MN.G xf rfl MN.m MN.kp MN.b .nil aw (aa (aR bP (aR bP (pv 0) af (fun _ _=>rfl)) (C9 tI af) (fun _ _=>rfl)) ac))
    (aa (bx (own:=["words"]) (capN:=[]) (cap:=[]) K3 rfl (bN (pv 1)) (fun C s' H' fp=>⟨a7 (i:=0) uO rfl (Or.inl rfl),bG,pG⟩)) ac))))
   (ah aB))),?_⟩
  have fresh:∀ {H:Hp}{C x dx:Addr},H x=none->H dx=none->dx ≠ x->v5 H (upd (upd H dx (.own x)) x (.ins C dx [])):=fun nx xE ne=>v5.new (v5.new (v5.refl _) xE) (by rw[ae (Ne.symm ne)];exact nx)
  refine⟨_,rfl,D,rfl,⟨_,vG.of hD⟩,kK (vG.of hD) (fun N hN=>?_) fun D1 Fj=>?_⟩
  ·refine⟨_,rfl,r,_,0,_,rfl,rfl,vG.of K4,az (j:=0) rfl,rfl,_,rfl,?_⟩
   rw[pe (by decide)]
   exact av (av hN)
  have s1:=(v5.refl H).new (o := .lst []) Fj
  have g1:(upd H D1 (.lst [])) D1=some (.lst []):=vz
  show im 1 (V.ref D1) _ (upd H D1 (.lst [])) _
  generalize upd H D1 (.lst [])=H1 at s1 g1 ⊢
  refine⟨_,rfl,D,rfl,⟨_,vG.of (s1 _ _ hD)⟩,kK (vG.of (s1 _ _ hD)) (fun N hN=>?_) fun D2 wZ=>?_⟩
  ·refine⟨_,rfl,r,_,0,_,rfl,rfl,vG.of (s1 _ _ K4),az (j:=0) rfl,rfl,_,rfl,?_⟩
   rw[pe (by decide)]
   exact av (av hN)
  have s2:=(v5.refl H1).new (o := .lst []) wZ
  have g2:=s2 _ _ g1
  show im 2 (V.ref D2) _ (upd H1 D2 (.lst [])) _
  generalize upd H1 D2 (.lst [])=H2 at s2 g2 ⊢
  have K5:=s1.trans s2
  refine⟨_,rfl,D,_,0,_,rfl,rfl,vG.of (K5 _ _ hD),az (j:=0) rfl,_,rfl,r,_,-1, .str t,rfl,rfl,vG.of (K5 _ _ K4),rfl, .mk t rfl (by omega) fun H3 s3=>?_⟩
  rw[hn]
  refine⟨_,rfl,D1,rfl,⟨_,vG.of (s3 _ _ g2)⟩,oB (vG.of (s3 _ _ g2)) fun D3 zX y dy ny ye ne=>?_⟩
  have s4:=(v5.refl H3).new (o := .lst []) zX
  have s5:=fresh (C:=c.land) ny ye ne
  have hd:bM (n:Int) [] = .places:=by unfold bM;rw[if_pos (decide_eq_false (by omega))]
  exact⟨y,dy,n,D3,[],[],rfl,vz,vG.of (s5 _ _ vz), .nil,(by show 0 <= 1000;decide),fun _ H' s'=>q H' (K5.trans (s3.trans (s4.trans (s5.trans s')))),(fun k h=>by rw[hd]at h;cases h),(fun k h=>by rw[hd]at h;cases h),(fun h=>by rw[hd]at h;cases h)⟩
noncomputable def bV:Str:=⟨#[10]⟩
noncomputable def NW (H:Hp)(v:V)(ws:List Str):Prop:=∃ a,v = .ref a/\H a=some (.lst (ws.map V.str))
abbrev yR (H:Hp):List V->List (List Str)->Prop:=Paired (NW H)
theorem yR.same {H H':Hp}(s:v5 H H'):∀ {vs:List V}{ws:List (List Str)},yR H vs ws->yR H' vs ws:=fun v9=>by
 induction v9 with
 | nil=>exact .nil
 | cons zz r ih=>obtain⟨a,e,h⟩:=zz;exact .cons ⟨a,e,s _ _ h⟩ ih
theorem yR.snoc {H:Hp}{v:V}{x:List Str}(h:NW H v x):∀ {vs:List V}{ws:List (List Str)},yR H vs ws->yR H (vs ++ [v]) (ws ++ [x]):=fun v9=>by
 induction v9 with
 | nil=>exact .cons h .nil
 | cons a r ih=>exact .cons a ih
inductive gK (K:Frag)(vs:List V)(H:Hp)(Q:VK)(E:XK):Prop
 | mk (t:Str) (_:vs=[.str t]) (_:t.length <= 4000000) (_:(Txt.split t bV).length <= 1000000) (_:∀ r ∈ Txt.split t bV,r.length <= 1000000/\(Txt.split r gi).length <= 1000000) (_:∀ (D:Addr)(us:List V)(H':Hp),v5 H H'->H' D=some (.lst us)->yR H' us ((Txt.split t bV).map fun r=>Txt.split r gi)->Q (.ref D) H')
noncomputable def rf (s:Stmt):Scope:=match s with
 | .Return (some (.ListComp _ _ sc _)) _=>sc
 | _=>fu
theorem K6:aj ["text"] ["text"] (ag eT):=L2.vX
theorem K7:wM ["text"] (ag eT) (rf ((ax eT).getD 1 (.Pass ⟨0,0,0,0⟩))) [] []:=L2.yb
theorem K8:(["row"]:List Str).Nodup:=by decide +kernel
theorem oa {f fw:Addr}{fd dw:FuncData}(F:vQ K "rows_of" "rows_of" eT f fd)(T:Txt mg)(KA:kitOne K (.type "str") (.type "str")=some true)(mw:mg "words_of" = some (.ref fw))(kw:keepIn K (.ref fw)=true)(bw:Binds K dw ["row"] [])(Gw:v7 P w K mg base aE 1 fw dw ["row"] gs):v7 P w K mg base aE 2 f fd ["text"] (gK K):=by
 refine F.ok K6 (fun vs H Q E h=>?_) (fun cdv A outer s H vs Q E hr h=>?_)
 ·obtain⟨x,rfl,_⟩:=h;rfl
 ·refine⟨_,ad (a8 (aU (bu (al dc rfl T.wI PyProof.Rows.boot_isinstance (aa (pv 0) (aa (bD (v := .ty "str") rfl T.str PySem.Pv.boot_str rfl) ac))))) (ah aB) am)
   (ah (ay (bx (own:=["row"]) (capN:=[]) (cap:=[]) K7 rfl (bN (fZ PySem.F.plainAttrs_str PySem.F.slot_str_split PySem.F.type_str_split k8 (pv 0) (aa aP ac)))
    (fun C s' H' fp=>⟨a7 (i:=0) K8 rfl (Or.inl rfl),bG,aq Gw hr rfl mw kw bw .nil aw (aa (pv 0) ac)⟩)))),?_⟩
  obtain⟨x,rfl,h1,h2,h3,q⟩:=h
  refine⟨_,rfl,_,_,_,_,rfl, .str _,KA,_,rfl,av ?_⟩
  refine⟨_,rfl,rfl,x,bV,rfl,rfl,rfl,h1,h2,fun D hD=>?_⟩
  have s1:=(v5.refl H).new (o := .lst ((Txt.split x bV).map V.str)) hD
  have g1:(upd H D (.lst ((Txt.split x bV).map V.str))) D=some (.lst ((Txt.split x bV).map V.str)):=vz
  refine⟨D,rfl,⟨_,vG.of g1⟩,?_⟩
  dsimp only
  generalize upd H D (.lst ((Txt.split x bV).map V.str))=H1 at s1 g1 ⊢
  generalize Txt.split x bV=rs at *
  refine b7 rs.length (by rw[sizeLine_eq];omega) (fun i acc H'=>v5 H1 H'/\yR H' acc ((rs.take i).map fun r=>Txt.split r gi)) ⟨v5.refl _, .nil⟩ (fun i acc H' h=>by rw[Paired.length h.2,length_map];exact length_take_le _ _) (fun i acc H' hi h=>?_) (fun acc H' h=>?_)
  ·obtain⟨s2,hw⟩:=h
   have hri:=List.getElem?_eq_getElem hi
   refine⟨⟨_,V.str rs[i],vG.of (s2 _ _ g1),by rw[List.getElem?_map,hri];rfl⟩,fun v H2 y=>?_⟩
   obtain⟨rfl,y⟩:=y
   have hv:=y _ (vG.of (s2 _ _ g1))
   rw[List.getElem?_map,hri]at hv
   cases hv
   obtain⟨h4,h5⟩:=h3 _ (List.getElem_mem hi)
   refine⟨_,rfl,_,rfl,h4,h5,fun D2 wZ=>?_⟩
   have s3:=(v5.refl H2).new (o := .lst ((Txt.split rs[i] gi).map V.str)) wZ
   refine⟨s2.trans s3,?_⟩
   rw[take_succ,hri,map_append]
   exact yR.snoc ⟨D2,rfl,vz⟩ (yR.same s3 hw)
  ·obtain⟨s2,hw⟩:=h
   rw[take_length]at hw
   refine⟨⟨_,vG.of (s2 _ _ g1),by rw[length_map];exact le_refl _⟩,fun D2 wZ=>?_⟩
   have s3:=s2.new (o := .lst acc) wZ
   exact q D2 acc _ (s1.trans s3) vz (yR.same ((v5.refl H').new wZ) hw)
noncomputable def j0 (n:Nat):Str:=Str.ofString "places " ++ b9 n
theorem lJ (n:Nat):tl (j0 n)=tl (Str.ofString "places") ++ 32 :: tl (b9 n):=by
 unfold j0
 rw[tL,show tl (Str.ofString "places ")=tl (Str.ofString "places") ++ [32] from by decide +kernel,append_assoc]
 rfl
theorem qg {n c:Nat}(h:c < 48∨57 < c):c ∉ tl (b9 n):=rV h
theorem em (n:Nat):Txt.split (j0 n) gi=[Str.ofString "places",b9 n]:=by
 have e:j0 n=Txt.join ⟨#[32]⟩ [Str.ofString "places",b9 n]:=by
  refine oQ ?_
  rw[lJ]
  exact(e7 32 [Str.ofString "places",b9 n]).symm
 rw[e]
 refine gI (by decide) (by simp) fun y hy=>?_
 simp only[mem_cons,not_mem_nil,or_false]at hy
 rcases hy with rfl | rfl
 ·decide +kernel
 ·exact qg (.inl (by decide))
theorem gW (n:Nat):Txt.split (j0 n) bV=[j0 n]:=by
 have e:Txt.split (Txt.join ⟨#[10]⟩ [j0 n]) ⟨#[10]⟩ = [j0 n]:=by
  refine gI (by decide) (by simp) fun y hy=>?_
  obtain rfl:=mem_singleton.mp hy
  show 10 ∉ tl (j0 n)
  rw[lJ]
  intro z
  rcases mem_append.mp z with z | z
  ·exact absurd z (by decide +kernel)
  ·rcases mem_cons.mp z with z | z
   ·cases z
   ·exact qg (.inl (by decide)) z
 have e2:Txt.join ⟨#[10]⟩ [j0 n]=j0 n:=by
  refine oQ ?_
  exact e7 10 [j0 n]
 rw[e2]at e
 exact e
theorem mR {n:Nat}(h:n < 10 ^ 60):(j0 n).length <= 70:=by
 rw[oP,lJ,length_append,length_cons,← oP (b9 n)]
 have:=dW (k:=60) (by decide) h
 have h6:(tl (Str.ofString "places")).length=6:=by decide +kernel
 omega
inductive fF (o:Ot)(vs:List V)(H:Hp)(Q:VK)(E:XK):Prop
 | mk (n:Nat) (_:vs=[.str (j0 n)]) (_:13 <= n) (_:n < 10 ^ 60) (_:∀ H',v5 H H'->E (.ref o.tx) none H')
abbrev NRt:List Str:=["text", "rows", "table"]
theorem B8:aj NRt ["text"] (ag gO):=L2.vX
theorem lN {c:Cs}{o:Ot}{yc f fr fm:Addr}{fd dr dm:FuncData}(F:vQ K "read_table" "read_table" gO f fd)(X:kY K mg "NoText" o.tx)(mY:mg "YardError" = some (.ref yc))(hx:PySem.W.exmOne K (.ref c.np) (.ref yc)=some true)
  (MR:Fg P w K mg base aE 2 "rows_of" ["text"] (gK K) fr dr) (MM:Fg P w K mg base (cx P w) 6 "make_table" ["rows"] (oY c) fm dm) :
  v7 P w K mg base (BU P w) 7 f fd ["text"] (fF o):=by
 refine F.xY B8 (fun vs H Q E h=>?_) (fun cdv A outer s0 H vs Q E hr h=>?_)
 ·obtain⟨n,rfl,_⟩:=h
  rfl
 ·obtain⟨n,rfl,h13,Cm,q⟩:=h
  have wC:vE 2 _:=hr.mono (by decide)
  refine⟨_,ad (ar (i:=1) B8.nd rfl (Or.inl rfl) (aq MR.G wC rfl MR.m MR.kp MR.b .nil aw (aa (pv 0) ac)))
   (ad (pB rfl rfl rfl mY (vh (i:=2) B8.nd rfl (Or.inl rfl) (kj MM.G hr rfl MM.m MM.kp MM.b .nil rfl (aa (pv 1) ac))) X.x v8 nT (fun ea oe=>aZ X.x X.k rfl rfl X.m (aa aP ac)))
   (ad aB (ah aB))),?_⟩
  have hl:=mR Cm
  have hn:=dW (k:=60) (by decide) Cm
  refine⟨_,rfl, .mk (j0 n) rfl (by omega) (by rw[gW];show 1 <= 1000000;decide) (fun r hr=>?_) fun D us H1 s1 gD hW=>?_⟩
  ·rw[gW]at hr
   obtain rfl:=mem_singleton.mp hr
   exact⟨by omega,by rw[em];show 2 <= 1000000;decide⟩
  rw[gW]at hW
  have hW:yR H1 us [[Str.ofString "places",b9 n]]:=by
   rw[← em n];exact hW
  cases hW with
  | cons a r =>
   cases r
   obtain⟨b,rfl,hb⟩:=a
   refine⟨_,rfl, .mk D b (b9 n) n rfl gD hb (rX Cm) (by omega) h13 fun H' s'=>⟨hx,fun ea oe vs _ _ _ _=>⟨by show 1 <= sizeLine;decide,q _ (s1.trans s')⟩⟩⟩
structure Dk (K:Frag)(C:Addr):Prop where
 cl:xh K C
 n1:vB K C "yard"
noncomputable def KC:Fs:=[("yard", .vJ)]
inductive lz (C:Addr)(vs:List V)(H:Hp)(Q:VK)(E:XK):Prop
 | mk (x dx:Addr) (_:vs=[.ref x]) (_:H x=some (.ins C dx [])) (_:Q .vJ (upd H x (.ins C dx KC)))
inductive gM (vs:List V)(H:Hp)(Q:VK)(E:XK):Prop
 | mk (D:Addr) (t:Str) (_:vs=[.ref D]) (_:H D=some (.lst [.str "places", .str t])) (_:Q (.str "places") H)
inductive gJ (C:Addr)(o:Ot)(vs:List V)(H:Hp)(Q:VK)(E:XK):Prop
 | mk (x dx:Addr) (n:Nat) (_:vs=[.ref x, .str (j0 n)]) (_:H x=some (.ins C dx KC)) (_:n < 10 ^ 60) (_:∀ H',v5 H H'->E (.ref o.rw) none H')
theorem KG:aj ["self"] ["self"] (ag p0):=L2.vX
theorem rQ {C f:Addr}{fd:FuncData}(F:vQ K "__init__" "Desk.__init__" p0 f fd)(L:Dk K C):v7 P w K mg base aE 1 f fd ["self"] (lz C):=by
 refine F.ok KG (fun vs H Q E h=>?_) (fun cdv A outer s H vs Q E hr h=>?_)
 ·obtain⟨x,dx,rfl,_⟩:=h
  rfl
 ·obtain⟨x,dx,rfl,hx,q⟩:=h
  refine⟨_,ah (aV (pv 0) bK rfl),?_⟩
  exact⟨_,rfl,x,C,dx,[],rfl,hx,L.cl,L.n1,by show 0 < 1000;decide,q⟩
theorem KH:aj ["words"] ["words"] (ag jx):=L2.vX
theorem oi {f:Addr}{fd:FuncData}(F:vQ K "name_of" "name_of" jx f fd):v7 P w K mg base aE 1 f fd ["words"] gM:=by
 refine F.ok KH (fun vs H Q E h=>?_) (fun cdv A outer s H vs Q E hr h=>?_)
 ·obtain⟨D,t,rfl,_⟩:=h
  rfl
 ·obtain⟨D,t,rfl,hD,q⟩:=h
  refine⟨_,ah (ay (fj (ao aL (aR bP (pv 0) af (fun _ _=>rfl)) aP (ap _)) pG (aR bP (pv 0) af (fun _ _=>rfl)))),?_⟩
  refine⟨_,rfl,D,_,0,_,rfl,rfl,vG.of hD,az (j:=0) rfl,rfl,_,rfl,?_⟩
  rw[pe (by decide)]
  exact av ⟨_,rfl,D,_,0,_,rfl,rfl,vG.of hD,az (j:=0) rfl,q⟩
abbrev NSy:List Str:=["self", "row", "words", "name", "behind"]
theorem B9:aj NSy ["self", "row"] (ag uk):=L2.vX
theorem uE {C aF f fw fn:Addr}{o:Ot}{ks:List Str}{fd dw dn:FuncData}(F:vQ K "say" "Desk.say" uk f fd)(T:Txt mg)(KA:kitOne K (.type "str") (.type "str")=some true)(X:kY K mg "NoRow" o.rw)
  (MW:Fg P w K mg base aE 1 "words_of" ["row"] gs fw dw) (MN:Fg P w K mg base aE 1 "name_of" ["words"] gM fn dn) (mF:mg "FORMS" = some (.ref aF)) (hF:sM P w K aF ks) (hk:("places":Str) ∉ ks) :
  v7 P w K mg base (cx P w) 2 f fd ["self", "row"] (gJ C o):=by
 refine F.xY B9 (fun vs H Q E h=>?_) (fun cdv A outer s H vs Q E hr h=>?_)
 ·obtain⟨x,dx,n,rfl,_⟩:=h
  rfl
 ·obtain⟨x,dx,n,rfl,hx,Cm,q⟩:=h
  refine⟨_,ad (a8 (aU (bu (al dc rfl T.wI PyProof.Rows.boot_isinstance (aa (pv 1) (aa (bD (v := .ty "str") rfl T.str PySem.Pv.boot_str rfl) ac))))) (ah aB) am)
   (ad (ar (i:=2) B9.nd rfl (Or.inl rfl) (aq MW.G hr rfl MW.m MW.kp MW.b .nil aw (aa (pv 1) ac)))
   (ad (ar (i:=3) B9.nd rfl (Or.inl rfl) (aq MN.G hr rfl MN.m MN.kp MN.b .nil aw (aa (pv 2) ac)))
   (ad (a8 (PW.pt (eW (ao nW (pv 3) (aA (v := .ref aF) rfl mF rfl) (by with_unfolding_all rfl)) (dP jy))) (ah (aO rfl X.x v8 (aZ X.x X.k rfl rfl X.m (aa aP ac)))) am)
   (ad aB (ah aB))))),?_⟩
  have hl:=mR Cm
  refine⟨_,rfl,_,_,_,_,rfl, .str _,KA,_,rfl,av ?_⟩
  refine⟨_,rfl, .mk (j0 n) rfl (by omega) (by rw[em];show 2 <= 1000000;decide) fun D hD=>?_⟩
  rw[em]
  have s1:=(v5.refl H).new (o := .lst ([Str.ofString "places",b9 n].map V.str)) hD
  have gD:(upd H D (.lst ([Str.ofString "places",b9 n].map V.str))) D=some (.lst [.str "places", .str (b9 n)]):=vz
  show im 2 (V.ref D) _ (upd H D (.lst ([Str.ofString "places",b9 n].map V.str))) _
  generalize upd H D (.lst ([Str.ofString "places",b9 n].map V.str))=H1 at s1 gD ⊢
  refine⟨_,rfl, .mk D (b9 n) rfl gD ?_⟩
  refine⟨_,rfl, "places",aF,ks,rfl,rfl,hF,_,rfl,?_⟩
  rw[decide_eq_false hk]
  exact a9 (a9 ⟨by show 1 <= sizeLine;decide,q H1 s1⟩)
noncomputable def tV (m:Int)(tb:TS):TS:=fun D σ H=>∃ k:Int,σ[0]? = some (some (.int k))/\if k=m then tb D σ H else D.nx σ H
theorem dq {X:Cx}{st:Stmt}{m:Int}{tb:TS}(h:PS X st (C2 (sR (C8 Ms (tP 0) (tC (V.int m)))) tb sT)):PS X st (tV m tb):=fun pins s σ H D I ⟨k,e,q⟩=>h pins s σ H D I ⟨_,e,rfl,_,rfl,by
 show(if decide (V.int k=V.int m)=true then _ else _)
 rw[cu]
 by_cases hk:k=m
 ·rw[decide_eq_true hk];rw[if_pos hk]at q;exact a9 q
 ·rw[decide_eq_false hk];rw[if_neg hk]at q;exact av q⟩
structure BrM (P:Program)(w:World)(K:Frag)(mg:Str->Option Value)(base:Heap)(ys:Ys)(mv:Addr)(f:Addr)(d:FuncData):Prop where
 m:eA K ys.vZ "bring" f
 b:Binds K d ["self"] []
 G:v7 P w K mg base (cx P w) 1 f d ["self"] (ju ys.vZ mv)
inductive jq (cs:Nat->Addr)(vs:List V)(H:Hp)(Q:VK)(E:XK):Prop
 | mk (k:Nat) (u:Int) (_:vs=[.int k, .int u]) (_:k < 14) (_:Ff cs k u E H)
theorem o0 {m:Nat}{gv lv wv:V}(h:gb gv 0 2=false):dS 3 m6 m (.int 0) gv lv wv = .place:=by
 unfold dS
 rw[if_pos]
 show(gb (.int 0) 0 2 && gb gv 0 2)=false
 rw[h];rfl
theorem sw {m:Nat}{lv wv:V}(h:gb lv 1 60=false):dS 3 m6 m (.int 0) (.int 1) lv wv = .length:=by
 unfold dS
 rw[if_neg (by decide),if_pos h]
theorem qA {m:Nat}{wv:V}(h:El wv=false):dS 3 m6 m (.int 0) (.int 1) (.int 1) wv = .word:=by
 unfold dS
 rw[if_neg (by decide),if_neg (by decide),if_pos h]
theorem su {m:Nat}{i:Int}(h:0 <= i)(h2:i < 3):dS 3 m6 m (.int i) (.int i) (.int 1) (.int 0) = .way:=by
 unfold dS
 have e:gb (.int i) 0 (((3:Nat):Int) - 1)=true:=decide_eq_true (by omega)
 rw[if_neg (by rw[e];decide),if_neg (by decide),if_neg (by decide +kernel),if_pos (.inl rfl)]
theorem p60:(0:Int) <= 10 ^ (60:Int).toNat:=by decide +kernel
theorem mQ {n:Nat}(h:n < 10 ^ 60):(Str.ofString "places ").length + (b9 n).length <= sizeLine:=by
 have h1:(Str.ofString "places ").length=7:=by decide +kernel
 have h2:=dW (k:=60) (m:=n) (by decide) h
 have h3:70 <= sizeLine:=by decide
 omega
theorem KI:sO 10 60:=⟨by decide,by decide,by decide⟩
theorem aC {m k:Int}{tb:TS}{D:_}{σ:St}{H:Hp}(e:σ[0]? = some (some (.int k)))(h:k ≠ m)(q:D.nx σ H):tV m tb D σ H:=⟨k,e,by rw[if_neg h];exact q⟩
theorem cb {m k:Int}{tb:TS}{D:_}{σ:St}{H:Hp}(e:σ[0]? = some (some (.int k)))(h:k=m)(q:tb D σ H):tV m tb D σ H:=⟨k,e,by rw[if_pos h];exact q⟩
theorem v5.none {H H1:Hp}{b:Addr}(s:v5 H H1)(h:H1 b=none):H b=none:=by
 cases e:H b with
 | none=>rfl
 | some u=>rw[s _ _ e]at h;cases h
structure tE (P:Program)(w:World)(K:Frag)(mg:Str->Option Value)(base:Heap)(c:Cs)(ts:Ts)(ys:Ys)(x:Xs)(o:Ot)(dk:Addr):Prop where
 Y:sH K ys
 D:Dk K dk
 W:∃ f d,Wy K ts.tree f d (JY ts)
 LL:∃ f d,Fg P w K mg base (cx P w) 8 "_law_land" ["_law_which", "_law_cell"] (jo (dD c ts x o)) f d
 MT:∃ f d,GU P w K mg base c ts f d
 MY:∃ f d,Kk P w K mg base c ts ys o.rm f d
 LY:∃ f d,Kn P w K mg base c ts ys f d
 MP:∃ f d,Km P w K mg base c ts ys x f d
 LF:∃ f d,Fg P w K mg base (cx P w) 9 "_law_full" [] (jp x) f d
 ML:∃ f d,Kg P w K mg base aE 1 ys.vZ "Lane" ["self", "room"] (mD ys.vZ) f d
 MB:∃ f d,BrM P w K mg base ys o.mv f d
 MD:∃ f d,Mg P w K mg base (cx P w) 8 ys.vC "do" ["self", "move"] (ua K ys o.mv) f d
 RT:∃ f d,Fg P w K mg base (BU P w) 7 "read_table" ["text"] (fF o) f d
 DK:∃ f d,Kg P w K mg base aE 1 dk "Desk" ["self"] (lz dk) f d
 SY:∃ f d,Mg P w K mg base (cx P w) 2 dk "say" ["self", "row"] (gJ dk o) f d
theorem KJ:aj ["_law_which", "_law_cell"] ["_law_which", "_law_cell"] (ag lC):=L2.vX
theorem pY {c:Cs}{ts:Ts}{ys:Ys}{x:Xs}{o:Ot}{dk f:Addr}{fd:FuncData}(F:vQ K "_law_deed" "_law_deed" lC f fd)(T:Txt mg)(Z:tE P w K mg base c ts ys x o dk) :
  v7 P w K mg base (BU P w) 10 f fd ["_law_which", "_law_cell"] (jq (dD c ts x o)):=by
 obtain⟨f0,d0,W⟩:=Z.W
 obtain⟨f1,d1,LL⟩:=Z.LL
 obtain⟨f2,d2,MT⟩:=Z.MT
 obtain⟨f3,d3,MY⟩:=Z.MY
 obtain⟨f4,d4,LY⟩:=Z.LY
 obtain⟨f5,d5,MP⟩:=Z.MP
 obtain⟨f6,d6,LF⟩:=Z.LF
 obtain⟨f7,d7,ML⟩:=Z.ML
 obtain⟨f8,d8,MB⟩:=Z.MB
 obtain⟨f9,d9,MD⟩:=Z.MD
 obtain⟨KL,d10,RT⟩:=Z.RT
 obtain⟨Dc,d11,DK⟩:=Z.DK
 obtain⟨KN,d12,SY⟩:=Z.SY
 obtain⟨tk,bp⟩:=MP.b
 have Y:=Z.Y
 refine F.xY KJ (fun vs H Q E h=>?_) (fun cdv A outer s H vs Q E hr h=>?_)
 ·obtain⟨k,u,rfl,_⟩:=h
  rfl
 ·obtain⟨k,u,rfl,hk,q⟩:=h
  have hr9:vE 9 _:=hr
  have Ae:vE 8 _:=hr.mono (by decide)
  have GV:vE 7 _:=hr.mono (by decide)
  have zH:vE 5 _:=hr.mono (by decide)
  have y8:vE 4 _:=hr.mono (by decide)
  have wC:vE 2 _:=hr.mono (by decide)
  have xf:vE 1 _:=hr.mono (by decide)
  refine⟨_,ad (a8 (ao kx (pv 0) af (ap _)) (ah (aH (aq LL.G Ae rfl LL.m LL.kp LL.b .nil (v8.up.passes rfl) (aa (pv 0) (aa (pv 1) ac))))) am)
   (ad (dq (a8 (ao aL (pv 0) af (ap _)) (ah (aH (bn MY.M MY.G zH rfl MY.m MY.b0 .nil (v8.up.passes rfl) (aa (bn MT.M MT.G GV rfl MT.m MT.b .nil (v8.up.passes rfl) (aa (aD (aa af (aa af ac))) ac))
     (aa (aD (aa af (aa af (aa af (aa (au bS af (au bg (pv 1) (au cy af af))) ac))))) ac))))) am))
   (ad (dq (a8 (ao aL (pv 0) af (ap _)) (ah (aH (bj (ck LY.G Ae rfl LY.m LY.k LY.b .nil aw) Y.cl MP.M MP.G y8 bp (.cons (show RelV (.int 0) (.int 0 tk) from ⟨tk,rfl⟩) .nil) (v8.up.passes rfl) (aa af (aa (au bS af (au bg (pv 1) (au cy af af))) (aa af ac)))))) am))
   (ad (dq (a8 (ao aL (pv 0) af (ap _)) (ah (aH (bj (ck LY.G Ae rfl LY.m LY.k LY.b .nil aw) Y.cl MP.M MP.G y8 bp (.cons (show RelV (.int 0) (.int 0 tk) from ⟨tk,rfl⟩) .nil) (v8.up.passes rfl) (aa af (aa af (aa (au bS af (au bg (pv 1) (au cy af af))) ac)))))) am))
   (ad (dq (a8 (ao aL (pv 0) af (ap _)) (ah (aH (bj (ck LY.G Ae rfl LY.m LY.k LY.b .nil aw) Y.cl MP.M MP.G y8 MP.b0 .nil (v8.up.passes rfl) (aa af (aa af (aa af (aa (au bS (au cy af af) (au bg (pv 1) (au cy af af))) ac))))))) am))
   (ad (dq (a8 (ao aL (pv 0) af (ap _)) (ah (aH (bj (ck LY.G Ae rfl LY.m LY.k LY.b .nil aw) Y.cl MP.M MP.G y8 bp (.cons (show RelV (.int 0) (.int 0 tk) from ⟨tk,rfl⟩) .nil) (v8.up.passes rfl) (aa (au bg (pv 1) af) (aa (au bg (pv 1) af) (aa af ac)))))) am))
   (ad (dq (a8 (ao aL (pv 0) af (ap _)) (ah (aH (ck LF.G hr9 rfl LF.m LF.kp LF.b .nil (v8.up.passes rfl)))) am))
   (ad (a8 (PW.pt (gS (ao aL (pv 0) af (ap _)) (eX (ao aL (au bg (pv 1) af) af (ap _))))) (ah (aH (kl (bn ML.M ML.G wC rfl ML.m ML.b .nil aw (aa af ac)) Y.L.cl MB.m MB.G xf MB.b .nil (v8.up.passes rfl)))) am)
   (ad (dq (a8 (ao aL (pv 0) af (ap _)) (ah (aH (bj (ck LY.G Ae rfl LY.m LY.k LY.b .nil aw) Y.cl MD.m MD.G Ae MD.b .nil (v8.up.passes rfl) (aa (bR (aa aP (aa (au bg (pv 1) af) ac))) ac)))) am))
   (ad (dq (a8 (ao aL (pv 0) af (ap _)) (ah (aH (aq RT.G GV rfl RT.m RT.kp RT.b .nil (v8.passes rfl) (aa (au gX aP (bC dF rfl T.str PySem.Pv.boot_str (aa (au bS af (au bg (pv 1) (au cy af af))) ac))) ac)))) am))
   (ah (dq (a8 (ao aL (pv 0) af (ap _)) (ah (aH (bj (pH DK.M DK.G wC rfl DK.m DK.b .nil aw) Z.D.cl SY.m SY.G wC SY.b .nil (v8.up.passes rfl) (aa (au gX aP (bC dF rfl T.str PySem.Pv.boot_str (aa (au bg (pv 1) (au cy af af)) ac))) ac)))) am)))))))))))),?_⟩
  have e5:k < 5∨k=5∨k=6∨k=7∨k=8∨k=9∨k=10∨k=11∨k=12∨k=13:=by omega
  have m20:=emod_nonneg u (show (10:Int) ^ (20:Int).toNat ≠ 0 by decide +kernel)
  have l20:=emod_lt_of_pos u (show (0:Int) < (10:Int) ^ (20:Int).toNat by decide +kernel)
  have fresh:∀ {H:Hp}{C x dx:Addr},H x=none->H dx=none->dx ≠ x->v5 H (upd (upd H dx (.own x)) x (.ins C dx [])):=fun nx xE ne=>v5.new (v5.new (v5.refl _) xE) (by rw[ae (Ne.symm ne)];exact nx)
  refine⟨_,rfl,_,_,rfl,rfl,_,rfl,?_⟩
  show(if decide ((k:Int) < 5)=true then _ else _)
  rcases e5 with h5 | rfl | rfl | rfl | rfl | rfl | rfl | rfl | rfl | rfl
  ·rw[decide_eq_true (by omega)]
   exact a9 ⟨_,rfl,_,rfl, .mk k u rfl h5 q⟩
  ·refine av ?_
   refine cb rfl rfl ?_
   refine⟨by show 2 <= sizeLine;decide,fun D hD x1 zw nx1 KO ne1=>fE hD nx1 KO ne1 fun H1 lx vK lt vF s1 hT=>?_⟩
   refine⟨_,rfl,_,_,rfl,rfl,kI,_,_,rfl,rfl,tj,_,_,rfl,rfl,by show 4 <= sizeLine;decide,fun D2 wZ=>?_⟩
   refine fun y dy ny ye Kl=>?_
   have s2:=(v5.refl H1).new (o := .lst [.int 1, .int 1, .int 1, .int (61 + u % 10 ^ (20:Int).toNat)]) wZ
   have s3:=fresh (C:=ys.vC) ny ye Kl
   have bad:mV (aT gm 2).length [V.int 1, .int 1, .int 1, .int (61 + u % 10 ^ (20:Int).toNat)]=false:=by
    have:gb (.int (61 + u % 10 ^ (20:Int).toNat)) 1 60=false:=decide_eq_false (by omega)
    unfold mV
    rw[all_cons,all_cons,all_cons,all_cons,this,Bool.false_and,Bool.and_false,Bool.and_false,Bool.and_false,Bool.and_false]
   refine⟨y,dy,x1,lx,vK,lt,3,vF,aT gm 2,m6, .ref D2,[.int 1, .int 1, .int 1, .int (61 + u % 10 ^ (20:Int).toNat)],rfl,vz,hT.tb.keep W (v5.wj (s2.trans s3)), .inr ⟨D2,rfl, .inl (vG.of (s3 _ _ vz)),by show 4 <= 1000;decide,?_,fun _ H' o=>?_⟩,fun h=>?_⟩
   ·intro v hv
    simp only[mem_cons,not_mem_nil,or_false]at hv
    rcases hv with rfl | rfl | rfl | rfl<;>exact .int _
   ·refine q H' none (v5.AR ((s1.trans s2).trans s3) o ?_) rfl
    intro b hb
    rw[mem_singleton.mp hb]
    exact v5.none (s1.trans s2) ny
   ·rw[bad]at h;cases h
  ·refine av ?_
   refine aC rfl (by decide) ?_
   refine cb rfl rfl ?_
   refine⟨rfl,fun y H1 hY=>?_⟩
   obtain⟨dy,tb,ro,la,le,li,dn,lx,vK,lt,vF,hn,s1,hY,hT⟩:=hY
   refine⟨y,dy,_,rfl,hY.ins,rfl,_,rfl,_,_,rfl,rfl,kI,_,_,rfl,rfl,tj,_,_,rfl,rfl,y,dy,tb,ro,la,le,li,dn,lx,vK,lt,3,vF,aT gm 2,m6,AQ, .int 0, .int (3 + u % 10 ^ (20:Int).toNat), .int 1, .int 0,rfl,hY,hT, .int _, .int _, .int _, .int _,by decide,by decide,?_⟩
   rw[o0 (show gb (.int (3 + u % 10 ^ (20:Int).toNat)) 0 2=false from decide_eq_false (by omega))]
   exact⟨fun _ H' s'=>q H' none (s1.trans s') rfl,nofun,nofun,nofun,nofun,nofun⟩
  ·refine av ?_
   refine aC rfl (by decide) ?_
   refine aC rfl (by decide) ?_
   refine cb rfl rfl ?_
   refine⟨rfl,fun y H1 hY=>?_⟩
   obtain⟨dy,tb,ro,la,le,li,dn,lx,vK,lt,vF,hn,s1,hY,hT⟩:=hY
   refine⟨y,dy,_,rfl,hY.ins,rfl,_,rfl,_,_,rfl,rfl,kI,_,_,rfl,rfl,tj,_,_,rfl,rfl,y,dy,tb,ro,la,le,li,dn,lx,vK,lt,3,vF,aT gm 2,m6,AQ, .int 0, .int 1, .int (61 + u % 10 ^ (20:Int).toNat), .int 0,rfl,hY,hT, .int _, .int _, .int _, .int _,by decide,by decide,?_⟩
   rw[sw (show gb (.int (61 + u % 10 ^ (20:Int).toNat)) 1 60=false from decide_eq_false (by omega))]
   exact⟨nofun,fun _ H' s'=>q H' none (s1.trans s') rfl,nofun,nofun,nofun,nofun⟩
  ·refine av ?_
   refine aC rfl (by decide) ?_
   refine aC rfl (by decide) ?_
   refine aC rfl (by decide) ?_
   refine cb rfl rfl ?_
   refine⟨rfl,fun y H1 hY=>?_⟩
   obtain⟨dy,tb,ro,la,le,li,dn,lx,vK,lt,vF,hn,s1,hY,hT⟩:=hY
   refine⟨y,dy,_,rfl,hY.ins,rfl,_,_,rfl,rfl,KI,_,rfl,_,_,rfl,rfl,kI,_,_,rfl,rfl,tj,_,_,rfl,rfl,y,dy,tb,ro,la,le,li,dn,lx,vK,lt,3,vF,aT gm 2,m6,AQ, .int 0, .int 1, .int 1, .int (10 ^ (60:Int).toNat + u % 10 ^ (20:Int).toNat),rfl,hY,hT, .int _, .int _, .int _, .int _,by decide,by decide,?_⟩
   rw[qA (show El (.int (10 ^ (60:Int).toNat + u % 10 ^ (20:Int).toNat))=false from decide_eq_false (by
    have:=p60
    rw[if_neg (by omega)]
    omega))]
   exact⟨nofun,nofun,fun _ H' s'=>q H' none (s1.trans s') rfl,nofun,nofun,nofun⟩
  ·refine av ?_
   refine aC rfl (by decide) ?_
   refine aC rfl (by decide) ?_
   refine aC rfl (by decide) ?_
   refine aC rfl (by decide) ?_
   refine cb rfl rfl ?_
   refine⟨rfl,fun y H1 hY=>?_⟩
   obtain⟨dy,tb,ro,la,le,li,dn,lx,vK,lt,vF,hn,s1,hY,hT⟩:=hY
   refine⟨y,dy,_,rfl,hY.ins,rfl,_,rfl,_,_,rfl,rfl,(by show (0:Int) < 3;decide),_,rfl,_,_,rfl,rfl,(by show (0:Int) < 3;decide),y,dy,tb,ro,la,le,li,dn,lx,vK,lt,3,vF,aT gm 2,m6,AQ, .int (u % 3), .int (u % 3), .int 1, .int 0,rfl,hY,hT, .int _, .int _, .int _, .int _,by decide,by decide,?_⟩
   rw[su (emod_nonneg u (by decide)) (emod_lt_of_pos u (by decide))]
   exact⟨nofun,nofun,nofun,fun _ H' d s' hd=>q H' (some d) (s1.trans s') ⟨d,rfl,hd⟩,nofun,nofun⟩
  ·refine av ?_
   refine aC rfl (by decide) ?_
   refine aC rfl (by decide) ?_
   refine aC rfl (by decide) ?_
   refine aC rfl (by decide) ?_
   refine aC rfl (by decide) ?_
   refine cb rfl rfl ?_
   exact .mk rfl fun H' s'=>q H' none s' rfl
  ·refine av ?_
   refine aC rfl (by decide) ?_
   refine aC rfl (by decide) ?_
   refine aC rfl (by decide) ?_
   refine aC rfl (by decide) ?_
   refine aC rfl (by decide) ?_
   refine aC rfl (by decide) ?_
   refine⟨_,rfl,rfl,_,rfl,?_⟩
   show(if decide (V.int ((11:Nat):Int)=V.int 11)=true then _ else _)
   rw[show decide (V.int ((11:Nat):Int)=V.int 11)=true from rfl]
   refine a9 ⟨_,rfl,_,_,rfl,rfl,(by show (0:Int) < 2;decide),rfl,_,rfl,?_⟩
   show(if decide (V.int (u % 2)=V.int 0)=true then _ else _)
   rw[cu]
   by_cases h2:u % 2=0
   ·rw[decide_eq_true h2]
    refine a9 ?_
    refine fun x1 zw nx xE ne=>⟨x1,zw,1,rfl,vz,fun pa H1 zo k1 hL=>⟨rfl,?_⟩⟩
    refine⟨x1,zw,_,rfl,hL.ins,rfl, .mk x1 zw pa 1 none [] [] rfl hL fun H' s'=>q H' none ?_ rfl⟩
    have s1:v5 H H1:=fun b u e=>k1 b u (fun z=>by rw[z,nx]at e;cases e) (fresh (C:=ys.vZ) nx xE ne _ _ e)
    exact s1.trans s'
   ·rw[decide_eq_false h2]
    refine av ?_
    refine cb rfl rfl ?_
    refine⟨rfl,fun y H1 hY=>?_⟩
    obtain⟨dy,tb,ro,la,le,li,dn,lx,vK,lt,vF,hn,s1,hY,hT⟩:=hY
    obtain⟨k4,h4⟩:∃ n:Nat,u % 4=(n:Int):=⟨(u % 4).toNat,by omega⟩
    obtain⟨ln,hl,hq⟩:∃ ln,AQ.lanes[k4]? = some ln/\ln.qs=[]:=by
     have:k4=0∨k4=1∨k4=2∨k4=3:=by omega
     rcases this with rfl | rfl | rfl | rfl<;>exact⟨_,rfl,rfl⟩
    refine⟨y,dy,_,rfl,hY.ins,rfl,_,rfl,_,_,rfl,rfl,(by show (0:Int) < 4;decide),by show 2 <= sizeLine;decide,fun t ht=>?_⟩
    have s2:=(v5.refl H1).new (o := .tup [.str "lie", .int (u % 4)]) ht
    exact .mk y dy tb ro la le li dn AQ k4 ln t rfl (by rw[← h4];exact vz) (hY.same s2) hl hq fun H' s'=>q H' none ((s1.trans s2).trans s') rfl
  ·refine av ?_
   refine aC rfl (by decide) ?_
   refine aC rfl (by decide) ?_
   refine aC rfl (by decide) ?_
   refine aC rfl (by decide) ?_
   refine aC rfl (by decide) ?_
   refine aC rfl (by decide) ?_
   refine⟨_,rfl,rfl,_,rfl,?_⟩
   show(if decide (V.int ((12:Nat):Int)=V.int 11)=true then _ else _)
   rw[show decide (V.int ((12:Nat):Int)=V.int 11)=false from rfl]
   refine av (av ?_)
   refine aC rfl (by decide) ?_
   refine cb rfl rfl ?_
   obtain⟨n,hn⟩:∃ n:Nat,13 + u % 10 ^ (20:Int).toNat=(n:Int):=⟨(13 + u % 10 ^ (20:Int).toNat).toNat,by omega⟩
   have hb:n < 10 ^ 60:=by
    have h1:(13:Int) + 10 ^ (20:Int).toNat < ((10 ^ 60:Nat):Int):=by decide +kernel
    omega
   exact⟨_,rfl,_,_,rfl,rfl,kI,_,_,rfl,rfl,tj,_,_,rfl,rfl,_,rfl,(by
    show(13 + u % 10 ^ (20:Int).toNat).natAbs.log2 < 1920
    rw[hn];exact jA hb),_,_,rfl,rfl,(by rw[hn];exact mQ hb), .mk n (by unfold j0 b9;rw[← hn];rfl) (by omega) hb fun H' s'=>q H' none s' rfl⟩
  ·refine av ?_
   refine aC rfl (by decide) ?_
   refine aC rfl (by decide) ?_
   refine aC rfl (by decide) ?_
   refine aC rfl (by decide) ?_
   refine aC rfl (by decide) ?_
   refine aC rfl (by decide) ?_
   refine⟨_,rfl,rfl,_,rfl,?_⟩
   show(if decide (V.int ((13:Nat):Int)=V.int 11)=true then _ else _)
   rw[show decide (V.int ((13:Nat):Int)=V.int 11)=false from rfl]
   refine av (av ?_)
   refine aC rfl (by decide) ?_
   refine aC rfl (by decide) ?_
   refine cb rfl rfl ?_
   obtain⟨n,hn⟩:∃ n:Nat,u % 10 ^ (20:Int).toNat=(n:Int):=⟨(u % 10 ^ (20:Int).toNat).toNat,by omega⟩
   have hb:n < 10 ^ 60:=by
    have h1:(13:Int) + 10 ^ (20:Int).toNat < ((10 ^ 60:Nat):Int):=by decide +kernel
    omega
   refine fun x1 zw nx xE ne => .mk x1 zw rfl vz ⟨rfl,x1,zw,_,rfl,vz,rfl,?_⟩
   have s1:v5 H (upd (upd (upd H zw (.own x1)) x1 (.ins dk zw [])) x1 (.ins dk zw KC)):=fun b u e=>by
    rw[ae (ai e nx)];exact fresh nx xE ne _ _ e
   exact⟨_,rfl,_,_,rfl,rfl,kI,_,_,rfl,rfl,tj,_,rfl,(by
    show(u % 10 ^ (20:Int).toNat).natAbs.log2 < 1920
    rw[hn];exact jA hb),_,_,rfl,rfl,(by rw[hn];exact mQ hb), .mk x1 zw n (by unfold j0 b9;rw[← hn];rfl) vz hb fun H' s'=>q H' none (s1.trans s') rfl⟩
noncomputable def NX:Nat->Str
 | 0 => "NoPlaces" | 1 => "TooMany" | 2 => "NoRoad" | 3 => "NoEntry" | 4 => "NotMet" | 5 => "NoRooms" | 6 => "NoPlace" | 7 => "NoLength" | 8 => "NoWord" | 9 => "NoWay" | 10 => "Full" | 11 => "NoMove" | 12 => "NoText" | _ => "NoRow"
structure GY (K:Frag)(mg:Str->Option Value)(cs:Nat->Addr)(yc:Addr):Prop where
 m:∀ j,j < 14->mg (NX j)=some (.ref (cs j))
 x:∀ j,j < 14->dH K (cs j)
 i:∀ j,j < 14->qN K (cs j)
 k:∀ k j,k < 14->j < 14->kitOne K (.ref (cs k)) (.ref (cs j))=some (decide (j=k))
 y:∀ k,k < 14->kitOne K (.ref (cs k)) (.ref yc)=some true
 v:∀ k,k < 14->kitOne K (.ref (cs k)) (.type "ValueError")=some true
 e:∀ k j,k < 14->j < 14->PySem.W.exmOne K (.ref (cs k)) (.ref (cs j))=some (decide (j=k))
 ey:∀ k,k < 14->PySem.W.exmOne K (.ref (cs k)) (.ref yc)=some true
 f1:findIn K (.ref (cs 1)) "many" = some none
 f2:findIn K (.ref (cs 2)) "lane" = some none
 f3:findIn K (.ref (cs 3)) "row" = some none
 f9:findIn K (.ref (cs 9)) "start" = some none
 g9:findIn K (.ref (cs 9)) "goal" = some none
noncomputable def Co (k j:Nat):V := .bl (decide (j=k))
inductive mG (cs:Nat->Addr)(ea:Addr)(oe:Obj)(vs:List V)(H:Hp)(Q:VK)(E:XK):Prop
 | mk (k:Nat) (yj:Array Value) (_:k < 14) (_:oe.cls = .ref (cs k)) (_:oe.data = .fields yj) (_:vs=[.ref ea]) (_:DictAt H oe.dict) (_:∀ D H',v5 H H'->H' D=some (.lst ((List.range 14).map (Co k)))->Q (.ref D) H')
theorem DictAt.same {H H':Hp}{dd:Option Addr}(h:DictAt H dd)(s:v5 H H'):DictAt H' dd:=by
 cases dd with
 | none=>trivial
 | some d=>obtain⟨fs,h⟩:=h;exact⟨fs,s _ _ h⟩
theorem lg (H:Hp)(a:Addr)(o:HO):(upd H a o) a=some o:=vz
abbrev NKd:List Str:=["_law_e", "_law_some"]
theorem zx:aj NKd ["_law_e"] (ag lD):=L2.vX
theorem pZ {cs:Nat->Addr}{yc f ea:Addr}{fd:FuncData}{oe:Obj}(F:vQ K "_law_kinds" "_law_kinds" lD f fd)(T:Txt mg)(Z:GY K mg cs yc)
  (hp:base.get? ea=some oe):nF P w K mg base 1 f fd ["_law_e"] (mG cs ea oe):=by
 refine F.okH zx (fun vs H Q E h=>?_) (fun cdv A outer s H vs Q E hr h=>?_)
 ·obtain⟨k,_,_,_,_,rfl,_⟩:=h
  rfl
 ·obtain⟨k,yj,hk,hc,hd,rfl,w4,q⟩:=h
  have xc:=Z.x k hk
  have xi:=Z.i k hk
  refine⟨_,ad (ar (i:=1) zx.nd rfl (Or.inl rfl) (aD (aa (al be rfl T.wI PyProof.Rows.boot_isinstance (aa (pv 0) (aa (aA (v := .ref (cs 0)) rfl (Z.m 0 (by decide)) rfl) ac)))
    (aa (al be rfl T.wI PyProof.Rows.boot_isinstance (aa (pv 0) (aa (aA (v := .ref (cs 1)) rfl (Z.m 1 (by decide)) rfl) ac)))
    (aa (al be rfl T.wI PyProof.Rows.boot_isinstance (aa (pv 0) (aa (aA (v := .ref (cs 2)) rfl (Z.m 2 (by decide)) rfl) ac)))
    (aa (al be rfl T.wI PyProof.Rows.boot_isinstance (aa (pv 0) (aa (aA (v := .ref (cs 3)) rfl (Z.m 3 (by decide)) rfl) ac))) ac))))))
   (ad (ar (i:=1) zx.nd rfl (Or.inl rfl) (au j5 (pv 1) (aD (aa (al be rfl T.wI PyProof.Rows.boot_isinstance (aa (pv 0) (aa (aA (v := .ref (cs 4)) rfl (Z.m 4 (by decide)) rfl) ac)))
    (aa (al be rfl T.wI PyProof.Rows.boot_isinstance (aa (pv 0) (aa (aA (v := .ref (cs 5)) rfl (Z.m 5 (by decide)) rfl) ac)))
    (aa (al be rfl T.wI PyProof.Rows.boot_isinstance (aa (pv 0) (aa (aA (v := .ref (cs 6)) rfl (Z.m 6 (by decide)) rfl) ac)))
    (aa (al be rfl T.wI PyProof.Rows.boot_isinstance (aa (pv 0) (aa (aA (v := .ref (cs 7)) rfl (Z.m 7 (by decide)) rfl) ac))) ac)))))))
   (ad (ar (i:=1) zx.nd rfl (Or.inl rfl) (au j5 (pv 1) (aD (aa (al be rfl T.wI PyProof.Rows.boot_isinstance (aa (pv 0) (aa (aA (v := .ref (cs 8)) rfl (Z.m 8 (by decide)) rfl) ac)))
    (aa (al be rfl T.wI PyProof.Rows.boot_isinstance (aa (pv 0) (aa (aA (v := .ref (cs 9)) rfl (Z.m 9 (by decide)) rfl) ac)))
    (aa (al be rfl T.wI PyProof.Rows.boot_isinstance (aa (pv 0) (aa (aA (v := .ref (cs 10)) rfl (Z.m 10 (by decide)) rfl) ac)))
    (aa (al be rfl T.wI PyProof.Rows.boot_isinstance (aa (pv 0) (aa (aA (v := .ref (cs 11)) rfl (Z.m 11 (by decide)) rfl) ac))) ac)))))))
   (ad (ar (i:=1) zx.nd rfl (Or.inl rfl) (au j5 (pv 1) (aD (aa (al be rfl T.wI PyProof.Rows.boot_isinstance (aa (pv 0) (aa (aA (v := .ref (cs 12)) rfl (Z.m 12 (by decide)) rfl) ac)))
    (aa (al be rfl T.wI PyProof.Rows.boot_isinstance (aa (pv 0) (aa (aA (v := .ref (cs 13)) rfl (Z.m 13 (by decide)) rfl) ac))) ac)))))
   (ah (ay (pv 1)))))),?_⟩
  have I:∀ (j:Nat),j < 14->kitOne K (.ref (cs k)) (.ref (cs j))=some (decide (j=k)):=fun j hj=>Z.k k j hk hj
  refine⟨_,rfl,ea,oe,_,_,_,yj,_,rfl,rfl,hp,hc,hd,w4,xc,xi,I 0 (by decide),
   _,rfl,ea,oe,_,_,_,yj,_,rfl,rfl,hp,hc,hd,w4,xc,xi,I 1 (by decide),
   _,rfl,ea,oe,_,_,_,yj,_,rfl,rfl,hp,hc,hd,w4,xc,xi,I 2 (by decide),
   _,rfl,ea,oe,_,_,_,yj,_,rfl,rfl,hp,hc,hd,w4,xc,xi,I 3 (by decide),by show 4 <= sizeLine;decide,fun D0 KP=>?_⟩
  have s0:=(v5.refl H).new (o := .lst [V.bl (decide (0=k)),V.bl (decide (1=k)),V.bl (decide (2=k)),V.bl (decide (3=k))]) KP
  have g0:(upd H D0 (.lst [V.bl (decide (0=k)),V.bl (decide (1=k)),V.bl (decide (2=k)),V.bl (decide (3=k))])) D0=some (.lst [V.bl (decide (0=k)),V.bl (decide (1=k)),V.bl (decide (2=k)),V.bl (decide (3=k))]):=vz
  have d0:=DictAt.same w4 s0
  refine⟨_,rfl,_,rfl,ea,oe,_,_,_,yj,_,rfl,rfl,hp,hc,hd,d0,xc,xi,I 4 (by decide),
   _,rfl,ea,oe,_,_,_,yj,_,rfl,rfl,hp,hc,hd,d0,xc,xi,I 5 (by decide),
   _,rfl,ea,oe,_,_,_,yj,_,rfl,rfl,hp,hc,hd,d0,xc,xi,I 6 (by decide),
   _,rfl,ea,oe,_,_,_,yj,_,rfl,rfl,hp,hc,hd,d0,xc,xi,I 7 (by decide),by show 4 <= sizeLine;decide,fun A0 DU=>?_⟩
  have u0:=s0.new (o := .lst [V.bl (decide (4=k)),V.bl (decide (5=k)),V.bl (decide (6=k)),V.bl (decide (7=k))]) DU
  refine⟨D0,A0,_,_,rfl,rfl,(ae (ai g0 DU)).trans g0,vz,by show 4 + 4 <= sizeLine;decide,fun D1 Fj=>?_⟩
  have s1:=u0.new (o := .lst [V.bl (decide (0=k)),V.bl (decide (1=k)),V.bl (decide (2=k)),V.bl (decide (3=k)),V.bl (decide (4=k)),V.bl (decide (5=k)),V.bl (decide (6=k)),V.bl (decide (7=k))]) Fj
  have g1:=lg (upd (upd H D0 (.lst [V.bl (decide (0=k)),V.bl (decide (1=k)),V.bl (decide (2=k)),V.bl (decide (3=k))])) A0 (.lst [V.bl (decide (4=k)),V.bl (decide (5=k)),V.bl (decide (6=k)),V.bl (decide (7=k))])) D1 (.lst [V.bl (decide (0=k)),V.bl (decide (1=k)),V.bl (decide (2=k)),V.bl (decide (3=k)),V.bl (decide (4=k)),V.bl (decide (5=k)),V.bl (decide (6=k)),V.bl (decide (7=k))])
  have d1:=DictAt.same w4 s1
  refine⟨_,rfl,_,rfl,ea,oe,_,_,_,yj,_,rfl,rfl,hp,hc,hd,d1,xc,xi,I 8 (by decide),
   _,rfl,ea,oe,_,_,_,yj,_,rfl,rfl,hp,hc,hd,d1,xc,xi,I 9 (by decide),
   _,rfl,ea,oe,_,_,_,yj,_,rfl,rfl,hp,hc,hd,d1,xc,xi,I 10 (by decide),
   _,rfl,ea,oe,_,_,_,yj,_,rfl,rfl,hp,hc,hd,d1,xc,xi,I 11 (by decide),by show 4 <= sizeLine;decide,fun A1 NY=>?_⟩
  have u1:=s1.new (o := .lst [V.bl (decide (8=k)),V.bl (decide (9=k)),V.bl (decide (10=k)),V.bl (decide (11=k))]) NY
  refine⟨D1,A1,_,_,rfl,rfl,(ae (ai g1 NY)).trans g1,vz,by show 8 + 4 <= sizeLine;decide,fun D2 wZ=>?_⟩
  have s2:=u1.new (o := .lst [V.bl (decide (0=k)),V.bl (decide (1=k)),V.bl (decide (2=k)),V.bl (decide (3=k)),V.bl (decide (4=k)),V.bl (decide (5=k)),V.bl (decide (6=k)),V.bl (decide (7=k)),V.bl (decide (8=k)),V.bl (decide (9=k)),V.bl (decide (10=k)),V.bl (decide (11=k))]) wZ
  have g2:=lg (upd (upd (upd (upd H D0 (.lst [V.bl (decide (0=k)),V.bl (decide (1=k)),V.bl (decide (2=k)),V.bl (decide (3=k))])) A0 (.lst [V.bl (decide (4=k)),V.bl (decide (5=k)),V.bl (decide (6=k)),V.bl (decide (7=k))])) D1 (.lst [V.bl (decide (0=k)),V.bl (decide (1=k)),V.bl (decide (2=k)),V.bl (decide (3=k)),V.bl (decide (4=k)),V.bl (decide (5=k)),V.bl (decide (6=k)),V.bl (decide (7=k))])) A1 (.lst [V.bl (decide (8=k)),V.bl (decide (9=k)),V.bl (decide (10=k)),V.bl (decide (11=k))])) D2 (.lst [V.bl (decide (0=k)),V.bl (decide (1=k)),V.bl (decide (2=k)),V.bl (decide (3=k)),V.bl (decide (4=k)),V.bl (decide (5=k)),V.bl (decide (6=k)),V.bl (decide (7=k)),V.bl (decide (8=k)),V.bl (decide (9=k)),V.bl (decide (10=k)),V.bl (decide (11=k))])
  have d2:=DictAt.same w4 s2
  refine⟨_,rfl,_,rfl,ea,oe,_,_,_,yj,_,rfl,rfl,hp,hc,hd,d2,xc,xi,I 12 (by decide),
   _,rfl,ea,oe,_,_,_,yj,_,rfl,rfl,hp,hc,hd,d2,xc,xi,I 13 (by decide),by show 2 <= sizeLine;decide,fun A2 NZ=>?_⟩
  have u2:=s2.new (o := .lst [V.bl (decide (12=k)),V.bl (decide (13=k))]) NZ
  refine⟨D2,A2,_,_,rfl,rfl,(ae (ai g2 NZ)).trans g2,vz,by show 12 + 2 <= sizeLine;decide,fun D3 zX=>?_⟩
  have s3:=u2.new (o := .lst [V.bl (decide (0=k)),V.bl (decide (1=k)),V.bl (decide (2=k)),V.bl (decide (3=k)),V.bl (decide (4=k)),V.bl (decide (5=k)),V.bl (decide (6=k)),V.bl (decide (7=k)),V.bl (decide (8=k)),V.bl (decide (9=k)),V.bl (decide (10=k)),V.bl (decide (11=k)),V.bl (decide (12=k)),V.bl (decide (13=k))]) zX
  have g3:=lg (upd (upd (upd (upd (upd (upd H D0 (.lst [V.bl (decide (0=k)),V.bl (decide (1=k)),V.bl (decide (2=k)),V.bl (decide (3=k))])) A0 (.lst [V.bl (decide (4=k)),V.bl (decide (5=k)),V.bl (decide (6=k)),V.bl (decide (7=k))])) D1 (.lst [V.bl (decide (0=k)),V.bl (decide (1=k)),V.bl (decide (2=k)),V.bl (decide (3=k)),V.bl (decide (4=k)),V.bl (decide (5=k)),V.bl (decide (6=k)),V.bl (decide (7=k))])) A1 (.lst [V.bl (decide (8=k)),V.bl (decide (9=k)),V.bl (decide (10=k)),V.bl (decide (11=k))])) D2 (.lst [V.bl (decide (0=k)),V.bl (decide (1=k)),V.bl (decide (2=k)),V.bl (decide (3=k)),V.bl (decide (4=k)),V.bl (decide (5=k)),V.bl (decide (6=k)),V.bl (decide (7=k)),V.bl (decide (8=k)),V.bl (decide (9=k)),V.bl (decide (10=k)),V.bl (decide (11=k))])) A2 (.lst [V.bl (decide (12=k)),V.bl (decide (13=k))])) D3 (.lst [V.bl (decide (0=k)),V.bl (decide (1=k)),V.bl (decide (2=k)),V.bl (decide (3=k)),V.bl (decide (4=k)),V.bl (decide (5=k)),V.bl (decide (6=k)),V.bl (decide (7=k)),V.bl (decide (8=k)),V.bl (decide (9=k)),V.bl (decide (10=k)),V.bl (decide (11=k)),V.bl (decide (12=k)),V.bl (decide (13=k))])
  exact⟨_,rfl,q D3 _ s3 vz⟩
inductive l0 (K:Frag)(vs:List V)(H:Hp)(Q:VK)(E:XK):Prop
 | mk (a:Addr) (ns:List Int) (k:Nat) (_:vs=[.ref a, .int k]) (_:vG K H a (ns.map V.int)) (_:∀ d,Q (.int d) H)
abbrev KQ:List Str:=["_law_script", "_law_which", "_law_cell", "_law_kinds_here", "_law_values", "_law_good", "_law_e"]
noncomputable def KR (s:Stmt):Scope:=match s with
 | .Return (some (.BoolOp _ [_, .Compare _ _ [.ListComp _ _ sc _] _,_] _)) _=>sc
 | _=>fu
noncomputable def KS (s:Stmt):Scope:=match s with
 | .Return (some (.BoolOp _ [_,_, .Compare (.ListComp _ _ sc _) _ _ _] _)) _=>sc
 | _=>fu
abbrev Fm:Stmt:=(ax fH).getD 5 (.Pass ⟨0,0,0,0⟩)
noncomputable def Fn (i:Nat):List Stmt:=match Fm with
 | .Try _ hs _ _ _=>(match hs.getD i (.ExceptHandler none none [] ⟨0,0,0,0⟩) with | .ExceptHandler _ _ b _=>b)
 | _=>[]
abbrev Fo (i:Nat):Stmt:=(Fn i).headD (.Pass ⟨0,0,0,0⟩)
abbrev qq (i:Nat):List Stmt:=(Fn i).tail
theorem kN {X:Cx}{y:Str}{c:Value}{b:Stmt}{bs:List Stmt}{th:Addr->Obj->TS}{np hp:Pos}(g:Gl X y)(m:X.mg y=some c)(d:(y == ("__debug__":Str))=false)(h:∀ ea oe,xI (X.hand ea oe) (b :: bs) (th ea oe)):sN X ⟨y,c,b,bs,th,np,hp⟩:=⟨g,m,d,h⟩
structure nG (X:Cx)(zs:List Cl):Prop where
 h:∀ z ∈ zs,sN X z
theorem Fp {X:Cx}:nG X []:=⟨fun _ h=>by cases h⟩
theorem i5 {X:Cx}{z:Cl}{zs:List Cl}(h:sN X z)(hs:nG X zs):nG X (z :: zs):=⟨fun z' m=>by
 rcases mem_cons.mp m with rfl | m
 ·exact h
 ·exact hs.h _ m⟩
theorem rz {bb:Bool}{X:Cx}{body:List Stmt}{n:Str}{pos:Pos}{i:Nat}{tb:eC->St->Hp->(St->XK)->Prop}{hs:List ExceptHandler}{z₀:Cl}{zs:List Cl}(xJ:X.stack=X.env :: X.outer)(Dn:X.env.frame=some X.env.locals)
  (hN:X.N.Nodup) (hi:X.N[i]? = some n) (hk:X.env.kindOf n=some .local) (hb:Dl bb X body tb) (hh:nG X (z₀ :: zs)) (he:hs=(z₀ :: zs).map (Cl.h n):=by rfl) :
  PS X (.Try body hs [] [] pos) (sQ X.K i tb (z₀ :: zs)):=rq xJ Dn hN hi hk hb hh.h he
abbrev Fq:Stmt:=(ax fH).getD 6 (.Pass ⟨0,0,0,0⟩)
theorem KU:wM KQ (ag fH) (KR Fq) ["_law_which"] [1]:=L2.yb
theorem KW:wM KQ (ag fH) (KS Fq) [] []:=L2.yb
theorem KY:(["_law_k", "_law_which"]:List Str).Nodup:=by decide +kernel
theorem KZ:(["_law_one"]:List Str).Nodup:=by decide +kernel
inductive mE (K:Frag)(vs:List V)(H:Hp)(Q:VK)(E:XK):Prop
 | mk (a:Addr) (ns:List Int) (_:vs=[.ref a]) (_:vG K H a (ns.map V.int)) (_:∀ H',Q (.bl true) H')
theorem uf:aj ["_law_script", "_law_k"] ["_law_script", "_law_k"] (ag p5):=L2.vX
theorem rR {f:Addr}{fd:FuncData}(F:vQ K "_law_cell_at" "_law_cell_at" p5 f fd)(T:Txt mg):v7 P w K mg base aE 1 f fd ["_law_script", "_law_k"] (l0 K):=by
 refine F.ok uf (fun vs H Q E h=>?_) (fun cdv A outer s H vs Q E hr h=>?_)
 ·obtain⟨a,ns,k,rfl,_⟩:=h
  rfl
 ·obtain⟨a,ns,k,rfl,hS,q⟩:=h
  refine⟨_,ad (a8 (ao kx (pv 1) (al aJ rfl T.len PySem.boot_len (aa (pv 0) ac)) (ap _))
    (ah (ay (aR bP (pv 0) (pv 1) (fun _ _=>rfl)))) am) (ah (ay af)),?_⟩
  refine⟨_,rfl,_,rfl,a,_,rfl, .inl hS,_,_,rfl,rfl,_,rfl,?_⟩
  refine Iw (fun h=>?_) fun _=>q _
  have h':(k:Int) < ((ns.map V.int).length:Nat):=of_decide_eq_true h
  rw[length_map]at h'
  have hk:k < ns.length:=by omega
  exact⟨_,rfl,_,rfl,a,_,k,V.int ns[k],rfl,rfl,hS,az (by simp[hk]),q _⟩
theorem we:aj KQ ["_law_script"] (ag fH):=L2.vX
inductive Oa (k:Nat)(a:Addr)(u:Int):St->Hp->Prop
 | mk {H:Hp} (D W:Addr) (m:Nat) (_:H D=some (.lst ((List.range 14).map (Co k)))) (_:H W=some (.lst (List.replicate m (.bl true)))) (_:m <= 2):Oa k a u [some (.ref a),some (.int k),some (.int u),some (.ref D),some (.ref W),some (.bl true),none] H
theorem gF (v:V):decide (v=v)=true:=decide_eq_true rfl
theorem jI {K:Frag}{H:Hp}{k:Nat}:∀ l:List Nat,lb K H (l.map (Co k)) (l.map fun j => .bool (decide (j=k)))
 | [] => .nil
 | _ :: l => .cons (.bl _) (jI l)
theorem uc {k:Nat}(l:List Nat):xZ (.list (l.map fun j => .bool (decide (j=k)))) 1:=jQ fun d h=>by
 obtain⟨j,_,rfl⟩:=mem_map.mp h
 exact pb _
structure Lws (P:Program)(w:World)(K:Frag)(mg:Str->Option Value)(base:Heap)(cs:Nat->Addr)(yc fk:Addr)(dk:FuncData):Prop where
 kd:GY K mg cs yc
 my:mg "YardError" = some (.ref yc)
 GK:∀ vP ea oe,vP.get? ea=some oe->nF P w K mg vP 1 fk dk ["_law_e"] (mG cs ea oe)
 Ft:mg "_law_kinds" = some (.ref fk)
 kk:keepIn K (.ref fk)=true
 bk:Binds K dk ["_law_e"] []
 DE:∃ f d,Fg P w K mg base (BU P w) 10 "_law_deed" ["_law_which", "_law_cell"] (jq cs) f d
 CE:∃ f d,Fg P w K mg base aE 1 "_law_cell_at" ["_law_script", "_law_k"] (l0 K) f d
theorem uK {cs:Nat->Addr}{yc fk f:Addr}{dk fd:FuncData}(F:vQ K "law" "law" fH f fd)(T:Txt mg)(Z:Lws P w K mg base cs yc fk dk):v7 P w K mg base aE 11 f fd ["_law_script"] (mE K):=by
 obtain⟨f1,d1,DE⟩:=Z.DE
 obtain⟨f2,d2,CE⟩:=Z.CE
 refine F.ok we (fun vs H Q E h=>?_) (fun cdv A outer s H vs Q E hr h=>?_)
 ·obtain⟨a,ns,rfl,_⟩:=h
  rfl
 ·obtain⟨a,ns,rfl,hS,q⟩:=h
  have xf:vE 1 _:=hr.mono (by decide)
  have La:vE 10 _:=hr
  have hu:=hr.units
  refine⟨_,ad (ar (i:=1) we.nd rfl (Or.inr rfl) (au bg (aq CE.G xf rfl CE.m CE.kp CE.b .nil aw (aa (pv 0) (aa af ac))) af))
   (ad (ar (i:=2) we.nd rfl (Or.inl rfl) (aq CE.G xf rfl CE.m CE.kp CE.b .nil aw (aa (pv 0) (aa af ac))))
   (ad (ar (i:=3) we.nd rfl (Or.inl rfl) (aD ac))
   (ad (ar (i:=4) we.nd rfl (Or.inl rfl) (aD ac))
   (ad (ar (i:=5) we.nd rfl (Or.inl rfl) mS)
   (ad (r0 (rz (i:=6) (z₀:=⟨"TooMany", .ref (cs 1),Fo 0,qq 0,_,_,_⟩) (zs:=[⟨"NoRoad", .ref (cs 2),Fo 1,qq 1,_,_,_⟩,⟨"NoEntry", .ref (cs 3),Fo 2,qq 2,_,_,_⟩,⟨"NoWay", .ref (cs 9),Fo 3,qq 3,_,_,_⟩,⟨"YardError", .ref yc,Fo 4,qq 4,_,_,_⟩]) rfl rfl we.nd rfl rfl (sD (kj DE.G La rfl DE.m DE.kp DE.b .nil rfl (aa (pv 1) (aa (pv 2) ac))))
    (i5 (kN rfl (Z.kd.m 1 (by decide)) (by decide) (fun ea oe=>ad (ar (i:=3) we.nd rfl (Or.inl rfl) (cC (fun vP B=>Z.GK vP ea oe (B.pn _ mem_cons_self)) (xf.hand _) rfl Z.Ft Z.kk Z.bk (aa (pv 6) ac))) (ad (ar (i:=5) we.nd rfl (Or.inl rfl) (bE (al bQ rfl T.wI PyProof.Rows.boot_isinstance (aa (pv 6) (aa (aA (v := .ref yc) rfl Z.my rfl) ac))) (bJ (al bQ rfl T.wI PyProof.Rows.boot_isinstance (aa (pv 6) (aa (bD (v := .ty "ValueError") rfl T.zk (by decide +kernel) rfl) ac)))))) (ah (ar (i:=4) we.nd rfl (Or.inl rfl) (aD (aa (bH aL (fg (pv 6) rfl) (au bS af (au bg (pv 2) af)) (ap _)) ac)))))))
    (i5 (kN rfl (Z.kd.m 2 (by decide)) (by decide) (fun ea oe=>ad (ar (i:=3) we.nd rfl (Or.inl rfl) (cC (fun vP B=>Z.GK vP ea oe (B.pn _ mem_cons_self)) (xf.hand _) rfl Z.Ft Z.kk Z.bk (aa (pv 6) ac))) (ad (ar (i:=5) we.nd rfl (Or.inl rfl) (bE (al bQ rfl T.wI PyProof.Rows.boot_isinstance (aa (pv 6) (aa (aA (v := .ref yc) rfl Z.my rfl) ac))) (bJ (al bQ rfl T.wI PyProof.Rows.boot_isinstance (aa (pv 6) (aa (bD (v := .ty "ValueError") rfl T.zk (by decide +kernel) rfl) ac)))))) (ah (ar (i:=4) we.nd rfl (Or.inl rfl) (aD (aa (bH aL (fg (pv 6) rfl) (au bg (pv 2) af) (ap _)) ac)))))))
    (i5 (kN rfl (Z.kd.m 3 (by decide)) (by decide) (fun ea oe=>ad (ar (i:=3) we.nd rfl (Or.inl rfl) (cC (fun vP B=>Z.GK vP ea oe (B.pn _ mem_cons_self)) (xf.hand _) rfl Z.Ft Z.kk Z.bk (aa (pv 6) ac))) (ad (ar (i:=5) we.nd rfl (Or.inl rfl) (bE (al bQ rfl T.wI PyProof.Rows.boot_isinstance (aa (pv 6) (aa (aA (v := .ref yc) rfl Z.my rfl) ac))) (bJ (al bQ rfl T.wI PyProof.Rows.boot_isinstance (aa (pv 6) (aa (bD (v := .ty "ValueError") rfl T.zk (by decide +kernel) rfl) ac)))))) (ah (ar (i:=4) we.nd rfl (Or.inl rfl) (aD (aa (bH aL (fg (pv 6) rfl) af (ap _)) ac)))))))
    (i5 (kN rfl (Z.kd.m 9 (by decide)) (by decide) (fun ea oe=>ad (ar (i:=3) we.nd rfl (Or.inl rfl) (cC (fun vP B=>Z.GK vP ea oe (B.pn _ mem_cons_self)) (xf.hand _) rfl Z.Ft Z.kk Z.bk (aa (pv 6) ac))) (ad (ar (i:=5) we.nd rfl (Or.inl rfl) (bE (al bQ rfl T.wI PyProof.Rows.boot_isinstance (aa (pv 6) (aa (aA (v := .ref yc) rfl Z.my rfl) ac))) (bJ (al bQ rfl T.wI PyProof.Rows.boot_isinstance (aa (pv 6) (aa (bD (v := .ty "ValueError") rfl T.zk (by decide +kernel) rfl) ac)))))) (ah (ar (i:=4) we.nd rfl (Or.inl rfl) (aD (aa (bH aL (fg (pv 6) rfl) (au bg (pv 2) af) (ap _)) (aa (bH aL (fg (pv 6) rfl) (au bg (pv 2) af) (ap _)) ac))))))))
    (i5 (kN rfl (Z.my) (by decide) (fun ea oe=>ad (ar (i:=3) we.nd rfl (Or.inl rfl) (cC (fun vP B=>Z.GK vP ea oe (B.pn _ mem_cons_self)) (xf.hand _) rfl Z.Ft Z.kk Z.bk (aa (pv 6) ac))) (ah (ar (i:=5) we.nd rfl (Or.inl rfl) (al bQ rfl T.wI PyProof.Rows.boot_isinstance (aa (pv 6) (aa (bD (v := .ty "ValueError") rfl T.zk (by decide +kernel) rfl) ac)))))))
    Fp)))))))
   (ah (ay (bE (pv 5) (bE (bH (pN hu) (pv 3) (bx (own:=["_law_k"]) (capN:=["_law_which"]) (cap:=[1]) KU rfl (et rfl T.range (aa af ac))
     (fun C s' H' fp=>⟨a7 (i:=0) KY rfl (Or.inl rfl),bG,bH aL (pv 0) (pv 1) (ap _)⟩)) (ap _))
    (bJ (bH (pN hu) (bx (own:=["_law_one"]) (capN:=[]) (cap:=[]) KW rfl (bN (pv 4))
     (fun C s' H' fp=>⟨a7 (i:=0) KZ rfl (Or.inl rfl),eY (aU (bu (pv 0))),pv 0⟩)) (aD ac) (ap _)))))))))))),?_⟩
  refine⟨_,rfl, .mk a ns 0 rfl hS fun d=>⟨d,14,rfl,rfl,(by show (0:Int) < 14;decide),?_⟩⟩
  obtain⟨k,hk,ek⟩:∃ k:Nat,k < 14/\d % 14=(k:Int):=⟨(d % 14).toNat,by omega,by omega⟩
  rw[show((fun i j=>V.int (i % j)) d 14:V)=V.int k from congrArg V.int ek]
  refine⟨_,rfl, .mk a ns 1 rfl hS fun u=>⟨by decide,fun D0 KP=>⟨by decide,fun D1 Fj=>?_⟩⟩⟩
  have s1:v5 H (upd (upd H D0 (.lst [])) D1 (.lst [])):=((v5.refl H).new KP).new Fj
  have g1:(upd (upd H D0 (.lst [])) D1 (.lst [])) D1=some (.lst []):=vz
  generalize upd (upd H D0 (.lst [])) D1 (.lst [])=H1 at s1 g1
  refine⟨Oa k a u,⟨_,rfl,_,rfl,k,u,rfl,hk,fun H' dd hs hd=>?_⟩,fun σ H2 h=>?_⟩
  ·by_cases h1:k=1
   ·subst h1
    obtain⟨dd,rfl,yS⟩:=hd
    refine .inl ⟨(Z.kd.e 1 1 hk (by decide)).trans rfl,fun ea oe vs hc w4 hd hn=>?_⟩
    have da:DictAt H' oe.dict:=by rw[w4];exact⟨_,yS⟩
    refine⟨_,rfl,1,vs,hk,hc,hd,rfl,da,fun D H2 s2 hD=>?_⟩
    have d2:=DictAt.same da s2
    refine⟨_,rfl,ea,oe, .ref yc,_,cs 1,vs,true,rfl,rfl,mem_cons_self,hc,hd,d2,Z.kd.x _ hk,Z.kd.i _ hk,Z.kd.y _ hk,?_⟩
    refine⟨_,rfl,a9 ⟨_,rfl,ea,oe, .ty "ValueError",_,cs 1,vs,true,rfl,rfl,mem_cons_self,hc,hd,d2,Z.kd.x _ hk,Z.kd.i _ hk,Z.kd.v _ hk,?_⟩⟩
    refine⟨_,rfl,ea,oe,cs 1,vs,_,_,_,rfl,mem_cons_self,hc,hd,w4,s2 _ _ yS,Z.kd.x _ hk,Z.kd.f1,rfl,?_⟩
    refine⟨_,rfl,u,20,rfl,rfl,(by show (0:Int) < 20;decide),41,u % 20,rfl,rfl,rfl,?_⟩
    refine⟨(by show 1 <= sizeLine;decide),fun W hW=>⟨D,W,1,(ae (ai hD hW)).trans hD,vz.trans ?_,by decide⟩⟩
    rw[gF];rfl
   by_cases h2:k=2
   ·subst h2
    obtain⟨dd,rfl,yS⟩:=hd
    refine .inr ⟨(Z.kd.e 2 1 hk (by decide)).trans rfl, .inl ⟨(Z.kd.e 2 2 hk (by decide)).trans rfl,fun ea oe vs hc w4 hd hn=>?_⟩⟩
    have da:DictAt H' oe.dict:=by rw[w4];exact⟨_,yS⟩
    refine⟨_,rfl,2,vs,hk,hc,hd,rfl,da,fun D H2 s2 hD=>?_⟩
    have d2:=DictAt.same da s2
    refine⟨_,rfl,ea,oe, .ref yc,_,cs 2,vs,true,rfl,rfl,mem_cons_self,hc,hd,d2,Z.kd.x _ hk,Z.kd.i _ hk,Z.kd.y _ hk,?_⟩
    refine⟨_,rfl,a9 ⟨_,rfl,ea,oe, .ty "ValueError",_,cs 2,vs,true,rfl,rfl,mem_cons_self,hc,hd,d2,Z.kd.x _ hk,Z.kd.i _ hk,Z.kd.v _ hk,?_⟩⟩
    refine⟨_,rfl,ea,oe,cs 2,vs,_,_,_,rfl,mem_cons_self,hc,hd,w4,s2 _ _ yS,Z.kd.x _ hk,Z.kd.f2,rfl,?_⟩
    refine⟨_,rfl,u,7,rfl,rfl,(by show (0:Int) < 7;decide),rfl,?_⟩
    refine⟨(by show 1 <= sizeLine;decide),fun W hW=>⟨D,W,1,(ae (ai hD hW)).trans hD,vz.trans ?_,by decide⟩⟩
    rw[gF];rfl
   by_cases h3:k=3
   ·subst h3
    obtain⟨dd,rfl,yS⟩:=hd
    refine .inr ⟨(Z.kd.e 3 1 hk (by decide)).trans rfl, .inr ⟨(Z.kd.e 3 2 hk (by decide)).trans rfl, .inl ⟨(Z.kd.e 3 3 hk (by decide)).trans rfl,fun ea oe vs hc w4 hd hn=>?_⟩⟩⟩
    have da:DictAt H' oe.dict:=by rw[w4];exact⟨_,yS⟩
    refine⟨_,rfl,3,vs,hk,hc,hd,rfl,da,fun D H2 s2 hD=>?_⟩
    have d2:=DictAt.same da s2
    refine⟨_,rfl,ea,oe, .ref yc,_,cs 3,vs,true,rfl,rfl,mem_cons_self,hc,hd,d2,Z.kd.x _ hk,Z.kd.i _ hk,Z.kd.y _ hk,?_⟩
    refine⟨_,rfl,a9 ⟨_,rfl,ea,oe, .ty "ValueError",_,cs 3,vs,true,rfl,rfl,mem_cons_self,hc,hd,d2,Z.kd.x _ hk,Z.kd.i _ hk,Z.kd.v _ hk,?_⟩⟩
    refine⟨_,rfl,ea,oe,cs 3,vs,_,_,_,rfl,mem_cons_self,hc,hd,w4,s2 _ _ yS,Z.kd.x _ hk,Z.kd.f3,rfl,?_⟩
    refine⟨rfl,?_⟩
    refine⟨(by show 1 <= sizeLine;decide),fun W hW=>⟨D,W,1,(ae (ai hD hW)).trans hD,vz.trans ?_,by decide⟩⟩
    rw[gF];rfl
   by_cases h9:k=9
   ·subst h9
    obtain⟨dd,rfl,yS⟩:=hd
    refine .inr ⟨(Z.kd.e 9 1 hk (by decide)).trans rfl, .inr ⟨(Z.kd.e 9 2 hk (by decide)).trans rfl, .inr ⟨(Z.kd.e 9 3 hk (by decide)).trans rfl, .inl ⟨(Z.kd.e 9 9 hk (by decide)).trans rfl,fun ea oe vs hc w4 hd hn=>?_⟩⟩⟩⟩
    have da:DictAt H' oe.dict:=by rw[w4];exact⟨_,yS⟩
    refine⟨_,rfl,9,vs,hk,hc,hd,rfl,da,fun D H2 s2 hD=>?_⟩
    have d2:=DictAt.same da s2
    refine⟨_,rfl,ea,oe, .ref yc,_,cs 9,vs,true,rfl,rfl,mem_cons_self,hc,hd,d2,Z.kd.x _ hk,Z.kd.i _ hk,Z.kd.y _ hk,?_⟩
    refine⟨_,rfl,a9 ⟨_,rfl,ea,oe, .ty "ValueError",_,cs 9,vs,true,rfl,rfl,mem_cons_self,hc,hd,d2,Z.kd.x _ hk,Z.kd.i _ hk,Z.kd.v _ hk,?_⟩⟩
    refine⟨_,rfl,ea,oe,cs 9,vs,_,_,_,rfl,mem_cons_self,hc,hd,w4,s2 _ _ yS,Z.kd.x _ hk,Z.kd.f9,rfl,?_⟩
    refine⟨_,rfl,u,3,rfl,rfl,(by show (0:Int) < 3;decide),rfl,?_⟩
    refine⟨_,rfl,ea,oe,cs 9,vs,_,_,_,rfl,mem_cons_self,hc,hd,w4,s2 _ _ yS,Z.kd.x _ hk,Z.kd.g9,rfl,?_⟩
    refine⟨_,rfl,u,3,rfl,rfl,(by show (0:Int) < 3;decide),rfl,?_⟩
    refine⟨(by show 2 <= sizeLine;decide),fun W hW=>⟨D,W,2,(ae (ai hD hW)).trans hD,vz.trans ?_,by decide⟩⟩
    rw[gF];rfl
   have Lb:∀ oe:Obj,oe.dict=dd->DictAt H' oe.dict:=fun oe e=>by
    have hn:tG u k=none:=by unfold tG;split<;>first | rfl | omega
    unfold DD at hd;rw[hn]at hd;rw[e,hd];trivial
   refine .inr ⟨(Z.kd.e k 1 hk (by decide)).trans (by rw[decide_eq_false (Ne.symm h1)]), .inr ⟨(Z.kd.e k 2 hk (by decide)).trans (by rw[decide_eq_false (Ne.symm h2)]), .inr ⟨(Z.kd.e k 3 hk (by decide)).trans (by rw[decide_eq_false (Ne.symm h3)]), .inr ⟨(Z.kd.e k 9 hk (by decide)).trans (by rw[decide_eq_false (Ne.symm h9)]), .inl ⟨Z.kd.ey k hk,fun ea oe vs hc w4 hd hn=>?_⟩⟩⟩⟩⟩
   have da:DictAt H' oe.dict:=Lb oe w4
   refine⟨_,rfl,k,vs,hk,hc,hd,rfl,da,fun D H2 s2 hD=>?_⟩
   have d2:=DictAt.same da s2
   refine⟨_,rfl,ea,oe, .ty "ValueError",_,cs k,vs,true,rfl,rfl,mem_cons_self,hc,hd,d2,Z.kd.x _ hk,Z.kd.i _ hk,Z.kd.v _ hk,?_⟩
   exact⟨D,D1,0,hD,s2 _ _ (hs _ _ g1),by decide⟩
  ·obtain⟨D,W,m,hD,hW,hm⟩:=h
   refine⟨_,rfl,_,rfl,a9 ?_⟩
   refine⟨_,rfl,14,rfl,by decide,by decide,qJ (n:=14) (lo:=0) (fun _=>true) (Co k) (by decide) (fun i acc N hi h=>?_) (fun D2 wZ=>?_)⟩
   ·refine @a9 _ (N acc H2) ⟨_,rfl,_,rfl,rfl,?_⟩
    have e:V.bl (decide (V.int (0 + (i:Int))=V.int k))=Co k i:=by
     rw[cu];exact congrArg V.bl (decide_eq_decide.mpr (by omega))
    show N (acc ++ [V.bl (decide (V.int (0 + (i:Int))=V.int k))]) _
    rw[e];exact h
   ·have n2:D ≠ D2:=ai hD wZ
    have ft:(List.range 14).filter (fun _=>true)=List.range 14:=rfl
    rw[ft]
    refine MS (d := .list ((List.range 14).map fun j => .bool (decide (j=k)))) (.lst (vG.of ((ae n2).trans hD)) (jI _)) (.lst (vG.of vz) (jI _)) (uc _ |>.le (by decide)) ?_
    refine⟨_,rfl,a9 ?_⟩
    have Ob:vG K (upd H2 D2 (.lst ((List.range 14).map (Co k)))) W (List.replicate m (.bl true)):=vG.of ((ae (ai hW wZ)).trans hW)
    refine⟨_,rfl,W,rfl,⟨_,Ob⟩,i3 (xs:=List.replicate m (.bl true)) (fun _=>false) id (by rw[length_replicate,sizeLine_eq];omega) Ob (fun x acc N hx h=>?_) (fun D3 zX=>?_)⟩
    ·obtain rfl:=eq_of_mem_replicate hx
     exact⟨_,rfl,true,rfl,(show if false=true then _ else _ from av h)⟩
    ·have fn:((List.replicate m (V.bl true)).filter (fun _=>false)).map id=[]:=by simp
     rw[fn]
     refine⟨by decide,fun D4 Kz=>MS (d := .list []) (.lst (vG.of ((ae (ai vz Kz)).trans vz)) .nil) (.lst (vG.of vz) .nil) ((jQ (fun d h=>by cases h):xZ (.list []) 1).le (by decide)) (q _)⟩
theorem mj {K:Frag}{T:Addr}{o:Obj}{n:Nat}{kV doc pm cdv ct:Value}{an:Option Addr}(ho:K.lookup T=some o)(hs:o.data = .seq #[Value.none] n) :
  Binds K (fnOf "__init__" "Yard.__init__" (bd e9) (ax e9) (ag e9) (.ref T) kV doc pm an cdv ct) ["self", "table", "rooms"] [Value.none]:=fun s us xa hl=>by
 have hl:us.length=2:=by rw[length_append]at hl;exact Nat.succ.inj hl
 obtain⟨a,Lc,rfl,BA⟩:=L2.yz hl
 obtain⟨b,Ld,rfl,Af⟩:=L2.yz BA
 obtain rfl:=eq_nil_of_length_eq_zero Af
 exact BindsTo.of_defaults rfl (xa _ _ ho) hs rfl rfl
theorem mn {K:Frag}{T:Addr}{o:Obj}{n:Nat}{kV doc pm cdv ct:Value}{an:Option Addr}(ho:K.lookup T=some o)(hs:o.data = .seq #[Value.none] n) :
  Binds K (fnOf "__init__" "Yard.__init__" (bd e9) (ax e9) (ag e9) (.ref T) kV doc pm an cdv ct) ["self", "table", "rooms"] []:=fun s us xa hl=>by
 have hl:us.length=3:=by rw[append_nil]at hl;exact hl
 obtain⟨a,Lc,rfl,BA⟩:=L2.yz hl
 obtain⟨b,Ld,rfl,Af⟩:=L2.yz BA
 obtain⟨c,Oc,rfl,yZ⟩:=L2.yz Af
 obtain rfl:=eq_nil_of_length_eq_zero yZ
 exact BindsTo.of_defaults rfl (xa _ _ ho) hs rfl rfl
theorem kQ {K:Frag}{T:Addr}{o:Obj}{n:Nat}{tk:Tok}{kV doc pm cdv ct:Value}{an:Option Addr}(ho:K.lookup T=some o)(hs:o.data = .seq #[Value.int 0 tk] n) :
  Binds K (fnOf "post" "Yard.post" (bd dI) (ax dI) (ag dI) (.ref T) kV doc pm an cdv ct) vu [Value.int 0 tk]:=fun s us xa hl=>by
 have hl:us.length=4:=by rw[length_append]at hl;exact Nat.succ.inj hl
 obtain⟨a,Lc,rfl,BA⟩:=L2.yz hl
 obtain⟨b,Ld,rfl,Af⟩:=L2.yz BA
 obtain⟨c,Oc,rfl,yZ⟩:=L2.yz Af
 obtain⟨d,us3,rfl,Le⟩:=L2.yz yZ
 obtain rfl:=eq_nil_of_length_eq_zero Le
 exact BindsTo.of_defaults rfl (xa _ _ ho) hs rfl rfl
theorem kR {K:Frag}{T:Addr}{o:Obj}{n:Nat}{tk:Tok}{kV doc pm cdv ct:Value}{an:Option Addr}(ho:K.lookup T=some o)(hs:o.data = .seq #[Value.int 0 tk] n) :
  Binds K (fnOf "post" "Yard.post" (bd dI) (ax dI) (ag dI) (.ref T) kV doc pm an cdv ct) vu []:=fun s us xa hl=>by
 have hl:us.length=5:=by rw[append_nil]at hl;exact hl
 obtain⟨a,Lc,rfl,BA⟩:=L2.yz hl
 obtain⟨b,Ld,rfl,Af⟩:=L2.yz BA
 obtain⟨c,Oc,rfl,yZ⟩:=L2.yz Af
 obtain⟨d,us3,rfl,Le⟩:=L2.yz yZ
 obtain⟨e,us4,rfl,hl4⟩:=L2.yz Le
 obtain rfl:=eq_nil_of_length_eq_zero hl4
 exact BindsTo.of_defaults rfl (xa _ _ ho) hs rfl rfl
noncomputable def AS (K:Frag)(yc:Addr)(l:List Addr):Bool:=(List.range 14).all fun k =>
 (kitOne K (.ref (l.getD k 0)) (.ref yc) == some true) && (kitOne K (.ref (l.getD k 0)) (.type "ValueError") == some true) && (PySem.W.exmOne K (.ref (l.getD k 0)) (.ref yc) == some true) &&
 (List.range 14).all fun j=>(kitOne K (.ref (l.getD k 0)) (.ref (l.getD j 0)) == some (decide (j=k))) && (PySem.W.exmOne K (.ref (l.getD k 0)) (.ref (l.getD j 0)) == some (decide (j=k)))
noncomputable def AU (K:Frag)(l:List Addr):Bool:=(List.range 14).all fun k =>
 md K (l.getD k 0) && hasDictIn K (l.getD k 0) && (findIn K (.ref (l.getD k 0)) "__setattr__" == some (some (.builtin "object.__setattr__"))) && (findIn K (.ref (l.getD k 0)) "__getattribute__" == some (some (.builtin "BaseException.__getattribute__"))) &&
  (findIn K (.ref (l.getD k 0)) "__getattr__" == some none) && (findIn K (.ref (l.getD k 0)) "__class__" == some (some (.builtin "object.__class__")))
abbrev vg (c:Cs)(ts:Ts)(x:Xs)(o:Ot):List Addr:=[c.np,c.tm,c.nr,ts.ne,o.nm,o.rm,x.place,x.length,x.word,x.way,x.full,o.mv,o.tx,o.rw]
theorem i4 (c:Cs)(ts:Ts)(x:Xs)(o:Ot):∀ k,k < 14->(vg c ts x o).getD k 0=dD c ts x o k
 | 0,_ | 1,_ | 2,_ | 3,_ | 4,_ | 5,_ | 6,_ | 7,_ | 8,_ | 9,_ | 10,_ | 11,_ | 12,_ | 13,_=>rfl
 | n + 14,h=>absurd h (not_lt.mpr (Nat.le_add_left _ _))
theorem uV {K:Frag}{mg:Str->Option Value}{c:Cs}{ts:Ts}{x:Xs}{o:Ot}{yc:Addr}(hm:∀ j,j < 14->mg (NX j)=some (.ref (dD c ts x o j)))(h1:AS K yc (vg c ts x o)=true)(h2:AU K (vg c ts x o)=true)
  (h3:PySem.W.specialIn K (.builtin "object.__class__") "__get__" = some (some (.builtin "getset_descriptor.__get__"))) (h4:PySem.W.takesIn K (.builtin "object.__class__")=some true)
  (f1:findIn K (.ref c.tm) "many" = some none) (f2:findIn K (.ref c.nr) "lane" = some none) (f3:findIn K (.ref ts.ne) "row" = some none) (f4:findIn K (.ref x.way) "start" = some none) (f5:findIn K (.ref x.way) "goal" = some none) :
  GY K mg (dD c ts x o) yc:=by
 have A:∀ k,k < 14->kitOne K (.ref (dD c ts x o k)) (.ref yc)=some true/\kitOne K (.ref (dD c ts x o k)) (.type "ValueError")=some true/\PySem.W.exmOne K (.ref (dD c ts x o k)) (.ref yc)=some true /\
   ∀ j,j < 14->kitOne K (.ref (dD c ts x o k)) (.ref (dD c ts x o j))=some (decide (j=k))/\PySem.W.exmOne K (.ref (dD c ts x o k)) (.ref (dD c ts x o j))=some (decide (j=k)):=fun k hk=>by
  have h:=all_eq_true.mp h1 k (mem_range.mpr hk)
  simp only[Bool.and_eq_true,all_eq_true,beq_iff_eq,i4 c ts x o k hk]at h
  refine⟨h.1.1.1,h.1.1.2,h.1.2,fun j hj=>?_⟩
  have h':=h.2 j (mem_range.mpr hj)
  rw[i4 c ts x o j hj]at h'
  exact h'
 have B:∀ k,k < 14->dH K (dD c ts x o k)/\qN K (dD c ts x o k):=fun k hk=>by
  have h:=all_eq_true.mp h2 k (mem_range.mpr hk)
  simp only[Bool.and_eq_true,beq_iff_eq,i4 c ts x o k hk]at h
  obtain⟨⟨⟨⟨⟨a1,a2⟩,a3⟩,a4⟩,a5⟩,a6⟩:=h
  exact⟨⟨a1,a2,a3,a4,a5⟩,⟨a6,h3,h4⟩⟩
 exact⟨hm,fun j hj=>(B j hj).1,fun j hj=>(B j hj).2,fun k j hk hj=>((A k hk).2.2.2 j hj).1,fun k hk=>(A k hk).1,fun k hk=>(A k hk).2.1,fun k j hk hj=>((A k hk).2.2.2 j hj).2,fun k hk=>(A k hk).2.2.1,f1,f2,f3,f4,f5⟩
theorem len_of0 {α:Type}{P:List α->Prop}(h:P []):∀ us:List α,us.length=0->P us
 | [],_=>h
theorem len_of1 {α:Type}{P:List α->Prop}(h:∀ a0,P [a0]):∀ us:List α,us.length=1->P us
 | [a0],_=>h a0
theorem len_of2 {α:Type}{P:List α->Prop}(h:∀ a0 a1,P [a0,a1]):∀ us:List α,us.length=2->P us
 | [a0,a1],_=>h a0 a1
theorem len_of3 {α:Type}{P:List α->Prop}(h:∀ a0 a1 a2,P [a0,a1,a2]):∀ us:List α,us.length=3->P us
 | [a0,a1,a2],_=>h a0 a1 a2
theorem len_of4 {α:Type}{P:List α->Prop}(h:∀ a0 a1 a2 a3,P [a0,a1,a2,a3]):∀ us:List α,us.length=4->P us
 | [a0,a1,a2,a3],_=>h a0 a1 a2 a3
theorem len_of5 {α:Type}{P:List α->Prop}(h:∀ a0 a1 a2 a3 a4,P [a0,a1,a2,a3,a4]):∀ us:List α,us.length=5->P us
 | [a0,a1,a2,a3,a4],_=>h a0 a1 a2 a3 a4
structure FT (K:Frag)(mg:Str->Option Value)(n:Str)(st:Stmt)(ps:List Str)(f:Addr)(fd:FuncData):Prop where
 F:vQ K n n st f fd
 m:mg n=some (.ref f)
 k:keepIn K (.ref f)=true
 b:Binds K fd ps []
structure FM (K:Frag)(C:Addr)(n q:Str)(st:Stmt)(ps:List Str)(f:Addr)(fd:FuncData):Prop where
 F:vQ K n q st f fd
 m:eA K C n f
 b:Binds K fd ps []
section
variable {K:Frag}{mg:Str->Option Value}{C f:Addr}{n q:Str}{st:Stmt}{ps:List Str}{h:Heap}{oc:Value}{od an:Option Addr}{xQ:Array (Option Value)}{kV doc pm cdv ct:Value}
theorem mkT (X:K.In h)(G:h.Ns mainGlobals mg)(hb:∀ (kV doc pm:Value) (an:Option Addr) (cdv ct:Value) (us:List Value),us.length=ps.length->bindArgs (fnOf n n (bd st) (ax st) (ag st) .none kV doc pm an cdv ct) ⟨us,[]⟩ = pure (ps.zip us))
  (a:nsIn K mainGlobals n=some (some (.ref f))) (l:K.lookup f=some ⟨oc,od, .func (fnOf n n (bd st) (ax st) (ag st) .none kV doc pm an cdv ct),xQ⟩) (c:codeIn K cdv n=true) (k:keepIn K (.ref f)=true):∃ fd,FT K mg n st ps f fd :=
 ⟨_,io l c k,mg_of X G a,k,(io l c k).binds hb⟩
theorem mkM (hb:∀ (kV doc pm:Value) (an:Option Addr) (cdv ct:Value) (us:List Value),us.length=ps.length->bindArgs (fnOf n q (bd st) (ax st) (ag st) .none kV doc pm an cdv ct) ⟨us,[]⟩ = pure (ps.zip us))
  (a:findIn K (.ref C) n=some (some (.ref f))) (l:K.lookup f=some ⟨oc,od, .func (fnOf n q (bd st) (ax st) (ag st) .none kV doc pm an cdv ct),xQ⟩) (c:codeIn K cdv q=true) (k:keepIn K (.ref f)=true) (i:isFn K (.ref f)=true):∃ fd,FM K C n q st ps f fd :=
 ⟨_,io l c k,⟨a,i,k⟩,(io l c k).binds hb⟩
end
section
variable {l:PySem.W.OpenLaw}{w:World}{K:Frag}{h:Heap}{mg:Str->Option Value}{Od Oe Of Og Oh Oi Oj Om Oo Oq Fu Fv Fw Fx Fy Fz F0 F1:Value}{eFo:Nat}{fa cL cB cD cO cT cA cH cJ cK cY cP cU cR cE cN cM cQ cG cW cZ cF cV cX cI GZ f1 f2 f3 f4 f5 f6 f7 f8 f9 KL Dc KN Ou Ov Ow Ox Oy Oz O0 O1 O2 O3 f23 Lf O4 O5 O6 Lg Lh Li O7 O8 Lj Lk Ll Lm F2 Ln Lo Hc Cp O9 Lp OA OB Lq AV BB OC OD OE Lr OF:Addr}{t1 t2 t3 t4 t5 t6 t7 OG OH OI OJ OK OL OM ON OO OP F3 F4 F5 F6 F7 F8 F9 FC:Tok}
theorem all_mk (X:K.In h)(G:h.Ns mainGlobals mg)(Cc:mg "law" = some (.ref fa))
  {Ls FD Lu BC Lv BD:Option Addr} {Lw Lx Ly:Array (Option Value)} {Lz FE FF FG BE FH L4 BF BG BH Ah BI L5 BJ BK BL Ai BM:Value}
  {FI FJ:Addr} {L6 L7:Value} {L8 L9:Option Addr} {LB LC:Nat} {LD:Tok}  {LG LH:Array (Option Value)}
  (gcL:nsIn K mainGlobals "Land" = some (some (.ref cL)))
  (gcB:nsIn K mainGlobals "Table" = some (some (.ref cB)))
  (gcD:nsIn K mainGlobals "Told" = some (some (.ref cD)))
  (gcO:nsIn K mainGlobals "Loop" = some (some (.ref cO)))
  (gcT:nsIn K mainGlobals "Tree" = some (some (.ref cT)))
  (gcA:nsIn K mainGlobals "Lane" = some (some (.ref cA)))
  (gcH:nsIn K mainGlobals "Letter" = some (some (.ref cH)))
  (gcJ:nsIn K mainGlobals "Yard" = some (some (.ref cJ)))
  (gcK:nsIn K mainGlobals "Desk" = some (some (.ref cK)))
  (gcY:nsIn K mainGlobals "YardError" = some (some (.ref cY)))
  (gcP:nsIn K mainGlobals "NoPlaces" = some (some (.ref cP)))
  (gcU:nsIn K mainGlobals "TooMany" = some (some (.ref cU)))
  (gcR:nsIn K mainGlobals "NoRoad" = some (some (.ref cR)))
  (gcE:nsIn K mainGlobals "NoEntry" = some (some (.ref cE)))
  (gcN:nsIn K mainGlobals "NotMet" = some (some (.ref cN)))
  (gcM:nsIn K mainGlobals "NoRooms" = some (some (.ref cM)))
  (gcQ:nsIn K mainGlobals "NoPlace" = some (some (.ref cQ)))
  (gcG:nsIn K mainGlobals "NoLength" = some (some (.ref cG)))
  (gcW:nsIn K mainGlobals "NoWord" = some (some (.ref cW)))
  (gcZ:nsIn K mainGlobals "NoWay" = some (some (.ref cZ)))
  (gcF:nsIn K mainGlobals "Full" = some (some (.ref cF)))
  (gcV:nsIn K mainGlobals "NoMove" = some (some (.ref cV)))
  (gcX:nsIn K mainGlobals "NoText" = some (some (.ref cX)))
  (gcI:nsIn K mainGlobals "NoRow" = some (some (.ref cI)))
  (h1:∃ d,FT K mg "set_of" uj ["numbers"] f1 d)
  (h2:∃ d,FT K mg "is_whole" dN ["value"] f2 d)
  (h3:∃ d,FT K mg "is_within" gx ["value", "least", "most"] f3 d)
  (h4:∃ d,FT K mg "is_one_of" rb ["value", "numbers"] f4 d)
  (h5:∃ d,FT K mg "are_two_places" ug ["places", "one", "other"] f5 d)
  (h6:∃ d,FT K mg "row_fits" jW ["land", "row"] f6 d)
  (h7:∃ d,FT K mg "onward" Jr ["table", "lane", "goal"] f7 d)
  (h8:∃ d,FT K mg "rooms_of" eK ["land", "rooms"] f8 d)
  (h9:∃ d,FT K mg "is_word" pf ["word"] f9 d)
  (h10:∃ d,FT K mg "is_move" jT ["move"] KL d)
  (h11:∃ d,FT K mg "first_lanes" lF ["table", "goal"] Dc d)
  (h12:∃ d,FT K mg "lanes_ahead" lI ["table", "goal"] KN d)
  (h13:∃ d,FT K mg "way_to" l7 ["table", "lane", "goal"] Ou d)
  (h14:∃ d,FT K mg "are_parents" pq ["parents"] Ov d)
  (h15:∃ d,FT K mg "tree_lanes" uh ["parents"] Ow d)
  (h16:∃ d,FT K mg "words_of" l5 ["row"] Ox d)
  (h17:∃ d,FT K mg "number_of" eU ["word"] Oy d)
  (h18:∃ d,FT K mg "name_of" jx ["words"] Oz d)
  (h19:∃ d,FT K mg "rows_of" eT ["text"] O0 d)
  (h20:∃ d,FT K mg "make_table" eL ["rows"] O1 d)
  (h21:∃ d,FT K mg "read_table" gO ["text"] O2 d)
  (h22:∃ d,FT K mg "_law_cell_at" p5 ["_law_script", "_law_k"] O3 d)
  (h23:∃ d,FT K mg "_law_kinds" lD ["_law_e"] f23 d)
  (h24:∃ d,FT K mg "_law_yard" l9 [] Lf d)
  (h25:∃ d,FT K mg "_law_full" lB [] O4 d)
  (h26:∃ d,FT K mg "_law_land" lA ["_law_which", "_law_cell"] O5 d)
  (h27:∃ d,FT K mg "_law_deed" lC ["_law_which", "_law_cell"] O6 d)
  (a28:nsIn K mainGlobals "law" = some (some (.ref Lg)))
  (l28:K.lookup Lg=some ⟨Lz,Ls, .func (fnOf "law" "law" (bd fH) (ax fH) (ag fH) .none FE FF FG FD BE FH),Lw⟩)
  (c28:codeIn K BE "law" = true)
  (k28:keepIn K (.ref Lg)=true)
  (h29:∃ d,FM K cL "__init__" "Land.__init__" jV ["self", "places", "lanes"] Lh d)
  (h30:∃ d,FM K cL "end_of" "Land.end_of" uq ["self", "lane"] Li d)
  (h31:∃ d,FM K cL "out_of" "Land.out_of" pu ["self", "place"] O7 d)
  (h32:∃ d,FM K cL "into" "Land.into" jU ["self", "place"] O8 d)
  (h33:∃ d,FM K cU "__init__" "TooMany.__init__" GD ["self", "many"] Lj d)
  (h34:∃ d,FM K cR "__init__" "NoRoad.__init__" GF ["self", "lane"] Lk d)
  (h35:∃ d,FM K cE "__init__" "NoEntry.__init__" GG ["self", "row"] Ll d)
  (h36:∃ d,FM K cZ "__init__" "NoWay.__init__" rd ["self", "start", "goal"] Lm d)
  (h37:∃ d,FM K cB "__init__" "Table.__init__" ui ["self", "land"] F2 d)
  (h38:∃ d,FM K cD "__init__" "Told.__init__" pj ["self", "land", "rows"] Ln d)
  (h39:∃ d,FM K cO "__init__" "Loop.__init__" pw ["self", "many"] Lo d)
  (h40:∃ d,FM K cT "__init__" "Tree.__init__" ph ["self", "parents"] Hc d)
  (h41:∃ d,FM K cT "ways" "Tree.ways" l6 ["self", "place", "goal", "came"] Cp d)
  (h42:∃ d,FM K cT "child_towards" "Tree.child_towards" lG ["self", "place", "goal"] O9 d)
  (h43:∃ d,FM K cA "__init__" "Lane.__init__" ul ["self", "room"] Lp d)
  (h44:∃ d,FM K cA "front" "Lane.front" lE ["self"] OA d)
  (h45:∃ d,FM K cA "bring" "Lane.bring" lH ["self"] OB d)
  (h46:∃ d,FM K cH "__init__" "Letter.__init__" pz ["self", "start", "goal", "length", "word"] Lq d)
  (a47:findIn K (.ref cJ) "__init__" = some (some (.ref AV)))
  (l47:K.lookup AV=some ⟨L4,Lu, .func (fnOf "__init__" "Yard.__init__" (bd e9) (ax e9) (ag e9) (.ref FI) BF BG BH BC Ah BI),Lx⟩)
  (d47:K.lookup FI=some ⟨L6,L8, .seq #[Value.none] LB,LG⟩)
  (c47:codeIn K Ah "Yard.__init__" = true)
  (k47:keepIn K (.ref AV)=true)
  (i47:isFn K (.ref AV)=true)
  (a48:findIn K (.ref cJ) "post" = some (some (.ref BB)))
  (l48:K.lookup BB=some ⟨L5,Lv, .func (fnOf "post" "Yard.post" (bd dI) (ax dI) (ag dI) (.ref FJ) BJ BK BL BD Ai BM),Ly⟩)
  (d48:K.lookup FJ=some ⟨L7,L9, .seq #[Value.int 0 LD] LC,LH⟩)
  (c48:codeIn K Ai "Yard.post" = true)
  (k48:keepIn K (.ref BB)=true)
  (i48:isFn K (.ref BB)=true)
  (h49:∃ d,FM K cJ "moves_lie" "Yard.moves_lie" l8 ["self", "lane"] OC d)
  (h50:∃ d,FM K cJ "moves_like" "Yard.moves_like" py ["self", "move"] OD d)
  (h51:∃ d,FM K cJ "do" "Yard.do" Js ["self", "move"] OE d)
  (h52:∃ d,FM K cK "__init__" "Desk.__init__" p0 ["self"] Lr d)
  (h53:∃ d,FM K cK "say" "Desk.say" uk ["self", "row"] OF d)
  (mp:nsIn K mainGlobals "MOST_PLACES" = some (some (.int 12 t1)))
  (ml:nsIn K mainGlobals "MOST_LANES" = some (some (.int 40 t2)))
  (mr:nsIn K mainGlobals "MOST_ROOM" = some (some (.int 60 t3)))
  (mh:nsIn K mainGlobals "MOST_LENGTH" = some (some (.int 60 t4)))
  (mk:nsIn K mainGlobals "MOST_LETTERS" = some (some (.int 60 t5)))
  (mq:nsIn K mainGlobals "MOST_FIGURES" = some (some (.int 60 t6)))
  (p1cL:plainGet K cL Str.empty=true)
  (p2cL:hasDictIn K cL=true)
  (p3cL:plainOver K cL=true)
  (p4cL:findIn K (.ref cL) "__setattr__" = some (some (.builtin "object.__setattr__")))
  (p5cL:makesIn K cL=true)
  (p6cL:keepIn K (.ref cL)=true)
  (ncLplaces:findIn K (.ref cL) "places" = some none)
  (ncLlanes:findIn K (.ref cL) "lanes" = some none)
  (p1cB:plainGet K cB Str.empty=true)
  (p2cB:hasDictIn K cB=true)
  (p3cB:plainOver K cB=true)
  (p4cB:findIn K (.ref cB) "__setattr__" = some (some (.builtin "object.__setattr__")))
  (p5cB:makesIn K cB=true)
  (p6cB:keepIn K (.ref cB)=true)
  (ncBland:findIn K (.ref cB) "land" = some none)
  (p1cD:plainGet K cD Str.empty=true)
  (p2cD:hasDictIn K cD=true)
  (p3cD:plainOver K cD=true)
  (p4cD:findIn K (.ref cD) "__setattr__" = some (some (.builtin "object.__setattr__")))
  (p5cD:makesIn K cD=true)
  (p6cD:keepIn K (.ref cD)=true)
  (ncDland:findIn K (.ref cD) "land" = some none)
  (ncDentries:findIn K (.ref cD) "entries" = some none)
  (p1cO:plainGet K cO Str.empty=true)
  (p2cO:hasDictIn K cO=true)
  (p3cO:plainOver K cO=true)
  (p4cO:findIn K (.ref cO) "__setattr__" = some (some (.builtin "object.__setattr__")))
  (p5cO:makesIn K cO=true)
  (p6cO:keepIn K (.ref cO)=true)
  (p1cT:plainGet K cT Str.empty=true)
  (p2cT:hasDictIn K cT=true)
  (p3cT:plainOver K cT=true)
  (p4cT:findIn K (.ref cT) "__setattr__" = some (some (.builtin "object.__setattr__")))
  (p5cT:makesIn K cT=true)
  (p6cT:keepIn K (.ref cT)=true)
  (ncTland:findIn K (.ref cT) "land" = some none)
  (ncTparents:findIn K (.ref cT) "parents" = some none)
  (p1cA:plainGet K cA Str.empty=true)
  (p2cA:hasDictIn K cA=true)
  (p3cA:plainOver K cA=true)
  (p4cA:findIn K (.ref cA) "__setattr__" = some (some (.builtin "object.__setattr__")))
  (p5cA:makesIn K cA=true)
  (p6cA:keepIn K (.ref cA)=true)
  (ncArights:findIn K (.ref cA) "rights" = some none)
  (ncAreturning:findIn K (.ref cA) "returning" = some none)
  (ncAholder:findIn K (.ref cA) "holder" = some none)
  (ncApieces:findIn K (.ref cA) "pieces" = some none)
  (p1cH:plainGet K cH Str.empty=true)
  (p2cH:hasDictIn K cH=true)
  (p3cH:plainOver K cH=true)
  (p4cH:findIn K (.ref cH) "__setattr__" = some (some (.builtin "object.__setattr__")))
  (p5cH:makesIn K cH=true)
  (p6cH:keepIn K (.ref cH)=true)
  (ncHstart:findIn K (.ref cH) "start" = some none)
  (ncHgoal:findIn K (.ref cH) "goal" = some none)
  (ncHlength:findIn K (.ref cH) "length" = some none)
  (ncHword:findIn K (.ref cH) "word" = some none)
  (ncHgone:findIn K (.ref cH) "gone" = some none)
  (ncHway:findIn K (.ref cH) "way" = some none)
  (p1cJ:plainGet K cJ Str.empty=true)
  (p2cJ:hasDictIn K cJ=true)
  (p3cJ:plainOver K cJ=true)
  (p4cJ:findIn K (.ref cJ) "__setattr__" = some (some (.builtin "object.__setattr__")))
  (p5cJ:makesIn K cJ=true)
  (p6cJ:keepIn K (.ref cJ)=true)
  (ncJtable:findIn K (.ref cJ) "table" = some none)
  (ncJrooms:findIn K (.ref cJ) "rooms" = some none)
  (ncJlanes:findIn K (.ref cJ) "lanes" = some none)
  (ncJletters:findIn K (.ref cJ) "letters" = some none)
  (ncJlies:findIn K (.ref cJ) "lies" = some none)
  (ncJdone:findIn K (.ref cJ) "done" = some none)
  (p1cK:plainGet K cK Str.empty=true)
  (p2cK:hasDictIn K cK=true)
  (p3cK:plainOver K cK=true)
  (p4cK:findIn K (.ref cK) "__setattr__" = some (some (.builtin "object.__setattr__")))
  (p5cK:makesIn K cK=true)
  (p6cK:keepIn K (.ref cK)=true)
  (ncKyard:findIn K (.ref cK) "yard" = some none)
  (x1cP:aM K cP none=true)
  (x2cP:keepIn K (.ref cP)=true)
  (x1cU:aM K cU (some (.ref Lj))=true)
  (x2cU:keepIn K (.ref cU)=true)
  (ncUmany:findIn K (.ref cU) "many" = some none)
  (x1cR:aM K cR (some (.ref Lk))=true)
  (x2cR:keepIn K (.ref cR)=true)
  (ncRlane:findIn K (.ref cR) "lane" = some none)
  (x1cE:aM K cE (some (.ref Ll))=true)
  (x2cE:keepIn K (.ref cE)=true)
  (ncErow:findIn K (.ref cE) "row" = some none)
  (x1cN:aM K cN none=true)
  (x2cN:keepIn K (.ref cN)=true)
  (x1cM:aM K cM none=true)
  (x2cM:keepIn K (.ref cM)=true)
  (x1cQ:aM K cQ none=true)
  (x2cQ:keepIn K (.ref cQ)=true)
  (x1cG:aM K cG none=true)
  (x2cG:keepIn K (.ref cG)=true)
  (x1cW:aM K cW none=true)
  (x2cW:keepIn K (.ref cW)=true)
  (x1cZ:aM K cZ (some (.ref Lm))=true)
  (x2cZ:keepIn K (.ref cZ)=true)
  (ncZstart:findIn K (.ref cZ) "start" = some none)
  (ncZgoal:findIn K (.ref cZ) "goal" = some none)
  (x1cF:aM K cF none=true)
  (x2cF:keepIn K (.ref cF)=true)
  (x1cV:aM K cV none=true)
  (x2cV:keepIn K (.ref cV)=true)
  (x1cX:aM K cX none=true)
  (x2cX:keepIn K (.ref cX)=true)
  (x1cI:aM K cI none=true)
  (x2cI:keepIn K (.ref cI)=true)
  (mf:nsIn K mainGlobals "FIGURES" = some (some (.str (Str.ofString "0123456789") t7)))
  (w1cB:PySem.W.readsIn K cB (.type "type")=true)
  (w2cB:PySem.W.findCls K (.ref cB) (.type "type") "__init__" = some (.val (.ref F2)))
  (w3cB:PySem.W.specialIn K (.ref cB) "__getattribute__" = some (some (.builtin "type.__getattribute__")))
  (kk1:kitOne K (.type "int") (.type "int")=some true)
  (kk2:kitOne K (.type "int") (.type "bool")=some false)
  (kk3:kitOne K (.type "bool") (.type "int")=some true)
  (kk4:kitOne K (.type "bool") (.type "bool")=some true)
  (kk5:kitOne K (.type "NoneType") (.type "int")=some false)
  (kk6:kitOne K (.type "str") (.type "str")=some true)
  (kk7:kitOne K (.type "int") (.type "str")=some false)
  (kk8:kitOne K (.type "tuple") (.type "tuple")=some true)
  (kd:K45.AS K cY [cP,cU,cR,cE,cN,cM,cQ,cG,cW,cZ,cF,cV,cX,cI]=true)
  (xc:K45.AU K [cP,cU,cR,cE,cN,cM,cQ,cG,cW,cZ,cF,cV,cX,cI]=true)
  (y2:PySem.W.specialIn K (.builtin "object.__class__") "__get__" = some (some (.builtin "getset_descriptor.__get__")))
  (y3:PySem.W.takesIn K (.builtin "object.__class__")=some true)
  (gFo:nsIn K mainGlobals "FORMS" = some (some (.ref GZ)))
  (lFo:K.lookup GZ=some ⟨.type "dict",none, .dict (List.toArray [DictEntry.mk (PyData.keyHash w.params "rowfirst") (.str "rowfirst" OG) Od,DictEntry.mk (PyData.keyHash w.params "loop") (.str "loop" OH) Oe,DictEntry.mk (PyData.keyHash w.params "tree") (.str "tree" OI) Of,DictEntry.mk (PyData.keyHash w.params "land") (.str "land" OJ) Og,DictEntry.mk (PyData.keyHash w.params "out") (.str "out" OK) Oh,DictEntry.mk (PyData.keyHash w.params "rooms") (.str "rooms" OL) Oi,DictEntry.mk (PyData.keyHash w.params "look") (.str "look" OM) Oj,DictEntry.mk (PyData.keyHash w.params "post") (.str "post" ON) Om,DictEntry.mk (PyData.keyHash w.params "moves") (.str "moves" OO) Oo,DictEntry.mk (PyData.keyHash w.params "do in") (.str "do in" OP) Oq,DictEntry.mk (PyData.keyHash w.params "do on") (.str "do on" F3) Fu,DictEntry.mk (PyData.keyHash w.params "do lie") (.str "do lie" F4) Fv,DictEntry.mk (PyData.keyHash w.params "do back") (.str "do back" F5) Fw,DictEntry.mk (PyData.keyHash w.params "run") (.str "run" F6) Fx,DictEntry.mk (PyData.keyHash w.params "lane") (.str "lane" F7) Fy,DictEntry.mk (PyData.keyHash w.params "lying") (.str "lying" F8) Fz,DictEntry.mk (PyData.keyHash w.params "still") (.str "still" F9) F0,DictEntry.mk (PyData.keyHash w.params "waits") (.str "waits" FC) F1]) eFo,#[]⟩)
  (sFo:(GZ == sysModules)=false)
  (z0:nsIn K mainGlobals "isinstance" = some none)
  (z1:nsIn K mainGlobals "int" = some none)
  (z2:nsIn K mainGlobals "bool" = some none)
  (z3:nsIn K mainGlobals "len" = some none)
  (z4:nsIn K mainGlobals "enumerate" = some none)
  (z5:nsIn K mainGlobals "tuple" = some none)
  (z6:nsIn K mainGlobals "range" = some none)
  (z7:nsIn K mainGlobals "list" = some none)
  (z8:nsIn K mainGlobals "all" = some none)
  (z9:nsIn K mainGlobals "sum" = some none)
  (z10:nsIn K mainGlobals "abs" = some none)
  (z11:nsIn K mainGlobals "str" = some none)
  (z12:nsIn K mainGlobals "min" = some none)
  (z13:nsIn K mainGlobals "max" = some none)
  (z14:nsIn K mainGlobals "reversed" = some none)
  (z15:nsIn K mainGlobals "zip" = some none)
  (z16:nsIn K mainGlobals "ValueError" = some none)
  : ∃ fd:FuncData,(∀ (s:Shared)(v:Value),BindsTo s fd ⟨[v],[]⟩ [("_law_script",v)])/\∀ base:Heap,K.In base->base.Ns mainGlobals mg->v7 l.prog w K mg base aE 11 fa fd ["_law_script"] (mE K):=by
 have e:=Cc.symm.trans (mg_of X G a28)
 cases e
 have T:Txt mg:=⟨mg_none_of X G z0,mg_none_of X G z1,mg_none_of X G z2,mg_none_of X G z3,mg_none_of X G z4,mg_none_of X G z5,mg_none_of X G z6,mg_none_of X G z7,mg_none_of X G z8,mg_none_of X G z9,mg_none_of X G z10,mg_none_of X G z11,mg_none_of X G z12,mg_none_of X G z13,mg_none_of X G z14,mg_none_of X G z15,mg_none_of X G z16⟩
 obtain⟨d1,H1⟩:=h1
 obtain⟨d2,H2⟩:=h2
 obtain⟨d3,H3⟩:=h3
 obtain⟨d4,H4⟩:=h4
 obtain⟨d5,H5⟩:=h5
 obtain⟨d6,H6⟩:=h6
 obtain⟨d7,H7⟩:=h7
 obtain⟨d8,H8⟩:=h8
 obtain⟨d9,H9⟩:=h9
 obtain⟨d10,zU⟩:=h10
 obtain⟨d11,Hd⟩:=h11
 obtain⟨d12,He⟩:=h12
 obtain⟨d13,Hf⟩:=h13
 obtain⟨d14,Hg⟩:=h14
 obtain⟨d15,Hh⟩:=h15
 obtain⟨d16,BN⟩:=h16
 obtain⟨d17,Hi⟩:=h17
 obtain⟨d18,Hj⟩:=h18
 obtain⟨d19,Hk⟩:=h19
 obtain⟨d20,Hl⟩:=h20
 obtain⟨d21,Hm⟩:=h21
 obtain⟨d22,Hn⟩:=h22
 obtain⟨d23,Ho⟩:=h23
 obtain⟨d24,Hq⟩:=h24
 obtain⟨d25,Hr⟩:=h25
 obtain⟨d26,Hs⟩:=h26
 obtain⟨d27,Ht⟩:=h27
 obtain⟨d29,Cq⟩:=h29
 obtain⟨d30,LI⟩:=h30
 obtain⟨d31,LJ⟩:=h31
 obtain⟨d32,LK⟩:=h32
 obtain⟨d33,LM⟩:=h33
 obtain⟨d34,LN⟩:=h34
 obtain⟨d35,LP⟩:=h35
 obtain⟨d36,LQ⟩:=h36
 obtain⟨d37,FK⟩:=h37
 obtain⟨d38,Hu⟩:=h38
 obtain⟨d39,Hv⟩:=h39
 obtain⟨d40,Hw⟩:=h40
 obtain⟨d41,FL⟩:=h41
 obtain⟨d42,LR⟩:=h42
 obtain⟨d43,FN⟩:=h43
 obtain⟨d44,LS⟩:=h44
 obtain⟨d45,LU⟩:=h45
 obtain⟨d46,Hx⟩:=h46
 obtain⟨d49,LV⟩:=h49
 obtain⟨d50,LW⟩:=h50
 obtain⟨d51,LX⟩:=h51
 obtain⟨d52,Hy⟩:=h52
 obtain⟨d53,LZ⟩:=h53
 have F28:=io (st:=fH) l28 c28 k28
 have F47:yN K "__init__" "Yard.__init__" e9 AV _:=⟨⟨_,_,_,_,_,_,_,_,_,_,rfl,l47,c47⟩,k47⟩
 have F48:yN K "post" "Yard.post" dI BB _:=⟨⟨_,_,_,_,_,_,_,_,_,_,rfl,l48,c48⟩,k48⟩
 have L:oH K ⟨cP,cU,cR,cL⟩:=⟨⟨p1cL,p2cL,p3cL,p4cL⟩,ncLplaces,ncLlanes⟩
 have KD:GY K mg (dD ⟨cP,cU,cR,cL⟩ ⟨cO,cT,cB,cD,cE⟩ ⟨cQ,cG,cW,cZ,cF⟩ ⟨cN,cM,cV,cX,cI⟩) cY:=uV (c:=⟨cP,cU,cR,cL⟩) (ts:=⟨cO,cT,cB,cD,cE⟩) (x:=⟨cQ,cG,cW,cZ,cF⟩) (o:=⟨cN,cM,cV,cX,cI⟩) (fun j hj=>match j,hj with | 0,_=>(mg_of X G gcP) | 1,_=>(mg_of X G gcU) | 2,_=>(mg_of X G gcR) | 3,_=>(mg_of X G gcE) | 4,_=>(mg_of X G gcN) | 5,_=>(mg_of X G gcM) | 6,_=>(mg_of X G gcQ) | 7,_=>(mg_of X G gcG) | 8,_=>(mg_of X G gcW) | 9,_=>(mg_of X G gcZ) | 10,_=>(mg_of X G gcF) | 11,_=>(mg_of X G gcV) | 12,_=>(mg_of X G gcX) | 13,_=>(mg_of X G gcI) | n + 14,h=>absurd h (not_lt.mpr (Nat.le_add_left _ _))) kd xc y2 y3 ncUmany ncRlane ncErow ncZstart ncZgoal
 have x1:=KD.x 1 (by decide)
 have x2:=KD.x 2 (by decide)
 have x3:=KD.x 3 (by decide)
 have x9:=KD.x 9 (by decide)
 have XM:kY K mg "NoRooms" cM:=⟨(mg_of X G gcM),x1cM,x2cM⟩
 have XQ:kY K mg "NoPlace" cQ:=⟨(mg_of X G gcQ),x1cQ,x2cQ⟩
 have XG:kY K mg "NoLength" cG:=⟨(mg_of X G gcG),x1cG,x2cG⟩
 have XW:kY K mg "NoWord" cW:=⟨(mg_of X G gcW),x1cW,x2cW⟩
 have XF:kY K mg "Full" cF:=⟨(mg_of X G gcF),x1cF,x2cF⟩
 have XV:kY K mg "NoMove" cV:=⟨(mg_of X G gcV),x1cV,x2cV⟩
 have XX:kY K mg "NoText" cX:=⟨(mg_of X G gcX),x1cX,x2cX⟩
 have XI:kY K mg "NoRow" cI:=⟨(mg_of X G gcI),x1cI,x2cI⟩
 have XN:Nw K mg cN:=⟨(mg_of X G gcN),x1cN,x2cN⟩
 have XC:Exc K mg ⟨cP,cU,cR,cL⟩ Lj Lk _ _:=⟨(mg_of X G gcP),x1cP,x2cP,(mg_of X G gcU),x1cU,x2cU,x1,ncUmany,LM.m.fn,LM.F,LM.b,(mg_of X G gcR),x1cR,x2cR,x2,ncRlane,LN.m.fn,LN.F,LN.b⟩
 have XZ:NN K mg cZ Lm _:=⟨(mg_of X G gcZ),x1cZ,x2cZ,x9,ncZstart,ncZgoal,LQ.m.fn,LQ.F,LQ.b⟩
 have B:Nf K mg ⟨cO,cT,cB,cD,cE⟩ F2 Ll _ _:=⟨⟨p1cB,p2cB,p3cB,p4cB⟩,ncBland,⟨p1cD,p2cD,p3cD,p4cD⟩,ncDland,ncDentries,(mg_of X G gcB),⟨w1cB,w2cB,w3cB,FK.m.kp⟩,FK.b,(mg_of X G gcE),x1cE,x2cE,x3,ncErow,LP.m.fn,LP.F,LP.b⟩
 have BT:sI K mg ⟨cO,cT,cB,cD,cE⟩ F2 _:=⟨⟨p1cT,p2cT,p3cT,p4cT⟩,ncTland,ncTparents,(mg_of X G gcB),⟨w1cB,w2cB,w3cB,FK.m.kp⟩,FK.b⟩
 have Z:qO K:=⟨kk1,kk2,kk3,kk4,kk5⟩
 have ZS:EZ K:=⟨kk6,kk7,kk8⟩
 have M:DJ K ⟨cP,cU,cR,cL⟩ O7 O8 _ _:=⟨LJ.m,LK.m,LJ.b,LK.b⟩
 have ME:DQ K ⟨cP,cU,cR,cL⟩ Li _:=⟨LI.m,LI.b⟩
 have Y:sH K ⟨cJ,cA,cH⟩:=⟨⟨p1cJ,p2cJ,p3cJ,p4cJ⟩,ncJtable,ncJrooms,ncJlanes,ncJletters,ncJlies,ncJdone,⟨p1cH,p2cH,p3cH,p4cH⟩,ncHstart,ncHgoal,ncHlength,ncHword,ncHgone,ncHway,⟨⟨p1cA,p2cA,p3cA,p4cA⟩,ncArights,ncAreturning,ncAholder,ncApieces⟩⟩
 have OQ:Dk K cK:=⟨⟨p1cK,p2cK,p3cK,p4cK⟩,ncKyard⟩
 have DB:sM l.prog w K GZ ["rowfirst", "loop", "tree", "land", "out", "rooms", "look", "post", "moves", "do in", "do on", "do lie", "do back", "run", "lane", "lying", "still", "waits"]:=sx (rs:=[("rowfirst",OG,Od),("loop",OH,Oe),("tree",OI,Of),("land",OJ,Og),("out",OK,Oh),("rooms",OL,Oi),("look",OM,Oj),("post",ON,Om),("moves",OO,Oo),("do in",OP,Oq),("do on",F3,Fu),("do lie",F4,Fv),("do back",F5,Fw),("run",F6,Fx),("lane",F7,Fy),("lying",F8,Fz),("still",F9,F0),("waits",FC,F1)]) sFo lFo (by show(["rowfirst", "loop", "tree", "land", "out", "rooms", "look", "post", "moves", "do in", "do on", "do lie", "do back", "run", "lane", "lying", "still", "waits"]:List Str).Nodup;decide +kernel)
 have by0:=mn (kV:=BF) (doc:=BG) (pm:=BH) (cdv:=Ah) (ct:=BI) (an:=BC) d47 rfl
 have by1:=mj (kV:=BF) (doc:=BG) (pm:=BH) (cdv:=Ah) (ct:=BI) (an:=BC) d47 rfl
 have bp0:=kR (kV:=BJ) (doc:=BK) (pm:=BL) (cdv:=Ai) (ct:=BM) (an:=BD) d48 rfl
 have bp1:=kQ (kV:=BJ) (doc:=BK) (pm:=BL) (cdv:=Ai) (ct:=BM) (an:=BD) d48 rfl
 have Mi:Mk K cL Lh:=⟨p5cL,Cq.m.at_,Cq.m.fn,p6cL⟩
 have Mt:Mk K cD Ln:=⟨p5cD,Hu.m.at_,Hu.m.fn,p6cD⟩
 have My:Mk K cJ AV:=⟨p5cJ,a47,i47,p6cJ⟩
 have Ma:Mk K cA Lp:=⟨p5cA,FN.m.at_,FN.m.fn,p6cA⟩
 have Mh:Mk K cH Lq:=⟨p5cH,Hx.m.at_,Hx.m.fn,p6cH⟩
 have Mo:Mk K cO Lo:=⟨p5cO,Hv.m.at_,Hv.m.fn,p6cO⟩
 have Mr:Mk K cT Hc:=⟨p5cT,Hw.m.at_,Hw.m.fn,p6cT⟩
 have Mk_:Mk K cK Lr:=⟨p5cK,Hy.m.at_,Hy.m.fn,p6cK⟩
 refine⟨fnOf "law" "law" (bd fH) (ax fH) (ag fH) .none FE FF FG FD BE FH,fun s v => .of_eq rfl,fun base _ _=>?_⟩
 have Hz:v7 l.prog w K mg base aE 2 f3 _ _ c9:=nZ H3.F T H2.m H2.F H2.b
 have Gw:v7 l.prog w K mg base aE 2 f3 _ _ cf:=lM H3.F T Z H2.m H2.F H2.b
 have GW:v7 l.prog w K mg base aE 1 f2 _ _ dM:=iM H2.F T Z
 have G2:v7 l.prog w K mg base aE 3 f5 _ _ m9:=uA H5.F H3.m H3.k H3.b Hz
 have Gi:v7 l.prog w K mg base (cx l.prog w) 4 Lh _ _ (gN K ⟨cP,cU,cR,cL⟩):=rO Cq.F T L XC H3.m H3.k H3.b Hz H5.m H5.k H5.b G2 (mg_of X G mp) (mg_of X G ml)
 have Go:v7 l.prog w K mg base aE 2 f4 _ _ (oX K):=uH H4.F T H2.m H2.F H2.b
 have GoD:v7 l.prog w K mg base aE 2 f4 _ _ ls:=rJ H4.F T H2.m H2.F H2.b
 have Gf:v7 l.prog w K mg base aE 4 f6 _ _ (ly ⟨cP,cU,cR,cL⟩):=rP H6.F T L M H5.m H5.k H5.b G2 H4.m H4.k H4.b Go (uG LJ.F T L) (rN LK.F T L)
 have G1:v7 l.prog w K mg base aE 1 F2 _ _ (mB K):=uC FK.F
 have Gse:v7 l.prog w K mg base aE 1 f1 _ _ (oU K):=uD H1.F
 have Gt:v7 l.prog w K mg base (cx l.prog w) 5 Ln _ _ (lq l.prog w K ⟨cP,cU,cR,cL⟩ ⟨cO,cT,cB,cD,cE⟩):=rG Hu.F T B G1 H6.m H6.k H6.b Gf H1.m H1.k H1.b Gse
 have Ge:v7 l.prog w K mg base aE 1 Li _ _ (ub ⟨cP,cU,cR,cL⟩ Prod.snd):=uL LI.F L
 have Glo:v7 l.prog w K mg base (cx l.prog w) 3 Lo _ _ (fG ⟨cP,cU,cR,cL⟩ ⟨cO,cT,cB,cD,cE⟩):=rK Hv.F XC ⟨H3.m,H3.k,H3.b,Hz⟩ (mg_of X G mp)
 have Gpa:v7 l.prog w K mg base aE 3 Ov _ _ (oW K):=uF Hg.F T H3.m H3.k H3.b Gw (mg_of X G mp)
 have Gtl:v7 l.prog w K mg base aE 1 Ow _ _ (oS K):=uB Hh.F T
 have Gtr:v7 l.prog w K mg base (cx l.prog w) 6 Hc _ _ (jk K ⟨cP,cU,cR,cL⟩ ⟨cO,cT,cB,cD,cE⟩):=rF Hw.F T XC BT G1 Hg.m Hg.k Hg.b Gpa Hh.m Hh.k Hh.b Gtl Mi (mg_of X G gcL) Cq.b Gi
 have Gch:v7 l.prog w K mg base aE 1 O9 _ _ (jt ⟨cO,cT,cB,cD,cE⟩):=qc LR.F BT
 have OR:v7 l.prog w K mg base aE 3 Cp _ _ (gw ⟨cO,cT,cB,cD,cE⟩):=(pQ FL.F BT ⟨LR.m,LR.b⟩ Gch).mono (by decide)
 have Ww:vp K cT Cp _ (JT ⟨cO,cT,cB,cD,cE⟩):=W_T (ts:=⟨cO,cT,cB,cD,cE⟩) ⟨p1cT,p2cT,p3cT,p4cT⟩ FL.m FL.b
 have FO:Wy K cT Cp _ (JY ⟨cO,cT,cB,cD,cE⟩):=W_Y (ts:=⟨cO,cT,cB,cD,cE⟩) ⟨p1cT,p2cT,p3cT,p4cT⟩ ncTland FL.m FL.b
 have OS:v7 l.prog w K mg base aE 3 Cp _ _ (ji (JT ⟨cO,cT,cB,cD,cE⟩)):=Eh OR
 have GwY:v7 l.prog w K mg base aE 3 Cp _ _ (jh (JY ⟨cO,cT,cB,cD,cE⟩)):=EW OR
 have Gfi:v7 l.prog w K mg base aE 4 Dc _ _ (js ⟨cP,cU,cR,cL⟩ cT (JT ⟨cO,cT,cB,cD,cE⟩)):=qb Hd.F T L Ww ncTland OS
 have Gon:v7 l.prog w K mg base aE 4 f7 _ _ (tZ ⟨cP,cU,cR,cL⟩ cT (JT ⟨cO,cT,cB,cD,cE⟩)):=DS H7.F L Ww ncTland OS ME Ge
 have Gah:v7 l.prog w K mg base aE 5 KN _ _ (jv ⟨cP,cU,cR,cL⟩ cT (JT ⟨cO,cT,cB,cD,cE⟩)):=qe He.F T Ww Hd.m Hd.k Hd.b Gfi H7.m H7.k H7.b Gon
 have Gwt:v7 l.prog w K mg base (cx l.prog w) 6 Ou _ _ (jj ⟨cP,cU,cR,cL⟩ cT (JT ⟨cO,cT,cB,cD,cE⟩) cN):=pR Hf.F T L Ww ncTland XN H3.m H3.k H3.b Hz H4.m H4.k H4.b GoD He.m He.k He.b Gah
 have Gro:v7 l.prog w K mg base (cx l.prog w) 3 f8 _ _ (jl K ⟨cP,cU,cR,cL⟩ cM):=pS H8.F T L XM H3.m H3.k H3.b Gw (mg_of X G mr)
 have Ka:v7 l.prog w K mg base aE 2 f9 _ _ lp:=rE H9.F T H2.m H2.k H2.b GW
 have OT:v7 l.prog w K mg base aE 1 Lp _ _ (mD cA):=uJ FN.F Y.L
 have Gfr:v7 l.prog w K mg base aE 1 OA _ _ (jr cA):=qa LS.F Y.L
 have Gbr:v7 l.prog w K mg base (cx l.prog w) 1 OB _ _ (ju cA cV):=qd LU.F Y.L XV
 have Gle:v7 l.prog w K mg base aE 1 Lq _ _ (oZ cH):=uI Hx.F Y
 have Gy:v7 l.prog w K mg base (cx l.prog w) 4 AV _ _ (oR K ⟨cP,cU,cR,cL⟩ cT (JY ⟨cO,cT,cB,cD,cE⟩) ⟨cJ,cA,cH⟩ cM):=u9 F47 T L Y FO H8.m H8.k H8.b Gro (mg_of X G gcA) Ma FN.b OT
 have Gp:v7 l.prog w K mg base (cx l.prog w) 4 BB _ _ (lr K ⟨cP,cU,cR,cL⟩ cT (JY ⟨cO,cT,cB,cD,cE⟩) ⟨cJ,cA,cH⟩ ⟨cQ,cG,cW,cZ,cF⟩):=rH F48 T L Y FO GwY H3.m H3.k H3.b Gw H9.m H9.k H9.b Ka (mg_of X G gcH) Mh Hx.b Gle (mg_of X G mh) (mg_of X G mk) XQ XG XW XZ XF
 have Gml:v7 l.prog w K mg base aE 2 OC _ _ (jm K ⟨cJ,cA,cH⟩):=pT LV.F Y ⟨LS.m,LS.b,Gfr⟩
 have Gim:v7 l.prog w K mg base aE 2 KL _ _ lw:=rM zU.F T ZS H2.m H2.k H2.b GW
 have Glk:v7 l.prog w K mg base aE 7 OD _ _ (lu K ⟨cJ,cA,cH⟩):=rL LW.F T Y ⟨LV.m,LV.b,Gml⟩ ⟨zU.m,zU.k,zU.b,Gim⟩ ⟨H3.m,H3.k,H3.b,Gw⟩
 have Gdo:v7 l.prog w K mg base (cx l.prog w) 8 OE _ _ (ua K ⟨cJ,cA,cH⟩ cV):=Fe LX.F Y ⟨LW.m,LW.b,Glk⟩ XV
 have OU:v7 l.prog w K mg base aE 1 Ox _ _ gs:=pP BN.F
 have Gnu:v7 l.prog w K mg base aE 1 Oy _ _ gL:=og Hi.F T (mg_of X G mf) (mg_of X G mq)
 have Gnm:v7 l.prog w K mg base aE 1 Oz _ _ gM:=oi Hj.F
 have Grf:v7 l.prog w K mg base aE 2 O0 _ _ (gK K):=oa Hk.F T kk6 BN.m BN.k BN.b OU
 have Gmt:v7 l.prog w K mg base (cx l.prog w) 6 O1 _ _ (oY ⟨cP,cU,cR,cL⟩):=pU Hl.F T ⟨Mi,(mg_of X G gcL),Cq.b,Gi⟩ ⟨Hi.m,Hi.k,Hi.b,Gnu⟩
 have Grt:v7 l.prog w K mg base (BU l.prog w) 7 O2 _ _ (fF ⟨cN,cM,cV,cX,cI⟩):=lN (c:=⟨cP,cU,cR,cL⟩) Hm.F XX (mg_of X G gcY) (KD.ey 0 (by decide)) ⟨Hk.m,Hk.k,Hk.b,Grf⟩ ⟨Hl.m,Hl.k,Hl.b,Gmt⟩
 have Gdk:v7 l.prog w K mg base aE 1 Lr _ _ (lz cK):=rQ Hy.F OQ
 have Gsa:v7 l.prog w K mg base (cx l.prog w) 2 OF _ _ (gJ cK ⟨cN,cM,cV,cX,cI⟩):=uE LZ.F T kk6 XI ⟨BN.m,BN.k,BN.b,OU⟩ ⟨Hj.m,Hj.k,Hj.b,Gnm⟩ (mg_of X G gFo) DB (by decide +kernel)
 have Mb:GU l.prog w K mg base ⟨cP,cU,cR,cL⟩ ⟨cO,cT,cB,cD,cE⟩ Hc _:=⟨Mr,(mg_of X G gcT),Hw.b,Gtr⟩
 have OV:Kk l.prog w K mg base ⟨cP,cU,cR,cL⟩ ⟨cO,cT,cB,cD,cE⟩ ⟨cJ,cA,cH⟩ cM AV _:=⟨My,(mg_of X G gcJ),by1,by0,Gy⟩
 have Gly:v7 l.prog w K mg base aE 8 Lf _ _ (jn K ⟨cP,cU,cR,cL⟩ ⟨cO,cT,cB,cD,cE⟩ ⟨cJ,cA,cH⟩):=pV Hq.F FO Mb OV
 have OW:Kn l.prog w K mg base ⟨cP,cU,cR,cL⟩ ⟨cO,cT,cB,cD,cE⟩ ⟨cJ,cA,cH⟩ Lf _:=⟨Hq.m,Hq.k,Hq.b,Gly⟩
 have OX:Km l.prog w K mg base ⟨cP,cU,cR,cL⟩ ⟨cO,cT,cB,cD,cE⟩ ⟨cJ,cA,cH⟩ ⟨cQ,cG,cW,cZ,cF⟩ BB _:=⟨⟨a48,i48,k48⟩,⟨_,bp1⟩,bp0,Gp⟩
 have Glf:v7 l.prog w K mg base (cx l.prog w) 9 O4 _ _ (jp ⟨cQ,cG,cW,cZ,cF⟩):=pX Hr.F T Y FO OW OX
 have Gll:v7 l.prog w K mg base (cx l.prog w) 8 O5 _ _ (jo (dD ⟨cP,cU,cR,cL⟩ ⟨cO,cT,cB,cD,cE⟩ ⟨cQ,cG,cW,cZ,cF⟩ ⟨cN,cM,cV,cX,cI⟩)):=pW (c:=⟨cP,cU,cR,cL⟩) (ts:=⟨cO,cT,cB,cD,cE⟩) (x:=⟨cQ,cG,cW,cZ,cF⟩) (o:=⟨cN,cM,cV,cX,cI⟩) Hs.F ⟨Mo,(mg_of X G gcO),Hv.b,Glo⟩ ⟨Mi,(mg_of X G gcL),Cq.b,Gi⟩ ⟨Mt,(mg_of X G gcD),Hu.b,Gt⟩ Mb ⟨Hf.m,Hf.k,Hf.b,Gwt⟩
 have DD_:tE l.prog w K mg base ⟨cP,cU,cR,cL⟩ ⟨cO,cT,cB,cD,cE⟩ ⟨cJ,cA,cH⟩ ⟨cQ,cG,cW,cZ,cF⟩ ⟨cN,cM,cV,cX,cI⟩ cK:=⟨Y,OQ,⟨_,_,FO⟩,⟨_,_,⟨Hs.m,Hs.k,Hs.b,Gll⟩⟩,⟨_,_,Mb⟩,⟨_,_,OV⟩,⟨_,_,OW⟩,⟨_,_,OX⟩,⟨_,_,⟨Hr.m,Hr.k,Hr.b,Glf⟩⟩,⟨_,_,⟨Ma,(mg_of X G gcA),FN.b,OT⟩⟩,⟨_,_,⟨LU.m,LU.b,Gbr⟩⟩,⟨_,_,⟨LX.m,LX.b,Gdo⟩⟩,⟨_,_,⟨Hm.m,Hm.k,Hm.b,Grt⟩⟩,⟨_,_,⟨Mk_,(mg_of X G gcK),Hy.b,Gdk⟩⟩,⟨_,_,⟨LZ.m,LZ.b,Gsa⟩⟩⟩
 have Gde:v7 l.prog w K mg base (BU l.prog w) 10 O6 _ _ (jq (dD ⟨cP,cU,cR,cL⟩ ⟨cO,cT,cB,cD,cE⟩ ⟨cQ,cG,cW,cZ,cF⟩ ⟨cN,cM,cV,cX,cI⟩)):=pY Ht.F T DD_
 have Gce:v7 l.prog w K mg base aE 1 O3 _ _ (l0 K):=rR Hn.F T
 exact uK (cs:=(dD ⟨cP,cU,cR,cL⟩ ⟨cO,cT,cB,cD,cE⟩ ⟨cQ,cG,cW,cZ,cF⟩ ⟨cN,cM,cV,cX,cI⟩)) (yc:=cY) F28 T ⟨KD,(mg_of X G gcY),fun _ _ _ hp=>pZ Ho.F T KD hp,Ho.m,Ho.k,Ho.b,⟨_,_,⟨Ht.m,Ht.k,Ht.b,Gde⟩⟩,⟨_,_,⟨Hn.m,Hn.k,Hn.b,Gce⟩⟩⟩
end
theorem walk {l:PySem.W.OpenLaw}{q:Program}{loose:List Str}{XP:(Str->Option Value)->Heap->Prop}{YP:World->Heap->Prop}{d:DefRec}{K:Params->Frag}(hn:l.most=some 63)(CM:d.params.defaults=[])
  (hY:∀ (w:World)(h:Heap),YP w h->(K w.params).In h)
  (F:∀ (w:World)(mg:Str->Option Value)(fa:Addr)(h:Heap),(K w.params).In h->h.Ns mainGlobals mg->mg d.name=some (.ref fa) ->
   ∃ fd:FuncData,(∀ (s:Shared)(u:Value),BindsTo s fd ⟨[u],[]⟩ [("_law_script",u)])/\∀ base:Heap,(K w.params).In base->base.Ns mainGlobals mg->v7 l.prog w (K w.params) mg base aE 11 fa fd ["_law_script"] (mE (K w.params))) :
  PySem.W.WalkO q loose XP YP l.row.toRowW d [] (fun f vs=>PySem.call f vs) :=
 L2.zP (n:=63) (k:=11) (x := "_law_script") (CX:=fun _=>aE) (sp:=fun w=>mE (K w.params)) hn (by decide) CM ⟨rfl,by decide,by decide⟩ hY F (fun _ _ a ns hl _ hS=>⟨a,ns,rfl,hS,fun _=>rfl⟩) fun _ _ _ _ _ z=>z
end K45
local macro_rules | `(tactic| o_head ($f $a $b $c $d)) => `(tactic| o_head (L2.lHook $a $b $c $d (by kernel_rfl)))
local macro_rules | `(tactic| symm_saturate) => `(tactic| first | (refine' K45.mkT (by assumption) (by assumption) ?b ?a ?l ?c ?k; (case b => first | exact fun _ _ _ _ _ _ => K45.len_of0 rfl | exact fun _ _ _ _ _ _ => K45.len_of1 (fun _ => rfl) | exact fun _ _ _ _ _ _ => K45.len_of2 (fun _ _ => rfl) | exact fun _ _ _ _ _ _ => K45.len_of3 (fun _ _ _ => rfl) | exact fun _ _ _ _ _ _ => K45.len_of4 (fun _ _ _ _ => rfl) | exact fun _ _ _ _ _ _ => K45.len_of5 (fun _ _ _ _ _ => rfl)); (case a => k_is); (case l => k_is); (case c => k_is); (case k => k_is)) | (refine' K45.mkM ?b ?a ?l ?c ?k ?i; (case b => first | exact fun _ _ _ _ _ _ => K45.len_of0 rfl | exact fun _ _ _ _ _ _ => K45.len_of1 (fun _ => rfl) | exact fun _ _ _ _ _ _ => K45.len_of2 (fun _ _ => rfl) | exact fun _ _ _ _ _ _ => K45.len_of3 (fun _ _ _ => rfl) | exact fun _ _ _ _ _ _ => K45.len_of4 (fun _ _ _ _ => rfl) | exact fun _ _ _ _ _ _ => K45.len_of5 (fun _ _ _ _ _ => rfl)); (case a => k_is); (case l => k_is); (case c => k_is); (case k => k_is); (case i => k_is)))
structure PySem.W.Fast:Prop where
 (tw4016723888702451322 tw6737604530556733126 tw12509225561322656046 tw9684021467389353711 tw9985328176245813398 tw11296759733170879309 tw4931471095723364638 tw9953688509312968233 tw14597274234018627615 tw1157875374820818336 tw10567855242386484126 tw13720888714010013724 tw6882983202630285349 tw2089391506929312842 tw5118921766256407772 tw11315409327442631272 tw6163699108328368524 tw17957642456477556282 tw11385046807660007802 tw5357155344136324040 tw13183718000356163595 tw5807095473703246681 tw13244630622597957810 tw10551799327286711460 tw8037123272759160259 tw491717866718705001 tw2556056917233983693 tw1699575272704354218 tw13870178114407425966 tw6929081171485580053 tw16830472365020235675 tw2253395917797606502 tw6952494339675026050 tw1745550092801997942 tw12156634265804356532 tw2073522731808683464 tw15923777641486905211 tw7184909058408148056 tw6364063111501703919 tw17877819239173650763 tw14237424227367126053 tw7715576883473168821 tw12939847148536595268 tw12783358164467752934 tw9270380278603318672 tw3564097709040549897 tw4535797001907294131 tw17452077116383705255 tw18114660778172771608 tw2170994685656785944 tw6264656945012830660 tw9925748092155976753 tw17560538590327732920 tw15829207057307973106 tw2748611610931083057 tw778708562904138489 tw14369471734325111543 tw10367066076888983912 tw4499350517227290929 tw10000291183956893230 tw2407837509748185477 tw15658225315442173140 tw5635815025297626716 tw18054426549212171731 tw16091225597253589758 tw14284759567091846004 tw5560688018060532765 tw13466643479807660585 tw3732544134861915840 tw13988607138227947743 tw9662673347521025062 tw7300882507616368023 tw18013872292594417732 tw2960620896802100302 tw15277612300054305439 tw15243882572700937553 tw10307763907026454637 tw1064617300284580384 tw9039441705511102659 tw225574673462373611 tw5904278767791154408 tw1703175886350861624 tw1371391207597356026 tw968608516454258741 tw12874615439898204818 tw9403711864297402484 tw2404574204164609529 tw106744802234894904 tw13947756077419757538 tw2441314877887181044 tw934958609084476 tw13015476415097360304 tw5085256013355340961 tw13311788733432901312 tw15905541539490810756 tw14479528356564118891 tw13975089939617803888 tw7017507625706657283 tw4041230366331302590 tw3277373280280357053 tw1453101292177889208 tw14071870954825793765 tw14890374279236783358 tw11959125483287319704 tw6650299355828491630 tw8768761151106226058 tw5161180677385283621 tw4798201894446706730 tw3987190086436656556 tw14811697605989128959 tw5987809348237067864 tw4223031884437613738 tw4585222736131106024 tw6106770731545597006 tw545532660431641679 tw9226516075198636848 tw13901545925126767104 tw14367451824883505753 tw5064231734427763205 tw17420799894918309037 tw10325160028245066788 tw12901139775561651264 tw321370064508442969 tw9763839715189400719 tw7530727399045054692 tw16908068920116787635 tw10031699662528976505 tw14540313258045990055 tw1288792857840526637 tw6226932358727980805 tw6604460254422059572 tw14099430317394690966 tw14838940693028166183 tw16723830666441916729 tw12708064228593026057 tw1314055081101197398 tw5932460395994783135 tw11011895595781092360 tw15585054899842503653 tw13394833247886203146 tw10547533446836029010 tw7245044045864596607 tw2379532373583316927 tw14386903325399689497 tw11857868429668811467 tw16968165467760096693 tw11411785021133016146 tw17029442249573231372 tw10240814184954931696 tw4984949920557058680 tw651566301780999059 tw289144044642373711 tw6096259838045806750 tw16112300090296245824 tw17360377483616000902 tw2707773633328280852 tw12933933089614912598 tw7077443901405442629 tw3377176447461403246 tw9882493471280415465 tw13256971557266288412 tw5706741027500011015 tw1318970041583907775 tw11245280204387624811 tw16795983441285306007 tw2860377776220710939 tw9141398415346737560 tw14610632564103764870 tw18078652032552866984 tw12212803795554171172 tw14507708079219913778 tw17093907184282468214 tw5084494715247438512 tw1350513226503401676 tw4092379531646124973 tw8715732334258657857 tw8986861982658959776 tw5155884708981269816 tw2447153237317982113 tw2343526702067954585 tw2433925273152817347 tw14962735090060107831 tw3260191894786810167 tw9806284997259053023 tw17490945485248814795 tw16661374866378852888 tw12174805537847682588 tw4946775933131612250 tw11962651557430231982 tw3799018148726610793 tw2577253548532291068 tw9361585365178925906 tw3971361925646888234 tw10252054735774415735 tw15533305694566738799 tw17191541276120353212 tw8885827672427592078 tw4395200981174313483 tw10573822052492618605 tw1337017903220373335 tw18088379305050818623 tw15063711284088627219 tw6805219164173959080 tw8785498201058976308 tw1743178511908242271 tw10475757451667132867 tw6463812210288949359 tw12767065931308898881 tw7195728971318519733 tw3867509772492211442 tw18201818957312916108 tw1935508714455857547 tw2466996356634482730 tw12643831923938821597 tw17167749356608919875 tw4990960141319219628 tw11373227743297271544 tw4978164585019203526 tw13918527587959084963 tw879668844597492966 tw18391684406464405857 tw15416560945608016927 tw13952093897095664741 tw3570909271529093089 tw8254987156432429930 tw8731011070397407659 tw2042146443142161550 tw14236451483162617882 tw13512395143416342834 tw12458833480013428440 tw9391346445546986300 tw17819309859306815895 tw1085011536366597064 tw7190998743023327555 tw1023875445112612764 tw16798139675440650691 tw15381503002363815091 tw14673121855871065790 tw13532283708615575823 tw14237229260851308686 tw15239471711190237554 tw11106602934086042214 tw3220248889650428498 tw14669020026190343637 tw4362111716371776059 tw3232821755146024058 tw11957782949194436710 tw14135033070484087161 tw3196708081574443589 tw3910751872248531395 tw15685588332048896255 tw12640399581251988313 tw16260669760112409948 tw4941815755611819005 tw14162784203824866139 tw12943898622365183828 tw3547944740211899494 tw16961751708643834177 tw11343055999247568226 tw2858615857840844170 tw2514380360751266631 tw3473370298526990924 tw7072318119091484909 tw16219946651271572901 tw8315507441729180371 tw5328919246828431977 tw8718615760304845483 tw8121315363576225665 tw17427942069997823788 tw2403735109302420499 tw14256628914729422789 tw18096396071567719491 tw13960342903305404567 tw4152165646931043785 tw5052871459437630161 tw8707815129379186443 tw11430381747076029127 tw113631629979979007 tw10661122683456844752 tw14513665986558265444 tw11975455878323696371 tw11956975283395485687 tw8712360306627493118 tw7703399123937021128 tw16284785126727305374 tw8073524100421124207 tw4547373159903646407 tw16586996000860647194 tw2695674391296905482 tw14350203633653181191 tw5943741343093292808 tw13540882913462707016 tw5952829846290880769 tw3577238249321097055 tw643891401591440004 tw16371341113941149108 tw16730089169911108128 tw14774752178943118804 tw16694562948578433532 tw10699495340296100454 tw17112796280642433424 tw13558468656693602799 tw13037424717827414851 tw6572220621329321612 tw13709016297660971671 tw8598330255985401282 tw412798861730454545 tw3196000499307980250 tw3884866505854341569 tw13802402344904215985 tw14697167159644266954 tw2980927075147580112 tw16569910302282158856 tw15180662269842020210 tw2267769570687280024 tw13000546941739853225 tw18246876912442695380 tw2696432625032514779 tw17541754501748366201 tw5344301176972467805 tw6787861229018773654 tw3047709885397397444 tw16523496322568285543 tw2417319040004290925 tw12493040674124510401 tw11488786476013558509 tw16284577962978842060 tw9035382014915356994 tw11106918161702315933 tw11648700920632048223 tw10393646812359913597 tw5395033872591398494 tw5707567477226835760 tw1104025512002918575 tw1594652470284047446 tw17090462547958566666 tw3643467019310361184 tw18269925982298132616 tw1066528609675917011 tw3222893421871622479 tw18303033918011139091 tw8248353973337176491 tw9667991164155910106 tw16752737074624875097 tw17104310992881109595 tw7299354440165480037 tw17961445080847514018 tw17136237306886893101 tw17411734077065555422 tw9619014014281389568 tw1861263510584085059 tw6999592777922597092 tw9673087236109328002 tw14769988985032488218 tw10212139186475252387 tw3582754464619975741 tw5328515886835617538 tw9971917617578952637 tw3958263837670689185 tw11907788396487012904 tw7108218757405192453 tw12391740851222730697 tw13815197970109911805 tw7327034839945721361 tw1665574366387458520 tw10026083367693394174 tw3732985319215475979 tw17266752003859297460 tw2634313796025047550 tw2528025463516788666 tw17320767511877732672 tw4561842698276563989 tw9222228506713966089 tw18109860443152408067 tw16960177283689265600 tw3042089076929369279 tw1713114896448985557 tw3886437642538863437 tw6758921995260225563 tw17659829327122497549 tw10330761004846508314 tw2951245514386284512 tw9238363314156092967 tw16210894035189220738 tw16482772238538487291 tw11029863701714074171 tw15574375235609482255 tw7611730928499118514 tw4311968706571580293 tw15009668295023740251 tw16151046062069208179 tw13272061377430331855 tw17273356185518686722 tw14583920804987158592 tw4605832462867956291 tw2470443883602662410 tw9210317953853848467 tw12427776013574375243 tw17559719444283371457 tw3639435796364385469 tw8195422422524845923 tw6876983530818440533 tw1557914182937454343 tw5578918229048331427 tw12411102041983874486 tw6112110833422686654 tw13133202574475244190 tw5291058595263629779 tw10415497075071212461 tw12335417295696357288 tw7248542612115221470 tw385470170346708954 tw3570888985573720190 tw6545407242575364815 tw11598779738285000052 tw9625122414745205123 tw11399525951962204075 tw8608973983412838733 tw5620880225489195460 tw4729603781051647019 tw18410597205639423790 tw10910863329222493342 tw8754004454358836086 tw4814183199921827569 tw15843126332785137259 tw13237823194345244764 tw1214769588847230086 tw10148345506321288355 tw14792162576662973241 tw13971496779774850978 tw17698595141310108711 tw2484915058562958654 tw1023752584613380195 tw591661377146607794 tw5199282700184410079 tw8977972524689911394 tw476663356498599308 tw5653105103665568495 tw18082887273285612633 tw435991734046129585 tw8452033702388974411 tw2022907797147566639 tw14531829565323119286 tw12813971222530349012 tw15977883661490385218 tw10418360746284953063 tw2712179534109828190 tw13799047120383710424 tw4979727307003222181 tw12520569124277511517 tw328502482806424627 tw96944212366993660 tw7945293119415806073 tw4605821059441182492 tw232937503431863365 tw16900824682083663833 tw16465261599780629755 tw14753051474018560009 tw14445835870657393684 tw1195564874915176588 tw3574296555457030617 tw14666975207974680175 tw6536095227219436451 tw7071113795343448107 tw3196493191990267715 tw13922656694327414585 tw5684929967237674570 tw954826836603900247 tw11075773591072586367 tw15774384494748844920 tw1855326225446669182 tw12791661003767166813 tw6474570219990303108 tw12437832198529112354 tw8355145448043466518 tw16430814106822117694 tw3620927730048968646 tw18035176380202602280 tw15234679349096560147 tw7296109768791211795 tw14623339632540237042 tw16523786371738012882 tw15008481591359877051 tw6262105447516580759 tw15826001599190962652 tw6313043830999961962 tw12954200474217503954 tw4257070884925265445 tw1746890876062662718 tw12057784109806558329 tw6589614085808832333 tw9734176400325905576 tw18431152096469294142 tw16364662099701776524 tw8818478020008780252 tw17002907457682019522 tw6512753984192208562 tw9491769435654442732 tw12555942395617337445 tw4519759441564784950 tw8243763845587503096 tw48282915109371180 tw3527984406567220654 tw1875256415710660731 tw17966872880217296625 tw5621753480975943430 tw6807000151250573086 tw5322025750427164377 tw11590561819261368308 tw2176503068979085480 tw18264796070674135028 tw17350794656991268237 tw17401852519435101762 tw15893150578367703309 tw3692201619769373623 tw785324215702837327 tw12578924843686304468 tw91681914783519921 tw9786950829630378758 tw9254888879760200175 tw4926564991881064133 tw11669740048576910218 tw9583033369721908480 tw4446424584539101100 tw13733719082988695423 tw5687287040894052136 tw17316267862353035516 tw11898385745121471264 tw9846010662911047656 tw10442855411636442854 tw8545269145780381385 tw5681580309875786417 tw3870297857324468404 tw12088962371420057151 tw488259229922416736 tw1703301156938440148 tw12649641415959749002 tw6349410793689140830 tw887555492752115830 tw4590925340153579012 tw15745019794896515167 tw13237287013610240749 tw10643466488845858666 tw7816773774842307804 tw13801390680842038285 tw12881445125969365799 tw7289333921737935229 tw18445025983694982687 tw16542940550555260312 tw7828894132942033571 tw3729915279287439331 tw11228650379050234634 tw4346629416357530276 tw9915613709405745492 tw9512249486961126275 tw7287004948184596739 tw5851273560250619873 tw4673106630042211482 tw17933959501601587692 tw1964942338276818735 tw2986811598071561032 tw9631816484416133195 tw6858533326354060892 tw5654754991828123482 tw4961835385806114529 tw226926439385314218 tw14707979622976220015 tw10966324541018094828 tw4130191645968067950 tw7011599574513877843 tw5739884742435080516 tw14187710661877661850 tw13316894891334000824 tw1276465720413932160 tw5283141726431710006 tw15825800809504012031 tw13179963777672597049 tw9642993968643197770 tw15338933562526091257 tw13551503142316991075 tw12265513878638130769 tw9112697772424314559 tw7783605499396008079 tw17610562013965762054 tw8731240167705886470 tw4499836103354182710 tw8090936056875517571 tw10708618295681439237 tw15068846222228897600 tw13425979375457352507 tw6520434063041184405 tw4516178937474618966 tw12938532706224519370 tw2029887512464253682 tw8864383971475882459 tw17584311999325520372 tw15995202839874711270 tw5571831064324720807 tw8086381681786093066 tw16000803767661724735 tw14427166068064295882 tw13574610328588583576 tw15302705067668598849 tw5333415243685359844 tw14176607841794372251 tw11412794722117719130 tw8505101962406896583 tw17958553521242667031 tw17605354360868809794 tw8737980208340167424 tw3774898629446838201 tw14367843062398989965 tw6103943307312411673 tw5902958901948855036 tw5437696811113123374 tw4822881453262598248 tw3941631456683040497 tw17602125178147203715 tw14730018996090729695 tw5111424771393689587 tw9004834456366387157 tw7373859446120058728 tw8251960277906647954 tw18031835257300727222 tw15452855703613470846 tw1498257801642216834 tw10850159419695943313 tw8015858770567498729 tw6124413127293863477 tw14765569669464786706 tw12432181226569441501 tw9137577030405193969 tw1601619282761527186 tw6395417888292215130 tw3175481511104851074 tw3043784674220493258 tw7882441232842843481 tw9132748028591080787 tw17808558780501107986 tw8286570010513776732 tw7377305845406488750 tw15990279015508547008 tw11666917452492261078 tw11257798553654088520 tw1624371622658445615 tw8464348705978865349 tw3710510505038766770 tw6914942343233881907 tw18301428505149610969 tw17636538004297559938 tw9229306786184776451 tw5567955227001047994 tw2889376394088490919 tw10346476375318473701 tw7583638184828224677 tw8661946498613260205 tw1097041868780950615 tw11818434653094960308 tw853129170606458414 tw12569830272944688233 tw710363643786241748 tw17625880772323242732 tw9435506606241803320 tw8864321983090424381 tw12806753207492201089 tw4873100950759144508 tw16008446287823100308 tw14403911029336709094 tw17188572784753575409 tw15158925581861477509 tw10572316854398054456 tw10089615224834416580 tw4622702125864303625 tw5581361897161910517 tw16274768608860797147 tw14736933392853163985 tw14347097798869073737 tw13774728446056678605 tw11517276498770266095 tw7838415630763648138 tw9522481267498103774 tw4652108889396075288 tw1522979275714613965 tw13126610803079338677 tw7288220562954612132 tw7199320901305469169 tw559670747742464864 tw13071566685252155897 tw1027975818187426526 tw6566817362449465336 tw17681944492857132978 tw6289326802473791094 tw2888930410983770900 tw279743835059744811 tw17431428503692504446 tw15894542415298429218 tw144079719947904887 tw1432923034305880634 tw11106009143570609703 tw3621888794801149351 tw9136209917277814287 tw11580008926433734383 tw6434254465439546089 tw471667678532095381 tw3772166417743056065 tw5895422377576201655 tw6921729491732821853 tw16659746814953147515 tw10694970880599897583 tw14120654959205796709 tw9416955691058027338 tw2994282235489611779 tw16628972305754069738 tw16102485563995618390 tw15311493225165915694 tw14285557528905869284 tw12273506353182437200 tw11603207789016458540 tw11506051822345465212 tw417178375338580312 tw2806481075334614249 tw7650065276304443053 tw6888121403360262186 tw3492416794276915055 tw17665385950274147134 tw13276804277456498494 tw1685670486242740871 tw8587612447638887335 tw4249302338096091131 tw17074020681148939597 tw7756874681599750438 tw6689129776052802052 tw10646102057649991383 tw5929374874309983377 tw9945982013794018986 tw1902487051811746376 tw8154156241747750089 tw6768377646745627188 tw12731977844019938960 tw10526269928919073811 tw6967134338927903133 tw4170823557788141587 tw4438518264787944856 tw752651455202278815 tw3773032462221136596 tw1775580965843861327 tw15507072765548509688 tw14749823034619985721 tw11420389834886715823 tw5028152861467599574 tw12421533115158769988 tw12313124315437227896 tw14025662186668115789 tw16566181002040395826 tw6829680054647215729 tw13558251651539540920 tw14683643736231569703 tw6167524602647547243 tw9257484500024780116 tw4918048961521837681 tw6598306686569236622 tw17605778918006566486 tw10932287299988668479 tw4198481460668241357 tw14536888081703437061 tw10513864014914177919 tw8835380803977588593 tw9344668712464652837 tw8170830588159998039 tw7516249822089409186 tw5227355255121097639 tw3311200971218520433 tw13031634927171086003 tw12952610743471156755 tw11180212372010618975 tw9774242166793225141 tw9359386057333202240 tw9134910099751488568 tw7260185415215939624 tw5351038373289850029 tw4916251342239494998 tw4612215110498057499 tw2290843383177105035 tw8497187349145354298 tw5573981194833087052 tw18180209167521339756 tw12768495190980038174 tw14910069034401610054 tw793578470575831866 tw6535746289430871929 tw6440968951076899556 tw7864752735075298151 tw18254701875885194655 tw7803376239397465353 tw7369612805663223995 tw4525291279570190481 tw2917660502806574409 tw1858631147697444955 tw18437373635541516915 tw1842534105703876164 tw16572369975495029508 tw14701342613559468477 tw13869221703349522737 tw13082896327492536869 tw10545497258589321118 tw10537815445210192010 tw4896597255536665378 tw4156178184234102848 tw13579401033302541297 tw11484181388643124047 tw5862853436633518683 tw1931628075817811438 tw14148951300886773651 tw9690837728970810784 tw6289321853941818745 tw5291881819916990518 tw10788972027209851219 tw8984872016217399084 tw11963633170216032321 tw10050889457683300007 tw967240140633778522 tw6476166790125816403 tw6233253830397835690 tw16009070873914932813 tw14249574706020454385 tw11912037582112488042 tw14206388453667140120 tw9675426523311999998 tw16684485170948825543 tw9424396920989390936 tw887521086742235372 tw4001866888408657088 tw2106077740259130149 tw18430538785489076108 tw15266295538501950401 tw1380287637930026851 tw12804555274390540123 tw5077236760779279903 tw14701903431931067796 tw11263259883859510933 tw15677889511500594730 tw13244198207879312902 tw9499477987988238273 tw17950602966318668844 tw5007026615328343645 tw8398711541222263155 tw6829766248199185204 tw6314960772543251315 tw5690282883689381197 tw16314440968678352670 tw1553218701333432862 tw13281916191725485430 tw11906704530995772431 tw1099535278146935962 tw12843866057759408486 tw11027004340902061932 tw14979804423030393008 tw8528170849722455220 tw5996914308170343582 tw13302368056704893442 tw12537567293028815835 tw10184322762129925127 tw9770280996486277548 tw7571091078602118135 tw7569056271254422273 tw7366734613532223000 tw7167956783151032931 tw6436924196672098924 tw60123607132517647 tw5738463247882290738 tw5048152343668266075 tw3014764865559932093 tw2936934001660680907 tw18425775181893947394 tw17666106505583854583 tw17186769638344267947 tw15005901210135497475 tw14578885514860356929 tw12749313230989616283 tw11459507013646160976 tw11011546266831636997 tw10298145900781895542 tw8972792397607543543 tw2979206510149069420 tw1241842109485221107 tw18194123535450104401 tw9734094731964115704 tw8339506424381172542 tw8031649946211511093 tw7155421118016232285 tw6964886528644055522 tw6857053738530222210 tw6483482802556536245 tw5845959681842701508 tw4858675915444708148 tw3933674402595794034 tw3809763886293917339 tw3222947855679419314 tw18021403891235328924 tw17482867625772746805 tw16991955088259892332 tw1628361242348545113 tw16230591346209490977 tw1557288820425579869 tw15507371375989368381 tw14237175472602884805 tw14124572464860078120 tw14097173807580831112 tw12998190511253006340 tw12907210694660032905 tw10691890445090592358 tw10657995869217886876 tw10622081860599129541 tw10128710530711012969 tw9093554173488365446 tw9047380036548297774 tw7918922179002013800 tw7706360539455682394 tw6539490318858176564 tw5381608381070609643 tw5214651324572403251 tw4650725620438274206 tw2267731543757430435 tw18254900877866077579 tw17504499816164105733 tw17102941512522462484 tw1690401834872076168 tw16241783495706899157 tw15917444372431350091 tw15580497191410969402 tw14720362230011052315 tw14214973394292691928 tw14004965277418345866 tw13334102416569953161 tw12861093373373049215 tw12272541083637528192 tw12164977420237632890 tw12051244733343346097 tw10491720230399103158 tw10294431269925354226 tw10122717222726427194 tw16094670474744224927 tw5052115750667017734 tw12874995023485540790 tw6546254042937778752 tw571916710989113684 tw4581088399983049596 tw4438117822440055803 tw3201262591634357337 tw18302360899618981332 tw18109406129574166622 tw15934802141979597547 tw15804366810070632069 tw13543999182865870928 tw12845263714194082179 tw1280806077746271183 tw12094194298680882078 tw1122560141181141963 tw9025344170245710145 tw893083472836324603 tw8909026135611287615 tw8588581738111758712 tw6622781152915912045 tw6552151234201135145 tw6141030251303826892 tw604385405831385741 tw3765526244183405170 tw357129914142107889 tw248165919794514223 tw17453338735029854048 tw17124061710101884493 tw15217424909575568331 tw15162854501125037001 tw15101413021770868254 tw14544384270551533474 tw13537217558313112708 tw11152368776795581822 tw11014459082622043215 tw9698423118844345089 tw9553493937413959506 tw9366521371407896205 tw861023309263706346 tw7663953717030169185 tw7519121892164077039 tw6578156879464459749 tw578981574840211645 tw5703212062071308295 tw4401712819377003292 tw4174095661732812779 tw3633689528476218325 tw1975568612746277657 tw18252129074557783958 tw17895324573109376300 tw17427173497745777834 tw16215702953679900906 tw15689023742094440505 tw15528279470106730827 tw15397600089852267831 tw15199244622212303615 tw14332766063257792933 tw14145196641444322788 tw13675858187703367821 tw12380893177299540373 tw10629275598514473729 tw10305475109474822800 tw9130071140325867530 tw12899616010115316366 tw9922634906704433955 tw9822538985035439195 tw9780597487329348577 tw9722487420923071541 tw9699529640181726196 tw9655651464004927723 tw9631626108198042628 tw9622798679049700050 tw9540502981944198442 tw9342590010180775699 tw9244121132358065385 tw9208909014317911812 tw9084547551361152095 tw9071325712209217374 tw9013554398462108191 tw8935279265133264701 tw8926755850304197384 tw8871718796794427130 tw8849103682033037942 tw8841930201008766052 tw8762492336613129868 tw8762251855354177865 tw8699652723201956883 tw8695615807585965514 tw8692779273666806554 tw8666607706341161028 tw8647053680746988624 tw8569030065086550679 tw8552598048931813142 tw8538552059311513913 tw8408327771820391141 tw8309249839478588625 tw8294631610806748563 tw8268663314165748894 tw8243727975905600262 tw8223532102568618276 tw821302684482011214 tw8164476373504797475 tw8162174987923439728 tw8148829202858870115 tw8128104362356081189 tw808548184555639707 tw7920116148090682945 tw7856918172022882588 tw781240557779031375 tw7698670403087671365 tw7667191581967527940 tw7634559114230944227 tw7580997303624199772 tw7478698063731987953 tw7387102942065139670 tw7290090953894573577 tw7273855252410413940 tw7224525787010583967 tw7152536740371156032 tw7117209716622539088 tw7075797080084822912 tw703499827501569092 tw6878297776078235271 tw6858944899643096707 tw6826093758036833402 tw6822810998115125906 tw6802133304802819400 tw6707653055025661261 tw6660056354732841695 tw641754338509069816 tw6378945427672614460 tw6229732351422978297 tw6064503411266915450 tw6053934582461316182 tw6034016576828443120 tw6012835791907489459 tw5851160675567343077 tw5747915745068934201 tw573815166936817203 tw5722817013902747160 tw5705743918204044570 tw5543026543559005007 tw5535727329029259722 tw5463465324010645039 tw5440397393163902788 tw5430710843256643615 tw5425634352691778680 tw5391436447256709016 tw5364431762923081660 tw535736997502851475 tw5171777588102534866 tw5155460219792586125 tw5123664117364491124 tw5084908313900970576 tw5080557525396508298 tw5047414658991714877 tw5023800252605361577 tw5007530981965284644 tw4967090369111583770 tw4935286205697575866 tw4922938668001428108 tw4914235504266361100 tw485157708987994356 tw4800041690468044501 tw47801126381163158 tw4653133835938584327 tw4632560236514578410 tw4511303444874226435 tw4476208503007284281 tw4464693024563182312 tw440427060458850783 tw4402670577022688246 tw4397601403037329388 tw437635128777645234 tw4260110285188879181 tw4224700833618936553 tw4121058395845655301 tw4107875144258243411 tw3966834617838197995 tw3891253425666347455 tw380364874158028952 tw3779817109442124449 tw3639021721811551186 tw3605473548108539863 tw3586731057117497190 tw3523880736699134128 tw343313475985684695 tw3422700459644593295 tw3396087449565181589 tw3339584625862908596 tw3305994264218421813 tw3303558317370855444 tw3214947548001765073 tw3206051667655152289 tw3157507927437353768 tw3124558029299016850 tw3055599160467903195 tw3054840238650328721 tw2990716676307463448 tw29774867284931014 tw2732187397029516204 tw2644918257105248895 tw2631081555257596863 tw2574681503391086718 tw2510731919128106316 tw2472082591182406653 tw2423767754719906951 tw2398757589084695746 tw2134043505709045753 tw2115400252445154954 tw2110160409286867286 tw2099075540532729012 tw2030715263208745498 tw2011188403309170084 tw2009476729313445691 tw2000579530620021951 tw194096841323845520 tw1891296426351025911 tw18416874214553435132 tw18327183460519144955 tw18271264616825702022 tw18187511625879849600 tw18062464214852431360 tw18061257680676530446 tw18049057465133822147 tw17961188071776240479 tw17961160047217813508 tw17959463527547425438 tw1794623735081491579 tw17920028797547355857 tw1790020290664254154 tw17725184613592977019 tw17626504871934047441 tw17604812853521978612 tw17601996918263278571 tw17582360160531849675 tw17548088955132684011 tw17547021885250351102 tw17517083846654374922 tw17496515763942359337 tw17487070505005458072 tw17404923324018600617 tw17397201583507996024 tw17354646846768722060 tw17330476789188366286 tw17261907059965652550 tw17242937796486134830 tw17056854916567244064 tw17040153790203126669 tw17027454519676118806 tw17018143698261918906 tw17006716852114755494 tw16949666815206023367 tw16922609551834061025 tw16910901299310461445 tw16860540712268169024 tw16782384089639882370 tw16756837875320448671 tw16659936092932017610 tw166591713087851405 tw16356047898622311238 tw16275141065263549007 tw1626324806892427168 tw16233357240681424788 tw16193576725624738965 tw16069867817408225528 tw16035505333937602100 tw16032785388543459070 tw15964930973233642268 tw15882029075707855578 tw15850483791948410848 tw15839276962310057299 tw15837349581067442714 tw15830289326176501930 tw15824753003570311799 tw1578689304961470858 tw15358370492651926308 tw15326744451002664058 tw1528472431614229520 tw1527910951972440391 tw15271030385239355900 tw15254928282197711930 tw15138761387434413342 tw15051009741819022162 tw1500514826641642611 tw15002428797399884577 tw14864059532785783815 tw14805413809595840836 tw14780021182395159291 tw1475554048218726555 tw14723794121032539727 tw14666275099648427149 tw14622501622019418461 tw14615312334339263978 tw14515611992397529261 tw14466458223780828653 tw14460025487570681316 tw14433844178434954706 tw1436726254088108577 tw14334822845884217347 tw14307907074338583546 tw14297494712050084750 tw1419740056154376204 tw14179257199876335563 tw14126351767866542967 tw14016587788856823060 tw14004868140877583805 tw13972607159664421596 tw13884817099575583305 tw13859186393167292082 tw13777607683537593833 tw13702682453349300148 tw13617103024967712946 tw1361067653384157086 tw13584140998353231146 tw13492055605258819082 tw13489776834001655965 tw13458080870967747754 tw13450850870830648200 tw13393023692245611688 tw13364551513855201250 tw13363640089081844427 tw13337038731004152042 tw13287880379261581081 tw13166107576369199061 tw13163744513137123965 tw13133210143702170064 tw13117453761568395225 tw13115792399783101184 tw13092807156645749278 tw13075002135615361182 tw13073871879292245079 tw1307380918683660449 tw13071857364252835694 tw13068116359322907415 tw13011880251585425410 tw12895460406660579147 tw12798154964926709654 tw12782113562890013680 tw12674653937474922093 tw12577606178485914118 tw12391705242595678047 tw12381113920822007923 tw12376455382852736639 tw12349905947057981103 tw12319678450224498089 tw12309825137023966359 tw12286884673124669317 tw12173655043776714360 tw12015583575023942390 tw11940215600866601098 tw11937075458887787507 tw11876553476502351033 tw11759317592919647133 tw11728791495985961898 tw11717208478684843919 tw11647048812726249834 tw11491507274143658229 tw11327444451051381151 tw11315492252496521611 tw10944649743447624830 tw1091048921700712899 tw10838005810465873753 tw10774107942933380767 tw10727247003045385149 tw10722301188339412458 tw10639437845499003273 tw10498812460225127734 tw10495820506184089149 tw10393707705990390229 tw10324702159303354528 tw10246964201365896702 tw10245930269545892917 tw10200858499851292984 tw10153966699547528668 tw10139771068972707571 tw10120212291902403623 tw10116208303356895866:True)
open PySem PySem.W PyProof.Rows
set_option maxRecDepth 100000 in
set_option maxHeartbeats 0 in
theorem PySem.Challenge.cw_wormyard_k45_kinds_of_refusals_holds : PySem.Challenge.rw_wormyard_k45_kinds_of_refusals.Holds := by
 w_on;o_law;k_head; (case hw=>w_witness2)
 k_fill
 refine K45.walk (l:=PySem.Challenge.rw_wormyard_k45_kinds_of_refusals) rfl rfl (fun w h Y=>Y.1) ?F
 case F =>
  intro w mg fa h KX G hmg
  refine' K45.all_mk KX G hmg ?gcL ?gcB ?gcD ?gcO ?gcT ?gcA ?gcH ?gcJ ?gcK ?gcY ?gcP ?gcU ?gcR ?gcE ?gcN ?gcM ?gcQ ?gcG ?gcW ?gcZ ?gcF ?gcV ?gcX ?gcI ?h1 ?h2 ?h3 ?h4 ?h5 ?h6 ?h7 ?h8 ?h9 ?h10 ?h11 ?h12 ?h13 ?h14 ?h15 ?h16 ?h17 ?h18 ?h19 ?h20 ?h21 ?h22 ?h23 ?h24 ?h25 ?h26 ?h27 ?a28 ?l28 ?c28 ?k28 ?h29 ?h30 ?h31 ?h32 ?h33 ?h34 ?h35 ?h36 ?h37 ?h38 ?h39 ?h40 ?h41 ?h42 ?h43 ?h44 ?h45 ?h46 ?a47 ?l47 ?d47 ?c47 ?k47 ?i47 ?a48 ?l48 ?d48 ?c48 ?k48 ?i48 ?h49 ?h50 ?h51 ?h52 ?h53 ?mp ?ml ?mr ?mh ?mk ?mq ?p1cL ?p2cL ?p3cL ?p4cL ?p5cL ?p6cL ?ncLplaces ?ncLlanes ?p1cB ?p2cB ?p3cB ?p4cB ?p5cB ?p6cB ?ncBland ?p1cD ?p2cD ?p3cD ?p4cD ?p5cD ?p6cD ?ncDland ?ncDentries ?p1cO ?p2cO ?p3cO ?p4cO ?p5cO ?p6cO ?p1cT ?p2cT ?p3cT ?p4cT ?p5cT ?p6cT ?ncTland ?ncTparents ?p1cA ?p2cA ?p3cA ?p4cA ?p5cA ?p6cA ?ncArights ?ncAreturning ?ncAholder ?ncApieces ?p1cH ?p2cH ?p3cH ?p4cH ?p5cH ?p6cH ?ncHstart ?ncHgoal ?ncHlength ?ncHword ?ncHgone ?ncHway ?p1cJ ?p2cJ ?p3cJ ?p4cJ ?p5cJ ?p6cJ ?ncJtable ?ncJrooms ?ncJlanes ?ncJletters ?ncJlies ?ncJdone ?p1cK ?p2cK ?p3cK ?p4cK ?p5cK ?p6cK ?ncKyard ?x1cP ?x2cP ?x1cU ?x2cU ?ncUmany ?x1cR ?x2cR ?ncRlane ?x1cE ?x2cE ?ncErow ?x1cN ?x2cN ?x1cM ?x2cM ?x1cQ ?x2cQ ?x1cG ?x2cG ?x1cW ?x2cW ?x1cZ ?x2cZ ?ncZstart ?ncZgoal ?x1cF ?x2cF ?x1cV ?x2cV ?x1cX ?x2cX ?x1cI ?x2cI ?mf ?w1cB ?w2cB ?w3cB ?kk1 ?kk2 ?kk3 ?kk4 ?kk5 ?kk6 ?kk7 ?kk8 ?kd ?xc ?y2 ?y3 ?gFo ?lFo ?sFo ?z0 ?z1 ?z2 ?z3 ?z4 ?z5 ?z6 ?z7 ?z8 ?z9 ?z10 ?z11 ?z12 ?z13 ?z14 ?z15 ?z16
  (case gcL=>k_is)
  (case gcB=>k_is)
  (case gcD=>k_is)
  (case gcO=>k_is)
  (case gcT=>k_is)
  (case gcA=>k_is)
  (case gcH=>k_is)
  (case gcJ=>k_is)
  (case gcK=>k_is)
  (case gcY=>k_is)
  (case gcP=>k_is)
  (case gcU=>k_is)
  (case gcR=>k_is)
  (case gcE=>k_is)
  (case gcN=>k_is)
  (case gcM=>k_is)
  (case gcQ=>k_is)
  (case gcG=>k_is)
  (case gcW=>k_is)
  (case gcZ=>k_is)
  (case gcF=>k_is)
  (case gcV=>k_is)
  (case gcX=>k_is)
  (case gcI=>k_is)
  (case h1=>symm_saturate)
  (case h2=>symm_saturate)
  (case h3=>symm_saturate)
  (case h4=>symm_saturate)
  (case h5=>symm_saturate)
  (case h6=>symm_saturate)
  (case h7=>symm_saturate)
  (case h8=>symm_saturate)
  (case h9=>symm_saturate)
  (case h10=>symm_saturate)
  (case h11=>symm_saturate)
  (case h12=>symm_saturate)
  (case h13=>symm_saturate)
  (case h14=>symm_saturate)
  (case h15=>symm_saturate)
  (case h16=>symm_saturate)
  (case h17=>symm_saturate)
  (case h18=>symm_saturate)
  (case h19=>symm_saturate)
  (case h20=>symm_saturate)
  (case h21=>symm_saturate)
  (case h22=>symm_saturate)
  (case h23=>symm_saturate)
  (case h24=>symm_saturate)
  (case h25=>symm_saturate)
  (case h26=>symm_saturate)
  (case h27=>symm_saturate)
  (case a28=>k_is)
  (case l28=>k_is)
  (case c28=>k_is)
  (case k28=>k_is)
  (case h29=>symm_saturate)
  (case h30=>symm_saturate)
  (case h31=>symm_saturate)
  (case h32=>symm_saturate)
  (case h33=>symm_saturate)
  (case h34=>symm_saturate)
  (case h35=>symm_saturate)
  (case h36=>symm_saturate)
  (case h37=>symm_saturate)
  (case h38=>symm_saturate)
  (case h39=>symm_saturate)
  (case h40=>symm_saturate)
  (case h41=>symm_saturate)
  (case h42=>symm_saturate)
  (case h43=>symm_saturate)
  (case h44=>symm_saturate)
  (case h45=>symm_saturate)
  (case h46=>symm_saturate)
  (case a47=>k_is)
  (case l47=>k_is)
  (case d47=>k_is)
  (case c47=>k_is)
  (case k47=>k_is)
  (case i47=>k_is)
  (case a48=>k_is)
  (case l48=>k_is)
  (case d48=>k_is)
  (case c48=>k_is)
  (case k48=>k_is)
  (case i48=>k_is)
  (case h49=>symm_saturate)
  (case h50=>symm_saturate)
  (case h51=>symm_saturate)
  (case h52=>symm_saturate)
  (case h53=>symm_saturate)
  (case mp=>k_is)
  (case ml=>k_is)
  (case mr=>k_is)
  (case mh=>k_is)
  (case mk=>k_is)
  (case mq=>k_is)
  (case p1cL=>k_is)
  (case p2cL=>k_is)
  (case p3cL=>k_is)
  (case p4cL=>k_is)
  (case p5cL=>k_is)
  (case p6cL=>k_is)
  (case ncLplaces=>k_is)
  (case ncLlanes=>k_is)
  (case p1cB=>k_is)
  (case p2cB=>k_is)
  (case p3cB=>k_is)
  (case p4cB=>k_is)
  (case p5cB=>k_is)
  (case p6cB=>k_is)
  (case ncBland=>k_is)
  (case p1cD=>k_is)
  (case p2cD=>k_is)
  (case p3cD=>k_is)
  (case p4cD=>k_is)
  (case p5cD=>k_is)
  (case p6cD=>k_is)
  (case ncDland=>k_is)
  (case ncDentries=>k_is)
  (case p1cO=>k_is)
  (case p2cO=>k_is)
  (case p3cO=>k_is)
  (case p4cO=>k_is)
  (case p5cO=>k_is)
  (case p6cO=>k_is)
  (case p1cT=>k_is)
  (case p2cT=>k_is)
  (case p3cT=>k_is)
  (case p4cT=>k_is)
  (case p5cT=>k_is)
  (case p6cT=>k_is)
  (case ncTland=>k_is)
  (case ncTparents=>k_is)
  (case p1cA=>k_is)
  (case p2cA=>k_is)
  (case p3cA=>k_is)
  (case p4cA=>k_is)
  (case p5cA=>k_is)
  (case p6cA=>k_is)
  (case ncArights=>k_is)
  (case ncAreturning=>k_is)
  (case ncAholder=>k_is)
  (case ncApieces=>k_is)
  (case p1cH=>k_is)
  (case p2cH=>k_is)
  (case p3cH=>k_is)
  (case p4cH=>k_is)
  (case p5cH=>k_is)
  (case p6cH=>k_is)
  (case ncHstart=>k_is)
  (case ncHgoal=>k_is)
  (case ncHlength=>k_is)
  (case ncHword=>k_is)
  (case ncHgone=>k_is)
  (case ncHway=>k_is)
  (case p1cJ=>k_is)
  (case p2cJ=>k_is)
  (case p3cJ=>k_is)
  (case p4cJ=>k_is)
  (case p5cJ=>k_is)
  (case p6cJ=>k_is)
  (case ncJtable=>k_is)
  (case ncJrooms=>k_is)
  (case ncJlanes=>k_is)
  (case ncJletters=>k_is)
  (case ncJlies=>k_is)
  (case ncJdone=>k_is)
  (case p1cK=>k_is)
  (case p2cK=>k_is)
  (case p3cK=>k_is)
  (case p4cK=>k_is)
  (case p5cK=>k_is)
  (case p6cK=>k_is)
  (case ncKyard=>k_is)
  (case x1cP=>kernel_rfl)
  (case x2cP=>k_is)
  (case x1cU=>kernel_rfl)
  (case x2cU=>k_is)
  (case ncUmany=>k_is)
  (case x1cR=>kernel_rfl)
  (case x2cR=>k_is)
  (case ncRlane=>k_is)
  (case x1cE=>kernel_rfl)
  (case x2cE=>k_is)
  (case ncErow=>k_is)
  (case x1cN=>kernel_rfl)
  (case x2cN=>k_is)
  (case x1cM=>kernel_rfl)
  (case x2cM=>k_is)
  (case x1cQ=>kernel_rfl)
  (case x2cQ=>k_is)
  (case x1cG=>kernel_rfl)
  (case x2cG=>k_is)
  (case x1cW=>kernel_rfl)
  (case x2cW=>k_is)
  (case x1cZ=>kernel_rfl)
  (case x2cZ=>k_is)
  (case ncZstart=>k_is)
  (case ncZgoal=>k_is)
  (case x1cF=>kernel_rfl)
  (case x2cF=>k_is)
  (case x1cV=>kernel_rfl)
  (case x2cV=>k_is)
  (case x1cX=>kernel_rfl)
  (case x2cX=>k_is)
  (case x1cI=>kernel_rfl)
  (case x2cI=>k_is)
  (case mf=>k_is)
  (case w1cB=>first | k_is | kernel_rfl)
  (case w2cB=>first | k_is | kernel_rfl)
  (case w3cB=>first | k_is | kernel_rfl)
  (case kk1=>kit_is)
  (case kk2=>kit_is)
  (case kk3=>kit_is)
  (case kk4=>kit_is)
  (case kk5=>kit_is)
  (case kk6=>kit_is)
  (case kk7=>kit_is)
  (case kk8=>kit_is)
  (case kd=>kernel_rfl)
  (case xc=>kernel_rfl)
  (case y2=>k_is)
  (case y3=>k_is)
  (case gFo=>k_is)
  (case lFo=>k_is)
  (case sFo=>exact rfl)
  (case z0=>k_is)
  (case z1=>k_is)
  (case z2=>k_is)
  (case z3=>k_is)
  (case z4=>k_is)
  (case z5=>k_is)
  (case z6=>k_is)
  (case z7=>k_is)
  (case z8=>k_is)
  (case z9=>k_is)
  (case z10=>k_is)
  (case z11=>k_is)
  (case z12=>k_is)
  (case z13=>k_is)
  (case z14=>k_is)
  (case z15=>k_is)
  (case z16=>k_is)
