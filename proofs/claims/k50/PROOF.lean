import PyProof.Rows.All
import Wide.All
import OpenK.AllK
import Wide.FinOn
import Lean
import PyProof.EqAt
import PyProof.EqKinds
import PyProof.TupleCall
import PyProof.ExcBaseAll.ValueError
import PyProof.EnumMake
import PyProof.Rows.EnumRows
import PyProof.TupleIter
import PyProof.DictValues
import PyProof.CollectStr
import PySem.Builtin.Int.W1All
import PyProof.DictRoadsH
import PyProof.DictKinds
import PyProof.FactsAll.NoneType
import KE.KRevIter
import PyProof.FactsAll.list_3
import KE.KDictList
import PyProof.DictIter
import PyProof.DictWalks
import PyProof.ListRange
import PyProof.Rows.SumAny
import PyProof.Rows.SeqCalls
import PyProof.P3In
import PySem.Challenge.RW_wormyard_k50_twins
set_option compiler.extract_closed false
set_option Elab.async false
set_option linter.all false
set_option maxRecDepth 100000
set_option maxHeartbeats 4000000
open PySem.W (Frag keepIn findIn fnOf codeIn nsIn mg_of isFn kitOne hasDictIn mg_none_of plainGet plainOver makesIn)
open List (all_cons all_eq_true all_map any_cons append_assoc append_nil contains_cons eq_of_mem_replicate filterMap_cons filter_append filter_congr getD_eq_getElem?_getD getElem_map getElem_mem length_append length_cons length_drop length_filter_le length_map length_nil length_range length_replicate length_set length_singleton length_take length_take_le lookup_cons map_append map_cons map_map map_nil mem_append mem_append_left mem_append_right mem_cons mem_cons_of_mem mem_cons_self mem_filter mem_flatMap mem_map mem_of_getElem? mem_of_head? mem_of_mem_drop mem_of_mem_take mem_range mem_reverse mem_singleton nodup_cons nodup_nil not_mem_nil of_mem_zip pairwise_cons pairwise_iff_getElem pairwise_lt_range range_succ size_toArray sum_cons take_length take_of_length_le take_succ take_zero)
open Nat (le_of_eq le_of_lt le_refl le_succ le_trans lt_irrefl lt_of_le_of_lt lt_of_lt_of_le lt_or_ge lt_succ_self lt_trans min_eq_left min_eq_right ne_of_gt ne_of_lt not_lt_zero pow_le_pow_right succ_pos testBit_lt_two_pow zero_le)
open Int (emod_lt_of_pos emod_nonneg toNat_natCast zero_add)
open PySem.F (args_tuple_add_2 entry_dict_get entry_tuple_add plainAttrs_list slot_dict_get slot_list_extend slot_tuple_add type_list_extend)
open PySem.Heap (lt_size size_push)
noncomputable section
namespace L2
theorem G5 {α:Type}{n:Nat}{l:List α}(h:l.length=n + 1):∃ a t,l=a :: t/\t.length=n:=by
 cases l with
 | nil=>cases h
 | cons a t=>exact⟨a,t,rfl,Nat.succ.inj h⟩
open PySem PySem.Spec PyProof.Rows
noncomputable abbrev cb:=Sum Int Str
noncomputable def jJ:cb->Value->Bool
 | .inl k,v=>Value.isInt k v
 | .inr x,v=>Value.isStrOf x v
noncomputable def Qr (w:World):cb->Int
 | .inl k=>hashInt k
 | .inr x=>hashStr w x
theorem b0:∀ {k:cb}{v:Value},jJ k v=true->(∃ i t,k=Sum.inl i/\v=Value.int i t)∨(∃ x t,k=Sum.inr x/\v=Value.str x t)
 | .inl i,v,h=>by
  obtain⟨t,e⟩:=Value.isInt_shape (k:=i) (v:=v) h
  exact .inl ⟨i,t,rfl,e⟩
 | .inr x,v,h=>by
  obtain⟨t,e⟩:=Value.isStrOf_shape (x:=x) (v:=v) h
  exact .inr ⟨x,t,rfl,e⟩
theorem rL (i:Int)(t:Tok):jJ (.inl i) (.int i t)=true:=by simp[jJ,Value.isInt]
theorem rK (x:Str)(t:Tok):jJ (.inr x) (.str x t)=true:=by simp[jJ,Value.isStrOf]
theorem zw (a b:Int):decide ((Sum.inl a:cb)=Sum.inl b)=(a == b):=by
 by_cases e:a=b
 ·subst e;simp
 ·have h:¬ (Sum.inl a:cb)=Sum.inl b:=fun q=>e (Sum.inl.inj q)
  rw[decide_eq_false h]
  exact(beq_eq_false_iff_ne.mpr e).symm
theorem zq (a b:Str):decide ((Sum.inr a:cb)=Sum.inr b)=decide (a=b):=by
 by_cases e:a=b
 ·subst e;simp
 ·have h:¬ (Sum.inr a:cb)=Sum.inr b:=fun q=>e (Sum.inr.inj q)
  rw[decide_eq_false h,decide_eq_false e]
theorem zu (a:Int)(b:Str):decide ((Sum.inl a:cb)=Sum.inr b)=false:=decide_eq_false (fun q=>nomatch q)
theorem zr (a:Str)(b:Int):decide ((Sum.inr a:cb)=Sum.inl b)=false:=decide_eq_false (fun q=>nomatch q)
noncomputable def aU (prog:Program)(w:World):PySem.KeyKind prog w cb where
 is:=jJ
 hash:=Qr w
 inj:=fun v a b ha hb=>by
  rcases b0 ha with ⟨i,t,rfl,rfl⟩ | ⟨x,t,rfl,rfl⟩
  ·rcases b0 hb with ⟨j,u,rfl,e⟩ | ⟨y,u,rfl,e⟩
   ·injection e with e1 _;rw[e1]
   ·exact nomatch e
  ·rcases b0 hb with ⟨j,u,rfl,e⟩ | ⟨y,u,rfl,e⟩
   ·exact nomatch e
   ·injection e with e1 _;rw[e1]
 byValue:=fun k v h=>by
  rcases b0 h with ⟨i,t,rfl,rfl⟩ | ⟨x,t,rfl,rfl⟩<;>rfl
 pyHash:=fun hv h=>by
  rcases b0 hv with ⟨i,t,rfl,rfl⟩ | ⟨x,t,rfl,rfl⟩
  ·exact wpAny_pyHash_int h
  ·exact wpAny_pyHash_str h
 eqBool:=fun hu hv h=>by
  rcases b0 hu with ⟨i,t,rfl,rfl⟩ | ⟨x,t,rfl,rfl⟩
  ·rcases b0 hv with ⟨j,u,rfl,rfl⟩ | ⟨y,u,rfl,rfl⟩
   ·rw[zw]at h;exact wpAny_eqBool_int h
   ·rw[zu]at h;exact SeqAt.EqAt.int_str i t y u _ _ _ _ h
  ·rcases b0 hv with ⟨j,u,rfl,rfl⟩ | ⟨y,u,rfl,rfl⟩
   ·rw[zr]at h;exact SeqAt.EqAt.str_int x t j u _ _ _ _ h
   ·rw[zq]at h;exact wpAny_eqBool_str h
 «strs»:=fun k x t v h=>by
  rcases b0 h with ⟨i,u,rfl,e⟩ | ⟨y,u,rfl,e⟩
  ·exact nomatch e
  ·injection e with e1 _
   subst e1
   cases v<;>rfl
theorem nc (prog:Program)(w:World)(i:Int)(t:Tok):(aU prog w).is (.inl i) (.int i t)=true:=rL i t
theorem na (prog:Program)(w:World)(x:Str)(t:Tok):(aU prog w).is (.inr x) (.str x t)=true:=rK x t
end L2
namespace L2
open PySem PySem.Spec PyProof.Rows
inductive V where
 | An | bl (b:Bool) | int (i:Int) | str (x:Str) | DN (b:Array UInt8) | HG (b:UInt64) | ref (a:Addr) | ty (n:String)
 deriving DecidableEq
noncomputable def RelV:V->Value->Prop
 | .An,u=>u=Value.none
 | .bl b,u=>u=Value.bool b
 | .int i,u=>∃ t,u=Value.int i t
 | .str x,u=>∃ t,u=Value.str x t
 | .DN b,u=>∃ t,u=Value.bytes b t
 | .HG b,u=>∃ t,u=Value.float b t
 | .ref a,u=>u=Value.ref a
 | .ty n,u=>u=Value.type n
noncomputable abbrev Vals:List V->List Value->Prop:=Paired RelV
theorem Vals.length {xs:List V}{us:List Value}(r:Vals xs us):xs.length=us.length:=Paired.length r
theorem Vals.get:∀ {xs:List V}{us:List Value}{i:Nat}{x:V},Vals xs us->xs[i]? = some x->∃ u,us[i]? = some u/\RelV x u
 | _,_,_,_, .nil,e=>by simp at e
 | _,_,0,_, .cons r _,e=>by simp at e;subst e;exact⟨_,rfl,r⟩
 | _,_,i + 1,x, .cons _ t,e=>by
  obtain⟨u,h1,h2⟩:=Vals.get (i:=i) (x:=x) t (by simpa using e)
  exact⟨u,by simpa using h1,h2⟩
theorem Vals.set {x:V}{u:Value}(r:RelV x u):∀ {xs:List V}{us:List Value}(i:Nat),Vals xs us->Vals (xs.set i x) (us.set i u)
 | _,_,_, .nil => .nil
 | _,_,0, .cons _ t => .cons r t
 | _,_,i + 1, .cons q t => .cons q (Vals.set r i t)
theorem Vals.append:∀ {xs ys:List V}{us ws:List Value},Vals xs us->Vals ys ws->Vals (xs ++ ys) (us ++ ws)
 | _,_,_,_, .nil,s=>s
 | _,_,_,_, .cons r t,s => .cons r (Vals.append t s)
theorem Vals.take:∀ {xs:List V}{us:List Value}(n:Nat),Vals xs us->Vals (xs.take n) (us.take n)
 | _,_,0,_ => .nil
 | _,_,_ + 1, .nil => .nil
 | _,_,n + 1, .cons r t => .cons r (Vals.take n t)
theorem Vals.drop:∀ {xs:List V}{us:List Value}(n:Nat),Vals xs us->Vals (xs.drop n) (us.drop n)
 | _,_,0,r=>r
 | _,_,_ + 1, .nil => .nil
 | _,_,n + 1, .cons _ t=>Vals.drop n t
noncomputable def AW:Option V->Option Value->Prop
 | some v,some u=>RelV v u
 | none,none=>True
 | _,_=>False
noncomputable def KV {κ:Type}:List (κ × V)->List (κ × Value)->Prop:=Paired fun (p:κ × V)(q:κ × Value)=>p.1=q.1/\RelV p.2 q.2
noncomputable def kV:cb->V
 | .inl i => .int i
 | .inr x => .str x
inductive HO where
  | lst (xs:List V)
  | tup (xs:List V)
  | dK (kvs:List (cb × V)) | dT (kvs:List (List cb × V))
  | set (S:Int->Bool) (n:Nat)
  | ins (C dx:Addr) (fs:List (Str × V))
  | own (x:Addr)
  | xd (fs:List (Str × V))
  | met (f x:Addr)
  | O2 (lo hi:Int)
  | BK (o:Obj) (u:HO)
  | G6 (ps:Array Value)
  | ext (φ:Heap->Prop)
noncomputable abbrev Hp:=Addr->Option HO
noncomputable def upd (H:Hp)(a:Addr)(o:HO):Hp:=fun b=>if b=a then some o else H b
theorem ac {H:Hp}{a:Addr}{o:HO}:upd H a o a=some o:=by unfold upd;rw[if_pos rfl]
theorem ae {H:Hp}{a b:Addr}{o:HO}(h:b ≠ a):upd H a o b=H b:=by unfold upd;rw[if_neg h]
theorem aX {H:Hp}{a b:Addr}{o u:HO}(h:H a=some o)(h':H b=some u)(d:o ≠ u):a ≠ b:=by
 intro e;subst e;rw[h]at h';exact d (Option.some.inj h')
theorem ag {H:Hp}{a b:Addr}{o:HO}(h:H a=some o)(h':H b=none):a ≠ b:=by
 intro e;subst e;rw[h]at h';cases h'
noncomputable def Br (h:Heap)(a:Addr)(items:Array Value):Prop:=∃ o,h.get? a=some o/\(o.cls = .type "tuple"/\∃ n,o.data = .seq items n)/\o.dict=none
theorem Br.isTup {h:Heap}{a:Addr}{items:Array Value}:Br h a items->IsTup h a items:=fun⟨o,e,c,_⟩=>⟨o,e,c⟩
theorem Br.new (h:Heap)(items:Array Value):Br (h.push { cls := .type "tuple",data := .seq items }) h.objs.size items:=⟨_,Heap.get?_push_size _ rfl,⟨rfl,_,rfl⟩,rfl⟩
section
variable (P:Program)(w:World)
noncomputable def Ap (H:Hp)(h:Heap)(a:Addr):HO->Prop
 | .lst xs=>xs.length <= sizeLine/\∃ (Ab:List Value)(n:Nat),Vals xs Ab/\h.get? a=some { cls := .type "list",data := .seq Ab.toArray n }
 | .tup xs=>xs.length <= sizeLine/\∃ Ab:List Value,Vals xs Ab/\Br h a Ab.toArray
 | .dK kvs=>kvs.length <= sizeLine/\(a == sysModules)=false/\∃ vs,KV kvs vs/\h.DictOf (aU P w) a vs
 | .dT kvs=>kvs.length <= sizeLine/\(a == sysModules)=false/\∃ xs:List (List cb × Addr × Value),
   Paired (fun (p:List cb × V)(q:List cb × Addr × Value)=>p.1=q.1/\H q.2.1=some (.tup (p.1.map kV))/\RelV p.2 q.2.2) kvs xs /\
   ∃ o es ep,h.get? a=some o/\o.ExactDict/\o.data = .dict es ep/\es.toList=xs.map (entryOfKey (tupleKind (aU P w)))/\(xs.map (·.1)).Nodup
 | .set S n=>h.SetOf (intKind P w) a S n
 | .ins C dx fs=>H dx=some (.own a)/\fs.length <= 1000/\dx ≠ a/\h.get? a=some (PySem.W.instObj C dx) /\
   ∃ mA,h.Ns1 dx mA/\(∀ f,AW (fs.lookup f) (mA f))/\PySem.Within mA (fs.map (·.1))
 | .own _=>∃ o,h.get? a=some o
 | .xd fs=>∃ mA,h.Ns1 a mA/\∀ f,AW (fs.lookup f) (mA f)
 | .O2 lo hi=>∃ t u v,h.get? a=some { cls := .type "range",data := .fields #[.int lo t, .int hi u, .int 1 v] }
 | .BK o u=>h.get? a=some o/\Ap H h a u
 | .G6 ps=>h.get? a=some { cls := .none,data := .fields ps }
 | .met f x=>h.get? a=some (PySem.W.methodObj (.ref f) (.ref x))
 | .ext φ=>φ h/\(∃ o,h.get? a=some o)/\∀ h1 h2:Heap,φ h1->(∀ o,h1.get? a=some o->h2.get? a=some o)->φ h2
noncomputable def Bl (H:Hp)(h:Heap):Prop:=∀ a o,H a=some o->Ap P w H h a o
end
section
variable {P:Program}{w:World}{H H':Hp}{h h':Heap}{a:Addr}{o:HO}
theorem Ap.lt (x:Ap P w H h a o):a < h.objs.size:=by
 cases o with
 | lst xs=>obtain⟨_,_,_,_,e⟩:=x;exact lt_size e
 | tup xs=>obtain⟨_,_,_,p⟩:=x;exact p.isTup.lt
 | dK kvs=>obtain⟨_,_,_,_,o,_,_,e,_⟩:=x;exact lt_size e
 | dT kvs=>obtain⟨_,_,_,_,o,_,_,e,_⟩:=x;exact lt_size e
 | set S n=>obtain⟨o,_,_,_,e,_⟩:=x;exact lt_size e
 | ins C dx fs=>obtain⟨_,_,_,e,_⟩:=x;exact lt_size e
 | own y=>obtain⟨_,e⟩:=x;exact lt_size e
 | xd fs=>obtain⟨_,⟨_,_,_,e,_⟩,_⟩:=x;exact lt_size e
 | O2 lo hi=>obtain⟨_,_,_,e⟩:=x;exact lt_size e
 | BK ob u=>obtain⟨e,_⟩:=x;exact lt_size e
 | G6 ps=>exact lt_size (show h.get? a=some _ from x)
 | met f y=>exact lt_size (show h.get? a=some _ from x)
 | ext φ=>obtain⟨_,⟨_,e⟩,_⟩:=x;exact lt_size e
theorem Paired.HH {α β:Type}{F G:α->β->Prop}:∀ {l₁:List α}{l₂:List β},Paired F l₁ l₂->(∀ a b,F a b->G a b)->Paired G l₁ l₂
 | _,_, .nil,_ => .nil
 | _,_, .cons r t,f => .cons (f _ _ r) (Paired.HH t f)
theorem Ap.BS (x:Ap P w H h a o)(k:∀ b u,(b=a∨H b=some (.own a))->h.get? b=some u->h'.get? b=some u)
  (ho:∀ b,H b=some (.own a)->H' b=some (.own a)) (ht:∀ b xs,H b=some (.tup xs)->H' b=some (.tup xs)):Ap P w H' h' a o:=by
 induction o with
 | lst xs=>obtain⟨z,Ab,n,r,e⟩:=x;exact⟨z,Ab,n,r,k _ _ (.inl rfl) e⟩
 | tup xs=>obtain⟨z,Ab,r,ob,e,c⟩:=x;exact⟨z,Ab,r,ob,k _ _ (.inl rfl) e,c⟩
 | dK kvs=>obtain⟨z,y,vs,r,ob,es,ep,e,c⟩:=x;exact⟨z,y,vs,r,ob,es,ep,k _ _ (.inl rfl) e,c⟩
 | dT kvs =>
  obtain⟨z,y,xs,r,ob,es,ep,e,c⟩:=x
  exact⟨z,y,xs,Paired.HH r fun p q z=>⟨z.1,ht _ _ z.2.1,z.2.2⟩,ob,es,ep,k _ _ (.inl rfl) e,c⟩
 | set S n=>obtain⟨ob,es,ep,t,e,c⟩:=x;exact⟨ob,es,ep,t,k _ _ (.inl rfl) e,c⟩
 | ins C dx fs =>
  obtain⟨d,z,ne,e,mA,⟨od,es,ep,e2,c⟩,r⟩:=x
  exact⟨ho _ d,z,ne,k _ _ (.inl rfl) e,mA,⟨od,es,ep,k _ _ (.inr d) e2,c⟩,r⟩
 | own y=>obtain⟨ob,e⟩:=x;exact⟨ob,k _ _ (.inl rfl) e⟩
 | xd fs=>obtain⟨mA,⟨od,es,ep,e,c⟩,r⟩:=x;exact⟨mA,⟨od,es,ep,k _ _ (.inl rfl) e,c⟩,r⟩
 | O2 lo hi=>obtain⟨t,u,v,e⟩:=x;exact⟨t,u,v,k _ _ (.inl rfl) e⟩
 | BK ob u ih=>obtain⟨e,q⟩:=x;exact⟨k _ _ (.inl rfl) e,ih q⟩
 | G6 ps =>
  have e:h.get? a=some { cls := .none,data := .fields ps }:=x
  show h'.get? a=some { cls := .none,data := .fields ps }
  exact k a _ (.inl rfl) e
 | met f y =>
  have e:h.get? a=some (PySem.W.methodObj (.ref f) (.ref y)):=x
  show h'.get? a=some (PySem.W.methodObj (.ref f) (.ref y))
  exact k a _ (.inl rfl) e
 | ext φ=>obtain⟨p,⟨o,e⟩,st⟩:=x;exact⟨st _ _ p fun o q=>k _ _ (.inl rfl) q,⟨o,k _ _ (.inl rfl) e⟩,st⟩
theorem Bl.lt (x:Bl P w H h)(e:H a=some o):a < h.objs.size:=(x a o e).lt
theorem Bl.fresh (x:Bl P w H h)(e:h.objs.size <= a):H a=none:=by
 cases q:H a with
 | none=>rfl
 | some u=>exact absurd (lt_of_lt_of_le (x.lt q) e) (lt_irrefl _)
theorem Bl.kept (x:Bl P w H h)(k:∀ b u,h.get? b=some u->h'.get? b=some u):Bl P w H h':=fun a o e =>
 (x a o e).BS (fun b u _ q=>k b u q) (fun _ q=>q) fun _ _ q=>q
theorem Bl.laid (x:Bl P w H h)(k:∀ b u,h.get? b=some u->h'.get? b=some u)(hp:h.objs.size <= a)(new:Ap P w (upd H a o) h' a o):Bl P w (upd H a o) h':=fun b u e=>by
 have hn:=x.fresh hp
 by_cases hb:b=a
 ·subst hb;rw[ac]at e;cases e;exact new
 ·rw[ae hb]at e
  exact(x b u e).BS (fun c v _ q=>k c v q) (fun c q=>by rw[ae (ag q hn)];exact q) fun c xs q=>by rw[ae (ag q hn)];exact q
end
noncomputable def Rd (H:Hp)(a:Addr)(u:HO):Prop:=H a=some u∨∃ o,H a=some (.BK o u)
theorem Rd.ok {P:Program}{w:World}{H:Hp}{h:Heap}{a:Addr}{u:HO}(r:Rd H a u)(x:Bl P w H h):Ap P w H h a u:=by
 rcases r with r | ⟨o,r⟩
 ·exact x a u r
 ·obtain⟨_,q⟩:=x a _ r
  exact q
noncomputable def JV:Option HO->Prop
 | some (.lst _)=>True
 | some (.dK _)=>True
 | some (.dT _)=>True
 | some (.set _ _)=>True
 | some (.ins _ _ _)=>True
 | some (.ext _)=>True
 | _=>False
section
variable {P:Program}{w:World}{H:Hp}{h h':Heap}{x e:Addr}{o':HO}
theorem Bl.write (ok:Bl P w H h)(mu:JV (H x))(he:e=x∨H e=some (.own x))(k:∀ b u,b ≠ e->h.get? b=some u->h'.get? b=some u)(Jl:∃ u,h'.get? e=some u)
  (new:Ap P w (upd H x o') h' x o'):Bl P w (upd H x o') h':=fun b u q=>by
 have JW:∀ c y,H c=some (.own y)->c ≠ x:=fun c y r z=>by subst z;rw[r]at mu;exact mu
 have Qs:∀ c xs,H c=some (.tup xs)->c ≠ x:=fun c xs r z=>by subst z;rw[r]at mu;exact mu
 by_cases hb:b=x
 ·subst hb;rw[ac]at q;cases q;exact new
 ·rw[ae hb]at q
  by_cases Cw:b=e
  ·have q':H b=some (.own x):=by
    rcases he with z | z
    ·exact absurd (Cw.trans z) hb
    ·rw[Cw];exact z
   rw[q]at q';cases q'
   obtain⟨v,hv⟩:=Jl
   exact⟨v,by rw[Cw];exact hv⟩
  ·refine(ok b u q).BS (fun c v hc r=>k c v ?_ r) (fun c r=>by rw[ae (JW c b r)];exact r) fun c xs r=>by rw[ae (Qs c xs r)];exact r
   rcases hc with rfl | hc
   ·exact Cw
   ·rintro rfl
    rcases he with z | z
    ·exact JW c b hc z
    ·rw[hc]at z;cases z;exact hb rfl
end
structure Un (fs ex:List Addr)(H H':Hp)(h h':Heap):Prop where
 keep:∀ b o,h.get? b=some o->H b=none->b ∉ fs->b ∉ ex->h'.get? b=some o
 slot:∀ b o,h.get? b=some o->H b=none->b ∈ fs->b ∉ ex->∃ sl,h'.get? b=some { o with slots:=sl }
 free:∀ b o,h.get? b=some o->H b=none->b ∉ ex->H' b=none
 there:∀ b o,h.get? b=some o->b ∉ ex->∃ o',h'.get? b=some o'
 Ci:∀ b xs,H b=some (.tup xs)->H' b=some (.tup xs)
 BU:∀ b o u,H b=some (.BK o u)->H' b=some (.BK o u)
 Cj:∀ b ps,H b=some (.G6 ps)->∃ more,H' b=some (.G6 (ps ++ more))
section
variable {fs AH ex Jm:List Addr}{H H1 H2:Hp}{h h1 h2 h':Heap}{a x e:Addr}{o:HO}
theorem Un.any (u:Un fs ex H H1 h h1){b:Addr}{ob:Obj}(q:h.get? b=some ob)(n:H b=none)(hx:b ∉ ex):∃ sl,h1.get? b=some { ob with slots:=sl }:=by
 by_cases hb:b ∈ fs
 ·exact u.slot b ob q n hb hx
 ·exact⟨ob.slots,u.keep b ob q n hb hx⟩
theorem Un.kept (k:∀ b u,h.get? b=some u->h'.get? b=some u):Un fs ex H H h h' :=
 ⟨fun b ob q _ _ _=>k b ob q,fun b ob q _ _ _=>⟨ob.slots,k b ob q⟩,fun _ _ _ n _=>n,fun b ob q _=>⟨ob,k b ob q⟩,fun _ _ q=>q,fun _ _ _ q=>q,fun _ ps q=>⟨#[],by rw[q];simp⟩⟩
theorem Un.refl:Un fs ex H H h h:=Un.kept fun _ _ q=>q
theorem Un.laid (k:∀ b u,h.get? b=some u->h'.get? b=some u)(hp:h.objs.size <= a)(hn:H a=none):Un fs ex H (upd H a o) h h' where
 keep:=fun b u q _ _ _=>k b u q
 slot:=fun b u q _ _ _=>⟨u.slots,k b u q⟩
 free:=fun b u q n _=>by rw[ae (ne_of_lt (lt_of_lt_of_le (lt_size q) hp))];exact n
 there:=fun b u q _=>⟨u,k b u q⟩
 Ci:=fun b xs q=>by rw[ae (ag q hn)];exact q
 BU:=fun b u xs q=>by rw[ae (ag q hn)];exact q
 Cj:=fun b ps q=>⟨#[],by rw[ae (ag q hn),q];simp⟩
theorem Un.write (mu:JV (H x))(he:e=x∨H e=some (.own x))(k:∀ b u,b ≠ e->h.get? b=some u->h'.get? b=some u)(Jl:∃ u,h'.get? e=some u):Un fs ex H (upd H x o) h h':=by
 have hx:∀ b,H b=none->b ≠ x:=fun b n z=>by subst z;rw[n]at mu;exact mu
 have hb:∀ b,H b=none->b ≠ e:=fun b n z=>by
  subst z
  rcases he with r | r
  ·exact hx b n r
  ·rw[n]at r;cases r
 have hm:∀ b u,H b=some u->¬ JV (some u)->b ≠ x:=fun b u q nm z=>by subst z;rw[q]at mu;exact nm mu
 refine⟨fun b u q n _ _=>k b u (hb b n) q,fun b u q n _ _=>⟨u.slots,k b u (hb b n) q⟩,fun b u q n _=>by rw[ae (hx b n)];exact n,fun b u q _=>?_,
  fun b xs q=>by rw[ae (hm b _ q fun z=>z)];exact q,fun b u xs q=>by rw[ae (hm b _ q fun z=>z)];exact q,fun b ps q=>⟨#[],by rw[ae (hm b _ q fun z=>z),q];simp⟩⟩
 by_cases Cw:b=e
 ·subst Cw;exact Jl
 ·exact⟨u,k b u Cw q⟩
end
noncomputable def O3 (h:Heap)(H:Hp):List Addr:=(List.range h.objs.size).filter fun a=>(H a).isSome
noncomputable def lM (h:Heap)(H:Hp):Heap:=PySem.W.hideAll h (O3 h H)
theorem rO (h:Heap)(H:Hp):(lM h H).objs.size=h.objs.size:=PySem.W.hideAll_size _ _
theorem uX {h:Heap}{H:Hp}{b:Addr}{o:Obj}(e:h.get? b=some o)(n:H b=none):(lM h H).get? b=some o :=
 PySem.W.hideAll_get _ e fun hm=>by
  have q:(H b).isSome=true:=(mem_filter.mp hm).2
  rw[n]at q;simp at q
theorem wP {h:Heap}{H:Hp}{b:Addr}{o:Obj}(e:(lM h H).get? b=some o):h.get? b=some o/\H b=none:=by
 have e':h.get? b=some o:=PySem.W.of_hideAll (O3 h H) e
 refine⟨e',?_⟩
 cases q:H b with
 | none=>rfl
 | some x =>
  have hm:b ∈ O3 h H:=mem_filter.mpr ⟨mem_range.mpr (lt_size e'),by simp[q]⟩
  have z:(lM h H).get? b=none:=PySem.W.hideAll_none (O3 h H) hm
  rw[z]at e;cases e
end L2
namespace L2
open PySem PySem.Spec PyProof.Rows
structure Mod (K:Frag)(mg:Str->Option Value)(base:Heap):Prop where
 Eo:K.In base
 glob:base.Ns mainGlobals mg
 blt:∃ mb,base.Ns builtinsNs mb/\∀ x:Str,x ≠ "__name__"->mb x=bootBuiltins x
 nolimit:base.NoLimit
structure Cx where
 prog:Program
 w:World
 K:Frag
 mg:Str->Option Value
 base:Heap
 A:Around
 N:List Str
 s₀:Shared
 H₀:Hp
 env:Env
 outer:List Env
 stack:List Env
 ex:List Addr
 fn:Str->Bool
 calm:Bool
 pn:List (Addr × Obj)
 xe:Value->Shared->Prop
noncomputable def lP (l:List Env):List Addr:=l.filterMap (·.frame)
noncomputable abbrev Cx.fs (X:Cx):List Addr:=lP X.outer
noncomputable def O4 (sc:Scope)(x:Str):Prop:=sc.names.lookup x=some .local∨sc.names.lookup x=some .cell∨sc.names.lookup x=some .free
noncomputable def Loc (sc:Scope)(x:Str):Prop:=sc.names.lookup x=some .local∨sc.names.lookup x=some .cell
noncomputable def Look (env:Env)(h:Heap)(m:Str->Option Value)(x:Str)(u:Value):Prop :=
 (env.kindOf x=some .local/\m x=some u)∨((env.kindOf x=some .cell∨env.kindOf x=some .free)/\∃ c,env.cells.lookup x=some c/\h.IsCell c (some u))
structure Cx.Ok (X:Cx):Prop where
 mod:Mod X.K X.mg X.base
 kind:X.env.scope.kind = .function
 glob:X.env.globals=mainGlobals
 blt:X.env.builtins=builtinsNs
 above:X.s₀.heap.objs.size <= X.env.locals
 inj:∀ x y c,X.env.cells.lookup x=some c->X.env.cells.lookup y=some c->x=y
 has:∀ x,(X.env.kindOf x=some .cell∨X.env.kindOf x=some .free)->∃ c,X.env.cells.lookup x=some c
 JX:∀ x c,X.fn x=true->X.env.cells.lookup x=some c->X.s₀.heap.objs.size <= c
 hd:X.calm=true->X.A.handled=none
 frames:X.A.frames=some X.stack
 O5:X.stack=X.outer∨(X.stack=X.env :: X.outer/\X.env.frame=some X.env.locals)
 Wh:∀ b ∈ X.ex,b ≠ X.env.locals/\∀ x c,X.env.cells.lookup x=some c->c ≠ b
 bs:∀ b o,X.base.get? b=some o->X.s₀.heap.get? b=some o/\X.H₀ b=none
 Fw:X.base.objs.size <= X.s₀.heap.objs.size
 E9:∀ b o,X.base.get? b=some o->b ∉ X.ex
 Fx:∀ b ∈ X.ex,b ∉ X.fs
 BV:X.s₀.heap.FunFrames X.base X.outer
 HI:∀ b ∈ X.fs,X.H₀ b=none
structure Inv (X:Cx)(pins:List (Addr × Obj))(σ:List (Option V))(H:Hp)(s:Shared):Prop where
 ok:X.Ok
 os:s.os=X.s₀.os
 bare:AllBare s.gens
 base:Un X.fs X.ex X.H₀ H X.s₀.heap s.heap
 loc:∃ m,s.heap.Ns X.env.locals m/\∀ (i:Nat)(x:Str)(v:V),X.N[i]? = some x->σ[i]? = some (some v)->O4 X.env.scope x->∃ u,RelV v u/\Look X.env s.heap m x u
 cell:∀ x c,X.env.cells.lookup x=some c->∃ v,s.heap.IsCell c v
 free:H X.env.locals=none
 AO:∀ x c,X.env.cells.lookup x=some c->H c=none
 pin:∀ p ∈ X.pn ++ pins,s.heap.get? p.1=some p.2/\H p.1=none/\p.1 ≠ X.env.locals/\p.1 ∉ X.fs/\∀ v,p.2.data ≠ .cell v
 Ad:Bl X.prog X.w H s.heap
 len:σ.length=X.N.length
section
variable {X:Cx}{pins:List (Addr × Obj)}{σ:List (Option V)}{H H':Hp}{s:Shared}{h':Heap}
theorem Cx.Ok.Qt (ok:X.Ok){b:Addr}{o:Obj}(e:X.base.get? b=some o):b ∉ X.fs:=fun hb=>by
 have:=(ok.BV.mem hb).1
 rw[e]at this;cases this
theorem Inv.bs (I:Inv X pins σ H s):∀ b o,X.base.get? b=some o->s.heap.get? b=some o/\H b=none:=fun b o e =>
 ⟨I.base.keep b o (I.ok.bs b o e).1 (I.ok.bs b o e).2 (I.ok.Qt e) (I.ok.E9 b o e),I.base.free b o (I.ok.bs b o e).1 (I.ok.bs b o e).2 (I.ok.E9 b o e)⟩
theorem Inv.bk (I:Inv X pins σ H s):∀ b o,X.base.get? b=some o->s.heap.get? b=some o:=fun b o e=>(I.bs b o e).1
theorem Inv.mod (I:Inv X pins σ H s):Mod X.K X.mg X.base:=I.ok.mod
theorem Inv.Bd (I:Inv X pins σ H s):X.K.In s.heap:=I.ok.mod.Eo.keeps I.bk
theorem Inv.lt (I:Inv X pins σ H s):X.env.locals < s.heap.objs.size:=let ⟨_,hn,_⟩:=I.loc;hn.lt
theorem Inv.sz (I:Inv X pins σ H s):X.s₀.heap.objs.size <= s.heap.objs.size:=le_trans I.ok.above (le_of_lt I.lt)
theorem Inv.Qu (I:Inv X pins σ H s){a:Addr}(h:s.heap.objs.size <= a):a ∉ X.fs:=fun hb=>by
 obtain⟨_,o,ho,_⟩:=I.ok.BV.mem hb
 exact absurd (lt_of_lt_of_le (lt_size ho) (le_trans I.sz h)) (lt_irrefl _)
theorem Inv.Fg (I:Inv X pins σ H s):∀ x c,X.env.cells.lookup x=some c->c ≠ X.env.locals:=fun x c e z=>by
 obtain⟨v,o,ho,hd⟩:=I.cell x c e
 obtain⟨m,⟨o',es,ep,Fy,HJ,_⟩,_⟩:=I.loc
 rw[z,Fy]at ho;cases ho;rw[HJ]at hd;cases hd
theorem Inv.BV (I:Inv X pins σ H s):s.heap.FunFrames X.base X.outer:=by
 have all:∀ (l:List Env),(∀ b ∈ lP l,b ∈ X.fs)->X.s₀.heap.FunFrames X.base l->s.heap.FunFrames X.base l:=by
  intro l
  induction l with
  | nil=>intro _ _;trivial
  | cons env r ih =>
   intro hs hl
   obtain⟨hk,⟨L,o,hf,hn,ho,hd⟩,hr⟩:=hl
   have hL:L ∈ X.fs:=hs L (by unfold lP;rw[filterMap_cons,hf];exact mem_cons_self)
   obtain⟨sl,e⟩:=I.base.slot L o ho (I.ok.HI L hL) hL fun z=>I.ok.Fx L z hL
   exact⟨hk,⟨L,_,hf,hn,e,hd⟩,ih (fun b hb=>hs b (by unfold lP;rw[filterMap_cons,hf];exact mem_cons_of_mem _ hb)) hr⟩
 exact all X.outer (fun _ hb=>hb) I.ok.BV
theorem Inv.stack (I:Inv X pins σ H s):s.heap.FunFrames X.base X.stack:=by
 rcases I.ok.O5 with e | ⟨e,hf⟩
 ·rw[e];exact I.BV
 ·rw[e]
  obtain⟨m,hn,_⟩:=I.loc
  refine .cons (by rw[I.ok.kind];decide) hf hn ?_ I.BV
  exact Heap.get?_none_of_le (le_trans I.ok.Fw I.ok.above)
theorem Inv.BF (I:Inv X pins σ H s):∀ b ∈ lP X.stack,b ∈ X.env.locals :: X.fs:=fun b hb=>by
 rcases I.ok.O5 with e | ⟨e,hf⟩
 ·rw[e]at hb;exact mem_cons_of_mem _ hb
 ·rw[e]at hb
  unfold lP at hb
  rw[filterMap_cons,hf]at hb
  exact hb
theorem Inv.CF (I:Inv X pins σ H s):∀ b ∈ lP X.stack,H b=none:=fun b hb=>by
 rcases mem_cons.mp (I.BF b hb) with e | hb
 ·rw[e];exact I.free
 ·obtain⟨_,o,ho,_⟩:=I.ok.BV.mem hb
  exact I.base.free b o ho (I.ok.HI b hb) fun z=>I.ok.Fx b z hb
theorem Inv.step {g':Array GenState}{t':Nat}{d':Drawn}{ch:List Addr}(I:Inv X pins σ H s)
  (Ct:∀ b ∈ ch,(b ∈ X.ex∨X.s₀.heap.objs.size <= b)/\b ≠ X.env.locals/\(∀ x c,X.env.cells.lookup x=some c->c ≠ b)/\∀ p ∈ X.pn ++ pins,p.1 ≠ b)
  (keep:∀ b o,b ≠ X.env.locals->b ∉ X.fs->b ∉ ch->s.heap.get? b=some o->H b=none->h'.get? b=some o)
  (slot:∀ b o,b ≠ X.env.locals->b ∈ X.fs->b ∉ ch->s.heap.get? b=some o->H b=none->∃ sl,h'.get? b=some { o with slots:=sl }) (free:∀ b o,b ∉ ch->s.heap.get? b=some o->H b=none->H' b=none)
  (there:∀ b o,b ∉ ch->s.heap.get? b=some o->∃ o',h'.get? b=some o')
  (Ci:∀ b xs,H b=some (.tup xs)->H' b=some (.tup xs)) (BU:∀ b o u,H b=some (.BK o u)->H' b=some (.BK o u)) (Cj:∀ b ps,H b=some (.G6 ps)->∃ more,H' b=some (.G6 (ps ++ more)))
  (ns:∀ m,s.heap.Ns X.env.locals m->h'.Ns X.env.locals m) (Ad:Bl X.prog X.w H' h') (hg:AllBare g') :
  Inv X pins σ H' { s with heap:=h',gens:=g',drawn:=d',toks:=t' }:=by
 have Wi:∀ b o,X.s₀.heap.get? b=some o->b ≠ X.env.locals:=fun b o e=>ne_of_lt (lt_of_lt_of_le (lt_size e) I.ok.above)
 have O6:∀ b o,X.s₀.heap.get? b=some o->b ∉ X.ex->b ∉ ch:=fun b o e hx hb=>by
  rcases (Ct b hb).1 with z | z
  ·exact hx z
  ·exact absurd (lt_of_lt_of_le (lt_size e) z) (lt_irrefl _)
 have cellK:∀ x c,X.env.cells.lookup x=some c->∀ v,s.heap.IsCell c v->h'.IsCell c v:=fun x c e v ⟨o,ho,hd⟩=>by
  have JY:c ∉ ch:=fun z=>(Ct c z).2.2.1 x c e rfl
  by_cases hc:c ∈ X.fs
  ·obtain⟨sl,q⟩:=slot c o (I.Fg x c e) hc JY ho (I.AO x c e)
   exact⟨_,q,hd⟩
  ·exact⟨o,keep c o (I.Fg x c e) hc JY ho (I.AO x c e),hd⟩
 refine⟨I.ok,I.os,hg,⟨fun b o e n hb hx=>?_,fun b o e n hb hx=>?_,fun b o e n hx=>?_,fun b o e hx=>?_,fun b xs e=>Ci b xs (I.base.Ci b xs e),fun b o xs e=>BU b o xs (I.base.BU b o xs e),fun b ps e=>?_⟩,?_,fun x c e=>?_,?_,fun x c e=>?_,fun p hp=>?_,Ad,I.len⟩
 ·exact keep b o (Wi b o e) hb (O6 b o e hx) (I.base.keep b o e n hb hx) (I.base.free b o e n hx)
 ·obtain⟨sl,e1⟩:=I.base.slot b o e n hb hx
  obtain⟨sl',e2⟩:=slot b _ (Wi b o e) hb (O6 b o e hx) e1 (I.base.free b o e n hx)
  exact⟨sl',e2⟩
 ·obtain⟨o',e1⟩:=I.base.there b o e hx
  exact free b o' (O6 b o e hx) e1 (I.base.free b o e n hx)
 ·obtain⟨o',e1⟩:=I.base.there b o e hx
  exact there b o' (O6 b o e hx) e1
 ·obtain⟨m1,e1⟩:=I.base.Cj b ps e
  obtain⟨m2,e2⟩:=Cj b _ e1
  exact⟨m1 ++ m2,by rw[e2,Array.append_assoc]⟩
 ·obtain⟨m,hn,hl⟩:=I.loc
  refine⟨m,ns m hn,fun i x v e1 e2 e3=>?_⟩
  obtain⟨u,r,l⟩:=hl i x v e1 e2 e3
  refine⟨u,r,?_⟩
  rcases l with l | ⟨k,c,e,z⟩
  ·exact .inl l
  ·exact .inr ⟨k,c,e,cellK x c e _ z⟩
 ·obtain⟨v,z⟩:=I.cell x c e
  exact⟨v,cellK x c e v z⟩
 ·obtain⟨m,⟨o,_,_,ho,_⟩,_⟩:=I.loc
  exact free _ o (fun z=>(Ct _ z).2.1 rfl) ho I.free
 ·obtain⟨v,o,ho,hd⟩:=I.cell x c e
  exact free c o (fun z=>(Ct c z).2.2.1 x c e rfl) ho (I.AO x c e)
 ·obtain⟨e,n,ne,nf,d⟩:=I.pin p hp
  have JY:p.1 ∉ ch:=fun z=>(Ct p.1 z).2.2.2 p hp rfl
  exact⟨keep p.1 p.2 ne nf JY e n,free p.1 p.2 JY e n,ne,nf,d⟩
theorem Inv.un {t':Nat}(I:Inv X pins σ H s)(u:Un X.fs [] H H' s.heap h')(Ad:Bl X.prog X.w H' h'):Inv X pins σ H' { s with heap:=h',toks:=t' }:=by
 obtain⟨m,⟨o,es,ep,ho,r⟩,_⟩:=id I.loc
 obtain⟨sl,hL⟩:=u.any ho I.free (by simp)
 exact I.step (g':=s.gens) (d':=s.drawn) (ch:=[]) (fun _ z=>nomatch z) (fun b o _ hb _ e n=>u.keep b o e n hb (by simp)) (fun b o _ hb _ e n=>u.slot b o e n hb (by simp)) (fun b o _ e n=>u.free b o e n (by simp)) (fun b o _ e=>u.there b o e (by simp)) u.Ci u.BU u.Cj (fun m' hm=>by
  obtain⟨o',O7,Qv,Fy,r'⟩:=hm
  rw[ho]at Fy;cases Fy
  exact⟨_,O7,Qv,hL,r'⟩) Ad I.bare
theorem Inv.call {g':Array GenState}{t':Nat}{d':Drawn}{ch:List Addr}(I:Inv X pins σ H s)(u:Un (lP X.stack) ch H H' s.heap h')(Ad:Bl X.prog X.w H' h')(hg:AllBare g')
  (Ct:∀ b ∈ ch,(b ∈ X.ex∨X.s₀.heap.objs.size <= b)/\b ≠ X.env.locals/\(∀ x c,X.env.cells.lookup x=some c->c ≠ b)/\∀ p ∈ X.pn ++ pins,p.1 ≠ b) :
  Inv X pins σ H' { s with heap:=h',gens:=g',drawn:=d',toks:=t' }:=by
 obtain⟨m,⟨o,es,ep,ho,r⟩,_⟩:=id I.loc
 obtain⟨sl,hL⟩:=u.any ho I.free fun z=>(Ct _ z).2.1 rfl
 exact I.step (ch:=ch) Ct (fun b o hL hb hc e n=>u.keep b o e n (fun z=>(mem_cons.mp (I.BF b z)).elim hL hb) hc) (fun b o _ _ hc e n=>u.any e n hc) (fun b o hc e n=>u.free b o e n hc) (fun b o hc e=>u.there b o e hc) u.Ci u.BU u.Cj (fun m' hm=>by
  obtain⟨o',O7,Qv,Fy,r'⟩:=hm
  rw[ho]at Fy;cases Fy
  exact⟨_,O7,Qv,hL,r'⟩) Ad hg
theorem Inv.turned {t':Nat}{it:Addr}(I:Inv X pins σ H s)(k:∀ b o,b ≠ it->s.heap.get? b=some o->h'.get? b=some o)(hn:H it=none)(hL:it ≠ X.env.locals)
  (h1:it ∈ X.ex∨X.s₀.heap.objs.size <= it) (h2:∀ x c,X.env.cells.lookup x=some c->c ≠ it) (h3:∀ p ∈ X.pn ++ pins,p.1 ≠ it):Inv X pins σ H { s with heap:=h',toks:=t' }:=by
 have Wj:∀ b u,H b=some u->b ≠ it:=fun b u e z=>by rw[z,hn]at e;cases e
 refine I.step (g':=s.gens) (d':=s.drawn) (ch:=[it]) (fun b hb=>?_) (fun b o _ _ hc e _=>k b o (fun z=>hc (by simp[z])) e) (fun b o _ _ hc e _=>⟨o.slots,k b o (fun z=>hc (by simp[z])) e⟩) (fun _ _ _ _ n=>n)
  (fun b o hc e=>⟨o,k b o (fun z=>hc (by simp[z])) e⟩) (fun _ _ e=>e) (fun _ _ _ e=>e) (fun b ps e=>⟨#[],by rw[e];simp⟩) (fun m hm=>?_) (fun b u e=>?_) I.bare
 ·have e:b=it:=by simpa using hb
  subst e
  exact⟨h1,hL,h2,h3⟩
 ·obtain⟨o,es,ep,ho,r⟩:=hm
  exact⟨o,es,ep,k _ o (Ne.symm hL) ho,r⟩
 ·refine(I.Ad b u e).BS (fun c v hc q=>k c v ?_ q) (fun _ q=>q) fun _ _ q=>q
  rcases hc with z | z
  ·rw[z];exact Wj b u e
  ·exact Wj c _ z
theorem Inv.tok (I:Inv X pins σ H s)(t:Nat):Inv X pins σ H { s with toks:=t }:=I.un (h':=s.heap) (t':=t) Un.refl I.Ad
theorem Inv.kept {t':Nat}(I:Inv X pins σ H s)(k:∀ b u,s.heap.get? b=some u->h'.get? b=some u):Inv X pins σ H { s with heap:=h',toks:=t' }:=I.un (Un.kept k) (I.Ad.kept k)
theorem Inv.laid {a:Addr}{o:HO}{t':Nat}(I:Inv X pins σ H s)(k:∀ b u,s.heap.get? b=some u->h'.get? b=some u)(hp:s.heap.objs.size <= a)(new:Ap X.prog X.w (upd H a o) h' a o) :
  Inv X pins σ (upd H a o) { s with heap:=h',toks:=t' }:=I.un (Un.laid k hp (I.Ad.fresh hp)) (I.Ad.laid k hp new)
theorem Inv.write {x e:Addr}{o:HO}{t':Nat}(I:Inv X pins σ H s)(mu:JV (H x))(he:e=x∨H e=some (.own x))(k:∀ b u,b ≠ e->s.heap.get? b=some u->h'.get? b=some u)(Jl:∃ u,h'.get? e=some u)
  (new:Ap X.prog X.w (upd H x o) h' x o):Inv X pins σ (upd H x o) { s with heap:=h',toks:=t' }:=I.un (Un.write mu he k Jl) (I.Ad.write mu he k Jl new)
theorem Inv.Bx {CW:List (Addr × Obj)}(I:Inv X pins σ H s)(h:∀ p ∈ CW,s.heap.get? p.1=some p.2/\H p.1=none/\p.1 ≠ X.env.locals/\p.1 ∉ X.fs/\∀ v,p.2.data ≠ .cell v):Inv X CW σ H s :=
 ⟨I.ok,I.os,I.bare,I.base,I.loc,I.cell,I.free,I.AO,fun p hp=>(mem_append.mp hp).elim (fun z=>I.pin p (mem_append_left _ z)) (h p),I.Ad,I.len⟩
theorem mX {N:List Str}(hN:N.Nodup){i j:Nat}{x:Str}(a:N[i]? = some x)(b:N[j]? = some x):i=j:=by
 obtain⟨h1,e1⟩:=List.getElem?_eq_some_iff.mp a
 obtain⟨h2,e2⟩:=List.getElem?_eq_some_iff.mp b
 exact(List.getElem_inj hN).mp (e1.trans e2.symm)
theorem k4 {M:Model}{A:Around}{E:Value->Shared->Prop}{i:Nat}{x:Str}{v:V}{u:Value}{Q:Unit->Shared->Prop}(I:Inv X pins σ H s)(hN:X.N.Nodup)(hi:X.N[i]? = some x)(hx:Loc X.env.scope x)(r:RelV v u)
  (h:∀ s',Inv X pins (σ.set i (some v)) H s'->(∃ a,Heap.SameBut a s.heap s'.heap/\(a=X.env.locals∨X.env.cells.lookup x=some a))->Q () s') (hf:X.fn x=true∨X.env.scope.names.lookup x=some .local:=by first | exact .inl rfl | exact .inr rfl | assumption):wpAny M A (storeName X.env x u) Q E s:=by
 obtain⟨m,hn,hl⟩:=id I.loc
 have Qw:(X.env.scope.kind == .class || (X.env.scope.kind == .module && X.env.locals != X.env.globals))=false:=by rw[I.ok.kind];rfl
 have JZ:i < σ.length:=by rw[I.len];exact(List.getElem?_eq_some_iff.mp hi).1
 have Fg:=I.Fg
 have tracked:∀ {a:Addr}{h':Heap},(∃ o,s.heap.get? a=some o/\H a=none)->Heap.SameBut a s.heap h'->Bl X.prog X.w H h':=fun {a h'} ha hs b ob e=>by
  obtain⟨_,_,G7⟩:=ha
  refine(I.Ad b ob e).BS (fun c w' hc q=>(hs.2 c ?_).trans q) (fun _ q=>q) fun _ _ q=>q
  rintro rfl
  rcases hc with rfl | hc
  ·rw[G7]at e;cases e
  ·rw[G7]at hc;cases hc
 rcases hx with hk | hk
 ·refine wpAny_storeName_local hk hn (fun h' CQ hs=>?_) Qw
  obtain⟨oL,_,_,hoL,_⟩:=id hn
  refine h _ ⟨I.ok,I.os,I.bare,⟨fun b o e n hb hx=>?_,fun b o e n hb hx=>?_,I.base.free,fun b o e hx=>?_,I.base.Ci,I.base.BU,I.base.Cj⟩,⟨_,CQ,fun j y v' e1 e2 e3=>?_⟩,fun y c e=>?_,I.free,I.AO,fun p hp=>?_,tracked ⟨oL,hoL,I.free⟩ hs,by simpa using I.len⟩ ⟨_,hs, .inl rfl⟩
  ·exact(hs.2 b (ne_of_lt (lt_of_lt_of_le (lt_size e) I.ok.above))).trans (I.base.keep b o e n hb hx)
  ·obtain⟨sl,e1⟩:=I.base.slot b o e n hb hx
   exact⟨sl,(hs.2 b (ne_of_lt (lt_of_lt_of_le (lt_size e) I.ok.above))).trans e1⟩
  ·obtain⟨o',e1⟩:=I.base.there b o e hx
   exact⟨o',(hs.2 b (ne_of_lt (lt_of_lt_of_le (lt_size e) I.ok.above))).trans e1⟩
  ·by_cases hj:j=i
   ·subst hj
    rw[hi]at e1;cases e1
    rw[List.getElem?_set_self JZ]at e2
    cases e2
    exact⟨u,r, .inl ⟨hk,by simp⟩⟩
   ·rw[List.getElem?_set_ne (Ne.symm hj)]at e2
    obtain⟨u',r',q⟩:=hl j y v' e1 e2 e3
    refine⟨u',r',?_⟩
    rcases q with ⟨k,e⟩ | ⟨k,c,e,z⟩
    ·refine .inl ⟨k,?_⟩
     have:y ≠ x:=fun e=>hj (mX hN e1 (e ▸ hi))
     simp[this,e]
    ·exact .inr ⟨k,c,e,z.sameBut hs (Fg y c e)⟩
  ·obtain⟨w',z⟩:=I.cell y c e
   exact⟨w',z.sameBut hs (Fg y c e)⟩
  ·obtain⟨e,n,ne,nf,d⟩:=I.pin p hp
   exact⟨(hs.2 p.1 ne).trans e,n,ne,nf,d⟩
 ·have Qx:X.fn x=true:=by
   rcases hf with z | z
   ·exact z
   ·rw[z]at hk;cases hk
  obtain⟨c,hc⟩:=I.ok.has x (.inl hk)
  obtain⟨w',z⟩:=I.cell x c hc
  refine wpAny_storeName_cell I.ok.kind hk hc z (fun h' Jn hs=>?_)
  obtain⟨oc,Wk,Qy⟩:=id z
  refine h { s with heap:=h' } ⟨I.ok,I.os,I.bare,⟨fun b o e n hb hx=>?_,fun b o e n hb hx=>?_,I.base.free,fun b o e hx=>?_,I.base.Ci,I.base.BU,I.base.Cj⟩,⟨m,hn.sameBut hs (Ne.symm (Fg x c hc)),fun j y v' e1 e2 e3=>?_⟩,fun y c' e=>?_,I.free,I.AO,fun p hp=>?_,tracked ⟨oc,Wk,I.AO x c hc⟩ hs,by simpa using I.len⟩ ⟨c,hs, .inr hc⟩
  ·exact(hs.2 b (ne_of_lt (lt_of_lt_of_le (lt_size e) (I.ok.JX x c Qx hc)))).trans (I.base.keep b o e n hb hx)
  ·obtain⟨sl,e1⟩:=I.base.slot b o e n hb hx
   exact⟨sl,(hs.2 b (ne_of_lt (lt_of_lt_of_le (lt_size e) (I.ok.JX x c Qx hc)))).trans e1⟩
  ·obtain⟨o',e1⟩:=I.base.there b o e hx
   exact⟨o',(hs.2 b (ne_of_lt (lt_of_lt_of_le (lt_size e) (I.ok.JX x c Qx hc)))).trans e1⟩
  ·by_cases hj:j=i
   ·subst hj
    rw[hi]at e1;cases e1
    rw[List.getElem?_set_self JZ]at e2
    cases e2
    exact⟨u,r, .inr ⟨.inl hk,c,hc,Jn⟩⟩
   ·rw[List.getElem?_set_ne (Ne.symm hj)]at e2
    obtain⟨u',r',q⟩:=hl j y v' e1 e2 e3
    refine⟨u',r',?_⟩
    rcases q with q | ⟨k,c',e,z'⟩
    ·exact .inl q
    ·refine .inr ⟨k,c',e,z'.sameBut hs ?_⟩
     rintro rfl
     exact hj (mX hN e1 (I.ok.inj _ _ _ e hc ▸ hi))
  ·by_cases O8:c' = c
   ·subst O8;exact⟨_,Jn⟩
   ·obtain⟨w2,z2⟩:=I.cell y c' e
    exact⟨w2,z2.sameBut hs O8⟩
  ·obtain⟨e,n,ne,nf,d⟩:=I.pin p hp
   refine⟨(hs.2 p.1 ?_).trans e,n,ne,nf,d⟩
   intro q
   rw[q,Wk]at e
   have q':oc=p.2:=Option.some.inj e
   exact d w' (by rw[← q'];exact Qy)
theorem jt {M:Model}{A:Around}{E:Value->Shared->Prop}{i:Nat}{x:Str}{v:V}{u:Value}{Q:Unit->Shared->Prop}(I:Inv X pins σ H s)(hN:X.N.Nodup)(hi:X.N[i]? = some x)(hx:Loc X.env.scope x)(r:RelV v u)
  (h:∀ s',Inv X pins (σ.set i (some v)) H s'->Q () s') (hf:X.fn x=true∨X.env.scope.names.lookup x=some .local:=by first | exact .inl rfl | exact .inr rfl | assumption):wpAny M A (storeName X.env x u) Q E s :=
 k4 I hN hi hx r (fun s' I' _=>h s' I') hf
theorem Inv.G8 {s':Shared}{ch:List Addr}(I:Inv X pins σ H s)(ho:s'.os=s.os)(u:Un (lP X.stack) ch H H' s.heap s'.heap)(Ad:Bl X.prog X.w H' s'.heap)(hg:AllBare s'.gens)
  (Ct:∀ b ∈ ch,(b ∈ X.ex∨X.s₀.heap.objs.size <= b)/\b ≠ X.env.locals/\(∀ x c,X.env.cells.lookup x=some c->c ≠ b)/\∀ p ∈ X.pn ++ pins,p.1 ≠ b):Inv X pins σ H' s':=by
 obtain⟨h',g',d',t',o'⟩:=s'
 have e:o' = s.os:=ho
 subst e
 exact I.call (g':=g') (t':=t') (d':=d') u Ad hg Ct
end
noncomputable abbrev XK:=Value->Option Addr->Hp->Prop
noncomputable abbrev St:=List (Option V)
noncomputable abbrev VK:=V->Hp->Prop
noncomputable abbrev TE:=St->Hp->VK->Prop
noncomputable abbrev TT:=St->Hp->(Bool->Hp->Prop)->Prop
noncomputable abbrev TA:=St->Hp->(List V->Hp->Prop)->Prop
structure lZ where
 nx:St->Hp->Prop
 rt:VK
 bk:St->Hp->Prop:=fun _ _=>False
 ct:St->Hp->Prop:=fun _ _=>False
noncomputable abbrev TS:=lZ->St->Hp->Prop
noncomputable def EP (X:Cx)(pins:List (Addr × Obj))(σ:St)(Q:VK)(u:Value)(s':Shared):Prop:=∃ v H',Inv X pins σ H' s'/\RelV v u/\Q v H'
noncomputable def TP (X:Cx)(pins:List (Addr × Obj))(σ:St)(Q:Bool->Hp->Prop)(b:Bool)(s':Shared):Prop:=∃ H',Inv X pins σ H' s'/\Q b H'
noncomputable def AP (X:Cx)(pins:List (Addr × Obj))(σ:St)(Q:List V->Hp->Prop)(us:List Value)(s':Shared):Prop:=∃ vs H',Inv X pins σ H' s'/\Vals vs us/\Q vs H'
noncomputable def SP (X:Cx)(pins:List (Addr × Obj))(D:lZ)(f:Flow)(s':Shared):Prop :=
 match f with
 | .next=>∃ σ' H',Inv X pins σ' H' s'/\D.nx σ' H'
 | .brk=>∃ σ' H',Inv X pins σ' H' s'/\D.bk σ' H'
 | .cont=>∃ σ' H',Inv X pins σ' H' s'/\D.ct σ' H'
 | .ret u=>∃ v σ' H',Inv X pins σ' H' s'/\RelV v u/\D.rt v H'
noncomputable def PE (X:Cx)(e:Expr)(t:TE):Prop :=
 ∀ (pins:List (Addr × Obj))(s:Shared)(σ:St)(H:Hp)(Q:VK),Inv X pins σ H s->t σ H Q->wpAny (model X.prog X.w) X.A (eval e X.env) (EP X pins σ Q) X.xe s
noncomputable def PT (X:Cx)(e:Expr)(t:TT):Prop :=
 ∀ (pins:List (Addr × Obj))(s:Shared)(σ:St)(H:Hp)(Q:Bool->Hp->Prop),Inv X pins σ H s->t σ H Q->wpAny (model X.prog X.w) X.A (isTrue e X.env (eval e X.env)) (TP X pins σ Q) X.xe s
noncomputable def PW (X:Cx)(e:Expr)(t:TT):Prop :=
 ∀ (whole:Sem Value)(pins:List (Addr × Obj))(s:Shared)(σ:St)(H:Hp)(Q:Bool->Hp->Prop),Inv X pins σ H s->t σ H Q->wpAny (model X.prog X.w) X.A (isTrue e X.env whole) (TP X pins σ Q) X.xe s
theorem PW.pt {X:Cx}{e:Expr}{t:TT}(h:PW X e t):PT X e t:=h _
noncomputable def PA (X:Cx)(es:List Expr)(t:TA):Prop :=
 ∀ (pos:Pos)(pins:List (Addr × Obj))(s:Shared)(σ:St)(H:Hp)(Q:List V->Hp->Prop),Inv X pins σ H s->t σ H Q->wpAny (model X.prog X.w) X.A (spliced (backTo pos (starEach es X.env))) (AP X pins σ Q) X.xe s
noncomputable def PS (X:Cx)(st:Stmt)(t:TS):Prop :=
 ∀ (pins:List (Addr × Obj))(s:Shared)(σ:St)(H:Hp)(D:lZ),Inv X pins σ H s->t D σ H->wpAny (model X.prog X.w) X.A (exec st X.env) (SP X pins D) X.xe s
noncomputable def Cy (X:Cx)(st:List Stmt)(t:TS):Prop :=
 ∀ (pins:List (Addr × Obj))(s:Shared)(σ:St)(H:Hp)(D:lZ),Inv X pins σ H s->t D σ H->wpAny (model X.prog X.w) X.A (execs st X.env) (SP X pins D) X.xe s
theorem aS {α:Type}{t:Sem α}{Q Q':α->Shared->Prop}{M:Model}{A:Around}{E:Value->Shared->Prop}{s:Shared}(h:wpAny M A t Q E s)(hQ:∀ a s,Q a s->Q' a s):wpAny M A t Q' E s:=wpAny_mono h hQ fun _ _ x=>x
end L2
namespace L2
open PySem PySem.Spec PyProof.Rows
section
variable {X:Cx}
noncomputable def oy (i:Nat):TE:=fun σ H Q=>∃ v,σ[i]? = some (some v)/\Q v H
noncomputable def tC (v:V):TE:=fun _ H Q=>Q v H
theorem yJ {i:Nat}{x:Str}{pos:Pos}(hN:X.N[i]? = some x)(hv:O4 X.env.scope x)(hd:(x == ("__debug__":Str))=false:=by decide)(D7:(x == ("__classdict__":Str))=false:=by decide):PE X (.Name x pos) (oy i):=by
 intro pins s σ H Q I h
 obtain⟨v,e,h⟩:=h
 obtain⟨m,hn,hl⟩:=I.loc
 obtain⟨u,r,l⟩:=hl i x v hN e hv
 have fin:EP X pins σ Q u s:=⟨v,H,I,r,h⟩
 rcases l with ⟨hk,hm⟩ | ⟨hk,c,hc,C4⟩
 ·exact wpAny_Name (wpAny_loadName_local I.ok.kind hk hn hm fin) hd
 ·rcases hk with hk | hk
  ·exact wpAny_Name (wpAny_loadName_cell I.ok.kind hk hc C4 fin) hd
  ·exact wpAny_Name (wpAny_loadName_free I.ok.kind hk hc C4 fin D7) hd
theorem aj {i j pos}:PE X (.Constant (.int i) j pos) (tC (.int i)):=fun _ _ _ H _ I h=>wpAny_Constant_int ⟨.int i,H,I.tok _,⟨_,rfl⟩,h⟩
theorem iR {b j pos}:PE X (.Constant (.bool b) j pos) (tC (.bl b)):=fun _ _ _ H _ I h=>Constant_bool ⟨.bl b,H,I,rfl,h⟩
theorem cI {j pos}:PE X (.Constant .none j pos) (tC .An):=fun _ _ _ H _ I h=>Constant_none ⟨.An,H,I,rfl,h⟩
theorem bC {x j pos}:PE X (.Constant (.str x) j pos) (tC (.str x)):=fun _ _ _ H _ I h=>Calls.Constant_str ⟨.str x,H,I.tok _,⟨_,rfl⟩,h⟩
noncomputable def Gl (X:Cx)(x:Str):Prop:=X.env.kindOf x=some .globalImplicit
theorem iy {E:Value->Shared->Prop}{pins:List (Addr × Obj)}{s:Shared}{σ:St}{H:Hp}{x:Str}{u:Value}{pos:Pos}{Q:Value->Shared->Prop}(I:Inv X pins σ H s)(hg:Gl X x)(hm:X.mg x=some u)(h:Q u s)
  (hd:(x == ("__debug__":Str))=false:=by decide):wpAny (model X.prog X.w) X.A (eval (.Name x pos) X.env) Q E s :=
 Calls.Name_function_global I.ok.kind hg (Calls.loadGlobal_global (by rw[I.ok.glob];exact I.mod.glob.keeps I.bk) hm h) hd
theorem gH {E:Value->Shared->Prop}{pins:List (Addr × Obj)}{s:Shared}{σ:St}{H:Hp}{x:Str}{u:Value}{pos:Pos}{Q:Value->Shared->Prop}(I:Inv X pins σ H s)(hg:Gl X x)(hm:X.mg x=none)(hv:bootBuiltins x=some u)(h:Q u s)
  (hn:x ≠ "__name__":=by decide) (hd:(x == ("__debug__":Str))=false:=by decide):wpAny (model X.prog X.w) X.A (eval (.Name x pos) X.env) Q E s:=by
 obtain⟨mb,h1,h2⟩:=I.mod.blt
 exact Calls.Name_function_global I.ok.kind hg (Calls.loadGlobal_builtin (by rw[I.ok.glob];exact I.mod.glob.keeps I.bk) hm (by rw[I.ok.blt];exact h1.keeps I.bk) ((h2 x hn).trans hv) h) hd
theorem eO {x:Str}{v:V}{u:Value}{pos:Pos}(hg:Gl X x)(hm:X.mg x=some u)(r:RelV v u)(hd:(x == ("__debug__":Str))=false:=by decide):PE X (.Name x pos) (tC v) :=
 fun _ _ _ H _ I h=>iy I hg hm ⟨v,H,I,r,h⟩ hd
theorem fP {x:Str}{v:V}{u:Value}{pos:Pos}(hg:Gl X x)(hm:X.mg x=none)(hv:bootBuiltins x=some u)(r:RelV v u)(hn:x ≠ "__name__":=by decide)(hd:(x == ("__debug__":Str))=false:=by decide):PE X (.Name x pos) (tC v) :=
 fun _ _ _ H _ I h=>gH I hg hm hv ⟨v,H,I,r,h⟩ hn hd
variable {a b:Expr}{ta tb:TE}{pos:Pos}
noncomputable def PC (X:Cx)(op:CmpOp)(a b:Expr)(t:TE):Prop :=
 ∀ (pins:List (Addr × Obj))(s:Shared)(σ:St)(H:Hp)(Q:VK),Inv X pins σ H s->t σ H Q ->
  wpAny (model X.prog X.w) X.A (eval a X.env) (fun v s₁=>wpAny (model X.prog X.w) X.A (eval b X.env) (fun u s₂=>wpAny (model X.prog X.w) X.A (compareOp op v u) (EP X pins σ Q) X.xe s₂) X.xe s₁) X.xe s
noncomputable def tB (t:TE):TT:=fun σ H Q=>t σ H fun x H1=>∃ c,x = .bl c/\Q c H1
theorem ub {op:CmpOp}{t:TE}(h:PC X op a b t)(h1:behindInMarks op b=false:=by first | exact Ka _ (by decide) (by decide) | rfl):PT X (.Compare a [op] [b] pos) (tB t):=by
 intro pins s σ H Q I hw
 refine wpAny_isTrue_Compare1 (aS (h pins s σ H _ I hw) fun v s1 h1=>aS h1 fun u s2 h2=>aS h2 fun c s3 Aj=>?_) h1
 obtain⟨x,H1,I1,r1,q1⟩:=Aj
 obtain⟨d,rfl,q⟩:=q1
 cases r1
 exact wpAny_truthy_bool ⟨H1,I1,q⟩
theorem bQ {e:Expr}{t:TE}(h:PE X e t)(he:∀ whole,isTrue e X.env whole=(do let v ← whole;standAt e.pos;holding [v] (truthy v)):=by intro _;rfl):PT X e (tB t):=by
 intro pins s σ H Q I hw
 refine isTrue_plain (aS (h pins s σ H _ I hw) fun v s1 Aj=>?_) (he _)
 obtain⟨x,H1,I1,r1,q1⟩:=Aj
 obtain⟨d,rfl,q⟩:=q1
 cases r1
 exact wpAny_truthy_bool ⟨H1,I1,q⟩
variable {tA O9:TT}{rest:List Expr}
noncomputable def Qz (t u:TT):TT:=fun σ H Q=>t σ H fun c H1=>if c=true then u σ H1 Q else Q false H1
noncomputable def tOr (t u:TT):TT:=fun σ H Q=>t σ H fun c H1=>if c=true then Q true H1 else u σ H1 Q
noncomputable def Q0 (t:TT):TT:=fun σ H Q=>t σ H fun c H1=>Q (!c) H1
theorem l8 (ha:PT X a tA):PW X (.BoolOp .And [a] pos) tA:=by
 intro wh pins s σ H Q I h
 refine isTrue_and (aS (ha pins s σ H Q I h) fun c s1 e=>?_)
 cases c with
 | true=>exact isTrue_and_nil e
 | false=>exact e
theorem gF (ha:PT X a tA):PW X (.BoolOp .Or [a] pos) tA:=by
 intro wh pins s σ H Q I h
 refine isTrue_or (aS (ha pins s σ H Q I h) fun c s1 e=>?_)
 cases c with
 | false=>exact isTrue_or_nil e
 | true=>exact e
theorem l9 (ha:PT X a tA)(hb:PW X (.BoolOp .And (b :: rest) pos) O9):PW X (.BoolOp .And (a :: b :: rest) pos) (Qz tA O9):=by
 intro wh pins s σ H Q I h
 refine isTrue_and (aS (ha pins s σ H _ I h) fun c s1 Aj=>?_)
 obtain⟨H1,I1,q1⟩:=Aj
 cases c with
 | true=>exact hb wh pins s1 σ H1 Q I1 q1
 | false=>exact⟨H1,I1,q1⟩
theorem j5 (ha:PT X a tA)(hb:PW X (.BoolOp .Or (b :: rest) pos) O9):PW X (.BoolOp .Or (a :: b :: rest) pos) (tOr tA O9):=by
 intro wh pins s σ H Q I h
 refine isTrue_or (aS (ha pins s σ H _ I h) fun c s1 Aj=>?_)
 obtain⟨H1,I1,q1⟩:=Aj
 cases c with
 | true=>exact⟨H1,I1,q1⟩
 | false=>exact hb wh pins s1 σ H1 Q I1 q1
theorem cj (ha:PT X a tA):PT X (.UnaryOp .Not a pos) (Q0 tA):=by
 intro pins s σ H Q I h
 exact isTrue_not (ha pins s σ H (fun c H1=>Q (!c) H1) I h)
noncomputable def Kb (ta tb:TE):TE:=fun σ H Q=>ta σ H fun x H1=>∃ c,x = .bl c/\if c=true then tb σ H1 Q else Q (.bl false) H1
noncomputable def Q2 (ta tb:TE):TE:=fun σ H Q=>ta σ H fun x H1=>∃ c,x = .bl c/\if c=true then Q (.bl true) H1 else tb σ H1 Q
noncomputable def Kc (ta:TE):TE:=fun σ H Q=>ta σ H fun x H1=>∃ c,x = .bl c/\Q (.bl (!c)) H1
theorem dH {op} {t:TE} (h:PE X a t):PE X (.BoolOp op [a] pos) t:=fun pins s σ H Q I hw=>BoolOp_one (h pins s σ H Q I hw)
theorem dI (ha:PE X a ta)(hb:PE X (.BoolOp .And (b :: rest) pos) tb):PE X (.BoolOp .And (a :: b :: rest) pos) (Kb ta tb):=by
 intro pins s σ H Q I h
 refine BoolOp_and (aS (ha pins s σ H _ I h) fun v s1 Aj=>?_)
 obtain⟨x,H1,I1,r1,q1⟩:=Aj
 obtain⟨c,rfl,q1⟩:=q1
 cases r1
 refine wpAny_truthy_bool ?_
 cases c with
 | true=>exact hb pins s1 σ H1 Q I1 q1
 | false=>exact⟨.bl false,H1,I1,rfl,q1⟩
theorem Kd (ha:PE X a ta)(hb:PE X (.BoolOp .Or (b :: rest) pos) tb):PE X (.BoolOp .Or (a :: b :: rest) pos) (Q2 ta tb):=by
 intro pins s σ H Q I h
 refine BoolOp_or (aS (ha pins s σ H _ I h) fun v s1 Aj=>?_)
 obtain⟨x,H1,I1,r1,q1⟩:=Aj
 obtain⟨c,rfl,q1⟩:=q1
 cases r1
 refine wpAny_truthy_bool ?_
 cases c with
 | false=>exact hb pins s1 σ H1 Q I1 q1
 | true=>exact⟨.bl true,H1,I1,rfl,q1⟩
theorem ug (ha:PE X a ta):PE X (.UnaryOp .Not a pos) (Kc ta):=by
 intro pins s σ H Q I h
 refine UnaryOp_ (aS (ha pins s σ H _ I h) fun v s1 Aj=>?_)
 obtain⟨x,H1,I1,r1,q1⟩:=Aj
 obtain⟨c,rfl,q1⟩:=q1
 cases r1
 exact not_of (wpAny_truthy_bool ⟨.bl (!c),H1,I1,rfl,q1⟩)
noncomputable def tIf (t:TT)(ta tb:TE):TE:=fun σ H Q=>t σ H fun c H1=>if c=true then ta σ H1 Q else tb σ H1 Q
theorem dv {c:Expr}(hc:PT X c tA)(ha:PE X a ta)(hb:PE X b tb):PE X (.IfExp c a b pos) (tIf tA ta tb):=by
 intro pins s σ H Q I h
 refine wpAny_IfExp (aS (hc pins s σ H _ I h) fun d s1 Aj=>?_)
 obtain⟨H1,I1,q1⟩:=Aj
 cases d with
 | true=>exact ha pins s1 σ H1 Q I1 q1
 | false=>exact hb pins s1 σ H1 Q I1 q1
end
end L2
namespace L2
open PySem PySem.Spec PyProof.Rows
noncomputable def Aa (K:Frag)(H:Hp)(a:Addr)(xs:List V):Prop :=
 Rd H a (.lst xs) ∨
  ∃ (o:Obj)(Ab:Array Value)(n:Nat),K.lookup a=some o/\o.cls = .type "list"/\o.dict=none/\o.data = .seq Ab n/\Ab.size <= sizeLine/\Vals xs Ab.toList
noncomputable def Af (K:Frag)(H:Hp)(a:Addr)(xs:List V):Prop :=
 Rd H a (.tup xs) ∨
  ∃ (o:Obj)(Ab:Array Value)(n:Nat),K.lookup a=some o/\o.cls = .type "tuple"/\o.data = .seq Ab n/\Ab.size <= sizeLine/\Vals xs Ab.toList
noncomputable def Q3:Value->Option V
 | .none=>some .An
 | .bool b=>some (.bl b)
 | .int i _=>some (.int i)
 | .str x _=>some (.str x)
 | .bytes b _=>some (.DN b)
 | .float b _=>some (.HG b)
 | .ref a=>some (.ref a)
 | .type n=>some (.ty n)
 | _=>none
theorem RelV.abs {x:V}{u:Value}(r:RelV x u):Q3 u=some x:=by
 cases x with
 | An=>cases r;rfl
 | bl _=>cases r;rfl
 | int _=>obtain⟨t,rfl⟩:=r;rfl
 | str _=>obtain⟨t,rfl⟩:=r;rfl
 | DN _=>obtain⟨t,rfl⟩:=r;rfl
 | HG _=>obtain⟨t,rfl⟩:=r;rfl
 | ref _=>cases r;rfl
 | ty _=>cases r;rfl
theorem RelV.inj {x y:V}{u:Value}(r:RelV x u)(q:RelV y u):x=y:=Option.some.inj (r.abs.symm.trans q.abs)
theorem Vals.inj:∀ {xs ys:List V}{us:List Value},Vals xs us->Vals ys us->xs=ys
 | _,_,_, .nil, .nil=>rfl
 | _,_,_, .cons r t, .cons r' t'=>by rw[r.inj r',Vals.inj t t']
section
variable {X:Cx}{pins:List (Addr × Obj)}{σ:St}{H:Hp}{s:Shared}{a:Addr}{xs ys:List V}
theorem Aa.of {K:Frag}(h:H a=some (.lst xs)):Aa K H a xs := .inl (.inl h)
theorem Af.of {K:Frag}(h:H a=some (.tup xs)):Af K H a xs := .inl (.inl h)
theorem Inv.list (I:Inv X pins σ H s)(h:Aa X.K H a xs):∃ Ab:List Value,Vals xs Ab/\PlainL s.heap a Ab.toArray/\xs.length <= sizeLine:=by
 rcases h with h | ⟨o,Ab,n,hk,hc,hd,hs,hz,r⟩
 ·obtain⟨z,Ab,n,r,e⟩:=h.ok I.Ad
  exact⟨Ab,r,⟨_,n,e,rfl,rfl,rfl⟩,z⟩
 ·refine⟨Ab.toList,r,⟨o,n,I.Bd a o hk,hc,hd,by simpa using hs⟩,?_⟩
  have e:=r.length
  simp only[Array.length_toList]at e
  omega
theorem Inv.tuple (I:Inv X pins σ H s)(h:Af X.K H a xs):∃ Ab:List Value,Vals xs Ab/\IsTup s.heap a Ab.toArray/\xs.length <= sizeLine:=by
 rcases h with h | ⟨o,Ab,n,hk,hc,hs,hz,r⟩
 ·obtain⟨z,Ab,r,p⟩:=h.ok I.Ad
  exact⟨Ab,r,p.isTup,z⟩
 ·refine⟨Ab.toList,r,⟨o,I.Bd a o hk,hc,n,by simpa using hs⟩,?_⟩
  have e:=r.length
  simp only[Array.length_toList]at e
  omega
theorem Inv.CY (I:Inv X pins σ H s)(h:Aa X.K H a xs)(h':Aa X.K H a ys):xs=ys:=by
 obtain⟨Ab,r,⟨o,n,e,_,_,d⟩,_⟩:=I.list h
 obtain⟨its',r',⟨o',n',e',_,_,d'⟩,_⟩:=I.list h'
 rw[e]at e';cases e'
 rw[d]at d'
 injection d' with d1 _
 have:Ab=its':=by simpa using congrArg Array.toList d1
 subst this
 exact r.inj r'
theorem Inv.C5 (I:Inv X pins σ H s)(h:Af X.K H a xs)(h':Af X.K H a ys):xs=ys:=by
 obtain⟨Ab,r,⟨o,e,_,n,d⟩,_⟩:=I.tuple h
 obtain⟨its',r',⟨o',e',_,n',d'⟩,_⟩:=I.tuple h'
 rw[e]at e';cases e'
 rw[d]at d'
 injection d' with d1 _
 have:Ab=its':=by simpa using congrArg Array.toList d1
 subst this
 exact r.inj r'
end
noncomputable abbrev Cx.Cz (X:Cx)(E:Value->Shared->Prop):Cx:={ X with xe:=E }
noncomputable abbrev Cx.OA (X:Cx):Cx:=X.Cz fun _ _=>False
theorem Cx.Ok.Cz {X:Cx}(ok:X.Ok)(E:Value->Shared->Prop):(X.Cz E).Ok :=
 ⟨ok.mod,ok.kind,ok.glob,ok.blt,ok.above,ok.inj,ok.has,ok.JX,ok.hd,ok.frames,ok.O5,ok.Wh,ok.bs,ok.Fw,ok.E9,ok.Fx,ok.BV,ok.HI⟩
theorem Cx.Ok.Bs {X:Cx}{E:Value->Shared->Prop}(ok:(X.Cz E).Ok):X.Ok :=
 ⟨ok.mod,ok.kind,ok.glob,ok.blt,ok.above,ok.inj,ok.has,ok.JX,ok.hd,ok.frames,ok.O5,ok.Wh,ok.bs,ok.Fw,ok.E9,ok.Fx,ok.BV,ok.HI⟩
section
variable {X:Cx}{pins:List (Addr × Obj)}{σ:St}{H:Hp}{s:Shared}{E:Value->Shared->Prop}
theorem Inv.Cz (I:Inv X pins σ H s)(E:Value->Shared->Prop):Inv (X.Cz E) pins σ H s:=⟨I.ok.Cz E,I.os,I.bare,I.base,I.loc,I.cell,I.free,I.AO,I.pin,I.Ad,I.len⟩
theorem Inv.Bs (I:Inv (X.Cz E) pins σ H s):Inv X pins σ H s:=⟨I.ok.Bs,I.os,I.bare,I.base,I.loc,I.cell,I.free,I.AO,I.pin,I.Ad,I.len⟩
theorem SP.Bs {D:lZ}{f:Flow}{s':Shared}(h:SP (X.Cz E) pins D f s'):SP X pins D f s':=by
 cases f with
 | next=>obtain⟨σ',H',I,q⟩:=h;exact⟨σ',H',I.Bs,q⟩
 | brk=>obtain⟨σ',H',I,q⟩:=h;exact⟨σ',H',I.Bs,q⟩
 | cont=>obtain⟨σ',H',I,q⟩:=h;exact⟨σ',H',I.Bs,q⟩
 | ret u=>obtain⟨v,σ',H',I,r,q⟩:=h;exact⟨v,σ',H',I.Bs,r,q⟩
theorem Cy.OA {st:List Stmt}{t:TS}(h:Cy X.OA st t):Cy X st t:=fun pins s σ H D I hw =>
 wpAny_mono (h pins s σ H D (I.Cz _) hw) (fun _ _ q=>q.Bs) fun _ _ z=>False.elim z
end
section
variable {X:Cx}{st:Stmt}{rest:List Stmt}{t u:TS}{e:Expr}{te:TE}{pos:Pos}
noncomputable def Ke:TS:=fun D σ H=>D.nx σ H
noncomputable def yd (t u:TS):TS:=fun D σ H=>t { D with nx:=u D } σ H
theorem aH:Cy X [] Ke:=fun _ _ σ H _ I h=>wpAny_execs_nil ⟨σ,H,I,h⟩
theorem af (h1:PS X st t)(h2:Cy X rest u):Cy X (st :: rest) (yd t u):=by
 intro pins s σ H D I h
 refine wpAny_execs_cons (aS (h1 pins s σ H { D with nx:=u D } I h) fun f s1 q=>?_)
 cases f with
 | next =>
  obtain⟨σ',H',I',q⟩:=q
  exact h2 pins s1 σ' H' D I' q
 | ret v=>exact q
 | brk=>exact q
 | cont=>exact q
theorem ah (h1:PS X st t):Cy X [st] t:=by
 intro pins s σ H D I h
 refine wpAny_execs_cons (aS (h1 pins s σ H D I h) fun f s1 q=>?_)
 cases f with
 | next=>exact wpAny_execs_nil q
 | ret v=>exact q
 | brk=>exact q
 | cont=>exact q
theorem Inv.quiet {pins:List (Addr × Obj)}{σ:St}{H:Hp}{s:Shared}(I:Inv X pins σ H s):interactive X.env=false:=by simp[interactive,I.ok.kind]
noncomputable def Kf (te:TE):TS:=fun D σ H=>te σ H fun _ H1=>D.nx σ H1
theorem aK (he:PE X e te)(hs:swapsWith e none pos.line X.env=pure false:=by rfl):PS X (.Expr e pos) (Kf te):=by
 intro pins s σ H D I h
 exact wpAny_Expr_any (aS (he pins s σ H _ I h) fun v s1 ⟨x,H1,I1,r1,q1⟩=>⟨σ,H1,I1,q1⟩) I.quiet hs
noncomputable def Q4 (te:TE):TS:=fun D σ H=>te σ H D.rt
theorem ar (he:PE X e te):PS X (.Return (some e) pos) (Q4 te):=by
 intro pins s σ H D I h
 exact wpAny_Return_some (aS (he pins s σ H _ I h) fun v s1 ⟨x,H1,I1,r1,q1⟩=>⟨x,σ,H1,I1,r1,q1⟩)
noncomputable def Q5 (c:TT)(t u:TS):TS:=fun D σ H=>c σ H fun b H1=>if b=true then t D σ H1 else u D σ H1
theorem aO {c:Expr}{a b:List Stmt}{tc:TT}(hc:PT X c tc)(ha:Cy X a t)(hb:Cy X b u):PS X (.If c a b pos) (Q5 tc t u):=by
 intro pins s σ H D I h
 refine wpAny_If (aS (hc pins s σ H _ I h) fun d s1 Aj=>?_)
 obtain⟨H1,I1,q1⟩:=Aj
 cases d with
 | true=>exact ha pins s1 σ H1 D I1 q1
 | false=>exact hb pins s1 σ H1 D I1 q1
end
noncomputable abbrev TG:=V->St->Hp->(St->Hp->Prop)->Prop
noncomputable abbrev zR:=List V->St->Hp->(St->Hp->Prop)->Prop
noncomputable def PG (X:Cx)(target:Expr)(t:TG):Prop :=
 ∀ (pins:List (Addr × Obj))(s:Shared)(σ:St)(H:Hp)(v:V)(u:Value)(Q:St->Hp->Prop),Inv X pins σ H s->RelV v u->t v σ H Q ->
  wpAny (model X.prog X.w) X.A (assign target X.env u) (fun _ s'=>∃ σ' H',Inv X pins σ' H' s'/\Q σ' H') X.xe s
noncomputable def OB (X:Cx)(ts:List Expr)(t:zR):Prop :=
 ∀ (pins:List (Addr × Obj))(s:Shared)(σ:St)(H:Hp)(vs:List V)(us:List Value)(Q:St->Hp->Prop),Inv X pins σ H s->Vals vs us->t vs σ H Q ->
  wpAny (model X.prog X.w) X.A (assignInOrder ((assignEach ts X.env).map (·.2)) us) (fun _ s'=>∃ σ' H',Inv X pins σ' H' s'/\Q σ' H') X.xe s
noncomputable abbrev zQ:=V->V->V->Hp->(Hp->Prop)->Prop
noncomputable def Kg (X:Cx)(t:zQ):Prop :=
 ∀ (pins:List (Addr × Obj))(s:Shared)(σ:St)(H:Hp)(o i v:V)(ov iv u:Value)(Q:Hp->Prop),Inv X pins σ H s->RelV o ov->RelV i iv->RelV v u->t o i v H Q ->
  wpAny (model X.prog X.w) X.A (setItem ov iv u) (fun _ s'=>∃ H',Inv X pins σ H' s'/\Q H') X.xe s
noncomputable abbrev OC:=V->V->Hp->VK->Prop
noncomputable def Wl (X:Cx)(op:Operator)(t:OC):Prop :=
 ∀ (pins:List (Addr × Obj))(s:Shared)(σ:St)(H:Hp)(x y:V)(v u:Value)(Q:VK),Inv X pins σ H s->RelV x v->RelV y u->t x y H Q ->
  wpAny (model X.prog X.w) X.A (inplaceOp op v u) (EP X pins σ Q) X.xe s
section
variable {X:Cx}{pos:Pos}
noncomputable def cv (i:Nat):TG:=fun v σ H Q=>Q (σ.set i (some v)) H
theorem au {i:Nat}{x:Str}(hN:X.N.Nodup)(hi:X.N[i]? = some x)(hx:Loc X.env.scope x)(hf:X.fn x=true∨X.env.scope.names.lookup x=some .local:=by first | exact .inl rfl | exact .inr rfl | assumption):PG X (.Name x pos) (cv i):=by
 intro pins s σ H v u Q I r h
 exact wpAny_assign_Name (jt I hN hi hx r (fun s' I'=>⟨_,H,I',h⟩) hf)
noncomputable def Q6:zR:=fun vs σ H Q=>vs=[]/\Q σ H
noncomputable def Kh (t:TG)(u:zR):zR:=fun vs σ H Q=>∃ v r,vs=v :: r/\t v σ H fun σ' H'=>u r σ' H' Q
theorem io:OB X [] Q6:=by
 intro pins s σ H vs us Q I r h
 obtain⟨e,h⟩:=h
 subst e
 cases r
 exact assignInOrder_nil ⟨σ,H,I,h⟩
theorem ci {e:Expr}{es:List Expr}{t:TG}{u:zR}(h1:PG X e t)(h2:OB X es u)
  (hs:(assignEach (e :: es) X.env).map (·.2)=assign e X.env :: (assignEach es X.env).map (·.2):=by rfl):OB X (e :: es) (Kh t u):=by
 intro pins s σ H vs us Q I r h
 obtain⟨v,vr,e1,h⟩:=h
 subst e1
 cases r with
 | cons r rr =>
  rw[hs]
  refine assignInOrder_cons (aS (h1 pins s σ H _ _ _ I r h) fun _ s1 Aj=>?_)
  obtain⟨σ1,H1,I1,q1⟩:=Aj
  exact h2 pins s1 σ1 H1 _ _ Q I1 rr q1
noncomputable def zD (K:Frag)(n:Nat)(t:zR):TG:=fun v σ H Q=>∃ a xs,v = .ref a/\Af K H a xs/\xs.length=n/\t xs σ H Q
theorem j9 {es:List Expr}{k:Nat}{t:zR}{n:Nat}(hc:X.calm=true)(h:OB X es t)
  (hn:(assignEach es X.env).length=n:=by rfl) (Du:(assignEach es X.env).findIdx? (·.1)=none:=by rfl):PG X (.Tuple es k pos) (zD X.K n t):=by
 intro pins s σ H v u Q I r hw
 obtain⟨a,xs,e1,hq,hl,hw⟩:=hw
 subst e1
 cases r
 obtain⟨Ab,rv,ht,hz⟩:=I.tuple hq
 refine assign_Tuple_tuple (I.ok.hd hc) ht (by simp[hn,← hl,rv.length]) Du fun h' hx=>?_
 have I1:Inv X pins σ H { s with heap:=h' }:=I.kept (t':=s.toks) fun b o e=>hx b o (ne_of_lt (lt_size e)) e
 exact h pins _ σ H xs _ Q I1 (by simpa using rv) hw
noncomputable def Q7 (to ti:TE)(t:zQ):TG:=fun v σ H Q=>to σ H fun o H1=>ti σ H1 fun i H2=>t o i v H2 fun H3=>Q σ H3
theorem lC {o i:Expr}{to ti:TE}{t:zQ}(ho:PE X o to)(hi:PE X i ti)(hs:Kg X t)
  (ha:∀ v,assign (.Subscript o i pos) X.env v=(do
   let ov ← holding [v] (eval o X.env)
   let iv ← holding [v,ov] (eval i X.env)
   standAt pos
   holding [v,ov,iv] (setItem ov iv v)
   release [v,ov,iv] []):=by intro _;rfl):PG X (.Subscript o i pos) (Q7 to ti t):=by
 intro pins s σ H v u Q I r h
 rw[ha]
 refine wpAny_bind (wpAny_holding (aS (ho pins s σ H _ I h) fun ov s1 Aj=>?_))
 obtain⟨x,H1,I1,r1,q1⟩:=Aj
 refine wpAny_bind (wpAny_holding (aS (hi pins s1 σ H1 _ I1 q1) fun iv s2 Aj=>?_))
 obtain⟨y,H2,I2,r2,q2⟩:=Aj
 refine wpAny_bind (wpAny_standAt (wpAny_bind (wpAny_holding (aS (hs pins s2 σ H2 x y v ov iv u _ I2 r1 r2 r q2) fun _ s3 Aj=>?_))))
 obtain⟨H3,I3,q3⟩:=Aj
 exact wpAny_release ⟨σ,H3,I3,q3⟩
noncomputable def yl (te:TE)(g:TG):TS:=fun D σ H=>te σ H fun x H1=>g x σ H1 D.nx
theorem j8 {tg e:Expr}{te:TE}{g:TG}(he:PE X e te)(hg:PG X tg g)(hs:swapsWithSole [tg] e pos.line X.env=pure false:=by rfl)(hw:swappedStores [tg] e X.env=pure none:=by rfl)
  (h1:(assignEach [tg] X.env).map (·.2)=[assign tg X.env]:=by rfl):PS X (.Assign [tg] e pos) (yl te g):=by
 intro pins s σ H D I h
 refine wpAny_Assign_stores (aS (he pins s σ H _ I h) fun v s1 Aj=>?_) hs hw
 obtain⟨x,H1,I1,r1,q1⟩:=Aj
 rw[h1]
 exact aS (hg pins s1 σ H1 x v _ I1 r1 q1) fun _ s2 q=>q
theorem aE {i:Nat}{x:Str}{e:Expr}{te:TE}{pos':Pos}(hN:X.N.Nodup)(hi:X.N[i]? = some x)(hx:Loc X.env.scope x)(he:PE X e te)(hs:swapsWith e (some (.Name x pos')) pos.line X.env=pure false:=by rfl)(hf:X.fn x=true∨X.env.scope.names.lookup x=some .local:=by first | exact .inl rfl | exact .inr rfl | assumption) :
  PS X (.Assign [.Name x pos'] e pos) (yl te (cv i)):=by
 intro pins s σ H D I h
 refine wpAny_Assign_Name (aS (he pins s σ H _ I h) fun v s1 Aj=>?_) hs
 obtain⟨y,H1,I1,r1,q1⟩:=Aj
 exact jt I1 hN hi hx r1 (fun s2 I2=>⟨_,H1,I2,q1⟩) hf
noncomputable def Q8 (i:Nat)(te:TE)(ti:OC):TS:=fun D σ H=>∃ x,σ[i]? = some (some x)/\te σ H fun y H1=>ti x y H1 fun z H2=>D.nx (σ.set i (some z)) H2
theorem yI {i:Nat}{x:Str}{e:Expr}{te:TE}{op:Operator}{ti:OC}{pos':Pos}(hN:X.N.Nodup)(hi:X.N[i]? = some x)(hx:Loc X.env.scope x)(he:PE X e te)(ho:Wl X op ti)(hf:X.fn x=true∨X.env.scope.names.lookup x=some .local:=by first | exact .inl rfl | exact .inr rfl | assumption) :
  PS X (.AugAssign (.Name x pos') op e pos) (Q8 i te ti):=by
 intro pins s σ H D I h
 obtain⟨v,e1,h⟩:=h
 obtain⟨m,hn,hl⟩:=I.loc
 have vis:O4 X.env.scope x:=by rcases hx with k | k;exact .inl k;exact .inr (.inl k)
 obtain⟨u,r,l⟩:=hl i x v hi e1 vis
 refine wpAny_AugAssign_Name ?_
 have go:wpAny (model X.prog X.w) X.A (eval e X.env) (fun w s₂=>wpAny (model X.prog X.w) X.A (inplaceOp op u w) (fun r s₃=>wpAny (model X.prog X.w) X.A (storeName X.env x r) (fun _=>SP X pins D .next) X.xe s₃) X.xe s₂) X.xe s:=by
  refine aS (he pins s σ H _ I h) fun w s1 Aj=>?_
  obtain⟨y,H1,I1,r1,q1⟩:=Aj
  refine aS (ho pins s1 σ H1 v y u w _ I1 r r1 q1) fun z s2 Aj=>?_
  obtain⟨zv,H2,I2,r2,q2⟩:=Aj
  exact jt I2 hN hi hx r2 (fun s3 I3=>⟨_,H2,I3,q2⟩) hf
 rcases l with ⟨hk,hm⟩ | ⟨hk,c,hc,C4⟩
 ·exact wpAny_loadName_local I.ok.kind hk hn hm go
 ·rcases hk with hk | hk
  ·exact wpAny_loadName_cell I.ok.kind hk hc C4 go
  ·rcases hx with k | k
   ·have:X.env.scope.names.lookup x=some .free:=hk
    rw[k]at this;cases this
   ·have:X.env.scope.names.lookup x=some .free:=hk
    rw[k]at this;cases this
noncomputable def ipI (f:Int->Int->Int):OC:=fun x y H Q=>∃ i j,x = .int i/\y = .int j/\Q (.int (f i j)) H
theorem zy:Wl X .Add (ipI fun i j=>i + j):=by
 intro pins s σ H x y v u Q I r1 r2 h
 obtain⟨i,j,e1,e2,q⟩:=h
 subst e1;subst e2
 obtain⟨t,rfl⟩:=r1
 obtain⟨t',rfl⟩:=r2
 exact iadd_int ⟨.int _,H,I.tok _,⟨_,rfl⟩,q⟩
end
section
variable {X:Cx}{pos:Pos}
noncomputable def yc (c:TT)(tb:TS):TS:=fun D σ H=>∃ W:Nat->St->Hp->Prop,(∃ m,W m σ H)/\∀ m σ H,W m σ H ->
 c σ H fun b H1=>if b=true then ∃ N:St->Hp->Prop,(∀ σ' H',N σ' H'->∃ m',m' < m/\W m' σ' H')/\tb { D with nx:=N,ct:=N,bk:=D.nx } σ H1 else D.nx σ H1
theorem uc {c:Expr}{body:List Stmt}{tc:TT}{tb:TS}(hp:PassesOwn (model X.prog X.w) X.A X.env X.xe)(hc:PT X c tc)(hb:Cy X body tb):PS X (.While c body [] pos) (yc tc tb):=by
 intro pins s σ H D I h
 obtain⟨W,⟨m0,w0⟩,turn⟩:=h
 refine wpAny_While (codeAny_whileLoop (fun n s'=>∃ σ' H',Inv X pins σ' H' s'/\W n σ' H') ?_ m0 ⟨σ,H,I,w0⟩)
 rintro n s1 ⟨σ1,H1,I1,w1⟩
 refine wpAny_passesOwn hp (aS (hc pins s1 σ1 H1 _ I1 (turn n σ1 H1 w1)) fun b s2 Aj=>?_)
 obtain⟨H2,I2,q2⟩:=Aj
 cases b with
 | true =>
  obtain⟨N,hN,q2⟩:=q2
  rw[if_pos rfl]
  refine wpAny_passesOwn hp (aS (hb pins s2 σ1 H2 _ I2 q2) fun f s3 q3=>?_)
  cases f with
  | next =>
   obtain⟨σ3,H3,I3,n3⟩:=q3
   obtain⟨m',hm,w3⟩:=hN σ3 H3 n3
   exact⟨m',hm,σ3,H3,I3,w3⟩
  | cont =>
   obtain⟨σ3,H3,I3,n3⟩:=q3
   obtain⟨m',hm,w3⟩:=hN σ3 H3 n3
   exact⟨m',hm,σ3,H3,I3,w3⟩
  | brk=>exact q3
  | ret v=>exact q3
 | false =>
  rw[if_neg Bool.false_ne_true]
  exact wpAny_execs_nil ⟨σ1,H2,I2,q2⟩
end
structure It where
 go:Nat->Hp->Prop
 Fi:Nat->Hp->V->Hp->Prop
 stop:Nat->Hp->Prop
noncomputable def fX (X:Cx)(pins:List (Addr × Obj))(H:Hp)(b:Addr):Prop :=
 H b=none/\b ≠ X.env.locals/\b ∉ X.fs/\(b ∈ X.ex∨X.s₀.heap.objs.size <= b)/\(∀ x c,X.env.cells.lookup x=some c->c ≠ b)/\∀ p ∈ X.pn ++ pins,p.1 ≠ b
theorem Inv.DY {X:Cx}{pins:List (Addr × Obj)}{σ:St}{H H':Hp}{s:Shared}{b:Addr}(I:Inv X pins σ H s)(hb:s.heap.objs.size <= b)(hn:H' b=none):fX X pins H' b:=by
 refine⟨hn,ne_of_gt (lt_of_lt_of_le I.lt hb),I.Qu hb, .inr (le_trans I.sz hb),fun x c e z=>?_,fun p hp z=>?_⟩
 ·obtain⟨v,q⟩:=I.cell x c e
  exact absurd (lt_of_lt_of_le q.lt (by rw[z];exact hb)) (lt_irrefl _)
 ·exact absurd (lt_of_lt_of_le (lt_size (I.pin p hp).1) (by rw[z];exact hb)) (lt_irrefl _)
structure nZ (P:Program)(w:World)(K:Frag)(tg:Expr)(J:It)(fp:List Addr)(it:Addr)(tn:Nat->Heap->Prop):Prop where
 mem:it ∈ fp
 obj:∀ i h,tn i h->∀ b ∈ fp,∃ o,h.get? b=some o/\∀ v,o.data ≠ .cell v
 keep:∀ i h h',tn i h->(∀ b ∈ fp,∀ o,h.get? b=some o->h'.get? b=some o)->tn i h'
 item:∀ (X:Cx),X.prog=P->X.w=w->X.K=K->X.calm=true->∀ (i:Nat)(pins:List (Addr × Obj))(s:Shared)(σ:St)(H:Hp)(E:Value->Shared->Prop),Inv X pins σ H s->(∀ b ∈ fp,fX X pins H b)->tn i s.heap->J.go i H ->
  wpAny (model P w) X.A (pyNext (.ref it)) (fun r s1=>∃ u,r=some u /\
   wpAny (model P w) X.A (letOwnedTupleGo tg (.ref it) u) (fun _ s2=>∃ x H',Inv X pins σ H' s2/\RelV x u/\J.Fi i H x H'/\tn (i + 1) s2.heap/\∀ b ∈ fp,H' b=none) E s1) E s
 done:∀ (X:Cx),X.prog=P->X.w=w->X.K=K->X.calm=true->∀ (i:Nat)(pins:List (Addr × Obj))(s:Shared)(σ:St)(H:Hp)(E:Value->Shared->Prop),Inv X pins σ H s->(∀ b ∈ fp,fX X pins H b)->tn i s.heap->J.stop i H ->
  wpAny (model P w) X.A (pyNext (.ref it)) (fun r s1=>r=none/\Inv X pins σ H s1) E s
 self:∀ (A:Around)(i:Nat)(s:Shared)(Q:Value->Shared->Prop)(E:Value->Shared->Prop),tn i s.heap->Q (.ref it) s->wpAny (model P w) A (pyIter (.ref it)) Q E s
noncomputable abbrev TI:=St->Hp->(It->Hp->Prop)->Prop
noncomputable def Wm (X:Cx)(pins:List (Addr × Obj))(σ:St)(tg:Expr)(R:It->Hp->Prop)(OD:Value)(s2:Shared):Prop :=
 ∃ (it:Addr)(fp:List Addr)(tn:Nat->Heap->Prop)(J:It)(H':Hp),OD = .ref it/\Inv X pins σ H' s2/\nZ X.prog X.w X.K tg J fp it tn/\tn 0 s2.heap/\(∀ b ∈ fp,fX X pins H' b)/\R J H'
noncomputable def PI (X:Cx)(tg iter:Expr)(wi:TI):Prop :=
 ∀ (pins:List (Addr × Obj))(s:Shared)(σ:St)(H:Hp)(R:It->Hp->Prop),Inv X pins σ H s->wi σ H R ->
  wpAny (model X.prog X.w) X.A (eval iter X.env) (fun v s1=>wpAny (model X.prog X.w) X.A (pyIter v) (Wm X pins σ tg R) X.xe s1) X.xe s
theorem qJ {M:Model}{A:Around}{E:Value->Shared->Prop}{s:Shared}{tg:Expr}{it:Addr}{u:Value}{o:Obj}{n:String}{vs:Array Value}{Q:Unit->Shared->Prop}(ho:s.heap.get? it=some o)(hc:o.cls = .type n)(hd:o.data = .fields vs)
  (hn:["enumerate", "zip", "dict_itemiterator", "dict_reverseitemiterator", "odict_iterator", "itertools.zip_longest", "itertools.pairwise"].contains n=false) (hQ:Q () s):wpAny M A (letOwnedTupleGo tg (.ref it) u) Q E s:=by
 unfold letOwnedTupleGo
 cases tg<;>first
  | exact wpAny_pure hQ
  | (cases u<;>first
    | exact wpAny_pure hQ
    | (refine wpAny_bind (wpAny_load ho ?_)
       rw[hc,hd]
       show wpAny M A (if (["enumerate", "zip", "dict_itemiterator", "dict_reverseitemiterator", "odict_iterator", "itertools.zip_longest", "itertools.pairwise"].contains n && vs[0]? == some (rawInt _))=true then _ else _) Q E s
       rw[if_neg (by intro h;rw[hn,Bool.false_and]at h;cases h)]
       exact wpAny_pure hQ))
noncomputable def vy (K:Frag)(a:Addr):It :=
 ⟨fun i H=>∃ xs x,Aa K H a xs/\xs[i]? = some x,fun i H x H'=>H' = H/\∀ xs,Aa K H a xs->xs[i]? = some x,fun i H=>∃ xs,Aa K H a xs/\xs.length <= i⟩
noncomputable def OE (K:Frag)(a:Addr):It :=
 ⟨fun i H=>∃ xs x,Af K H a xs/\xs[i]? = some x,fun i H x H'=>H' = H/\∀ xs,Af K H a xs->xs[i]? = some x,fun i H=>∃ xs,Af K H a xs/\xs.length <= i⟩
noncomputable def vx (lo:Int)(n:Nat):It:=⟨fun i _=>i < n,fun i H x H'=>H' = H/\x = .int (lo + i),fun i _=>n <= i⟩
theorem qU {P:Program}{w:World}{K:Frag}{tg:Expr}(a it:Addr):nZ P w K tg (vy K a) [it] it (fun i h=>h.IsListIter it a i) where
 mem:=by simp
 obj:=fun i h st b hb=>by
  have e:b=it:=by simpa using hb
  subst e
  obtain⟨o,e,c,d⟩:=st
  exact⟨o,e,fun v z=>by rw[d]at z;cases z⟩
 keep:=fun i h h' st k=>st.at fun o e=>k it (by simp) o e
 item:=by
  intro X hP hw hK hc i pins s σ H E I hf st hg
  subst hP hw hK
  obtain⟨xs,x,hq,hx⟩:=hg
  obtain⟨Ab,rv,p,hz⟩:=I.list hq
  obtain⟨u,hu,ru⟩:=rv.get hx
  obtain⟨f0,f1,f2,f3,f4,f5⟩:=hf it (by simp)
  refine wpAny_pyNext_list_item st p.isList (x:=u) (by simpa using hu) fun h' Ep sb=>?_
  have I1:Inv X pins σ H { s with heap:=h' }:=I.turned (t':=s.toks) (fun b o hb e=>(sb.2 b hb).trans e) f0 f1 f3 f4 f5
  obtain⟨o,e,c,d⟩:=id Ep
  exact⟨u,rfl,qJ (s:={ s with heap:=h' }) e c d (by decide) ⟨x,H,I1,ru,⟨rfl,fun ys hy=>by rw[I.CY hy hq];exact hx⟩,Ep,fun b hb=>(hf b hb).1⟩⟩
 done:=by
  intro X hP hw hK hc i pins s σ H E I hf st hg
  subst hP hw hK
  obtain⟨xs,hq,hx⟩:=hg
  obtain⟨Ab,rv,p,hz⟩:=I.list hq
  obtain⟨f0,f1,f2,f3,f4,f5⟩:=hf it (by simp)
  have hl:=rv.length
  exact wpAny_pyNext_list_end (I.ok.hd hc) st p.isList (by simp;omega) fun h' eb=>⟨rfl,I.turned (t':=s.toks) (fun b o hb e=>eb b o hb e) f0 f1 f3 f4 f5⟩
 self:=fun _ _ _ _ _ st h=>wpAny_pyIter_listiter st h
theorem om {P:Program}{w:World}{K:Frag}{tg:Expr}(a it:Addr):nZ P w K tg (OE K a) [it] it (fun i h=>h.IsTupleIter it a i) where
 mem:=by simp
 obj:=fun i h st b hb=>by
  have e:b=it:=by simpa using hb
  subst e
  obtain⟨o,e,c,d⟩:=st
  exact⟨o,e,fun v z=>by rw[d]at z;cases z⟩
 keep:=fun i h h' st k=>st.at fun o e=>k it (by simp) o e
 item:=by
  intro X hP hw hK hc i pins s σ H E I hf st hg
  subst hP hw hK
  obtain⟨xs,x,hq,hx⟩:=hg
  obtain⟨Ab,rv,p,hz⟩:=I.tuple hq
  obtain⟨u,hu,ru⟩:=rv.get hx
  obtain⟨f0,f1,f2,f3,f4,f5⟩:=hf it (by simp)
  refine wpAny_pyNext_tuple_item st (show s.heap.IsTuple a Ab.toArray from p) (x:=u) (by simpa using hu) fun h' Ep sb=>?_
  have I1:Inv X pins σ H { s with heap:=h' }:=I.turned (t':=s.toks) (fun b o hb e=>(sb.2 b hb).trans e) f0 f1 f3 f4 f5
  obtain⟨o,e,c,d⟩:=id Ep
  exact⟨u,rfl,qJ (s:={ s with heap:=h' }) e c d (by decide) ⟨x,H,I1,ru,⟨rfl,fun ys hy=>by rw[I.C5 hy hq];exact hx⟩,Ep,fun b hb=>(hf b hb).1⟩⟩
 done:=by
  intro X hP hw hK hc i pins s σ H E I hf st hg
  subst hP hw hK
  obtain⟨xs,hq,hx⟩:=hg
  obtain⟨Ab,rv,p,hz⟩:=I.tuple hq
  obtain⟨f0,f1,f2,f3,f4,f5⟩:=hf it (by simp)
  have hl:=rv.length
  exact wpAny_pyNext_tuple_end (I.ok.hd hc) st (show s.heap.IsTuple a Ab.toArray from p) (by simp;omega) fun h' eb=>⟨rfl,I.turned (t':=s.toks) (fun b o hb e=>eb b o hb e) f0 f1 f3 f4 f5⟩
 self:=fun _ _ _ _ _ st h=>wpAny_pyIter_tupleiter st h
theorem oq {P:Program}{w:World}{K:Frag}{tg:Expr}(it:Addr)(lo:Int)(n:Nat):nZ P w K tg (vx lo n) [it] it (fun i h=>IsRangeIter h it (lo + (i:Nat) * 1) ((n:Int) - (i:Nat)) 1) where
 mem:=by simp
 obj:=fun i h st b hb=>by
  have e:b=it:=by simpa using hb
  subst e
  exact⟨_,st,fun v z=>by
   have z':Data.fields _=Data.cell v:=z
   cases z'⟩
 keep:=fun i h h' st k=>k it (by simp) _ st
 item:=by
  intro X hP hw hK hc i pins s σ H E I hf st hg
  subst hP hw hK
  obtain⟨f0,f1,f2,f3,f4,f5⟩:=hf it (by simp)
  have W:=Walks.range (prog:=X.prog) (w:=X.w) (I.ok.hd hc) it lo 1 n
  refine W.item i s _ _ hg st fun v h' tk hv Ep kk=>?_
  obtain⟨t,rfl⟩:=hv
  have I1:Inv X pins σ H { s with heap:=h',toks:=tk }:=I.turned (fun b o hb e=>kk b o (by simpa using hb) e) f0 f1 f3 f4 f5
  refine⟨_,rfl,qJ (s:={ s with heap:=h',toks:=tk }) (n := "range_iterator") Ep rfl rfl (by decide) ⟨.int (lo + i),H,I1,⟨t,?_⟩,⟨rfl,rfl⟩,Ep,fun b hb=>(hf b hb).1⟩⟩
  rw[Int.mul_one]
 done:=by
  intro X hP hw hK hc i pins s σ H E I hf st hg
  subst hP hw hK
  obtain⟨f0,f1,f2,f3,f4,f5⟩:=hf it (by simp)
  exact wpAny_pyNext_range_end (I.ok.hd hc) st (by have:n <= i:=hg;omega) fun h' eb=>⟨rfl,I.turned (t':=s.toks) (fun b o hb e=>eb b o hb e) f0 f1 f3 f4 f5⟩
 self:=fun _ _ _ _ _ st h=>wpAny_pyIter_rangeiter st h
end L2
namespace L2
open PySem PySem.Spec PyProof.Rows
section
variable {X:Cx}{tg:Expr}
noncomputable def Ki (K:Frag)(tl:TE):TI:=fun σ H R=>tl σ H fun x H1=>∃ a,x = .ref a/\(∃ xs,Aa K H1 a xs)/\R (vy K a) H1
noncomputable def Q9 (K:Frag)(tl:TE):TI:=fun σ H R=>tl σ H fun x H1=>∃ a,x = .ref a/\(∃ xs,Af K H1 a xs)/\R (OE K a) H1
theorem bA {l:Expr}{tl:TE}(hl:PE X l tl):PI X tg l (Ki X.K tl):=by
 intro pins s σ H R I h
 refine aS (hl pins s σ H _ I h) fun v s1 Aj=>?_
 obtain⟨x,H1,I1,r1,q1⟩:=Aj
 obtain⟨a,e,⟨xs,hq⟩,q⟩:=q1
 subst e
 cases r1
 obtain⟨Ab,rv,p,hz⟩:=I1.list hq
 refine wpAny_pyIter_list p.isList ?_
 refine⟨s1.heap.objs.size,[s1.heap.objs.size],_,_,H1,rfl,I1.kept (t':=s1.toks) fun b o e=>Heap.get?_push_of_some _ e,qU a _,⟨_,Heap.get?_push_size _ rfl,rfl,rfl⟩,fun b hb=>?_,q⟩
 have e:b=s1.heap.objs.size:=by simpa using hb
 subst e
 exact I1.DY (le_refl _) (I1.Ad.fresh (le_refl _))
theorem lB {l:Expr}{tl:TE}(hl:PE X l tl):PI X tg l (Q9 X.K tl):=by
 intro pins s σ H R I h
 refine aS (hl pins s σ H _ I h) fun v s1 Aj=>?_
 obtain⟨x,H1,I1,r1,q1⟩:=Aj
 obtain⟨a,e,⟨xs,hq⟩,q⟩:=q1
 subst e
 cases r1
 obtain⟨Ab,rv,p,hz⟩:=I1.tuple hq
 refine wpAny_pyIter_tuple (show s1.heap.IsTuple a Ab.toArray from p) ?_
 refine⟨s1.heap.objs.size,[s1.heap.objs.size],_,_,H1,rfl,I1.kept (t':=s1.toks) fun b o e=>Heap.get?_push_of_some _ e,om a _,⟨_,Heap.get?_push_size _ rfl,rfl,rfl⟩,fun b hb=>?_,q⟩
 have e:b=s1.heap.objs.size:=by simpa using hb
 subst e
 exact I1.DY (le_refl _) (I1.Ad.fresh (le_refl _))
theorem mO {pins:List (Addr × Obj)}{σ:St}{H:Hp}{s:Shared}{R:It->Hp->Prop}{E:Value->Shared->Prop}{lo hi:Int}{t u v:Tok}{tk:Nat}(I:Inv X pins σ H s)(h1:-(2 ^ 62) <= lo)(h2:lo < 2 ^ 62)(h3:-(2 ^ 62) <= hi)(h4:hi < 2 ^ 62)
  (q:R (vx lo (hi - lo).toNat) H):wpAny (model X.prog X.w) X.A (pyIter (.ref s.heap.objs.size)) (Wm X pins σ tg R) E { s with heap:=s.heap.push { cls := .type "range",data := .fields #[.int lo t, .int hi u, .int 1 v] },toks:=tk }:=by
 refine wpAny_pyIter_range (IsRange.new ..) (small_one h1 h2 h3 h4) ?_
 have I1:Inv X pins σ H { s with heap:=s.heap.push { cls := .type "range",data := .fields #[.int lo t, .int hi u, .int 1 v] },toks:=tk }:=I.kept fun b o e=>Heap.get?_push_of_some _ e
 refine⟨(s.heap.push { cls := .type "range",data := .fields #[.int lo t, .int hi u, .int 1 v] }).objs.size,[(s.heap.push { cls := .type "range",data := .fields #[.int lo t, .int hi u, .int 1 v] }).objs.size],_,_,H,rfl,
  I1.kept (t':=tk) fun b o e=>Heap.get?_push_of_some _ e,oq _ lo (hi - lo).toNat,?_,fun b hb=>?_,q⟩
 ·have e1:lo + ((0:Nat):Int) * 1=lo:=by simp
  have e2:(((hi - lo).toNat:Nat):Int) - ((0:Nat):Int)=Builtin.Range.rangeSize lo hi 1:=by rw[rangeSize_one];split<;>omega
  show IsRangeIter _ _ (lo + ((0:Nat):Int) * 1) ((((hi - lo).toNat:Nat):Int) - ((0:Nat):Int)) 1
  rw[e1,e2]
  exact Heap.get?_push_size _ rfl
 ·have e:b=(s.heap.push { cls := .type "range",data := .fields #[.int lo t, .int hi u, .int 1 v] }).objs.size:=by simpa using hb
  subst e
  exact I1.DY (le_refl _) (I1.Ad.fresh (le_refl _))
noncomputable def Kj (ta:TA):TI:=fun σ H R=>ta σ H fun vs H1=>∃ j:Int,vs=[.int j]/\-(2 ^ 62) <= j/\j < 2 ^ 62/\R (vx 0 j.toNat) H1
noncomputable def Kk (ta:TA):TI:=fun σ H R=>ta σ H fun vs H1=>∃ i j:Int,vs=[.int i, .int j]/\(-(2 ^ 62) <= i/\i < 2 ^ 62/\-(2 ^ 62) <= j/\j < 2 ^ 62)/\R (vx i (j - i).toNat) H1
theorem aL {a:Expr}{ta:TA}{p pos:Pos}(hg:Gl X "range")(hm:X.mg "range" = none)(ha:PA X [a] ta)(hs:starEach [a] X.env=[(false,eval a X.env)]:=by rfl):PI X tg (.Call (.Name "range" p) [a] [] pos) (Kj ta):=by
 intro pins s σ H R I h
 refine Call_ (gH I hg hm boot_range (PyProof.Rows.callWith_type1 (aS (ha pos pins s σ H _ I h) fun us s1 Aj=>?_) hs rfl))
 obtain⟨vs,H1,I1,r1,q1⟩:=Aj
 obtain⟨j,e,q1,q2,q⟩:=q1
 subst e
 cases r1 with
 | cons r rr =>
  cases rr
  obtain⟨t,rfl⟩:=r
  exact call_range_1 (mO I1 (by omega) (by omega) q1 q2 (by simpa using q))
theorem rj {a b:Expr}{ta:TA}{p pos:Pos}(hg:Gl X "range")(hm:X.mg "range" = none)(ha:PA X [a,b] ta)(hs:starEach [a,b] X.env=[(false,eval a X.env),(false,eval b X.env)]:=by rfl)(D8:starEach [b] X.env=[(false,eval b X.env)]:=by rfl) :
  PI X tg (.Call (.Name "range" p) [a,b] [] pos) (Kk ta):=by
 intro pins s σ H R I h
 refine Call_ (gH I hg hm boot_range (PyProof.Rows.callWith_type1 (aS (ha pos pins s σ H _ I h) fun us s1 Aj=>?_) (by rw[hs,D8]) (by rw[D8];rfl)))
 obtain⟨vs,H1,I1,r1,q1⟩:=Aj
 obtain⟨i,j,e,⟨q1,q2,q3,q4⟩,q⟩:=q1
 subst e
 cases r1 with
 | cons r rr =>
  cases rr with
  | cons r' rr =>
   cases rr
   obtain⟨t,rfl⟩:=r
   obtain⟨t',rfl⟩:=r'
   exact call_range_2 (mO I1 q1 q2 q3 q4 q)
noncomputable def QA (wi:TI)(g:TG)(tb:TS):TS:=fun D σ H=>wi σ H fun J H1=>∃ W:Nat->Nat->St->Hp->Prop,(∃ m,W 0 m σ H1)/\∀ i m σ H,W i m σ H ->
 (J.stop i H/\D.nx σ H)∨(J.go i H/\∃ N:St->Hp->Prop,(∀ σ' H',N σ' H'->∃ m',m' < m/\W (i + 1) m' σ' H')/\∀ x H',J.Fi i H x H'->g x σ H' fun σ2 H2=>tb { D with nx:=N,ct:=N,bk:=D.nx } σ2 H2)
noncomputable def eN (fp:List Addr)(h:Heap):List (Addr × Obj):=fp.filterMap fun b=>(h.get? b).map fun o=>(b,o)
theorem eT {fp:List Addr}{h:Heap}{b:Addr}{o:Obj}(hb:b ∈ fp)(e:h.get? b=some o):(b,o) ∈ eN fp h:=List.mem_filterMap.mpr ⟨b,hb,by rw[e];rfl⟩
theorem kD {fp:List Addr}{h:Heap}{p:Addr × Obj}(hp:p ∈ eN fp h):p.1 ∈ fp/\h.get? p.1=some p.2:=by
 obtain⟨b,hb,e⟩:=List.mem_filterMap.mp hp
 cases q:h.get? b with
 | none=>rw[q]at e;cases e
 | some o =>
  rw[q]at e
  have e':(b,o)=p:=Option.some.inj e
  subst e'
  exact⟨hb,q⟩
theorem Inv.pinned {pins:List (Addr × Obj)}{σ:St}{H:Hp}{s:Shared}{fp:List Addr}(I:Inv X pins σ H s)(hf:∀ b ∈ fp,fX X pins H b)(ho:∀ b ∈ fp,∃ o,s.heap.get? b=some o/\∀ v,o.data ≠ .cell v):Inv X (pins ++ eN fp s.heap) σ H s :=
 I.Bx fun p hp=>(mem_append.mp hp).elim (fun z=>I.pin p (mem_append_right _ z)) fun z=>by
  obtain⟨hb,e⟩:=kD z
  obtain⟨f0,f1,f2,_⟩:=hf p.1 hb
  obtain⟨o,e',d⟩:=ho p.1 hb
  rw[e]at e';cases e'
  exact⟨e,f0,f1,f2,d⟩
theorem Inv.B5 {pins pl:List (Addr × Obj)}{σ:St}{H:Hp}{s:Shared}(I:Inv X (pins ++ pl) σ H s):Inv X pins σ H s:=I.Bx fun p hp=>I.pin p (mem_append_right _ (mem_append_left _ hp))
theorem bv {iter:Expr}{body:List Stmt}{wi:TI}{g:TG}{tb:TS}{pos:Pos}(hp:PassesOwn (model X.prog X.w) X.A X.env X.xe)(hc:X.calm=true)(hi:PI X tg iter wi)(hg:PG X tg g)(hb:Cy X body tb)
  (hs:∀ x,foldedSetIterable iter X.env x=pure x:=by intro _;rfl):PS X (.For tg iter body [] pos) (QA wi g tb):=by
 intro pins s σ H D I h
 refine wpAny_For (aS (hi pins s σ H _ I h) fun v s1 h1=>aS h1 fun OD s2 h2=>?_) hs
 obtain⟨it,fp,tn,J,H2,e,I2,T,Kl,f2,W,⟨m0,w0⟩,turn⟩:=h2
 subst e
 have stat:∀ {H':Hp},(∀ b ∈ fp,H' b=none)->∀ b ∈ fp,fX X pins H' b:=fun hn b hb=>⟨hn b hb,(f2 b hb).2⟩
 refine codeAny_forLoop_any (fun n s'=>∃ i σ' H',Inv X pins σ' H' s'/\tn i s'.heap/\(∀ b ∈ fp,H' b=none)/\W i n σ' H') ?_ m0 ⟨0,σ,H2,I2,Kl,fun b hb=>(f2 b hb).1,w0⟩
 rintro n s3 ⟨i,σ3,H3,I3,Wn,Wo,w3⟩
 rcases turn i n σ3 H3 w3 with ⟨stop,qn⟩ | ⟨go,N,hN,step⟩
 ·refine wpAny_passesOwn hp (aS (T.done X rfl rfl rfl hc i pins s3 σ3 H3 X.xe I3 (stat Wo) Wn stop) fun r s4 Aj=>?_)
  obtain⟨hr,I4⟩:=Aj
  subst hr
  exact wpAny_execs_nil ⟨σ3,H3,I4,qn⟩
 ·refine wpAny_passesOwn hp (aS (T.item X rfl rfl rfl hc i pins s3 σ3 H3 X.xe I3 (stat Wo) Wn go) fun r s4 Aj=>?_)
  obtain⟨u,hr,h4⟩:=Aj
  subst hr
  refine wpAny_passesOwn hp (aS h4 fun _ s5 Aj=>?_)
  obtain⟨x,H5,I5,r5,y5,Jo,OF⟩:=Aj
  have I5':=I5.pinned (stat OF) (T.obj _ _ Jo)
  refine wpAny_passesOwn hp (aS (hg _ s5 σ3 H5 x u _ I5' r5 (step x H5 y5)) fun _ s6 Aj=>?_)
  obtain⟨σ6,H6,I6,q6⟩:=Aj
  refine wpAny_passesOwn hp (aS (hb _ s6 σ6 H6 _ I6 q6) fun f s7 q7=>?_)
  have again:∀ {σ7:St}{H7:Hp},Inv X (pins ++ eN fp s5.heap) σ7 H7 s7->N σ7 H7->∃ m,m < n/\∃ i σ' H',Inv X pins σ' H' s7/\tn i s7.heap/\(∀ b ∈ fp,H' b=none)/\W i m σ' H':=fun {σ7 H7} I7 n7=>by
   obtain⟨m',hm,w7⟩:=hN σ7 H7 n7
   refine⟨m',hm,i + 1,σ7,H7,I7.B5,T.keep _ _ _ Jo fun b hb o e=>(I7.pin (b,o) (mem_append_right _ (mem_append_right _ (eT hb e)))).1,fun b hb=>?_,w7⟩
   obtain⟨o,e,d⟩:=T.obj _ _ Jo b hb
   exact(I7.pin (b,o) (mem_append_right _ (mem_append_right _ (eT hb e)))).2.1
  cases f with
  | next=>obtain⟨σ7,H7,I7,n7⟩:=q7;exact again I7 n7
  | cont=>obtain⟨σ7,H7,I7,n7⟩:=q7;exact again I7 n7
  | brk=>obtain⟨σ7,H7,I7,q7⟩:=q7;exact⟨σ7,H7,I7.B5,q7⟩
  | ret v=>obtain⟨x7,σ7,H7,I7,r7,q7⟩:=q7;exact⟨x7,σ7,H7,I7.B5,r7,q7⟩
end
theorem eA {K:Frag}{a:Addr}{xs:List V}{g:TG}{tb:TS}{D:lZ}{σ:St}{H:Hp}(Pv:Nat->St->Hp->Prop)(h0:Pv 0 σ H)(hl:∀ i σ H,i <= xs.length->Pv i σ H->Aa K H a xs)
  (hs:∀ i x σ H,xs[i]? = some x->Pv i σ H->g x σ H fun σ2 H2=>tb { D with nx:=Pv (i + 1),ct:=Pv (i + 1),bk:=D.nx } σ2 H2) (hd:∀ σ H,Pv xs.length σ H->D.nx σ H) :
  ∃ W:Nat->Nat->St->Hp->Prop,(∃ m,W 0 m σ H)/\∀ i m σ H,W i m σ H ->
   ((vy K a).stop i H/\D.nx σ H)∨((vy K a).go i H/\∃ N:St->Hp->Prop,(∀ σ' H',N σ' H'->∃ m',m' < m/\W (i + 1) m' σ' H')/\∀ x H',(vy K a).Fi i H x H'->g x σ H' fun σ2 H2=>tb { D with nx:=N,ct:=N,bk:=D.nx } σ2 H2):=by
 refine⟨fun i m σ H=>m=xs.length - i/\i <= xs.length/\Pv i σ H,⟨xs.length,by simp,zero_le _,h0⟩,?_⟩
 rintro i m σ H ⟨rfl,hi,p⟩
 have q:=hl i σ H hi p
 by_cases AU:i < xs.length
 ·refine .inr ⟨⟨xs,xs[i],q,by simp[AU]⟩,Pv (i + 1),fun σ' H' p'=>⟨xs.length - (i + 1),by omega,rfl,AU,p'⟩,fun x H' y=>?_⟩
  obtain⟨e,y⟩:=y
  subst e
  exact hs i x σ _ (y xs q) p
 ·have e:i=xs.length:=by omega
  subst e
  exact .inl ⟨⟨xs,q,le_refl _⟩,hd σ H p⟩
theorem aY {lo:Int}{n:Nat}{g:TG}{tb:TS}{D:lZ}{σ:St}{H:Hp}(Pv:Nat->St->Hp->Prop)(h0:Pv 0 σ H)
  (hs:∀ i σ H,i < n->Pv i σ H->g (.int (lo + i)) σ H fun σ2 H2=>tb { D with nx:=Pv (i + 1),ct:=Pv (i + 1),bk:=D.nx } σ2 H2) (hd:∀ σ H,Pv n σ H->D.nx σ H) :
  ∃ W:Nat->Nat->St->Hp->Prop,(∃ m,W 0 m σ H)/\∀ i m σ H,W i m σ H ->
   ((vx lo n).stop i H/\D.nx σ H)∨((vx lo n).go i H/\∃ N:St->Hp->Prop,(∀ σ' H',N σ' H'->∃ m',m' < m/\W (i + 1) m' σ' H')/\∀ x H',(vx lo n).Fi i H x H'->g x σ H' fun σ2 H2=>tb { D with nx:=N,ct:=N,bk:=D.nx } σ2 H2):=by
 refine⟨fun i m σ H=>m=n - i/\i <= n/\Pv i σ H,⟨n,by simp,zero_le _,h0⟩,?_⟩
 rintro i m σ H ⟨rfl,hi,p⟩
 by_cases AU:i < n
 ·refine .inr ⟨AU,Pv (i + 1),fun σ' H' p'=>⟨n - (i + 1),by omega,rfl,AU,p'⟩,fun x H' y=>?_⟩
  obtain⟨e,y⟩:=y
  subst e y
  exact hs i σ _ AU p
 ·have e:i=n:=by omega
  subst e
  exact .inl ⟨le_refl _,hd σ H p⟩
end L2
namespace L2
open PySem PySem.Spec PyProof.Rows
noncomputable abbrev R2:=V->V->Hp->VK->Prop
noncomputable def eW (X:Cx)(f:Value->Value->Sem Value)(r:R2):Prop :=
 ∀ (pins:List (Addr × Obj))(s:Shared)(σ:St)(H:Hp)(x y:V)(v u:Value)(Q:VK),Inv X pins σ H s->RelV x v->RelV y u->r x y H Q ->
  wpAny (model X.prog X.w) X.A (f v u) (EP X pins σ Q) X.xe s
noncomputable def eD (X:Cx)(f:Value)(r:List V->Hp->VK->Prop):Prop :=
 ∀ (pins:List (Addr × Obj))(s:Shared)(σ:St)(H:Hp)(xs:List V)(us:List Value)(Q:VK),Inv X pins σ H s->Vals xs us->r xs H Q ->
  wpAny (model X.prog X.w) X.A (call f us) (EP X pins σ Q) X.xe s
noncomputable def QB (X:Cx)(r:V->Hp->(Bool->Hp->Prop)->Prop):Prop :=
 ∀ (pins:List (Addr × Obj))(s:Shared)(σ:St)(H:Hp)(x:V)(v:Value)(Q:Bool->Hp->Prop),Inv X pins σ H s->RelV x v->r x H Q ->
  wpAny (model X.prog X.w) X.A (truthy v) (TP X pins σ Q) X.xe s
noncomputable def OG (r:R2)(ta tb:TE):TE:=fun σ H Q=>ta σ H fun x H1=>tb σ H1 fun y H2=>r x y H2 Q
noncomputable def rI (C:Int->Int->Prop)(g:Int->Int->V):R2:=fun x y H Q=>∃ i j,x = .int i/\y = .int j/\C i j/\Q (g i j) H
noncomputable def sf (g:Int->Int->V):R2:=fun x y H Q=>∃ i j,x = .int i/\y = .int j/\Q (g i j) H
section
variable {X:Cx}{a b c:Expr}{ta tb tc:TE}{pos:Pos}
theorem zM (ha:PE X a ta)(hb:PE X b tb){pins:List (Addr × Obj)}{s:Shared}{σ:St}{H:Hp}{R:V->V->Hp->Prop}(I:Inv X pins σ H s)
  (h:ta σ H fun x H1=>tb σ H1 fun y H2=>R x y H2) {Q:Value->Shared->Prop} {f:Value->Value->Sem Value}
  (hf:∀ v u s2 x y H2,Inv X pins σ H2 s2->RelV x v->RelV y u->R x y H2->wpAny (model X.prog X.w) X.A (f v u) Q X.xe s2) :
  wpAny (model X.prog X.w) X.A (eval a X.env) (fun v s₁=>wpAny (model X.prog X.w) X.A (eval b X.env) (fun u s₂=>wpAny (model X.prog X.w) X.A (f v u) Q X.xe s₂) X.xe s₁) X.xe s:=by
 refine aS (ha pins s σ H _ I h) fun v s1 Aj=>?_
 obtain⟨x,H1,I1,r1,q1⟩:=Aj
 refine aS (hb pins s1 σ H1 _ I1 q1) fun u s2 Aj=>?_
 obtain⟨y,H2,I2,r2,q2⟩:=Aj
 exact hf v u s2 x y H2 I2 r1 r2 q2
theorem aD {op:Operator}{r:R2}(ho:eW X (binaryOp op) r)(ha:PE X a ta)(hb:PE X b tb):PE X (.BinOp a op b pos) (OG r ta tb):=by
 intro pins s σ H Q I h
 exact wpAny_BinOp (zM ha hb I h fun v u s2 x y H2 I2 rx ry q=>ho pins s2 σ H2 x y v u Q I2 rx ry q)
theorem Jp {f:Value->Value->Sem Value}{C:Int->Int->Prop}{g:Int->Int->Int}
  (rule:∀ (i j:Int)(t u:Tok)(s:Shared)(Q:Value->Shared->Prop)(E:Value->Shared->Prop),C i j->Q (.int (g i j) s.toks) { s with toks:=s.toks + 1 }->wpAny (model X.prog X.w) X.A (f (.int i t) (.int j u)) Q E s) :
  eW X f (rI C fun i j => .int (g i j)):=by
 intro pins s σ H x y v u Q I rx ry h
 obtain⟨i,j,rfl,rfl,hc,q⟩:=h
 obtain⟨t,rfl⟩:=rx
 obtain⟨t',rfl⟩:=ry
 exact rule i j t t' s _ _ hc ⟨.int (g i j),H,I.tok _,⟨_,rfl⟩,q⟩
theorem rq {f:Value->Value->Sem Value}{g:Int->Int->Int}
  (rule:∀ (i j:Int)(t u:Tok)(s:Shared)(Q:Value->Shared->Prop)(E:Value->Shared->Prop),Q (.int (g i j) s.toks) { s with toks:=s.toks + 1 }->wpAny (model X.prog X.w) X.A (f (.int i t) (.int j u)) Q E s) :
  eW X f (sf fun i j => .int (g i j)):=by
 intro pins s σ H x y v u Q I rx ry h
 obtain⟨i,j,rfl,rfl,q⟩:=h
 obtain⟨t,rfl⟩:=rx
 obtain⟨t',rfl⟩:=ry
 exact rule i j t t' s _ _ ⟨.int (g i j),H,I.tok _,⟨_,rfl⟩,q⟩
theorem wn {f:Value->Value->Sem Value}{g:Int->Int->Bool}
  (rule:∀ (i j:Int)(t u:Tok)(s:Shared)(Q:Value->Shared->Prop)(E:Value->Shared->Prop),Q (.bool (g i j)) s->wpAny (model X.prog X.w) X.A (f (.int i t) (.int j u)) Q E s) :
  eW X f (sf fun i j => .bl (g i j)):=by
 intro pins s σ H x y v u Q I rx ry h
 obtain⟨i,j,rfl,rfl,q⟩:=h
 obtain⟨t,rfl⟩:=rx
 obtain⟨t',rfl⟩:=ry
 exact rule i j t t' s _ _ ⟨.bl (g i j),H,I,rfl,q⟩
noncomputable def QC (i j:Int):Prop:=0 < j/\j < 1073741824
noncomputable def Km (i j:Int):Prop:=0 <= j/\j <= 1000000/\i.natAbs < 2 ^ 64
noncomputable def HK (i j:Int):Prop:=(-(2 ^ 64) < i/\i < 2 ^ 64)∨(-(2 ^ 64) < j/\j < 2 ^ 64)
theorem HK.ok {i j:Int}(h:HK i j):IntMulOk i j:=by
 rcases h with ⟨h1,h2⟩ | ⟨h1,h2⟩
 ·exact .of_left (intBits_le_64 h1 h2)
 ·exact .of_right (intBits_le_64 h1 h2)
theorem oj (k:Nat):(0:Int) <= 2 ^ k:=by
 rw[two_pow_cast]
 exact Int.natCast_nonneg _
theorem bR:eW X (binaryOp .Add) (sf fun i j => .int (i + j)):=rq fun _ _ _ _ _ _ _ q=>add_int q
theorem eP:eW X (binaryOp .Sub) (sf fun i j => .int (i - j)):=rq fun _ _ _ _ _ _ _ q=>sub_int q
theorem jB:eW X (binaryOp .Mult) (rI HK fun i j => .int (i * j)):=Jp fun _ _ _ _ _ _ _ hc q=>mul_int q hc.ok
theorem c9:eW X (binaryOp .FloorDiv) (rI QC fun i j => .int (i / j)):=Jp fun i j _ _ _ _ _ hc q=>by
 have h1:(0:Int) < j:=hc.1
 have h2:j < 1073741824:=hc.2
 exact floordiv_int (by omega) (by rw[Int.fdiv_eq_ediv_of_nonneg i (by omega)];exact q) (.inl (PyProof.noPylong_small (by omega)))
theorem bJ:eW X (binaryOp .Mod) (rI (fun _ j=>0 < j) fun i j => .int (i % j)):=Jp fun i j _ _ _ _ _ hc q=>by
 have h1:(0:Int) < j:=hc
 exact mod_int' (by omega) (by rw[Int.fmod_eq_emod_of_nonneg i (by omega)];exact q)
theorem uk:eW X (binaryOp .Pow) (rI Km fun i j => .int (i ^ j.toNat)):=Jp fun _ _ _ _ _ _ _ hc q=>pow_int_small hc.1 hc.2.1 hc.2.2 q
theorem yO:eW X (binaryOp .LShift) (rI Km fun i j => .int (i * 2 ^ j.toNat)):=Jp fun _ _ _ _ _ _ _ hc q=>lshift_int_small hc.1 hc.2.1 hc.2.2 q
theorem uj:eW X (binaryOp .RShift) (rI (fun _ j=>0 <= j) fun i j => .int (i / 2 ^ j.toNat)):=Jp fun i j _ _ _ _ _ hc q =>
 rshift_int hc (by rw[Int.fdiv_eq_ediv_of_nonneg i (oj _)];exact q)
theorem um:eW X (binaryOp .BitAnd) (sf fun i j => .int (Builtin.bitAnd i j)):=rq fun _ _ _ _ _ _ _ q=>and_int q
theorem Kn:eW X (binaryOp .BitOr) (sf fun i j => .int (Builtin.bitOr i j)):=rq fun _ _ _ _ _ _ _ q=>or_int q
theorem lK:eW X (inplaceOp .Add) (sf fun i j => .int (i + j)):=rq fun _ _ _ _ _ _ _ q=>iadd_int q
theorem qI:eW X (inplaceOp .Sub) (sf fun i j => .int (i - j)):=rq fun _ _ _ _ _ _ _ q=>isub_int q
end
noncomputable def yn:V->V->Bool
 | .An, .An=>true | .An, .int _=>true | .int _, .An=>true | .An, .bl _=>true | .bl _, .An=>true | .An, .str _=>true | .str _, .An=>true
 | .int _, .int _=>true | .bl _, .bl _=>true | .str _, .str _=>true | .DN _, .DN _=>true
 | .int _, .str _=>true | .str _, .int _=>true | .bl _, .str _=>true | .str _, .bl _=>true
 | _,_=>false
noncomputable def rEq:R2:=fun x y H Q=>yn x y=true/\Q (.bl (decide (x=y))) H
noncomputable def rNe:R2:=fun x y H Q=>yn x y=true/\Q (.bl (!decide (x=y))) H
theorem qN {i j:Int}:decide (V.int i=V.int j)=(i == j):=by
 rw[Bool.eq_iff_iff]
 simp
theorem vo {i j:Bool}:decide (V.bl i=V.bl j)=(i == j):=by
 rw[Bool.eq_iff_iff]
 simp
theorem qM {i j:Str}:decide (V.str i=V.str j)=(i == j):=by
 rw[Bool.eq_iff_iff]
 simp
theorem qO {i j:Array UInt8}:decide (V.DN i=V.DN j)=(i.toList == j.toList):=by
 rw[Bool.eq_iff_iff]
 cases i
 cases j
 simp
section
variable {X:Cx}{a b c:Expr}{ta tb tc:TE}{pos:Pos}
theorem aQ {pins:List (Addr × Obj)}{σ:St}{H:Hp}{s:Shared}{Q:VK}{k k':Bool}(I:Inv X pins σ H s)(q:Q (.bl k) H)(e:k=k'):EP X pins σ Q (.bool k') s:=by
 subst e
 exact⟨.bl k,H,I,rfl,q⟩
theorem bG:eW X (compareOp .Eq) rEq:=by
 intro pins s σ H x y v u Q I rx ry h
 obtain⟨hs,q⟩:=h
 cases x with
 | An =>
  cases rx
  cases y with
  | An=>cases ry;exact PySem.EqNone.eq_none_none (aQ I q (by simp))
  | bl j=>cases ry;exact PySem.EqNone.eq_none_bool (aQ I q (by simp))
  | int j=>obtain⟨t',rfl⟩:=ry;exact PySem.EqNone.eq_none_int (aQ I q (by simp))
  | str j=>obtain⟨t',rfl⟩:=ry;exact PySem.EqNone.eq_none_str (aQ I q (by simp))
  | _=>exact absurd (show false=true from hs) Bool.false_ne_true
 | bl i =>
  cases rx
  cases y with
  | An=>cases ry;exact PySem.EqNone.eq_bool_none (aQ I q (by simp))
  | bl j=>cases ry;exact eq_bool (aQ I q vo)
  | str j=>obtain⟨t',rfl⟩:=ry;exact PySem.EqMixed.eq_bool_str (aQ I q (by simp))
  | _=>exact absurd (show false=true from hs) Bool.false_ne_true
 | int i =>
  obtain⟨t,rfl⟩:=rx
  cases y with
  | An=>cases ry;exact PySem.EqNone.eq_int_none (aQ I q (by simp))
  | int j=>obtain⟨t',rfl⟩:=ry;exact eq_int (aQ I q qN)
  | str j=>obtain⟨t',rfl⟩:=ry;exact PySem.EqMixed.eq_int_str (aQ I q (by simp))
  | _=>exact absurd (show false=true from hs) Bool.false_ne_true
 | str i =>
  obtain⟨t,rfl⟩:=rx
  cases y with
  | An=>cases ry;exact PySem.EqNone.eq_str_none (aQ I q (by simp))
  | bl j=>cases ry;exact PySem.EqMixed.eq_str_bool (aQ I q (by simp))
  | int j=>obtain⟨t',rfl⟩:=ry;exact PySem.EqMixed.eq_str_int (aQ I q (by simp))
  | str j=>obtain⟨t',rfl⟩:=ry;exact eq_str (aQ I q qM)
  | _=>exact absurd (show false=true from hs) Bool.false_ne_true
 | DN i =>
  obtain⟨t,rfl⟩:=rx
  cases y with
  | DN j=>obtain⟨t',rfl⟩:=ry;exact PySem.W.eq_bytes (aQ I q qO)
  | _=>exact absurd (show false=true from hs) Bool.false_ne_true
 | _=>cases y<;>exact absurd (show false=true from hs) Bool.false_ne_true
theorem mU:eW X (compareOp .NotEq) rNe:=by
 intro pins s σ H x y v u Q I rx ry h
 obtain⟨hs,q⟩:=h
 cases x with
 | An =>
  cases rx
  cases y with
  | An=>cases ry;exact PySem.EqNone.ne_none_none (aQ I q (by simp))
  | bl j=>cases ry;exact PySem.EqNone.ne_none_bool (aQ I q (by simp))
  | int j=>obtain⟨t',rfl⟩:=ry;exact PySem.EqNone.ne_none_int (aQ I q (by simp))
  | str j=>obtain⟨t',rfl⟩:=ry;exact PySem.EqNone.ne_none_str (aQ I q (by simp))
  | _=>exact absurd (show false=true from hs) Bool.false_ne_true
 | bl i =>
  cases rx
  cases y with
  | An=>cases ry;exact PySem.EqNone.ne_bool_none (aQ I q (by simp))
  | bl j=>cases ry;exact ne_bool (aQ I q (congrArg not vo))
  | str j=>obtain⟨t',rfl⟩:=ry;exact PySem.EqMixed.ne_bool_str (aQ I q (by simp))
  | _=>exact absurd (show false=true from hs) Bool.false_ne_true
 | int i =>
  obtain⟨t,rfl⟩:=rx
  cases y with
  | An=>cases ry;exact PySem.EqNone.ne_int_none (aQ I q (by simp))
  | int j=>obtain⟨t',rfl⟩:=ry;exact ne_int (aQ I q (congrArg not qN))
  | str j=>obtain⟨t',rfl⟩:=ry;exact PySem.EqMixed.ne_int_str (aQ I q (by simp))
  | _=>exact absurd (show false=true from hs) Bool.false_ne_true
 | str i =>
  obtain⟨t,rfl⟩:=rx
  cases y with
  | An=>cases ry;exact PySem.EqNone.ne_str_none (aQ I q (by simp))
  | bl j=>cases ry;exact PySem.EqMixed.ne_str_bool (aQ I q (by simp))
  | int j=>obtain⟨t',rfl⟩:=ry;exact PySem.EqMixed.ne_str_int (aQ I q (by simp))
  | str j=>obtain⟨t',rfl⟩:=ry;exact ne_str (aQ I q (congrArg not qM))
  | _=>exact absurd (show false=true from hs) Bool.false_ne_true
 | DN i =>
  obtain⟨t,rfl⟩:=rx
  cases y with
  | DN j=>obtain⟨t',rfl⟩:=ry;exact PySem.W.ne_bytes (aQ I q (congrArg not qO))
  | _=>exact absurd (show false=true from hs) Bool.false_ne_true
 | _=>cases y<;>exact absurd (show false=true from hs) Bool.false_ne_true
theorem qt:eW X (compareOp .Lt) (sf fun i j => .bl (decide (i < j))):=wn fun _ _ _ _ _ _ _ q=>lt_int q
theorem qu:eW X (compareOp .LtE) (sf fun i j => .bl (decide (i <= j))):=wn fun _ _ _ _ _ _ _ q=>le_int q
theorem ul:eW X (compareOp .Gt) (sf fun i j => .bl (decide (j < i))):=wn fun _ _ _ _ _ _ _ q=>gt_int q
theorem xL:eW X (compareOp .GtE) (sf fun i j => .bl (decide (j <= i))):=wn fun _ _ _ _ _ _ _ q=>ge_int q
theorem lG:eW X (compareOp .Is) (fun x y H Q=>y = .An/\Q (.bl (decide (x = .An))) H):=by
 intro pins s σ H x y v u Q I rx ry h
 obtain⟨rfl,q⟩:=h
 cases ry
 refine is_none_gen (aQ I q ?_)
 cases x<;>first
  | (cases rx;rfl)
  | (obtain⟨t,rfl⟩:=rx;rfl)
theorem wk:eW X (compareOp .IsNot) (fun x y H Q=>y = .An/\Q (.bl (!decide (x = .An))) H):=by
 intro pins s σ H x y v u Q I rx ry h
 obtain⟨rfl,q⟩:=h
 cases ry
 refine isnot_none_gen (aQ I q ?_)
 cases x<;>first
  | (cases rx;rfl)
  | (obtain⟨t,rfl⟩:=rx;rfl)
theorem aB (b:Expr){op:CmpOp}(h:op ≠ .In:=by decide)(h2:op ≠ .NotIn:=by decide):behindInMarks op b=false:=by
 have e1:(op == CmpOp.In)=false:=by cases op<;>first | rfl | exact absurd rfl h
 have e2:(op == CmpOp.NotIn)=false:=by cases op<;>first | rfl | exact absurd rfl h2
 cases b<;>simp[behindInMarks,e1,e2]
theorem cS {op:CmpOp}{r:R2}(ho:eW X (compareOp op) r)(ha:PE X a ta)(hb:PE X b tb)(hm:behindInMarks op b=false):PE X (.Compare a [op] [b] pos) (OG r ta tb):=by
 intro pins s σ H Q I h
 exact wpAny_Compare1 (zM ha hb I h fun v u s2 x y H2 I2 rx ry q=>ho pins s2 σ H2 x y v u Q I2 rx ry q) hm
noncomputable def Ko (t:TE):TT:=fun σ H Q=>t σ H fun x H'=>∃ k,x = .bl k/\Q k H'
theorem ax {op:CmpOp}{r:R2}(ho:eW X (compareOp op) r)(ha:PE X a ta)(hb:PE X b tb)(hm:behindInMarks op b=false):PT X (.Compare a [op] [b] pos) (Ko (OG r ta tb)):=by
 intro pins s σ H Q I h
 refine wpAny_isTrue_Compare1 (aS (ha pins s σ H _ I h) fun v s1 ⟨x,H1,I1,r1,q1⟩=>aS (hb pins s1 σ H1 _ I1 q1) fun u s2 ⟨y,H2,I2,r2,q2⟩ =>
  aS (ho pins s2 σ H2 x y v u _ I2 r1 r2 q2) fun c s3 ⟨z,H3,I3,r3,k,e,q3⟩=>?_) hm
 subst e
 cases r3
 exact wpAny_truthy_bool ⟨H3,I3,q3⟩
noncomputable def yj (r r':R2)(ta tb tc:TE):TE:=fun σ H Q=>ta σ H fun x H1=>tb σ H1 fun y H2=>r x y H2 fun z H3=>∃ k,z = .bl k /\
 (if k=true then tc σ H3 fun w' H4=>r' y w' H4 Q else Q (.bl false) H3)
theorem mT {op QD:CmpOp}{r r':R2}(ho:eW X (compareOp op) r)(Fy:eW X (compareOp QD) r')(ha:PE X a ta)(hb:PE X b tb)(hc:PE X c tc)
  (hm:lastMarks [op,QD] [b,c]=false:=by with_unfolding_all rfl):PE X (.Compare a [op,QD] [b,c] pos) (yj r r' ta tb tc):=by
 intro pins s σ H Q I h
 refine Compare_chain (aS (ha pins s σ H _ I h) fun v s1 ⟨x,H1,I1,r1,q1⟩=>chain_link (aS (hb pins s1 σ H1 _ I1 q1) fun u s2 ⟨y,H2,I2,r2,q2⟩ =>
  aS (ho pins s2 σ H2 x y v u _ I2 r1 r2 q2) fun d s3 ⟨z,H3,I3,r3,k,e,q3⟩=>?_)) hm
 subst e
 cases r3
 refine wpAny_truthy_bool ?_
 cases k with
 | false=>exact ite_ff ⟨.bl false,H3,I3,rfl,q3⟩
 | true=>exact ite_tt (chain_last (aS (hc pins s3 σ H3 _ I3 q3) fun w' s4 ⟨z',H4,I4,r4,q4⟩=>Fy pins s4 σ H4 y z' u w' Q I4 r2 r4 q4))
noncomputable def Kp (K:Frag)(x:V)(H:Hp)(k:Bool):Prop :=
 match x with
 | .An=>k=false
 | .bl b=>k=b
 | .int i=>k=(i != 0)
 | .str y=>y.length <= sizeLine/\k=((y.length:Int) != 0)
 | .DN y=>y.size <= sizeLine/\k=((y.size:Int) != 0)
 | .ref p=>(∃ xs,Aa K H p xs/\k = !xs.isEmpty)∨(∃ xs,Af K H p xs/\k = !xs.isEmpty)∨∃ kvs,H p=some (.dK kvs)/\k = !kvs.isEmpty
 | _=>False
theorem p5 {κ:Type} {kvs:List (κ × V)} {vs:List (κ × Value)} (r:KV kvs vs):(!vs.isEmpty) = !kvs.isEmpty:=by
 cases r<;>rfl
theorem jL {xs:List V}{Ab:List Value}(r:Vals xs Ab):(!Ab.toArray.isEmpty) = !xs.isEmpty:=by
 cases r<;>simp
theorem jG:(sizeLine:Nat) < 2 ^ 63:=by rw[sizeLine_eq];decide
theorem xX:QB X (fun x H Q=>∃ k,Kp X.K x H k/\Q k H):=by
 intro pins s σ H x v Q I rx h
 obtain⟨k,e,q⟩:=h
 have hl:=jG
 have hs:sizeLine=16777216:=sizeLine_eq
 cases x with
 | An =>
  cases rx
  have e':k=false:=e
  subst e'
  exact truthy_none ⟨H,I,q⟩
 | bl b =>
  cases rx
  have e':k=b:=e
  subst e'
  exact wpAny_truthy_bool ⟨H,I,q⟩
 | int i =>
  obtain⟨t,rfl⟩:=rx
  have e':k=(i != 0):=e
  subst e'
  exact PySem.P.truthy_int ⟨H,I,q⟩
 | str y =>
  obtain⟨t,rfl⟩:=rx
  obtain⟨hy,e'⟩:y.length <= sizeLine/\k=((y.length:Int) != 0):=e
  subst e'
  exact PySem.P.truthy_str (by omega) ⟨H,I.tok _,q⟩
 | DN y =>
  obtain⟨t,rfl⟩:=rx
  obtain⟨hy,e'⟩:y.size <= sizeLine/\k=((y.size:Int) != 0):=e
  subst e'
  exact PySem.W.truthy_bytes (by omega) ⟨H,I.tok _,q⟩
 | ref p =>
  cases rx
  have e':(∃ xs,Aa X.K H p xs/\k = !xs.isEmpty)∨(∃ xs,Af X.K H p xs/\k = !xs.isEmpty)∨∃ kvs,H p=some (.dK kvs)/\k = !kvs.isEmpty:=e
  rcases e' with ⟨xs,hx,e'⟩ | ⟨xs,hx,e'⟩ | ⟨kvs,hx,e'⟩
  ·subst e'
   obtain⟨Ab,r,pl,hz⟩:=I.list hx
   have hlen:=r.length
   exact wpAny_truthy_list pl.isList (by simp only[size_toArray];omega) ⟨H,I.tok _,by rw[jL r];exact q⟩
  ·subst e'
   obtain⟨Ab,r,pl,hz⟩:=I.tuple hx
   have hlen:=r.length
   exact truthy_tuple pl (by simp only[size_toArray];omega) ⟨H,I.tok _,by rw[jL r];exact q⟩
  ·subst e'
   obtain⟨hz,hS,vs,r,m⟩:kvs.length <= sizeLine/\(p == sysModules)=false/\∃ vs,KV kvs vs/\s.heap.DictOf (aU X.prog X.w) p vs:=I.Ad p _ hx
   have hlen:kvs.length=vs.length:=Paired.length r
   exact wpAny_truthy_dict hS m (by omega) ⟨H,I.tok _,by rw[p5 r];exact q⟩
 | _=>exact(show False from e).elim
theorem j6 (ha:PE X a ta)(he:∀ whole,isTrue a X.env whole=(do let v ← whole;standAt a.pos;holding [v] (truthy v))) :
  PT X a (fun σ H Q=>ta σ H fun x H'=>∃ k,Kp X.K x H' k/\Q k H'):=by
 intro pins s σ H Q I h
 exact isTrue_plain (aS (ha pins s σ H _ I h) fun v s1 ⟨x,H1,I1,r1,q1⟩=>xX pins s1 σ H1 x v Q I1 r1 q1) (he _)
theorem ky {x:V}{us:List Value}(r:Vals [x] us):∃ u,us=[u]/\RelV x u:=by
 cases r with
 | cons r1 r2=>cases r2;exact⟨_,rfl,r1⟩
theorem vals2 {x y:V}{us:List Value}(r:Vals [x,y] us):∃ u w',us=[u,w']/\RelV x u/\RelV y w':=by
 cases r with
 | cons r1 r2 =>
  cases r2 with
  | cons r3 r4=>cases r4;exact⟨_,_,rfl,r1,r3⟩
theorem vq:eD X (.builtin "abs") (fun xs H Q=>∃ i,xs=[.int i]/\Q (.int (if i < 0 then -i else i)) H):=by
 intro pins s σ H xs us Q I r h
 obtain⟨i,rfl,q⟩:=h
 obtain⟨u,rfl,t,rfl⟩:=ky r
 exact call_abs_int fun u tk=>⟨.int (if i < 0 then -i else i),H,I.tok _,⟨_,rfl⟩,q⟩
theorem rY (hc:X.calm=true):eD X (.builtin "min") (fun xs H Q=>∃ i j,xs=[.int i, .int j]/\Q (.int (if j < i then j else i)) H):=by
 intro pins s σ H xs us Q I r h
 obtain⟨i,j,rfl,q⟩:=h
 obtain⟨u,w',rfl,⟨t,rfl⟩,⟨t',rfl⟩⟩:=vals2 r
 refine min_two_ints (I.ok.hd hc) fun h' tk k=>⟨_,H,I.kept k,?_,q⟩
 by_cases hj:j < i
 ·rw[if_pos hj,if_pos hj];exact⟨_,rfl⟩
 ·rw[if_neg hj,if_neg hj];exact⟨_,rfl⟩
end
end L2
namespace L2
open PySem PySem.Spec PyProof.Rows
structure D9 (h:Heap)(x dx C:Addr)(mA:Str->Option Value):Prop where
 obj:h.get? x=some (PySem.W.instObj C dx)
 ns:h.Ns1 dx mA
 ne:dx ≠ x
theorem rH {h:Heap}{dx:Addr}{mA:Str->Option Value}(n:h.Ns1 dx mA):∃ od,h.get? dx=some od/\∀ name,PySem.W.lookIn name od=some (mA name):=by
 obtain⟨o,es,ep,ho,hd,hk,_,hm⟩:=n
 refine⟨o,ho,fun name=>?_⟩
 have e:=hm name
 unfold nsFind findBy at e
 rw[← Array.find?_toList]at e
 unfold PySem.W.lookIn
 rw[hd]
 dsimp only
 split
 ·rename_i y q
  rw[q]at e
  exact congrArg some e
 ·rename_i q
  rw[q]at e
  have a:es.toList.any (·.refKey)=false:=by
   rw[List.any_eq_false]
   intro y hy
   obtain⟨z,t,QE⟩:=hk y (Array.mem_toList_iff.mp hy)
   simp[DictEntry.refKey,QE]
  have a':¬ es.toList.any (·.refKey)=true:=by rw[a];exact Bool.false_ne_true
  rw[if_neg a']
  exact congrArg some e
theorem D9.look {h:Heap}{x dx C:Addr}{mA:Str->Option Value}(I:D9 h x dx C mA):∃ od,PySem.W.InstAt h x (PySem.W.instObj C dx) C (some od)/\∀ name,PySem.W.lookIn name od=some (mA name) :=
 let ⟨od,ho,hl⟩:=rH I.ns
 ⟨od,⟨I.obj,rfl,rfl,ho⟩,hl⟩
section
variable {prog:Program}{w:World}{A:Around}{E:Value->Shared->Prop}{s:Shared}{K:Frag}{x dx C f:Addr}{mA:Str->Option Value}{name:Str}{v:Value}
theorem xc {expr:Bool}{Q:Value->Shared->Prop}(X:K.In s.heap)(I:D9 s.heap x dx C mA)(hg:plainGet K C name=true)(hh:hasDictIn K C=true)
  (ha:findIn K (.ref C) name=some none) (hv:mA name=some v) (Jq:PySem.W.handedIn v=true) (h:Q v { s with toks:=s.toks + 1 }) :
  wpAny (model prog w) A (getAttr (.ref x) name expr) Q E s:=by
 obtain⟨od,J,hl⟩:=I.look
 exact PySem.W.get_value X J (PySem.W.plainGet_of hg).1 (PySem.W.findObj_own hh ha rfl (by rw[hl,hv])) Jq h
theorem uZ {pl:Sem Bool}{Q:Value × List Value->Shared->Prop}(X:K.In s.heap)(I:D9 s.heap x dx C mA)(hg:plainGet K C name=true)
  (hf:findIn K (.ref C) name=some (some (.ref f))) (ht:isFn K (.ref f)=true) (hv:mA name=none) (h:Q (.ref f,[.ref x]) s) :
  wpAny (model prog w) A (getMethod (.ref x) name pl) Q E s:=by
 obtain⟨od,J,hl⟩:=I.look
 exact PySem.W.method_fn X J (PySem.W.plainGet_of hg).1 (PySem.W.plainGet_of hg).2 hf (beq_iff_eq.mp ht) (by show(PySem.W.lookIn name od).map (·.isSome)=some false;rw[hl,hv];rfl) h
theorem vM {ns:List Str}{Q:Unit->Shared->Prop}(X:K.In s.heap)(I:D9 s.heap x dx C mA)
  (hs:findIn K (.ref C) "__setattr__" = some (some (.builtin "object.__setattr__"))) (hp:plainOver K C=true) (ht:PySem.W.takerIn K C name=some none) (hh:hasDictIn K C=true)
  (hw:PySem.Within mA ns) (hsz:ns.length <= sizeLine)
  (h:∀ h',D9 h' x dx C (fun y=>if y=name then some v else mA y)->Heap.SameBut dx s.heap h'->Q () { s with heap:=h',toks:=s.toks + 2 }) :
  wpAny (model prog w) A (setAttr (.ref x) name v) Q E s:=by
 obtain⟨od,J,hl⟩:=I.look
 refine PySem.W.set_plain X J hs (PySem.W.osa_open (s:={ s with toks:=s.toks + 1 }) (r:=none) X J hp ht fun b=>?_)
 obtain⟨cd,hc,HJ⟩:=PySem.W.any_some hh
 have hx:s.heap.get? x=some ⟨.ref C,some dx, .plain,#[]⟩:=I.obj
 refine wpAny_bind (wpAny_pure (wpAny_bind (wpAny_bind (wpAny_loadPart hx (wpAny_bind (PySem.W.Looks.here (s:={ s with toks:=s.toks + 1 }) (PySem.W.looks_clsIn X hc) ?_))))))
 rw[HJ]
 refine wpAny_pure (a:=some dx) (wpAny_bind (wpAny_pure (wpAny_bind ?_)))
 refine wpAny_nsSet1 (s:={ s with toks:=s.toks + 1 }) I.ns fun h' Er D8=>?_
 obtain⟨oD,Wq,Wr,Kq,Kr,Ks⟩:=Er.count (PySem.Within.cons name v hw)
 refine wpAny_bind (wpAny_lookBehind Kq (by rw[Kr];exact pastItsLine_dict (le_trans Ks (by rw[length_cons];omega))) ?_)
 exact wpAny_pure (h _ ⟨(D8.2 _ (Ne.symm I.ne)).trans I.obj,Er,I.ne⟩ D8)
theorem uS {R:Result->Shared->Prop}{vs:List Value}{kw:List (Str × Value)}(X:K.In s.heap)(hm:makesIn K C=true)
  (hi:findIn K (.ref C) "__init__" = some (some (.ref f))) (hf:PySem.W.typeIn K (.ref f)=some (.type "function"))
  (h:codeAny (model prog w) (A.under (.builtin "type.__call__" ⟨.ref C :: vs,kw⟩)) (.call (.ref f) ⟨.ref (s.heap.objs.size + 1) :: vs,kw⟩) (PySem.W.InitBack (s.heap.objs.size + 1) R)
   { s with heap:=(s.heap.push PySem.W.emptyDict).push (PySem.W.instObj C s.heap.objs.size) }) :
  codeAny (model prog w) A (.call (.ref C) ⟨vs,kw⟩) R s:=by
 obtain⟨hh,g,d,t,os⟩:=s
 exact PySem.W.make_core (PySem.W.makes_of X hm) (PySem.W.looks_findIn X hi) (fun self=>PySem.W.bind_fn X self hf) (.inl rfl) h
end
noncomputable def aM (f:Str)(v:V):List (Str × V)->List (Str × V)
 | []=>[(f,v)]
 | (g,x) :: r=>if g=f then (g,v) :: r else (g,x) :: aM f v r
theorem fG (f g:Str)(v:V):∀ fs:List (Str × V),(aM f v fs).lookup g=if g=f then some v else fs.lookup g
 | []=>by
  show List.lookup g [(f,v)]=_
  by_cases h:g=f
  ·have hb:(g == f)=true:=beq_iff_eq.mpr h
   simp only[List.lookup,hb,if_pos h]
  ·have hb:(g == f)=false:=beq_eq_false_iff_ne.mpr h
   simp only[List.lookup,hb,if_neg h]
 | (k,x) :: r=>by
  have ih:=fG f g v r
  rw[show aM f v ((k,x) :: r)=(if k=f then (k,v) :: r else (k,x) :: aM f v r) from rfl]
  by_cases hk:k=f
  ·rw[if_pos hk]
   by_cases h:g=k
   ·have hb:(g == k)=true:=beq_iff_eq.mpr h
    simp only[List.lookup,hb,if_pos (h.trans hk)]
   ·have hb:(g == k)=false:=beq_eq_false_iff_ne.mpr h
    simp only[List.lookup,hb,if_neg (fun e:g=f=>h (e.trans hk.symm))]
  ·rw[if_neg hk]
   by_cases h:g=k
   ·have hb:(g == k)=true:=beq_iff_eq.mpr h
    simp only[List.lookup,hb,if_neg (fun e:g=f=>hk (h.symm.trans e))]
   ·have hb:(g == k)=false:=beq_eq_false_iff_ne.mpr h
    simp only[List.lookup,hb]
    exact ih
theorem iK (f:Str)(v:V):∀ fs:List (Str × V),f ∈ (aM f v fs).map (·.1)/\∀ g,g ∈ fs.map (·.1)->g ∈ (aM f v fs).map (·.1)
 | []=>⟨by simp[aM],fun g h=>by simp at h⟩
 | (k,x) :: r=>by
  obtain⟨i1,i2⟩:=iK f v r
  rw[show aM f v ((k,x) :: r)=(if k=f then (k,v) :: r else (k,x) :: aM f v r) from rfl]
  by_cases hk:k=f
  ·rw[if_pos hk]
   subst hk
   exact⟨by simp,fun g h=>by simpa using h⟩
  ·rw[if_neg hk]
   refine⟨?_,fun g h=>?_⟩
   ·rw[map_cons]
    exact mem_cons_of_mem _ i1
   ·rw[map_cons]at h ⊢
    rcases mem_cons.mp h with e | e
    ·exact mem_cons.mpr (.inl e)
    ·exact mem_cons_of_mem _ (i2 g e)
theorem iT (f:Str)(v:V):∀ fs:List (Str × V),(aM f v fs).length <= fs.length + 1
 | []=>by simp[aM]
 | (k,x) :: r=>by
  have ih:=iT f v r
  rw[show aM f v ((k,x) :: r)=(if k=f then (k,v) :: r else (k,x) :: aM f v r) from rfl]
  by_cases hk:k=f
  ·rw[if_pos hk,length_cons,length_cons];omega
  ·rw[if_neg hk,length_cons,length_cons];omega
theorem AW.some_of {v:V}{o:Option Value}(r:AW (some v) o):∃ u,o=some u/\RelV v u:=by
 cases o with
 | none=>exact(show False from r).elim
 | some u=>exact⟨u,rfl,r⟩
theorem AW.none_of {o:Option Value}(r:AW none o):o=none:=by
 cases o with
 | none=>rfl
 | some u=>exact(show False from r).elim
theorem rQ {v:V}{u:Value}(r:RelV v u):PySem.W.handedIn u=true:=by
 cases v with
 | An=>cases (show u=Value.none from r);rfl
 | bl b=>cases (show u=Value.bool b from r);rfl
 | int i=>obtain⟨t,e⟩:=(show ∃ t,u=Value.int i t from r);cases e;rfl
 | str x=>obtain⟨t,e⟩:=(show ∃ t,u=Value.str x t from r);cases e;rfl
 | DN b=>obtain⟨t,e⟩:=(show ∃ t,u=Value.bytes b t from r);cases e;rfl
 | HG b=>obtain⟨t,e⟩:=(show ∃ t,u=Value.float b t from r);cases e;rfl
 | ref a=>cases (show u=Value.ref a from r);rfl
 | ty n=>cases (show u=Value.type n from r);rfl
section
variable {P:Program}{w:World}{H H':Hp}{h h':Heap}{a C dx:Addr}{fs AH:List (Str × V)}
theorem jk (Ad:Bl P w H h)(e:H a=some (.ins C dx fs)):∃ mA,D9 h a dx C mA/\(∀ f,AW (fs.lookup f) (mA f))/\PySem.Within mA (fs.map (·.1))/\fs.length <= 1000/\H dx=some (.own a):=by
 obtain⟨d,z,ne,ob,mA,n,r,q⟩:=(show Ap P w H h a (.ins C dx fs) from Ad a _ e)
 exact⟨mA,⟨ob,n,ne⟩,r,q,z,d⟩
end
structure C6 (K:Frag)(C:Addr):Prop where
 pg:plainGet K C Str.empty=true
 hd:hasDictIn K C=true
 po:plainOver K C=true
 sa:findIn K (.ref C) "__setattr__" = some (some (.builtin "object.__setattr__"))
theorem C6.get {K:Frag}{C:Addr}(c:C6 K C)(f:Str):plainGet K C f=true:=c.pg
noncomputable def Ak (K:Frag)(C:Addr)(f:Str):Prop:=findIn K (.ref C) f=some none
theorem Ak.Kt {K:Frag}{C:Addr}{f:Str}(n:Ak K C f):PySem.W.takerIn K C f=some none:=by
 unfold PySem.W.takerIn
 rw[show findIn K (.ref C) f=some none from n]
 rfl
structure bz (K:Frag)(C:Addr)(m:Str)(f:Addr):Prop where
 at_:findIn K (.ref C) m=some (some (.ref f))
 fn:isFn K (.ref f)=true
 kp:keepIn K (.ref f)=true
section
variable {X:Cx}{pins:List (Addr × Obj)}{σ:St}{H:Hp}{s:Shared}{a C dx:Addr}{fs:List (Str × V)}{f:Str}{v:V}{A:Around}{E:Value->Shared->Prop}
theorem jN {b:Bool}{Q:Value->Shared->Prop}(I:Inv X pins σ H s)(e:H a=some (.ins C dx fs))(c:C6 X.K C)(n:Ak X.K C f)(l:fs.lookup f=some v)
  (h:∀ u s',Inv X pins σ H s'->RelV v u->Q u s'):wpAny (model X.prog X.w) A (getAttr (.ref a) f b) Q E s:=by
 obtain⟨mA,O,r,_,_,_⟩:=jk I.Ad e
 obtain⟨u,hu,ru⟩:=AW.some_of (v:=v) (o:=mA f) (by rw[← l];exact r f)
 exact xc I.Bd O (c.get f) c.hd n hu (rQ ru) (h u _ (I.tok _) ru)
theorem jM {m:Str}{g:Addr}{pl:Sem Bool}{Q:Value × List Value->Shared->Prop}(I:Inv X pins σ H s)(e:H a=some (.ins C dx fs))(c:C6 X.K C)(k:bz X.K C m g)(l:fs.lookup m=none)
  (h:Q (.ref g,[.ref a]) s):wpAny (model X.prog X.w) A (getMethod (.ref a) m pl) Q E s:=by
 obtain⟨mA,O,r,_,_,_⟩:=jk I.Ad e
 have hn:mA m=none:=AW.none_of (by rw[← l];exact r m)
 exact uZ I.Bd O (c.get m) k.at_ k.fn hn h
theorem jy {y:V}{u:Value}{Q:Unit->Shared->Prop}(I:Inv X pins σ H s)(e:H a=some (.ins C dx fs))(c:C6 X.K C)(n:Ak X.K C f)(hl:fs.length < 1000)(ry:RelV y u)
  (h:∀ s',Inv X pins σ (upd H a (.ins C dx (aM f y fs))) s'->Q () s'):wpAny (model X.prog X.w) A (setAttr (.ref a) f u) Q E s:=by
 obtain⟨mA,O,r,wi,_,ho⟩:=jk I.Ad e
 have hz:(fs.map (·.1)).length <= sizeLine:=by rw[length_map,sizeLine_eq];omega
 refine vM I.Bd O c.sa c.po n.Kt c.hd wi hz fun h' O' sb=>h _ ?_
 have hd:∃ o,h'.get? dx=some o:=let ⟨o,_,_,e',_⟩:=O'.ns; ⟨o,e'⟩
 refine I.write (x:=a) (e:=dx) (by rw[e];exact True.intro) (.inr ho) (fun b q hb z=>(sb.2 b hb).trans z) hd ?_
 refine⟨by rw[ae O.ne];exact ho,?_,O.ne,O'.obj,_,O'.ns,fun g=>?_,fun g hg=>?_⟩
 ·have:=iT f y fs;omega
 ·show AW ((aM f y fs).lookup g) (if g=f then some u else mA g)
  rw[fG]
  by_cases q:g=f
  ·rw[if_pos q,if_pos q];exact ry
  ·rw[if_neg q,if_neg q];exact r g
 ·by_cases q:g=f
  ·rw[q];exact(iK f y fs).1
  ·refine(iK f y fs).2 g (wi g fun z=>hg ?_)
   show(if g=f then some u else mA g)=none
   rw[if_neg q];exact z
theorem Inv.made (I:Inv X pins σ H s):Inv X pins σ (upd (upd H s.heap.objs.size (.own (s.heap.objs.size + 1))) (s.heap.objs.size + 1) (.ins C s.heap.objs.size []))
  { s with heap:=(s.heap.push PySem.W.emptyDict).push (PySem.W.instObj C s.heap.objs.size) }:=by
 have e1:(s.heap.push PySem.W.emptyDict).get? s.heap.objs.size=some PySem.W.emptyDict:=Heap.get?_push_size s.heap rfl
 have e2:((s.heap.push PySem.W.emptyDict).push (PySem.W.instObj C s.heap.objs.size)).get? (s.heap.objs.size + 1)=some (PySem.W.instObj C s.heap.objs.size):=by
  have:=Heap.get?_push_size (s.heap.push PySem.W.emptyDict) (o:=PySem.W.instObj C s.heap.objs.size) rfl
  rwa [size_push]at this
 have e3:(s.heap.push PySem.W.emptyDict).Ns s.heap.objs.size (fun _=>none):=⟨PySem.W.emptyDict,#[],_,e1,rfl,(fun e he=>absurd he (by simp)),fun _=>rfl⟩
 have I1:=I.laid (a:=s.heap.objs.size) (o := .own (s.heap.objs.size + 1)) (h':=s.heap.push PySem.W.emptyDict) (t':=s.toks) (fun b u q=>Heap.get?_push_of_some _ q) (le_refl _) ⟨_,e1⟩
 refine I1.laid (a:=s.heap.objs.size + 1) (o := .ins C s.heap.objs.size []) (t':=s.toks) (fun b u q=>Heap.get?_push_of_some _ q) (le_of_eq (size_push _ _)) ?_
 have ne:s.heap.objs.size ≠ s.heap.objs.size + 1:=ne_of_lt (lt_succ_self _)
 refine⟨by rw[ae ne,ac],zero_le _,ne,e2,fun _=>none,(Heap.Ns1.of_empty e3).at fun o q=>Heap.get?_push_of_some _ q,fun _=>True.intro,fun y hy=>absurd rfl hy⟩
theorem xo {prog:Program}{w:World}{env:Env}{e:Expr}{f:Str}{pos:Pos}{s:Shared}{Q:Value->Shared->Prop}(hb:attributeBase e f env (eval e env)=eval e env)
  (h:wpAny (model prog w) A (eval e env) (fun o s₁=>wpAny (model prog w) A (getAttr o f true) Q E s₁) E s):wpAny (model prog w) A (eval (.Attribute e f pos) env) Q E s :=
 Attribute_any_ h (by rw[arm_eval_Attribute,hb])
end
noncomputable def qX (K:Frag)(ta:TE)(f:Str):TE:=fun σ H Q=>ta σ H fun x H1=>∃ a C dx fs v,x = .ref a/\H1 a=some (.ins C dx fs)/\C6 K C/\Ak K C f/\fs.lookup f=some v/\Q v H1
noncomputable def QF (K:Frag)(ta tv:TE)(f:Str):TS:=fun D σ H=>tv σ H fun y H1=>ta σ H1 fun x H2=>∃ a C dx fs,x = .ref a/\H2 a=some (.ins C dx fs)/\C6 K C/\Ak K C f/\fs.length < 1000 /\
 D.nx σ (upd H2 a (.ins C dx (aM f y fs)))
noncomputable def QG (X:Cx)(op:Operator)(rd:V->V->Hp->VK->Prop):Prop :=
 ∀ (pins:List (Addr × Obj))(s:Shared)(σ:St)(H:Hp)(x y:V)(u v:Value)(Q:VK),Inv X pins σ H s->RelV x u->RelV y v->rd x y H Q->wpAny (model X.prog X.w) X.A (inplaceOp op u v) (EP X pins σ Q) X.xe s
noncomputable def vU (K:Frag)(ta tv:TE)(rd:V->V->Hp->VK->Prop)(f:Str):TS:=fun D σ H=>ta σ H fun x H1=>∃ a C dx fs v,x = .ref a/\H1 a=some (.ins C dx fs)/\C6 K C/\Ak K C f/\fs.lookup f=some v /\
 tv σ H1 fun y H2=>rd v y H2 fun z H3=>∃ DZ AH,H3 a=some (.ins C DZ AH)/\AH.length < 1000/\D.nx σ (upd H3 a (.ins C DZ (aM f z AH)))
section
variable {X:Cx}{o e value:Expr}{f:Str}{pos pos' Ea:Pos}{ta tv:TE}
theorem al (he:PE X e ta)(hb:attributeBase e f X.env (eval e X.env)=eval e X.env):PE X (.Attribute e f pos) (qX X.K ta f):=by
 intro pins s σ H Q I h
 refine xo hb (aS (he pins s σ H _ I h) fun u s1 Aj=>?_)
 obtain⟨x,H1,I1,rx,a,C,dx,fs,v,ex,ea,c,n,l,q⟩:=Aj
 subst ex
 obtain rfl:u=Value.ref a:=rx
 exact jN I1 ea c n l fun u' s2 I2 ru=>⟨v,H1,I2,ru,q⟩
theorem aR (ha:PE X o ta)(hv:PE X value tv)(hs:swapsWith value (some (.Attribute o f pos')) pos.line X.env=pure false):PS X (.Assign [.Attribute o f pos'] value pos) (QF X.K ta tv f):=by
 intro pins s σ H D I h
 refine plainObj_wpAny_Assign_Attribute (aS (hv pins s σ H _ I h) fun u s1 ⟨y,H1,I1,ry,q⟩=>aS (ha pins s1 σ H1 _ I1 q) fun ov s2 Aj=>?_) hs
 obtain⟨x,H2,I2,rx,a,C,dx,fs,ex,ea,c,n,l,q2⟩:=Aj
 subst ex
 obtain rfl:ov=Value.ref a:=rx
 exact jy I2 ea c n l ry fun s3 I3=>⟨σ,_,I3,q2⟩
theorem dU {op:Operator}{rd:V->V->Hp->VK->Prop}(ha:PE X o ta)(hv:PE X value tv)(Ku:QG X op rd):PS X (.AugAssign (.Attribute o f Ea) op value pos) (vU X.K ta tv rd f):=by
 intro pins s σ H D I h
 refine wpAny_AugAssign_AttributeAny (aS (ha pins s σ H _ I h) fun ov s1 Aj=>?_)
 obtain⟨x,H1,I1,rx,a,C,dx,fs,v,ex,ea,c,n,l,q⟩:=Aj
 subst ex
 obtain rfl:ov=Value.ref a:=rx
 refine jN I1 ea c n l fun u s2 I2 ru=>aS (hv pins s2 σ H1 _ I2 q) fun w3 s3 ⟨y,H2,I3,ry,q3⟩=>aS (Ku pins s3 σ H2 v y u w3 _ I3 ru ry q3) fun w4 s4 Aj=>?_
 obtain⟨z,H3,I4,rz,DZ,AH,ea',l',q4⟩:=Aj
 exact jy I4 ea' c n l' rz fun s5 I5=>⟨σ,_,I5,q4⟩
end
section
variable {X:Cx}{pins:List (Addr × Obj)}{σ:St}{H:Hp}{s:Shared}{A:Around}{E:Value->Shared->Prop}{Q:Value->Shared->Prop}{c:Value}{b:Bool}
inductive iO (K:Frag)(H:Hp):V->Value->Prop where
 | An:iO K H .An (.type "NoneType")
 | bl (x:Bool):iO K H (.bl x) (.type "bool")
 | int (i:Int):iO K H (.int i) (.type "int")
 | str (x:Str):iO K H (.str x) (.type "str")
 | HG (x:UInt64):iO K H (.HG x) (.type "float")
 | lst {a:Addr} {xs:List V} (e:H a=some (.lst xs)):iO K H (.ref a) (.type "list")
 | BK {a:Addr} {o:Obj} {xs:List V} (e:H a=some (.BK o (.lst xs))):iO K H (.ref a) (.type "list")
 | tup {a:Addr} {xs:List V} (e:H a=some (.tup xs)):iO K H (.ref a) (.type "tuple")
 | dK {a:Addr} {kvs:List (cb × V)} (e:H a=some (.dK kvs)):iO K H (.ref a) (.type "dict")
 | dT {a:Addr} {kvs:List (List cb × V)} (e:H a=some (.dT kvs)):iO K H (.ref a) (.type "dict")
 | ins {a C dx:Addr} {fs:List (Str × V)} (e:H a=some (.ins C dx fs)) (cl:C6 K C) (ha:findIn K (.ref C) "__class__" = some (some (.builtin "object.__class__")))
   (hn:PySem.W.specialIn K (.builtin "object.__class__") "__get__" = some (some (.builtin "getset_descriptor.__get__"))) (Ws:PySem.W.takesIn K (.builtin "object.__class__")=some true)
   (hm:PySem.W.mroIn K C (.type "object")=some true):iO K H (.ref a) (.ref C)
theorem rM {x:V}{u t:Value}(I:Inv X pins σ H s)(rx:RelV x u)(ty:iO X.K H x t)(e:kitOne X.K t c=some b)(h:∀ tk,Q (.bool b) { s with toks:=tk }) :
  wpAny (model X.prog X.w) A (call (.builtin "isinstance") [u,c]) Q E s:=by
 cases ty with
 | An=>cases (show u=Value.none from rx);exact PySem.W.kia_one PySem.W.kitx_none I.Bd True.intro e (fun z=>nomatch z) h
 | bl y=>cases (show u=Value.bool y from rx);exact PySem.W.kia_one PySem.W.kitx_bool I.Bd True.intro e (fun z=>nomatch z) h
 | int i=>obtain⟨t,q⟩:=(show ∃ t,u=Value.int i t from rx);cases q;exact PySem.W.kia_one PySem.W.kitx_int I.Bd True.intro e (fun z=>nomatch z) h
 | str y=>obtain⟨t,q⟩:=(show ∃ t,u=Value.str y t from rx);cases q;exact PySem.W.kia_one PySem.W.kitx_str I.Bd True.intro e (fun z=>nomatch z) h
 | HG y=>obtain⟨t,q⟩:=(show ∃ t,u=Value.float y t from rx);cases q;exact PySem.W.kia_one PySem.W.kitx_float I.Bd True.intro e (fun z=>nomatch z) h
 | @lst a xs ea =>
  cases (show u=Value.ref a from rx)
  obtain⟨_,_,n,_,h1⟩:=(show Ap X.prog X.w H s.heap a (.lst xs) from I.Ad a _ ea)
  exact PySem.W.kia_one PySem.W.kitx_list I.Bd ⟨_,h1,rfl⟩ e (fun z=>nomatch z) h
 | @BK a ob xs ea =>
  cases (show u=Value.ref a from rx)
  obtain⟨_,_,_,n,_,h1⟩:=(show Ap X.prog X.w H s.heap a (.BK ob (.lst xs)) from I.Ad a _ ea)
  exact PySem.W.kia_one PySem.W.kitx_list I.Bd ⟨_,h1,rfl⟩ e (fun z=>nomatch z) h
 | @tup a xs ea =>
  cases (show u=Value.ref a from rx)
  obtain⟨_,_,_,p⟩:=(show Ap X.prog X.w H s.heap a (.tup xs) from I.Ad a _ ea)
  obtain⟨o,h1,⟨h2,_⟩,_⟩:=p
  exact PySem.W.kia_one PySem.W.kitx_tuple I.Bd ⟨o,h1,h2⟩ e (fun z=>nomatch z) h
 | @dK a kvs ea =>
  cases (show u=Value.ref a from rx)
  obtain⟨_,_,vs,_,p⟩:=(show Ap X.prog X.w H s.heap a (.dK kvs) from I.Ad a _ ea)
  obtain⟨o,es,ep,h1,h2,_⟩:=p
  exact PySem.W.kia_one PySem.W.kitx_dict I.Bd ⟨o,h1,h2.1⟩ e (fun z=>nomatch z) h
 | @dT a kvs ea =>
  cases (show u=Value.ref a from rx)
  obtain⟨_,_,xs,_,o,es,ep,h1,h2,_⟩:=(show Ap X.prog X.w H s.heap a (.dT kvs) from I.Ad a _ ea)
  exact PySem.W.kia_one PySem.W.kitx_dict I.Bd ⟨o,h1,h2.1⟩ e (fun z=>nomatch z) h
 | @ins a C dx fs ea cl ha hn Ws hm =>
  cases (show u=Value.ref a from rx)
  obtain⟨mA,O,_⟩:=jk I.Ad ea
  obtain⟨od,J,_⟩:=O.look
  exact PySem.W.kia_one (PySem.W.kitx_own (cl.get _) cl.hd ha hn Ws hm) I.Bd J e (fun z=>nomatch z) h
end
end L2
namespace L2
open PySem PySem.Spec PyProof.Rows
structure Ah (k:Nat)(A:Around):Prop where
 hd:A.handled=none
 dp:A.depth + 3 * k + 5 < recursionLimit
 un:A.units + 16 * k + 200 < cLine
theorem Ah.mono {j k:Nat}{A:Around}(r:Ah k A)(h:j <= k):Ah j A:=⟨r.hd,by have:=r.dp;omega,by have:=r.un;omega⟩
theorem Ah.deeper {k:Nat}{A:Around}(r:Ah (k + 1) A)(env:Env):Ah k (A.deeper env) :=
 ⟨r.hd,by have:=r.dp;show A.depth + 1 + 3 * k + 5 < _;omega,by have:=r.un;show A.units + 3 + 16 * k + 200 < _;omega⟩
theorem pi {A:Around}{C:Addr}{us:List Value}{kw:List (Str × Value)}:(A.under (.builtin "type.__call__" ⟨.ref C :: us,kw⟩)).depth=A.depth + 1:=by
 first | rfl | simp[Around.under,Code.weight,Code.isCreation,Code.isGuard,Code.isCaller,Code.frames,Code.isFrame,guardIds]
theorem pf {A:Around}{C:Addr}{us:List Value}{kw:List (Str × Value)}:(A.under (.builtin "type.__call__" ⟨.ref C :: us,kw⟩)).units=A.units + 1:=by
 first | rfl | simp[Around.under,Code.cUnits,Code.frames,Code.isFrame]
theorem Ah.make {k:Nat}{A:Around}(r:Ah (k + 1) A)(C:Addr)(us:List Value)(kw:List (Str × Value)):Ah k (A.under (.builtin "type.__call__" ⟨.ref C :: us,kw⟩)) :=
 ⟨r.hd,by have:=r.dp;rw[pi];omega,by have:=r.un;rw[pf];omega⟩
theorem Ah.depth {k:Nat}{A:Around}(r:Ah k A):A.depth < recursionLimit:=by have:=r.dp;omega
theorem Ah.units {k:Nat}{A:Around}(r:Ah k A):A.units + 64 < cLine:=by have:=r.un;omega
noncomputable def Kv:TA:=fun _ H Q=>Q [] H
noncomputable def Kw (ta:TE)(tr:TA):TA:=fun σ H Q=>ta σ H fun x H1=>tr σ H1 fun xs H2=>Q (x :: xs) H2
section
variable {X:Cx}{e:Expr}{es:List Expr}{te:TE}{t:TA}{pos:Pos}
theorem ad:PA X [] Kv:=fun _ _ _ _ H Q I h=>Calls.spliced_nil ⟨[],H,I, .nil,h⟩
theorem aa (ha:PE X e te)(hr:PA X es t)(hs:starEach (e :: es) X.env=(false,eval e X.env) :: starEach es X.env:=by rfl):PA X (e :: es) (Kw te t):=by
 intro pos pins s σ H Q I h
 rw[hs]
 show wpAny _ _ (spliced ((false,eval e X.env) :: backTo pos (starEach es X.env))) _ _ s
 refine Calls.spliced_cons (aS (ha pins s σ H _ I h) fun u s1 Aj=>?_)
 obtain⟨x,H1,I1,r1,q1⟩:=Aj
 exact aS (hr pos pins s1 σ H1 _ I1 q1) fun us s2 ⟨xs,H2,I2,r2,q2⟩=>⟨x :: xs,H2,I2, .cons r1 r2,q2⟩
noncomputable def QH (t:TA):TE:=fun σ H Q=>t σ H fun xs H1=>xs.length <= sizeLine/\∀ p,H1 p=none->Q (.ref p) (upd H1 p (.tup xs))
noncomputable def QI (t:TA):TE:=fun σ H Q=>t σ H fun xs H1=>xs.length <= sizeLine/\∀ p,H1 p=none->Q (.ref p) (upd H1 p (.lst xs))
theorem bH {x1} (h:PA X es t):PE X (.Tuple es x1 pos) (QH t):=by
 intro pins s σ H Q I hq
 refine wpAny_Tuple_spliced (aS (h pos pins s σ H _ I hq) fun us s1 ⟨xs,H1,I1,r,z,q⟩=>⟨by rw[← r.length];exact z,?_⟩)
 have hf:H1 s1.heap.objs.size=none:=I1.Ad.fresh (le_refl _)
 refine⟨.ref s1.heap.objs.size,upd H1 s1.heap.objs.size (.tup xs),I1.laid (t':=s1.toks) (fun b u e=>Heap.get?_push_of_some _ e) (le_refl _) ?_,rfl,q _ hf⟩
 exact⟨z,us,r,⟨_,Heap.get?_push_size _ rfl,⟨rfl,_,rfl⟩,rfl⟩⟩
theorem aV (h:PA X es t):PE X (.List es pos) (QI t):=by
 intro pins s σ H Q I hq
 refine wpAny_List_spliced (aS (h pos pins s σ H _ I hq) fun us s1 ⟨xs,H1,I1,r,z,q⟩=>⟨by rw[← r.length];exact z,?_⟩)
 have hf:H1 s1.heap.objs.size=none:=I1.Ad.fresh (le_refl _)
 refine⟨.ref s1.heap.objs.size,upd H1 s1.heap.objs.size (.lst xs),I1.laid (t':=s1.toks) (fun b u e=>Heap.get?_push_of_some _ e) (le_refl _) ?_,rfl,q _ hf⟩
 exact⟨z,us,0,r,Heap.get?_push_size _ rfl⟩
end
noncomputable abbrev Sp:=List V->Hp->VK->XK->Prop
noncomputable abbrev pI:=List Env->Hp->Shared->XK->Value->Shared->Prop
structure DA (P:Program)(w:World)(K:Frag)(mg:Str->Option Value)(base:Heap)(A:Around)(outer:List Env)(s:Shared)(H:Hp):Prop where
 frames:A.frames=some outer
 mod:Mod K mg base
 bs:∀ b o,base.get? b=some o->s.heap.get? b=some o/\H b=none
 Fw:base.objs.size <= s.heap.objs.size
 BV:s.heap.FunFrames base outer
 HI:∀ b ∈ lP outer,H b=none
 Ad:Bl P w H s.heap
 bare:AllBare s.gens
noncomputable def CE (outer:List Env)(P:Program)(w:World)(H:Hp)(s:Shared)(Q:VK)(u:Value)(s':Shared):Prop :=
 ∃ v H',s'.os=s.os/\AllBare s'.gens/\Un (lP outer) [] H H' s.heap s'.heap/\Bl P w H' s'.heap/\RelV v u/\Q v H'
noncomputable def CR (CX:pI)(outer:List Env)(P:Program)(w:World)(H:Hp)(s:Shared)(Q:VK)(E:XK)(r:Result)(s':Shared):Prop :=
 match r with
 | .ok (.ret u)=>CE outer P w H s Q u s'
 | .ok _=>False
 | .error e=>CX outer H s E e s'
structure zX (P:Program)(w:World)(K:Frag)(mg:Str->Option Value)(base:Heap)(CX:pI)(k:Nat)(f:Addr)(fd:FuncData)(ps:List Str)(sp:Sp):Prop where
 len:∀ vs H Q E,sp vs H Q E->vs.length=ps.length
 run:∀ (A:Around)(outer:List Env)(s:Shared)(H:Hp)(args:Args)(us:List Value)(vs:List V)(Q:VK)(E:XK),Ah k A->DA P w K mg base A outer s H->BindsTo s fd args (ps.zip us)->Vals vs us->sp vs H Q E ->
  codeAny (model P w) A (.call (.ref f) args) (CR CX outer P w H s Q E) s
theorem zX.imp {P:Program}{w:World}{K:Frag}{mg:Str->Option Value}{base:Heap}{CX:pI}{k:Nat}{f:Addr}{fd:FuncData}{ps:List Str}{sp Wt:Sp}(F:zX P w K mg base CX k f fd ps sp)
  (h:∀ vs H Q E,Wt vs H Q E->sp vs H Q E):zX P w K mg base CX k f fd ps Wt :=
 ⟨fun vs H Q E q=>F.len vs H Q E (h _ _ _ _ q),fun A outer s H args us vs Q E hr he hb hv hs=>F.run A outer s H args us vs Q E hr he hb hv (h _ _ _ _ hs)⟩
theorem DA.make {P:Program}{w:World}{K:Frag}{mg:Str->Option Value}{base:Heap}{A:Around}{outer:List Env}{s:Shared}{H:Hp}(e:DA P w K mg base A outer s H)(C:Addr)(us:List Value)(kw:List (Str × Value)) :
  DA P w K mg base (A.under (.builtin "type.__call__" ⟨.ref C :: us,kw⟩)) outer s H:=⟨by first | exact e.frames | (simpa [Around.under,Code.envs,Code.isFrame,pushEnvs] using e.frames),e.mod,e.bs,e.Fw,e.BV,e.HI,e.Ad,e.bare⟩
section
variable {X:Cx}{pins:List (Addr × Obj)}{σ:St}{H:Hp}{s s':Shared}
theorem Inv.HL (I:Inv X pins σ H s):DA X.prog X.w X.K X.mg X.base X.A X.stack s H :=
 ⟨I.ok.frames,I.ok.mod,I.bs,le_trans I.ok.Fw I.sz,I.stack,I.CF,I.Ad,I.bare⟩
theorem Inv.after {Q:VK}{u:Value}(I:Inv X pins σ H s)(h:CE X.stack X.prog X.w H s Q u s'):EP X pins σ Q u s':=by
 obtain⟨v,H',os,bare,un,Ad,r,q⟩:=h
 obtain⟨hh,g,d,t,os'⟩:=s'
 obtain rfl:os' = s.os:=os
 exact⟨v,H',I.call (h':=hh) (g':=g) (d':=d) (t':=t) (ch:=[]) un Ad bare (fun b z=>absurd z (by simp)),r,q⟩
end
noncomputable def Kx (sp:Sp)(AL:List V)(E:XK)(t:TA):TE:=fun σ H Q=>t σ H fun vs H1=>sp (vs ++ AL) H1 Q E
noncomputable def xz (C:Addr)(m:Str)(sp:Sp)(AL:List V)(E:XK)(ta:TE)(t:TA):TE:=fun σ H Q=>ta σ H fun x H1=>∃ a dx fs,x = .ref a/\H1 a=some (.ins C dx fs)/\fs.lookup m=none /\
 t σ H1 fun vs H2=>sp (x :: (vs ++ AL)) H2 Q E
noncomputable def Ky (C:Addr)(sp:Sp)(AL:List V)(E:XK)(t:TA):TE:=fun σ H Q=>t σ H fun vs H1=>∀ x dx,H1 x=none->H1 dx=none->dx ≠ x ->
 sp (.ref x :: (vs ++ AL)) (upd (upd H1 dx (.own x)) x (.ins C dx [])) (fun v H2=>v = .An/\Q (.ref x) H2) E
noncomputable def Binds (K:Frag)(fd:FuncData)(ps:List Str)(ds:List Value):Prop :=
 ∀ (s:Shared)(us:List Value),K.In s.heap->(us ++ ds).length=ps.length->BindsTo s fd ⟨us,[]⟩ (ps.zip (us ++ ds))
theorem Binds.all {K:Frag}{fd:FuncData}{ps:List Str}(h:∀ us:List Value,us.length=ps.length->bindArgs fd ⟨us,[]⟩ = pure (ps.zip us)):Binds K fd ps []:=fun s us _ hl=>by
 rw[append_nil]at hl ⊢
 exact .of_eq (h us hl)
noncomputable def dP (CX:pI)(X:Cx)(E:XK):Prop:=∀ (pins:List (Addr × Obj))(σ:St)(H:Hp)(s:Shared)(e:Value)(s':Shared),Inv X pins σ H s->CX X.stack H s E e s'->X.xe e s'
section
variable {X:Cx}{CX:pI}{k:Nat}{f C:Addr}{fd:FuncData}{ps:List Str}{sp:Sp}{AL:List V}{ds:List Value}{E:XK}{x m:Str}{p pos apos:Pos}{e o:Expr}{es:List Expr}{ta:TE}{t:TA}
theorem ly {pins:List (Addr × Obj)}{σ:St}{H:Hp}{s:Shared}{Q:VK}{us:List Value}{vs:List V}(F:zX X.prog X.w X.K X.mg X.base CX k f fd ps sp)(hr:Ah k X.A)(hb:Binds X.K fd ps ds)(hd:Vals AL ds)(hx:dP CX X E)
  (I:Inv X pins σ H s) (r:Vals vs us) (h:sp (vs ++ AL) H Q E):wpAny (model X.prog X.w) X.A (call (.ref f) us) (EP X pins σ Q) X.xe s:=by
 have r2:Vals (vs ++ AL) (us ++ ds):=r.append hd
 have hl:(us ++ ds).length=ps.length:=by rw[← r2.length];exact F.len _ _ _ _ h
 refine wpAny_call (codeAny_mono (F.run X.A X.stack s H ⟨us,[]⟩ (us ++ ds) (vs ++ AL) Q E hr I.HL (hb s us I.Bd hl) r2 h) fun r s' hq=>?_)
 cases r with
 | error e=>exact hx pins σ H s e s' I hq
 | ok fl =>
  cases fl with
  | ret u=>exact I.after hq
  | next=>exact False.elim hq
  | brk=>exact False.elim hq
  | cont=>exact False.elim hq
theorem aq (F:zX X.prog X.w X.K X.mg X.base CX k f fd ps sp)(hr:Ah k X.A)(hg:Gl X x)(hm:X.mg x=some (.ref f))(hk:keepIn X.K (.ref f)=true)(hb:Binds X.K fd ps ds)(hd:Vals AL ds)(hx:dP CX X E)
  (ha:PA X (e :: es) t) (EA:(x == ("__debug__":Str))=false:=by decide) (he:starEach (e :: es) X.env=(false,eval e X.env) :: starEach es X.env:=by rfl) (BL:(backTo pos (starEach es X.env)).any (·.1)=false:=by rfl) :
  PE X (.Call (.Name x p) (e :: es) [] pos) (Kx sp AL E t):=by
 intro pins s σ H Q I h
 refine wpAny_Call_Name_kw (iy I hg hm ?_ EA)
 refine PySem.W.callWith_K (h₀:=X.base) I.ok.mod.Eo hk (aS (ha pos pins s σ H _ I h) fun us s1 ⟨vs,H1,I1,r,q⟩=>⟨I1.Bd,?_⟩) he BL
 exact ly F hr hb hd hx I1 r q
theorem aA {pl:Sem Bool}(he:PE X o ta)(c:C6 X.K C)(hm:bz X.K C m f)(F:zX X.prog X.w X.K X.mg X.base CX k f fd ps sp)(hr:Ah k X.A)(hb:Binds X.K fd ps ds)(hd:Vals AL ds)(hx:dP CX X E)(ha:PA X (e :: es) t)
  (Du:starEach (e :: es) X.env=(false,eval e X.env) :: starEach es X.env:=by rfl) (BL:(backTo pos (starEach es X.env)).any (·.1)=false:=by rfl)
  (ht:eval (.Call (.Attribute o m apos) (e :: es) [] pos) X.env=(do
   let ov ← eval o X.env
   standAt apos.atName
   let (f,first) ← holding [ov] (getMethod ov m pl)
   callWith pos f first (backTo pos (starEach (e :: es) X.env)) (backToKw pos (keywordEach [] X.env))):=by rfl) :
  PE X (.Call (.Attribute o m apos) (e :: es) [] pos) (xz C m sp AL E ta t):=by
 intro pins s σ H Q I h
 refine PySem.W.methodCall_KW (pl:=pl) (aS (he pins s σ H _ I h) fun u s1 Aj=>?_) ht
 obtain⟨x,H1,I1,rx,a,dx,fs,ex,ea,l,q⟩:=Aj
 subst ex
 obtain rfl:u=Value.ref a:=rx
 refine jM I1 ea c hm l ?_
 refine PySem.W.callWith_K (first:=[.ref a]) (h₀:=X.base) I.ok.mod.Eo hm.kp (aS (ha pos pins s1 σ H1 _ I1 q) fun us s2 ⟨vs,H2,I2,r,q2⟩=>⟨I2.Bd,?_⟩) Du BL
 exact ly (us := .ref a :: us) (vs := .ref a :: vs) F hr hb hd hx I2 (.cons rfl r) q2
theorem aT {pl:Sem Bool}(he:PE X o ta)(c:C6 X.K C)(hm:bz X.K C m f)(F:zX X.prog X.w X.K X.mg X.base CX k f fd ps sp)(hr:Ah k X.A)(hb:Binds X.K fd ps ds)(hd:Vals AL ds)(hx:dP CX X E)
  (ht:eval (.Call (.Attribute o m apos) [] [] pos) X.env=(do
   let ov ← eval o X.env
   standAt apos.atName
   let (f,first) ← holding [ov] (getMethod ov m pl)
   callWith pos f first (backTo pos (starEach [] X.env)) (backToKw pos (keywordEach [] X.env))):=by rfl) :
  PE X (.Call (.Attribute o m apos) [] [] pos) (xz C m sp AL E ta Kv):=by
 intro pins s σ H Q I h
 refine PySem.W.methodCall_KW (pl:=pl) (aS (he pins s σ H _ I h) fun u s1 Aj=>?_) ht
 obtain⟨x,H1,I1,rx,a,dx,fs,ex,ea,l,q⟩:=Aj
 subst ex
 obtain rfl:u=Value.ref a:=rx
 refine jM I1 ea c hm l ?_
 exact PySem.W.callWith_K0 (first:=[.ref a]) I1.Bd hm.kp (ly (us:=[.ref a]) (vs:=[.ref a]) F hr hb hd hx I1 (.cons rfl .nil) q)
structure Mk (K:Frag)(C f:Addr):Prop where
 makes:makesIn K C=true
 init:findIn K (.ref C) "__init__" = some (some (.ref f))
 fn:isFn K (.ref f)=true
 kp:keepIn K (.ref C)=true
theorem tW {pins:List (Addr × Obj)}{σ:St}{H:Hp}{s:Shared}{Q:VK}{us:List Value}{vs:List V}(M:Mk X.K C f)(F:zX X.prog X.w X.K X.mg X.base CX k f fd ps sp)(hr:Ah (k + 1) X.A)(hb:Binds X.K fd ps ds)(hd:Vals AL ds)
  (hx:dP CX X E) (I:Inv X pins σ H s) (r:Vals vs us)
  (h:∀ x dx,H x=none->H dx=none->dx ≠ x->sp (.ref x :: (vs ++ AL)) (upd (upd H dx (.own x)) x (.ins C dx [])) (fun v H2=>v = .An/\Q (.ref x) H2) E) :
  wpAny (model X.prog X.w) X.A (call (.ref C) us) (EP X pins σ Q) X.xe s:=by
 have hq:=h (s.heap.objs.size + 1) s.heap.objs.size (I.Ad.fresh (le_succ _)) (I.Ad.fresh (le_refl _)) (ne_of_lt (lt_succ_self _))
 have I2:=Inv.made (C:=C) I
 have r2:Vals (V.ref (s.heap.objs.size + 1) :: (vs ++ AL)) (Value.ref (s.heap.objs.size + 1) :: (us ++ ds)) := .cons rfl (r.append hd)
 have hl:(Value.ref (s.heap.objs.size + 1) :: us ++ ds).length=ps.length:=by
  have e:=r2.length
  rw[F.len _ _ _ _ hq]at e
  exact e.symm
 refine wpAny_call (uS (f:=f) I.Bd M.makes M.init (beq_iff_eq.mp M.fn) (codeAny_mono (F.run _ X.stack _ _ ⟨Value.ref (s.heap.objs.size + 1) :: us,[]⟩ (Value.ref (s.heap.objs.size + 1) :: (us ++ ds)) _ _ E (hr.make C us [])
  (I2.HL.make C us []) (hb _ (Value.ref (s.heap.objs.size + 1) :: us) I2.Bd hl) r2 hq) fun r s' CG=>?_))
 cases r with
 | error e=>exact hx pins σ _ _ e s' I2 CG
 | ok fl =>
  cases fl with
  | ret u =>
   obtain⟨v,H',I3,rv,ev,q3⟩:=I2.after CG
   subst ev
   exact⟨rv,⟨V.ref (s.heap.objs.size + 1),H',I3,rfl,q3⟩⟩
  | next=>exact False.elim CG
  | brk=>exact False.elim CG
  | cont=>exact False.elim CG
theorem c8 (M:Mk X.K C f)(F:zX X.prog X.w X.K X.mg X.base CX k f fd ps sp)(hr:Ah (k + 1) X.A)(hg:Gl X x)(hm:X.mg x=some (.ref C))(hb:Binds X.K fd ps ds)(hd:Vals AL ds)(hx:dP CX X E)
  (ha:PA X (e :: es) t) (EA:(x == ("__debug__":Str))=false:=by decide) (he:starEach (e :: es) X.env=(false,eval e X.env) :: starEach es X.env:=by rfl) (BL:(backTo pos (starEach es X.env)).any (·.1)=false:=by rfl) :
  PE X (.Call (.Name x p) (e :: es) [] pos) (Ky C sp AL E t):=by
 intro pins s σ H Q I h
 refine wpAny_Call_Name_kw (iy I hg hm ?_ EA)
 refine PySem.W.callWith_K (h₀:=X.base) I.ok.mod.Eo M.kp (aS (ha pos pins s σ H _ I h) fun us s1 ⟨vs,H1,I1,r,q⟩=>⟨I1.Bd,?_⟩) he BL
 exact tW M F hr hb hd hx I1 r q
end
section
variable {X:Cx}{CX:pI}{k:Nat}{f C:Addr}{fd:FuncData}{ps ks:List Str}{sp:Sp}{E:XK}{x m:Str}{p pos apos kpos:Pos}{e o:Expr}{es:List Expr}{kws:List Keyword}{te ta:TE}{t tk:TA}{nm:Option Str}
variable {g:List Value->List Value->List Value}{gV:List V->List V->List V}
end
structure ao (N P:List Str)(sc:Scope):Prop where
 kind:sc.kind = .function
 co:sc.isCoroutine=false
 gen:sc.isGenerator=false
 nd:N.Nodup
 pre:N.take P.length=P
 par:∀ x ∈ P,sc.names.lookup x=some .local∨sc.names.lookup x=some .cell
 HM:∀ y ∈ sc.names,y.2 ≠ .free
theorem kW {kindOf:Str->Option NameKind}{x:Str}:∀ {binds:List (Str × Value)}{m:Str->Option Value},(∀ v,(x,v) ∉ binds)->bindL kindOf binds m x=m x
 | [],_,_=>rfl
 | (n,v) :: r,m,h=>by
  unfold bindL
  rw[kW fun w hw=>h w (mem_cons_of_mem _ hw)]
  split
  ·have:x ≠ n:=by rintro rfl;exact h v mem_cons_self
   simp[this]
  ·rfl
theorem kY {kindOf:Str->Option NameKind}{x:Str}:∀ {binds:List (Str × Value)}{m:Str->Option Value},(∀ v,(x,v) ∉ binds)->bindC kindOf binds m x=m x
 | [],_,_=>rfl
 | (n,v) :: r,m,h=>by
  unfold bindC
  rw[kY fun w hw=>h w (mem_cons_of_mem _ hw)]
  split
  ·rfl
  ·have:x ≠ n:=by rintro rfl;exact h v mem_cons_self
   simp[this]
theorem kX {kindOf:Str->Option NameKind}{x:Str}{v:Value}:∀ {P:List Str}{vs:List Value}{i:Nat}{m:Str->Option Value},P.Nodup->P[i]? = some x->vs[i]? = some v->kindOf x=some .local ->
  bindL kindOf (P.zip vs) m x=some v
 | [],_,_,_,_,h,_,_=>by simp at h
 | _ :: _,[],_,_,_,_,h,_=>by simp at h
 | p :: P,w :: vs,0,m,nd,h1,h2,hk=>by
  simp at h1 h2;subst h1;subst h2
  show bindL kindOf ((p,w) :: P.zip vs) m p=_
  unfold bindL
  rw[kW fun v hv=>(nodup_cons.mp nd).1 (of_mem_zip hv).1,if_pos hk]
  simp
 | p :: P,w :: vs,i + 1,m,nd,h1,h2,hk=>by
  show bindL kindOf ((p,w) :: P.zip vs) m x=_
  unfold bindL
  exact kX (i:=i) (nodup_cons.mp nd).2 (by simpa using h1) (by simpa using h2) hk
theorem kZ {kindOf:Str->Option NameKind}{x:Str}{v:Value}:∀ {P:List Str}{vs:List Value}{i:Nat}{m:Str->Option Value},P.Nodup->P[i]? = some x->vs[i]? = some v->kindOf x ≠ some .local ->
  bindC kindOf (P.zip vs) m x=some v
 | [],_,_,_,_,h,_,_=>by simp at h
 | _ :: _,[],_,_,_,_,h,_=>by simp at h
 | p :: P,w :: vs,0,m,nd,h1,h2,hk=>by
  simp at h1 h2;subst h1;subst h2
  show bindC kindOf ((p,w) :: P.zip vs) m p=_
  unfold bindC
  rw[kY fun v hv=>(nodup_cons.mp nd).1 (of_mem_zip hv).1,if_neg hk]
  simp
 | p :: P,w :: vs,i + 1,m,nd,h1,h2,hk=>by
  show bindC kindOf ((p,w) :: P.zip vs) m x=_
  unfold bindC
  exact kZ (i:=i) (nodup_cons.mp nd).2 (by simpa using h1) (by simpa using h2) hk
noncomputable def start (N:List Str)(vs:List V):St:=vs.map some ++ List.replicate (N.length - vs.length) none
noncomputable def iZ (CX:pI)(P:Program)(w:World)(K:Frag)(mg:Str->Option Value)(base:Heap)(N:List Str)(qual:Str)(scope:Scope)(f:Addr)(cd:Value)(A:Around)(outer:List Env)(s:Shared)(H:Hp)(E:XK):Cx where
 prog:=P
 w:=w
 K:=K
 mg:=mg
 base:=base
 A:=A.deeper (envOfC qual scope s.heap.objs.size f cd)
 N:=N
 s₀:=s
 H₀:=H
 env:=envOfC qual scope s.heap.objs.size f cd
 outer:=outer
 stack:=envOfC qual scope s.heap.objs.size f cd :: outer
 ex:=[]
 calm:=true
 fn:=fun _=>true
 pn:=[]
 xe:=fun e s'=>wpAny (model P w) (A.deeper (envOfC qual scope s.heap.objs.size f cd)) (leaving (envOfC qual scope s.heap.objs.size f cd) e) (fun _ HN=>CX outer H s E e HN) (fun e' HN=>CX outer H s E e' HN) s'
theorem nM {sc:Scope}{n:Nat}{x:Str}(h:sc.names.lookup x=some .cell):∃ c,(cellsFrom n sc.names []).lookup x=some c:=by
 have q:=PySem.W.cellsFrom_some sc.names n [] (.inl h)
 exact Option.isSome_iff_exists.mp q
theorem rN {CX:pI}{P:Program}{w:World}{K:Frag}{mg:Str->Option Value}{base:Heap}{N ps:List Str}{qual:Str}{scope:Scope}{f:Addr}{cd:Value}{A:Around}{outer:List Env}{s s1:Shared}{H:Hp}{E:XK}{us:List Value}{vs:List V}
  (S:ao N ps scope) (hd:A.handled=none) (e0:DA P w K mg base A outer s H) (hl:vs.length=ps.length) (r:Vals vs us)
  (x:InCallC s s.heap.objs.size (bindL (envOfC qual scope s.heap.objs.size f cd).kindOf (ps.zip us) fun _=>none) (cellsFrom (s.heap.objs.size + 1) scope.names []) (bindC (envOfC qual scope s.heap.objs.size f cd).kindOf (ps.zip us) fun _=>none) s1) :
  Inv (iZ CX P w K mg base N qual scope f cd A outer s H E) [] (start N vs) H s1:=by
 have BL:ps.length <= N.length:=by have:=congrArg List.length S.pre;rw[length_take]at this;omega
 obtain⟨h1,tk,rfl,hk⟩:=x.done
 have Kz:∀ b:Addr,b ∉ (iZ CX P w K mg base N qual scope f cd A outer s H E).ex:=fun b z=>absurd (show b ∈ ([]:List Addr) from z) (by simp)
 refine⟨⟨e0.mod,S.kind,rfl,rfl,le_refl _,fun y z c h1 h2=>?_,fun y hy=>?_,fun y c _ h=>?_,fun _=>hd,Around.frames_deeper e0.frames, .inr ⟨rfl,rfl⟩,fun b z=>absurd z (Kz b),e0.bs,e0.Fw,fun b _ _=>Kz b,fun b z=>absurd z (Kz b),e0.BV,e0.HI⟩,
  rfl,e0.bare,Un.kept hk,⟨_,x.toInCall.ns,fun i y v h1 h2 h3=>?_⟩,fun y c h=>⟨_,x.cell y c h⟩,e0.Ad.fresh (le_refl _),fun y c h=>?_,fun p hp=>absurd (show p ∈ ([]:List (Addr × Obj)) from hp) (by simp),e0.Ad.kept hk,?_⟩
 ·exact name_of_addr x.apart (PySem.mem_of_lookup h1) (PySem.mem_of_lookup h2)
 ·have hy:scope.names.lookup y=some .cell∨scope.names.lookup y=some .free:=hy
  rcases hy with hy | hy
  ·exact nM hy
  ·exact absurd rfl (S.HM _ (PySem.mem_of_lookup hy))
 ·exact le_of_lt (x.above y c (PySem.mem_of_lookup h))
 ·have hi:i < vs.length:=by
   unfold start at h2
   by_cases hi:i < vs.length
   ·exact hi
   ·rw[List.getElem?_append_right (by simpa using hi)]at h2
    rw[List.getElem?_replicate]at h2
    split at h2<;>cases h2
  have ha:vs[i]? = some v:=by
   unfold start at h2
   rw[List.getElem?_append_left (by simpa using hi),List.getElem?_map]at h2
   cases e:vs[i]? with
   | none=>rw[e]at h2;cases h2
   | some a=>rw[e]at h2;cases h2;rfl
  obtain⟨u,hu,rv⟩:=r.get ha
  have hp:ps[i]? = some y:=by
   rw[← S.pre,List.getElem?_take_of_lt (by omega)];exact h1
  have Wu:ps.Nodup:=by rw[← S.pre];exact S.nd.sublist (List.take_sublist _ _)
  refine⟨u,rv,?_⟩
  rcases S.par y (mem_of_getElem? hp) with k | k
  ·exact .inl ⟨k,kX Wu hp hu k⟩
  ·obtain⟨c,e⟩:=nM (n:=s.heap.objs.size + 1) k
   refine .inr ⟨.inl k,c,e,?_⟩
   have q:=x.cell y c e
   rw[kZ Wu hp hu (by show scope.names.lookup y ≠ _;rw[k];decide)]at q
   exact q
 ·exact e0.Ad.fresh (le_of_lt (x.above y c (PySem.mem_of_lookup h)))
 ·unfold start
  show _=N.length
  rw[length_append,length_map,length_replicate]
  omega
theorem vc {CX:pI}{P:Program}{w:World}{K:Frag}{mg:Str->Option Value}{base:Heap}{k:Nat}{f:Addr}{name qual:Str}{params:Arguments}{body:List Stmt}{scope:Scope}{dV kV doc pm cdv ct oc:Value}{an od:Option Addr}
  {DB:Array (Option Value)} {N ps:List Str} {sp:Sp} (lk:K.lookup f=some ⟨oc,od, .func (fnOf name qual params body scope dV kV doc pm an cdv ct),DB⟩) (D7:codeIn K cdv qual=true) (S:ao N ps scope)
  (len:∀ vs H Q E,sp vs H Q E->vs.length=ps.length)
  (Ck:∀ (A:Around)(outer:List Env)(s:Shared)(H:Hp)(vs:List V)(Q:VK)(E:XK),Ah k (A.deeper (envOfC qual scope s.heap.objs.size f cdv))->sp vs H Q E ->
   ∃ t,Cy (iZ CX P w K mg base N qual scope f cdv A outer s H E) body t/\t { nx:=fun _ H'=>Q .An H',rt:=Q } (start N vs) H) :
  zX P w K mg base CX (k + 1) f (fnOf name qual params body scope dV kV doc pm an cdv ct) ps sp:=by
 refine⟨len,fun A outer s H args us vs Q E hr e0 hb r Et=>?_⟩
 have hl:=len _ _ _ _ Et
 have KX:K.In s.heap:=e0.mod.Eo.keeps fun b o e=>(e0.bs b o e).1
 have lim:s.heap.NoLimit:=e0.mod.nolimit.keeps fun b o e=>(e0.bs b o e).1
 have K0:∀ y ∈ ps.zip us,scope.names.lookup y.1=some .local∨(scope.names.lookup y.1=some .cell/\((cellsFrom (s.heap.objs.size + 1) scope.names []).lookup y.1).isSome=true):=fun⟨n,v⟩ hy=>by
  rcases S.par n (of_mem_zip hy).1 with q | q
  ·exact .inl q
  ·exact .inr ⟨q,PySem.W.cellsFrom_some _ _ _ (.inl q)⟩
 refine codeAny_call_function hr.depth (KX _ _ lk) rfl S.co S.gen rfl (PySem.W.codeRec_of KX D7) (hb _ _ _ _ ?_)
 refine wpAny_newFunctionEnv_cells S.kind K0 fun env he s1 x=>?_
 subst he
 refine⟨lim.keeps x.toInCall.keep,codeAny_func ?_⟩
 obtain⟨t,ht,hq⟩:=Ck A outer s H vs Q E (hr.deeper _) Et
 have I:Inv (iZ CX P w K mg base N qual scope f cdv A outer s H E) [] (start N vs) H s1:=rN S hr.hd e0 hl r x
 refine wpAny_mono (ht [] s1 (start N vs) H _ I hq) (fun fl s' hs=>?_) fun e s' hs=>hs
 have fin:∀ {σ':St}{H':Hp}{v:V}{u:Value},Inv (iZ CX P w K mg base N qual scope f cdv A outer s H E) [] σ' H' s'->RelV v u->Q v H'->CE outer P w H s Q u s' :=
  fun {σ' H' v u} J rv q=>⟨v,H',J.os,J.bare,J.base,J.Ad,rv,q⟩
 cases fl with
 | ret u =>
  obtain⟨v,σ',H',J,rv,q⟩:=hs
  exact fin J rv q
 | next =>
  obtain⟨σ',H',J,q⟩:=hs
  exact fin (v:=V.An) (u:=Value.none) J rfl q
 | brk =>
  obtain⟨_,_,_,q⟩:=hs
  exact False.elim q
 | cont =>
  obtain⟨_,_,_,q⟩:=hs
  exact False.elim q
end L2
namespace L2
open PySem PySem.Spec PyProof.Rows
section
variable {X:Cx}{x:Str}{p pos:Pos}{e:Expr}{es:List Expr}{t:TA}{id T:String}{r:List V->Hp->VK->Prop}
noncomputable def Wv (r:List V->Hp->VK->Prop)(t:TA):TE:=fun σ H Q=>t σ H fun vs H1=>r vs H1 Q
theorem az (hc:eD X (.builtin id) r)(hg:Gl X x)(hm:X.mg x=none)(hv:bootBuiltins x=some (.builtin id))(ha:PA X (e :: es) t)(hn:x ≠ "__name__":=by decide)(EA:(x == ("__debug__":Str))=false:=by decide)
  (he:starEach (e :: es) X.env=(false,eval e X.env) :: starEach es X.env:=by rfl) (BL:(backTo pos (starEach es X.env)).any (·.1)=false:=by rfl):PE X (.Call (.Name x p) (e :: es) [] pos) (Wv r t):=by
 intro pins s σ H Q I h
 refine wpAny_Call_Name_kw (gH I hg hm hv ?_ hn EA)
 exact PyProof.Rows.callWith_builtin1 (aS (ha pos pins s σ H _ I h) fun us s1 ⟨vs,H1,I1,r1,q1⟩=>hc pins s1 σ H1 vs us Q I1 r1 q1) he BL
theorem bu (hc:eD X (.type T) r)(hg:Gl X x)(hm:X.mg x=none)(hv:bootBuiltins x=some (.type T))(ha:PA X (e :: es) t)(hn:x ≠ "__name__":=by decide)(EA:(x == ("__debug__":Str))=false:=by decide)
  (he:starEach (e :: es) X.env=(false,eval e X.env) :: starEach es X.env:=by rfl) (BL:(backTo pos (starEach es X.env)).any (·.1)=false:=by rfl):PE X (.Call (.Name x p) (e :: es) [] pos) (Wv r t):=by
 intro pins s σ H Q I h
 refine wpAny_Call_Name_kw (gH I hg hm hv ?_ hn EA)
 exact PyProof.Rows.callWith_type1 (aS (ha pos pins s σ H _ I h) fun us s1 ⟨vs,H1,I1,r1,q1⟩=>hc pins s1 σ H1 vs us Q I1 r1 q1) he BL
end
end L2
namespace HT
open PySem PyProof.Rows
section
open PySem.SeqAt
open PySem.AutoSeq1 (wpAny_loadPart')
open PySem.MeetsSeq PySem.MeetsSeq2 PySem.MeetsSeq3
end
section
variable {prog:Program}{w:World}{A:Around}{E:Value->Shared->Prop}{s:Shared}
theorem Fz {t b:Addr}{vs ws:List Value}{Q:Value->Shared->Prop}(ht:IsTup s.heap t vs.toArray)(hb:IsTup s.heap b ws.toArray)(hv:vs ≠ [])
  (h1:ws=[]->Q (.ref t) s) (h2:ws ≠ []->Q (.ref s.heap.objs.size) { s with heap:=s.heap.push { cls := .type "tuple",data := .seq (vs ++ ws).toArray } })
  (hsz:vs.length + ws.length <= sizeLine):wpAny (model prog w) A (binaryOp .Add (.ref t) (.ref b)) Q E s:=by
 obtain⟨⟨cls,dd,data,sl⟩,ho,hc,n,hd⟩:=id ht
 obtain⟨⟨QJ,OH,data2,Jr⟩,BG,CZ,n2,hd2⟩:=id hb
 simp only at hc hd CZ hd2
 subst hc hd CZ hd2
 have e:vs.toArray ++ ws.toArray=(vs ++ ws).toArray:=by simp
 by_cases hw:ws=[]
 ·exact concat_meets ⟨_,ho,rfl⟩ ⟨_,BG,rfl⟩ noFill_tuple_add seq_tuple_add slot_tuple_add entry_tuple_add (args_tuple_add_2 _ _)
   (tuple_addW1 t b vs.toArray ws.toArray n n2 dd OH sl Jr (by simpa using hv) (by simp[hw])) ⟨ho,BG,h1 hw⟩
 ·refine concat_meets ⟨_,ho,rfl⟩ ⟨_,BG,rfl⟩ noFill_tuple_add seq_tuple_add slot_tuple_add entry_tuple_add (args_tuple_add_2 _ _)
   (tuple_addW2 t b vs.toArray ws.toArray n n2 dd OH sl Jr (by simpa using hv) (by simpa using hw) (by rw[size_toArray,size_toArray];exact hsz)) ⟨ho,BG,?_⟩
  rw[e]
  exact h2 hw
noncomputable def Cd (n d:Nat):Option Int->Nat
 | none=>d
 | some v=>if v < 0 then (v + (n:Int)).toNat else min v.toNat n
theorem B6 (n d k:Nat):Cd n d (some (k:Int))=min k n:=by
 show(if (k:Int) < 0 then ((k:Int) + (n:Int)).toNat else min (k:Int).toNat n)=min k n
 rw[if_neg (by omega),toNat_natCast]
end
end HT
namespace L2
open PySem PySem.Spec PyProof.Rows
noncomputable abbrev TO:=St->Hp->(Option Int->Hp->Prop)->Prop
noncomputable def PO (X:Cx)(e:Option Expr)(t:TO):Prop :=
 ∀ (pins:List (Addr × Obj))(s:Shared)(σ:St)(H:Hp)(Q:Option Int->Hp->Prop),Inv X pins σ H s->t σ H Q ->
  wpAny (model X.prog X.w) X.A (evalPart e X.env) (fun u s'=>∃ o H',Inv X pins σ H' s'/\IsPart u o/\Q o H') X.xe s
noncomputable def vG:TO:=fun _ H Q=>Q none H
noncomputable def K1 (t:TE):TO:=fun σ H Q=>t σ H fun x H1=>∃ i,x = .int i/\Q (some i) H1
theorem p6 {ns:List Int}:∀ {us:List Value},Vals (ns.map V.int) us->IntsAre us ns:=by
 induction ns with
 | nil=>intro us r;rw[map_nil]at r;cases r;exact .nil
 | cons n ns ih =>
  intro us r
  rw[map_cons]at r
  cases r with
  | cons r1 r2 =>
   obtain⟨t,e⟩:=r1
   subst e
   exact .cons n t (ih r2)
section
variable {X:Cx}{e:Expr}{te:TE}{lo hi:Option Expr}{tl th:TO}{pos p2:Pos}
theorem fO:PO X none vG:=by
 intro pins s σ H Q I h
 rw[evalPart_none]
 exact wpAny_pure ⟨none,H,I, .none,h⟩
theorem dG (h:PE X e te):PO X (some e) (K1 te):=by
 intro pins s σ H Q I hw
 rw[evalPart_some]
 refine aS (h pins s σ H _ I hw) fun u s1 Aj=>?_
 obtain⟨x,H1,I1,r1,q1⟩:=Aj
 obtain⟨i,rfl,q⟩:=q1
 obtain⟨t,rfl⟩:=r1
 exact⟨some i,H1,I1, .int i t,q⟩
noncomputable def Ww (X:Cx)(r:V->Option Int->Option Int->Hp->VK->Prop):Prop :=
 ∀ (pins:List (Addr × Obj))(s:Shared)(σ:St)(H:Hp)(x:V)(v vl vu:Value)(lo hi:Option Int)(sl:Addr)(Q:VK),Inv X pins σ H s->RelV x v->s.heap.IsSliceOf sl vl vu .none->IsPart vl lo->IsPart vu hi->r x lo hi H Q ->
  ∃ T id,typeLookup (.type T) "__getitem__" = pure (some (.builtin id))/\s.TypeIs v T/\wpAny (model X.prog X.w) X.A (getItem v (.ref sl)) (EP X pins σ Q) X.xe s
noncomputable def tSl (r:V->Option Int->Option Int->Hp->VK->Prop)(te:TE)(tl th:TO):TE:=fun σ H Q=>te σ H fun x H1=>tl σ H1 fun l H2=>th σ H2 fun u H3=>r x l u H3 Q
theorem du {r:V->Option Int->Option Int->Hp->VK->Prop}(hr:Ww X r)(he:PE X e te)(hl:PO X lo tl)(hu:PO X hi th):PE X (.Subscript e (.Slice lo hi none p2) pos) (tSl r te tl th):=by
 intro pins s σ H Q I h
 refine Subscript_ (aS (he pins s σ H _ I h) fun v s1 Aj=>?_)
 obtain⟨x,H1,I1,r1,q1⟩:=Aj
 refine wpAny_Slice (aS (hl pins s1 σ H1 _ I1 q1) fun vl s2 ⟨l,H2,I2,pl,q2⟩=>aS (hu pins s2 σ H2 _ I2 q2) fun vu s3 Aj=>?_)
 obtain⟨u,H3,I3,pu,q3⟩:=Aj
 rw[evalPart_none]
 refine wpAny_pure ?_
 have I4:Inv X pins σ H3 { s3 with heap:=s3.heap.push { cls := .type "slice",data := .fields #[vl,vu, .none] } }:=I3.kept (t':=s3.toks) fun b ob q=>Heap.get?_push_of_some _ q
 obtain⟨T,id,hT,ht,hg⟩:=hr pins { s3 with heap:=s3.heap.push { cls := .type "slice",data := .fields #[vl,vu, .none] } } σ H3 x v vl vu l u s3.heap.objs.size Q I4 r1 (Heap.IsSliceOf.new ..) pl pu q3
 show wpAny (model X.prog X.w) X.A (subscriptTail e (.Slice lo hi none p2) v (.ref s3.heap.objs.size)) (EP X pins σ Q) X.xe { s3 with heap:=s3.heap.push { cls := .type "slice",data := .fields #[vl,vu, .none] } }
 exact tail_any (ops:=[.ref s3.heap.objs.size,v]) ht hT hg (by with_unfolding_all rfl)
noncomputable def eZ (xs:List V)(lo hi:Option Int):List V:=(xs.drop (HT.Cd xs.length 0 lo)).take (HT.Cd xs.length xs.length hi - HT.Cd xs.length 0 lo)
theorem nG (xs:List V)(lo hi:Option Int):(eZ xs lo hi).length <= xs.length:=by
 unfold eZ
 rw[length_take,length_drop]
 omega
noncomputable def K2 (K:Frag):R2:=fun x y H Q=>∃ a b xs ys,x = .ref a/\y = .ref b/\Af K H a xs/\Af K H b ys/\xs ≠ []/\xs.length + ys.length <= sizeLine /\
 (ys=[]->Q (.ref a) H)/\(ys ≠ []->∀ p,H p=none->Q (.ref p) (upd H p (.tup (xs ++ ys))))
theorem Vals.Cf {xs:List V}{us:List Value}(r:Vals xs us):us=[]↔xs=[]:=by
 cases r with
 | nil=>simp
 | cons _ _=>simp
theorem wl:eW X (binaryOp .Add) (K2 X.K):=by
 intro pins s σ H x y v u Q I rx ry h
 obtain⟨a,b,xs,ys,rfl,rfl,ha,hb,hx,hz,q1,q2⟩:=h
 cases rx
 cases ry
 obtain⟨Ab,r1,p1,_⟩:=I.tuple ha
 obtain⟨C0,r2,p2,_⟩:=I.tuple hb
 refine HT.Fz p1 p2 (fun z=>hx (r1.Cf.mp z)) (fun z=>⟨.ref a,H,I,rfl,q1 (r2.Cf.mp z)⟩) (fun z=>?_) (by rw[← r1.length,← r2.length];exact hz)
 refine⟨.ref s.heap.objs.size,_,I.laid (t':=s.toks) (o := .tup (xs ++ ys)) (fun b ob q=>Heap.get?_push_of_some _ q) (le_refl _) ?_,rfl,q2 (fun w=>z (r2.Cf.mpr w)) _ (I.Ad.fresh (le_refl _))⟩
 exact⟨by rw[length_append];exact hz,_,r1.append r2,Br.new _ _⟩
end
end L2
namespace L2
open PySem PySem.Spec PyProof.Rows
noncomputable def wZ (n:Nat)(i:Int):Option Nat:=if 0 <= i then (if i < n then some i.toNat else none) else if -(n:Int) <= i then some (i + n).toNat else none
noncomputable def Js {α:Type}(xs:List α)(i:Int):Option α:=(wZ xs.length i).bind fun j=>xs[j]?
theorem qF {n:Nat}{i:Int}{j:Nat}(h:wZ n i=some j):seqIndex? i n=some j/\j < n/\-(n:Int) <= i/\i < n:=by
 unfold wZ at h
 by_cases h0:0 <= i
 ·rw[if_pos h0]at h
  by_cases h1:i < n
  ·rw[if_pos h1]at h
   have e:i.toNat=j:=Option.some.inj h
   exact⟨by rw[seqIndex_of h0 h1,e],by omega,by omega,h1⟩
  ·rw[if_neg h1]at h;cases h
 ·rw[if_neg h0]at h
  by_cases h1:-(n:Int) <= i
  ·rw[if_pos h1]at h
   have e:(i + n).toNat=j:=Option.some.inj h
   exact⟨by rw[seqIndex_neg (by omega) h1,e],by omega,h1,by omega⟩
  ·rw[if_neg h1]at h;cases h
theorem qQ {α:Type}{xs:List α}{i:Int}{v:α}(h:Js xs i=some v):∃ j,seqIndex? i xs.length=some j/\xs[j]? = some v/\j < xs.length/\-(xs.length:Int) <= i/\i < xs.length:=by
 unfold Js at h
 cases e:wZ xs.length i with
 | none=>rw[e]at h;cases h
 | some j =>
  rw[e]at h
  obtain⟨h1,h2,h3,h4⟩:=qF e
  exact⟨j,h1,h,h2,h3,h4⟩
theorem ak {α:Type}{xs:List α}{j:Nat}{v:α}(h:xs[j]? = some v):Js xs (j:Int)=some v:=by
 have hj:j < xs.length:=(List.getElem?_eq_some_iff.mp h).1
 have e:wZ xs.length (j:Int)=some j:=by
  unfold wZ
  rw[if_pos (by omega),if_pos (by omega)];simp
 unfold Js;rw[e];exact h
noncomputable def xr (b:Expr):Prop:=∀ o i,subscripted b false o i=operate [o,i] (getItem o i)
noncomputable def pH (X:Cx)(r:R2):Prop :=
 ∀ (value slice:Expr)(pins:List (Addr × Obj))(s:Shared)(σ:St)(H:Hp)(x y:V)(v u:Value)(Q:VK),Inv X pins σ H s->RelV x v->RelV y u->r x y H Q ->
  subscripted slice false v u=operate [v,u] (getItem v u)->wpAny (model X.prog X.w) X.A (subscriptTail value slice v u) (EP X pins σ Q) X.xe s
noncomputable def OI (X:Cx)(id:String)(r:V->List V->Hp->VK->Prop):Prop :=
 ∀ (pins:List (Addr × Obj))(s:Shared)(σ:St)(H:Hp)(x:V)(xs:List V)(v:Value)(us:List Value)(Q:VK),Inv X pins σ H s->RelV x v->Vals xs us->r x xs H Q ->
  wpAny (model X.prog X.w) X.A (call (.builtin id) (v :: us)) (EP X pins σ Q) X.xe s
section
variable {X:Cx}{a b:Expr}{ta tb:TE}{pos:Pos}
theorem av {r:R2}(hr:pH X r)(ha:PE X a ta)(hb:PE X b tb)(hs:xr b):PE X (.Subscript a b pos) (OG r ta tb):=by
 intro pins s σ H Q I h
 exact Subscript_ (zM ha hb I h fun v u s2 x y H2 I2 rx ry q=>hr a b pins s2 σ H2 x y v u Q I2 rx ry q (hs _ _))
noncomputable def tZ (K:Frag):R2:=fun x y H Q=>∃ p xs i v,x = .ref p/\y = .int i/\Aa K H p xs/\Js xs i=some v/\Q v H
noncomputable def l7 (K:Frag):R2:=fun x y H Q=>∃ p xs i v,x = .ref p/\y = .int i/\Af K H p xs/\Js xs i=some v/\Q v H
theorem aI:pH X (tZ X.K):=by
 intro value slice pins s σ H x y v u Q I rx ry h hs
 obtain⟨p,xs,i,z,rfl,rfl,hq,he,q⟩:=h
 cases rx
 obtain⟨t,rfl⟩:=ry
 obtain⟨Ab,r,pl,hz⟩:=I.list hq
 obtain⟨j,h1,h2,h3,h4,h5⟩:=qQ he
 obtain⟨w,ew,Dc⟩:=r.get h2
 have hl:=r.length
 have hn:=jG
 have fin:EP X pins σ Q w s:=⟨z,H,I,Dc,q⟩
 by_cases h0:0 <= i
 ·have hj:i.toNat=j:=by
   rw[seqIndex_of h0 h5]at h1
   exact Option.some.inj h1
  exact item_listR pl.isList h0 (by omega) (by rw[hj];simpa using ew) fin hs
 ·have hj:(i + (Ab.toArray.size:Int)).toNat=j:=by
   rw[seqIndex_neg (by omega) h4]at h1
   rw[size_toArray,← hl]
   exact Option.some.inj h1
  exact subscriptTail_builtinR (x:=w) pl.isList.typeIs slot_list_getitem.lookup
   (wpAny_getItem_list_neg (Q:=fun r s'=>r=w/\EP X pins σ Q r s') pl.isList (by omega) (by rw[size_toArray]<;>omega) (by omega) (by rw[hj];simpa using ew) ⟨rfl,fin⟩) hs
theorem aF:pH X (l7 X.K):=by
 intro value slice pins s σ H x y v u Q I rx ry h hs
 obtain⟨p,xs,i,z,rfl,rfl,hq,he,q⟩:=h
 cases rx
 obtain⟨t,rfl⟩:=ry
 obtain⟨Ab,r,pl,hz⟩:=I.tuple hq
 obtain⟨j,h1,h2,h3,h4,h5⟩:=qQ he
 obtain⟨w,ew,Dc⟩:=r.get h2
 have hl:=r.length
 have hn:=jG
 have fin:EP X pins σ Q w s:=⟨z,H,I,Dc,q⟩
 exact subscriptTail_builtinR (x:=w) pl.typeIs slot_tuple_getitem.lookup
  (getItem_tuple (j:=j) (Q:=fun r s'=>r=w/\EP X pins σ Q r s') pl (by omega) (by omega) (by rw[size_toArray,← hl];exact h1) (by simpa using ew) ⟨rfl,fin⟩) hs
theorem pc (Ab:List Value)(n j:Nat)(u:Value):Obj.mapSeq (·.setIfInBounds j u) { cls := .type "list",data := .seq Ab.toArray n } = { cls := .type "list",data := .seq (Ab.set j u).toArray n }:=by
 simp[Obj.mapSeq]
theorem Inv.lst {pins:List (Addr × Obj)}{σ:St}{H:Hp}{s:Shared}{p:Addr}{xs:List V}(I:Inv X pins σ H s)(h:H p=some (.lst xs)) :
  ∃ (Ab:List Value)(n:Nat),Vals xs Ab/\s.heap.get? p=some { cls := .type "list",data := .seq Ab.toArray n }/\xs.length <= sizeLine:=by
 obtain⟨z,Ab,n,r,e⟩:=I.Ad p _ h
 exact⟨Ab,n,r,e,z⟩
theorem Inv.HP {pins:List (Addr × Obj)}{σ:St}{H:Hp}{s:Shared}{p:Addr}{xs ys:List V}{Ab its':List Value}{n n':Nat}{f:Obj->Obj}(I:Inv X pins σ H s)(h:H p=some (.lst xs))
  (ho:s.heap.get? p=some { cls := .type "list",data := .seq Ab.toArray n }) (hf:f { cls := .type "list",data := .seq Ab.toArray n } = { cls := .type "list",data := .seq its'.toArray n' }) (r:Vals ys its') (hz:ys.length <= sizeLine) (t:Nat) :
  Inv X pins σ (upd H p (.lst ys)) { s with heap:=s.heap.update p f,toks:=t }:=by
 have e:(s.heap.update p f).get? p=some { cls := .type "list",data := .seq its'.toArray n' }:=by
  rw[Heap.get?_update_self f ho (by rw[hf]<;>rfl),hf]
 refine I.write (x:=p) (e:=p) (by rw[h];trivial) (.inl rfl) (fun b u hb q=>(Heap.get?_update_other _ _ (Ne.symm hb)).trans q) ⟨_,e⟩ ?_
 exact⟨hz,its',n',r,e⟩
noncomputable def K3:V->V->V->Hp->(Hp->Prop)->Prop:=fun o i v H Q=>∃ p xs k j,o = .ref p/\i = .int k/\H p=some (.lst xs)/\wZ xs.length k=some j/\Q (upd H p (.lst (xs.set j v)))
theorem hU:Kg X K3:=by
 intro pins s σ H o i v ov iv u Q I ro ri rv h
 obtain⟨p,xs,k,j,rfl,rfl,hp,hj,q⟩:=h
 cases ro
 obtain⟨t,rfl⟩:=ri
 obtain⟨Ab,n,r,ho,hz⟩:=I.lst hp
 obtain⟨h1,h2,h3,h4⟩:=qF hj
 have hl:=r.length
 have hn:=jG
 have I':Inv X pins σ (upd H p (.lst (xs.set j v))) { s with heap:=s.heap.update p (Obj.mapSeq (·.setIfInBounds j u)) } :=
  I.HP hp ho (pc Ab n j u) (r.set rv j) (by rw[length_set];exact hz) s.toks
 by_cases h0:0 <= k
 ·have hk:k.toNat=j:=by
   rw[seqIndex_of h0 h4]at h1
   exact Option.some.inj h1
  exact PySem.W.ki_setAt ho h0 (by omega) (by rw[size_toArray,← hl];exact h4) (by rw[hk];exact⟨_,I',q⟩)
 ·have hk:(k + (Ab.toArray.size:Int)).toNat=j:=by
   rw[seqIndex_neg (by omega) h3]at h1
   rw[size_toArray,← hl]
   exact Option.some.inj h1
  exact PySem.W.ki_setBack ho (by omega) (by rw[size_toArray,← hl];exact h3) (by omega) (by rw[hk];exact⟨_,I',q⟩)
theorem lp (lo hi:Option Int)(n:Nat):(sliceBounds lo hi none n).1=((HT.Cd n 0 lo:Nat):Int)/\(sliceBounds lo hi none n).2.1=((HT.Cd n n hi:Nat):Int)/\(sliceBounds lo hi none n).2.2=1:=by
 refine⟨?_,?_,rfl⟩
 ·cases lo with
  | none=>simp[sliceBounds,HT.Cd]
  | some i =>
   simp only[sliceBounds,HT.Cd,Option.getD_none,show (1:Int) > 0 by decide,if_true]
   by_cases h:i < 0
   ·simp only[h,if_true]<;>omega
   ·simp only[h,if_false]<;>omega
 ·cases hi with
  | none=>simp[sliceBounds,HT.Cd]
  | some i =>
   simp only[sliceBounds,HT.Cd,Option.getD_none,show (1:Int) > 0 by decide,if_true]
   by_cases h:i < 0
   ·simp only[h,if_true]<;>omega
   ·simp only[h,if_false]<;>omega
theorem ki (Ab:List Value)(lo hi:Option Int):slicePick Ab.toArray lo hi none=((Ab.drop (HT.Cd Ab.length 0 lo)).take (HT.Cd Ab.length Ab.length hi - HT.Cd Ab.length 0 lo)).toArray:=by
 obtain⟨h1,h2,h3⟩:=lp lo hi Ab.toArray.size
 unfold slicePick
 rw[h1,h2,h3]
 simp only[sliceRange_one,pick_run,size_toArray]<;>rfl
noncomputable def QK (K:Frag):V->Option Int->Option Int->Hp->VK->Prop:=fun x lo hi H Q=>∃ a xs,x = .ref a/\Aa K H a xs/\∀ p,H p=none->Q (.ref p) (upd H p (.lst (eZ xs lo hi)))
theorem eL:Ww X (QK X.K):=by
 intro pins s σ H x v vl vu lo hi sl Q I rx hs pl pu h
 obtain⟨a,xs,rfl,hx,q⟩:=h
 cases rx
 obtain⟨Ab,r,ht,hz⟩:=I.list hx
 have hlen:=r.length
 refine⟨"list",_,slot_list_getitem.lookup,ht.isList.typeIs,?_⟩
 refine wpAny_getItem_list_slice ht.isList hs pl pu .none (by simp) ?_ (by rw[size_toArray]<;>omega)
 rw[ki,← hlen]
 refine⟨.ref s.heap.objs.size,_,I.laid (t':=s.toks) (o := .lst (eZ xs lo hi)) (fun b ob q=>Heap.get?_push_of_some _ q) (le_refl _) ?_,rfl,q _ (I.Ad.fresh (le_refl _))⟩
 exact⟨le_trans (nG xs lo hi) hz,_,0,(r.drop (HT.Cd xs.length 0 lo)).take (HT.Cd xs.length xs.length hi - HT.Cd xs.length 0 lo),Heap.get?_push_size _ rfl⟩
noncomputable def i4:V->Bool
 | .An=>true
 | .bl _=>true
 | .int _=>true
 | .str _=>true
 | _=>false
noncomputable def xS:V->V->Bool
 | .An, .An=>true
 | .bl a, .bl b=>a == b
 | .bl a, .int b=>(if a then 1 else 0) == b
 | .int a, .bl b=>a == (if b then 1 else 0)
 | .int a, .int b=>a == b
 | .str a, .str b=>a == b
 | _,_=>false
theorem zF {A:Around}{s:Shared}{y x:V}{u v:Value}(ry:RelV y u)(rx:RelV x v)(fy:i4 y=true)(fx:i4 x=true):SeqAt.EqAt A s u v (xS y x):=by
 cases y with
 | An =>
  cases ry
  cases x with
  | An=>cases rx;exact SeqAt.EqAt.same _
  | bl b=>cases rx;exact SeqAt.EqAt.none_bool b
  | int b=>obtain⟨t,rfl⟩:=rx;exact SeqAt.EqAt.none_int b t
  | str b=>obtain⟨t,rfl⟩:=rx;exact SeqAt.EqAt.none_str b t
  | _=>exact absurd (show false=true from fx) Bool.false_ne_true
 | bl a =>
  cases ry
  cases x with
  | An=>cases rx;exact SeqAt.EqAt.bool_none a
  | bl b=>cases rx;exact SeqAt.EqAt.bool_bool a b
  | int b=>obtain⟨t,rfl⟩:=rx;exact SeqAt.EqAt.bool_int a b t
  | str b=>obtain⟨t,rfl⟩:=rx;exact SeqAt.EqAt.bool_str a b t
  | _=>exact absurd (show false=true from fx) Bool.false_ne_true
 | int a =>
  obtain⟨t',rfl⟩:=ry
  cases x with
  | An=>cases rx;exact SeqAt.EqAt.int_none a t'
  | bl b=>cases rx;exact SeqAt.EqAt.int_bool a t' b
  | int b=>obtain⟨t,rfl⟩:=rx;exact SeqAt.EqAt.int_int a t' b t
  | str b=>obtain⟨t,rfl⟩:=rx;exact SeqAt.EqAt.int_str a t' b t
  | _=>exact absurd (show false=true from fx) Bool.false_ne_true
 | str a =>
  obtain⟨t',rfl⟩:=ry
  cases x with
  | An=>cases rx;exact SeqAt.EqAt.str_none a t'
  | bl b=>cases rx;exact SeqAt.EqAt.str_bool a t' b
  | int b=>obtain⟨t,rfl⟩:=rx;exact SeqAt.EqAt.str_int a t' b t
  | str b=>obtain⟨t,rfl⟩:=rx;exact SeqAt.EqAt.str_str a t' b t
  | _=>exact absurd (show false=true from fx) Bool.false_ne_true
 | _=>exact absurd (show false=true from fy) Bool.false_ne_true
noncomputable def p9 (x:V)(u:Value):Bool:=match u with
 | .none=>xS .An x
 | .bool b=>xS (.bl b) x
 | .int i _=>xS (.int i) x
 | .str z _=>xS (.str z) x
 | _=>false
theorem vd {x y:V}{u:Value}(r:RelV y u)(f:i4 y=true):p9 x u=xS y x:=by
 cases y with
 | An=>cases r;rfl
 | bl b=>cases r;rfl
 | int i=>obtain⟨t,rfl⟩:=r;rfl
 | str z=>obtain⟨t,rfl⟩:=r;rfl
 | _=>exact absurd (show false=true from f) Bool.false_ne_true
theorem iC {x:V}:∀ {xs:List V}{us:List Value},Vals xs us->xs.all i4=true->us.any (p9 x)=xs.any fun y=>xS y x
 | _,_, .nil,_=>rfl
 | y :: xs,u :: us, .cons r t,f=>by
  rw[all_cons,Bool.and_eq_true]at f
  rw[any_cons,any_cons,vd r f.1,iC t f.2]
theorem fF {A:Around}{s:Shared}{x:V}{v:Value}(rx:RelV x v)(fx:i4 x=true):∀ {xs:List V}{us:List Value},Vals xs us->xs.all i4=true->∀ u ∈ us,SeqAt.EqAt A s u v (p9 x u)
 | _,_, .nil,_=>fun u hu=>by cases hu
 | y :: xs,u :: us, .cons r t,f=>fun u' hu=>by
  rw[all_cons,Bool.and_eq_true]at f
  rcases mem_cons.mp hu with rfl | hu
  ·rw[vd r f.1];exact zF r rx f.1 fx
  ·exact fF rx fx t f.2 u' hu
noncomputable def Jt (x:V)(xs:List V):Bool:=xs.any fun y=>xS y x
noncomputable def QL (K:Frag)(neg:Bool):R2:=fun x y H Q=>∃ p xs,y = .ref p/\(Aa K H p xs∨Af K H p xs)/\i4 x=true/\xs.all i4=true/\Q (.bl (if neg then !Jt x xs else Jt x xs)) H
theorem rp:eW X (compareOp .In) (QL X.K false):=by
 intro pins s σ H x y v u Q I rx ry h
 obtain⟨p,xs,rfl,hq,fx,fs,q⟩:=h
 cases ry
 rcases hq with hq | hq
 ·obtain⟨Ab,r,pl,hz⟩:=I.list hq
  refine SeqAt.in_listAt (p9 x) pl.isList (fun w hw=>fF rx fx r fs w (by simpa using hw)) ⟨.bl _,H,I,rfl,?_⟩
  rw[show Ab.toArray.any (p9 x)=Ab.any (p9 x) by simp,iC r fs]
  exact q
 ·obtain⟨Ab,r,pl,hz⟩:=I.tuple hq
  refine SeqAt.in_tupleAt (p9 x) pl (fun w hw=>fF rx fx r fs w (by simpa using hw)) ⟨.bl _,H,I,rfl,?_⟩
  rw[show Ab.toArray.any (p9 x)=Ab.any (p9 x) by simp,iC r fs]
  exact q
theorem lF:eW X (compareOp .NotIn) (QL X.K true):=by
 intro pins s σ H x y v u Q I rx ry h
 obtain⟨p,xs,rfl,hq,fx,fs,q⟩:=h
 cases ry
 rcases hq with hq | hq
 ·obtain⟨Ab,r,pl,hz⟩:=I.list hq
  refine SeqAt.notIn_listAt (p9 x) pl.isList (fun w hw=>fF rx fx r fs w (by simpa using hw)) ⟨.bl _,H,I,rfl,?_⟩
  rw[show Ab.toArray.any (p9 x)=Ab.any (p9 x) by simp,iC r fs]
  exact q
 ·obtain⟨Ab,r,pl,hz⟩:=I.tuple hq
  refine SeqAt.notIn_tupleAt (p9 x) pl (fun w hw=>fF rx fx r fs w (by simpa using hw)) ⟨.bl _,H,I,rfl,?_⟩
  rw[show Ab.toArray.any (p9 x)=Ab.any (p9 x) by simp,iC r fs]
  exact q
theorem aw:eD X (.builtin "len") (fun xs H Q=>∃ p ys,xs=[.ref p]/\(Aa X.K H p ys∨Af X.K H p ys)/\Q (.int ys.length) H):=by
 intro pins s σ H xs us Q I r h
 obtain⟨p,ys,rfl,hq,q⟩:=h
 obtain⟨u,rfl,rx⟩:=ky r
 cases rx
 have hn:=jG
 rcases hq with hq | hq
 ·obtain⟨Ab,r',pl,hz⟩:=I.list hq
  have hlen:=r'.length
  exact Calls.call_len_list pl.isList (by simp only[size_toArray]<;>omega) ⟨.int ys.length,H,I.tok _,⟨s.toks + 1,by rw[size_toArray,hlen]⟩,q⟩
 ·obtain⟨Ab,r',pl,hz⟩:=I.tuple hq
  have hlen:=r'.length
  exact len_tuple pl (by simp only[size_toArray]<;>omega) ⟨.int ys.length,H,I.tok _,⟨s.toks + 1,by rw[size_toArray,hlen]⟩,q⟩
theorem aW:eD X (.type "list") (fun xs H Q=>∃ p ys,xs=[.ref p]/\(Aa X.K H p ys∨Af X.K H p ys)/\∀ l,H l=none->Q (.ref l) (upd H l (.lst ys))):=by
 intro pins s σ H xs us Q I r h
 obtain⟨p,ys,rfl,hq,q⟩:=h
 obtain⟨u,rfl,rx⟩:=ky r
 cases rx
 have fin:∀ (Ab:List Value),Vals ys Ab->ys.length <= sizeLine->∀ (h':Heap)(c':Nat),(∀ b o',s.heap.get? b=some o'->h'.get? b=some o') ->
   h'.get? s.heap.objs.size=some { cls := .type "list",dict:=none,data := .seq Ab.toArray c',slots:=#[] }->EP X pins σ Q (.ref s.heap.objs.size) { s with heap:=h' }:=fun Ab r' hz h' c' kp e =>
  ⟨.ref s.heap.objs.size,_,I.laid (t':=s.toks) kp (le_refl _) (show Ap X.prog X.w _ h' _ (.lst ys) from ⟨hz,Ab,c',r',e⟩),rfl,q _ (I.Ad.fresh (le_refl _))⟩
 rcases hq with hq | hq
 ·obtain⟨Ab,r',pl,hz⟩:=I.list hq
  have hlen:=r'.length
  obtain⟨o,ho,hc,n,hd⟩:=pl.isList
  exact call_list_seq p (.inl rfl) ho hc hd (fun h' c' kp e=>fin Ab r' hz h' c' kp e) (by simp only[size_toArray]<;>omega)
 ·obtain⟨Ab,r',pl,hz⟩:=I.tuple hq
  have hlen:=r'.length
  obtain⟨o,ho,hc,n,hd⟩:=pl
  exact call_list_seq p (.inr rfl) ho hc hd (fun h' c' kp e=>fin Ab r' hz h' c' kp e) (by simp only[size_toArray]<;>omega)
theorem dO:eD X (.type "tuple") (fun xs H Q=>∃ p ys,xs=[.ref p]/\((Aa X.K H p ys/\∀ l,H l=none->Q (.ref l) (upd H l (.tup ys)))∨(Af X.K H p ys/\Q (.ref p) H))):=by
 intro pins s σ H xs us Q I r h
 obtain⟨p,ys,rfl,h⟩:=h
 obtain⟨u,rfl,rx⟩:=ky r
 cases rx
 rcases h with ⟨hq,q⟩ | ⟨hq,q⟩
 ·obtain⟨Ab,r',pl,hz⟩:=I.list hq
  have hlen:=r'.length
  refine call_tuple_list pl.isList (fun h' kp=>?_) (by simp only[size_toArray]<;>omega)
  have I1:Inv X pins σ H { s with heap:=h' }:=I.kept (t':=s.toks) kp
  have I2:Inv X pins σ (upd H h'.objs.size (.tup ys)) { s with heap:=h'.push { cls := .type "tuple",data := .seq Ab.toArray } } :=
   I1.laid (t':=s.toks) (fun b o e=>Heap.get?_push_of_some _ e) (le_refl _) (show Ap X.prog X.w _ _ _ (.tup ys) from ⟨hz,Ab,r',Br.new _ _⟩)
  exact⟨.ref h'.objs.size,_,I2,rfl,q _ (I1.Ad.fresh (le_refl _))⟩
 ·obtain⟨Ab,r',pl,hz⟩:=I.tuple hq
  exact call_tuple_same pl ⟨.ref p,H,I,rfl,q⟩
noncomputable def QM (K:Frag)(T:String)(x:V)(H:Hp):Prop:=match x with
 | .str _=>T = "str"
 | .int _=>T = "int"
 | .ref p=>(T = "list"/\∃ xs,Aa K H p xs)∨(T = "tuple"/\∃ o,K.lookup p=some o/\o.cls = .type "tuple"/\o.dict=none) ∨
   (T = "dict"/\((∃ kvs,H p=some (.dK kvs))∨∃ kvs,H p=some (.dT kvs)))∨(T = "set"/\∃ S n,H p=some (.set S n))
 | _=>False
theorem sr {pins:List (Addr × Obj)}{σ:St}{H:Hp}{s:Shared}{T:String}{x:V}{v:Value}(I:Inv X pins σ H s)(r:RelV x v)(ty:QM X.K T x H) :
  s.TypeIs v T/\∀ a,v = .ref a->∃ ob,s.heap.get? a=some ob/\ob.dict=none:=by
 cases x with
 | str z =>
  obtain⟨t,rfl⟩:=r
  cases (show T = "str" from ty)
  exact⟨typeIs_str s z t,fun _ e=>nomatch e⟩
 | int i =>
  obtain⟨t,rfl⟩:=r
  cases (show T = "int" from ty)
  exact⟨typeIs_int s i t,fun _ e=>nomatch e⟩
 | ref p =>
  cases r
  rcases ty with ⟨rfl,xs,hq⟩ | ⟨rfl,o,hk,hc,hd⟩ | ⟨rfl,hk⟩ | ⟨rfl,S,n,hk⟩
  ·obtain⟨Ab,_,pl,_⟩:=I.list hq
   refine⟨pl.isList.typeIs,fun a e=>?_⟩
   cases e
   obtain⟨o,n,e,c,hd,_⟩:=pl
   exact⟨o,e,hd⟩
  ·refine⟨⟨o,I.Bd p o hk,hc⟩,fun a e=>?_⟩
   cases e
   exact⟨o,I.Bd _ o hk,hd⟩
  ·have z:∃ o,s.heap.get? p=some o/\o.ExactDict:=by
    rcases hk with ⟨kvs,hk⟩ | ⟨kvs,hk⟩
    ·obtain⟨_,_,_,_,o,_,_,e,ex,_⟩:=I.Ad p _ hk
     exact⟨o,e,ex⟩
    ·obtain⟨_,_,_,_,o,_,_,e,ex,_⟩:=I.Ad p _ hk
     exact⟨o,e,ex⟩
   obtain⟨o,e,ex⟩:=z
   refine⟨⟨o,e,ex.1⟩,fun a e2=>?_⟩
   cases e2
   exact⟨o,e,ex.2.1⟩
  ·obtain⟨o,_,_,_,e,ex,_⟩:=I.Ad p _ hk
   refine⟨⟨o,e,ex.1⟩,fun a e2=>?_⟩
   cases e2
   exact⟨o,e,ex.2.1⟩
 | _=>exact False.elim ty
noncomputable def QN (K:Frag)(T:String)(r:V->List V->Hp->VK->Prop)(to:TE):TE:=fun σ H Q=>to σ H fun x H1=>QM K T x H1/\r x [] H1 Q
noncomputable def tBM (K:Frag)(T:String)(r:V->List V->Hp->VK->Prop)(to:TE)(t:TA):TE:=fun σ H Q=>to σ H fun x H1=>QM K T x H1/\t σ H1 fun xs H2=>r x xs H2 Q
variable {o e:Expr}{es:List Expr}{to:TE}{t:TA}{name:Str}{apos AN:Pos}{T id:String}{r:V->List V->Hp->VK->Prop}
theorem oW (pa:PlainAttrs T)(slot:Slot T name id)(QO:typeOf (.builtin id)=pure (.type "method_descriptor"))(hm:OI X id r)(ho:PE X o to)
  (Dd:attributeBase o name X.env (eval o X.env)=eval o X.env:=by rfl) (EB:(apos.endLine == AN.line)=true:=by rfl):PE X (.Call (.Attribute o name apos) [] [] AN) (QN X.K T r to):=by
 intro pins s σ H Q I h
 refine wpAny_Call_method0_late Dd EB (aS (ho pins s σ H _ I h) fun v s1 Aj=>?_)
 obtain⟨x,H1,I1,r1,ty,q1⟩:=Aj
 obtain⟨h1,h2⟩:=sr I1 r1 ty
 exact⟨T,id,pa,slot,QO,h1,h2,Calls.callWith_builtin rfl (PySem.evalArgs_none (hm pins s1 σ H1 x [] v [] Q I1 r1 .nil q1))⟩
theorem cu (pa:PlainAttrs T)(slot:Slot T name id)(QO:typeOf (.builtin id)=pure (.type "method_descriptor"))(hm:OI X id r)(ho:PE X o to)(ha:PA X (e :: es) t)
  (Dd:attributeBase o name X.env (eval o X.env)=eval o X.env:=by rfl)
  (De:((backTo AN (starEach (e :: es) X.env)).all (fun x=>!x.1) && (backToKw AN (keywordEach [] X.env)).all (fun x=>x.1.isSome)
   && decide ((e :: es).length + ([]:List Keyword).length + (if ([]:List Keyword).isEmpty then 0 else 1) < 30))=true:=by rfl)
  (EB:(apos.endLine == AN.line)=true:=by rfl) (hs:starEach (e :: es) X.env=(false,eval e X.env) :: starEach es X.env:=by rfl) (HQ:(backTo AN (starEach es X.env)).any (·.1)=false:=by rfl) :
  PE X (.Call (.Attribute o name apos) (e :: es) [] AN) (tBM X.K T r to t):=by
 intro pins s σ H Q I h
 refine wpAny_Call_method_late Dd De EB rfl (aS (ho pins s σ H _ I h) fun v s1 Aj=>?_)
 obtain⟨x,H1,I1,r1,ty,q1⟩:=Aj
 obtain⟨h1,h2⟩:=sr I1 r1 ty
 refine⟨T,id,pa,slot,QO,h1,h2,?_⟩
 have hA:=ha AN pins s1 σ H1 _ I1 q1
 rw[hs]at hA ⊢
 refine Calls.callWith_builtin (by show(false || (backTo AN (starEach es X.env)).any (·.1))=false;rw[HQ]<;>rfl) (Calls.evalArgs_plain ?_)
 exact aS hA fun us s2 ⟨vs,H2,I2,r2,q2⟩=>hm pins s2 σ H2 x vs v us Q I2 r1 r2 q2
end
end L2
namespace L2
open PySem PySem.Spec PyProof.Rows
noncomputable def OJ (X:Cx)(id:String)(r:V->List V->Hp->VK->Prop):Prop :=
 ∀ (pins:List (Addr × Obj))(s:Shared)(σ:St)(H:Hp)(x:V)(xs:List V)(v:Value)(us:List Value)(Q:VK),Inv X pins σ H s->RelV x v->Vals xs us->r x xs H Q ->
  wpAny (model X.prog X.w) X.A (call (.builtin id) (v :: us)) (EP X pins σ Q) X.xe s
theorem Vals.one:∀ {x:V}{us:List Value},Vals [x] us->∃ u,us=[u]/\RelV x u:=by
 intro x us h
 cases h with
 | cons r t=>cases t;exact⟨_,rfl,r⟩
theorem Vals.zero:∀ {us:List Value},Vals [] us->us=[]
 | _, .nil=>rfl
theorem Vals.eraseIdx:∀ {xs:List V}{us:List Value}(i:Nat),Vals xs us->Vals (xs.eraseIdx i) (us.eraseIdx i)
 | _,_,_, .nil => .nil
 | _,_,0, .cons _ t=>t
 | _,_,i + 1, .cons r t => .cons r (Vals.eraseIdx i t)
theorem kH {α:Type}:∀ (l:List α)(i:Nat),(l.eraseIdx i).length <= l.length
 | [],_=>le_refl _
 | _ :: _,0=>le_succ _
 | _ :: r,i + 1=>Nat.succ_le_succ (kH r i)
section
variable {X:Cx}{pins:List (Addr × Obj)}{σ:St}{H:Hp}{s:Shared}{l b:Addr}{xs ys zs:List V}
theorem Inv.F0 {Ab its':List Value}{n:Nat}{f:Array Value->Array Value}{t':Nat}(I:Inv X pins σ H s)(hH:H l=some (.lst xs))
  (e:s.heap.get? l=some { cls := .type "list",data := .seq Ab.toArray n }) (hf:f Ab.toArray=its'.toArray) (hv:Vals ys its') (hz:ys.length <= sizeLine) :
  Inv X pins σ (upd H l (.lst ys)) { s with heap:=s.heap.update l (Obj.mapSeq f),toks:=t' }:=by
 have q:=PySem.IsL.update e f
 rw[hf]at q
 refine I.write (x:=l) (e:=l) (by rw[hH];exact trivial) (.inl rfl) (fun b' u hb hu=>(Heap.get?_update_other s.heap (Obj.mapSeq f) (Ne.symm hb)).trans hu) ⟨_,q⟩ ?_
 exact⟨hz,its',_,hv,q⟩
theorem Inv.QP {Ab:List Value}{t':Nat}(I:Inv X pins σ H s)(hv:Vals ys Ab)(hz:ys.length <= sizeLine) :
  Inv X pins σ (upd H s.heap.objs.size (.lst ys)) { s with heap:=s.heap.push { cls := .type "list",data := .seq Ab.toArray },toks:=t' } :=
 I.laid (fun _ _ q=>Heap.get?_push_of_some _ q) (le_refl _) ⟨hz,Ab,0,hv,Heap.get?_push_size _ rfl⟩
theorem Inv.fresh (I:Inv X pins σ H s):H s.heap.objs.size=none:=I.Ad.fresh (le_refl _)
theorem Inv.Df (I:Inv X pins σ H s)(hH:H l=some (.lst xs)):xs.length <= sizeLine/\∃ (Ab:List Value)(n:Nat),Vals xs Ab/\xs.length=Ab.length/\s.heap.get? l=some { cls := .type "list",data := .seq Ab.toArray n }:=by
 obtain⟨z,Ab,n,r,e⟩:=I.Ad l _ hH
 exact⟨z,Ab,n,r,r.length,e⟩
theorem uI {n:Nat}(h:n <= sizeLine):Builtin.List.listTooLong n=false:=by
 unfold Builtin.List.listTooLong
 exact decide_eq_false (by omega)
end
section
variable {X:Cx}
noncomputable def vY:V->List V->Hp->VK->Prop:=fun x vs H Q=>∃ l xs y,x = .ref l/\vs=[y]/\H l=some (.lst xs)/\xs.length < sizeLine/\Q .An (upd H l (.lst (xs ++ [y])))
theorem b7:OJ X "list.append" vY:=by
 intro pins s σ H x vs v us Q I rx rv h
 obtain⟨l,xs,y,rfl,rfl,hH,hz,q⟩:=h
 cases rx
 obtain⟨u,rfl,ru⟩:=rv.one
 obtain⟨z,Ab,n,r,hl,e⟩:=I.Df hH
 refine call_meets F.slot_list_append ⟨_,e,rfl⟩ F.entry_list_append (F.args_list_append_2 _ _) (PySem.list_append l Ab.toArray n u (by rw[size_toArray];omega)) ⟨e,?_⟩
 refine⟨.An,_,I.F0 (its':=Ab ++ [u]) hH e (by simp) (r.append (.cons ru .nil)) ?_,rfl,q⟩
 rw[length_append,length_singleton]
 omega
noncomputable def vX:V->List V->Hp->VK->Prop:=fun x vs H Q=>∃ l b xs zs,x = .ref l/\vs=[.ref b]/\H l=some (.lst xs)/\H b=some (.lst zs)/\xs.length + zs.length <= sizeLine/\Q .An (upd H l (.lst (xs ++ zs)))
theorem fR:OJ X "list.extend" vX:=by
 intro pins s σ H x vs v us Q I rx rv h
 obtain⟨l,b,xs,zs,rfl,rfl,hH,hB,hz,q⟩:=h
 cases rx
 obtain⟨u,rfl,ru⟩:=rv.one
 cases ru
 obtain⟨z,Ab,n,r,hl,e⟩:=I.Df hH
 obtain⟨z2,C0,n2,r2,Eu,e2⟩:=I.Df hB
 have hsz:Ab.toArray.size + C0.toArray.size <= sizeLine:=by rw[size_toArray,size_toArray];omega
 have K4:¬ (!Ab.toArray.isEmpty && Builtin.List.listTooLong (Ab.toArray.size + C0.toArray.size))=true:=by
  rw[uI hsz,Bool.and_false]
  exact Bool.false_ne_true
 refine call_meets F.slot_list_extend ⟨_,e,rfl⟩ F.entry_list_extend (F.args_list_extend_2 _ _)
  (AutoSeq1.list_extend_list_list_0 l Ab.toArray n b C0.toArray n2 K4 (by rw[size_toArray];omega) (by omega)) ⟨e,e2,?_⟩
 refine⟨.An,_,I.F0 (its':=Ab ++ C0) hH e (by simp) (r.append r2) ?_,rfl,q⟩
 rw[length_append]
 omega
noncomputable def yE:V->List V->Hp->VK->Prop:=fun x vs H Q=>∃ l xs i k y,x = .ref l/\vs=[.int i]/\H l=some (.lst xs)/\-(2 ^ 63) <= i/\i < 2 ^ 63/\seqIndex? i xs.length=some k/\xs[k]? = some y/\Q y (upd H l (.lst (xs.eraseIdx k)))
theorem uN:OJ X "list.pop" yE:=by
 intro pins s σ H x vs v us Q I rx rv h
 obtain⟨l,xs,i,k,y,rfl,rfl,hH,h1,h2,hk,hy,q⟩:=h
 cases rx
 obtain⟨u,rfl,ru⟩:=rv.one
 obtain⟨t,rfl⟩:=ru
 obtain⟨z,Ab,n,r,hl,e⟩:=I.Df hH
 obtain⟨w,hw,Dc⟩:=r.get hy
 refine call_meets F.slot_list_pop ⟨_,e,rfl⟩ F.entry_list_pop (F.args_list_pop_2 _ _)
  (MeetsSeq.list_pop_at l Ab.toArray n i t k w (fitsIndex_both h1 h2) (by rw[size_toArray,← hl];exact hk) (by rw[← Array.getElem?_toList];exact hw) (by rw[size_toArray];omega)) ⟨e,?_⟩
 refine⟨y,_,I.F0 (its':=Ab.eraseIdx k) hH e ?_ (r.eraseIdx k) ?_,Dc,q⟩
 ·show Ab.toArray.eraseIdxIfInBounds k=(Ab.eraseIdx k).toArray
  rw[List.eraseIdxIfInBounds_toArray]
 ·have:=kH xs k
  omega
noncomputable def yG:V->List V->Hp->VK->Prop:=fun x vs H Q=>∃ l xs,x = .ref l/\vs=[]/\H l=some (.lst xs)/\Q .An (upd H l (.lst []))
theorem mZ:OJ X "list.clear" yG:=by
 intro pins s σ H x vs v us Q I rx rv h
 obtain⟨l,xs,rfl,rfl,hH,q⟩:=h
 cases rx
 have OL:=rv.zero
 subst OL
 obtain⟨z,Ab,n,r,hl,e⟩:=I.Df hH
 refine call_meets F.slot_list_clear ⟨_,e,rfl⟩ F.entry_list_clear (F.args_list_clear_1 _) (AutoSeq1.list_clear_list_0 l Ab.toArray n (by rw[size_toArray];omega)) ⟨e,?_⟩
 exact⟨.An,_,I.F0 (its':=[]) (ys:=[]) hH e rfl .nil (zero_le _),rfl,q⟩
noncomputable def QQ:R2:=fun x y H Q=>∃ l b xs zs,x = .ref l/\y = .ref b/\H l=some (.lst xs)/\H b=some (.lst zs)/\xs.length + zs.length <= sizeLine/\∀ p,H p=none->Q (.ref p) (upd H p (.lst (xs ++ zs)))
theorem oY:eW X (binaryOp .Add) QQ:=by
 intro pins s σ H x y v u Q I rx ry h
 obtain⟨l,b,xs,zs,rfl,rfl,hH,hB,hz,q⟩:=h
 cases rx
 cases ry
 obtain⟨z,Ab,n,r,hl,e⟩:=I.Df hH
 obtain⟨z2,C0,n2,r2,Eu,e2⟩:=I.Df hB
 refine PySem.P.add_list e e2 ?_ (by rw[size_toArray,size_toArray];omega)
 have ea:Ab.toArray ++ C0.toArray=(Ab ++ C0).toArray:=by simp
 rw[ea]
 exact⟨.ref _,_,I.QP (t':=s.toks) (r.append r2) (by rw[length_append];omega),rfl,q _ I.fresh⟩
end
section
variable {prog:Program}{w:World}{A:Around}{E:Value->Shared->Prop}{s:Shared}
set_option maxRecDepth 100000 in
end
section
variable {X:Cx}
end
end L2
namespace Wx
open PySem PySem.W PySem.Calls PyProof.Rows
theorem iY {P:Params}{h:Heap}:∀ (ns:List Int)(vs:List Value),WellAll P h vs (ns.map WData.int)->IntsAre vs ns:=by
 intro ns
 induction ns with
 | nil =>
  intro vs w
  rw[map_nil]at w
  cases w
  exact .nil
 | cons n ns ih =>
  intro vs w
  rw[map_cons]at w
  cases w with
  | cons a b =>
   cases a
   exact .cons _ _ (ih _ b)
theorem rc {l:OpenLaw}{n:Nat}(hn:l.most=some n){P:Params}{h:Heap}{args:List WData}{vals:List Value}
  (F1:l.row.toRowW.claim.pre args=true) (Ew:WellAll P h vals args) :
  ∃ a vs ns,vals=[Value.ref a]/\args=[WData.list (ns.map WData.int)]/\h.get? a=some { cls := .type "list",data := .seq vs.toArray }/\IntsAre vs ns/\ns.length <= n:=by
 have hsh:WShape.hasAll [] args [.list .int]=true:=(pre_splitW F1).1
 have hc:l.pre.holds [] { args:=args } = true:=(pre_splitW F1).2
 obtain⟨d,r,rfl,h1,h2⟩:=hasAllW_cons hsh
 obtain rfl:=hasAllW_nil h2
 obtain⟨xs,rfl,h3⟩:=hasW_list h1
 obtain⟨ns,rfl⟩:=items_int h3
 have hlen:ns.length <= n:=by
  unfold OpenLaw.pre at hc
  have h4:(WTm.not (.lt (.lit (.int (n:Int))) (.len (.arg 0)))).holds [] { args:=[.list (ns.map .int)] } = true:=by
   have h4:=(holds_andW hc).1
   rw[hn]at h4
   exact h4
  have h5:=condW_of h4 (w_not (w_lt w_lit (w_len_list (w_arg rfl))))
  rw[length_map]at h5
  refine Nat.le_of_not_lt fun q=>?_
  have q':(n:Int) < ((ns.length:Nat):Int):=by omega
  first
   | (rw[decide_eq_true q']at h5;exact absurd h5 (by decide))
   | (simp at h5;omega)
 cases Ew with
 | cons w1 w2 =>
  cases w2
  cases w1 with
  | list ho Bt=>exact⟨_,_,ns,rfl,rfl,ho,iY ns _ Bt,hlen⟩
theorem rh (l:OpenLaw)(args:List WData):l.row.toRowW.claim.post args (.bool true) args=true :=
 postW_of (r:=l.row.toRowW) (X:=(true == true))
  (show WShape.has [] (.bool true) .bool=true by first | rfl | decide | simp[WShape.has,WShape.arms,WShape.armsAll])
  (show(WTm.eq .res (.lit (.bool true))).value [] { args:=args,res:=some (.bool true),after:=args } = some (.bool (true == true)) from w_eq_bool (w_res rfl) w_lit) rfl
theorem Dg {l:OpenLaw}{n:Nat}{q:Program}{loose:List Str}{XP:(Str->Option Value)->Heap->Prop}{YP:World->Heap->Prop}{d:DefRec}
  (hn:l.most=some n) (K5:d.params.defaults=[])
  (call:∀ (w:World)(s₀ s₁:Shared)(mg mb:Str->Option Value)(fa:Addr)(o:Obj)(pm cd doc:Value)(a:Addr)(vs:List Value)(ns:List Int),
   Ground q loose [] XP w s₀ mg mb s₁.heap->YP w s₁.heap ->
   s₁.heap.get? fa=some o->o.data = .func (docDef d.name d.params d.body d.scope pm cd doc)->s₁.heap.CodeRec cd d.name->mg d.name=some (.ref fa) ->
   s₁.heap.get? a=some { cls := .type "list",data := .seq vs.toArray }->IntsAre vs ns->ns.length <= n->s₁.gens = #[] ->
   codeAny (model l.prog w) callerA (.call (.ref fa) ⟨[.ref a],[]⟩) (fun r s'=>r = .ok (.ret (.bool true))/\OldK s₁.heap s'.heap/\s'.os=s₁.os/\AllBare s'.gens) s₁) :
  WalkO q loose XP YP l.row.toRowW d [] (fun f vs=>PySem.call f vs):=by
 intro w s₀ s₁ mg mb G Y fa o pm cd doc dV kV ho hd D7 hD hmg hg args vals as F1 hlay hrd Ew hlo
 obtain rfl:dV = .none:=Dflts.none hD K5
 obtain rfl:kV = .none:=Dflts.noKw hD
 obtain⟨a,vs,ns,rfl,rfl,HR,hints,hlen⟩:=rc hn F1 Ew
 refine enter_call (codeAny_mono (call w s₀ s₁ mg mb fa o pm cd doc a vs ns G Y ho (fd_plain hd) D7 hmg HR hints hlen hg) fun r s' hq=>?_)
 obtain⟨rfl,h2,h3,h4⟩:=hq
 exact⟨.inl ⟨.bool true, .bool true,[],rfl,fun _=>rfl, .bool true,rh l _,fun _=>⟨List.Pairwise.nil,fun _ hm=>(nomatch hm)⟩⟩,h2,h3,h4⟩
section
variable {prog:Program}{w:World}{A:Around}{E:Value->Shared->Prop}{s:Shared}{K:Frag}
end
end Wx
namespace L2
open PySem PySem.Spec PyProof.Rows
theorem ku:∀ {vs:List Value}{ns:List Int},IntsAre vs ns->Vals (ns.map V.int) vs
 | _,_, .nil => .nil
 | _,_, .cons n t h => .cons ⟨t,rfl⟩ (ku h)
noncomputable def zS (H:Hp):Prop:=∀ b,H b=none∨∃ o xs,H b=some (.BK o (.lst xs))
theorem uU {P:Program}{w:World}{K:Frag}{mg mb:Str->Option Value}{CX:pI}{k:Nat}{fa a:Addr}{fd:FuncData}{x:Str}{sp:Sp}{s₁:Shared}{vs:List Value}{ns:List Int}
  (KX:K.In s₁.heap) (HS:s₁.heap.Ns mainGlobals mg) (hb:s₁.heap.Ns builtinsNs mb) (hbb:∀ x:Str,x ≠ "__name__"->mb x=bootBuiltins x) (QR:s₁.heap.NoLimit) (hg:s₁.gens = #[])
  (ha:s₁.heap.get? a=some { cls := .type "list",data := .seq vs.toArray }) (hi:IntsAre vs ns) (hl:ns.length <= sizeLine) (hr:Ah k callerA)
  (F:∀ base:Heap,K.In base->base.Ns mainGlobals mg->zX P w K mg base CX k fa fd [x] sp) (K6:∀ (s:Shared)(u:Value),BindsTo s fd ⟨[u],[]⟩ [(x,u)])
  (Et:∀ H:Hp,zS H->Aa K H a (ns.map V.int)->sp [.ref a] H (fun v _=>v = .bl true) fun _ _ _=>False)
  (QS:∀ H e s',CX [] H s₁ (fun _ _ _=>False) e s'->False) :
  codeAny (model P w) callerA (.call (.ref fa) ⟨[.ref a],[]⟩) (fun r s'=>r = .ok (.ret (.bool true))/\OldK s₁.heap s'.heap/\s'.os=s₁.os/\AllBare s'.gens) s₁:=by
 have rv:=ku hi
 have QT:=hi.length
 have core:∀ H:Hp,zS H->Aa K H a (ns.map V.int)->Bl P w H s₁.heap->(∀ b,H b ≠ none->b=a)->(H a ≠ none->K.lookup a=none) ->
   codeAny (model P w) callerA (.call (.ref fa) ⟨[.ref a],[]⟩) (fun r s'=>r = .ok (.ret (.bool true))/\OldK s₁.heap s'.heap/\s'.os=s₁.os/\AllBare s'.gens) s₁:=by
  intro H hO hS Ad hA hK
  have base_of:∀ {b:Addr}{o:Obj},s₁.heap.get? b=some o->H b=none->(lM s₁.heap H).get? b=some o:=fun e n=>uX e n
  have Kz:∀ {b:Addr}{o:Obj}{es:Array DictEntry}{ep:Nat},s₁.heap.get? b=some o->o.data = .dict es ep->H b=none:=fun {b o es ep} e d=>by
   cases q:H b with
   | none=>rfl
   | some u =>
    have e':b=a:=hA b (by rw[q];simp)
    subst e'
    rw[ha]at e;cases e
    have d':Data.seq vs.toArray _=Data.dict es ep:=d
    cases d'
  have OM:∀ {b:Addr}{m:Str->Option Value},s₁.heap.Ns b m->(lM s₁.heap H).Ns b m:=fun {b m} ⟨o,es,ep,e,d,r⟩=>⟨o,es,ep,base_of e (Kz e d),d,r⟩
  have Wz:K.In (lM s₁.heap H):=fun b o e=>base_of (KX b o e) (by
   cases q:H b with
   | none=>rfl
   | some u =>
    have e':b=a:=hA b (by rw[q];simp)
    subst e'
    rw[hK (by rw[q];simp)]at e;cases e)
  have hM:Mod K mg (lM s₁.heap H):=⟨Wz,OM HS,⟨mb,OM hb,hbb⟩,let ⟨mc,h1,h2⟩:=QR; ⟨mc,OM h1,h2⟩⟩
  have e0:DA P w K mg (lM s₁.heap H) callerA [] s₁ H:=⟨rfl,hM,fun b o e=>wP e,le_of_eq (rO _ _),trivial,fun b hb=>absurd (show b ∈ ([]:List Addr) from hb) (by simp),Ad, .of_eq hg⟩
  refine codeAny_mono ((F _ Wz (OM HS)).run callerA [] s₁ H ⟨[.ref a],[]⟩ [.ref a] [.ref a] _ _ hr e0 (K6 s₁ (.ref a)) (.cons rfl .nil) (Et H hO hS)) fun r s' h=>?_
  cases r with
  | error e=>exact(QS H e s' h).elim
  | ok fl =>
   cases fl with
   | next=>exact False.elim h
   | brk=>exact False.elim h
   | cont=>exact False.elim h
   | ret u =>
    obtain⟨v,H',os,bare,un,QU,r',q⟩:=h
    have q':v = .bl true:=q
    subst q'
    obtain rfl:u=Value.bool true:=r'
    refine⟨rfl,OldK.of_keep fun b o e=>?_,os,bare⟩
    cases q:H b with
    | none=>exact un.keep b o e q (by intro z;exact absurd (show b ∈ ([]:List Addr) from z) (by simp)) (by simp)
    | some u =>
     rcases hO b with z | ⟨ob,xs,z⟩
     ·rw[q]at z;cases z
     ·have z2:=un.BU b ob _ z
      obtain⟨e1,_⟩:=Ad b _ z
      obtain⟨e2,_⟩:=QU b _ z2
      rw[e]at e1;cases e1
      exact e2
 cases hk:K.lookup a with
 | some o =>
  have e:=KX a o hk
  rw[ha]at e
  cases e
  refine core (fun _=>none) (fun _ => .inl rfl) (.inr ⟨_,vs.toArray,_,hk,rfl,rfl,rfl,by rw[size_toArray,QT];exact hl,by simpa using rv⟩) (fun b u z=>by have z':(none:Option HO)=some u:=z;cases z') (fun b z=>absurd rfl z) fun z=>absurd rfl z
 | none =>
  refine core (fun b=>if b=a then some (.BK { cls := .type "list",data := .seq vs.toArray } (.lst (ns.map V.int))) else none) (fun b=>?_) (.inl (.inr ⟨{ cls := .type "list",data := .seq vs.toArray },if_pos rfl⟩)) (fun b u z=>?_) (fun b z=>?_) fun _=>hk
  ·by_cases hb:b=a
   ·exact .inr ⟨_,_,if_pos hb⟩
   ·exact .inl (if_neg hb)
  ·by_cases hb:b=a
   ·have z':=(if_pos hb).symm.trans z
    cases z'
    subst hb
    exact⟨ha,by rw[length_map];exact hl,vs,_,rv,ha⟩
   ·have z':=(if_neg hb).symm.trans z
    cases z'
  ·by_cases hb:b=a
   ·exact hb
   ·exact absurd (if_neg hb) z
end L2
namespace L2
open PySem PySem.Spec PyProof.Rows
theorem F2 {l:PySem.W.OpenLaw}{n k:Nat}{q:Program}{loose:List Str}{XP:(Str->Option Value)->Heap->Prop}{YP:World->Heap->Prop}{d:DefRec}{K:Params->Frag}{CX:World->pI}{sp:World->Sp}{x:Str}
  (hn:l.most=some n) (Er:n <= sizeLine) (K5:d.params.defaults=[]) (hr:Ah k callerA)
  (hY:∀ (w:World)(h:Heap),YP w h->(K w.params).In h)
  (F:∀ (w:World)(mg:Str->Option Value)(fa:Addr)(h:Heap),(K w.params).In h->h.Ns mainGlobals mg->mg d.name=some (.ref fa) ->
   ∃ fd:FuncData,(∀ (s:Shared)(u:Value),BindsTo s fd ⟨[u],[]⟩ [(x,u)]) /\
    ∀ base:Heap,(K w.params).In base->base.Ns mainGlobals mg->zX l.prog w (K w.params) mg base (CX w) k fa fd [x] (sp w))
  (Et:∀ (w:World)(H:Hp)(a:Addr)(ns:List Int),ns.length <= n->zS H->Aa (K w.params) H a (ns.map V.int)->sp w [.ref a] H (fun v _=>v = .bl true) fun _ _ _=>False)
  (QS:∀ (w:World)(H:Hp)(s:Shared)(e:Value)(s':Shared),CX w [] H s (fun _ _ _=>False) e s'->False) :
  PySem.W.WalkO q loose XP YP l.row.toRowW d [] (fun f vs=>PySem.call f vs):=by
 refine Wx.Dg hn K5 fun w s₀ s₁ mg mb fa o pm cd doc a vs ns G Y ho hd D7 hmg HR hints hlen hg=>?_
 have KX:=hY w _ Y
 obtain⟨fd,hb,hF⟩:=F w mg fa _ KX G.T.g hmg
 exact uU KX G.T.g G.T.b G.T.builtins G.T.nolimit hg HR hints (le_trans hlen Er) hr hF hb (fun H hO hS=>Et w H a ns hlen hO hS) fun H e s'=>QS w H s₁ e s'
end L2
namespace L2
open PySem PySem.Spec PyProof.Rows
noncomputable def ay (s:Stmt)(j:Nat):Stmt:=match s with
 | .ClassDef _ _ _ body _ _ _ _ _ _ _=>body.getD j (.Pass ⟨0,0,0,0⟩)
 | _ => .Pass ⟨0,0,0,0⟩
noncomputable def bO (s:Stmt):Arguments:=match s with
 | .FunctionDef _ a _ _ _ _ _ _ _ _=>a
 | _=>{ posonlyargs:=[],args:=[],vararg:=none,kwonlyargs:=[],kw_defaults:=[],kwarg:=none,defaults:=[] }
noncomputable def aG (s:Stmt):List Stmt:=match s with
 | .FunctionDef _ _ b _ _ _ _ _ _ _=>b
 | _=>[]
noncomputable def ai (s:Stmt):Scope:=match s with
 | .FunctionDef _ _ _ _ _ _ sc _ _ _=>sc
 | _=>{ kind := .function,names:=[],isGenerator:=false,isCoroutine:=false }
noncomputable abbrev aC:pI:=fun _ _ _ _ _ _=>False
noncomputable abbrev E0:XK:=fun _ _ _=>False
theorem ap {X:Cx}:dP aC X E0:=fun _ _ _ _ _ _ _ h=>h.elim
structure As (K:Frag)(x qual:Str)(st:Stmt)(f:Addr)(fd:FuncData):Prop where
 ex:∃ (oc:Value)(od:Option Addr)(kV doc pm:Value)(an:Option Addr)(cdv ct:Value)(DB:Array (Option Value)),
  fd=fnOf x qual (bO st) (aG st) (ai st) .none kV doc pm an cdv ct/\K.lookup f=some ⟨oc,od, .func fd,DB⟩/\codeIn K cdv qual=true
 kp:keepIn K (.ref f)=true
section
variable {P:Program}{w:World}{K:Frag}{mg:Str->Option Value}{base:Heap}
theorem As.ok {x qual:Str}{st:Stmt}{f:Addr}{fd:FuncData}{N ps:List Str}{k:Nat}{sp:Sp}(F:As K x qual st f fd)(S:ao N ps (ai st))(len:∀ vs H Q E,sp vs H Q E->vs.length=ps.length)
  (Ck:∀ (cdv:Value)(A:Around)(outer:List Env)(s:Shared)(H:Hp)(vs:List V)(Q:VK)(E:XK),Ah k (A.deeper (envOfC qual (ai st) s.heap.objs.size f cdv))->sp vs H Q E ->
   ∃ t,Cy (iZ aC P w K mg base N qual (ai st) f cdv A outer s H E).OA (aG st) t/\t { nx:=fun _ H'=>Q .An H',rt:=Q } (start N vs) H):zX P w K mg base aC (k + 1) f fd ps sp:=by
 obtain⟨oc,od,kV,doc,pm,an,cdv,ct,DB,rfl,lk,D7⟩:=F.ex
 refine vc lk D7 S len fun A outer s H vs Q E hr Et=>?_
 obtain⟨t,h,q⟩:=Ck cdv A outer s H vs Q E hr Et
 exact⟨t,h.OA,q⟩
theorem As.binds {x qual:Str}{st:Stmt}{f:Addr}{fd:FuncData}{ps:List Str}(F:As K x qual st f fd)
  (h:∀ (kV doc pm:Value)(an:Option Addr)(cdv ct:Value)(us:List Value),us.length=ps.length->bindArgs (fnOf x qual (bO st) (aG st) (ai st) .none kV doc pm an cdv ct) ⟨us,[]⟩ = pure (ps.zip us)):Binds K fd ps []:=by
 obtain⟨oc,od,kV,doc,pm,an,cdv,ct,DB,rfl,lk,D7⟩:=F.ex
 exact .all (h kV doc pm an cdv ct)
theorem jO {x qual:Str}{st:Stmt}{f:Addr}{oc:Value}{od an:Option Addr}{DB:Array (Option Value)}{kV doc pm cdv ct:Value}(l:K.lookup f=some ⟨oc,od, .func (fnOf x qual (bO st) (aG st) (ai st) .none kV doc pm an cdv ct),DB⟩)
  (c:codeIn K cdv qual=true) (k:keepIn K (.ref f)=true):As K x qual st f (fnOf x qual (bO st) (aG st) (ai st) .none kV doc pm an cdv ct):=⟨⟨oc,od,kV,doc,pm,an,cdv,ct,DB,rfl,l,c⟩,k⟩
end
theorem kK {A:Around}{k:Nat}(hr:Ah k A):A.units + 1 < cLine:=lt_of_le_of_lt (Nat.add_le_add_left (by decide:1 <= 64) _) hr.units
section
variable {X:Cx}
theorem pv (i:Nat){x:Str}{pos:Pos}(hN:X.N[i]? = some x:=by rfl)(hv:O4 X.env.scope x:=by first | exact Or.inl rfl | exact Or.inr (Or.inl rfl) | exact Or.inr (Or.inr rfl))(hd:(x == ("__debug__":Str))=false:=by decide)
  (D7:(x == ("__classdict__":Str))=false:=by decide):PE X (.Name x pos) (oy i):=yJ hN hv hd D7
end
theorem aJ {A B:Prop}(h:B):if false=true then A else B:=by
 rw[if_neg Bool.false_ne_true]
 exact h
theorem aN {A B:Prop}(h:A):if true=true then A else B:=by
 rw[if_pos rfl]
 exact h
theorem QV {c A B:Prop} [Decidable c] (h1:c->A) (h2:¬ c->B):if c then A else B:=by
 by_cases h:c
 ·rw[if_pos h]
  exact h1 h
 ·rw[if_neg h]
  exact h2 h
noncomputable def zW (H H':Hp):Prop:=∀ b o,H b=some o->H' b=some o
theorem zW.refl (H:Hp):zW H H:=fun _ _ h=>h
theorem zW.trans {H H1 H2:Hp}(a:zW H H1)(b:zW H1 H2):zW H H2:=fun c o h=>b c o (a c o h)
theorem zW.free {H H':Hp}(e:zW H H'){l:Addr}(h:H' l=Option.none):H l=Option.none:=by
 cases q:H l with
 | none=>rfl
 | some o =>
  rw[e l o q]at h
  cases h
theorem zW.seq {K:Frag}{H H':Hp}{a:Addr}{xs:List V}(e:zW H H')(h:Aa K H a xs):Aa K H' a xs:=by
 rcases h with (h | ⟨o,h⟩) | h
 ·exact .inl (.inl (e _ _ h))
 ·exact .inl (.inr ⟨o,e _ _ h⟩)
 ·exact .inr h
end L2
namespace Yd
open PySem
theorem pC (a b:Nat):Builtin.bitAnd (a:Int) (b:Int)=((a &&& b:Nat):Int):=by
 unfold Builtin.bitAnd
 simp
theorem cX (x:Int):Builtin.bitNot x = -x - 1:=by
 unfold Builtin.bitNot
 omega
theorem Eb (a b:Nat):Builtin.bitOr (a:Int) (b:Int)=((a ||| b:Nat):Int):=by
 unfold Builtin.bitOr
 have h1:Builtin.bitNot (a:Int) = -(a:Int) - 1:=cX _
 have h2:Builtin.bitNot (b:Int) = -(b:Int) - 1:=cX _
 unfold Builtin.bitAnd
 rw[h1,h2]
 have e1:decide (0 <= -(a:Int) - 1)=false:=decide_eq_false (by omega)
 have e2:decide (0 <= -(b:Int) - 1)=false:=decide_eq_false (by omega)
 rw[e1,e2]
 simp only[]
 have e3:Builtin.bitNot (-(a:Int) - 1)=a:=by rw[cX];omega
 have e4:Builtin.bitNot (-(b:Int) - 1)=b:=by rw[cX];omega
 rw[e3,e4]
 simp only[toNat_natCast]
 rw[cX,cX]
 omega
noncomputable def AE:List Nat->Nat->Nat
 | [],s=>s
 | n :: r,s=>AE r (s ||| 2 ^ n)
theorem Bu (k:Nat):∀ (l:List Nat)(s:Nat),(AE l s).testBit k=(s.testBit k || decide (k ∈ l))
 | [],s=>by simp[AE]
 | n :: r,s=>by
  unfold AE
  rw[Bu k r]
  rw[Nat.testBit_or,Nat.testBit_two_pow]
  by_cases h:n=k
  ·subst h;simp
  ·have:¬ k=n:=fun z=>h z.symm
   simp[h,this]
theorem EC (l r:List Nat)(s:Nat):AE (l ++ r) s=AE r (AE l s):=by
 induction l generalizing s with
 | nil=>rfl
 | cons n t ih=>exact ih _
noncomputable def kq (l:List Nat):Nat->Nat
 | 0=>0
 | n + 1=>if n ∈ l then kq l n + 2 ^ n else kq l n
theorem CH (l:List Nat):∀ n,kq l n < 2 ^ n
 | 0=>by simp[kq]
 | n + 1=>by
  have:=CH l n
  unfold kq
  rw[Nat.pow_succ]
  split<;>omega
theorem n9 (l:List Nat)(k:Nat):∀ n,(kq l n).testBit k=decide (k < n/\k ∈ l)
 | 0=>by simp[kq]
 | n + 1=>by
  have ih:=n9 l k n
  have AU:=CH l n
  unfold kq
  by_cases hn:n ∈ l
  ·rw[if_pos hn,Nat.add_comm]
   rcases Nat.lt_trichotomy k n with h | h | h
   ·rw[Nat.testBit_two_pow_add_gt h,ih]
    simp[h,Nat.lt_succ_of_lt h]
   ·subst h
    rw[Nat.testBit_two_pow_add_eq,testBit_lt_two_pow AU]
    simp[hn]
   ·have hb:2 ^ n + kq l n < 2 ^ k:=by
     have:2 ^ (n + 1) <= 2 ^ k:=pow_le_pow_right (by decide) h
     rw[Nat.pow_succ]at this
     omega
    rw[testBit_lt_two_pow hb]
    have:¬ k < n + 1:=by omega
    simp[this]
  ·rw[if_neg hn,ih]
   by_cases h:k=n
   ·subst h;simp[hn]
   ·have:k < n↔k < n + 1:=by omega
    simp[this]
theorem F3 {l:List Nat}{n:Nat}(h:∀ k ∈ l,k < n):kq l n=AE l 0:=by
 apply Nat.eq_of_testBit_eq
 intro k
 rw[n9,Bu]
 by_cases hk:k ∈ l
 ·simp[hk,h k hk]
 ·simp[hk]
noncomputable def DC (m b:Nat):List Nat:=(List.range b).filter fun k=>m.testBit k
theorem Dh {m b k:Nat}(h:m < 2 ^ b):k ∈ DC m b↔m.testBit k=true:=by
 unfold DC
 rw[mem_filter,mem_range]
 constructor
 ·exact fun z=>z.2
 ·intro z
  refine⟨?_,z⟩
  by_cases hk:k < b
  ·exact hk
  ·have:m < 2 ^ k:=lt_of_lt_of_le h (pow_le_pow_right (by decide) (by omega))
   rw[testBit_lt_two_pow this]at z
   cases z
theorem Ec (m b:Nat):(DC m b).Pairwise (· < ·):=List.Pairwise.filter _ pairwise_lt_range
theorem Di:∀ {l r:List Int},l.Pairwise (· < ·)->r.Pairwise (· < ·)->(∀ k,k ∈ l↔k ∈ r)->l=r
 | [],[],_,_,_=>rfl
 | [],y :: r,_,_,h=>by
  have:=(h y).mpr mem_cons_self
  cases this
 | x :: l,[],_,_,h=>by
  have:=(h x).mp mem_cons_self
  cases this
 | x :: l,y :: r,hl,hr,h=>by
  obtain⟨hx,DD⟩:=pairwise_cons.mp hl
  obtain⟨hy,G9⟩:=pairwise_cons.mp hr
  have e:x=y:=by
   rcases mem_cons.mp ((h x).mp mem_cons_self) with z | z
   ·exact z
   ·rcases mem_cons.mp ((h y).mpr mem_cons_self) with z' | z'
    ·exact z'.symm
    ·have:=hx y z'
     have:=hy x z
     omega
  subst e
  congr 1
  refine Di DD G9 fun k=>?_
  constructor
  ·intro z
   rcases mem_cons.mp ((h k).mp (mem_cons_of_mem _ z)) with q | q
   ·have:=hx k z;omega
   ·exact q
  ·intro z
   rcases mem_cons.mp ((h k).mpr (mem_cons_of_mem _ z)) with q | q
   ·have:=hy k z;omega
   ·exact q
theorem DO (m:Nat):m < 2 ^ (Builtin.Int.intBits (m:Int)):=by
 unfold Builtin.Int.intBits
 by_cases h:m=0
 ·subst h;simp
 ·have e:((m:Int) == 0)=false:=by simp[h]
  rw[e]
  simp only[Bool.false_eq_true,if_false,Int.natAbs_natCast]
  exact Nat.lt_log2_self
theorem bits_le {m b:Nat}(h:m < 2 ^ b):Builtin.Int.intBits (m:Int) <= b:=by
 unfold Builtin.Int.intBits
 by_cases h0:m=0
 ·subst h0;simp
 ·have e:((m:Int) == 0)=false:=by simp[h0]
  rw[e]
  simp only[Bool.false_eq_true,if_false,Int.natAbs_natCast]
  have:=(Nat.log2_lt h0).mpr h
  omega
theorem DP (m k:Nat):decide (Builtin.bitAnd ((m:Int) / 2 ^ k) 1=1)=m.testBit k:=by
 have e:((m:Int) / 2 ^ k)=((m / 2 ^ k:Nat):Int):=by
  rw[Int.natCast_ediv,Int.natCast_pow]
  rfl
 rw[e,show (1:Int)=((1:Nat):Int) from rfl,pC,Nat.testBit_eq_decide_div_mod_eq]
 rw[Nat.and_one_is_mod]
 congr 1
 exact propext ⟨fun z=>by exact_mod_cast z,fun z=>by exact_mod_cast z⟩
end Yd
namespace L2
open PySem PySem.Spec PyProof.Rows
noncomputable def ca (cells:List (Str × Addr)):List (Str × NameKind)->List (Str × Addr)->List (Str × Addr)
 | [],acc=>acc
 | (n,k) :: r,acc=>if k == .free then ca cells r ((n,(cells.lookup n).getD 0) :: acc) else ca cells r acc
theorem gi {scope:Scope}{env:Env}(h:∀ y ∈ scope.names,y.2 = .free->∃ c,env.cells.lookup y.1=some c) :
  closureFor scope env=pure (ca env.cells scope.names []):=by
 unfold closureFor
 have key:∀ (names:List (Str × NameKind))(acc:List (Str × Addr)),(∀ y ∈ names,y.2 = .free->∃ c,env.cells.lookup y.1=some c) ->
   (forIn names acc fun (x:Str × NameKind)(cs:List (Str × Addr))=>(match x with
    | (name,kind)=>if (kind == NameKind.free)=true then do
      let c ← cellOf env name
      pure (ForInStep.yield ((name,c) :: cs))
     else pure (ForInStep.yield cs):Sem (ForInStep (List (Str × Addr)))))=(pure (ca env.cells names acc):Sem (List (Str × Addr))):=by
  intro names
  induction names with
  | nil=>intro acc _;rfl
  | cons y r ih =>
   intro acc hy
   obtain⟨n,k⟩:=y
   rw[List.forIn_cons]
   by_cases hk:(k == NameKind.free)=true
   ·obtain⟨c,hc⟩:=hy (n,k) mem_cons_self (by simpa using hk)
    have e1:cellOf env n=pure c:=by
     unfold cellOf
     simp only[]at hc
     rw[hc]
    simp only[hk,if_true,e1,pure_bind]
    rw[ih _ fun z hz=>hy z (mem_cons_of_mem _ hz)]
    unfold ca
    simp only[]at hc
    rw[if_pos hk,hc]
    conv=>rhs;unfold ca
    rfl
   ·simp only[hk,Bool.false_eq_true,if_false,pure_bind]
    rw[ih _ fun z hz=>hy z (mem_cons_of_mem _ hz)]
    conv=>rhs;unfold ca
    rw[if_neg hk]
 exact(congrArg (fun (m:Sem (List (Str × Addr)))=>m >>= fun z=>pure z) (key scope.names [] h)).trans (pure_bind _ _)
theorem dN {cells:List (Str × Addr)}{x:Str}{c:Addr}:∀ (names:List (Str × NameKind))(acc:List (Str × Addr)),(∀ y ∈ names,y.2 = .free->∃ c,cells.lookup y.1=some c) ->
  (∀ c,acc.lookup x=some c->cells.lookup x=some c)->(ca cells names acc).lookup x=some c->cells.lookup x=some c
 | [],acc,_,ha,e=>ha c e
 | (n,k) :: r,acc,hn,ha,e=>by
  unfold ca at e
  have hr:=fun z hz=>hn z (mem_cons_of_mem _ hz)
  split at e
  ·rename_i hk
   refine dN r _ hr (fun c' e'=>?_) e
   rw[lookup_cons]at e'
   split at e'
   ·rename_i hx
    have C7:x=n:=by simpa using hx
    subst C7
    obtain⟨c0,HU⟩:=hn (x,k) mem_cons_self (by simpa using hk)
    simp only[]at HU
    rw[HU]at e' ⊢
    exact e'
   ·exact ha c' e'
  ·exact dN r acc hr ha e
theorem eU {cells:List (Str × Addr)}{x:Str}:∀ (names:List (Str × NameKind))(acc:List (Str × Addr)),((x,NameKind.free) ∈ names∨∃ c,acc.lookup x=some c) ->
  ∃ c,(ca cells names acc).lookup x=some c
 | [],acc,h=>by
  rcases h with h | h
  ·cases h
  ·exact h
 | (n,k) :: r,acc,h=>by
  unfold ca
  split
  ·rename_i hk
   refine eU r _ ?_
   rcases h with h | ⟨c,h⟩
   ·rcases mem_cons.mp h with h | h
    ·refine .inr ⟨(cells.lookup n).getD 0,?_⟩
     injection h with h1 h2
     rw[lookup_cons,h1]
     simp
    ·exact .inl h
   ·refine .inr ?_
    rw[lookup_cons]
    split
    ·exact⟨_,rfl⟩
    ·exact⟨c,h⟩
  ·rename_i hk
   refine eU r _ ?_
   rcases h with h | h
   ·rcases mem_cons.mp h with h | h
    ·injection h with h1 h2
     subst h2
     exact absurd rfl hk
    ·exact .inl h
   ·exact .inr h
theorem ik {env:Env}{x:Str}:∀ {names:List (Str × NameKind)},names.lookup x=some .free ->
  (names.map fun (n,k)=>if (k == NameKind.free && env.scope.kind == .function && env.kindOf n == some .cell) then (n,NameKind.cell) else (n,k)).lookup x=some .cell ∨
  (names.map fun (n,k)=>if (k == NameKind.free && env.scope.kind == .function && env.kindOf n == some .cell) then (n,NameKind.cell) else (n,k)).lookup x=some .free
 | [],h=>by simp at h
 | (n,k) :: r,h=>by
  have ih:=@ik env x r
  rw[map_cons]
  cases hx:x == n with
  | true =>
   rw[lookup_cons,hx]at h
   cases h
   simp only[]
   split
   ·left;rw[lookup_cons,hx]
   ·right;rw[lookup_cons,hx]
  | false =>
   rw[lookup_cons,hx]at h
   simp only[]
   split
   ·rw[lookup_cons,hx];exact ih h
   ·rw[lookup_cons,hx];exact ih h
theorem fu {env:Env}{x:Str}{k:NameKind}(hk:k = .cell∨k = .free):∀ {names:List (Str × NameKind)},(∀ y ∈ names,y.2 ≠ .cell) ->
  (names.map fun (n,k)=>if (k == NameKind.free && env.scope.kind == .function && env.kindOf n == some .cell) then (n,NameKind.cell) else (n,k)).lookup x=some k->(x,NameKind.free) ∈ names
 | [],_,h=>by simp at h
 | (n,k') :: r,hc,h=>by
  have ih:=@fu env x k hk r fun y hy=>hc y (mem_cons_of_mem _ hy)
  rw[map_cons]at h
  simp only[]at h
  cases hx:x == n with
  | true =>
   have e:x=n:=by simpa using hx
   subst e
   split at h
   ·rename_i q
    have q':k' = .free:=by
     have:=(Bool.and_eq_true _ _ ▸ q:_/\_).1
     have:=(Bool.and_eq_true _ _ ▸ this:_/\_).1
     simpa using this
    rw[q']
    exact mem_cons_self
   ·rw[lookup_cons,hx]at h
    have e2:k' = k:=Option.some.inj h
    rcases hk with z | z
    ·exact absurd (e2.trans z) (hc (x,k') mem_cons_self)
    ·rw[e2,z];exact mem_cons_self
  | false =>
   split at h
   ·rw[lookup_cons,hx]at h;exact mem_cons_of_mem _ (ih h)
   ·rw[lookup_cons,hx]at h;exact mem_cons_of_mem _ (ih h)
section
variable {prog:Program}{w:World}{A:Around}{R:Result->Shared->Prop}{s:Shared}
noncomputable abbrev lf (ifs:List Expr)(env:Env):Sem Bool :=
 forIn ifs true fun c r=>if r=true then do let ok ← isTrue c env (eval c env);pure (ForInStep.yield ok) else pure (ForInStep.yield r)
theorem nK {elt tg iter:Expr}{ifs:List Expr}{scope:Scope}{pos:Pos}{it acc:Value}{env:Env}(I:Nat->Shared->Prop)
  (turn:∀ n s,I n s->wpAny (model prog w) A (pyNext it) (fun r s1=>match r with
   | none=>R (.ok .next) s1
   | some v=>wpAny (model prog w) A (letOwnedTupleGo tg it v) (fun _ s2=>wpAny (model prog w) A (assign tg env v) (fun _ s3 =>
     wpAny (model prog w) A (lf ifs env) (fun ok s4 =>
      if ok=true then wpAny (model prog w) A (eval elt env) (fun x s5 =>
       wpAny (model prog w) A (call (.builtin "list.append") [acc,x]) (fun _ s6=>∃ m,m < n/\I m s6) (fun _ _=>False) s5) (fun _ _=>False) s4
      else ∃ m,m < n/\I m s4) (fun _ _=>False) s3) (fun _ _=>False) s2) (fun _ _=>False) s1) (fun _ _=>False) s)
  (n:Nat) (h:I n s):codeAny (model prog w) A (.compLoop (.ListComp elt [⟨tg,iter,ifs,0⟩] scope pos) 0 it acc env) R s:=by
 refine codeAny_loop rfl I (fun n s hI=>?_) n h
 have no:∀ {E':Value->Shared->Prop}(e:Value)(s':Shared),False->E' e s':=fun _ _ z=>z.elim
 show wpAny _ A (Sem.onRaise (compTurn (.ListComp elt [⟨tg,iter,ifs,0⟩] scope pos) 0 it acc env) fun x=>do
  noteFrame x env
  theTreesLotGoes x) _ _ s
 refine wpAny_noted ?_
 rw[compTurn_list]
 refine wpAny_bind (wpAny_standAt (wpAny_bind (wpAny_mono (turn n s hI) (fun r s1 h1=>?_) no)))
 cases r with
 | none=>exact wpAny_pure h1
 | some v =>
  refine wpAny_bind (wpAny_mono h1 (fun _ s2 h2=>?_) no)
  refine wpAny_bind (wpAny_mono h2 (fun _ s3 h3=>?_) no)
  refine wpAny_bind (wpAny_mono h3 (fun ok s4 h4=>?_) no)
  cases ok with
  | false=>exact wpAny_pure ⟨rfl,h4⟩
  | true =>
   refine wpAny_bind (wpAny_bind (wpAny_mono h4 (fun x s5 h5=>?_) no))
   exact wpAny_bind (wpAny_mono h5 (fun _ s6 h6=>wpAny_pure (wpAny_pure ⟨rfl,h6⟩)) no)
end
noncomputable def K7 (X:Cx)(ifs:List Expr)(t:TT):Prop :=
 ∀ (pins:List (Addr × Obj))(s:Shared)(σ:St)(H:Hp)(Q:Bool->Hp->Prop),Inv X pins σ H s->t σ H Q->wpAny (model X.prog X.w) X.A (lf ifs X.env) (TP X pins σ Q) X.xe s
noncomputable def lg:TT:=fun _ H Q=>Q true H
theorem bE {X:Cx}:K7 X [] lg:=fun _ _ _ H _ I h=>wpAny_pure ⟨H,I,h⟩
theorem c7 {X:Cx}{c:Expr}{t:TT}(h:PT X c t):K7 X [c] t:=fun pins s σ H Q I hw=>by
 simp only[lf,List.forIn_cons,List.forIn_nil,if_true]
 exact wpAny_bind (wpAny_bind (aS (h pins s σ H Q I hw) fun b s' hb=>wpAny_pure (wpAny_pure hb)))
structure Ba (N:List Str)(sc scope:Scope)(capN:List Str)(cap:List Nat):Prop where
 kind:scope.kind = .function
 DE:∀ y ∈ scope.names,y.2 ≠ .cell
 loc:∀ y ∈ scope.names,y.2 = .local->scope.names.lookup y.1=some .local
 free:∀ y ∈ scope.names,y.2 = .free->sc.names.lookup y.1=some .cell∨sc.names.lookup y.1=some .free
 len:cap.length=capN.length
 cap:∀ p ∈ capN.zip cap,scope.names.lookup p.1=some .free/\N[p.2]? = some p.1
noncomputable abbrev bX (X:Cx)(scope:Scope)(N:List Str)(C:Addr)(s:Shared)(H:Hp)(fp:List Addr):Cx :=
 { X with N:=N,s₀:=s,H₀:=H,env:=compEnvC scope (ca X.env.cells scope.names []) C X.env,outer:=X.stack,stack:=X.stack,ex:=fp,fn:=fun _=>false,pn:=[],xe:=fun _ _=>False }
noncomputable def iN (n:Nat)(cap:List Nat)(σ:St):St:=List.replicate n none ++ cap.map fun j=>(σ[j]?).join
theorem nQ (n:Nat)(cap:List Nat)(σ:St):(iN n cap σ).length=n + cap.length:=by simp[iN]
section
variable {X:Cx}{pins:List (Addr × Obj)}{σ:St}{H:Hp}{s:Shared}{scope:Scope}{own capN:List Str}{cap:List Nat}{fp:List Addr}
theorem Ba.HV (B:Ba X.N X.env.scope scope capN cap)(ok:X.Ok):∀ y ∈ scope.names,y.2 = .free->∃ c,X.env.cells.lookup y.1=some c:=fun y hy hf=>ok.has y.1 (B.free y hy hf)
theorem Ba.cell (B:Ba X.N X.env.scope scope capN cap)(ok:X.Ok){x:Str}{c:Addr}(h:(ca X.env.cells scope.names []).lookup x=some c):X.env.cells.lookup x=some c :=
 dN scope.names [] (B.HV ok) (fun _ e=>by cases e) h
theorem Ba.locs (I:Inv X pins σ H s)(B:Ba X.N X.env.scope scope capN cap){h':Heap}(k:∀ x c v,X.env.cells.lookup x=some c->s.heap.IsCell c v->h'.IsCell c v)(C:Addr)(m0:Str->Option Value) :
  ∀ (i:Nat)(x:Str)(v:V),(own ++ capN)[i]? = some x->(iN own.length cap σ)[i]? = some (some v)->∃ u,RelV v u/\Look (compEnvC scope (ca X.env.cells scope.names []) C X.env) h' m0 x u:=by
 intro i x v e1 e2
 have hi:own.length <= i:=by
  by_cases q:own.length <= i
  ·exact q
  ·unfold iN at e2
   rw[List.getElem?_append_left (by simp;omega),List.getElem?_replicate,if_pos (by omega)]at e2
   cases e2
 have e1':capN[i - own.length]? = some x:=by
  rwa [List.getElem?_append_right hi]at e1
 unfold iN at e2
 rw[List.getElem?_append_right (by simpa using hi),length_replicate,List.getElem?_map]at e2
 cases ej:cap[i - own.length]? with
 | none=>rw[ej]at e2;cases e2
 | some j =>
  rw[ej]at e2
  have ON:(σ[j]?).join=some v:=Option.some.inj e2
  have e3':σ[j]? = some (some v):=by
   cases q:σ[j]? with
   | none=>rw[q]at ON;cases ON
   | some u=>rw[q]at ON;exact congrArg some ON
  have hz:(x,j) ∈ capN.zip cap:=by
   refine List.mem_iff_getElem?.mpr ⟨i - own.length,?_⟩
   rw[List.getElem?_zip_eq_some]
   exact⟨e1',ej⟩
  obtain⟨c1,c2⟩:=B.cap (x,j) hz
  have W0:(x,NameKind.free) ∈ scope.names:=PySem.mem_of_lookup c1
  have hX:=B.free _ W0 rfl
  obtain⟨m,hm,hl⟩:=I.loc
  obtain⟨u,ru,lk⟩:=hl j x v c2 e3' (hX.elim (fun z => .inr (.inl z)) fun z => .inr (.inr z))
  refine⟨u,ru, .inr ⟨ik c1,?_⟩⟩
  rcases lk with ⟨q,_⟩ | ⟨_,c,ec,ic⟩
  ·have q':X.env.scope.names.lookup x=some .local:=q
   rcases hX with z | z
   ·rw[z]at q';cases q'
   ·rw[z]at q';cases q'
  ·obtain⟨c',W3⟩:=eU (cells:=X.env.cells) (x:=x) scope.names [] (.inl W0)
   have:=B.cell I.ok W3
   rw[ec]at this
   cases this
   exact⟨c,W3,k x c _ ec ic⟩
theorem Inv.blk {h4:Heap}{tk:Nat}{m0:Str->Option Value}{C:Addr}(I:Inv X pins σ H s)(B:Ba X.N X.env.scope scope capN cap)(hC:s.heap.objs.size <= C)(k:∀ b o,s.heap.get? b=some o->h4.get? b=some o)
  (hn:h4.Ns C m0) (hf:∀ b ∈ fp,fX X pins H b) (AU:∀ b ∈ fp,b < s.heap.objs.size) :
  Inv (bX X scope (own ++ capN) C s H fp) [] (iN own.length cap σ) H { s with heap:=h4,toks:=tk }:=by
 have QW:∀ b ∈ fp,b ∉ lP X.stack:=fun b hb z=>by
  obtain⟨_,f1,f2,_⟩:=hf b hb
  rcases mem_cons.mp (I.BF b z) with e | e
  ·exact f1 e
  ·exact f2 e
 have hinv:∀ x,((relabel scope X.env).names.lookup x=some .cell∨(relabel scope X.env).names.lookup x=some .free)->(x,NameKind.free) ∈ scope.names:=fun x hx=>by
  rcases hx with q | q
  ·exact fu (.inl rfl) B.DE q
  ·exact fu (.inr rfl) B.DE q
 refine⟨⟨I.ok.mod,B.kind,I.ok.glob,I.ok.blt,hC,fun x y c h1 h2=>I.ok.inj x y c (B.cell I.ok h1) (B.cell I.ok h2),fun x hx=>eU scope.names [] (.inl (hinv x hx)),fun _ _ z=>absurd z Bool.false_ne_true,I.ok.hd,I.ok.frames, .inl rfl,
  fun b hb=>⟨ne_of_lt (lt_of_lt_of_le (AU b hb) hC),fun x c e=>(hf b hb).2.2.2.2.1 x c (B.cell I.ok e)⟩,I.bs,le_trans I.ok.Fw I.sz,fun b o e hb=>?_,fun b hb=>QW b hb,I.stack,I.CF⟩,
  rfl,I.bare,Un.kept k,⟨m0,hn,fun i x v e1 e2 _=>B.locs I (fun _ _ _ _ q=>q.keeps k) C m0 i x v e1 e2⟩,fun x c e=>?_,I.Ad.fresh hC,fun x c e=>I.AO x c (B.cell I.ok e),fun p hp=>absurd (show p ∈ ([]:List (Addr × Obj)) from hp) (by simp),I.Ad.kept k,?_⟩
 ·rcases (hf b hb).2.2.2.1 with z | z
  ·exact I.ok.E9 b o e z
  ·exact absurd (lt_of_lt_of_le (lt_size e) (le_trans I.ok.Fw z)) (lt_irrefl _)
 ·obtain⟨v,q⟩:=I.cell x c (B.cell I.ok e)
  exact⟨v,q.keeps k⟩
 ·show(iN own.length cap σ).length=(own ++ capN).length
  rw[nQ,length_append,B.len]
theorem Inv.reset {CW:List (Addr × Obj)}{σ':St}{H':Hp}{s':Shared}{C:Addr}(I:Inv X pins σ H s)(B:Ba X.N X.env.scope scope capN cap)(hf:∀ b ∈ fp,fX X pins H b)(J:Inv (bX X scope (own ++ capN) C s H fp) CW σ' H' s') :
  Inv (bX X scope (own ++ capN) C s H fp) CW (iN own.length cap σ) H' s':=by
 obtain⟨m,hn,_⟩:=J.loc
 refine⟨J.ok,J.os,J.bare,J.base,⟨m,hn,fun i x v e1 e2 _=>?_⟩,J.cell,J.free,J.AO,J.pin,J.Ad,?_⟩
 ·refine B.locs I (fun y c v' ec ic=>?_) C m i x v e1 e2
  obtain⟨o,ho,hd⟩:=ic
  have hx:c ∉ fp:=fun z=>(hf c z).2.2.2.2.1 y c ec rfl
  obtain⟨sl,e⟩:=J.base.any ho (I.AO y c ec) hx
  exact⟨_,e,hd⟩
 ·show(iN own.length cap σ).length=(own ++ capN).length
  rw[nQ,length_append,B.len]
theorem Inv.adopt {D:Addr}{o:HO}(I:Inv X pins σ H s)(hn:H D=none)(h0:X.s₀.heap.objs.size <= D)(hL:D ≠ X.env.locals)(hc:∀ x c,X.env.cells.lookup x=some c->c ≠ D)(hp:∀ p ∈ X.pn ++ pins,p.1 ≠ D)
  (new:Ap X.prog X.w (upd H D o) s.heap D o):Inv X pins σ (upd H D o) s:=by
 have ne:∀ b u,H b=some u->b ≠ D:=fun b u e=>ag e hn
 refine⟨I.ok,I.os,I.bare,⟨I.base.keep,I.base.slot,fun b ob e n hx=>?_,I.base.there,fun b xs e=>?_,fun b ob u e=>?_,fun b ps e=>?_⟩,I.loc,I.cell,?_,fun x c e=>?_,fun p DQ=>?_,fun b u e=>?_,I.len⟩
 ·rw[ae (ne_of_lt (lt_of_lt_of_le (lt_size e) h0))]
  exact I.base.free b ob e n hx
 ·have q:=I.base.Ci b xs e
  rw[ae (ne b _ q)];exact q
 ·have q:=I.base.BU b ob u e
  rw[ae (ne b _ q)];exact q
 ·obtain⟨more,q⟩:=I.base.Cj b ps e
  exact⟨more,by rw[ae (ne b _ q)];exact q⟩
 ·rw[ae (Ne.symm hL)];exact I.free
 ·rw[ae (hc x c e)];exact I.AO x c e
 ·obtain⟨e,n,r⟩:=I.pin p DQ
  exact⟨e,by rw[ae (hp p DQ)];exact n,r⟩
 ·by_cases hb:b=D
  ·subst hb;rw[ac]at e;cases e;exact new
  ·rw[ae hb]at e
   exact(I.Ad b u e).BS (fun _ _ _ q=>q) (fun c q=>by rw[ae (ne c _ q)];exact q) fun c xs q=>by rw[ae (ne c _ q)];exact q
end
noncomputable def dE (J:It)(g:TG)(tt:TT)(te:TE)(σ0:St)(Q:VK)(H1:Hp):Prop:=∃ W:Nat->Nat->List V->Hp->Prop,(∃ m,W 0 m [] H1)/\∀ i m acc H,W i m acc H ->
 acc.length < sizeLine/\((J.stop i H/\∀ D,H D=none->Q (.ref D) (upd H D (.lst acc)))∨(J.go i H/\∃ N:List V->Hp->Prop,(∀ AY H',N AY H'->∃ m',m' < m/\W (i + 1) m' AY H') /\
  ∀ x H',J.Fi i H x H'->g x σ0 H' fun σ2 H2=>tt σ2 H2 fun b H3=>if b=true then te σ2 H3 fun y H4=>N (acc ++ [y]) H4 else N acc H3))
noncomputable def x5 (wi:TI)(g:TG)(tt:TT)(te:TE)(n:Nat)(cap:List Nat):TE:=fun σ H Q=>wi σ H fun J H1=>dE J g tt te (iN n cap σ) Q H1
section
variable {X:Cx}{tg iter elt:Expr}{ifs:List Expr}{scope:Scope}{pos:Pos}{wi:TI}{g:TG}{tt:TT}{te:TE}{own capN:List Str}{cap:List Nat}
noncomputable abbrev lI (Ab:List Value)(k:Nat):Obj:={ cls := .type "list",data := .seq Ab.toArray k }
theorem nH {pins:List (Addr × Obj)}{s:Shared}{σ:St}{H:Hp}{Q:VK}{it:Addr}{fp:List Addr}{tn:Nat->Heap->Prop}{J:It}(B:Ba X.N X.env.scope scope capN cap)(hc:X.calm=true)
  (hb:∀ (C:Addr)(s:Shared)(H:Hp)(fp:List Addr),PG (bX X scope (own ++ capN) C s H fp) tg g/\K7 (bX X scope (own ++ capN) C s H fp) ifs tt/\PE (bX X scope (own ++ capN) C s H fp) elt te)
  (I:Inv X pins σ H s) (T:nZ X.prog X.w X.K tg J fp it tn) (st:tn 0 s.heap) (hf:∀ b ∈ fp,fX X pins H b) {W:Nat->Nat->List V->Hp->Prop} {m0:Nat} (w0:W 0 m0 [] H)
  (turn:∀ i m acc H,W i m acc H->acc.length < sizeLine/\((J.stop i H/\∀ D,H D=none->Q (.ref D) (upd H D (.lst acc)))∨(J.go i H/\∃ N:List V->Hp->Prop,(∀ AY H',N AY H'->∃ m',m' < m/\W (i + 1) m' AY H') /\
   ∀ x H',J.Fi i H x H'->g x (iN own.length cap σ) H' fun σ2 H2=>tt σ2 H2 fun b H3=>if b=true then te σ2 H3 fun y H4=>N (acc ++ [y]) H4 else N acc H3)))
  {RR:Value->Addr->Result->Shared->Prop}
  (fin:∀ (D C:Addr)(H':Hp)(s':Shared),Q (.ref D) H'->Inv X pins σ H' s'->(∃ m,s'.heap.Ns C m)->H' C=none->C ≠ X.env.locals->X.s₀.heap.objs.size <= C->(∀ x c,X.env.cells.lookup x=some c->c ≠ C)->(∀ p ∈ X.pn ++ pins,p.1 ≠ C) ->
   RR (.ref D) C (.ok .next) s') :
  wpAny (model X.prog X.w) X.A (newList []) (fun acc s3=>wpAny (model X.prog X.w) X.A (newFunctionEnv scope X.env.globals (ca X.env.cells scope.names []) [] X.env.qual none .none (some X.env)) (fun K8 s4 =>
   codeAny (model X.prog X.w) X.A (.compStart (.ListComp elt [⟨tg,iter,ifs,0⟩] scope pos) 0 (.ref it) acc { K8 with scope:=relabel scope X.env }) (RR acc K8.locals) s4) X.xe s3) X.xe s:=by
 refine wpAny_newObj_type (wpAny_newFunctionEnv B.DE (by intro y hy;simp at hy) (fun h1 HS GA=>?_) B.kind)
 dsimp only at HS GA ⊢
 generalize ED:s.heap.push { cls := .type "list",dict:=none,data := .seq ([]:List Value).toArray } = H2 at HS GA ⊢
 have hCs:H2.objs.size=s.heap.objs.size + 1:=by rw[← ED,size_push]
 have DF:s.heap.objs.size <= H2.objs.size:=by omega
 have F4:∀ b ∈ fp,b < s.heap.objs.size:=fun b hb=>by
  obtain⟨o,e,_⟩:=T.obj 0 s.heap st b hb
  exact lt_size e
 have old:∀ b o,s.heap.get? b=some o->h1.get? b=some o:=fun b o e =>
  GA.extBut b o (ne_of_lt (lt_of_lt_of_le (lt_size e) DF)) (Heap.get?_push_of_some _ (ED ▸ Heap.get?_push_of_some _ e))
 have OO:s.heap.objs.size ≠ H2.objs.size:=by omega
 have QX:h1.get? s.heap.objs.size=some (lI [] 0):=GA.extBut _ _ OO (Heap.get?_push_of_some _ (ED ▸ Heap.get?_push_size _ rfl))
 have I4:Inv (bX X scope (own ++ capN) H2.objs.size s H fp) [] (iN own.length cap σ) H { s with heap:=h1,toks:=s.toks + ([]:List (Str × Value)).length }:=I.blk (own:=own) B DF old HS hf F4
 have QW:∀ b ∈ fp,b ∉ lP X.stack:=fun b hb z=>by
  obtain⟨_,f1,f2,_⟩:=hf b hb
  rcases mem_cons.mp (I.BF b z) with e | e
  ·exact f1 e
  ·exact f2 e
 have F5:∀ b ∈ lP X.stack,b < s.heap.objs.size:=fun b hb=>by
  obtain⟨_,o,ho,_⟩:=I.stack.mem hb
  exact lt_size ho
 have DG:∀ x c,X.env.cells.lookup x=some c->c < s.heap.objs.size:=fun x c e=>by
  obtain⟨v,q⟩:=I.cell x c e
  exact q.lt
 have GC:∀ (H':Hp)(h':Heap)(Ab:List Value)(k:Nat),H' s.heap.objs.size=none->h'.get? s.heap.objs.size=some (lI Ab k) ->
   ∀ p ∈ [(s.heap.objs.size,lI Ab k)],h'.get? p.1=some p.2/\H' p.1=none/\p.1 ≠ (bX X scope (own ++ capN) H2.objs.size s H fp).env.locals/\p.1 ∉ (bX X scope (own ++ capN) H2.objs.size s H fp).fs/\∀ v,p.2.data ≠ .cell v:=fun H' h' Ab k hn he p hp=>by
  have e:p=(s.heap.objs.size,lI Ab k):=by simpa using hp
  subst e
  exact⟨he,hn,OO,fun z=>absurd (F5 _ z) (lt_irrefl _),fun v z=>by cases z⟩
 have stat:∀ (H':Hp)(Ab:List Value)(k:Nat),(∀ b ∈ fp,H' b=none)->∀ b ∈ fp,fX (bX X scope (own ++ capN) H2.objs.size s H fp) [(s.heap.objs.size,lI Ab k)] H' b:=fun H' Ab k hn b hb =>
  ⟨hn b hb,ne_of_lt (lt_of_lt_of_le (F4 b hb) DF),QW b hb, .inl hb,fun x c e=>(hf b hb).2.2.2.2.1 x c (B.cell I.ok e),fun p hp=>by
   have e:p=(s.heap.objs.size,lI Ab k):=by simpa using hp
   subst e
   exact ne_of_gt (F4 b hb)⟩
 have loop:∀ s3:Shared,s3 = { s with heap:=h1,toks:=s.toks + ([]:List (Str × Value)).length } ->
   codeAny (model X.prog X.w) X.A (.compLoop (.ListComp elt [⟨tg,iter,ifs,0⟩] scope pos) 0 (.ref it) (.ref s.heap.objs.size) (compEnvC scope (ca X.env.cells scope.names []) H2.objs.size X.env))
    (RR (.ref s.heap.objs.size) H2.objs.size) s3:=by
  rintro s3 rfl
  refine nK (fun n s'=>∃ i acc Ab k H',Inv (bX X scope (own ++ capN) H2.objs.size s H fp) [(s.heap.objs.size,lI Ab k)] (iN own.length cap σ) H' s'/\tn i s'.heap/\(∀ b ∈ fp,H' b=none)/\Vals acc Ab/\W i n acc H') ?_ m0
   ⟨0,[],[],0,H,I4.Bx (GC _ _ _ _ (I.Ad.fresh (le_refl _)) QX),T.keep 0 s.heap h1 st fun b _ o e=>old b o e,fun b hb=>(hf b hb).1, .nil,w0⟩
  rintro n s5 ⟨i,acc,Ab,k,H5,I5,Jo,OF,rv,w5⟩
  obtain⟨hsz,KA⟩:=turn i n acc H5 w5
  obtain⟨hgt,Fj,hte⟩:=hb H2.objs.size s H fp
  rcases KA with ⟨stop,q⟩ | ⟨go,N,hN,step⟩
  ·refine aS (T.done (bX X scope (own ++ capN) H2.objs.size s H fp) rfl rfl rfl hc i _ s5 _ H5 _ I5 (stat H5 Ab k OF) Jo stop) fun r s6 Aj=>?_
   obtain⟨hr,I6⟩:=Aj
   subst hr
   obtain⟨hD,KC,_⟩:=I6.pin (s.heap.objs.size,lI Ab k) (by simp)
   have J1:Inv X pins σ H5 s6:=I.G8 (s':=s6) (ch:=fp) I6.os I6.base I6.Ad I6.bare fun b hb=>by
    obtain⟨_,f1,_,f3,f4,f5⟩:=hf b hb
    exact⟨f3,f1,f4,f5⟩
   have J2:Inv X pins σ (upd H5 s.heap.objs.size (.lst acc)) s6:=J1.adopt KC I.sz (ne_of_gt I.lt) (fun x c e=>ne_of_lt (DG x c e)) (fun p hp=>ne_of_lt (lt_size (I.pin p hp).1)) ⟨le_of_lt hsz,Ab,k,rv,hD⟩
   obtain⟨mC,KD,_⟩:=I6.loc
   refine fin _ _ _ s6 (q _ KC) J2 ⟨mC,KD⟩ (by rw[ae (Ne.symm OO)];exact I6.free) (ne_of_gt (lt_of_lt_of_le I.lt DF)) (le_trans I.sz DF) (fun x c e=>ne_of_lt (lt_of_lt_of_le (DG x c e) DF)) fun p hp =>
    ne_of_lt (lt_of_lt_of_le (lt_size (I.pin p hp).1) DF)
  ·refine aS (T.item (bX X scope (own ++ capN) H2.objs.size s H fp) rfl rfl rfl hc i _ s5 _ H5 _ I5 (stat H5 Ab k OF) Jo go) fun r s6 Aj=>?_
   obtain⟨u,hr,h6⟩:=Aj
   subst hr
   refine aS h6 fun _ s7 Aj=>?_
   obtain⟨x,H7,I7,r7,y7,QY,fr7⟩:=Aj
   have I7':=I7.pinned (stat H7 Ab k fr7) (T.obj _ _ QY)
   refine aS (hgt _ s7 _ H7 x u _ I7' r7 (step x H7 y7)) fun _ s8 Aj=>?_
   obtain⟨σ8,H8,I8,q8⟩:=Aj
   refine aS (Fj _ s8 σ8 H8 _ I8 q8) fun b s9 Aj=>?_
   obtain⟨H9,I9,q9⟩:=Aj
   have W4:∀ {H':Hp}{s':Shared}{σ':St},Inv (bX X scope (own ++ capN) H2.objs.size s H fp) (eN fp s7.heap) σ' H' s'->tn (i + 1) s'.heap/\∀ b ∈ fp,H' b=none:=fun {H' s' σ'} K=>by
    refine⟨T.keep _ _ _ QY fun b hb o e=>(K.pin (b,o) (eT hb e)).1,fun b hb=>?_⟩
    obtain⟨o,e,_⟩:=T.obj _ _ QY b hb
    exact(K.pin (b,o) (eT hb e)).2.1
   cases b with
   | false =>
    rw[if_neg Bool.false_ne_true]
    obtain⟨m',hm,w9⟩:=hN acc H9 (by simpa using q9)
    have K9:Inv (bX X scope (own ++ capN) H2.objs.size s H fp) (eN fp s7.heap) σ8 H9 s9:=I9.Bx fun p hp=>I9.pin p (mem_append_right _ (mem_append_right _ hp))
    obtain⟨t9,f9⟩:=W4 K9
    exact⟨m',hm,i + 1,acc,Ab,k,H9,I.reset B hf I9.B5,t9,f9,rv,w9⟩
   | true =>
    rw[if_pos rfl]
    have q9':te σ8 H9 fun y H4=>N (acc ++ [y]) H4:=by simpa using q9
    refine aS (hte _ s9 σ8 H9 _ I9 q9') fun yv QZ Aj=>?_
    obtain⟨y,DH,Ra,r10,q10⟩:=Aj
    obtain⟨hD,KC,_⟩:=Ra.pin (s.heap.objs.size,lI Ab k) (by simp)
    have hlen:=rv.length
    refine wpAny_list_append_plain ⟨k,hD⟩ (fun h' BL HW=>?_) (by rw[size_toArray];omega)
    obtain⟨k',hD'⟩:=BL
    obtain⟨m',hm,w10⟩:=hN (acc ++ [y]) DH q10
    have K10:Inv (bX X scope (own ++ capN) H2.objs.size s H fp) (eN fp s7.heap) σ8 DH QZ:=Ra.Bx fun p hp=>Ra.pin p (mem_append_right _ (mem_append_right _ hp))
    have W5:Inv (bX X scope (own ++ capN) H2.objs.size s H fp) (eN fp s7.heap) σ8 DH { QZ with heap:=h' }:=K10.turned (t':=QZ.toks) (it:=s.heap.objs.size) (fun b o hb e=>(HW.2 b hb).trans e) KC OO (.inr (le_refl _))
     (fun x c e=>ne_of_lt (DG x c (B.cell I.ok e))) fun p hp=>by
      obtain⟨hb,_⟩:=kD (show p ∈ eN fp s7.heap from hp)
      exact ne_of_lt (F4 p.1 hb)
    obtain⟨t11,OP⟩:=W4 W5
    refine⟨m',hm,i + 1,acc ++ [y],Ab ++ [yv],k',DH,?_,t11,OP,rv.append (.cons r10 .nil),w10⟩
    refine I.reset B hf (W5.Bx (GC _ _ _ _ KC ?_))
    show h'.get? s.heap.objs.size=some { cls := .type "list",data := .seq (Ab ++ [yv]).toArray k' }
    rw[show(Ab ++ [yv]).toArray=Ab.toArray.push yv by simp]
    exact hD'
 exact codeAny_compStart_list (loop _ rfl) (T.self X.A 0 _ _ _ (T.keep 0 s.heap h1 st fun b _ o e=>old b o e) (loop _ rfl))
theorem bB (B:Ba X.N X.env.scope scope capN cap)(hc:X.calm=true)(hi:PI X tg iter wi)
  (hb:∀ (C:Addr)(s:Shared)(H:Hp)(fp:List Addr),PG (bX X scope (own ++ capN) C s H fp) tg g/\K7 (bX X scope (own ++ capN) C s H fp) ifs tt/\PE (bX X scope (own ++ capN) C s H fp) elt te)
  (hs:∀ x,foldedSetIterable iter X.env x=pure x:=by intro _;rfl):PE X (.ListComp elt [⟨tg,iter,ifs,0⟩] scope pos) (x5 wi g tt te own.length cap):=by
 intro pins s σ H Q I h
 rw[eval_ListComp]
 refine wpAny_comprehension_free (use:=none) rfl hs (gi (B.HV I.ok)) B.kind B.loc (aS (hi pins s σ H _ I h) fun v s1 h1=>aS h1 fun OD s2 h2=>?_)
 obtain⟨it,fp,tn,J,H2,e,I2,T,Kl,f2,W,⟨m0,w0⟩,turn⟩:=h2
 subst e
 refine nH (own:=own) B hc hb I2 T Kl f2 w0 turn (RR:=fun acc C=>compPost (model X.prog X.w) X.A X.xe none (EP X pins σ Q) acc C) fun D C H' s' q J2 ⟨mC,KD⟩ fC n1 n2 n3 n4=>?_
 refine⟨mC,KD,fun h' GA=>⟨.ref D,H',?_,rfl,q⟩⟩
 exact J2.turned (t':=s'.toks) (it:=C) (fun b o hb e=>(GA.2 b hb).trans e) fC n1 (.inr n2) n3 n4
theorem bM {i:Nat}{x:Str}{px:Pos}{KG:Pos}(B:Ba X.N X.env.scope scope capN cap)(hc:X.calm=true)(hN:X.N.Nodup)(hx:X.N[i]? = some x)(hl:X.env.scope.names.lookup x=some .local)(hi:PI X tg iter wi)
  (hb:∀ (C:Addr)(s:Shared)(H:Hp)(fp:List Addr),PG (bX X scope (own ++ capN) C s H fp) tg g/\K7 (bX X scope (own ++ capN) C s H fp) ifs tt/\PE (bX X scope (own ++ capN) C s H fp) elt te)
  (hsw:swapsWith (.ListComp elt [⟨tg,iter,ifs,0⟩] scope pos) (some (.Name x px)) KG.line X.env=pure true:=by rfl)
  (hs:∀ x,foldedSetIterable iter X.env x=pure x:=by intro _;rfl):PS X (.Assign [.Name x px] (.ListComp elt [⟨tg,iter,ifs,0⟩] scope pos) KG) (yl (x5 wi g tt te own.length cap) (cv i)):=by
 intro pins s σ H D0 I h
 rw[exec_Assign_Name_used _ _ _ _ hsw]
 refine wpAny_bind (wpAny_standAt (wpAny_bind ?_))
 show wpAny _ X.A (do
  let _ ← comprehension (.ListComp elt [⟨tg,iter,ifs,0⟩] scope pos) scope X.env _ (newList []) false (eval iter X.env) (some (assign (.Name x px) X.env))) _ _ s
 refine wpAny_bind (wpAny_mono (wpAny_comprehension_free (use:=some (assign (.Name x px) X.env)) (Q:=fun _ s'=>SP X pins D0 .next s') rfl hs (gi (B.HV I.ok)) B.kind B.loc
  (aS (hi pins s σ H _ I h) fun v s1 h1=>aS h1 fun OD s2 h2=>?_)) (fun _ s' hq=>wpAny_pure (wpAny_pure hq)) fun _ _ e=>e)
 obtain⟨it,fp,tn,J,H2,e,I2,T,Kl,f2,W,⟨m0,w0⟩,turn⟩:=h2
 subst e
 refine nH (own:=own) (Q:=fun x H1=>cv i x σ H1 D0.nx) B hc hb I2 T Kl f2 w0 turn (RR:=fun acc C=>compPost (model X.prog X.w) X.A X.xe (some (assign (.Name x px) X.env)) (fun _ s'=>SP X pins D0 .next s') acc C) fun D C H' s' q J2 ⟨mC,KD⟩ fC n1 n2 n3 n4=>?_
 show wpAny _ X.A (assign (.Name x px) X.env (.ref D)) _ _ s'
 refine wpAny_assign_Name (k4 J2 hN hx (.inl hl) (show RelV (.ref D) (.ref D) from rfl) (fun HN J3 Aj=>?_) (.inr hl))
 obtain⟨a,GA,ha⟩:=Aj
 have hCa:C ≠ a:=by
  rcases ha with z | z
  ·rw[z];exact n1
  ·exact(n3 x a z).symm
 refine⟨mC,KD.sameBut GA hCa,fun h' HW=>⟨_,H',?_,q⟩⟩
 exact J3.turned (t':=HN.toks) (it:=C) (fun b o hb e=>(HW.2 b hb).trans e) fC n1 (.inr n2) n3 n4
end
end L2
namespace L2
open PySem PySem.Spec PyProof.Rows
mutual
inductive ke (K:Frag)(H:Hp):V->PyData->Prop
 | An:ke K H .An .none
 | bl (b:Bool):ke K H (.bl b) (.bool b)
 | int (i:Int):ke K H (.int i) (.int i)
 | str (x:Str):ke K H (.str x) (.str x)
 | lst {a:Addr} {xs:List V} {ds:List PyData}:Aa K H a xs->gN K H xs ds->ke K H (.ref a) (.list ds)
 | tup {a:Addr} {xs:List V} {ds:List PyData}:Af K H a xs->gN K H xs ds->ke K H (.ref a) (.tuple ds)
inductive gN (K:Frag)(H:Hp):List V->List PyData->Prop
 | nil:gN K H [] []
 | cons {x:V} {d:PyData} {xs:List V} {ds:List PyData}:ke K H x d->gN K H xs ds->gN K H (x :: xs) (d :: ds)
end
section
variable {X:Cx}{pins:List (Addr × Obj)}{σ:St}{H:Hp}{s:Shared}
mutual
theorem Inv.den (I:Inv X pins σ H s):∀ {x:V}{d:PyData}{u:Value},ke X.K H x d->RelV x u->∃ as,Reads s.heap u d as
 | _,_,_, .An,r=>by cases r;exact⟨_, .none⟩
 | _,_,_, .bl b,r=>by cases r;exact⟨_, .bool b⟩
 | _,_,_, .int i,r=>by obtain⟨t,rfl⟩:=r;exact⟨_, .int i t⟩
 | _,_,_, .str x,r=>by obtain⟨t,rfl⟩:=r;exact⟨_, .str x t⟩
 | _,_,_, .lst hq hd,r=>by
  cases r
  obtain⟨Ab,rv,⟨o,n,e,hc,_,Rb⟩,_⟩:=I.list hq
  obtain⟨as,q⟩:=I.HX hd rv
  exact⟨_, .list e hc Rb (by simpa using q)⟩
 | _,_,_, .tup hq hd,r=>by
  cases r
  obtain⟨Ab,rv,⟨o,e,hc,n,Rb⟩,_⟩:=I.tuple hq
  obtain⟨as,q⟩:=I.HX hd rv
  exact⟨_, .tuple e hc Rb (by simpa using q)⟩
theorem Inv.HX (I:Inv X pins σ H s):∀ {xs:List V}{ds:List PyData}{us:List Value},gN X.K H xs ds->Vals xs us->∃ as,ReadsAll s.heap us ds as
 | _,_,_, .nil, .nil=>⟨_, .nil⟩
 | _,_,_, .cons hd hr, .cons r rr=>by
  obtain⟨as,q⟩:=I.den hd r
  obtain⟨bs,q'⟩:=I.HX hr rr
  exact⟨_, .cons q q'⟩
end
noncomputable def Rc (K:Frag):R2:=fun x y H Q=>∃ da db,ke K H x da/\ke K H y db/\SeqAt.shaped da=true/\SeqAt.shaped db=true/\Q (.bl (PyData.eqv da db)) H
noncomputable def yF (K:Frag):R2:=fun x y H Q=>∃ da db,ke K H x da/\ke K H y db/\SeqAt.shaped da=true/\SeqAt.shaped db=true/\Q (.bl (!PyData.eqv da db)) H
end
section
variable {X:Cx}
theorem yQ (hu:X.A.units + 64 < cLine):eW X (compareOp .Eq) (Rc X.K):=by
 intro pins s σ H x y v u Q I rx ry h
 obtain⟨da,db,h1,h2,h3,h4,q⟩:=h
 obtain⟨as,r1⟩:=I.den h1 rx
 obtain⟨bs,r2⟩:=I.den h2 ry
 exact SeqAt.compareEq_shaped r1 r2 h3 h4 hu ⟨.bl _,H,I,rfl,q⟩
theorem gG (hu:X.A.units + 64 < cLine):eW X (compareOp .NotEq) (yF X.K):=by
 intro pins s σ H x y v u Q I rx ry h
 obtain⟨da,db,h1,h2,h3,h4,q⟩:=h
 obtain⟨as,r1⟩:=I.den h1 rx
 obtain⟨bs,r2⟩:=I.den h2 ry
 exact SeqAt.compareNe_shaped r1 r2 h3 h4 hu ⟨.bl _,H,I,rfl,q⟩
theorem kQ {K:Frag}{H:Hp}:∀ ns:List Int,gN K H (ns.map V.int) (ns.map PyData.int)
 | [] => .nil
 | n :: r => .cons (.int n) (kQ r)
theorem nB {K:Frag}{H:Hp}{a:Addr}{ns:List Int}(h:Aa K H a (ns.map V.int)):ke K H (.ref a) (.list (ns.map PyData.int)) := .lst h (kQ ns)
noncomputable def Rf (K:Frag):R2:=fun x y H Q=>∃ (p q:Addr)(ns ms:List Int),x = .ref p/\y = .ref q/\Aa K H p (ns.map V.int)/\Aa K H q (ms.map V.int)/\Q (.bl (!decide (ns=ms))) H
theorem yP (hu:X.A.units + 64 < cLine):eW X (compareOp .NotEq) (Rf X.K):=by
 intro pins s σ H x y v u Q I rx ry h
 obtain⟨p,q,ns,ms,rfl,rfl,h1,h2,q⟩:=h
 refine gG hu pins s σ H _ _ v u Q I rx ry ⟨_,_,nB h1,nB h2,PySem.W.shaped_ints ns,PySem.W.shaped_ints ms,?_⟩
 simp only[PyData.eqv,PySem.W.ked_eqvAll]
 exact q
noncomputable def Rg (K:Frag):List V->Hp->VK->Prop:=fun xs H Q =>
 (∃ i,xs=[.int i, .ty "int"]/\Q (.bl true) H)∨(∃ i,xs=[.int i, .ty "bool"]/\Q (.bl false) H)∨(∃ p ys,xs=[.ref p, .ty "list"]/\Aa K H p ys/\Q (.bl true) H)∨(∃ p ys,xs=[.ref p, .ty "tuple"]/\Af K H p ys/\Q (.bl true) H)
theorem nP:eD X (.builtin "isinstance") (Rg X.K):=by
 intro pins s σ H xs us Q I r h
 rcases h with ⟨i,rfl,q⟩ | ⟨i,rfl,q⟩ | ⟨p,ys,rfl,hq,q⟩ | ⟨p,ys,rfl,hq,q⟩
 ·cases r with
  | cons r1 r2 =>
   cases r2 with
   | cons r2 r3 =>
    cases r3
    obtain⟨t,rfl⟩:=r1
    cases r2
    exact IsiPair.int_int ⟨.bl true,H,I,rfl,q⟩
 ·cases r with
  | cons r1 r2 =>
   cases r2 with
   | cons r2 r3 =>
    cases r3
    obtain⟨t,rfl⟩:=r1
    cases r2
    exact IsiPair.int_bool ⟨.bl false,H,I.tok _,rfl,q⟩
 ·cases r with
  | cons r1 r2 =>
   cases r2 with
   | cons r2 r3 =>
    cases r3
    cases r1
    cases r2
    obtain⟨Ab,rv,⟨o,n,e,hc,_⟩,_⟩:=I.list hq
    exact IsiPair.list_list e hc ⟨.bl true,H,I,rfl,q⟩
 ·cases r with
  | cons r1 r2 =>
   cases r2 with
   | cons r2 r3 =>
    cases r3
    cases r1
    cases r2
    obtain⟨Ab,rv,⟨o,e,hc,_⟩,_⟩:=I.tuple hq
    exact IsiPair.tuple_tuple e hc ⟨.bl true,H,I,rfl,q⟩
theorem wQ:OI X "int.bit_length" (fun x xs H Q=>∃ i,x = .int i/\xs=[]/\Q (.int (Builtin.Int.intBits i:Nat)) H):=by
 intro pins s σ H x xs v us Q I rx rv h
 obtain⟨i,rfl,rfl,q⟩:=h
 obtain⟨t,rfl⟩:=rx
 cases rv
 exact call_int_bit_length ⟨.int _,H,I.tok _,⟨_,rfl⟩,q⟩
theorem Inv.same {pins:List (Addr × Obj)}{σ:St}{H:Hp}{s s':Shared}(I:Inv X pins σ H s)(k:∀ b o,s.heap.get? b=some o->s'.heap.get? b=some o)(g:s'.gens=s.gens)(ho:s'.os=s.os):Inv X pins σ H s':=by
 obtain⟨hh,gg,dd,tt,oo⟩:=s'
 simp only at k g ho
 subst g
 subst ho
 have J:Inv X pins σ H { s with heap:=hh,toks:=tt }:=I.kept k
 exact⟨J.ok,J.os,J.bare,J.base,J.loc,J.cell,J.free,J.AO,J.pin,J.Ad,J.len⟩
theorem jW (hc:X.calm=true):eD X (.builtin "all") (fun xs H Q=>∃ (p:Addr)(bs:List Bool),xs=[.ref p]/\Aa X.K H p (bs.map V.bl)/\Q (.bl (bs.all id)) H):=by
 intro pins s σ H xs us Q I r h
 obtain⟨p,bs,rfl,hq,q⟩:=h
 obtain⟨u,rfl,rx⟩:=ky r
 cases rx
 obtain⟨Ab,rv,pl,hz⟩:=I.list hq
 have hlen:=rv.length
 rw[length_map]at hlen
 have AU:p < s.heap.objs.size:=by obtain⟨o,n,e,_⟩:=pl;exact lt_size e
 have W6:∀ (i:Nat)(v:Value),Ab.toArray[i]? = some v->v=Value.bool (bs.getD i false):=fun i v hv=>by
  have Jq:Ab[i]? = some v:=by simpa using hv
  have hi:i < bs.length:=by rw[hlen];exact(List.getElem?_eq_some_iff.mp Jq).1
  obtain⟨u,hu,ru⟩:=rv.get (i:=i) (x := .bl bs[i]) (by simp[hi])
  rw[Jq]at hu
  cases hu
  rw[getD_eq_getElem?_getD,List.getElem?_eq_getElem hi]
  exact ru
 have hh1:X.A.in1.handled=none:=I.ok.hd hc
 refine call_all_walkS (wpAny_pyIter_list pl.isList ⟨s.heap.objs.size,[s.heap.objs.size,p],[s.heap.objs.size],fun a b=>b=a,Ab.toArray.size,fun i v=>Ab.toArray[i]? = some v,_,fun i=>bs.getD i false,rfl,
  (Walks.list hh1 _ p (ne_of_lt AU) Ab.toArray).toS,⟨⟨_,Heap.get?_push_size _ rfl,rfl,rfl⟩,pl.isList.push _⟩,fun i v s1 Q1 E1 hv hq1=>?_,fun s' hm=>?_⟩)
 ·rw[W6 i v hv]
  exact wpAny_truthy_bool hq1
 ·have I1:Inv X pins σ H { s with heap:=s.heap.push { cls := .type "list_iterator",data := .fields #[.ref p, .int 0 0] } }:=I.kept (t':=s.toks) fun b o e=>Heap.get?_push_of_some _ e
  refine⟨.bl _,H,I.same (fun b o e=>hm.heap b o (fun hb=>?_) (Heap.get?_push_of_some _ e)) hm.gens hm.os,rfl,?_⟩
  ·have BM:b=s.heap.objs.size:=by simpa using hb
   exact absurd (lt_size e) (by rw[BM];exact lt_irrefl _)
  ·have e:((List.range Ab.toArray.size).all fun i=>bs.getD i false)=bs.all id:=by
    rw[size_toArray,← hlen]
    clear W6 hlen hq rv q
    have:(List.range bs.length).map (fun i=>bs.getD i false)=bs:=by
     apply List.ext_getElem
     ·simp
     ·intro i h1 h2
      simp[h2]
    conv=>rhs;rw[← this]
    rw[all_map]
    rfl
   rw[e]
   exact q
end
end L2
namespace L2
open PySem PySem.Spec PyProof.Rows
theorem jT {o:Obj}{vs:Array Value}(hd:o.data = .fields vs)(f:Array Value->Array Value):(Obj.mapFields f o).dict=o.dict:=by
 obtain⟨c,d,dt,sl⟩:=o
 cases dt<;>rfl
noncomputable def F6 (h:Heap)(e:Addr)(cls:Value)(dd:Option Addr)(ch:List Addr):Prop :=
 ∃ oe vs,h.get? e=some oe/\oe.cls=cls/\oe.dict=dd/\oe.data = .fields vs /\
  ((vs[1]? = some .none/\ch=[e])∨∃ T oT ts,vs[1]? = some (.ref T)/\T ≠ e/\h.get? T=some oT/\oT.data = .fields ts/\ts[3]? = some .none/\ch=[e,T])
theorem F6.rec {h:Heap}{e:Addr}{cls:Value}{dd:Option Addr}{ch:List Addr}(x:F6 h e cls dd ch):∀ b ∈ ch,∃ o vs,h.get? b=some o/\o.data = .fields vs:=by
 obtain⟨oe,vs,he,_,_,hd,h1 | ⟨T,oT,ts,_,_,hT,Ju,_,rfl⟩⟩:=x
 ·obtain⟨_,rfl⟩:=h1
  intro b hb
  simp only[mem_singleton]at hb
  subst hb
  exact⟨oe,vs,he,hd⟩
 ·intro b hb
  simp only[mem_cons,not_mem_nil,or_false]at hb
  rcases hb with rfl | rfl
  ·exact⟨oe,vs,he,hd⟩
  ·exact⟨oT,ts,hT,Ju⟩
structure qS (fs ch:List Addr)(h h':Heap):Prop where
 keep:∀ b o,h.get? b=some o->b ∉ ch->b ∉ fs->h'.get? b=some o
 slot:∀ b o,h.get? b=some o->b ∉ ch->∃ sl,h'.get? b=some { o with slots:=sl }
 there:∀ b o,h.get? b=some o->∃ o',h'.get? b=some o'
section
variable {M:Model}{A:Around}{E:Value->Shared->Prop}{s:Shared}
theorem kF {base:Heap}{env:Env}{outer:List Env}{L e:Addr}{oe:Obj}{vs:Array Value}{head:Value}{hadNext:Bool}{Q:Unit->Shared->Prop}
  (Dv:A.frames=some (env :: outer)) (hl:s.heap.FunFrames base (env :: outer)) (hf:env.frame=some L)
  (he:s.heap.get? e=some oe) (hd:oe.data = .fields vs) (hsz:1 < vs.size)
  (h:∀ h',F6 h' e oe.cls oe.dict [e,s.heap.objs.size]->qS (lP (env :: outer)) [e] s.heap h'->Q () { s with heap:=h' }) :
  wpAny M A (do let a ← frameOf env;let pl ← entryPlaceOf L hadNext;let b ← EntryCells.newEntry head a .none (rawInt L) .none pl;setField (.ref e) 1 b) (fun _ s'=>wpAny M A (setFlight (.ref e) none) Q E s') E s:=by
 have Rh:e ∉ (env :: outer).filterMap (·.frame):=fun hm=>by
  obtain⟨_,o,ho,KH⟩:=hl.mem hm
  rw[he]at ho;injection ho with ho;subst ho;exact KH vs hd
 refine wpAny_bind (wpAny_frameOf_fun Dv hl hf fun h₁ Dj=>?_)
 refine wpAny_bind (wpAny_entryPlaceOf fun pl BL=>?_)
 unfold EntryCells.newEntry newFields
 refine wpAny_bind (wpAny_newObj_type ?_ (BL.sizeOk5 _ _ _ _ _))
 have GF:h₁.get? e=some oe:=(Dj.2.1 e Rh).trans he
 have GG:=Heap.get?_push_of_some (h:=h₁) { cls := .type "traceback",dict:=none,data := .fields ([head, .ref L, .none,rawInt L, .none] ++ (if pl.isEmpty then List.replicate 6 Value.none else pl)).toArray } GF
 refine wpAny_setField GG hd hsz ?_
 have Jv:h₁.objs.size ≠ e:=ne_of_gt (lt_size GF)
 have EE:=Obj.data_mapFields hd (·.setIfInBounds 1 (Value.ref h₁.objs.size))
 have EF:=Heap.get?_update_self (Obj.mapFields (·.setIfInBounds 1 (Value.ref h₁.objs.size))) GG (Obj.isFreed_of_fields EE)
 have GH:=(Heap.get?_update_other (h₁.push { cls := .type "traceback",dict:=none,data := .fields ([head, .ref L, .none,rawInt L, .none] ++ (if pl.isEmpty then List.replicate 6 Value.none else pl)).toArray })
  (Obj.mapFields (·.setIfInBounds 1 (Value.ref h₁.objs.size))) (Ne.symm Jv)).trans (Heap.get?_push_size h₁ rfl)
 unfold setFlight
 refine wpAny_bind (wpAny_field EF EE (x := .ref h₁.objs.size) (by simp[hsz]) ?_)
 rw[if_pos (show(Value.ref h₁.objs.size != Value.none)=true from by simp)]
 refine wpAny_setField GH rfl (by simp only[size_toArray,length_append,length_cons,length_nil]<;>omega) (h _ ?_ ?_)
 ·refine⟨_,_,?_,Obj.cls_mapFields _ _,jT hd _,EE, .inr ⟨h₁.objs.size,_,_,by simp[hsz],Jv,Heap.get?_update_self _ GH (Obj.isFreed_of_fields (Obj.data_mapFields rfl _)),Obj.data_mapFields rfl _,by first | (simp;done) | (rcases BL with rfl | ⟨_,_,_,_,_,_,_,rfl⟩<;>simp),by rw[Dj.1]⟩⟩
  rw[Heap.get?_update_other _ _ Jv];exact EF
 ·have keep:∀ b o,b ≠ e->h₁.get? b=some o ->
    (((h₁.push { cls := .type "traceback",dict:=none,data := .fields ([head, .ref L, .none,rawInt L, .none] ++ (if pl.isEmpty then List.replicate 6 Value.none else pl)).toArray }).update e (Obj.mapFields (·.setIfInBounds 1 (Value.ref h₁.objs.size)))).update h₁.objs.size
     (Obj.mapFields (·.setIfInBounds 3 ((none:Option Addr).elim Value.none fun f=>rawInt f)))).get? b=some o:=fun b o Cw hb=>by
   have OQ:h₁.objs.size ≠ b:=ne_of_gt (lt_size hb)
   rw[Heap.get?_update_other _ _ OQ,Heap.get?_update_other _ _ (Ne.symm Cw)]
   exact Heap.get?_push_of_some _ hb
  refine⟨fun b o hb hc Ri=>keep b o (by simpa using hc) ((Dj.2.1 b Ri).trans hb),fun b o hb hc=>?_,fun b o hb=>?_⟩
  ·obtain⟨sl,hs⟩:=Dj.2.2 b o hb
   exact⟨sl,keep b _ (by simpa using hc) hs⟩
  ·by_cases Cw:b=e
   ·subst Cw
    exact⟨_,by rw[Heap.get?_update_other _ _ Jv];exact EF⟩
   ·obtain⟨sl,hs⟩:=Dj.2.2 b o hb
    exact⟨_,keep b _ Cw hs⟩
theorem rD {base:Heap}{env:Env}{outer:List Env}{L e:Addr}{cls:Value}{dd:Option Addr}{ch:List Addr}{Q:Unit->Shared->Prop}
  (Dv:A.frames=some (env :: outer)) (hl:s.heap.FunFrames base (env :: outer)) (hf:env.frame=some L) (x:F6 s.heap e cls dd ch)
  (h:∀ h' HY,F6 h' e cls dd HY->qS (lP (env :: outer)) ch s.heap h'->(∀ b ∈ HY,b ∈ ch∨s.heap.objs.size <= b)->Q () { s with heap:=h' }) :
  wpAny M A (noteFrame (.ref e) env) (fun _ s'=>wpAny M A (setFlight (.ref e) none) Q E s') E s:=by
 obtain⟨oe,vs,he,rfl,rfl,hd,⟨h1,rfl⟩ | ⟨T,oT,ts,h1,Jv,hT,Ju,h3,rfl⟩⟩:=x
 ·unfold noteFrame
  simp only[hf]
  refine wpAny_bind (wpAny_field he hd h1 ?_)
  rw[if_neg (by decide)]
  refine kF Dv hl hf he hd (Array.getElem?_eq_some_iff.mp h1).1 fun h' f m=>h h' _ f m fun b hb=>?_
  simp only[mem_cons,not_mem_nil,or_false]at hb
  rcases hb with rfl | rfl
  ·exact .inl (by simp)
  ·exact .inr (le_refl _)
 ·unfold noteFrame
  simp only[hf]
  refine wpAny_bind (wpAny_field he hd h1 ?_)
  rw[if_pos (show(Value.ref T != Value.none)=true from by simp)]
  refine wpAny_bind (wpAny_field hT Ju h3 ?_)
  rw[if_neg (show ¬ ((Value.none == rawInt L)=true) from by simp[rawInt])]
  refine wpAny_bind (wpAny_setField hT Ju (Array.getElem?_eq_some_iff.mp h3).1 ?_)
  have other:∀ b,b ≠ T->(s.heap.update T (Obj.mapFields (·.setIfInBounds 3 Value.none))).get? b=s.heap.get? b:=fun b hb=>Heap.get?_update_other _ _ (Ne.symm hb)
  have KI:=Heap.get?_update_self (Obj.mapFields (·.setIfInBounds 3 Value.none)) hT (Obj.isFreed_of_fields (Obj.data_mapFields Ju _))
  have noRecord:∀ b o,s.heap.get? b=some o->(∀ vs,o.data ≠ .fields vs)->b ≠ T:=fun b o hb KH q=>by
   rw[q,hT]at hb;injection hb with hb;subst hb;exact KH ts Ju
  have KJ:(s.heap.update T (Obj.mapFields (·.setIfInBounds 3 Value.none))).objs.size=s.heap.objs.size:=Heap.size_after_update _ _ _
  refine kF (s:={ s with heap:=s.heap.update T (Obj.mapFields (·.setIfInBounds 3 Value.none)) }) Dv (hl.of_keeps fun b o hb KH=>⟨o,(other b (noRecord b o hb KH)).trans hb,rfl⟩) hf ((other e (Ne.symm Jv)).trans he) hd (Array.getElem?_eq_some_iff.mp h1).1
   fun h' f m=>h h' _ f ⟨fun b o hb hc Ri=>?_,fun b o hb hc=>?_,fun b o hb=>?_⟩ fun b hb=>?_
  ·simp only[mem_cons,not_mem_nil,or_false,not_or]at hc
   exact m.keep b o ((other b hc.2).trans hb) (by simpa using hc.1) Ri
  ·simp only[mem_cons,not_mem_nil,or_false,not_or]at hc
   exact m.slot b o ((other b hc.2).trans hb) (by simpa using hc.1)
  ·by_cases OQ:b=T
   ·subst OQ
    exact m.there b _ KI
   ·exact m.there b o ((other b OQ).trans hb)
  ·simp only[mem_cons,not_mem_nil,or_false]at hb
   rcases hb with rfl | rfl
   ·exact .inl (by simp)
   ·exact .inr (le_of_eq KJ.symm)
theorem pk {base:Heap}{env:Env}{outer:List Env}{L e:Addr}{cls:Value}{dd:Option Addr}{ch:List Addr}{Q:Unit->Shared->Prop}
  (Dv:A.frames=some (env :: outer)) (hl:s.heap.FunFrames base (env :: outer)) (hf:env.frame=some L) (x:F6 s.heap e cls dd ch)
  (h:∀ h' HY,F6 h' e cls dd HY->qS (lP (env :: outer)) ch s.heap h'->(∀ b ∈ HY,b ∈ ch∨s.heap.objs.size <= b)->Q () { s with heap:=h' }) :
  wpAny M A (leaving env (.ref e)) Q E s:=by
 unfold leaving
 exact wpAny_bind (rD Dv hl hf x h)
end
section
variable {X:Cx}{pins:List (Addr × Obj)}{σ:St}{H:Hp}{s:Shared}
theorem Inv.F7 {h':Heap}{ch:List Addr}(I:Inv X pins σ H s)(m:qS (lP X.stack) ch s.heap h')
  (Ct:∀ b ∈ ch,X.s₀.heap.get? b=none/\H b=none/\(∀ p ∈ X.pn ++ pins,p.1 ≠ b)/\∃ o vs,s.heap.get? b=some o/\o.data = .fields vs) :
  Inv X pins σ H { s with heap:=h' }:=by
 have KL:∀ b o,s.heap.get? b=some o->(∀ vs,o.data ≠ .fields vs)->b ∉ ch:=fun b o hb hn hc=>by
  obtain⟨_,_,_,o',vs,BM,hd⟩:=Ct b hc
  rw[hb]at BM;cases BM
  exact hn vs hd
 have cellK:∀ c v,s.heap.IsCell c v->h'.IsCell c v:=fun c v ⟨o,ho,hd⟩=>by
  obtain⟨sl,e⟩:=m.slot c o ho (KL c o ho fun vs q=>by rw[hd]at q;cases q)
  exact⟨_,e,hd⟩
 refine⟨I.ok,I.os,I.bare,⟨fun b o e n hf hx=>?_,fun b o e n hf hx=>?_,I.base.free,fun b o e hx=>?_,I.base.Ci,I.base.BU,I.base.Cj⟩,?_,fun x c hc=>?_,I.free,I.AO,fun p hp=>?_,fun b u e=>?_,I.len⟩
 ·have e1:=I.base.keep b o e n hf hx
  refine m.keep b o e1 (fun hc=>?_) fun hs=>?_
  ·rw[(Ct b hc).1]at e;cases e
  ·rcases mem_cons.mp (I.BF b hs) with z | z
   ·rw[z]at e
    exact absurd (lt_size e) (Nat.not_lt.mpr I.ok.above)
   ·exact hf z
 ·obtain⟨sl,e1⟩:=I.base.slot b o e n hf hx
  obtain⟨Jr,e2⟩:=m.slot b _ e1 fun hc=>by rw[(Ct b hc).1]at e;cases e
  exact⟨Jr,e2⟩
 ·obtain⟨o',e1⟩:=I.base.there b o e hx
  exact m.there b o' e1
 ·obtain⟨mm,⟨o,es,ep,ho,hd,r⟩,hl⟩:=I.loc
  obtain⟨sl,e⟩:=m.slot _ o ho (KL _ o ho fun vs q=>by rw[hd]at q;cases q)
  refine⟨mm,⟨_,es,ep,e,hd,r⟩,fun i x v h1 h2 h3=>?_⟩
  obtain⟨u,ru,lk⟩:=hl i x v h1 h2 h3
  refine⟨u,ru,?_⟩
  rcases lk with ⟨a,b⟩ | ⟨a,c,hc,C4⟩
  ·exact .inl ⟨a,b⟩
  ·exact .inr ⟨a,c,hc,cellK c _ C4⟩
 ·obtain⟨v,hv⟩:=I.cell x c hc
  exact⟨v,cellK c v hv⟩
 ·obtain⟨a,b,c,d,e⟩:=I.pin p hp
  refine⟨m.keep _ _ a (fun hc=>(Ct _ hc).2.2.1 p hp rfl) fun hs=>?_,b,c,d,e⟩
  rcases mem_cons.mp (I.BF _ hs) with z | z
  ·exact c z
  ·exact d z
 ·refine(I.Ad b u e).BS (fun c v hc q=>m.keep c v q (fun z=>?_) fun z=>?_) (fun _ q=>q) fun _ _ q=>q
  ·have n:=(Ct c z).2.1
   rcases hc with rfl | hc
   ·rw[e]at n;cases n
   ·rw[hc]at n;cases n
  ·have n:=I.CF c z
   rcases hc with rfl | hc
   ·rw[e]at n;cases n
   ·rw[hc]at n;cases n
noncomputable def eE (P:Program)(w:World):pI:=fun outer H s E ev s'=>∃ e cls dd ch H',ev = .ref e/\s'.os=s.os/\AllBare s'.gens/\Un (lP outer) [] H H' s.heap s'.heap/\Bl P w H' s'.heap /\
 F6 s'.heap e cls dd ch/\(∀ b ∈ ch,s.heap.get? b=none/\H' b=none)/\E cls dd H'
noncomputable def XP (X:Cx)(pins:List (Addr × Obj))(σ:St)(E:XK)(ev:Value)(s':Shared):Prop:=∃ e cls dd ch H',ev = .ref e/\Inv X pins σ H' s'/\F6 s'.heap e cls dd ch /\
 (∀ b ∈ ch,X.s₀.heap.get? b=none/\H' b=none/\∀ p ∈ X.pn ++ pins,p.1 ≠ b)/\E cls dd H'
theorem Inv.EG (I:Inv X pins σ H s)(hex:X.ex=[]){b:Addr}(hb:s.heap.get? b=none):X.s₀.heap.get? b=none:=by
 cases q:X.s₀.heap.get? b with
 | none=>rfl
 | some o =>
  obtain⟨o',e⟩:=I.base.there b o q (by rw[hex];simp)
  rw[e]at hb;cases hb
theorem XP.KN {E:XK}{ev:Value}{s':Shared}(I:Inv X pins σ H s)(hex:X.ex=[])(x:eE X.prog X.w X.stack H s E ev s'):XP X pins σ E ev s':=by
 obtain⟨e,cls,dd,ch,H',rfl,os,bare,un,Ad,OR,new,q⟩:=x
 refine⟨e,cls,dd,ch,H',rfl,I.G8 (ch:=[]) os un Ad bare (fun b z=>absurd z (by simp)),OR,fun b hb=>⟨I.EG hex (new b hb).1,(new b hb).2,fun p hp z=>?_⟩,q⟩
 have:=(I.pin p hp).1
 rw[z,(new b hb).1]at this
 cases this
noncomputable def BO (X:Cx)(E:XK):Prop:=∀ (pins:List (Addr × Obj))(σ:St)(ev:Value)(s':Shared),XP X pins σ E ev s'->X.xe ev s'
theorem BO.passes {E:XK}(h:BO X E)(hex:X.ex=[]):dP (eE X.prog X.w) X E:=fun pins σ H s ev s' I x=>h pins σ ev s' (XP.KN I hex x)
theorem aP {P:Program}{w:World}{K:Frag}{mg:Str->Option Value}{base:Heap}{N:List Str}{qual:Str}{scope:Scope}{f:Addr}{cd:Value}{A:Around}{outer:List Env}{s:Shared}{H:Hp}{E:XK} :
  BO (iZ (eE P w) P w K mg base N qual scope f cd A outer s H E) E:=by
 intro pins σ ev s' x
 obtain⟨e,cls,dd,ch,H',rfl,I,OR,Ct,q⟩:=x
 refine pk (base:=base) (outer:=outer) I.ok.frames I.stack rfl OR fun h' HY Rj m new=>?_
 have I':=I.F7 m fun b hb=>⟨(Ct b hb).1,(Ct b hb).2.1,(Ct b hb).2.2,OR.rec b hb⟩
 refine⟨e,cls,dd,HY,H',rfl,I'.os,I'.bare,I'.base,I'.Ad,Rj,fun b hb=>?_,q⟩
 rcases new b hb with z | z
 ·exact⟨(Ct b z).1,(Ct b z).2.1⟩
 ·exact⟨Heap.get?_none_of_le (le_trans I.sz z),I.Ad.fresh z⟩
theorem qq {P:Program}{w:World}{K:Frag}{mg:Str->Option Value}{base:Heap}{N:List Str}{qual:Str}{scope:Scope}{f:Addr}{cd:Value}{A:Around}{outer:List Env}{s:Shared}{H:Hp}{E:XK} :
  PassesOwn (model P w) (iZ (eE P w) P w K mg base N qual scope f cd A outer s H E).A (iZ (eE P w) P w K mg base N qual scope f cd A outer s H E).env (iZ (eE P w) P w K mg base N qual scope f cd A outer s H E).xe :=
 PassesOwn.leaving (Q₁:=fun e HN=>eE P w outer H s E e HN)
end
end L2
namespace L2
open PySem PySem.Spec PyProof.Rows
noncomputable def dS:List Value:=[.type "ValueError", .type "Exception", .type "BaseException", .type "object"]
noncomputable def lQ:List Value->Bool
 | []=>false
 | .ref _ :: r=>lQ r
 | l=>l == dS
theorem j3 (self:Value):∀ {l:List Value},lQ l=true->refuseLoop self "__setattr__" l=pure ()
 | .ref c :: r,e=>by rw[refuseLoop_ref];exact j3 self e
 | .type a :: r,e=>by
  have e':(Value.type a :: r)=dS:=beq_iff_eq.mp e
  rw[e'];exact PySem.F.store_ValueError.passes self
 | .none :: r,e=>by have:=beq_iff_eq.mp (show(_ == dS)=true from e);cases this
 | .bool _ :: r,e=>by have:=beq_iff_eq.mp (show(_ == dS)=true from e);cases this
 | .int _ _ :: r,e=>by have:=beq_iff_eq.mp (show(_ == dS)=true from e);cases this
 | .float _ _ :: r,e=>by have:=beq_iff_eq.mp (show(_ == dS)=true from e);cases this
 | .str _ _ :: r,e=>by have:=beq_iff_eq.mp (show(_ == dS)=true from e);cases this
 | .bytes _ _ :: r,e=>by have:=beq_iff_eq.mp (show(_ == dS)=true from e);cases this
 | .builtin _ :: r,e=>by have:=beq_iff_eq.mp (show(_ == dS)=true from e);cases this
theorem jQ:∀ {l:List Value},lQ l=true->l.contains (.type "object")=true/\l.contains (.type "BaseException")=true/\l.isEmpty=false
 | .ref c :: r,e=>by
  obtain⟨a,b,_⟩:=jQ (l:=r) e
  exact⟨by rw[contains_cons,a,Bool.or_true],by rw[contains_cons,b,Bool.or_true],rfl⟩
 | .type a :: r,e=>by
  have e':(Value.type a :: r)=dS:=beq_iff_eq.mp e
  rw[e'];exact⟨by decide,by decide,rfl⟩
 | .none :: r,e=>by have:=beq_iff_eq.mp (show(_ == dS)=true from e);cases this
 | .bool _ :: r,e=>by have:=beq_iff_eq.mp (show(_ == dS)=true from e);cases this
 | .int _ _ :: r,e=>by have:=beq_iff_eq.mp (show(_ == dS)=true from e);cases this
 | .float _ _ :: r,e=>by have:=beq_iff_eq.mp (show(_ == dS)=true from e);cases this
 | .str _ _ :: r,e=>by have:=beq_iff_eq.mp (show(_ == dS)=true from e);cases this
 | .bytes _ _ :: r,e=>by have:=beq_iff_eq.mp (show(_ == dS)=true from e);cases this
 | .builtin _ :: r,e=>by have:=beq_iff_eq.mp (show(_ == dS)=true from e);cases this
noncomputable def iM (K:Frag)(C:Addr):Bool:=(PySem.W.clsIn K C).any fun cd=>lQ cd.mro
structure gK (K:Frag)(C:Addr):Prop where
 mro:iM K C=true
 hd:hasDictIn K C=true
 sa:findIn K (.ref C) "__setattr__" = some (some (.builtin "object.__setattr__"))
 ga:findIn K (.ref C) "__getattribute__" = some (some (.builtin "BaseException.__getattribute__"))
 gn:findIn K (.ref C) "__getattr__" = some none
section
variable {prog:Program}{w:World}{A:Around}{E:Value->Shared->Prop}{s:Shared}{K:Frag}{x C:Addr}{ox:Obj}{name:Str}{v:Value}
open PySem.W in
theorem qr {R:Result->Shared->Prop}{od:Option Obj}{tk:Tok}(X:K.In s.heap)(I:PySem.W.InstAt s.heap x ox C od)(hp:iM K C=true)(ht:findIn K (.ref C) name=some none)
  (h:∀ b,wpAny (model prog w) A.in1 (Builtin.ObjectAttr.storeInOwnDict (.ref x) (.ref C) (.str name tk) name v b)
   (fun fin s'=>match fin with | .done f=>R (.ok f) s' | .again c'=>c'.quiet=true/\codeAny (model prog w) A c' R s') (fun e s'=>R (.error e) s') s) :
  codeAny (model prog w) A (.call (.builtin "object.__setattr__") ⟨[.ref x, .str name tk,v],[]⟩) R s:=by
 have SF:=PySem.F.store_object
 obtain⟨cd,hc,ho⟩:=any_some hp
 obtain⟨h1,h2,ne⟩:=jQ ho
 have sub:Looks (model prog w) s.heap (isInstance (.ref x) (.type "object")) true:=I.type.andThen (looks_mroIn X (by unfold mroIn;rw[hc,Option.bind_some,if_neg (by rw[ne];decide),h1]))
 refine codeAny_call_builtin SF.slot.plain SF.entry (@check_slot (model prog w) _ _ s "object.__setattr__" "object" "__setattr__" (.ref x) [.str name tk,v] [] _ SF.kind SF.split sub (SF.args (.ref x) (.str name tk) v) ?_)
 have hm:Looks (model prog w) s.heap (mroOf (.ref C)) cd.mro:=(looks_clsIn X hc).andThen .now
 have L3:Looks (model prog w) s.heap (Builtin.ObjectAttr.storeTaker? none) none := .now
 rw[osa_eq,refuse_eq]
 refine wpAny_bind (wpAny_bind (I.type.here (wpAny_bind (hm.here ?_))))
 rw[j3 _ ho]
 refine wpAny_pure (wpAny_bind (I.type.here (wpAny_bind ((looks_findIn X ht).here (wpAny_bind (L3.here ?_))))))
 exact h _
theorem mD {vs:Array Value}{Q:Unit->Shared->Prop}(X:K.In s.heap)(hx:s.heap.get? x=some ⟨.ref C,none, .fields vs,#[]⟩)(c:gK K C)(ht:findIn K (.ref C) name=some none)
  (h:∀ h' t',h'.get? x=some ⟨.ref C,some s.heap.objs.size, .fields vs,#[]⟩->h'.Ns1 s.heap.objs.size (fun y=>if y=name then some v else none) ->
   (∀ b o,b ≠ x->s.heap.get? b=some o->h'.get? b=some o)->Q () { s with heap:=h',toks:=t' }) :
  wpAny (model prog w) A (setAttr (.ref x) name v) Q E s:=by
 have I:PySem.W.InstAt s.heap x ⟨.ref C,none, .fields vs,#[]⟩ C none:=⟨hx,rfl,rfl,True.intro⟩
 refine PySem.W.set_plain X I c.sa (qr (s:={ s with toks:=s.toks + 1 }) X I c.mro ht fun b=>?_)
 obtain⟨cd,hc,HJ⟩:=PySem.W.any_some c.hd
 obtain⟨hp,g,d,t,os⟩:=s
 dsimp only at X hx h I ⊢
 refine wpAny_bind (wpAny_pure (wpAny_bind (wpAny_bind (wpAny_loadPart hx (wpAny_bind (PySem.W.Looks.here (s:=⟨hp,g,d,t + 1,os⟩) (PySem.W.looks_clsIn X hc) ?_))))))
 rw[HJ]
 have GI:(hp.push { cls := .type "dict",data := .dict #[] }).get? x=some ⟨.ref C,none, .fields vs,#[]⟩:=Heap.get?_push_of_some _ hx
 have W7:x ≠ hp.objs.size:=ne_of_lt (lt_size hx)
 rw[if_neg (by decide)]
 dsimp only
 rw[if_neg (by simp[typeHasDict])]
 refine wpAny_bind (wpAny_alloc' ?_)
 refine wpAny_bind (wpAny_update' GI ?_)
 refine wpAny_pure ?_
 have hgd:((hp.push { cls := .type "dict",data := .dict #[] }).update x fun o=>{ cls:=o.cls,dict:=some hp.objs.size,data:=o.data,slots:=o.slots }).get? hp.objs.size
   = some { cls := .type "dict",data := .dict #[] } :=
  (Heap.get?_update_ne _ _ _ _ W7.symm).trans (Heap.get?_push_at rfl rfl)
 have hnd:((hp.push { cls := .type "dict",data := .dict #[] }).update x fun o=>{ cls:=o.cls,dict:=some hp.objs.size,data:=o.data,slots:=o.slots }).Ns hp.objs.size (fun _=>none) :=
  ⟨_,#[],_,hgd,rfl,fun e he=>absurd he (by simp),fun _=>rfl⟩
 show wpAny _ _ (Builtin.ObjectAttr.storeInDict hp.objs.size (.str name t) name v) _ _ _
 unfold Builtin.ObjectAttr.storeInDict Builtin.ObjectAttr.newKeyGuard
 refine wpAny_bind (wpAny_pure (wpAny_bind (wpAny_nsSet1 (Heap.Ns1.of_empty hnd) fun h' CQ hs=>?_)))
 obtain⟨oD,Wq,Wr,Kq,Kr,Ks⟩:=CQ.count (Within.cons name v Within.nil)
 refine wpAny_bind (wpAny_lookBehind Kq (by rw[Kr];exact pastItsLine_dict (le_trans Ks (by rw[length_cons,length_nil,sizeLine_eq];omega))) ?_)
 refine wpAny_pure (h h' _ ?_ CQ fun b o hbx hb=>?_)
 ·exact(hs.2 x W7).trans (Heap.get?_update_self _ GI rfl)
 ·exact(hs.2 b (ne_of_lt (lt_size hb))).trans ((Heap.get?_update_ne _ _ _ _ hbx).trans (Heap.get?_push_of_some _ hb))
open PySem.W in
end
end L2
namespace PySem
section
variable {prog:Program}{w:World}{A:Around}{E:Value->Shared->Prop}{h:Heap}{g:Array GenState}{d:Drawn}{t:Nat}{os:OsState}
variable {nm q:Str}{C N:Addr}{bs bm OS:List Value}{B7:Bool}{sn:List Str}{sub:List Value}{ab:Bool}{col:Option Bool}{dd:Option Addr}{k0 k1 k2 k3 k5:Option Value}{B newId EH:String}
theorem gP (F:ExcBaseFacts B newId EH OS)(T:OwnTail h OS bm){mN:Str->Option Value}{rest:List Value}{fI:Addr}{oI:Obj}{Q:Fin->Shared->Prop}
  (hC:h.get? C=some (excClassObj nm q C N bs bm B7 sn sub ab col dd k0 k1 k2 k3 k5 newId)) (hn:h.Ns N mN) (hi:mN "__init__" = some (.ref fI))
  (Rk:h.get? fI=some oI) (Rl:oI.cls = .type "function")
  (hq:wpAny (model prog w) A (call (.ref fI) (.ref (h.objs.size + 1) :: rest)) (fun r s'=>r = .none/\Q (.done (.ret (.ref (h.objs.size + 1)))) s') E
   ⟨(h.push { cls := .type "tuple",data := .seq rest.toArray }).push { cls := .ref C,data := .fields #[.ref h.objs.size, .none, .none, .none, .bool false, .none] },g,d,t,os⟩) (hrest:rest.length <= sizeLine:=by size_fits) :
  wpAny (model prog w) A (Builtin.«type.__call__» ⟨.ref C :: rest,[]⟩) Q E ⟨h,g,d,t,os⟩:=by
 repeat (first | with_reducible refine wpAny_loadPart_at hC ?_ | with_reducible refine wpAny_madeBy_exc hC ?_ | wp_step)
 refine codeAny_call_builtin_code (Code.quiet_builtin _ F.quiet) (wpAny_check_new_subT F T hC ?_)
 refine codeAny_exc_new_subT F T hC ?_ hrest
 show wpAny _ _ _ _ _ _
 have GJ:=Heap.get?_push_of_some { cls := .ref C,data := .fields #[.ref h.objs.size, .none, .none, .none, .bool false, .none] }
  (Heap.get?_push_of_some { cls := .type "tuple",data := .seq rest.toArray } hC)
 have HZ:=Heap.get?_push_of_some { cls := .ref C,data := .fields #[.ref h.objs.size, .none, .none, .none, .bool false, .none] }
  (Heap.get?_push_of_some { cls := .type "tuple",data := .seq rest.toArray } Rk)
 have KO:((h.push { cls := .type "tuple",data := .seq rest.toArray }).push { cls := .ref C,data := .fields #[.ref h.objs.size, .none, .none, .none, .bool false, .none] }).Ns N mN :=
  let ⟨o,es,ep,e,r⟩:=hn; ⟨o,es,ep,Heap.get?_push_of_some _ (Heap.get?_push_of_some _ e),r⟩
 have Ib:((h.push { cls := .type "tuple",data := .seq rest.toArray }).push
   { cls := .ref C,data := .fields #[.ref h.objs.size, .none, .none, .none, .bool false, .none] }).get? (h.objs.size + 1)=some
   { cls := .ref C,data := .fields #[.ref h.objs.size, .none, .none, .none, .bool false, .none] }:=by heap_get
 have hcC:(Value.ref C :: bm).contains (.ref C)=true:=by simp
 have T₁:=T.keeps (h':=(h.push { cls := .type "tuple",data := .seq rest.toArray }).push { cls := .ref C,data := .fields #[.ref h.objs.size, .none, .none, .none, .bool false, .none] })
  fun b o e=>Heap.get?_push_of_some _ (Heap.get?_push_of_some _ e)
 unfold isInstance
 repeat (first | with_reducible refine wpAny_loadPart_at Ib ?_ | (with_reducible refine wpAny_isSubtype_exc GJ ?_;rw[hcC]) | wp_step)
 show wpAny _ _ (typeLookup (.ref C) _) _ _ _
 refine wpAny_typeLookup_tail GJ KO T₁ F.mroIs F.init.lookup ?_
 rw[hi]
 refine wpAny_holding (wpAny_bind ?_)
 unfold bindSpecial
 refine wpAny_bind (wpAny_typeOf (T := "function") ⟨_,HZ,Rl⟩ ?_)
 rw[if_pos (by decide)]
 refine wpAny_pure (wpAny_bind (wpAny_mono hq (fun r s' hr=>?_) fun _ _ x=>x))
 obtain⟨rfl,hQ⟩:=hr
 wp_walk
 exact hQ
theorem lc (F:ExcBaseFacts B newId EH OS)(T:OwnTail h OS bm){mN:Str->Option Value}{rest:List Value}{fI:Addr}{oI:Obj}{Q:Value->Shared->Prop}
  (hC:h.get? C=some (excClassObj nm q C N bs bm B7 sn sub ab col dd k0 k1 k2 k3 k5 newId)) (hn:h.Ns N mN) (hi:mN "__init__" = some (.ref fI))
  (Rk:h.get? fI=some oI) (Rl:oI.cls = .type "function")
  (hq:wpAny (model prog w) (A.under (.builtin "type.__call__" ⟨.ref C :: rest,[]⟩)) (call (.ref fI) (.ref (h.objs.size + 1) :: rest)) (fun r s'=>r = .none/\Q (.ref (h.objs.size + 1)) s') E
   ⟨(h.push { cls := .type "tuple",data := .seq rest.toArray }).push { cls := .ref C,data := .fields #[.ref h.objs.size, .none, .none, .none, .bool false, .none] },g,d,t,os⟩) (hrest:rest.length <= sizeLine:=by size_fits) :
  wpAny (model prog w) A (call (.ref C) rest) Q E ⟨h,g,d,t,os⟩:=by
 have f1:=tc_lookup
 have f2:=tc_bind (.ref C)
 have hT:(⟨h,g,d,t,os⟩:Shared).TypeIs (.ref C) "type":=⟨_,hC,rfl⟩
 refine wpAny_call (codeAny_of_tree ?_)
 show wpAny _ _ (callAny (.ref C) _) _ _ _
 repeat (any_goals (first | assumption | with_reducible refine wpAny_loadPart_at hC ?_ | wp_step))
 refine⟨rfl,?_⟩
 refine codeAny_call_builtin_at (Code.quiet_builtin _ (by decide +kernel)) entry_typeCall (wpAny_check_type_call_sub hC (gP (hrest:=hrest) F T hC hn hi Rk Rl ?_))
 exact hq
end
section
variable {M:Model}{A:Around}{E:Value->Shared->Prop}{env:Env}
variable {nm q:Str}{C N:Addr}{bs bm:List Value}{B7:Bool}{sn:List Str}{sub:List Value}{ab:Bool}{col:Option Bool}{dd:Option Addr}{k0 k1 k2 k3 k5:Option Value}{newId:String}
theorem gQ {s:Shared}{x:Sem Value}{Q:Flow->Shared->Prop}(hh:A.handled=none)
  (h:wpAny M A x (fun v s₁=>∃ e t de nm q N bs bm B7 sn sub ab col dd k0 k1 k2 k3 k5 newId,v = .ref e/\bm.contains (.type "BaseException")=true/\s₁.heap.get? C=some (excClassObj nm q C N bs bm B7 sn sub ab col dd k0 k1 k2 k3 k5 newId) /\
   s₁.heap.get? e=some { cls := .ref C,dict:=de,data := .fields #[.ref t, .none, .none, .none, .bool false, .none] }/\E (.ref e) s₁) E s) :
  wpAny M A (raiseStmt env (some x) none) Q E s:=by
 unfold raiseStmt
 refine wpAny_bind (wpAny_mono h (fun v s₁ h₁=>?_) fun _ _ x=>x)
 obtain⟨e,t,de,nm,q,N,bs,bm,B7,sn,sub,ab,col,dd,k0,k1,k2,k3,k5,newId,rfl,Dd,hC,he,hE⟩:=h₁
 have hcB:(Value.ref C :: bm).contains (.type "BaseException")=true:=by rw[contains_cons,Dd,Bool.or_true]
 obtain⟨hp,g,d,tk,os⟩:=s₁
 repeat (first | with_reducible refine wpAny_loadPart_at he ?_ | with_reducible refine wpAny_loadPart_at hC ?_ | (with_reducible refine wpAny_isSubtype_exc hC ?_;rw[hcB]) | wp_step)
 exact wpAny_raiseNew_none hh hE
end
end PySem
namespace L2
open PySem PySem.Spec PyProof.Rows
noncomputable def b8 (K:Frag)(C:Addr)(init:Option Value):Bool:=match K.lookup C with
 | some ⟨.type "type",_, .cls cd,sl⟩=>(match cd.mro,sl.toList with
  | .ref C' :: bm,[_,_,_,_,some (.builtin n),_]=>C' == C && n == "ValueError.__new__" && !cd.hasDel && PySem.W.tailIn K dS bm && PySem.W.nsOkIn K cd.ns && nsIn K cd.ns "__init__" == some init
  | _,_=>false)
 | _=>false
theorem iG {K:Frag}{h:Heap}{N:Addr}{x:Str}{v:Value}(X:K.In h)(e:PySem.W.nsOkIn K N=true)(q:nsIn K N x=some (some v)):h.nsMap N x=some v:=by
 have G:h.Ns N (h.nsMap N) := .of_isNs (PySem.W.isNs_of_in X e)
 generalize h.nsMap N=m at G ⊢
 obtain⟨o,es,ep,ho,hd,_,hf⟩:=G
 unfold nsIn at q
 split at q
 ·rename_i c d O7 n' sl z
  have:=X _ _ z
  rw[ho]at this
  cases this
  cases hd
  split at q
  ·rename_i en he
   cases q
   rw[← hf]
   unfold nsFind findBy
   rw[← Array.find?_toList,he]
   rfl
  ·split at q<;>cases q
 ·cases q
theorem lR {K:Frag}{h:Heap}{C:Addr}{init:Option Value}(X:K.In h)(q:b8 K C init=true):∃ bm N nm qn bs B7 sn sub ab col dd k0 k1 k2 k3 k5 mN,
  h.get? C=some (excClassObj nm qn C N bs bm B7 sn sub ab col dd k0 k1 k2 k3 k5 "ValueError.__new__")/\h.Ns N mN/\mN "__init__" = init/\OwnTail h dS bm:=by
 unfold b8 at q
 split at q
 ·rename_i dd cd sl ho
  split at q
  ·rename_i C' bm k0 k1 k2 k3 n k5 hm hs
   simp only[Bool.and_eq_true,beq_iff_eq,Bool.not_eq_true']at q
   obtain⟨⟨⟨⟨⟨rfl,rfl⟩,KP⟩,ht⟩,Ad⟩,GK⟩:=q
   obtain⟨nm,bs,mro,ns,qn,hd,sn,sub,ab,col,vn⟩:=cd
   dsimp only at hm KP Ad GK
   subst hm KP
   have OT:sl = #[k0,k1,k2,k3,some (.builtin "ValueError.__new__"),k5]:=by
    obtain⟨l⟩:=sl
    simp only at hs
    rw[hs]
   subst OT
   refine⟨bm,ns,nm,qn,bs,hd,sn,sub,ab,col,dd,k0,k1,k2,k3,k5,_,X _ _ ho, .of_isNs (PySem.W.isNs_of_in X Ad),?_,PySem.W.tail_of_in X ht⟩
   cases init with
   | none=>exact PySem.W.nsMap_none_of_in X Ad GK
   | some v=>exact iG X Ad GK
  ·cases q
 ·cases q
theorem qT {h:Heap}{bm:List Value}(T:OwnTail h dS bm):bm.contains (.type "BaseException")=true:=T.hasType (by decide)
noncomputable def dD (C t:Addr)(dd:Option Addr):Obj:={ cls := .ref C,dict:=dd,data := .fields #[.ref t, .none, .none, .none, .bool false, .none] }
noncomputable abbrev TX:=St->Hp->(Option Addr->Hp->Prop)->Prop
noncomputable def PX (X:Cx)(e:Expr)(C:Addr)(t:TX):Prop :=
 ∀ (pins:List (Addr × Obj))(s:Shared)(σ:St)(H:Hp)(R:Option Addr->Hp->Prop),Inv X pins σ H s->t σ H R->wpAny (model X.prog X.w) X.A (eval e X.env)
  (fun u s'=>∃ ea dd tt H',u = .ref ea/\Inv X pins σ H' s'/\s'.heap.get? ea=some (dD C tt dd)/\X.s₀.heap.get? ea=none/\H' ea=none/\(∀ p ∈ X.pn ++ pins,p.1 ≠ ea)/\R dd H') X.xe s
theorem Bl.at {P:Program}{w:World}{H:Hp}{h:Heap}{a:Addr}{o:HO}(x:Bl P w H h)(e:H a=some o):∃ ob,h.get? a=some ob:=by
 have q:=x a o e
 have all:∀ o,Ap P w H h a o->∃ ob,h.get? a=some ob:=by
  intro o
  induction o with
  | lst xs=>intro ⟨_,Ab,n,_,e⟩;exact⟨_,e⟩
  | tup xs=>intro ⟨_,Ab,_,ob,e,_⟩;exact⟨_,e⟩
  | dK kvs=>intro ⟨_,_,vs,_,q⟩;obtain⟨o,es,ep,e,_⟩:=q;exact⟨_,e⟩
  | dT kvs=>intro ⟨_,_,xs,_,o,es,ep,e,_⟩;exact⟨_,e⟩
  | set S n=>intro q;obtain⟨o,_,_,_,e,_⟩:=q;exact⟨_,e⟩
  | ins C dx fs=>intro ⟨_,_,_,e,_⟩;exact⟨_,e⟩
  | own x=>intro ⟨o,e⟩;exact⟨_,e⟩
  | xd fs=>intro ⟨mA,⟨o,es,ep,e,_⟩,_⟩;exact⟨_,e⟩
  | O2 lo hi=>intro ⟨_,_,_,e⟩;exact⟨_,e⟩
  | BK o u ih=>intro ⟨e,_⟩;exact⟨_,e⟩
  | G6 ps=>intro e;exact⟨_,e⟩
  | met f x=>intro e;exact⟨_,e⟩
  | ext φ=>intro ⟨_,e,_⟩;exact e
 exact all o q
theorem Bl.none_of {P:Program}{w:World}{H:Hp}{h:Heap}{a:Addr}(x:Bl P w H h)(e:h.get? a=none):H a=none:=by
 cases q:H a with
 | none=>rfl
 | some o =>
  obtain⟨ob,z⟩:=x.at q
  rw[e]at z;cases z
noncomputable def vn (H:Hp)(a:Addr):Hp:=fun b=>if b=a then none else H b
theorem nD {H:Hp}{a:Addr}:vn H a a=none:=if_pos rfl
theorem dM {H:Hp}{a b:Addr}(h:b ≠ a):vn H a b=H b:=if_neg h
theorem Inv.drop {X:Cx}{pins:List (Addr × Obj)}{σ:St}{H:Hp}{s:Shared}{a:Addr} {φ:Heap->Prop} (I:Inv X pins σ H s) (e:H a=some (.ext φ)):Inv X pins σ (vn H a) s:=by
 have nx:∀ b u,H b=some u->(∀ φ,u ≠ .ext φ)->b ≠ a:=fun b u q n z=>by rw[z,e]at q;cases q;exact n φ rfl
 have nn:∀ b,H b=none->vn H a b=none:=fun b q=>by unfold vn;split<;>first | rfl | exact q
 refine⟨I.ok,I.os,I.bare,⟨I.base.keep,I.base.slot,fun b o h1 h2 h3=>nn b (I.base.free b o h1 h2 h3),I.base.there,fun b xs q=>?_,fun b o u q=>?_,fun b ps q=>?_⟩,I.loc,I.cell,nn _ I.free,fun x c h=>nn _ (I.AO x c h),fun p hp=>?_,fun b u q=>?_,I.len⟩
 ·have z:=I.base.Ci b xs q
  rw[dM (nx b _ z fun φ h=>by cases h)];exact z
 ·have z:=I.base.BU b o u q
  rw[dM (nx b _ z fun φ h=>by cases h)];exact z
 ·obtain⟨more,z⟩:=I.base.Cj b ps q
  exact⟨more,by rw[dM (nx b _ z fun φ h=>by cases h)];exact z⟩
 ·obtain⟨h1,h2,h3⟩:=I.pin p hp
  exact⟨h1,nn _ h2,h3⟩
 ·have hb:b ≠ a:=fun z=>by rw[z,nD]at q;cases q
  rw[dM hb]at q
  refine(I.Ad b u q).BS (fun c v _ z=>z) (fun c z=>?_) fun c xs z=>?_
  ·rw[dM (nx c _ z fun φ h=>by cases h)];exact z
  ·rw[dM (nx c _ z fun φ h=>by cases h)];exact z
section
variable {X:Cx}{C f:Addr}{x:Str}{p pos apos:Pos}{e:Expr}{es:List Expr}{t:TA}
noncomputable def ya (t:TA):TX:=fun σ H R=>t σ H fun vs H1=>vs.length <= sizeLine/\R none H1
theorem cf (hq:b8 X.K C none=true)(kp:keepIn X.K (.ref C)=true)(hex:X.ex=[])(hg:Gl X x)(hm:X.mg x=some (.ref C))(ha:PA X (e :: es) t)
  (EA:(x == ("__debug__":Str))=false:=by decide) (he:starEach (e :: es) X.env=(false,eval e X.env) :: starEach es X.env:=by rfl) (BL:(backTo pos (starEach es X.env)).any (·.1)=false:=by rfl) :
  PX X (.Call (.Name x p) (e :: es) [] pos) C (ya t):=by
 intro pins s σ H R I h
 refine wpAny_Call_Name_kw (iy I hg hm ?_ EA)
 refine PySem.W.callWith_K (h₀:=X.base) I.ok.mod.Eo kp (aS (ha pos pins s σ H _ I h) fun us s1 ⟨vs,H1,I1,r,hl,q⟩=>⟨I1.Bd,?_⟩) he BL
 obtain⟨bm,N,nm,qn,bs,B7,sn,sub,ab,col,dd,k0,k1,k2,k3,k5,mN,hC,hn,GK,T⟩:=lR I1.Bd hq
 obtain⟨hp,g,d,tk,os⟩:=s1
 refine wpAny_call_exc_subT (hrest:=by show us.length <= _;rw[← r.length];exact hl) PySem.F.excBase_ValueError T hC hn GK fun h' ea Dk=>?_
 obtain⟨tt,ht,_,_⟩:=Dk.there
 refine⟨ea,none,tt,H1,rfl,I1.kept (t':=tk) Dk.keeps,ht,I1.EG hex Dk.new,I1.Ad.none_of Dk.new,fun p hp z=>?_,q⟩
 have:=(I1.pin p hp).1
 rw[z]at this
 have h2:=Dk.new
 rw[this]at h2
 cases h2
noncomputable def bP (e C t:Addr)(dd:Option Addr):HO := .ext fun h=>h.get? e=some (dD C t dd)
theorem jR {P:Program}{w:World}{H:Hp}{h:Heap}{e C t:Addr}{dd:Option Addr}(q:h.get? e=some (dD C t dd)):Ap P w H h e (bP e C t dd) :=
 ⟨q,⟨_,q⟩,fun h1 h2 a b=>b _ a⟩
noncomputable def yb (C:Addr)(sp:Sp)(t:TA):TX:=fun σ H R=>t σ H fun vs H1=>vs.length <= sizeLine/\∀ e tt,H1 e=none->sp (.ref e :: vs) (upd H1 e (bP e C tt none)) (fun v H2=>v = .An/\∃ dd,H2 e=some (bP e C tt dd)/\R dd (vn H2 e)) E0
theorem je {k:Nat}{fd:FuncData}{ps:List Str}{sp:Sp}(hq:b8 X.K C (some (.ref f))=true)(hf:isFn X.K (.ref f)=true)(kp:keepIn X.K (.ref C)=true)(F:zX X.prog X.w X.K X.mg X.base aC k f fd ps sp)(hr:Ah (k + 1) X.A)(hb:Binds X.K fd ps [])
  (hg:Gl X x) (hm:X.mg x=some (.ref C)) (ha:PA X (e :: es) t)
  (EA:(x == ("__debug__":Str))=false:=by decide) (he:starEach (e :: es) X.env=(false,eval e X.env) :: starEach es X.env:=by rfl) (BL:(backTo pos (starEach es X.env)).any (·.1)=false:=by rfl) :
  PX X (.Call (.Name x p) (e :: es) [] pos) C (yb C sp t):=by
 intro pins s σ H R I h
 refine wpAny_Call_Name_kw (iy I hg hm ?_ EA)
 refine PySem.W.callWith_K (h₀:=X.base) I.ok.mod.Eo kp (aS (ha pos pins s σ H _ I h) fun us s1 ⟨vs,H1,I1,r,hl,q⟩=>⟨I1.Bd,?_⟩) he BL
 obtain⟨bm,N,nm,qn,bs,B7,sn,sub,ab,col,dd,k0,k1,k2,k3,k5,mN,hC,hn,GK,T⟩:=lR I1.Bd hq
 obtain⟨oI,W8,hcI⟩:∃ oI,s1.heap.get? f=some oI/\oI.cls = .type "function":=by
  have z:=beq_iff_eq.mp hf
  obtain⟨o,ho,z⟩:=Option.map_eq_some_iff.mp (show(X.K.lookup f).map (·.cls)=some (.type "function") from z)
  exact⟨o,I1.Bd _ _ ho,z⟩
 obtain⟨hp,g,d,tk,os⟩:=s1
 dsimp only at hC hn T W8
 refine lc (hrest:=by show us.length <= _;rw[← r.length];exact hl) PySem.F.excBase_ValueError T hC hn GK W8 hcI ?_
 have nE:hp.objs.size <= hp.objs.size + 1:=le_succ _
 have W9:=q (hp.objs.size + 1) hp.objs.size (I1.Ad.fresh nE)
 have Ib:((hp.push { cls := .type "tuple",data := .seq us.toArray }).push (dD C hp.objs.size none)).get? (hp.objs.size + 1)=some (dD C hp.objs.size none):=by
  have:=Heap.get?_push_size (hp.push { cls := .type "tuple",data := .seq us.toArray }) (o:=dD C hp.objs.size none) rfl
  rwa [size_push]at this
 have I2:Inv X pins σ (upd H1 (hp.objs.size + 1) (bP (hp.objs.size + 1) C hp.objs.size none)) ⟨(hp.push { cls := .type "tuple",data := .seq us.toArray }).push (dD C hp.objs.size none),g,d,tk,os⟩ :=
  I1.laid (t':=tk) (fun b u z=>Heap.get?_push_of_some _ (Heap.get?_push_of_some _ z)) nE (jR Ib)
 have r2:Vals (V.ref (hp.objs.size + 1) :: vs) (Value.ref (hp.objs.size + 1) :: us) := .cons rfl r
 have Eu:(Value.ref (hp.objs.size + 1) :: us ++ []).length=ps.length:=by
  have e:=r2.length
  rw[F.len _ _ _ _ W9]at e
  rw[append_nil];exact e.symm
 have KQ:=hb ⟨(hp.push { cls := .type "tuple",data := .seq us.toArray }).push (dD C hp.objs.size none),g,d,tk,os⟩ (Value.ref (hp.objs.size + 1) :: us) I2.Bd Eu
 rw[append_nil]at KQ
 refine wpAny_call (codeAny_mono (F.run _ X.stack _ _ ⟨Value.ref (hp.objs.size + 1) :: us,[]⟩ (Value.ref (hp.objs.size + 1) :: us) _ _ E0 (hr.make C us []) (I2.HL.make C us []) KQ r2 W9) fun rr s' CG=>?_)
 cases rr with
 | error e=>exact CG.elim
 | ok fl =>
  cases fl with
  | ret u =>
   obtain⟨v,H',I3,rv,ev,de,Dx,q3⟩:=I2.after CG
   subst ev
   refine⟨rv,hp.objs.size + 1,de,hp.objs.size,vn H' (hp.objs.size + 1),rfl,I3.drop Dx,(I3.Ad _ _ Dx).1,Heap.get?_none_of_le (le_trans I1.sz nE),nD,fun p DQ z=>?_,q3⟩
   have:=lt_size (I1.pin p DQ).1
   rw[z]at this
   exact absurd this (Nat.not_lt.mpr nE)
  | next=>exact False.elim CG
  | brk=>exact False.elim CG
  | cont=>exact False.elim CG
noncomputable def ye (C:Addr)(E:XK)(t:TX):TS:=fun _ σ H=>t σ H fun dd H1=>E (.ref C) dd H1
theorem bF {E:XK}{tx:TX}{init:Option Value}(hc:X.calm=true)(hq:b8 X.K C init=true)(hx:BO X E)(h:PX X e C tx):PS X (.Raise (some e) none pos) (ye C E tx):=by
 intro pins s σ H D I hw
 rw[arm_exec_Raise]
 have key:wpAny (model X.prog X.w) X.A (eval e X.env) (fun v s₁=>∃ ea t de nm q N bs bm B7 sn sub ab col dd k0 k1 k2 k3 k5 newId,v = .ref ea/\bm.contains (.type "BaseException")=true/\s₁.heap.get? C=some (excClassObj nm q C N bs bm B7 sn sub ab col dd k0 k1 k2 k3 k5 newId) /\
   s₁.heap.get? ea=some { cls := .ref C,dict:=de,data := .fields #[.ref t, .none, .none, .none, .bool false, .none] }/\X.xe (.ref ea) s₁) X.xe s:=by
  refine aS (h pins s σ H _ I hw) fun u s1 Aj=>?_
  obtain⟨ea,dd,tt,H',eu,I1,ho,hn,hh,hp,q⟩:=Aj
  obtain⟨bm,N,nm,qn,bs,B7,sn,sub,ab,col,ddc,k0,k1,k2,k3,k5,mN,hC,HS,GK,T⟩:=lR I1.Bd hq
  refine⟨ea,tt,dd,nm,qn,N,bs,bm,B7,sn,sub,ab,col,ddc,k0,k1,k2,k3,k5,_,eu,qT T,hC,ho,hx pins σ _ _ ⟨ea, .ref C,dd,[ea],H',rfl,I1,⟨_,_,ho,rfl,rfl,rfl, .inl ⟨rfl,rfl⟩⟩,fun b hb=>?_,q⟩⟩
  simp only[mem_singleton]at hb
  subst hb
  exact⟨hn,hh,hp⟩
 first
  | refine wpAny_bind (wpAny_standAt (gQ (C:=C) (I.ok.hd hc) (wpAny_bind (wpAny_mono key (fun v s₃ h₃=>wpAny_bind (wpAny_standAt (wpAny_pure h₃))) fun _ _ x=>x))))
  | (simp only[evalOpt,Option.map];refine wpAny_bind (wpAny_standAt (gQ (C:=C) (I.ok.hd hc) (wpAny_bind (wpAny_mono key (fun v s₃ h₃=>wpAny_bind (wpAny_standAt (wpAny_pure h₃))) fun _ _ x=>x)))))
end
end L2
namespace L2
open PySem PySem.Spec PyProof.Rows
section
variable {prog:Program}{w:World}{A:Around}{E:Value->Shared->Prop}{s:Shared}{K:Frag}{x C:Addr}{ox:Obj}{od:Option Obj}{name:Str}{v:Value}
open PySem.W in
open PySem.W in
end
section
variable {X:Cx}{pins:List (Addr × Obj)}{σ:St}{H:Hp}{s:Shared}{ea:Addr}{oe:Obj}
end
end L2
namespace L2
open PySem PySem.Spec PyProof.Rows
noncomputable def KR (K:Frag)(ta tv:TE)(f:Str):TS:=fun D σ H=>tv σ H fun y H1=>ta σ H1 fun x H2=>∃ a C tt,x = .ref a/\H2 a=some (bP a C tt none)/\gK K C/\findIn K (.ref C) f=some none /\
 ∀ d,H2 d=none->D.nx σ (upd (upd H2 d (.xd [(f,y)])) a (bP a C tt (some d)))
section
variable {X:Cx}{o e value:Expr}{f:Str}{pos pos':Pos}{ta tv:TE}
theorem lA (ha:PE X o ta)(hv:PE X value tv)(hs:swapsWith value (some (.Attribute o f pos')) pos.line X.env=pure false):PS X (.Assign [.Attribute o f pos'] value pos) (KR X.K ta tv f):=by
 intro pins s σ H D I h
 refine plainObj_wpAny_Assign_Attribute (aS (hv pins s σ H _ I h) fun u s1 ⟨y,H1,I1,ry,q⟩=>aS (ha pins s1 σ H1 _ I1 q) fun ov s2 Aj=>?_) hs
 obtain⟨x,H2,I2,rx,a,C,tt,ex,ea,c,n,q2⟩:=Aj
 subst ex
 obtain rfl:ov=Value.ref a:=rx
 have ho:s2.heap.get? a=some (dD C tt none):=(I2.Ad a _ ea).1
 have AU:a < s2.heap.objs.size:=lt_size ho
 refine mD I2.Bd ho c n fun h' t' C7 CQ hk=>⟨σ,_,?_,q2 s2.heap.objs.size (I2.Ad.fresh (le_refl _))⟩
 obtain⟨od,es,ep,Ey,r⟩:=id CQ
 have Dv:od.isFreed=false:=(Heap.get?_some_iff.mp Ey).2
 have Dn:(s2.heap.push od).get? s2.heap.objs.size=some od:=Heap.get?_push_size s2.heap Dv
 have I3:=I2.laid (a:=s2.heap.objs.size) (o := .xd [(f,y)]) (h':=s2.heap.push od) (t':=s2.toks) (fun b u z=>Heap.get?_push_of_some _ z) (le_refl _)
  ⟨_,CQ.at (fun o z=>by rw[Ey]at z;cases z;exact Dn),fun g=>by
   by_cases hg:g=f
   ·have hb:(g == f)=true:=beq_iff_eq.mpr hg
    simp only[List.lookup,hb,if_pos hg]
    exact ry
   ·have hb:(g == f)=false:=beq_eq_false_iff_ne.mpr hg
    simp only[List.lookup,hb,if_neg hg]
    trivial⟩
 have Cg:a ≠ s2.heap.objs.size:=ne_of_lt AU
 refine I3.write (x:=a) (e:=a) (h':=h') (t':=t') (by rw[ae Cg,ea];exact True.intro) (.inl rfl) (fun b u hb z=>?_) ⟨_,C7⟩ (jR C7)
 by_cases KS:b=s2.heap.objs.size
 ·subst KS
  have z':(s2.heap.push od).get? s2.heap.objs.size=some u:=z
  rw[Dn]at z'
  cases z'
  exact Ey
 ·have z':s2.heap.get? b=some u:=by
   have z0:(s2.heap.push od).get? b=some u:=z
   exact(Heap.get?_push_cases z0).elim (fun w=>absurd w.1 KS) fun w=>w
  exact hk b u hb z'
end
section
variable {P:Program}{w:World}{K:Frag}{mg:Str->Option Value}{base:Heap}
theorem As.Fl {x qual:Str}{st:Stmt}{f:Addr}{fd:FuncData}{N ps:List Str}{k:Nat}{sp:Sp}(F:As K x qual st f fd)(S:ao N ps (ai st))(len:∀ vs H Q E,sp vs H Q E->vs.length=ps.length)
  (Ck:∀ (cdv:Value)(A:Around)(outer:List Env)(s:Shared)(H:Hp)(vs:List V)(Q:VK)(E:XK),Ah k (A.deeper (envOfC qual (ai st) s.heap.objs.size f cdv))->sp vs H Q E ->
   ∃ t,Cy (iZ (eE P w) P w K mg base N qual (ai st) f cdv A outer s H E) (aG st) t/\t { nx:=fun _ H'=>Q .An H',rt:=Q } (start N vs) H):zX P w K mg base (eE P w) (k + 1) f fd ps sp:=by
 obtain⟨oc,od,kV,doc,pm,an,cdv,ct,DB,rfl,lk,D7⟩:=F.ex
 exact vc lk D7 S len fun A outer s H vs Q E hr Et=>Ck cdv A outer s H vs Q E hr Et
end
theorem fA {P:Program}{w:World}{X:Cx}:dP (eE P w) X E0:=fun _ _ _ _ _ _ _ Aj=>by obtain⟨_,_,_,_,_,_,_,_,_,_,_,_,h⟩:=Aj;exact h.elim
section
variable {X:Cx}{k:Nat}{f C:Addr}{fd:FuncData}{ps:List Str}{sp:Sp}{AL:List V}{ds:List Value}{x m:Str}{p pos apos:Pos}{e o:Expr}{es:List Expr}{ta:TE}{t:TA}
end
section
variable {X:Cx}{e:Expr}{t:St->Hp->VK->XK->Prop}{pos Ea:Pos}{n:Str}{i:Nat}
end
section
variable {M:Model}{A:Around}{E:Value->Shared->Prop}{s:Shared}
end
end L2
namespace PySem
open Sem (wp)
open AutoSeq1 (wpAny_loadPart')
theorem eG (l:Addr)(items:Array Value)(n:Nat)(Rm:Option Addr)(sl:Array (Option Value)) :
  Meets (Builtin.«enumerate.__new__» ⟨[.type "enumerate", .ref l],[]⟩) (fun _ R s=>s.heap.get? l=some { cls := .type "tuple",dict:=Rm,data := .seq items n,slots:=sl } /\
   R (.ok (.ret (.ref (s.heap.push { cls := .type "tuple_iterator",data := .fields #[.ref l, .int 0 0] }).objs.size)))
    { s with heap:=(s.heap.push { cls := .type "tuple_iterator",data := .fields #[.ref l, .int 0 0] }).push { cls := .type "enumerate",data := .fields #[.none, .bool false, .ref s.heap.objs.size,rawInt 0, .none, .none] } }) :=
 .of_wp fun prog w A R s h=>by
  obtain⟨hp,g,d,tk,os⟩:=s;obtain⟨hl,h⟩:=h
  have KU:=sub_enumerate
  have hL:Heap.IsTuple (Shared.heap ⟨hp,g,d,tk,os⟩) l items:=⟨_,hl,rfl,n,rfl⟩
  wp_walk using wpAny_loadPart' hl
  refine wpAny_stack_any fun st=>wpAny_pure ?_
  split
  ·rename_i c _ _ _ _ _
   cases (c == Value.type "enumerate")
   ·wp_walk using wpAny_loadPart' hl,wpAny_pyIter_tuple hL
    exact⟨_,rfl,h⟩
   ·wp_walk using wpAny_loadPart' hl,wpAny_pyIter_tuple hL
    exact⟨_,rfl,h⟩
  ·wp_walk using wpAny_loadPart' hl,wpAny_pyIter_tuple hL
   exact⟨_,rfl,h⟩
section
variable {prog:Program}{w:World}{A:Around}{E:Value->Shared->Prop}{s:Shared}
theorem eI {l:Addr}{items:Array Value}{Q:Value->Shared->Prop}(hL:s.heap.IsTuple l items)
  (h:∀ h',IsEnum h' (s.heap.objs.size + 1) s.heap.objs.size 0 .none->h'.IsTupleIter s.heap.objs.size l 0->h'.objs.size=s.heap.objs.size + 2 ->
   (∀ b o,s.heap.get? b=some o->h'.get? b=some o)->Q (.ref (s.heap.objs.size + 1)) { s with heap:=h' }) :
  wpAny (model prog w) A (call (.type "enumerate") [.ref l]) Q E s:=by
 obtain⟨⟨c,Rm,dt,sl⟩,hl,hc,n,hd⟩:=hL
 replace hc:c = .type "tuple":=hc
 replace hd:dt = .seq items n:=hd
 subst hc hd
 refine callType_new F.called_enumerate (by decide) (F.typeCall_enumerate_1 _) (F.newCall_enumerate_1 _) (fun obj=>F.args_object_init_2 obj _) F.entry_enumerate_new
  (eG l items n Rm sl) ⟨hl,?_⟩
 have hz:(s.heap.push { cls := .type "tuple_iterator",data := .fields #[.ref l, .int 0 0] }).objs.size=s.heap.objs.size + 1:=size_push ..
 show _/\_
 rw[hz]
 have he:IsEnum ((s.heap.push { cls := .type "tuple_iterator",data := .fields #[.ref l, .int 0 0] }).push
   { cls := .type "enumerate",data := .fields #[.none, .bool false, .ref s.heap.objs.size,rawInt 0, .none, .none] }) (s.heap.objs.size + 1) s.heap.objs.size 0 .none:=by
  have:=Heap.get?_push_size (s.heap.push { cls := .type "tuple_iterator",data := .fields #[.ref l, .int 0 0] })
   (o:={ cls := .type "enumerate",data := .fields #[.none, .bool false, .ref s.heap.objs.size,rawInt 0, .none, .none] }) rfl
  rw[hz]at this;exact this
 refine⟨⟨_,he,rfl⟩,h _ he ⟨_,Heap.get?_push_of_some _ (Heap.get?_push_size _ rfl),rfl,rfl⟩ (by rw[size_push,hz]) fun b o x=>Heap.get?_push_of_some _ (Heap.get?_push_of_some _ x)⟩
theorem fU {it l:Addr}{i:Nat} {items} {x:Value} {Q:Value->Shared->Prop} (hit:s.heap.IsTupleIter it l i)
  (hl:s.heap.IsTuple l items) (hx:items[i]? = some x)
  (hQ:∀ h',h'.IsTupleIter it l (i + 1)->Heap.SameBut it s.heap h'->Q x { s with heap:=h' }) :
  wpAny (model prog w) A (Builtin.SmallTypes.nextOf (.ref it)) Q E s:=by
 obtain⟨o,ho,hc,hd⟩:=id hit
 obtain⟨ol,Ic,_,nl,Ie⟩:=hl
 unfold Builtin.SmallTypes.nextOf
 refine wpAny_bind (wpAny_callSpecial?_slot (name:=Str.ofString "__next__") hit.typeIs F.slot_tuple_iterator_next
  (wpAny_call_entry F.slot_tuple_iterator_next hit.typeIs F.entry_tuple_iterator_next ?_ (F.args_tuple_iterator_next_1 _)))
 show wpAny _ _ (field (.ref it) 0 >>= _) _ _ s
 refine wpAny_bind (wpAny_field ho hd (x := .ref l) rfl ?_)
 show wpAny _ _ (if (Value.ref l == Value.none)=true then _ else _) _ _ s
 rw[if_neg (show ¬ ((Value.ref l == Value.none)=true) from Bool.false_ne_true)]
 show wpAny _ _ (field (.ref it) 1 >>= _) _ _ s
 refine wpAny_bind (wpAny_field ho hd (x := .int i 0) rfl ?_)
 show wpAny _ _ (seqItems? (.ref l) >>= _) _ _ s
 refine wpAny_bind (wpAny_seqItems Ic Ie ?_)
 simp only[toNat_natCast,hx]
 refine wpAny_bind (wpAny_setField ho hd (by simp) (wpAny_pure ⟨x,rfl,wpAny_pure (hQ _ ?_ (Heap.SameBut.update ..))⟩))
 exact⟨_,Heap.get?_update_self _ ho (Obj.isFreed_of_fields (Obj.data_mapFields hd _)),(Obj.cls_mapFields ..).trans hc,by
  rw[Obj.data_mapFields hd];simp[rawInt]⟩
theorem gp {it l:Addr}{i:Nat} {items} {Q:Value->Shared->Prop} (hh:A.handled=none)
  (hit:s.heap.IsTupleIter it l i) (hl:s.heap.IsTuple l items) (hx:items[i]? = none)
  (hE:∀ h' e,Heap.ExtBut it s.heap h'->(∃ o,h'.get? e=some o/\o.cls = .type "StopIteration")->E (.ref e) { s with heap:=h' }) :
  wpAny (model prog w) A (Builtin.SmallTypes.nextOf (.ref it)) Q E s:=by
 obtain⟨o,ho,hc,hd⟩:=id hit
 obtain⟨ol,Ic,_,nl,Ie⟩:=hl
 unfold Builtin.SmallTypes.nextOf
 refine wpAny_bind (wpAny_callSpecial?_slot (name:=Str.ofString "__next__") hit.typeIs F.slot_tuple_iterator_next
  (wpAny_call_entry F.slot_tuple_iterator_next hit.typeIs F.entry_tuple_iterator_next ?_ (F.args_tuple_iterator_next_1 _)))
 show wpAny _ _ (field (.ref it) 0 >>= _) _ _ s
 refine wpAny_bind (wpAny_field ho hd (x := .ref l) rfl ?_)
 show wpAny _ _ (if (Value.ref l == Value.none)=true then _ else _) _ _ s
 rw[if_neg (show ¬ ((Value.ref l == Value.none)=true) from Bool.false_ne_true)]
 show wpAny _ _ (field (.ref it) 1 >>= _) _ _ s
 refine wpAny_bind (wpAny_field ho hd (x := .int i 0) rfl ?_)
 show wpAny _ _ (seqItems? (.ref l) >>= _) _ _ s
 refine wpAny_bind (wpAny_seqItems Ic Ie ?_)
 simp only[toNat_natCast,hx]
 refine wpAny_bind (wpAny_rule (wpAny_bind (wpAny_setField ho hd (by simp) ?_)))
 show wpAny _ _ (newExc (.type "StopIteration") [] >>= _) _ _ _
 refine wpAny_bind ?_
 simp only[newExc,newTuple]
 refine wpAny_bind (wpAny_newObj_type ?_ (by size_fits))
 refine wpAny_bind (m:=firstArgMember _ _) (wpAny_of_eq (a:=Value.none) (by first | rfl | (simp only[firstArgMember];rfl)) ?_)
 refine wpAny_newObj_type ?_ (by size_fits)
 simp only[raiseNew]
 refine wpAny_bind (wpAny_handled ?_)
 first | rw[show A.in1.handled=none from hh] | rw[hh]
 refine wpAny_bind (wpAny_pure (wpAny_throw ?_))
 exact hE _ _ (((Heap.SameBut.update ..).extBut.push _).push _) ⟨_,Heap.get?_push_size _ rfl,rfl⟩
end
theorem fY {prog:Program}{w:World}{A:Around}(hh:A.handled=none)(it l:Addr)(Cg:l ≠ it)(items:Array Value) :
  Draws prog w A it [it,l] items.size (fun i v=>items[i]? = some v) (fun i h=>h.IsTupleIter it l i/\h.IsTuple l items) where
 live:=fun _ _ st=>let ⟨o,ho,_⟩:=st.1; ⟨o,ho⟩
 frame:=fun _ _ _ st hk=>⟨st.1.at fun o e=>hk it (by simp) o e,let ⟨o,ho,r⟩:=st.2; ⟨o,hk l (by simp) o ho,r⟩⟩
 item:=fun i s Q E hi st hQ=>by
  refine fU st.1 st.2 (x:=items[i]) (by simp[hi]) fun h' Rn Jw=>?_
  exact hQ _ h' s.toks (by simp[hi]) ⟨Rn,let ⟨o,ho,r⟩:=st.2; ⟨o,Jw.extBut l o Cg ho,r⟩⟩ Jw
 done:=fun s Q E st hE=>gp hh st.1 st.2 (by simp) hE
end PySem
namespace L2
open PySem PySem.Spec PyProof.Rows
section
variable {X:Cx}{pins:List (Addr × Obj)}{σ:St}{H:Hp}{s:Shared}
theorem Inv.Ig {h':Heap}{t':Nat}{a b p:Addr}{xs:List V}{us:List Value}(I:Inv X pins σ H s)(fa:fX X pins H a)(fb:fX X pins H b)(hp:s.heap.objs.size <= p)
  (k:∀ c o,c ≠ a->c ≠ b->s.heap.get? c=some o->h'.get? c=some o) (ka:∃ o,h'.get? a=some o) (kb:∃ o,h'.get? b=some o) (hl:xs.length <= sizeLine) (r:Vals xs us) (ht:Br h' p us.toArray) :
  Inv X pins σ (upd H p (.tup xs)) { s with heap:=h',toks:=t' }:=by
 have hf:H p=none:=I.Ad.fresh hp
 have nt:∀ c u,H c=some u->c ≠ p:=fun c u q z=>by rw[z,hf]at q;cases q
 have lt:∀ c o,s.heap.get? c=some o->c ≠ p:=fun c o q=>ne_of_lt (lt_of_lt_of_le (lt_size q) hp)
 have ne:∀ c,c ∉ [a,b]->c ≠ a/\c ≠ b:=fun c hc=>by simpa using hc
 refine I.call (g':=s.gens) (d':=s.drawn) (ch:=[a,b]) ⟨fun c o e n h1 h2=>k c o (ne c h2).1 (ne c h2).2 e,fun c o e n h1 h2=>⟨o.slots,k c o (ne c h2).1 (ne c h2).2 e⟩,fun c o e n h2=>by rw[ae (lt c o e)];exact n,
  fun c o e h2=>⟨o,k c o (ne c h2).1 (ne c h2).2 e⟩,fun c ys q=>by rw[ae (nt c _ q)];exact q,fun c o u q=>by rw[ae (nt c _ q)];exact q,fun c ps q=>⟨#[],by rw[ae (nt c _ q),q];simp⟩⟩ (fun c u q=>?_) I.bare fun c hc=>?_
 ·by_cases hc:c=p
  ·subst hc
   rw[ac]at q
   cases q
   exact⟨hl,us,r,ht⟩
  ·rw[ae hc]at q
   refine(I.Ad c u q).BS (fun d v hd z=>?_) (fun d z=>by rw[ae (nt d _ z)];exact z) fun d ys z=>by rw[ae (nt d _ z)];exact z
   have nd:∀ e,H e=none->d ≠ e:=fun e he w=>by
    rcases hd with rfl | hd
    ·rw[w,he]at q;cases q
    ·rw[w,he]at hd;cases hd
   exact k d v (nd a fa.1) (nd b fb.1) z
 ·have Jn:c=a∨c=b:=by simpa using hc
  rcases Jn with rfl | rfl
  ·obtain⟨_,f1,_,f3,f4,f5⟩:=fa;exact⟨f3,f1,f4,f5⟩
  ·obtain⟨_,f1,_,f3,f4,f5⟩:=fb;exact⟨f3,f1,f4,f5⟩
theorem Inv.DR {h':Heap}{t':Nat}{a b:Addr}(I:Inv X pins σ H s)(fa:fX X pins H a)(fb:fX X pins H b)
  (k:∀ c o,c ≠ a->c ≠ b->s.heap.get? c=some o->h'.get? c=some o):Inv X pins σ H { s with heap:=h',toks:=t' }:=by
 have ne:∀ c,c ∉ [a,b]->c ≠ a/\c ≠ b:=fun c hc=>by simpa using hc
 refine I.call (g':=s.gens) (d':=s.drawn) (ch:=[a,b]) ⟨fun c o e n h1 h2=>k c o (ne c h2).1 (ne c h2).2 e,fun c o e n h1 h2=>⟨o.slots,k c o (ne c h2).1 (ne c h2).2 e⟩,fun c o e n h2=>n,
  fun c o e h2=>⟨o,k c o (ne c h2).1 (ne c h2).2 e⟩,fun c ys q=>q,fun c o u q=>q,fun c ps q=>⟨#[],by rw[q];simp⟩⟩ (fun c u q=>?_) I.bare fun c hc=>?_
 ·refine(I.Ad c u q).BS (fun d v hd z=>?_) (fun d z=>z) fun d ys z=>z
  have nd:∀ e,H e=none->d ≠ e:=fun e he w=>by
   rcases hd with rfl | hd
   ·rw[w,he]at q;cases q
   ·rw[w,he]at hd;cases hd
  exact k d v (nd a fa.1) (nd b fb.1) z
 ·have Jn:c=a∨c=b:=by simpa using hc
  rcases Jn with rfl | rfl
  ·obtain⟨_,f1,_,f3,f4,f5⟩:=fa;exact⟨f3,f1,f4,f5⟩
  ·obtain⟨_,f1,_,f3,f4,f5⟩:=fb;exact⟨f3,f1,f4,f5⟩
theorem kM {e it:Addr}{fp:List Addr}{n i:Nat}{P:Nat->Value->Prop}{Sx:Nat->Heap->Prop}{old:Value}{xs:List V}{E:Value->Shared->Prop}{elts:List Expr}{kk:Nat}{pos:Pos}
  (D:Draws X.prog X.w X.A.in1 it fp n P Sx) (I:Inv X pins σ H s) (he:IsEnum s.heap e it i old) (Du:Sx i s.heap) (AU:i < n) (Cg:e ≠ it) (WA:e ∉ fp) (fe:fX X pins H e) (fi:fX X pins H it)
  (hP:∀ v,P i v->∃ x,xs[i]? = some x/\RelV x v) :
  wpAny (model X.prog X.w) X.A (pyNext (.ref e)) (fun r s1=>∃ u,r=some u/\wpAny (model X.prog X.w) X.A (letOwnedTupleGo (.Tuple elts kk pos) (.ref e) u) (fun _ s2=>∃ p x,xs[i]? = some x/\H p=none/\u = .ref p /\
   Inv X pins σ (upd H p (.tup [.int i,x])) s2/\(∃ old,IsEnum s2.heap e it ((i + 1:Nat):Int) old)/\Sx (i + 1) s2.heap/\p ≠ e/\p ≠ it) E s1) E s:=by
 refine wpAny_pyNext_enum_itemD D he Du AU Cg WA fun x h' tk hx ho Jw hT hsz hk=>⟨_,rfl,?_⟩
 refine wpAny_letOwnedTupleGo_enum ho fun h2 Fm D8=>?_
 obtain⟨y,hy,ry⟩:=hP x hx
 have WB:e < s.heap.objs.size:=lt_size he
 have hie:it < s.heap.objs.size:=by obtain⟨_,z⟩:=D.live _ _ Du;exact lt_size z
 have KW:Sx (i + 1) h2:=D.frame _ _ _ Jw fun b hb o z=>(D8.2 b fun q=>WA (q ▸ hb)).trans z
 refine⟨s.heap.objs.size,y,hy,I.Ad.fresh (le_refl _),rfl,?_,⟨x,by simpa using Fm⟩,KW,ne_of_gt WB,ne_of_gt hie⟩
 refine Inv.Ig (s:=s) (h':=h2) (t':=tk + 1) I fe fi (le_refl _) (fun c o h1 h2' z=>(D8.2 c h1).trans (hk c o h1 h2' z)) ⟨_,Fm⟩ (let ⟨o,z⟩:=D.live _ _ KW; ⟨o,z⟩) (by show 2 <= sizeLine;decide) (us:=[.int i tk,x]) (.cons ⟨tk,rfl⟩ (.cons ry .nil)) ?_
 exact⟨_,(D8.2 _ (ne_of_gt WB)).trans hT,⟨rfl,_,rfl⟩,rfl⟩
end
noncomputable def zT (sq:Hp->List V->Prop):It :=
 ⟨fun i H=>∃ xs x,sq H xs/\xs[i]? = some x,fun i H v H'=>∃ p,H p=none/\v = .ref p/\∀ xs,sq H xs->∃ x,xs[i]? = some x/\H' = upd H p (.tup [.int i,x]),fun i H=>∃ xs,sq H xs/\xs.length=i⟩
theorem ou {P:Program}{w:World}{K:Frag}{elts:List Expr}{kk:Nat}{pos:Pos}(a e it:Addr)(Cg:e ≠ it):nZ P w K (.Tuple elts kk pos) (zT fun H=>Aa K H a) [e,it] e (fun i h=>(∃ old,IsEnum h e it (i:Int) old)/\h.IsListIter it a i) where
 mem:=by simp
 obj:=fun i h st b hb=>by
  obtain⟨⟨old,he⟩,o,ho,c,d⟩:=st
  have BM:b=e∨b=it:=by simpa using hb
  rcases BM with rfl | rfl
  ·exact⟨_,he,fun v z=>by have z':Data.fields _=Data.cell v:=z;cases z'⟩
  ·exact⟨o,ho,fun v z=>by rw[d]at z;cases z⟩
 keep:=fun i h h' st k=>by
  obtain⟨⟨old,he⟩,hi⟩:=st
  exact⟨⟨old,k e (by simp) _ he⟩,hi.at fun o z=>k it (by simp) o z⟩
 item:=by
  intro X hP hw hK hc i pins s σ H E I hf st hg
  subst hP hw hK
  obtain⟨xs,x,hq,hx⟩:=hg
  obtain⟨Ab,rv,p,hz⟩:=I.list hq
  obtain⟨⟨old,he⟩,hi⟩:=st
  have hl:i < Ab.toArray.size:=by
   have:=(List.getElem?_eq_some_iff.mp hx).1
   have l2:=rv.length
   simp;omega
  have Rp:e ≠ a:=by
   rintro rfl
   obtain⟨o,ho,DS,_⟩:=p.isList
   rw[he]at ho;cases ho
   injection DS with z;exact absurd z (by decide)
  have Ih:a ≠ it:=by
   rintro rfl
   obtain⟨o,ho,DS,_⟩:=p.isList
   obtain⟨o2,BG,CZ,_⟩:=hi
   rw[ho]at BG;cases BG;rw[DS]at CZ
   injection CZ with z;exact absurd z (by decide)
  refine aS (kM (xs:=xs) (Draws.list (A:=X.A.in1) (I.ok.hd hc) it a Ih Ab.toArray) I he ⟨hi,p.isList⟩ hl Cg (by simp only[mem_cons,not_mem_nil,or_false,not_or];exact⟨Cg,Rp⟩) (hf e (by simp)) (hf it (by simp)) fun v hv=>?_) fun r s1 ⟨u,hr,h1⟩=>⟨u,hr,aS h1 fun _ s2 ⟨q,y,hy,Rq,hu,I2,Fm,D8,n1,n2⟩=>?_⟩
  ·obtain⟨u,hu,ru⟩:=rv.get hx
   have e1:Ab[i]? = some v:=by simpa using hv
   rw[hu]at e1;cases e1
   exact⟨x,hx,ru⟩
  ·refine⟨.ref q,_,I2,hu,⟨q,Rq,rfl,fun zs Fn=>⟨y,by rw[I.CY Fn hq];exact hy,rfl⟩⟩,⟨Fm,D8.1⟩,fun b hb=>?_⟩
   have BM:b=e∨b=it:=by simpa using hb
   rcases BM with rfl | rfl
   ·rw[ae (Ne.symm n1)];exact(hf b (by simp)).1
   ·rw[ae (Ne.symm n2)];exact(hf b (by simp)).1
 done:=by
  intro X hP hw hK hc i pins s σ H E I hf st hg
  subst hP hw hK
  obtain⟨xs,hq,hx⟩:=hg
  obtain⟨Ab,rv,p,hz⟩:=I.list hq
  obtain⟨⟨old,he⟩,hi⟩:=st
  have hl:i=Ab.toArray.size:=by have l2:=rv.length;simp;omega
  have Ih:a ≠ it:=by
   rintro rfl
   obtain⟨o,ho,DS,_⟩:=p.isList
   obtain⟨o2,BG,CZ,_⟩:=hi
   rw[ho]at BG;cases BG;rw[DS]at CZ
   injection CZ with z;exact absurd z (by decide)
  refine wpAny_pyNext_enum_endD (Draws.list (A:=X.A.in1) (I.ok.hd hc) it a Ih Ab.toArray) he (by rw[← hl];exact⟨hi,p.isList⟩) fun h' C7=>⟨rfl,?_⟩
  exact I.DR (t':=s.toks) (hf e (by simp)) (hf it (by simp)) fun c o h1 h2 z=>C7 c o h2 z
 self:=fun _ _ _ _ _ st h=>by
  obtain⟨⟨old,he⟩,_⟩:=st
  exact wpAny_pyIter_enum he h
theorem ot {P:Program}{w:World}{K:Frag}{elts:List Expr}{kk:Nat}{pos:Pos}(a e it:Addr)(Cg:e ≠ it):nZ P w K (.Tuple elts kk pos) (zT fun H=>Af K H a) [e,it] e (fun i h=>(∃ old,IsEnum h e it (i:Int) old)/\h.IsTupleIter it a i) where
 mem:=by simp
 obj:=fun i h st b hb=>by
  obtain⟨⟨old,he⟩,o,ho,c,d⟩:=st
  have BM:b=e∨b=it:=by simpa using hb
  rcases BM with rfl | rfl
  ·exact⟨_,he,fun v z=>by have z':Data.fields _=Data.cell v:=z;cases z'⟩
  ·exact⟨o,ho,fun v z=>by rw[d]at z;cases z⟩
 keep:=fun i h h' st k=>by
  obtain⟨⟨old,he⟩,hi⟩:=st
  exact⟨⟨old,k e (by simp) _ he⟩,hi.at fun o z=>k it (by simp) o z⟩
 item:=by
  intro X hP hw hK hc i pins s σ H E I hf st hg
  subst hP hw hK
  obtain⟨xs,x,hq,hx⟩:=hg
  obtain⟨Ab,rv,p,hz⟩:=I.tuple hq
  have pt:s.heap.IsTuple a Ab.toArray:=p
  obtain⟨⟨old,he⟩,hi⟩:=st
  have hl:i < Ab.toArray.size:=by
   have:=(List.getElem?_eq_some_iff.mp hx).1
   have l2:=rv.length
   simp;omega
  have Rp:e ≠ a:=by
   rintro rfl
   obtain⟨o,ho,DS,_⟩:=pt
   rw[he]at ho;cases ho
   injection DS with z;exact absurd z (by decide)
  have Ih:a ≠ it:=by
   rintro rfl
   obtain⟨o,ho,DS,_⟩:=pt
   obtain⟨o2,BG,CZ,_⟩:=hi
   rw[ho]at BG;cases BG;rw[DS]at CZ
   injection CZ with z;exact absurd z (by decide)
  refine aS (kM (xs:=xs) (fY (A:=X.A.in1) (I.ok.hd hc) it a Ih Ab.toArray) I he ⟨hi,pt⟩ hl Cg (by simp only[mem_cons,not_mem_nil,or_false,not_or];exact⟨Cg,Rp⟩) (hf e (by simp)) (hf it (by simp)) fun v hv=>?_) fun r s1 ⟨u,hr,h1⟩=>⟨u,hr,aS h1 fun _ s2 ⟨q,y,hy,Rq,hu,I2,Fm,D8,n1,n2⟩=>?_⟩
  ·obtain⟨u,hu,ru⟩:=rv.get hx
   have e1:Ab[i]? = some v:=by simpa using hv
   rw[hu]at e1;cases e1
   exact⟨x,hx,ru⟩
  ·refine⟨.ref q,_,I2,hu,⟨q,Rq,rfl,fun zs Fn=>⟨y,by rw[I.C5 Fn hq];exact hy,rfl⟩⟩,⟨Fm,D8.1⟩,fun b hb=>?_⟩
   have BM:b=e∨b=it:=by simpa using hb
   rcases BM with rfl | rfl
   ·rw[ae (Ne.symm n1)];exact(hf b (by simp)).1
   ·rw[ae (Ne.symm n2)];exact(hf b (by simp)).1
 done:=by
  intro X hP hw hK hc i pins s σ H E I hf st hg
  subst hP hw hK
  obtain⟨xs,hq,hx⟩:=hg
  obtain⟨Ab,rv,p,hz⟩:=I.tuple hq
  have pt:s.heap.IsTuple a Ab.toArray:=p
  obtain⟨⟨old,he⟩,hi⟩:=st
  have hl:i=Ab.toArray.size:=by have l2:=rv.length;simp;omega
  have Ih:a ≠ it:=by
   rintro rfl
   obtain⟨o,ho,DS,_⟩:=pt
   obtain⟨o2,BG,CZ,_⟩:=hi
   rw[ho]at BG;cases BG;rw[DS]at CZ
   injection CZ with z;exact absurd z (by decide)
  refine wpAny_pyNext_enum_endD (fY (A:=X.A.in1) (I.ok.hd hc) it a Ih Ab.toArray) he (by rw[← hl];exact⟨hi,pt⟩) fun h' C7=>⟨rfl,?_⟩
  exact I.DR (t':=s.toks) (hf e (by simp)) (hf it (by simp)) fun c o h1 h2 z=>C7 c o h2 z
 self:=fun _ _ _ _ _ st h=>by
  obtain⟨⟨old,he⟩,_⟩:=st
  exact wpAny_pyIter_enum he h
section
variable {X:Cx}{elts:List Expr}{kk:Nat}{Ea p pos:Pos}{a:Expr}{ta:TE}
noncomputable def Rr (K:Frag)(t:TA):TI:=fun σ H R=>t σ H fun vs H1=>∃ a,vs=[.ref a]/\(∃ xs,Aa K H1 a xs)/\R (zT fun H=>Aa K H a) H1
noncomputable def Rt (K:Frag)(t:TA):TI:=fun σ H R=>t σ H fun vs H1=>∃ a,vs=[.ref a]/\(∃ xs,Af K H1 a xs)/\R (zT fun H=>Af K H a) H1
theorem mQ {t:TA}(hg:Gl X "enumerate")(hm:X.mg "enumerate" = none)(ha:PA X [a] t)(hs:starEach [a] X.env=[(false,eval a X.env)]:=by rfl):PI X (.Tuple elts kk Ea) (.Call (.Name "enumerate" p) [a] [] pos) (Rr X.K t):=by
 intro pins s σ H R I h
 refine Call_ (gH I hg hm boot_enumerate (PyProof.Rows.callWith_type1 (aS (ha pos pins s σ H _ I h) fun us s1 Aj=>?_) hs rfl))
 obtain⟨vs,H1,I1,r1,q1⟩:=Aj
 obtain⟨l,e,⟨xs,hq⟩,q⟩:=q1
 subst e
 cases r1 with
 | cons r rr =>
  cases rr
  cases r
  obtain⟨Ab,rv,pp,hz⟩:=I1.list hq
  refine call_enumerate_list pp.isList fun h' he hit hsz hk=>?_
  have I2:Inv X pins σ H1 { s1 with heap:=h' }:=I1.kept (t':=s1.toks) hk
  refine wpAny_pyIter_enum (s:={ s1 with heap:=h' }) he ?_
  refine⟨_,_,_,_,H1,rfl,I2,ou l _ s1.heap.objs.size (Nat.succ_ne_self _),⟨⟨_,he⟩,hit⟩,fun b hb=>?_,q⟩
  have BM:b=s1.heap.objs.size + 1∨b=s1.heap.objs.size:=by simpa using hb
  have hle:s1.heap.objs.size <= b:=by
   rcases BM with e | e
   ·rw[e];exact le_succ _
   ·rw[e];exact le_refl _
  exact I1.DY hle (I1.Ad.fresh hle)
theorem mP {t:TA}(hg:Gl X "enumerate")(hm:X.mg "enumerate" = none)(ha:PA X [a] t)(hs:starEach [a] X.env=[(false,eval a X.env)]:=by rfl):PI X (.Tuple elts kk Ea) (.Call (.Name "enumerate" p) [a] [] pos) (Rt X.K t):=by
 intro pins s σ H R I h
 refine Call_ (gH I hg hm boot_enumerate (PyProof.Rows.callWith_type1 (aS (ha pos pins s σ H _ I h) fun us s1 Aj=>?_) hs rfl))
 obtain⟨vs,H1,I1,r1,q1⟩:=Aj
 obtain⟨l,e,⟨xs,hq⟩,q⟩:=q1
 subst e
 cases r1 with
 | cons r rr =>
  cases rr
  cases r
  obtain⟨Ab,rv,pp,hz⟩:=I1.tuple hq
  refine eI (show s1.heap.IsTuple l Ab.toArray from pp) fun h' he hit hsz hk=>?_
  have I2:Inv X pins σ H1 { s1 with heap:=h' }:=I1.kept (t':=s1.toks) hk
  refine wpAny_pyIter_enum (s:={ s1 with heap:=h' }) he ?_
  refine⟨_,_,_,_,H1,rfl,I2,ot l _ s1.heap.objs.size (Nat.succ_ne_self _),⟨⟨_,he⟩,hit⟩,fun b hb=>?_,q⟩
  have BM:b=s1.heap.objs.size + 1∨b=s1.heap.objs.size:=by simpa using hb
  have hle:s1.heap.objs.size <= b:=by
   rcases BM with e | e
   ·rw[e];exact le_succ _
   ·rw[e];exact le_refl _
  exact I1.DY hle (I1.Ad.fresh hle)
end
theorem n0 {sq:Hp->List V->Prop}{xs:List V}{g:TG}{tb:TS}{D:lZ}{σ:St}{H:Hp}(Pv:Nat->St->Hp->Prop)(h0:Pv 0 σ H)(hl:∀ i σ H,i <= xs.length->Pv i σ H->sq H xs)
  (hs:∀ i x p σ H,xs[i]? = some x->Pv i σ H->H p=none->g (.ref p) σ (upd H p (.tup [.int i,x])) fun σ2 H2=>tb { D with nx:=Pv (i + 1),ct:=Pv (i + 1),bk:=D.nx } σ2 H2) (hd:∀ σ H,Pv xs.length σ H->D.nx σ H) :
  ∃ W:Nat->Nat->St->Hp->Prop,(∃ m,W 0 m σ H)/\∀ i m σ H,W i m σ H ->
   ((zT sq).stop i H/\D.nx σ H)∨((zT sq).go i H/\∃ N:St->Hp->Prop,(∀ σ' H',N σ' H'->∃ m',m' < m/\W (i + 1) m' σ' H')/\∀ x H',(zT sq).Fi i H x H'->g x σ H' fun σ2 H2=>tb { D with nx:=N,ct:=N,bk:=D.nx } σ2 H2):=by
 refine⟨fun i m σ H=>m=xs.length - i/\i <= xs.length/\Pv i σ H,⟨xs.length,by simp,zero_le _,h0⟩,?_⟩
 rintro i m σ H ⟨rfl,hi,p⟩
 have q:=hl i σ H hi p
 by_cases AU:i < xs.length
 ·refine .inr ⟨⟨xs,xs[i],q,by simp[AU]⟩,Pv (i + 1),fun σ' H' p'=>⟨xs.length - (i + 1),by omega,rfl,AU,p'⟩,fun x H' y=>?_⟩
  obtain⟨pp,hn,rfl,hx⟩:=y
  obtain⟨x',C7,e⟩:=hx xs q
  subst e
  exact hs i x' pp σ H C7 p hn
 ·have e:i=xs.length:=by omega
  subst e
  exact .inl ⟨⟨xs,q,rfl⟩,hd σ H p⟩
end L2
namespace L2
open PySem PySem.Spec PyProof.Rows
noncomputable def BD (d:PyData)(m:Nat):Prop:=d.canLay0=true/\d.depth <= m
theorem BD.shaped {d:PyData}{m:Nat}(h:BD d m)(hm:m <= 64):SeqAt.shaped d=true:=by
 unfold SeqAt.shaped
 rw[h.1,decide_eq_true (le_trans h.2 hm)];rfl
theorem bL (i:Int):BD (.int i) 0:=⟨by simp[PyData.canLay0],by simp[PyData.depth]⟩
theorem tp (b:Bool):BD (.bool b) 0:=⟨by simp[PyData.canLay0],by simp[PyData.depth]⟩
theorem EI:BD .none 0:=⟨by simp[PyData.canLay0],by simp[PyData.depth]⟩
theorem lr {m:Nat}:∀ {ds:List PyData},(∀ d ∈ ds,BD d m)->PyData.canLayAll0 ds=true/\PyData.depthAll ds <= m
 | [],_=>⟨by simp[PyData.canLayAll0],by simp[PyData.depthAll]⟩
 | d :: r,h=>by
  obtain⟨a,b⟩:=lr (ds:=r) fun z hz=>h z (mem_cons_of_mem _ hz)
  obtain⟨c,e⟩:=h d mem_cons_self
  exact⟨by simp[PyData.canLayAll0,c,a],by simp only[PyData.depthAll];omega⟩
theorem bD {m:Nat}{ds:List PyData}(h:∀ d ∈ ds,BD d m):BD (.list ds) (m + 1):=by
 obtain⟨a,b⟩:=lr h
 exact⟨by simp[PyData.canLay0,a],by simp only[PyData.depth];omega⟩
theorem c5 {m:Nat}{ds:List PyData}(h:∀ d ∈ ds,BD d m):BD (.tuple ds) (m + 1):=by
 obtain⟨a,b⟩:=lr h
 exact⟨by simp[PyData.canLay0,a],by simp only[PyData.depth];omega⟩
theorem Ru {K:Frag}{x y:V}{H:Hp}{Q:VK}{d:PyData}(h1:ke K H x d)(h2:ke K H y d)(s:BD d 64)(q:Q (.bl false) H):yF K x y H Q :=
 ⟨d,d,h1,h2,s.shaped (le_refl _),s.shaped (le_refl _),by rw[SeqAt.eqv_refl d s.1];exact q⟩
theorem BD.le {d:PyData}{m n:Nat}(h:BD d m)(l:m <= n):BD d n:=⟨h.1,le_trans h.2 l⟩
end L2
namespace L2
open PySem
theorem nI {n:Nat}{lo:Int}{g:TG}{tt:TT}{te:TE}{σ0:St}{H:Hp}{Q:VK}(p:Nat->Bool)(f:Nat->V)(hn:n < sizeLine)
  (hs:∀ (i:Nat)(acc:List V)(N:List V->Hp->Prop),i < n->N (if p i then acc ++ [f i] else acc) H->g (.int (lo + i)) σ0 H fun σ2 H2=>tt σ2 H2 fun b H3=>if b=true then te σ2 H3 fun y H4=>N (acc ++ [y]) H4 else N acc H3)
  (hq:∀ D,H D=none->Q (.ref D) (upd H D (.lst (((List.range n).filter p).map f)))) :
  dE (vx lo n) g tt te σ0 Q H:=by
 refine⟨fun i m acc H'=>m=n - i/\i <= n/\H' = H/\acc=((List.range i).filter p).map f,⟨n,by simp,zero_le _,rfl,rfl⟩,?_⟩
 rintro i m acc H' ⟨rfl,hi,rfl,rfl⟩
 have hl:(((List.range i).filter p).map f).length < sizeLine:=by
  rw[length_map]
  have:=length_filter_le p (List.range i)
  rw[length_range]at this
  omega
 refine⟨hl,?_⟩
 by_cases AU:i < n
 ·refine .inr ⟨AU,fun AY H2=>H2=H'/\AY = ((List.range (i + 1)).filter p).map f,fun AY H2 ⟨h1,h2⟩=>⟨n - (i + 1),by omega,rfl,AU,h1,h2⟩,fun x H2 y=>?_⟩
  obtain⟨e,y⟩:=y
  subst e y
  refine hs i _ (fun AY H3=>H3=H2/\AY = ((List.range (i + 1)).filter p).map f) AU ⟨rfl,?_⟩
  rw[range_succ,filter_append]
  cases hp:p i with
  | true=>simp[hp]
  | false=>simp[hp]
 ·have e:i=n:=by omega
  subst e
  exact .inl ⟨le_refl _,hq⟩
theorem fL {K:Frag}{a:Addr}{xs:List V}{g:TG}{tt:TT}{te:TE}{σ0:St}{H:Hp}{Q:VK}(p:V->Bool)(f:V->V)(hn:xs.length < sizeLine)(ha:Aa K H a xs)
  (hs:∀ (x:V)(acc:List V)(N:List V->Hp->Prop),x ∈ xs->N (if p x then acc ++ [f x] else acc) H->g x σ0 H fun σ2 H2=>tt σ2 H2 fun b H3=>if b=true then te σ2 H3 fun y H4=>N (acc ++ [y]) H4 else N acc H3)
  (hq:∀ D,H D=none->Q (.ref D) (upd H D (.lst ((xs.filter p).map f)))) :
  dE (vy K a) g tt te σ0 Q H:=by
 refine⟨fun i m acc H'=>m=xs.length - i/\i <= xs.length/\H' = H/\acc=((xs.take i).filter p).map f,⟨xs.length,by simp,zero_le _,rfl,rfl⟩,?_⟩
 rintro i m acc H' ⟨rfl,hi,rfl,rfl⟩
 have hl:(((xs.take i).filter p).map f).length < sizeLine:=by
  rw[length_map]
  have h1:=length_filter_le p (xs.take i)
  have h2:=length_take_le i xs
  omega
 refine⟨hl,?_⟩
 by_cases AU:i < xs.length
 ·refine .inr ⟨⟨xs,xs[i],ha,by simp[AU]⟩,fun AY H2=>H2=H'/\AY = ((xs.take (i + 1)).filter p).map f,fun AY H2 ⟨h1,h2⟩=>⟨xs.length - (i + 1),by omega,rfl,AU,h1,h2⟩,fun x H2 y=>?_⟩
  obtain⟨e,y⟩:=y
  subst e
  have hx:=y xs ha
  refine hs x _ (fun AY H3=>H3=H2/\AY = ((xs.take (i + 1)).filter p).map f) (mem_of_getElem? hx) ⟨rfl,?_⟩
  rw[take_succ,hx,filter_append]
  cases hp:p x with
  | true=>simp[hp]
  | false=>simp[hp]
 ·have e:i=xs.length:=by omega
  subst e
  rw[take_length]
  exact .inl ⟨⟨xs,ha,le_refl _⟩,hq⟩
theorem lL (k:Int):∀ ns:List Int,Jt (.int k) (ns.map V.int)=decide (k ∈ ns)
 | []=>by simp[Jt]
 | n :: r=>by
  have ih:=lL k r
  unfold Jt at ih ⊢
  rw[map_cons,any_cons,ih]
  show((n == k) || decide (k ∈ r))=decide (k ∈ n :: r)
  by_cases h:k=n
  ·subst h;simp
  ·have h':¬ n=k:=fun z=>h z.symm
   simp[h,h']
theorem iL:∀ ns:List Int,(ns.map V.int).all i4=true
 | []=>rfl
 | n :: r=>by rw[map_cons,all_cons,iL r];rfl
end L2
namespace L2
open PySem PySem.Spec PyProof.Rows
section
open PySem.W
variable {prog:Program}{w:World}{A:Around}{E:Value->Shared->Prop}{s:Shared}{K:Frag}{x C:Addr}{name:Str}{v:Value}
theorem tu {d:Addr}{vs:Array Value}{mA:Str->Option Value}{ns:List Str}{Q:Unit->Shared->Prop}(X:K.In s.heap)(hx:s.heap.get? x=some ⟨.ref C,some d, .fields vs,#[]⟩)(hn:s.heap.Ns1 d mA)(hw:PySem.Within mA ns)(hl:ns.length < sizeLine)(c:gK K C)(ht:findIn K (.ref C) name=some none)
  (h:∀ h' t',h'.Ns1 d (fun y=>if y=name then some v else mA y)->(∀ b,b ≠ d->h'.get? b=s.heap.get? b)->Q () { s with heap:=h',toks:=t' }) :
  wpAny (model prog w) A (setAttr (.ref x) name v) Q E s:=by
 obtain⟨od,es,ep,Ey,hr⟩:=id hn
 have I:PySem.W.InstAt s.heap x ⟨.ref C,some d, .fields vs,#[]⟩ C (some od):=⟨hx,rfl,rfl,Ey⟩
 refine PySem.W.set_plain X I c.sa (qr (s:={ s with toks:=s.toks + 1 }) X I c.mro ht fun b=>?_)
 obtain⟨cd,hc,HJ⟩:=PySem.W.any_some c.hd
 obtain⟨hp,g,dr,t,os⟩:=s
 dsimp only at X hx h I hn Ey ⊢
 refine wpAny_bind (wpAny_pure (wpAny_bind (wpAny_bind (wpAny_loadPart hx (wpAny_bind (PySem.W.Looks.here (s:=⟨hp,g,dr,t + 1,os⟩) (PySem.W.looks_clsIn X hc) ?_))))))
 rw[HJ]
 rw[if_neg (by decide)]
 dsimp only
 refine wpAny_pure ?_
 show wpAny _ _ (Builtin.ObjectAttr.storeInDict d (.str name t) name v) _ _ _
 unfold Builtin.ObjectAttr.storeInDict Builtin.ObjectAttr.newKeyGuard
 refine wpAny_bind (wpAny_pure (wpAny_bind (wpAny_nsSet1 hn fun h' CQ hs=>?_)))
 obtain⟨oD,Wq,Wr,Kq,Kr,Ks⟩:=CQ.count (Within.cons name v hw)
 refine wpAny_bind (wpAny_lookBehind Kq (by rw[Kr];exact pastItsLine_dict (le_trans Ks (by rw[length_cons];omega))) ?_)
 exact wpAny_pure (h h' _ CQ fun b hb=>hs.2 b hb)
end
noncomputable def KY (d:Addr)(fs:List (Str × V)):Heap->Prop:=fun h=>∃ mA,h.Ns1 d mA/\∀ f,AW (fs.lookup f) (mA f)
theorem xU {P:Program}{w:World}{H:Hp}{h:Heap}{d:Addr}{fs:List (Str × V)}(x:KY d fs h):Ap P w H h d (.ext (KY d fs)):=by
 refine⟨x,?_,fun h1 h2 ⟨mA,⟨od,es,ep,e,c⟩,r⟩ k=>⟨mA,⟨od,es,ep,k _ e,c⟩,r⟩⟩
 obtain⟨mA,⟨od,es,ep,e,c⟩,r⟩:=x
 exact⟨od,e⟩
noncomputable def yC (K:Frag)(ta tv:TE)(f:Str):TS:=fun D σ H=>tv σ H fun y H1=>ta σ H1 fun x H2=>∃ a C tt,x = .ref a/\H2 a=some (bP a C tt none)/\gK K C/\findIn K (.ref C) f=some none /\
 ∀ d,H2 d=none->D.nx σ (upd (upd H2 d (.ext (KY d [(f,y)]))) a (bP a C tt (some d)))
noncomputable def yB (K:Frag)(ta tv:TE)(f:Str):TS:=fun D σ H=>tv σ H fun y H1=>ta σ H1 fun x H2=>∃ a C tt d fs,x = .ref a/\H2 a=some (bP a C tt (some d))/\H2 d=some (.ext (KY d fs))/\fs.length < 1000/\gK K C/\findIn K (.ref C) f=some none /\
 D.nx σ (upd H2 d (.xd (aM f y fs)))
section
variable {X:Cx}{o e value:Expr}{f:Str}{pos pos':Pos}{ta tv:TE}
theorem ue (ha:PE X o ta)(hv:PE X value tv)(hs:swapsWith value (some (.Attribute o f pos')) pos.line X.env=pure false):PS X (.Assign [.Attribute o f pos'] value pos) (yC X.K ta tv f):=by
 intro pins s σ H D I h
 refine plainObj_wpAny_Assign_Attribute (aS (hv pins s σ H _ I h) fun u s1 ⟨y,H1,I1,ry,q⟩=>aS (ha pins s1 σ H1 _ I1 q) fun ov s2 Aj=>?_) hs
 obtain⟨x,H2,I2,rx,a,C,tt,ex,ea,c,n,q2⟩:=Aj
 subst ex
 obtain rfl:ov=Value.ref a:=rx
 have ho:s2.heap.get? a=some (dD C tt none):=(I2.Ad a _ ea).1
 have AU:a < s2.heap.objs.size:=lt_size ho
 refine mD I2.Bd ho c n fun h' t' C7 CQ hk=>⟨σ,_,?_,q2 s2.heap.objs.size (I2.Ad.fresh (le_refl _))⟩
 obtain⟨od,es,ep,Ey,r⟩:=id CQ
 have Dv:od.isFreed=false:=(Heap.get?_some_iff.mp Ey).2
 have Dn:(s2.heap.push od).get? s2.heap.objs.size=some od:=Heap.get?_push_size s2.heap Dv
 have I3:=I2.laid (a:=s2.heap.objs.size) (o := .ext (KY s2.heap.objs.size [(f,y)])) (h':=s2.heap.push od) (t':=s2.toks) (fun b u z=>Heap.get?_push_of_some _ z) (le_refl _)
  (xU ⟨_,CQ.at (fun o z=>by rw[Ey]at z;cases z;exact Dn),fun g=>by
   by_cases hg:g=f
   ·have hb:(g == f)=true:=beq_iff_eq.mpr hg
    simp only[List.lookup,hb,if_pos hg]
    exact ry
   ·have hb:(g == f)=false:=beq_eq_false_iff_ne.mpr hg
    simp only[List.lookup,hb,if_neg hg]
    trivial⟩)
 have Cg:a ≠ s2.heap.objs.size:=ne_of_lt AU
 refine I3.write (x:=a) (e:=a) (h':=h') (t':=t') (by rw[ae Cg,ea];exact True.intro) (.inl rfl) (fun b u hb z=>?_) ⟨_,C7⟩ (jR C7)
 by_cases KS:b=s2.heap.objs.size
 ·subst KS
  have z':(s2.heap.push od).get? s2.heap.objs.size=some u:=z
  rw[Dn]at z'
  cases z'
  exact Ey
 ·have z':s2.heap.get? b=some u:=by
   have z0:(s2.heap.push od).get? b=some u:=z
   exact(Heap.get?_push_cases z0).elim (fun w=>absurd w.1 KS) fun w=>w
  exact hk b u hb z'
theorem ud (ha:PE X o ta)(hv:PE X value tv)(hs:swapsWith value (some (.Attribute o f pos')) pos.line X.env=pure false):PS X (.Assign [.Attribute o f pos'] value pos) (yB X.K ta tv f):=by
 intro pins s σ H D I h
 refine plainObj_wpAny_Assign_Attribute (aS (hv pins s σ H _ I h) fun u s1 ⟨y,H1,I1,ry,q⟩=>aS (ha pins s1 σ H1 _ I1 q) fun ov s2 Aj=>?_) hs
 obtain⟨x,H2,I2,rx,a,C,tt,d,fs,ex,ea,ed,hfl,c,n,q2⟩:=Aj
 subst ex
 obtain rfl:ov=Value.ref a:=rx
 have ho:s2.heap.get? a=some (dD C tt (some d)):=(I2.Ad a _ ea).1
 obtain⟨⟨mA,hn,hr⟩,_⟩:=I2.Ad d _ ed
 have hw:PySem.Within mA (fs.map (·.1)):=fun g hg=>by
  have r:=hr g
  cases hl:fs.lookup g with
  | none=>rw[hl]at r;cases hm:mA g with
   | none=>exact absurd hm hg
   | some z=>rw[hm]at r;exact r.elim
  | some z =>
   have:∀ {l:List (Str × V)},l.lookup g=some z->g ∈ l.map (·.1):=by
    intro l
    induction l with
    | nil=>intro h;cases h
    | cons p l ih =>
     intro h
     rw[map_cons,mem_cons]
     by_cases e:g=p.1
     ·exact .inl e
     ·have hb:(g == p.1)=false:=beq_eq_false_iff_ne.mpr e
      obtain⟨p1,p2⟩:=p
      simp only[List.lookup,hb]at h
      exact .inr (ih h)
   exact this hl
 refine tu I2.Bd ho hn hw (by rw[length_map,sizeLine_eq];omega) c n fun h' t' CQ hk=>⟨σ,_,?_,q2⟩
 refine I2.write (x:=d) (e:=d) (h':=h') (t':=t') (by rw[ed];exact True.intro) (.inl rfl) (fun b u hb z=>?_) ?_ ⟨_,CQ,fun g=>?_⟩
 ·exact(hk b hb).trans z
 ·obtain⟨od,_,_,Ey,_⟩:=CQ
  exact⟨od,Ey⟩
 ·rw[fG]
  by_cases e:g=f
  ·rw[if_pos e];simp only[if_pos e];exact ry
  ·rw[if_neg e];simp only[if_neg e];exact hr g
end
end L2
namespace L2
open PySem
noncomputable def qH:Option Int->Value->Bool
 | none,v=>v == .none
 | some k,v=>Value.isInt k v
noncomputable def wj:Option Int->Int
 | none=>4238894112
 | some k=>hashInt k
theorem bW {k:Option Int}{v:Value}(h:qH k v=true):(k=none/\v = .none)∨∃ i t,k=some i/\v = .int i t:=by
 cases k with
 | none=>exact .inl ⟨rfl,eq_of_beq h⟩
 | some i=>obtain⟨t,e⟩:=Value.isInt_shape h;exact .inr ⟨i,t,rfl,e⟩
section
variable {prog:Program}{w:World}{A:Around}{E:Value->Shared->Prop}{s:Shared}
theorem rP {Q:Int->Shared->Prop}(h:Q 4238894112 { s with toks:=s.toks + 1 }):wpAny (model prog w) A (pyHash .none) Q E s:=by
 have hT:s.TypeIs .none "NoneType":=rfl
 unfold pyHash
 have hv:[Value.none].any Value.onHeap=false:=rfl
 refine wpAny_bind ?_
 rw[cRoomFor,if_neg (by rw[hv];exact Bool.false_ne_true)];refine wpAny_pure ?_
 refine wpAny_bind (wpAny_specialOf hT F.slot_NoneType_hash.lookup ?_)
 show wpAny _ _ (if (some (Value.builtin "NoneType.__hash__") == some Value.none)=true then _ else _) Q E s
 rw[if_neg (by rw[beq_builtin_none];exact Bool.false_ne_true)]
 refine wpAny_bind (wpAny_specialOf hT F.slot_NoneType_hash.lookup ?_)
 show wpAny _ _ (callSpecialIfBoundUnlessNone? .none "__hash__" _ >>= _) Q E s
 refine wpAny_bind (wpAny_callSpecialIfBoundUnlessNone?_slot hT F.slot_NoneType_hash (wpAny_call_entry F.slot_NoneType_hash hT F.entry_NoneType_hash
  (show wpAny _ _ (do ret (← mkInt 4238894112)) _ _ s from wpAny_ret_mkInt ?_) (F.args_NoneType_hash_1 _)))
 exact wpAny_pure h
theorem zE {a b:Option Int}{u v:Value}{Q:Bool->Shared->Prop}(hu:qH a u=true)(hv:qH b v=true)(h:Q (decide (a=b)) s):wpAny (model prog w) A (PySem.eqBool u v) Q E s:=by
 rcases bW hu with ⟨rfl,rfl⟩ | ⟨i,t,rfl,rfl⟩<;>rcases bW hv with ⟨rfl,rfl⟩ | ⟨j,t',rfl,rfl⟩
 ·unfold eqBool
  refine wpAny_holding ?_
  refine wpAny_ite_split (fun _=>wpAny_bind (wpAny_rule (wpAny_pure (by simpa using h)))) (fun n=>absurd rfl n)
 ·exact PySem.SeqAt.EqAt.none_int j t' prog w E Q (by simpa using h)
 ·exact PySem.SeqAt.EqAt.int_none i t prog w E Q (by simpa using h)
 ·refine wpAny_eqBool_int ?_
  have e:(i == j)=decide (some i=some j):=by
   by_cases q:i=j
   ·simp[q]
   ·simp[q]
  rw[e];exact h
end
noncomputable def fQ (prog:Program)(w:World):KeyKind prog w (Option Int) where
 is:=qH
 hash:=wj
 inj:=fun v a b ha hb=>by
  rcases bW ha with ⟨rfl,rfl⟩ | ⟨i,t,rfl,rfl⟩<;>rcases bW hb with ⟨rfl,e⟩ | ⟨j,t',rfl,e⟩
  ·rfl
  ·cases e
  ·cases e
  ·cases e;rfl
 byValue:=fun k v h=>by
  rcases bW h with ⟨_,rfl⟩ | ⟨i,t,_,rfl⟩<;>rfl
 pyHash:=fun {A E s k v Q} hv h=>by
  rcases bW hv with ⟨rfl,rfl⟩ | ⟨i,t,rfl,rfl⟩
  ·exact rP h
  ·exact wpAny_pyHash_int h
 eqBool:=fun hu hv h=>zE hu hv h
 «strs»:=fun k x t v h=>by
  rcases bW h with ⟨_,e⟩ | ⟨i,t,_,e⟩<;>cases e
end L2
namespace L2
open PySem PySem.Spec PyProof.Rows
noncomputable abbrev gk:=List (Option Int)
noncomputable def sh:Option Int->V
 | none => .An
 | some i => .int i
noncomputable abbrev dQ:=gk × Addr × V
noncomputable abbrev jY (p:dQ)(q:gk × Addr × Value):Prop:=p.1=q.1/\p.2.1=q.2.1/\RelV p.2.2 q.2.2
noncomputable def zV (P:Program)(w:World)(a:Addr)(kvs:List dQ):Heap->Prop:=fun h=>kvs.length <= sizeLine/\(a == sysModules)=false/\∃ xs,Paired jY kvs xs /\
 ∃ o es ep,h.get? a=some o/\o.ExactDict/\o.data = .dict es ep/\es.toList=xs.map (entryOfKey (tupleKind (fQ P w)))/\(xs.map (·.1)).Nodup
noncomputable def jZ (P:Program)(w:World)(a:Addr)(kvs:List dQ):HO := .ext (zV P w a kvs)
noncomputable def AQ (P:Program)(w:World)(H:Hp)(a:Addr)(kvs:List dQ):Prop:=H a=some (jZ P w a kvs)/\∀ x ∈ kvs,H x.2.1=some (.tup (x.1.map sh))
theorem AQ.same {P:Program}{w:World}{H H':Hp}{a:Addr}{kvs:List dQ}(h:AQ P w H a kvs)(s:zW H H'):AQ P w H' a kvs:=⟨s _ _ h.1,fun x hx=>s _ _ (h.2 x hx)⟩
noncomputable def ce (kvs:List dQ)(k:gk):Option V:=(kvs.find? fun x=>decide (x.1=k)).map (·.2.2)
noncomputable def rg (k:gk)(v:V)(x:dQ):dQ:=if x.1=k then (x.1,x.2.1,v) else x
noncomputable def fz (kvs:List dQ)(k:gk)(b:Addr)(v:V):List dQ:=if (ce kvs k).isSome then kvs.map (rg k v) else kvs ++ [(k,b,v)]
theorem jq {k:gk}:ce [] k=none:=rfl
theorem ck {x:dQ}{kvs:List dQ}{k:gk}:ce (x :: kvs) k=if x.1=k then some x.2.2 else ce kvs k:=by
 unfold ce
 rw[List.find?_cons]
 by_cases h:x.1=k
 ·rw[decide_eq_true h,if_pos h];rfl
 ·rw[decide_eq_false h,if_neg h]
theorem so {kvs:List dQ}{k k':gk}{v:V}:ce (kvs.map (rg k v)) k' = if k' = k then (ce kvs k).map (fun _=>v) else ce kvs k':=by
 induction kvs with
 | nil=>rw[map_nil,jq,jq];split<;>rfl
 | cons x kvs ih =>
  rw[map_cons,ck,ih,ck,ck]
  unfold rg
  by_cases h:x.1=k<;>by_cases h':k' = k
  ·have:x.1=k':=h.trans h'.symm
   simp[h,h']
  ·have:¬ x.1=k':=fun z=>h' (z.symm.trans h)
   rw[if_pos h,if_neg h',if_neg this,if_neg this,if_neg h']
  ·subst h'
   simp[h]
  ·simp[h,h']
theorem m5 {kvs:List dQ}{k k':gk}{b:Addr}{v:V}(h:ce kvs k=none):ce (kvs ++ [(k,b,v)]) k' = if k' = k then some v else ce kvs k':=by
 induction kvs with
 | nil =>
  rw[List.nil_append,ck,jq]
  by_cases e:k' = k
  ·rw[if_pos e,if_pos e.symm]
  ·rw[if_neg e,if_neg (Ne.symm e)]
 | cons x kvs ih =>
  rw[ck]at h
  by_cases hx:x.1=k
  ·rw[if_pos hx]at h;cases h
  ·rw[if_neg hx]at h
   rw[List.cons_append,ck,ih h,ck]
   by_cases e:k' = k
   ·subst e;rw[if_neg hx,if_pos rfl,if_pos rfl]
   ·rw[if_neg e,if_neg e]
theorem gY {kvs:List dQ}{k k':gk}{b:Addr}{v:V}:ce (fz kvs k b v) k' = if k' = k then some v else ce kvs k':=by
 unfold fz
 cases h:ce kvs k with
 | none=>rw[if_neg (by simp)];exact m5 h
 | some u =>
  rw[if_pos (by simp),so,h];rfl
theorem fv {kvs:List dQ}{k:gk}{b:Addr}{v:V}:(fz kvs k b v).length <= kvs.length + 1:=by
 unfold fz
 split
 ·rw[length_map];omega
 ·rw[length_append];exact le_refl _
theorem k9 {kvs:List dQ}{k:gk}{b:Addr}{v:V}{F:gk->Addr->Prop}(h:∀ x ∈ kvs,F x.1 x.2.1)(hk:F k b):∀ x ∈ fz kvs k b v,F x.1 x.2.1:=by
 intro x hx
 unfold fz at hx
 split at hx
 ·obtain⟨y,hy,rfl⟩:=mem_map.mp hx
  unfold rg
  split
  ·exact h y hy
  ·exact h y hy
 ·rcases mem_append.mp hx with q | q
  ·exact h x q
  ·rw[mem_singleton.mp q];exact hk
theorem lS {kvs:List dQ}{xs:List (gk × Addr × Value)}(r:Paired jY kvs xs)(k:gk):AW (ce kvs k) ((atKey xs k).map (·.2)):=by
 induction r with
 | nil=>exact True.intro
 | @cons p q _ _ h1 _ ih =>
  rw[ck]
  unfold atKey at ih ⊢
  rw[List.find?_cons]
  by_cases e:p.1=k
  ·rw[if_pos e,decide_eq_true (h1.1.symm.trans e)];exact h1.2.2
  ·rw[if_neg e,decide_eq_false (fun z=>e (h1.1.trans z))];exact ih
theorem iP {o:Option V}{u:Option Value}(r:AW o u):o.isSome=u.isSome:=by
 cases o<;>cases u<;>first | rfl | exact r.elim
theorem rf {o:Option V}{u:Option Value}{d:V}{r:Value}(h:AW o u)(hd:RelV d r):RelV (o.getD d) (u.getD r):=by
 cases o<;>cases u<;>first | exact hd | exact h | exact h.elim
theorem xh {kvs:List dQ}{xs:List (gk × Addr × Value)}{k:gk}{v:V}{u:Value}(r:Paired jY kvs xs)(hv:RelV v u):Paired jY (kvs.map (rg k v)) (xs.map (putAt k u)):=by
 induction r with
 | nil=>exact .nil
 | @cons p q _ _ h1 _ ih =>
  refine .cons ?_ ih
  unfold rg putAt
  by_cases e:p.1=k
  ·rw[if_pos e,if_pos (h1.1.symm.trans e)];exact⟨h1.1,h1.2.1,hv⟩
  ·rw[if_neg e,if_neg (fun z=>e (h1.1.trans z))];exact h1
theorem vf {kvs:List dQ}{xs:List (gk × Addr × Value)}{p:dQ}{q:gk × Addr × Value}(r:Paired jY kvs xs)(h:jY p q):Paired jY (kvs ++ [p]) (xs ++ [q]):=by
 induction r with
 | nil=>exact .cons h .nil
 | cons h1 _ ih=>exact .cons h1 ih
theorem xg {kvs:List dQ}{xs:List (gk × Addr × Value)}{k:gk}{b:Addr}{v:V}{u:Value}(r:Paired jY kvs xs)(hv:RelV v u):Paired jY (fz kvs k b v) (storedH xs k b u):=by
 have h:=iP (lS r k)
 rw[Option.isSome_map]at h
 unfold fz storedH
 rw[h]
 split
 ·exact xh r hv
 ·exact vf r ⟨rfl,rfl,hv⟩
section
variable {P:Program}{w:World}{H:Hp}{h:Heap}{a b:Addr}{kvs:List dQ}{k:gk}
theorem iF:∀ {k:gk}{us:List Value},Vals (k.map sh) us->ItemsAre (fQ P w) k us
 | [],_, .nil => .nil
 | none :: _,_, .cons r t => .cons (by have e:_=Value.none:=r;subst e;rfl) (iF t)
 | some i :: _,_, .cons r t => .cons (by obtain⟨tk,e⟩:=(show ∃ t,_=Value.int i t from r);subst e;exact beq_self_eq_true i) (iF t)
theorem ji (ok:Bl P w H h)(e:H b=some (.tup (k.map sh))):(tupleKind (fQ P w)).is h k b:=by
 obtain⟨_,Ab,r,o,ho,⟨hc,n,hd⟩,_⟩:=ok _ _ e
 exact⟨o,Ab.toArray,n,ho,hc,hd,iF r⟩
theorem jl (ok:Bl P w H h)(e:AQ P w H a kvs):kvs.length <= sizeLine/\(a == sysModules)=false/\∃ xs,Paired jY kvs xs/\h.DictOfH (tupleKind (fQ P w)) a xs:=by
 obtain⟨e,ek⟩:=e
 obtain⟨⟨z,hs,xs,r,o,es,ep,h1,h2,h3,h4,h5⟩,_⟩:=ok _ _ e
 refine⟨z,hs,xs,r,o,es,ep,h1,h2,h3,h4,?_,h5⟩
 have all:∀ {kvs:List dQ}{xs:List (gk × Addr × Value)},Paired jY kvs xs->(∀ x ∈ kvs,H x.2.1=some (.tup (x.1.map sh)))->∀ x ∈ xs,(tupleKind (fQ P w)).is h x.1 x.2.1:=by
  intro kvs xs r
  induction r with
  | nil=>intro _ x hx;cases hx
  | @cons p q _ _ h1 _ ih =>
   intro hk x hx
   rcases mem_cons.mp hx with rfl | hx
   ·have:=hk p mem_cons_self
    rw[h1.1,h1.2.1]at this
    exact ji ok this
   ·exact ih (fun y hy=>hk y (mem_cons_of_mem _ hy)) x hx
 exact all r ek
theorem kP (h1 h2:Heap)(p:zV P w a kvs h1)(st:∀ o,h1.get? a=some o->h2.get? a=some o):zV P w a kvs h2:=by
 obtain⟨z,hs,xs,r,o,es,ep,q,c⟩:=p
 exact⟨z,hs,xs,r,o,es,ep,st _ q,c⟩
theorem vk (hb:sysModules < h.objs.size):Ap P w H (h.push { cls := .type "dict",data := .dict #[] }) h.objs.size (jZ P w h.objs.size []) :=
 ⟨⟨zero_le _,beq_eq_false_iff_ne.mpr (Ne.symm (ne_of_lt hb)),[], .nil,_,#[],0,Heap.get?_push_size _ rfl,⟨rfl,rfl,rfl⟩,rfl,rfl,nodup_nil⟩,⟨_,Heap.get?_push_size _ rfl⟩,fun _ _=>kP _ _⟩
end
noncomputable def xt (P:Program)(w:World)(H:Hp)(a:Addr)(y:V)(r:Option V):Prop:=∃ kvs k b,AQ P w H a kvs/\y = .ref b/\H b=some (.tup (k.map sh))/\r=ce kvs k
section
variable {X:Cx}{pins:List (Addr × Obj)}{σ:St}{H:Hp}{s:Shared}{a b:Addr}{y v d:V}{u r:Value}{o:Option V}{A:Around}{E:Value->Shared->Prop}
theorem zN (I:Inv X pins σ H s):sysModules < s.heap.objs.size :=
 lt_trans (by decide) (show mainGlobals < s.heap.objs.size from (I.mod.glob.keeps I.bk).lt)
theorem Rv {Q:Value->Shared->Prop}(hu:A.units + 1 < cLine)(I:Inv X pins σ H s)(g:xt X.prog X.w H a y o)(ry:RelV y u)(h:∀ s',Inv X pins σ H s'->Q (.bool o.isSome) s') :
  wpAny (model X.prog X.w) A (compareOp .In u (.ref a)) Q E s:=by
 obtain⟨kvs,k,b,e,rfl,eb,rfl⟩:=g
 cases (show u=Value.ref b from ry)
 obtain⟨_,hd,xs,rel,dd⟩:=jl I.Ad e
 refine wpAny_in_heap (tupleKind_room_in1 hu) (ji I.Ad eb) hd dd ?_
 have q:=iP (lS rel k)
 rw[Option.isSome_map]at q
 rw[← q]
 exact h _ (I.tok _)
theorem zk {Q:Value->Shared->Prop}(hu:A.units + 1 < cLine)(I:Inv X pins σ H s)(g:xt X.prog X.w H a y o)(ry:RelV y u)(rd:RelV d r)(h:∀ w' s',Inv X pins σ H s'->RelV (o.getD d) w'->Q w' s') :
  wpAny (model X.prog X.w) A (call (.builtin "dict.get") [.ref a,u,r]) Q E s:=by
 obtain⟨kvs,k,b,e,rfl,eb,rfl⟩:=g
 cases (show u=Value.ref b from ry)
 obtain⟨_,hd,xs,rel,dd⟩:=jl I.Ad e
 exact call_meetsIn slot_dict_get dd.typeIs entry_dict_get (PySem.F.args_dict_get_3 _ _ _) (meetsH_dict_get_default (tupleKind (fQ X.prog X.w)) a b hd r)
  ⟨tupleKind_room_in1 hu,k,xs,ji I.Ad eb,dd,h _ _ (I.tok _) (rf (lS rel k) rd)⟩
theorem KZ {kvs:List dQ}{k:gk}{Q:Unit->Shared->Prop}(hu:A.units + 1 < cLine)(I:Inv X pins σ H s)(e:AQ X.prog X.w H a kvs)(eb:H b=some (.tup (k.map sh)))(hl:kvs.length < sizeLine)(rv:RelV v r)
  (h:∀ s',Inv X pins σ (upd H a (jZ X.prog X.w a (fz kvs k b v))) s'->Q () s'):wpAny (model X.prog X.w) A (setItem (.ref a) (.ref b) r) Q E s:=by
 obtain⟨z,hd,xs,rel,dd⟩:=jl I.Ad e
 have hz:xs.length <= sizeLine:=by rw[← Paired.length rel];exact z
 have DD:(fz kvs k b v).length <= sizeLine:=le_trans fv hl
 refine wpAny_setItem_heap (hsz:=hz) (tupleKind_room_in1 hu) (ji I.Ad eb) dd fun h' F8 hs=>h _ ?_
 obtain⟨q,es,ep,hq,h2,h3,h4,_,h5⟩:=F8
 exact I.write (x:=a) (e:=a) (by rw[e.1];exact True.intro) (.inl rfl) (fun c q hc z=>(hs.2 c hc).trans z) ⟨q,hq⟩
  ⟨⟨DD,hd,_,xg rel rv,q,es,ep,hq,h2,h3,h4,h5⟩,⟨q,hq⟩,fun _ _=>kP _ _⟩
theorem rT {kvs:List dQ}(I:Inv X pins σ H s)(e:AQ X.prog X.w H a kvs):s.TypeIs (.ref a) "dict"/\∀ b,Value.ref a = .ref b->∃ ob,s.heap.get? b=some ob/\ob.dict=none:=by
 obtain⟨_,_,xs,_,dd⟩:=jl I.Ad e
 refine⟨dd.typeIs,fun b q=>?_⟩
 cases q
 obtain⟨ob,_,_,h1,h2,_⟩:=dd
 exact⟨ob,h1,h2.2.1⟩
end
noncomputable def sA (P:Program)(w:World):TE:=fun _ H Q=>∀ p,H p=none->Q (.ref p) (upd H p (jZ P w p []))
noncomputable def Rx (P:Program)(w:World)(ty td:TE):TE:=fun σ H Q=>ty σ H fun y H1=>td σ H1 fun x H2=>∃ a o,x = .ref a/\xt P w H2 a y o/\Q (.bl o.isSome) H2
noncomputable def La (P:Program)(w:World)(td ty tv:TE):TS:=fun D σ H=>tv σ H fun v H1=>td σ H1 fun x H2=>ty σ H2 fun y H3=>∃ a kvs k b,x = .ref a/\AQ P w H3 a kvs/\y = .ref b/\H3 b=some (.tup (k.map sh))/\kvs.length < sizeLine/\D.nx σ (upd H3 a (jZ P w a (fz kvs k b v)))
noncomputable def yh (P:Program)(w:World)(td:TE)(t:TA):TE:=fun σ H Q=>td σ H fun x H1=>∃ a kvs,x = .ref a/\AQ P w H1 a kvs/\t σ H1 fun xs H2=>∃ y z o,xs=[y,z]/\xt P w H2 a y o/\Q (o.getD z) H2
section
variable {X:Cx}{o i e f value:Expr}{pos pos' apos AN:Pos}{td ty tv tx:TE}
theorem qm:PE X (.Dict [] [] pos) (sA X.prog X.w):=fun pins s σ H Q I h =>
 wpAny_Dict_empty ⟨.ref s.heap.objs.size,_,I.laid (a:=s.heap.objs.size) (o:=jZ X.prog X.w s.heap.objs.size []) (t':=s.toks) (fun _ _ q=>Heap.get?_push_of_some _ q) (le_refl _) (vk (zN I)),rfl,h _ (I.Ad.fresh (le_refl _))⟩
theorem yK (hu:X.A.units + 1 < cLine)(hi:PE X i ty)(ho:PE X o td):PC X .In i o (Rx X.prog X.w ty td):=by
 intro pins s σ H Q I h
 refine aS (hi pins s σ H _ I h) fun iv s1 ⟨y,H1,I1,ry,q1⟩=>aS (ho pins s1 σ H1 _ I1 q1) fun u s2 Aj=>?_
 obtain⟨x,H2,I2,rx,a,ov,ex,g,q2⟩:=Aj
 subst ex
 obtain rfl:u=Value.ref a:=rx
 exact Rv hu I2 g ry fun s3 I3=>⟨.bl ov.isSome,H2,I3,rfl,q2⟩
theorem qk (hu:X.A.units + 1 < cLine)(ho:PE X o td)(hi:PE X i ty)(hv:PE X value tv)(hs:swapsWith value (some (.Subscript o i pos')) pos.line X.env=pure false) :
  PS X (.Assign [.Subscript o i pos'] value pos) (La X.prog X.w td ty tv):=by
 intro pins s σ H D I h
 refine wpAny_Assign_Subscript (aS (hv pins s σ H _ I h) fun r s1 ⟨v,H1,I1,rv,q1⟩=>aS (ho pins s1 σ H1 _ I1 q1) fun u s2 ⟨x,H2,I2,rx,q2⟩=>aS (hi pins s2 σ H2 _ I2 q2) fun iv s3 Aj=>?_) hs
 obtain⟨y,H3,I3,ry,a,kvs,k,b,ex,e,ey,eb,hl,q3⟩:=Aj
 subst ex ey
 obtain rfl:u=Value.ref a:=rx
 obtain rfl:iv=Value.ref b:=ry
 exact KZ hu I3 e eb hl rv fun s4 I4=>⟨σ,_,I4,q3⟩
theorem mR {es:List Expr}{t:TA}(hu:X.A.units + 1 < cLine)(ho:PE X o td)(ha:PA X (e :: es) t)
  (h1:attributeBase o "get" X.env (eval o X.env)=eval o X.env:=by rfl)
  (h2:((backTo AN (starEach (e :: es) X.env)).all (fun x=>!x.1) && (backToKw AN (keywordEach [] X.env)).all (fun x=>x.1.isSome) && decide ((e :: es).length + ([]:List Keyword).length + (if ([]:List Keyword).isEmpty then 0 else 1) < 30))=true:=by rfl)
  (h3:(apos.endLine == AN.line)=true:=by rfl) (h4:starEach (e :: es) X.env=(false,eval e X.env) :: starEach es X.env:=by rfl) (h5:(backTo AN (starEach es X.env)).any (·.1)=false:=by rfl) :
  PE X (.Call (.Attribute o "get" apos) (e :: es) [] AN) (yh X.prog X.w td t):=by
 intro pins s σ H Q I h
 refine wpAny_Call_method_late h1 h2 h3 rfl (aS (ho pins s σ H _ I h) fun v s1 Aj=>?_)
 obtain⟨x,H1,I1,r1,a,kvs,ex,e1,q1⟩:=Aj
 subst ex
 obtain rfl:v=Value.ref a:=r1
 obtain⟨t1,t2⟩:=rT I1 e1
 refine⟨"dict", "dict.get",PySem.F.plainAttrs_dict,slot_dict_get,PySem.F.type_dict_get,t1,t2,?_⟩
 have hA:=ha AN pins s1 σ H1 _ I1 q1
 rw[h4]at hA ⊢
 refine Calls.callWith_builtin (by show(false || (backTo AN (starEach es X.env)).any (·.1))=false;rw[h5]<;>rfl) (Calls.evalArgs_plain ?_)
 refine aS hA fun us s2 Aj=>?_
 obtain⟨vs,H2,I2,r2,y,z,ov,Cu,g,q2⟩:=Aj
 subst Cu
 cases r2 with
 | cons ry r2=>cases r2 with
  | cons rz r2=>cases r2 with
   | nil=>exact zk hu I2 g ry rz fun w' s4 I4 Dc=>⟨_,H2,I4,Dc,q2⟩
end
end L2
namespace L2
open PySem PySem.Spec PyProof.Rows
structure vA (K:Frag)(C:Addr)(m:Str)(f:Addr):Prop where
 reads:PySem.W.readsIn K C (.type "type")=true
 found:PySem.W.findCls K (.ref C) (.type "type") m=some (.val (.ref f))
 spec:PySem.W.specialIn K (.ref C) "__getattribute__" = some (some (.builtin "type.__getattribute__"))
 kp:keepIn K (.ref f)=true
noncomputable def yk (C:Addr)(sp:Sp)(AL:List V)(E:XK)(ta:TE)(t:TA):TE:=fun σ H Q=>ta σ H fun x H1=>x = .ref C/\t σ H1 fun vs H2=>sp (vs ++ AL) H2 Q E
section
variable {X:Cx}{CX:pI}{k:Nat}{f C:Addr}{fd:FuncData}{ps:List Str}{sp:Sp}{AL:List V}{ds:List Value}{E:XK}{x m:Str}{p pos apos:Pos}{e o:Expr}{es:List Expr}{ta:TE}{t:TA}
theorem mS {pl:Sem Bool}(he:PE X o ta)(hm:vA X.K C m f)(F:zX X.prog X.w X.K X.mg X.base CX k f fd ps sp)(hr:Ah k X.A)(hb:Binds X.K fd ps ds)(hd:Vals AL ds)(hx:dP CX X E)(ha:PA X (e :: es) t)
  (h1:starEach (e :: es) X.env=(false,eval e X.env) :: starEach es X.env:=by rfl) (h2:(backTo pos (starEach es X.env)).any (·.1)=false:=by rfl)
  (ht:eval (.Call (.Attribute o m apos) (e :: es) [] pos) X.env=(do
   let ov ← eval o X.env
   standAt apos.atName
   let (f,first) ← holding [ov] (getMethod ov m pl)
   callWith pos f first (backTo pos (starEach (e :: es) X.env)) (backToKw pos (keywordEach [] X.env))):=by rfl) :
  PE X (.Call (.Attribute o m apos) (e :: es) [] pos) (yk C sp AL E ta t):=by
 intro pins s σ H Q I h
 refine PySem.W.methodCall_KW (pl:=pl) (aS (he pins s σ H _ I h) fun u s1 Aj=>?_) ht
 obtain⟨x,H1,I1,rx,ex,q⟩:=Aj
 subst ex
 obtain rfl:u=Value.ref C:=rx
 refine PySem.W.method_cls I1.Bd hm.spec (PySem.W.cls_value I1.Bd hm.reads hm.found rfl ?_)
 refine PySem.W.callWith_K (first:=[]) (h₀:=X.base) I.ok.mod.Eo hm.kp (aS (ha pos pins _ σ H1 _ (I1.tok _) q) fun us s2 ⟨vs,H2,I2,r,q2⟩=>⟨I2.Bd,?_⟩) h1 h2
 exact ly F hr hb hd hx I2 r q2
end
section
variable {X:Cx}
end
end L2
namespace L2
open PySem PySem.Spec PyProof.Rows
section
variable {X:Cx}{tg:Expr}
noncomputable def Ry:V->List V->Hp->VK->Prop:=fun x vs H Q=>∃ (l:Addr)(ns:List Int)(k:Int),x = .ref l/\vs=[.int k]/\H l=some (.lst (ns.map V.int))/\k ∈ ns/\ns.length <= 100000/\Q (.int (ns.idxOf k:Nat)) H
theorem rF:OI X "list.index" Ry:=by
 intro pins s σ H x vs v us Q I rx rv h
 obtain⟨l,ns,k,rfl,rfl,hH,hk,hlen,q⟩:=h
 cases rx
 obtain⟨u,rfl,ru⟩:=rv.one
 obtain⟨t,rfl⟩:=ru
 obtain⟨z,Ab,n,r,hl,e⟩:=I.Df hH
 have hi:IntsAre Ab.toArray.toList ns:=p6 r
 have Dp:Ab.length=ns.length:=by rw[← r.length,length_map]
 have hj:ns.idxOf k < ns.length:=List.idxOf_lt_length_of_mem hk
 have at_:∀ m (hm:m < Ab.toArray.size),∃ t,Ab.toArray[m]=Value.int (ns[m]'(by simpa [Dp] using hm)) t:=fun m hm=>by
  have Fo:m < Ab.length:=by simpa using hm
  have hv:(ns.map V.int)[m]? = some (V.int (ns[m]'(by omega))):=by simp[show m < ns.length by omega]
  obtain⟨w',hw,Dc⟩:=r.get hv
  obtain⟨t',rfl⟩:=Dc
  refine⟨t',?_⟩
  have:Ab[m]? = some Ab[m]:=List.getElem?_eq_getElem Fo
  rw[this]at hw
  simpa using Option.some.inj hw
 let e':Value->Bool:=fun y=>Value.isInt k y
 refine call_meets PySem.F.slot_list_index ⟨_,e,rfl⟩ PySem.F.entry_list_index (PySem.F.args_list_index_2 _ _)
  (SeqAt.list_indexAt l Ab.toArray n none #[] (.int k t) e' (ns.idxOf k) (by simpa [Dp] using hj) (by omega) ?_ ?_) ⟨e,fun y hy=>?_,?_⟩
 ·obtain⟨t',et⟩:=at_ (ns.idxOf k) (by simpa [Dp] using hj)
  show Value.isInt k (Ab.toArray[ns.idxOf k]'(by simpa [Dp] using hj))=true
  rw[et,List.getElem_idxOf]
  simp[Value.isInt]
 ·intro m hm hmj
  obtain⟨t',et⟩:=at_ m hm
  show Value.isInt k Ab.toArray[m]=false
  rw[et]
  have Cg:ns[m]'(by simpa [Dp] using hm) ≠ k:=fun z=>by
   have:=List.not_of_lt_findIdx (p:=fun x=>x == k) (xs:=ns) (i:=m) hmj
   rw[z]at this
   simp at this
  simp only[Value.isInt,beq_eq_false_iff_ne,ne_eq]
  first | exact Cg | exact fun z=>Cg z.symm
 ·have hm:y ∈ Ab:=by simpa using hy
  obtain⟨m,Fo,em⟩:=List.getElem_of_mem hm
  obtain⟨t',et⟩:=at_ m (by simpa using Fo)
  have ey:y=Value.int (ns[m]'(by omega)) t':=by rw[← em];simpa using et
  subst ey
  intro prog w E Q' hQ'
  refine wpAny_eqBool_int ?_
  have:(ns[m]'(by omega) == k)=Value.isInt k (Value.int (ns[m]'(by omega)) t'):=by simp[Value.isInt,Bool.beq_comm]
  rw[this]
  exact hQ'
 ·exact⟨.int (ns.idxOf k:Nat),H,I.tok _,⟨_,rfl⟩,q⟩
noncomputable def Lb (K:Frag):List V->Hp->VK->Prop:=fun xs H Q=>∃ (v:V)(t:Value)(c:String)(b:Bool),xs=[v, .ty c]/\iO K H v t/\kitOne K t (.type c)=some b/\Q (.bl b) H
theorem iA:eD X (.builtin "isinstance") (Lb X.K):=by
 intro pins s σ H xs us Q I r h
 obtain⟨v,t,c,b,rfl,ty,hk,q⟩:=h
 cases r with
 | cons r1 r2=>cases r2 with
  | cons r2 r3 =>
   cases r3
   cases r2
   exact rM I r1 ty hk fun tk=>⟨.bl b,H,I.tok _,rfl,q⟩
end
end L2
namespace L2
open PySem PySem.Spec PyProof.Rows
section
variable {κ:Type} [DecidableEq κ]
noncomputable def gU (kvs:List (κ × V))(k:κ):Option V:=(kvs.find? fun kv=>decide (kv.1=k)).map (·.2)
noncomputable def cK (kvs:List (κ × V))(k:κ)(v:V):List (κ × V) :=
 if (kvs.any fun kv=>decide (kv.1=k))=true then kvs.map (fun kv=>if kv.1=k then (kv.1,v) else kv) else kvs ++ [(k,v)]
theorem jn {p:κ × V}{r:List (κ × V)}{k:κ}(e:p.1=k):gU (p :: r) k=some p.2:=by simp[gU,List.find?_cons,e]
theorem jo {p:κ × V}{r:List (κ × V)}{k:κ}(e:¬ p.1=k):gU (p :: r) k=gU r k:=by simp[gU,List.find?_cons,e]
theorem jp (k:κ):∀ kvs:List (κ × V),(kvs.any fun kv=>decide (kv.1=k))=(gU kvs k).isSome
 | []=>rfl
 | p :: r=>by
  rw[any_cons]
  by_cases e:p.1=k
  ·simp only[jn e,decide_eq_true e,Bool.true_or,Option.isSome_some]
  ·rw[jo e,decide_eq_false e,Bool.false_or];exact jp k r
theorem fH (kvs:List (κ × V))(k:κ)(v:V):(cK kvs k v).length <= kvs.length + 1:=by
 unfold cK
 split
 ·rw[length_map];omega
 ·rw[length_append,length_cons,length_nil];omega
theorem ua {kvs:List (κ × V)}{k:κ}(v:V)(h:gU kvs k=none):cK kvs k v=kvs ++ [(k,v)]:=by
 unfold cK
 rw[jp,h]
 exact if_neg (by decide)
theorem AW.BH {o:Option V}{u:Option Value}(r:AW o u):o.isSome=u.isSome:=by
 cases o with
 | none=>cases u with
  | none=>rfl
  | some _=>exact(show False from r).elim
 | some _=>cases u with
  | none=>exact(show False from r).elim
  | some _=>rfl
theorem AW.getD {o:Option V}{u:Option Value}{d:V}{d':Value}(r:AW o u)(rd:RelV d d'):RelV (o.getD d) (u.getD d'):=by
 cases o with
 | none=>cases u with
  | none=>exact rd
  | some _=>exact(show False from r).elim
 | some _=>cases u with
  | none=>exact(show False from r).elim
  | some _=>exact r
theorem KV.val {kvs:List (κ × V)}{vs:List (κ × Value)}(r:KV kvs vs)(k:κ):AW (gU kvs k) (valueAt vs k):=by
 unfold KV at r
 induction r with
 | nil=>exact True.intro
 | @cons p q ps qs h t ih =>
  obtain⟨h1,h2⟩:=h
  by_cases e:p.1=k
  ·have e':q.1=k:=h1.symm.trans e
   have b:valueAt (q :: qs) k=some q.2:=by simp[valueAt,List.find?_cons,e']
   rw[jn e,b];exact h2
  ·have e':¬ q.1=k:=fun z=>e (h1.trans z)
   have b:valueAt (q :: qs) k=valueAt qs k:=by simp[valueAt,List.find?_cons,e']
   rw[jo e,b];exact ih
theorem KV.any {kvs:List (κ × V)}{vs:List (κ × Value)}(r:KV kvs vs)(k:κ):(kvs.any fun kv=>decide (kv.1=k))=vs.any fun kv=>decide (kv.1=k):=by
 unfold KV at r
 induction r with
 | nil=>rfl
 | cons h t ih=>rw[any_cons,any_cons,ih,h.1]
theorem KV.Ii {kvs:List (κ × V)}{vs:List (κ × Value)}(r:KV kvs vs)(k:κ){y:V}{u:Value}(ry:RelV y u) :
  KV (kvs.map fun kv=>if kv.1=k then (kv.1,y) else kv) (vs.map fun kv=>if kv.1=k then (kv.1,u) else kv):=by
 unfold KV at r ⊢
 induction r with
 | nil=>exact .nil
 | @cons p q ps qs h t ih =>
  rw[map_cons,map_cons]
  refine .cons ?_ ih
  obtain⟨h1,h2⟩:=h
  by_cases e:p.1=k
  ·rw[if_pos e,if_pos (h1.symm.trans e)];exact⟨h1,ry⟩
  ·rw[if_neg e,if_neg (fun z=>e (h1.trans z))];exact⟨h1,h2⟩
theorem KV.put {kvs:List (κ × V)}{vs:List (κ × Value)}(r:KV kvs vs)(k:κ){y:V}{u:Value}(ry:RelV y u):KV (cK kvs k y) (stored vs k u):=by
 unfold cK stored
 rw[r.any k]
 by_cases e:(vs.any fun kv=>decide (kv.1=k))=true
 ·rw[if_pos e,if_pos e];exact r.Ii k ry
 ·rw[if_neg e,if_neg e];exact Paired.snoc r ⟨rfl,ry⟩
theorem KV.keys {kvs:List (κ × V)}{vs:List (κ × Value)}(r:KV kvs vs):kvs.map (·.1)=vs.map (·.1):=by
 unfold KV at r
 induction r with
 | nil=>rfl
 | cons h t ih=>rw[map_cons,map_cons,ih,h.1]
theorem KV.length {kvs:List (κ × V)}{vs:List (κ × Value)}(r:KV kvs vs):kvs.length=vs.length:=Paired.length r
end
theorem kI {P:Program}{w:World}{k:cb}{u:Value}(r:RelV (kV k) u):(aU P w).is k u=true:=by
 cases k with
 | inl i=>obtain⟨t,e⟩:=(show ∃ t,u=Value.int i t from r);subst e;exact nc P w i t
 | inr x=>obtain⟨t,e⟩:=(show ∃ t,u=Value.str x t from r);subst e;exact na P w x t
theorem kJ {P:Program}{w:World}:∀ {ks:List cb}{us:List Value},Vals (ks.map kV) us->ItemsAre (aU P w) ks us
 | [],_,r=>by rw[map_nil]at r;cases r;exact .nil
 | k :: ks,_,r=>by
  rw[map_cons]at r
  cases r with
  | cons h t=>exact .cons (kI h) (kJ t)
noncomputable abbrev KT (H:Hp):List (List cb × V)->List (List cb × Addr × Value)->Prop:=Paired fun p q=>p.1=q.1/\H q.2.1=some (.tup (p.1.map kV))/\RelV p.2 q.2.2
theorem KT.val {H:Hp}{kvs:List (List cb × V)}{xs:List (List cb × Addr × Value)}(r:KT H kvs xs)(k:List cb):AW (gU kvs k) ((atKey xs k).map (·.2)):=by
 induction r with
 | nil=>exact True.intro
 | @cons p q ps qs h t ih =>
  obtain⟨h1,_,h2⟩:=h
  by_cases e:p.1=k
  ·have e':q.1=k:=h1.symm.trans e
   have b:atKey (q :: qs) k=some q.2:=by simp[atKey,List.find?_cons,e']
   rw[jn e,b];exact h2
  ·have e':¬ q.1=k:=fun z=>e (h1.trans z)
   have b:atKey (q :: qs) k=atKey qs k:=by simp[atKey,List.find?_cons,e']
   rw[jo e,b];exact ih
theorem KT.Ii {H:Hp}{kvs:List (List cb × V)}{xs:List (List cb × Addr × Value)}(r:KT H kvs xs)(k:List cb){y:V}{u:Value}(ry:RelV y u) :
  KT H (kvs.map fun kv=>if kv.1=k then (kv.1,y) else kv) (xs.map (putAt k u)):=by
 induction r with
 | nil=>exact .nil
 | @cons p q ps qs h t ih =>
  rw[map_cons,map_cons]
  refine .cons ?_ ih
  obtain⟨h1,h2,h3⟩:=h
  unfold putAt
  by_cases e:p.1=k
  ·rw[if_pos e,if_pos (h1.symm.trans e)];exact⟨h1,h2,ry⟩
  ·rw[if_neg e,if_neg (fun z=>e (h1.trans z))];exact⟨h1,h2,h3⟩
theorem KT.put {H:Hp}{kvs:List (List cb × V)}{xs:List (List cb × Addr × Value)}(r:KT H kvs xs)(k:List cb){b:Addr}{y:V}{u:Value}(hb:H b=some (.tup (k.map kV)))(ry:RelV y u) :
  KT H (cK kvs k y) (storedH xs k b u):=by
 have e:(kvs.any fun kv=>decide (kv.1=k))=(atKey xs k).isSome:=by
  rw[jp,(r.val k).BH,Option.isSome_map]
 unfold cK storedH
 rw[e]
 by_cases q:(atKey xs k).isSome=true
 ·rw[if_pos q,if_pos q];exact r.Ii k ry
 ·rw[if_neg q,if_neg q];exact Paired.snoc r ⟨rfl,hb,ry⟩
theorem KT.keeps {H H':Hp}{kvs:List (List cb × V)}{xs:List (List cb × Addr × Value)}(r:KT H kvs xs)(ht:∀ b ys,H b=some (.tup ys)->H' b=some (.tup ys)):KT H' kvs xs :=
 Paired.HH r fun _ _ z=>⟨z.1,ht _ _ z.2.1,z.2.2⟩
section
variable {P:Program}{w:World}{H:Hp}{h:Heap}{a:Addr}
theorem xK {u:HO}(ok:Bl P w H h)(e:Rd H a u):Ap P w H h a u:=e.ok ok
theorem kO {kvs:List (cb × V)}(ok:Bl P w H h)(e:Rd H a (.dK kvs)):kvs.length <= sizeLine/\(a == sysModules)=false/\∃ vs,KV kvs vs/\h.DictOf (aU P w) a vs :=
 show Ap P w H h a (.dK kvs) from xK ok e
theorem vh {kvs:List (cb × V)}(ok:Bl P w H h)(e:H a=some (.dK kvs)):kvs.length <= sizeLine/\(a == sysModules)=false/\∃ vs,KV kvs vs/\h.DictOf (aU P w) a vs:=kO ok (.inl e)
theorem jI {ks:List cb}(ok:Bl P w H h)(e:H a=some (.tup (ks.map kV))):(tupleKind (aU P w)).is h ks a:=by
 obtain⟨_,Ab,r,o,h1,⟨h2,n,h3⟩,_⟩:=(show Ap P w H h a (.tup (ks.map kV)) from ok a _ e)
 exact⟨o,Ab.toArray,n,h1,h2,h3,by simpa using kJ r⟩
theorem kN {kvs:List (List cb × V)}(ok:Bl P w H h)(e:Rd H a (.dT kvs)):kvs.length <= sizeLine/\(a == sysModules)=false /\
  ∃ xs,KT H kvs xs/\h.DictOfH (tupleKind (aU P w)) a xs:=by
 obtain⟨z,y,xs,r,o,es,ep,h1,h2,h3,h4,h5⟩:=(show Ap P w H h a (.dT kvs) from xK ok e)
 refine⟨z,y,xs,r,o,es,ep,h1,h2,h3,h4,fun x hx=>?_,h5⟩
 have all:∀ {l:List (List cb × V)}{m:List (List cb × Addr × Value)},KT H l m->∀ x ∈ m,(tupleKind (aU P w)).is h x.1 x.2.1:=by
  intro l m q
  induction q with
  | nil=>intro x hx;exact nomatch hx
  | @cons p q ps qs hq t ih =>
   intro x hx
   rcases mem_cons.mp hx with e | hx
   ·subst e
    exact jI ok (by rw[← hq.1];exact hq.2.1)
   ·exact ih x hx
 exact all r x hx
theorem Lc {kvs:List (List cb × V)}(ok:Bl P w H h)(e:H a=some (.dT kvs)):kvs.length <= sizeLine/\(a == sysModules)=false /\
  ∃ xs,KT H kvs xs/\h.DictOfH (tupleKind (aU P w)) a xs:=kN ok (.inl e)
end
noncomputable def BW (H:Hp)(a:Addr)(y:V)(r:Option V):Prop :=
 (∃ kvs k,Rd H a (.dK kvs)/\y=kV k/\r=gU kvs k)∨∃ kvs k b,Rd H a (.dT kvs)/\y = .ref b/\H b=some (.tup (k.map kV))/\r=gU kvs k
noncomputable def EJ (H:Hp)(a:Addr)(y v:V)(H':Hp):Prop :=
 (∃ kvs k,H a=some (.dK kvs)/\y=kV k/\kvs.length < sizeLine/\H' = upd H a (.dK (cK kvs k v))) ∨
 ∃ kvs k b,H a=some (.dT kvs)/\y = .ref b/\H b=some (.tup (k.map kV))/\kvs.length < sizeLine/\H' = upd H a (.dT (cK kvs k v))
theorem BW.k {H:Hp}{a:Addr}{kvs:List (cb × V)}{k:cb}(e:H a=some (.dK kvs)):BW H a (kV k) (gU kvs k) := .inl ⟨kvs,k, .inl e,rfl,rfl⟩
theorem EJ.k {H:Hp}{a:Addr}{kvs:List (cb × V)}{k:cb}{v:V}(e:H a=some (.dK kvs))(hl:kvs.length < sizeLine):EJ H a (kV k) v (upd H a (.dK (cK kvs k v))) := .inl ⟨kvs,k,e,rfl,hl,rfl⟩
section
variable {X:Cx}{pins:List (Addr × Obj)}{σ:St}{H:Hp}{s:Shared}{a:Addr}{y v:V}{u r:Value}{o:Option V}{A:Around}{E:Value->Shared->Prop}
theorem Inv.big (I:Inv X pins σ H s):sysModules < s.heap.objs.size:=by
 have h:mainGlobals < s.heap.objs.size:=(I.mod.glob.keeps I.bk).lt
 exact lt_trans (by decide) h
theorem rV {Q:Value->Shared->Prop}(hu:A.units + 1 < cLine)(I:Inv X pins σ H s)(g:BW H a y (some v))(ry:RelV y u)(h:∀ w' s',Inv X pins σ H s'->RelV v w'->Q w' s') :
  wpAny (model X.prog X.w) A (getItem (.ref a) u) Q E s:=by
 rcases g with ⟨kvs,k,e,ey,l⟩ | ⟨kvs,k,b,e,ey,eb,l⟩
 ·subst ey
  obtain⟨z,hd,vs,rel,dd⟩:=kO I.Ad e
  obtain⟨w',hw,Dc⟩:=AW.some_of (v:=v) (o:=valueAt vs k) (by rw[l];exact rel.val k)
  exact wpAny_getItem_of (kI ry) dd.mapOf hw (h w' _ (I.tok _) Dc)
 ·subst ey
  cases (show u=Value.ref b from ry)
  obtain⟨z,hd,xs,rel,dd⟩:=kN I.Ad e
  obtain⟨w',hw,Dc⟩:=AW.some_of (v:=v) (o:=(atKey xs k).map (·.2)) (by rw[l];exact rel.val k)
  obtain⟨p,hp,Ld⟩:=Option.map_eq_some_iff.mp hw
  refine wpAny_getItem_heap (tupleKind_room_in1 hu) (jI I.Ad eb) dd hp ?_
  rw[Ld]
  exact h w' _ (I.tok _) Dc
theorem xk {Q:Value->Shared->Prop}(hu:A.units + 1 < cLine)(I:Inv X pins σ H s)(g:BW H a y o)(ry:RelV y u)(h:∀ s',Inv X pins σ H s'->Q (.bool (!o.isSome)) s') :
  wpAny (model X.prog X.w) A (compareOp .NotIn u (.ref a)) Q E s:=by
 rcases g with ⟨kvs,k,e,ey,l⟩ | ⟨kvs,k,b,e,ey,eb,l⟩
 ·subst ey
  obtain⟨z,hd,vs,rel,dd⟩:=kO I.Ad e
  refine wpAny_notIn_of (kI ry) hd dd.mapOf ?_
  rw[← (rel.val k).BH,← l]
  exact h _ (I.tok _)
 ·subst ey
  cases (show u=Value.ref b from ry)
  obtain⟨z,hd,xs,rel,dd⟩:=kN I.Ad e
  refine wpAny_notIn_heap (tupleKind_room_in1 hu) (jI I.Ad eb) hd dd ?_
  have q:=(rel.val k).BH
  rw[Option.isSome_map]at q
  rw[← q,← l]
  exact h _ (I.tok _)
theorem lU {h':Heap}{t':Nat}{ob:HO}(I:Inv X pins σ H s)(mu:JV (H a))(hs:Heap.SameBut a s.heap h')(he:∃ q,h'.get? a=some q)(new:Ap X.prog X.w (upd H a ob) h' a ob) :
  Inv X pins σ (upd H a ob) { s with heap:=h',toks:=t' } :=
 I.write (x:=a) (e:=a) mu (.inl rfl) (fun b q hb z=>(hs.2 b hb).trans z) he new
theorem vi {P:Program}{w:World}{H':Hp}{h':Heap}{kvs:List (cb × V)}{vs:List (cb × Value)}(z:kvs.length <= sizeLine)(hd:(a == sysModules)=false)(rel:KV kvs vs)(dd:h'.DictOf (aU P w) a vs) :
  Ap P w H' h' a (.dK kvs):=⟨z,hd,vs,rel,dd⟩
theorem rU {H':Hp}{Q:Unit->Shared->Prop}(hu:A.units + 1 < cLine)(I:Inv X pins σ H s)(g:EJ H a y v H')(ry:RelV y u)(rv:RelV v r)(h:∀ s',Inv X pins σ H' s'->Q () s') :
  wpAny (model X.prog X.w) A (setItem (.ref a) u r) Q E s:=by
 rcases g with ⟨kvs,k,e,ey,l,eH⟩ | ⟨kvs,k,b,e,ey,eb,l,eH⟩
 ·subst ey eH
  obtain⟨z,hd,vs,rel,dd⟩:=vh I.Ad e
  have hz:vs.length <= sizeLine:=by rw[← rel.length];exact z
  have hl:(cK kvs k v).length <= sizeLine:=by have:=fH kvs k v;omega
  refine wpAny_setItem_pairs (hsz:=hz) (kI ry) dd fun h' F8 hs=>h _ ?_
  have he:∃ q,h'.get? a=some q:=let ⟨q,_,_,hq,_⟩:=F8; ⟨q,hq⟩
  exact lU I (by rw[e];exact True.intro) hs he (vi hl hd (rel.put k rv) F8)
 ·subst ey eH
  cases (show u=Value.ref b from ry)
  obtain⟨z,hd,xs,rel,dd⟩:=Lc I.Ad e
  have hz:xs.length <= sizeLine:=by rw[← Paired.length rel];exact z
  have hl:(cK kvs k v).length <= sizeLine:=by have:=fH kvs k v;omega
  refine wpAny_setItem_heap (hsz:=hz) (tupleKind_room_in1 hu) (jI I.Ad eb) dd fun h' F8 hs=>h _ ?_
  obtain⟨q,es,ep,hq,h2,h3,h4,_,h5⟩:=F8
  refine lU I (by rw[e];exact True.intro) hs ⟨q,hq⟩ ⟨hl,hd,_,(rel.put k eb rv).keeps fun c ys ec=>?_,q,es,ep,hq,h2,h3,h4,h5⟩
  rw[ae (aX ec e (fun z=>nomatch z))]
  exact ec
end
section
variable {X:Cx}{pins:List (Addr × Obj)}{σ:St}{H:Hp}{s:Shared}{a:Addr}{kvs:List (cb × V)}{k:cb}{u:Value}{A:Around}{E:Value->Shared->Prop}
end
noncomputable def Le (i:Expr):Prop:=∀ ov iv,subscripted i false ov iv=operate [ov,iv] (getItem ov iv)
theorem vJ {prog:Program}{w:World}{A:Around}{E:Value->Shared->Prop}{s:Shared}{env:Env}{value slice:Expr}{pos:Pos}{T id:String}{Q:Value->Shared->Prop}
  (hl:typeLookup (.type T) "__getitem__" = pure (some (.builtin id))) (hs:Le slice)
  (h:wpAny (model prog w) A (eval value env) (fun o s₁=>wpAny (model prog w) A (eval slice env) (fun i s₂=>s₂.TypeIs o T/\wpAny (model prog w) A (getItem o i) Q E s₂) E s₁) E s) :
  wpAny (model prog w) A (eval (.Subscript value slice pos) env) Q E s:=by
 refine Subscript_ (wpAny_mono h (fun o s₁ h₁=>wpAny_mono h₁ (fun i s₂ h₂=>?_) fun _ _ x=>x) fun _ _ x=>x)
 obtain⟨hT,h₂⟩:=h₂
 unfold subscriptTail
 refine wpAny_bind ?_
 rw[getitemInPython_of_ne hT.not_modules]
 refine wpAny_bind (wpAny_specialOf hT hl ?_)
 have fin:wpAny (model prog w) A (subscripted slice false o i) (fun r s₃=>wpAny (model prog w) A (letTemporaryGo value o r >>= fun _=>pure r) Q E s₃) E s₂:=by
  rw[hs o i]
  exact wpAny_operating (wpAny_mono h₂ (fun r s₃ h₃=>wpAny_bind (wpAny_letTemporaryGo (wpAny_pure h₃))) fun _ _ x=>x)
 first
  | exact wpAny_pure (wpAny_bind fin)
  | exact wpAny_bind (wpAny_pure (wpAny_bind fin))
  | exact wpAny_bind fin
theorem nA {X:Cx}{pins:List (Addr × Obj)}{σ:St}{H:Hp}{s:Shared}{a:Addr}{y:V}{o:Option V}(I:Inv X pins σ H s)(g:BW H a y o):s.TypeIs (.ref a) "dict":=by
 rcases g with ⟨kvs,k,e,_,_⟩ | ⟨kvs,k,b,e,_,_,_⟩
 ·obtain⟨_,_,vs,_,dd⟩:=kO I.Ad e
  exact dd.typeIs
 ·obtain⟨_,_,xs,_,dd⟩:=kN I.Ad e
  exact dd.typeIs
noncomputable def Lf (td ty:TE):TE:=fun σ H Q=>td σ H fun x H1=>ty σ H1 fun y H2=>∃ a v,x = .ref a/\BW H2 a y (some v)/\Q v H2
noncomputable def vH (ty td:TE):TE:=fun σ H Q=>ty σ H fun y H1=>td σ H1 fun x H2=>∃ a o,x = .ref a/\BW H2 a y o/\Q (.bl (!o.isSome)) H2
noncomputable def Lg (td ty tv:TE):TS:=fun D σ H=>tv σ H fun v H1=>td σ H1 fun x H2=>ty σ H2 fun y H3=>∃ a H4,x = .ref a/\EJ H3 a y v H4/\D.nx σ H4
section
variable {X:Cx}{o i e value:Expr}{pos pos' Ea:Pos}{td ty tv:TE}
theorem qo (hu:X.A.units + 1 < cLine)(ho:PE X o td)(hi:PE X i ty)(hs:Le i):PE X (.Subscript o i pos) (Lf td ty):=by
 intro pins s σ H Q I h
 refine vJ PySem.F.slot_dict_getitem.lookup hs (aS (ho pins s σ H _ I h) fun u s1 ⟨x,H1,I1,rx,q1⟩=>aS (hi pins s1 σ H1 _ I1 q1) fun iv s2 Aj=>?_)
 obtain⟨y,H2,I2,ry,a,v,ex,g,q2⟩:=Aj
 subst ex
 obtain rfl:u=Value.ref a:=rx
 exact⟨nA I2 g,rV hu I2 g ry fun w' s3 I3 Dc=>⟨v,H2,I3,Dc,q2⟩⟩
theorem rm (hu:X.A.units + 1 < cLine)(hi:PE X i ty)(ho:PE X o td):PC X .NotIn i o (vH ty td):=by
 intro pins s σ H Q I h
 refine aS (hi pins s σ H _ I h) fun iv s1 ⟨y,H1,I1,ry,q1⟩=>aS (ho pins s1 σ H1 _ I1 q1) fun u s2 Aj=>?_
 obtain⟨x,H2,I2,rx,a,ov,ex,g,q2⟩:=Aj
 subst ex
 obtain rfl:u=Value.ref a:=rx
 exact xk hu I2 g ry fun s3 I3=>⟨.bl (!ov.isSome),H2,I3,rfl,q2⟩
theorem wb (hu:X.A.units + 1 < cLine)(ho:PE X o td)(hi:PE X i ty)(hv:PE X value tv)(hs:swapsWith value (some (.Subscript o i pos')) pos.line X.env=pure false) :
  PS X (.Assign [.Subscript o i pos'] value pos) (Lg td ty tv):=by
 intro pins s σ H D I h
 refine wpAny_Assign_Subscript (aS (hv pins s σ H _ I h) fun r s1 ⟨v,H1,I1,rv,q1⟩=>aS (ho pins s1 σ H1 _ I1 q1) fun u s2 ⟨x,H2,I2,rx,q2⟩=>aS (hi pins s2 σ H2 _ I2 q2) fun iv s3 Aj=>?_) hs
 obtain⟨y,H3,I3,ry,a,H4,ex,g,q3⟩:=Aj
 subst ex
 obtain rfl:u=Value.ref a:=rx
 exact rU hu I3 g ry rv fun s4 I4=>⟨σ,H4,I4,q3⟩
end
theorem vj {P:Program}{w:World}{H:Hp}(h:Heap)(hb:sysModules < h.objs.size):Ap P w H (h.push { cls := .type "dict",data := .dict #[] }) h.objs.size (.dK []) :=
 ⟨zero_le _,beq_eq_false_iff_ne.mpr (Ne.symm (ne_of_lt hb)),[], .nil,Heap.DictOf.new h⟩
section
variable {X:Cx}{pos:Pos}
end
noncomputable def oz:List (TE × TE)->St->Hp->(List (V × V)->Hp->Prop)->Prop
 | [],_,H,Q=>Q [] H
 | (tk,tv) :: r,σ,H,Q=>tk σ H fun x H1=>tv σ H1 fun y H2=>oz r σ H2 fun ps H3=>Q ((x,y) :: ps) H3
noncomputable abbrev VV:List (V × V)->List (Value × Value)->Prop:=Paired fun p q=>RelV p.1 q.1/\RelV p.2 q.2
noncomputable def OU (X:Cx)(pos:Pos)(keys:List (Option Expr))(values:List Expr)(F9:List (TE × TE)):Prop :=
 ∀ (pins:List (Addr × Obj))(s:Shared)(σ:St)(H:Hp)(Q:List (V × V)->Hp->Prop),Inv X pins σ H s->oz F9 σ H Q ->
  wpAny (model X.prog X.w) X.A (evalPairs (pairTrees keys values X.env pos)) (fun vs s'=>∃ ps H',Inv X pins σ H' s'/\VV ps vs/\Q ps H') X.xe s
theorem wc {X:Cx}{pos:Pos}:OU X pos [] [] []:=fun pins s σ H Q I h=>pairTrees_nil_walk ⟨[],H,I, .nil,h⟩
theorem uf {X:Cx}{pos:Pos}{k v:Expr}{ks:List (Option Expr)}{vs:List Expr}{tk tv:TE}{F9:List (TE × TE)}(hk:PE X k tk)(hv:PE X v tv)(hr:OU X pos ks vs F9) :
  OU X pos (some k :: ks) (v :: vs) ((tk,tv) :: F9):=fun pins s σ H Q I h =>
 pairTrees_cons_walk (aS (hk pins s σ H _ I h) fun u s1 ⟨x,H1,I1,rx,q1⟩=>aS (hv pins s1 σ H1 _ I1 q1) fun w2 s2 ⟨y,H2,I2,ry,q2⟩ =>
  aS (hr pins s2 σ H2 _ I2 q2) fun ws s3 ⟨ps,H3,I3,rel,q3⟩=>⟨(x,y) :: ps,H3,I3, .cons ⟨rx,ry⟩ rel,q3⟩)
noncomputable def fE (kvs more:List (cb × V)):List (cb × V):=more.foldl (fun acc kv=>cK acc kv.1 kv.2) kvs
theorem KV.merge:∀ {more:List (cb × V)}{rs:List (cb × Value)}{kvs:List (cb × V)}{vs:List (cb × Value)},KV more rs->KV kvs vs->KV (fE kvs more) (merged vs rs):=by
 intro more rs kvs vs r
 unfold KV at r
 induction r generalizing kvs vs with
 | nil=>intro q;exact q
 | @cons p q ps qs h t ih =>
  intro r0
  have e:KV (cK kvs p.1 p.2) (stored vs q.1 q.2):=by
   have:=r0.put p.1 h.2
   rw[← h.1];exact this
  exact ih e
theorem gc:∀ (more kvs:List (cb × V)),(fE kvs more).length <= kvs.length + more.length
 | [],kvs=>by show kvs.length <= kvs.length + 0;omega
 | p :: r,kvs=>by
  have h1:=gc r (cK kvs p.1 p.2)
  have h2:=fH kvs p.1 p.2
  show(fE (cK kvs p.1 p.2) r).length <= _
  rw[length_cons];omega
theorem jV {P:Program}{w:World}:∀ {kvs:List (cb × V)}{ws:List (Value × Value)},VV (kvs.map fun kv=>(kV kv.1,kv.2)) ws->∃ rs,Carries (aU P w) ws rs/\KV kvs rs
 | [],_,r=>by rw[map_nil]at r;cases r;exact⟨[],True.intro, .nil⟩
 | p :: kvs,_,r=>by
  rw[map_cons]at r
  cases r with
  | @cons a b as bs h t =>
   obtain⟨rs,c,q⟩:=jV (P:=P) (w:=w) t
   obtain⟨b1,b2⟩:=b
   exact⟨(p.1,b2) :: rs,⟨kI h.1,rfl,c⟩, .cons ⟨rfl,h.2⟩ q⟩
noncomputable def Lh (F9:List (TE × TE)):TE:=fun σ H Q=>∀ p,H p=none->oz F9 σ (upd H p (.dK [])) fun ps H2=>H2 p=some (.dK [])/\∃ kvs:List (cb × V),ps=kvs.map (fun kv=>(kV kv.1,kv.2))/\kvs.length <= 15/\Q (.ref p) (upd H2 p (.dK (fE [] kvs)))
theorem wf {X:Cx}{pos:Pos}{keys:List (Option Expr)}{values:List Expr}{F9:List (TE × TE)}(h:OU X pos keys values F9)(Bt:keys.all (·.isSome)=true)(hl:keys.length=values.length)(h0:keys ≠ [])
  (h15:keys.length <= 15):PE X (.Dict keys values pos) (Lh F9):=by
 intro pins s σ H Q I q
 have hn:=I.Ad.fresh (le_refl s.heap.objs.size)
 have I1:=I.laid (a:=s.heap.objs.size) (o := .dK []) (h':=s.heap.push { cls := .type "dict",data := .dict #[] }) (t':=s.toks) (fun _ _ q=>Heap.get?_push_of_some _ q) (le_refl _) (vj s.heap I.big)
 refine wpAny_Dict_walk (knd:=aU X.prog X.w) Bt hl h0 h15 (aS (h pins _ σ _ _ I1 (q _ hn)) fun ws s2 Aj=>?_)
 obtain⟨ps,H2,I2,rel,e,kvs,ep,lk,q2⟩:=Aj
 subst ep
 obtain⟨rs,c,rk⟩:=jV (P:=X.prog) (w:=X.w) rel
 obtain⟨z,hd,Ez,r0,dd⟩:=vh I2.Ad e
 cases r0
 refine⟨rs,c,dd,fun h' F8 hs=>⟨.ref s.heap.objs.size,_,?_,rfl,q2⟩⟩
 have hz:(fE [] kvs).length <= sizeLine:=by
  have h1:=gc kvs []
  rw[length_nil]at h1
  rw[sizeLine_eq];omega
 have he:∃ q,h'.get? s.heap.objs.size=some q:=let ⟨q,_,_,hq,_⟩:=F8; ⟨q,hq⟩
 exact lU I2 (by rw[e];exact True.intro) hs he (vi hz hd (rk.merge .nil) F8)
structure M1 (X:Cx)(o:Expr)(m:Str)(apos:Pos)(e:Expr)(AN:Pos):Prop where
 base:attributeBase o m X.env (eval o X.env)=eval o X.env
 AZ:((backTo AN (starEach [e] X.env)).all (fun x=>!x.1) && (backToKw AN (keywordEach [] X.env)).all (fun x=>x.1.isSome)
  && decide (([e]:List Expr).length + ([]:List Keyword).length + (if ([]:List Keyword).isEmpty then 0 else 1) < 30))=true
 line:(apos.endLine == AN.line)=true
 trees:backTo AN (starEach [e] X.env)=[(false,eval e X.env)]
noncomputable def WC (H:Hp)(a:Addr):Prop:=(∃ kvs,Rd H a (.dK kvs))∨∃ kvs,Rd H a (.dT kvs)
theorem zx {X:Cx}{pins:List (Addr × Obj)}{σ:St}{H:Hp}{s:Shared}{a:Addr}(I:Inv X pins σ H s)(d:WC H a) :
  s.TypeIs (.ref a) "dict"/\(∀ b,Value.ref a = .ref b->∃ ob,s.heap.get? b=some ob/\ob.dict=none)/\(a == sysModules)=false:=by
 rcases d with ⟨kvs,e⟩ | ⟨kvs,e⟩
 ·obtain⟨_,hd,vs,_,dd⟩:=kO I.Ad e
  refine⟨dd.typeIs,fun b q=>?_,hd⟩
  cases q
  obtain⟨ob,_,_,h1,h2,_⟩:=dd
  exact⟨ob,h1,h2.2.1⟩
 ·obtain⟨_,hd,xs,_,dd⟩:=kN I.Ad e
  refine⟨dd.typeIs,fun b q=>?_,hd⟩
  cases q
  obtain⟨ob,_,_,h1,h2,_⟩:=dd
  exact⟨ob,h1,h2.2.1⟩
section
variable {X:Cx}{pins:List (Addr × Obj)}{σ:St}{H:Hp}{s:Shared}{a:Addr}{y d:V}{u r:Value}{o:Option V}{A:Around}{E:Value->Shared->Prop}
theorem zG {Q:Value->Shared->Prop}(hu:A.units + 1 < cLine)(I:Inv X pins σ H s)(g:BW H a y o)(ry:RelV y u)(h:∀ w' s',Inv X pins σ H s'->RelV (o.getD .An) w'->Q w' s') :
  wpAny (model X.prog X.w) A (call (.builtin "dict.get") [.ref a,u]) Q E s:=by
 rcases g with ⟨kvs,k,e,ey,l⟩ | ⟨kvs,k,b,e,ey,eb,l⟩
 ·subst ey
  obtain⟨z,hd,vs,rel,dd⟩:=kO I.Ad e
  refine call_meetsIn slot_dict_get dd.typeIs entry_dict_get (PySem.F.args_dict_get_2 _ _) (meets_dict_get (aU X.prog X.w) a (kI ry) hd) ⟨_,dd.mapOf,h _ _ (I.tok _) ?_⟩
  rw[l]
  exact(rel.val k).getD rfl
 ·subst ey
  cases (show u=Value.ref b from ry)
  obtain⟨z,hd,xs,rel,dd⟩:=kN I.Ad e
  refine call_meetsIn slot_dict_get dd.typeIs entry_dict_get (PySem.F.args_dict_get_2 _ _) (meetsH_dict_get (tupleKind (aU X.prog X.w)) a b hd) ⟨tupleKind_room_in1 hu,k,xs,jI I.Ad eb,dd,h _ _ (I.tok _) ?_⟩
  rw[l]
  exact(rel.val k).getD rfl
end
noncomputable def yi (td ty:TE):TE:=fun σ H Q=>td σ H fun x H1=>∃ a,x = .ref a/\WC H1 a/\ty σ H1 fun y H2=>∃ o,BW H2 a y o/\Q (o.getD .An) H2
section
variable {X:Cx}{o e f:Expr}{apos AN:Pos}{td ty tx:TE}
theorem uh (hu:X.A.units + 1 < cLine)(ho:PE X o td)(he:PE X e ty)(m:M1 X o "get" apos e AN):PE X (.Call (.Attribute o "get" apos) [e] [] AN) (yi td ty):=by
 intro pins s σ H Q I h
 refine wpAny_Call_method m.base m.AZ m.line PySem.F.plainAttrs_dict slot_dict_get PySem.F.type_dict_get (aS (ho pins s σ H _ I h) fun u s1 Aj=>?_)
 obtain⟨x,H1,I1,rx,a,ex,d,q1⟩:=Aj
 subst ex
 obtain rfl:u=Value.ref a:=rx
 obtain⟨t1,t2,_⟩:=zx I1 d
 refine⟨t1,t2,?_⟩
 rw[m.trees]
 refine Calls.callWith_builtin rfl (Calls.evalArgs_plain (Calls.spliced_cons (aS (he pins s1 σ H1 _ I1 q1) fun iv s2 ⟨y,H2,I2,ry,ov,g,q2⟩=>Calls.spliced_nil ?_)))
 exact zG hu I2 g ry fun w' s3 I3 Dc=>⟨_,H2,I3,Dc,q2⟩
end
section
variable {X:Cx}{pins:List (Addr × Obj)}{σ:St}{H:Hp}{s:Shared}{a:Addr}{kvs:List (cb × V)}{A:Around}{E:Value->Shared->Prop}
end
section
variable {X:Cx}{pins:List (Addr × Obj)}{σ:St}{H:Hp}{s:Shared}{a:Addr}{y:V}{u:Value}{A:Around}{E:Value->Shared->Prop}
end
end L2
namespace L2
open PySem PySem.Spec PyProof.Rows
section
variable {X:Cx}
end
section
variable {κ:Type} [DecidableEq κ]
end
end L2
namespace L2
open PySem PySem.Spec PyProof.Rows
theorem wW {P:Program}{w:World}{k:cb}{u:Value}(h:(aU P w).is k u=true):RelV (kV k) u:=by
 rcases b0 (show jJ k u=true from h) with ⟨i,t,rfl,rfl⟩ | ⟨x,t,rfl,rfl⟩
 ·exact⟨t,rfl⟩
 ·exact⟨t,rfl⟩
noncomputable def DcO (P:Program)(w:World)(o:Obj)(kvs:List (cb × V))(ep:Nat):Prop:=∃ vs es,KV kvs vs/\o.ExactDict/\o.data = .dict es ep/\KeysOf (aU P w) es/\Pairs (aU P w) es.toList vs/\(vs.map (·.1)).Nodup
noncomputable def Li (a:Addr)(o:Obj)(kvs:List (cb × V)):It :=
 ⟨fun i H=>H a=some (.BK o (.dK kvs))/\i < kvs.length,fun i H x H'=>H' = H/\∃ k,(kvs.map (·.1))[i]? = some k/\x=kV k,fun i H=>H a=some (.BK o (.dK kvs))/\i=kvs.length⟩
theorem Inv.GL {X:Cx}{pins:List (Addr × Obj)}{σ:St}{H:Hp}{s:Shared}{a:Addr}{o:Obj}{u:HO}(I:Inv X pins σ H s)(ha:H a=some (.BK o u)):s.heap.get? a=some o:=(I.Ad a _ ha).1
theorem qV {P:Program}{w:World}{K:Frag}{tg:Expr}(a it:Addr)(o:Obj)(kvs:List (cb × V))(ep:Nat)(hD:DcO P w o kvs ep):nZ P w K tg (Li a o kvs) [it] it (fun i h=>h.IsKeyIter it a i kvs.length ep) where
 mem:=by simp
 obj:=fun i h st b hb=>by
  have e:b=it:=by simpa using hb
  subst e
  obtain⟨ob,e,c,d⟩:=st
  exact⟨ob,e,fun v z=>by rw[d]at z;cases z⟩
 keep:=fun i h h' st k=>by
  obtain⟨ob,e,c,d⟩:=st
  exact⟨ob,k it (by simp) ob e,c,d⟩
 item:=by
  intro X hP hw hK hc i pins s σ H E I hf st hg
  subst hP hw hK
  obtain⟨ha,hi⟩:=hg
  obtain⟨vs,es,rel,d1,d2,d3,d4,d5⟩:=hD
  obtain⟨f0,f1,f2,f3,f4,f5⟩:=hf it (by simp)
  have hl:=rel.length
  have hv:vs[i]? = some (vs[i]'(by omega)):=List.getElem?_eq_getElem (by omega)
  have st:s.heap.IsKeyIter it a i vs.length ep:=by rw[← hl];exact st
  refine wpAny_pyNext_dict_item (knd:=aU X.prog X.w) (k:=(vs[i]'(by omega)).1) (v:=(vs[i]'(by omega)).2) st ⟨o,es,I.GL ha,d1,d2,d3,d4,d5⟩ hv fun key h' hk Ep sb=>?_
  rw[← hl]at Ep
  have I1:Inv X pins σ H { s with heap:=h' }:=I.turned (t':=s.toks) (fun b o hb e=>(sb.2 b hb).trans e) f0 f1 f3 f4 f5
  obtain⟨ob,e,c,d⟩:=id Ep
  exact⟨key,rfl,qJ (s:={ s with heap:=h' }) e c d (by decide) ⟨_,H,I1,wW hk,⟨rfl,_,by rw[rel.keys,List.getElem?_map,hv];rfl,rfl⟩,Ep,fun b hb=>(hf b hb).1⟩⟩
 done:=by
  intro X hP hw hK hc i pins s σ H E I hf st hg
  subst hP hw hK
  obtain⟨ha,rfl⟩:=hg
  obtain⟨vs,es,rel,d1,d2,d3,d4,d5⟩:=hD
  obtain⟨f0,f1,f2,f3,f4,f5⟩:=hf it (by simp)
  have hl:=rel.length
  have st:s.heap.IsKeyIter it a vs.length vs.length ep:=by rw[← hl];exact st
  exact wpAny_pyNext_dict_end (knd:=aU X.prog X.w) (I.ok.hd hc) st ⟨o,es,I.GL ha,d1,d2,d3,d4,d5⟩ (List.getElem?_eq_none (le_refl _)) fun h' eb=>⟨rfl,I.turned (t':=s.toks) (fun b o hb e=>eb b o hb e) f0 f1 f3 f4 f5⟩
 self:=fun _ _ _ _ _ st h=>wpAny_pyIter_keyiter st h
section
variable {X:Cx}{tg:Expr}
noncomputable def Lj (tl:TE):TI:=fun σ H R=>tl σ H fun x H1=>∃ a kvs,x = .ref a/\H1 a=some (.dK kvs)/\∀ o,R (Li a o kvs) (upd H1 a (.BK o (.dK kvs)))
theorem we {l:Expr}{tl:TE}(hl:PE X l tl):PI X tg l (Lj tl):=by
 intro pins s σ H R I h
 refine aS (hl pins s σ H _ I h) fun v s1 Aj=>?_
 obtain⟨x,H1,I1,r1,q1⟩:=Aj
 obtain⟨a,kvs,e,ha,q⟩:=q1
 subst e
 cases r1
 obtain⟨z,hd,vs,rel,o,es,ep,eo,d1,d2,d3,d4,d5⟩:=vh I1.Ad ha
 have I2:Inv X pins σ (upd H1 a (.BK o (.dK kvs))) s1:=I1.write (x:=a) (e:=a) (h':=s1.heap) (t':=s1.toks) (by rw[ha];trivial) (.inl rfl) (fun b u _ q=>q) ⟨_,eo⟩ ⟨eo,z,hd,vs,rel,o,es,ep,eo,d1,d2,d3,d4,d5⟩
 refine wpAny_pyIter_dict (knd:=aU X.prog X.w) hd ⟨o,es,eo,d1,d2,d3,d4,d5⟩ ?_
 refine⟨s1.heap.objs.size,[s1.heap.objs.size],_,_,_,rfl,I2.kept (t':=s1.toks) fun b o e=>Heap.get?_push_of_some _ e,qV a _ o kvs ep ⟨vs,es,rel,d1,d2,d3,d4,d5⟩,⟨_,Heap.get?_push_size _ rfl,rfl,by rw[rel.length];rfl⟩,fun b hb=>?_,q o⟩
 have e:b=s1.heap.objs.size:=by simpa using hb
 subst e
 exact I2.DY (le_refl _) (I2.Ad.fresh (le_refl _))
theorem vb {a:Addr}{o:Obj}{kvs:List (cb × V)}{g:TG}{tb:TS}{D:lZ}{σ:St}{H:Hp}(Pv:Nat->St->Hp->Prop)(h0:Pv 0 σ H)(hl:∀ i σ H,i <= kvs.length->Pv i σ H->H a=some (.BK o (.dK kvs)))
  (hs:∀ i k σ H,(kvs.map (·.1))[i]? = some k->Pv i σ H->g (kV k) σ H fun σ2 H2=>tb { D with nx:=Pv (i + 1),ct:=Pv (i + 1),bk:=D.nx } σ2 H2) (hd:∀ σ H,Pv kvs.length σ H->D.nx σ H) :
  ∃ W:Nat->Nat->St->Hp->Prop,(∃ m,W 0 m σ H)/\∀ i m σ H,W i m σ H ->
   ((Li a o kvs).stop i H/\D.nx σ H)∨((Li a o kvs).go i H/\∃ N:St->Hp->Prop,(∀ σ' H',N σ' H'->∃ m',m' < m/\W (i + 1) m' σ' H')/\∀ x H',(Li a o kvs).Fi i H x H'->g x σ H' fun σ2 H2=>tb { D with nx:=N,ct:=N,bk:=D.nx } σ2 H2):=by
 refine⟨fun i m σ H=>m=kvs.length - i/\i <= kvs.length/\Pv i σ H,⟨kvs.length,by simp,zero_le _,h0⟩,?_⟩
 rintro i m σ H ⟨rfl,hi,p⟩
 have q:=hl i σ H hi p
 by_cases AU:i < kvs.length
 ·refine .inr ⟨⟨q,AU⟩,Pv (i + 1),fun σ' H' p'=>⟨kvs.length - (i + 1),by omega,rfl,AU,p'⟩,fun x H' y=>?_⟩
  obtain⟨e,k,hk,ex⟩:=y
  subst e ex
  exact hs i k σ _ hk p
 ·have e:i=kvs.length:=by omega
  subst e
  exact .inl ⟨⟨q,rfl⟩,hd σ H p⟩
end
end L2
namespace L2
open PySem PySem.Spec PyProof.Rows
section
variable {X:Cx}
end
end L2
namespace L2
open PySem
section
variable {X:Cx}
noncomputable def sy (t:TS):TS:=fun D σ H=>∃ BX:St->Hp->Prop,t { D with nx:=BX } σ H/\∀ σ' H',BX σ' H'->D.nx σ' H'
theorem im {st:Stmt}{t:TS}(h:PS X st t):PS X st (sy t):=fun pins s σ H D I ⟨BX,q,k⟩ =>
 aS (h pins s σ H _ I q) fun f s1 z=>by
  cases f with
  | next=>obtain⟨σ1,H1,I1,p⟩:=z;exact⟨σ1,H1,I1,k _ _ p⟩
  | brk=>exact z
  | cont=>exact z
  | ret u=>exact z
noncomputable def yg (t:TE):TE:=fun σ H Q=>∃ BX:V->Hp->Prop,t σ H BX/\∀ v H',BX v H'->Q v H'
theorem jg {e:Expr}{t:TE}(h:PE X e t):PE X e (yg t):=fun pins s σ H Q I ⟨BX,q,k⟩ =>
 aS (h pins s σ H _ I q) fun u s1 ⟨v,H1,I1,r,p⟩=>⟨v,H1,I1,r,k v H1 p⟩
noncomputable def yf (t:TT):TT:=fun σ H Q=>∃ BX:Bool->Hp->Prop,t σ H BX/\∀ b H',BX b H'->Q b H'
theorem jf {e:Expr}{t:TT}(h:PT X e t):PT X e (yf t):=fun pins s σ H Q I ⟨BX,q,k⟩ =>
 aS (h pins s σ H _ I q) fun b s1 ⟨H1,I1,p⟩=>⟨H1,I1,k b H1 p⟩
end
end L2
namespace L2
open PySem PySem.Spec PyProof.Rows
end L2
namespace L2
open PySem PySem.Spec PyProof.Rows
theorem nv:∀ {ns:List Int}{us:List Value},Vals (ns.map V.int) us->IntsAre us ns
 | [],_, .nil => .nil
 | n :: ns,_, .cons r t=>by
  obtain⟨tk,e⟩:=(show ∃ t,_=Value.int n t from r)
  subst e
  exact .cons n tk (nv t)
theorem nN {X:Cx}(hc:X.calm=true):eD X (.builtin "sum") (fun xs H Q=>∃ (p:Addr)(ns:List Int),xs=[.ref p]/\Aa X.K H p (ns.map V.int)/\Q (.int ns.sum) H):=by
 intro pins s σ H xs us Q I r h
 obtain⟨p,ns,rfl,hq,q⟩:=h
 obtain⟨u,rfl,rx⟩:=ky r
 cases rx
 obtain⟨Ab,rv,pl,hz⟩:=I.list hq
 have hi:=nv rv
 obtain⟨xs,hx⟩:=hi.allInts.items
 have DD:s.heap.IsList p (intItems xs):=hx ▸ pl.isList
 refine sum_intListG (I.ok.hd hc) DD fun h' tk t' hk=>?_
 have e1:ns=xs.toList.map (·.1):=by
  rw[← nums_intItems,← hx]
  exact(show numsOf Ab.toArray.toList=ns from hi.numsOf).symm
 have e2:preSum (numAt xs) xs.size=ns.sum:=by
  rw[preSum_eq,take_of_length_le (by simp),e1]
 rw[e2]
 exact⟨.int ns.sum,H,I.kept hk,⟨_,rfl⟩,q⟩
end L2
namespace L2
open PySem PySem.Spec PyProof.Rows
structure Ed (K:Frag)(x qual:Str)(st:Stmt)(f:Addr)(fd:FuncData):Prop where
 ex:∃ (oc:Value)(od:Option Addr)(dV kV doc pm:Value)(an:Option Addr)(cdv ct:Value)(DB:Array (Option Value)),
  fd=fnOf x qual (bO st) (aG st) (ai st) dV kV doc pm an cdv ct/\K.lookup f=some ⟨oc,od, .func fd,DB⟩/\codeIn K cdv qual=true
 kp:keepIn K (.ref f)=true
section
variable {P:Program}{w:World}{K:Frag}{mg:Str->Option Value}{base:Heap}
theorem Ed.Fl {x qual:Str}{st:Stmt}{f:Addr}{fd:FuncData}{N ps:List Str}{k:Nat}{sp:Sp}(F:Ed K x qual st f fd)(S:ao N ps (ai st))(len:∀ vs H Q E,sp vs H Q E->vs.length=ps.length)
  (Ck:∀ (cdv:Value)(A:Around)(outer:List Env)(s:Shared)(H:Hp)(vs:List V)(Q:VK)(E:XK),Ah k (A.deeper (envOfC qual (ai st) s.heap.objs.size f cdv))->sp vs H Q E ->
   ∃ t,Cy (iZ (eE P w) P w K mg base N qual (ai st) f cdv A outer s H E) (aG st) t/\t { nx:=fun _ H'=>Q .An H',rt:=Q } (start N vs) H):zX P w K mg base (eE P w) (k + 1) f fd ps sp:=by
 obtain⟨oc,od,dV,kV,doc,pm,an,cdv,ct,DB,rfl,lk,D7⟩:=F.ex
 exact vc lk D7 S len fun A outer s H vs Q E hr Et=>Ck cdv A outer s H vs Q E hr Et
end
end L2
namespace L2
open PySem PySem.Spec PyProof.Rows
noncomputable def vW (K:Frag):R2:=fun x y H Q=>∃ (p:Addr)(vs:List V)(d:PyData)(ds:List PyData),y = .ref p/\ke K H x d/\Aa K H p vs/\gN K H vs ds/\BD d 8/\(∀ z ∈ ds,BD z 8)/\Q (.bl (!(ds.any fun y=>PyData.eqv y d))) H
theorem rn {X:Cx}(hu:X.A.units + 64 < cLine):eW X (compareOp .NotIn) (vW X.K):=by
 intro pins s σ H x y v u Q I rx ry h
 obtain⟨p,vs,d,ds,rfl,h1,h2,h3,s1,s2,q⟩:=h
 obtain⟨as,r1⟩:=I.den (.lst h2 h3) ry
 obtain⟨bs,r2⟩:=I.den h1 rx
 refine SeqAt.notIn_list_reads r1 r2 (lr s2).1 s1.1 ?_ ⟨.bl _,H,I,rfl,q⟩
 have:=s1.2
 have:=Nat.min_le_right (PyData.depthAll ds) d.depth
 omega
noncomputable def Lk (K:Frag):R2:=fun x y H Q=>∃ a b xs ys,x = .ref a/\y = .ref b/\Af K H a xs/\Af K H b ys/\ys ≠ []/\xs.length + ys.length <= sizeLine /\
 (xs=[]->Q (.ref b) H)/\(xs ≠ []->∀ p,H p=none->Q (.ref p) (upd H p (.tup (xs ++ ys))))
theorem wm {X:Cx}:eW X (binaryOp .Add) (Lk X.K):=by
 intro pins s σ H x y v u Q I rx ry h
 obtain⟨a,b,xs,ys,rfl,rfl,ha,hb,hy,hz,q1,q2⟩:=h
 by_cases hx:xs=[]
 ·cases rx
  cases ry
  obtain⟨Ab,r1,p1,_⟩:=I.tuple ha
  obtain⟨C0,r2,p2,_⟩:=I.tuple hb
  have e1:Ab=[]:=r1.Cf.mpr hx
  obtain⟨⟨cls,dd,data,sl⟩,ho,hc,n,hd⟩:=id p1
  obtain⟨⟨QJ,OH,data2,Jr⟩,BG,CZ,n2,hd2⟩:=id p2
  simp only at hc hd CZ hd2
  subst hc hd CZ hd2
  exact concat_meets ⟨_,ho,rfl⟩ ⟨_,BG,rfl⟩ noFill_tuple_add seq_tuple_add slot_tuple_add entry_tuple_add (args_tuple_add_2 _ _)
   (tuple_addW0 a b Ab.toArray C0.toArray n n2 dd OH sl Jr (by simp[e1])) ⟨ho,BG,⟨.ref b,H,I,rfl,q1 hx⟩⟩
 ·exact wl pins s σ H _ _ v u Q I rx ry ⟨a,b,xs,ys,rfl,rfl,ha,hb,hx,hz,fun z=>absurd z hy,fun _=>q2 hx⟩
end L2
namespace L2
open PySem
theorem gR {M:Model} {Γ:Ctx} {env:Env} {b:List Stmt} {Q:Flow->Pos->Shared->Prop} {E:Value->Pos->Shared->Prop}:∀ {a:List Stmt}{p:Pos}{s:Shared},
  Sem.wp M Γ (execs a env) (fun f p' s'=>match f with | .next=>Sem.wp M Γ (execs b env) Q E p' s' | f=>Q f p' s') E p s->Sem.wp M Γ (execs (a ++ b) env) Q E p s
 | [],_,_,h=>h
 | st :: a,p,s,h=>by
  rw[execs_cons,Sem.wp_bind']at h
  rw[List.cons_append,execs_cons,Sem.wp_bind']
  refine Sem.wp_mono M Γ _ (fun f p' s' h'=>?_) (fun _ _ _ h'=>h') _ _ h
  cases f with
  | next=>exact gR (a:=a) h'
  | brk=>exact h'
  | cont=>exact h'
  | ret u=>exact h'
section
variable {X:Cx}
theorem vZ {a b:List Stmt}{t u:TS}(h1:Cy X a t)(h2:Cy X b u):Cy X (a ++ b) (yd (sy t) u):=by
 intro pins s σ H D I h
 obtain⟨BX,q,k⟩:=h
 intro Γ p hΓ
 refine gR ?_
 refine Sem.wp_mono _ Γ _ (fun f p' s' z=>?_) (fun _ _ _ z=>z) _ _ (h1 pins s σ H _ I q Γ p hΓ)
 cases f with
 | next=>obtain⟨σ1,H1,I1,z⟩:=z;exact h2 pins s' σ1 H1 D I1 (k _ _ z) Γ p' hΓ
 | brk=>exact z
 | cont=>exact z
 | ret u=>exact z
theorem j7 {ss:List Stmt}{t u:TS}(n:Nat)(h1:Cy X (ss.take n) t)(h2:Cy X (ss.drop n) u):Cy X ss (yd (sy t) u):=by
 have h:=vZ h1 h2
 rwa [List.take_append_drop]at h
end
end L2
namespace L2
open PySem
theorem bK {J:It}{g:TG}{tt:TT}{te:TE}{σ0:St}{H:Hp}{Q:VK}(n:Nat)(hn:n < sizeLine)(W:Nat->List V->Hp->Prop)(h0:W 0 [] H)(hlen:∀ i acc H',W i acc H'->acc.length <= i)
  (turn:∀ i acc H',i < n->W i acc H'->J.go i H'/\∀ x H2,J.Fi i H' x H2->g x σ0 H2 fun σ2 H3=>tt σ2 H3 fun b H4=>if b=true then te σ2 H4 fun y H5=>W (i + 1) (acc ++ [y]) H5 else W (i + 1) acc H4)
  (stop:∀ acc H',W n acc H'->J.stop n H'/\∀ D,H' D=none->Q (.ref D) (upd H' D (.lst acc))):dE J g tt te σ0 Q H:=by
 refine⟨fun i m acc H'=>m=n - i/\i <= n/\W i acc H',⟨n,by simp,zero_le _,h0⟩,?_⟩
 rintro i m acc H' ⟨rfl,hi,w⟩
 refine⟨by have:=hlen i acc H' w;omega,?_⟩
 by_cases AU:i < n
 ·obtain⟨go,q⟩:=turn i acc H' AU w
  exact .inr ⟨go,fun AY H2=>W (i + 1) AY H2,fun AY H2 w2=>⟨n - (i + 1),by omega,rfl,AU,w2⟩,q⟩
 ·have e:i=n:=by omega
  subst e
  exact .inl (stop acc H' w)
theorem zW.new {H H':Hp}{a:Addr}{o:HO}(h:zW H H')(n:H' a=none):zW H (upd H' a o):=fun b u e=>by rw[ae (ag (h _ _ e) n)];exact h _ _ e
end L2
namespace L2
open PySem
theorem Ax {N P:List Str}{sc:Scope}(a:sc.kind = .function:=by rfl)(b:sc.isCoroutine=false:=by rfl)(c:sc.isGenerator=false:=by rfl)(d:N.Nodup:=by decide +kernel)(e:N.take P.length=P:=by rfl)(f:∀ x ∈ P,sc.names.lookup x=some .local∨sc.names.lookup x=some .cell:=by decide +kernel)(g:∀ y ∈ sc.names,y.2 ≠ .free:=by decide +kernel):ao N P sc:=⟨a,b,c,d,e,f,g⟩
theorem BI {N:List Str}{sc scope:Scope}{capN:List Str}{cap:List Nat}(a:scope.kind = .function:=by rfl)(b:∀ y ∈ scope.names,y.2 ≠ .cell:=by decide +kernel)(c:∀ y ∈ scope.names,y.2 = .local->scope.names.lookup y.1=some .local:=by decide +kernel)(d:∀ y ∈ scope.names,y.2 = .free->sc.names.lookup y.1=some .cell∨sc.names.lookup y.1=some .free:=by decide +kernel)(e:cap.length=capN.length:=by rfl)(f:∀ p ∈ capN.zip cap,scope.names.lookup p.1=some .free/\N[p.2]? = some p.1:=by decide +kernel):Ba N sc scope capN cap:=⟨a,b,c,d,e,f⟩
end L2
namespace K50
open PySem L2
variable {P:Program}{w:World}{K:Frag}{mg:Str->Option Value}{base:Heap}
noncomputable def bT (i:Nat):Stmt:=PySem.Challenge.pw_wormyard_k50_twins.main.body.getD i (.Pass ⟨0,0,0,0⟩)
noncomputable abbrev OV:Stmt:=ay (bT 3) 0
noncomputable abbrev OW:Stmt:=ay (bT 4) 0
noncomputable abbrev OX:Stmt:=ay (bT 5) 0
noncomputable abbrev vS:Stmt:=ay (bT 10) 0
noncomputable abbrev y8:Stmt:=ay (bT 14) 0
noncomputable abbrev tJ:Stmt:=ay (bT 14) 1
noncomputable abbrev y1:Stmt:=ay (bT 14) 2
noncomputable abbrev oR:Stmt:=ay (bT 14) 3
noncomputable abbrev tF:Stmt:=ay (bT 14) 4
noncomputable abbrev oU:Stmt:=ay (bT 14) 5
noncomputable abbrev y6:Stmt:=ay (bT 14) 6
noncomputable abbrev y4:Stmt:=ay (bT 14) 7
noncomputable abbrev vT:Stmt:=bT 16
noncomputable abbrev tL:Stmt:=bT 17
noncomputable abbrev yz:Stmt:=bT 18
noncomputable abbrev gr:Stmt:=bT 20
noncomputable abbrev jd:Stmt:=bT 21
noncomputable abbrev y2:Stmt:=bT 22
noncomputable abbrev yw:Stmt:=bT 26
noncomputable abbrev mJ:Stmt:=ay (bT 27) 0
noncomputable abbrev oJ:Stmt:=ay (bT 27) 1
noncomputable abbrev yD:Stmt:=ay (bT 27) 2
noncomputable abbrev tI:Stmt:=ay (bT 27) 3
noncomputable abbrev mI:Stmt:=ay (bT 27) 4
noncomputable abbrev mK:Stmt:=bT 29
noncomputable abbrev Rz:Stmt:=bT 30
noncomputable abbrev yy:Stmt:=ay (bT 31) 0
noncomputable abbrev tE:Stmt:=ay (bT 32) 0
noncomputable abbrev oH:Stmt:=ay (bT 32) 1
noncomputable abbrev gs:Stmt:=bT 37
noncomputable abbrev t7:Stmt:=bT 38
noncomputable abbrev mH:Stmt:=bT 39
noncomputable abbrev tP:Stmt:=ay (bT 40) 0
noncomputable abbrev tN:Stmt:=ay (bT 40) 1
noncomputable abbrev iE:Stmt:=ay (bT 41) 0
noncomputable abbrev ig:Stmt:=ay (bT 41) 1
noncomputable abbrev oN:Stmt:=ay (bT 41) 2
noncomputable abbrev mG:Stmt:=ay (bT 41) 3
noncomputable abbrev mF:Stmt:=ay (bT 41) 4
noncomputable abbrev oM:Stmt:=ay (bT 41) 5
noncomputable abbrev lu:Stmt:=ay (bT 41) 6
noncomputable abbrev ie:Stmt:=ay (bT 41) 7
noncomputable abbrev tM:Stmt:=ay (bT 41) 8
noncomputable abbrev R0:Stmt:=ay (bT 41) 9
noncomputable abbrev tS:Stmt:=ay (bT 41) 10
noncomputable abbrev oS:Stmt:=ay (bT 41) 11
noncomputable abbrev y9:Stmt:=ay (bT 41) 12
noncomputable abbrev tH:Stmt:=ay (bT 41) 13
noncomputable abbrev tG:Stmt:=ay (bT 41) 14
noncomputable abbrev oQ:Stmt:=ay (bT 41) 16
noncomputable abbrev tO:Stmt:=ay (bT 41) 17
noncomputable abbrev tD:Stmt:=ay (bT 41) 18
noncomputable abbrev oO:Stmt:=ay (bT 41) 19
noncomputable abbrev ls:Stmt:=ay (bT 41) 20
noncomputable abbrev tR:Stmt:=ay (bT 41) 21
noncomputable abbrev yA:Stmt:=bT 43
noncomputable abbrev Ll:Stmt:=bT 44
noncomputable abbrev tK:Stmt:=ay (bT 45) 0
noncomputable abbrev t8:Stmt:=ay (bT 45) 1
noncomputable abbrev tU:Stmt:=bT 47
noncomputable abbrev y3:Stmt:=bT 48
noncomputable abbrev oP:Stmt:=bT 49
noncomputable abbrev j1:Stmt:=bT 50
noncomputable abbrev tQ:Stmt:=bT 51
noncomputable abbrev oV:Stmt:=bT 52
noncomputable abbrev ij:Stmt:=bT 53
noncomputable abbrev gB:Stmt:=ay (bT 41) 15
noncomputable abbrev tV:Stmt:=ay (bT 41) 23
noncomputable abbrev oG:Stmt:=ay (bT 41) 24
noncomputable abbrev lw:Stmt:=bT 54
noncomputable abbrev dq:Stmt:=bT 55
noncomputable abbrev oK:Stmt:=bT 56
noncomputable abbrev tT:Stmt:=bT 57
noncomputable abbrev gA:Stmt:=bT 58
structure dR (mg:Str->Option Value):Prop where
 Jx:mg "isinstance" = none
 int:mg "int" = none
 bool:mg "bool" = none
 len:mg "len" = none
 enum:mg "enumerate" = none
 tuple:mg "tuple" = none
 range:mg "range" = none
 list:mg "list" = none
 all:mg "all" = none
 abs:mg "abs" = none
 str:mg "str" = none
 min:mg "min" = none
 sum:mg "sum" = none
noncomputable def xx (H:Hp)(v:V)(p:Int × Int):Prop:=∃ t,v = .ref t/\H t=some (.tup [.int p.1, .int p.2])
noncomputable abbrev Aq (H:Hp):List V->List (Int × Int)->Prop:=Paired (xx H)
theorem Aq.same {H H':Hp}(h:zW H H'):∀ {vs:List V}{ps:List (Int × Int)},Aq H vs ps->Aq H' vs ps
 | _,_, .nil => .nil
 | _,_, .cons ⟨t,e,q⟩ r => .cons ⟨t,e,h _ _ q⟩ (Aq.same h r)
theorem Aq.get {H:Hp}:∀ {vs:List V}{ps:List (Int × Int)}{i:Nat}{v:V},Aq H vs ps->vs[i]? = some v->∃ p,ps[i]? = some p/\xx H v p
 | _,_,_,_, .nil,e=>by simp at e
 | _,_,0,_, .cons h _,e=>by simp at e;subst e;exact⟨_,rfl,h⟩
 | _,_,i + 1,_, .cons _ r,e=>by
  obtain⟨p,e1,h⟩:=Aq.get (i:=i) r (by simpa using e)
  exact⟨p,by simpa using e1,h⟩
theorem Aq.EK {H:Hp}:∀ {vs:List V}{ps:List (Int × Int)}{i:Nat}{p:Int × Int},Aq H vs ps->ps[i]? = some p->∃ v,vs[i]? = some v/\xx H v p
 | _,_,_,_, .nil,e=>by simp at e
 | _,_,0,_, .cons h _,e=>by simp at e;subst e;exact⟨_,rfl,h⟩
 | _,_,i + 1,_, .cons _ r,e=>by
  obtain⟨p,e1,h⟩:=Aq.EK (i:=i) r (by simpa using e)
  exact⟨p,by simpa using e1,h⟩
theorem Aq.snoc {H:Hp}{v:V}{p:Int × Int}(h:xx H v p):∀ {vs:List V}{ps:List (Int × Int)},Aq H vs ps->Aq H (vs ++ [v]) (ps ++ [p])
 | _,_, .nil => .cons h .nil
 | _,_, .cons q r => .cons q (Aq.snoc h r)
noncomputable def jC (n:Int)(p:Int × Int):Bool:=decide (0 <= p.1/\p.1 <= n - 1) && (decide (0 <= p.2/\p.2 <= n - 1) && !decide (p.1=p.2))
noncomputable def lh:Sp:=fun vs H Q _=>∃ i:Int,vs=[.int i]/\Q (.bl true) H
noncomputable def ju:Sp:=fun vs H Q _=>∃ i a b:Int,vs=[.int i, .int a, .int b]/\Q (.bl (decide (a <= i/\i <= b))) H
noncomputable def sF:Sp:=fun vs H Q _=>∃ n a b:Int,vs=[.int n, .int a, .int b]/\Q (.bl (jC n (a,b))) H
theorem qj:ao ["value"] ["value"] (ai gr):=L2.Ax
theorem mV {f:Addr}{fd:FuncData}(F:As K "is_whole" "is_whole" gr f fd)(T:dR mg):zX P w K mg base aC 1 f fd ["value"] lh:=by
 refine F.ok qj (fun vs H Q E h=>?_) (fun cdv A outer s H vs Q E hr h=>?_)
 ·obtain⟨m,rfl,_⟩:=h
  rfl
 ·obtain⟨i,rfl,q⟩:=h
  refine⟨_,ah (ar (dI (az nP rfl T.Jx PyProof.Rows.boot_isinstance (aa (pv 0) (aa (fP (v := .ty "int") rfl T.int PySem.Pv.boot_int rfl) ad)))
   (dH (ug (az nP rfl T.Jx PyProof.Rows.boot_isinstance (aa (pv 0) (aa (fP (v := .ty "bool") rfl T.bool PySem.Pv.boot_bool rfl) ad))))))),?_⟩
  refine⟨_,rfl, .inl ⟨i,rfl,true,rfl,?_⟩⟩
  refine aN ?_
  exact⟨_,rfl, .inr (.inl ⟨i,rfl,false,rfl,q⟩)⟩
theorem mE:ao ["value", "least", "most"] ["value", "least", "most"] (ai jd):=L2.Ax
theorem r6 {f fh:Addr}{fd CS:FuncData}(F:As K "is_within" "is_within" jd f fd)(T:dR mg)(mh:mg "is_whole" = some (.ref fh))(Fh:As K "is_whole" "is_whole" gr fh CS)(bh:Binds K CS ["value"] []) :
  zX P w K mg base aC 2 f fd ["value", "least", "most"] ju:=by
 have G:zX P w K mg base aC 1 fh CS ["value"] lh:=mV Fh T
 refine F.ok mE (fun vs H Q E h=>?_) (fun cdv A outer s H vs Q E hr h=>?_)
 ·obtain⟨i,a,b,rfl,_⟩:=h
  rfl
 ·obtain⟨i,a,b,rfl,q⟩:=h
  refine⟨_,ah (ar (dI (aq G hr rfl mh Fh.kp bh .nil ap (aa (pv 0) ad)) (dH (mT qu qu (pv 1) (pv 0) (pv 2))))),?_⟩
  refine⟨_,rfl,i,rfl,true,rfl,aN ?_⟩
  refine⟨_,rfl,_,rfl,_,_,rfl,rfl,_,rfl,?_⟩
  by_cases h1:a <= i
  ·rw[decide_eq_true h1]
   refine aN ⟨_,rfl,_,_,rfl,rfl,?_⟩
   show Q (V.bl (decide (i <= b))) H
   by_cases h2:i <= b
   ·rw[decide_eq_true h2];rw[decide_eq_true ⟨h1,h2⟩]at q;exact q
   ·rw[decide_eq_false h2];rw[decide_eq_false fun z=>h2 z.2]at q;exact q
  ·rw[decide_eq_false h1]
   refine aJ ?_
   rw[decide_eq_false fun z=>h1 z.1]at q;exact q
theorem GN:ao ["places", "one", "other", "last"] ["places", "one", "other"] (ai yw):=L2.Ax
theorem yS {f fh:Addr}{fd CS:FuncData}(F:As K "are_two_places" "are_two_places" yw f fd)(mh:mg "is_within" = some (.ref fh))(kh:keepIn K (.ref fh)=true)(bh:Binds K CS ["value", "least", "most"] [])
  (G:zX P w K mg base aC 2 fh CS ["value", "least", "most"] ju) :
  zX P w K mg base aC 3 f fd ["places", "one", "other"] sF:=by
 refine F.ok GN (fun vs H Q E h=>?_) (fun cdv A outer s H vs Q E hr h=>?_)
 ·obtain⟨i,a,b,rfl,_⟩:=h
  rfl
 ·obtain⟨n,a,b,rfl,q⟩:=h
  refine⟨_,af (aE (i:=3) GN.nd rfl (Or.inl rfl) (aD eP (pv 0) aj))
   (ah (ar (dI (aq G hr rfl mh kh bh .nil ap (aa (pv 1) (aa aj (aa (pv 3) ad))))
    (dI (aq G hr rfl mh kh bh .nil ap (aa (pv 2) (aa aj (aa (pv 3) ad)))) (dH (cS mU (pv 1) (pv 2) (aB _))))))),?_⟩
  refine⟨_,rfl,_,_,rfl,rfl,?_⟩
  refine⟨_,rfl,_,rfl,a,0,n - 1,rfl,_,rfl,?_⟩
  unfold jC at q
  dsimp only at q
  by_cases h1:0 <= a/\a <= n - 1
  ·rw[decide_eq_true h1]at q ⊢
   rw[Bool.true_and]at q
   refine aN ⟨_,rfl,_,rfl,b,0,n - 1,rfl,_,rfl,?_⟩
   by_cases h2:0 <= b/\b <= n - 1
   ·rw[decide_eq_true h2]at q ⊢
    rw[Bool.true_and]at q
    refine aN ⟨_,rfl,_,rfl,rfl,?_⟩
    have e:decide (V.int a=V.int b)=decide (a=b):=by
     by_cases h:a=b
     ·rw[h];simp
     ·rw[decide_eq_false h,decide_eq_false fun z=>h (by injection z)]
    show Q (V.bl (!decide (V.int a=V.int b))) H
    rw[e];exact q
   ·rw[decide_eq_false h2]at q ⊢
    exact aJ q
  ·rw[decide_eq_false h1]at q ⊢
   exact aJ q
end K50
namespace L2
open PySem
theorem iI {H1:Hp}{e d:Addr}{o o' x:HO}(he:H1 e=none)(hd:upd H1 e o d=none) :
  zW H1 (vn (upd (upd (upd H1 e o) d x) e o') e)/\(vn (upd (upd (upd H1 e o) d x) e o') e) d=some x/\(upd (upd (upd H1 e o) d x) e o') e=some o':=by
 have Dx:d ≠ e:=fun z=>by rw[z,ac]at hd;cases hd
 have WD:H1 d=none:=by rw[ae Dx]at hd;exact hd
 refine⟨fun b u q=>?_,?_,ac⟩
 ·have Cw:b ≠ e:=ag q he
  have hbd:b ≠ d:=ag q WD
  rw[dM Cw,ae Cw,ae hbd,ae Cw];exact q
 ·rw[dM Dx,ae Dx,ac]
end L2
namespace K50
open PySem L2
variable {P:Program}{w:World}{K:Frag}{mg:Str->Option Value}{base:Heap}
inductive Due | places | many (k:Nat) | Au (k:Nat) | good
noncomputable def nU (n:Int)(ps:List (Int × Int)):Option Nat:=ps.findIdx? fun p=>!jC n p
noncomputable def fK (n:Int)(ps:List (Int × Int)):Due:=if decide (1 <= n/\n <= 12)=false then .places else if 40 < ps.length then .many ps.length else match nU n ps with | some k => .Au k | none => .good
structure Cs where
 np:Addr
 tm:Addr
 nr:Addr
 land:Addr
noncomputable def qY (K:Frag)(fld:Str):Sp:=fun vs H Q _=>∃ e C tt v,vs=[.ref e,v]/\H e=some (bP e C tt none)/\gK K C/\findIn K (.ref C) fld=some none/\∀ d,H d=none->Q .An (upd (upd H d (.xd [(fld,v)])) e (bP e C tt (some d)))
noncomputable def c6 (H:Hp)(c:Cs)(x dx t:Addr)(n:Int)(Ag:List V)(ps:List (Int × Int)):Prop:=H x=some (.ins c.land dx [("places", .int n),("lanes", .ref t)])/\H t=some (.tup Ag)/\Aq H Ag ps
noncomputable def sW (K:Frag)(c:Cs):Sp:=fun vs H Q E=>∃ x dx n p Ai ps,vs=[.ref x, .int n, .ref p]/\H x=some (.ins c.land dx [])/\Aa K H p Ai/\Aq H Ai ps/\Ai.length <= 1000 /\
 (fK n ps = .places->∀ H',zW H H'->E (.ref c.np) none H') /\
 (∀ k,fK n ps = .many k->∀ H' d,zW H H'->H' d=some (.xd [("many", .int k)])->E (.ref c.tm) (some d) H') /\
 (∀ k,fK n ps = .Au k->∀ H' d,zW H H'->H' d=some (.xd [("lane", .int k)])->E (.ref c.nr) (some d) H') /\
 (fK n ps = .good->∀ H' t Ag,(∀ b o,b ≠ x->H b=some o->H' b=some o)->c6 H' c x dx t n Ag ps->Q .An H')
noncomputable def su (s:Stmt):Scope:=match s with
 | .Assign _ (.Call _ [.ListComp _ _ sc _] _ _) _=>sc
 | _=>{ kind := .function,names:=[],isGenerator:=false,isCoroutine:=false }
noncomputable def j2 (s:Stmt):Scope:=match aG s with
 | .Return (some (.ListComp _ _ sc _)) _ :: _=>sc
 | _=>{ kind := .function,names:=[],isGenerator:=false,isCoroutine:=false }
noncomputable abbrev NI:List Str:=["self", "places", "lanes", "lane", "pair"]
structure Exc (K:Frag)(mg:Str->Option Value)(c:Cs)(f1 f2:Addr)(d1 d2:FuncData):Prop where
 mnp:mg "NoPlaces" = some (.ref c.np)
 WE:b8 K c.np none=true
 knp:keepIn K (.ref c.np)=true
 mtm:mg "TooMany" = some (.ref c.tm)
 WH:b8 K c.tm (some (.ref f1))=true
 ktm:keepIn K (.ref c.tm)=true
 ctm:gK K c.tm
 ntm:findIn K (.ref c.tm) "many" = some none
 itm:isFn K (.ref f1)=true
 Ftm:As K "__init__" "TooMany.__init__" OV f1 d1
 btm:Binds K d1 ["self", "many"] []
 mnr:mg "NoRoad" = some (.ref c.nr)
 WI:b8 K c.nr (some (.ref f2))=true
 knr:keepIn K (.ref c.nr)=true
 cnr:gK K c.nr
 nnr:findIn K (.ref c.nr) "lane" = some none
 inr:isFn K (.ref f2)=true
 Fnr:As K "__init__" "NoRoad.__init__" OW f2 d2
 bnr:Binds K d2 ["self", "lane"] []
structure lY (K:Frag)(c:Cs):Prop where
 cl:C6 K c.land
 np:Ak K c.land "places"
 nl:Ak K c.land "lanes"
theorem jX {n:Int}{ps:List (Int × Int)}(h:∀ p ∈ ps,jC n p=true):nU n ps=none:=by
 unfold nU
 rw[List.findIdx?_eq_none_iff]
 intro p hp
 rw[h p hp];rfl
theorem pG {n:Int}{ps:List (Int × Int)}{i:Nat}{p:Int × Int}(h:∀ q ∈ ps.take i,jC n q=true)(hi:ps[i]? = some p)(hb:jC n p=false):nU n ps=some i:=by
 unfold nU
 rw[List.findIdx?_eq_some_iff_getElem]
 obtain⟨AU,e⟩:=List.getElem?_eq_some_iff.mp hi
 refine⟨AU,by rw[e,hb];rfl,fun j hj=>?_⟩
 have hm:ps[j]'(lt_trans hj AU) ∈ ps.take i:=List.mem_take_iff_getElem.mpr ⟨j,by omega,rfl⟩
 rw[h _ hm];simp
noncomputable def Off (x:Addr)(H H':Hp):Prop:=∀ b o,b ≠ x->H b=some o->H' b=some o
theorem Off.sq {K:Frag}{H H':Hp}{x p C dx:Addr}{fs:List (Str × V)}{xs:List V}(o:Off x H H')(hx:H x=some (.ins C dx fs))(h:Aa K H p xs):Aa K H' p xs:=by
 rcases h with (h | ⟨ob,h⟩) | h
 ·exact .inl (.inl (o _ _ (aX h hx (by intro z;cases z)) h))
 ·exact .inl (.inr ⟨ob,o _ _ (aX h hx (by intro z;cases z)) h⟩)
 ·exact .inr h
theorem Off.Dy {H H':Hp}{x C dx:Addr}{fs:List (Str × V)}(o:Off x H H')(hx:H x=some (.ins C dx fs)):∀ {vs:List V}{ps:List (Int × Int)},Aq H vs ps->Aq H' vs ps
 | _,_, .nil => .nil
 | _,_, .cons ⟨t,e,q⟩ r => .cons ⟨t,e,o _ _ (aX q hx (by intro z;cases z)) q⟩ (Off.Dy o hx r)
theorem Off.same {H H1 H2:Hp}{x:Addr}(a:Off x H H1)(b:zW H1 H2):Off x H H2:=fun c o n e=>b _ _ (a c o n e)
theorem R1:ao ["self", "many"] ["self", "many"] (ai OV):=L2.Ax
theorem R3:ao ["self", "lane"] ["self", "lane"] (ai OW):=L2.Ax
theorem Ln {f:Addr}{fd:FuncData}(F:As K "__init__" "TooMany.__init__" OV f fd):zX P w K mg base aC 1 f fd ["self", "many"] (qY K "many"):=by
 refine F.ok R1 (fun vs H Q E h=>?_) (fun cdv A outer s H vs Q E hr h=>?_)
 ·obtain⟨e,C,tt,v,rfl,_⟩:=h
  rfl
 ·obtain⟨e,C,tt,v,rfl,h1,h2,h3,q⟩:=h
  refine⟨_,ah (lA (pv 0) (pv 1) rfl),?_⟩
  exact⟨_,rfl,_,rfl,e,C,tt,rfl,h1,h2,h3,q⟩
theorem Lo {f:Addr}{fd:FuncData}(F:As K "__init__" "NoRoad.__init__" OW f fd):zX P w K mg base aC 1 f fd ["self", "lane"] (qY K "lane"):=by
 refine F.ok R3 (fun vs H Q E h=>?_) (fun cdv A outer s H vs Q E hr h=>?_)
 ·obtain⟨e,C,tt,v,rfl,_⟩:=h
  rfl
 ·obtain⟨e,C,tt,v,rfl,h1,h2,h3,q⟩:=h
  refine⟨_,ah (lA (pv 0) (pv 1) rfl),?_⟩
  exact⟨_,rfl,_,rfl,e,C,tt,rfl,h1,h2,h3,q⟩
theorem DI:ao NI ["self", "places", "lanes"] (ai mJ):=L2.Ax
theorem zK:Ba NI (ai mJ) (su ((aG mJ).getD 4 (.Pass ⟨0,0,0,0⟩))) [] []:=L2.BI
theorem zl:(["pair"]:List Str).Nodup:=by decide +kernel
theorem wI {c:Cs}{f fw ft f1 f2:Addr}{fd dw dt d1 d2:FuncData}{t1 t2:Tok}(F:As K "__init__" "Land.__init__" mJ f fd)(T:dR mg)(L:lY K c)(X:Exc K mg c f1 f2 d1 d2)
  (mw:mg "is_within" = some (.ref fw)) (kw:keepIn K (.ref fw)=true) (bw:Binds K dw ["value", "least", "most"] []) (Gw:zX P w K mg base aC 2 fw dw ["value", "least", "most"] ju)
  (mt:mg "are_two_places" = some (.ref ft)) (kt:keepIn K (.ref ft)=true) (bt:Binds K dt ["places", "one", "other"] []) (Gt:zX P w K mg base aC 3 ft dt ["places", "one", "other"] sF)
  (mp:mg "MOST_PLACES" = some (.int 12 t1)) (ml:mg "MOST_LANES" = some (.int 40 t2)) :
  zX P w K mg base (eE P w) 4 f fd ["self", "places", "lanes"] (sW K c):=by
 have Gm:zX P w K mg base aC 1 f1 d1 ["self", "many"] (qY K "many"):=Ln X.Ftm
 have Gr:zX P w K mg base aC 1 f2 d2 ["self", "lane"] (qY K "lane"):=Lo X.Fnr
 refine F.Fl DI (fun vs H Q E h=>?_) (fun cdv A outer s H vs Q E hr h=>?_)
 ·obtain⟨x,dx,n,p,Ai,ps,rfl,_⟩:=h
  rfl
 ·obtain⟨x,dx,n,p,Ai,ps,rfl,hx,hp,hl,hlen,h1,h2,h3,h4⟩:=h
  have Bv:Ah 2 _:=hr.mono (by decide)
  refine⟨_,af (aO (cj (bQ (aq Gw Bv rfl mw kw bw .nil ap (aa (pv 1) (aa aj (aa (eO (v := .int 12) rfl mp ⟨_,rfl⟩) ad))))))
    (ah (bF rfl X.WE aP (cf X.WE X.knp rfl rfl X.mnp (aa bC ad)))) aH)
   (af (aO (ax ul (az aw rfl T.len PySem.boot_len (aa (pv 2) ad)) (eO (v := .int 40) rfl ml ⟨_,rfl⟩) (aB _))
    (ah (bF rfl X.WH aP (je X.WH X.itm X.ktm Gm Bv X.btm rfl X.mtm (aa (az aw rfl T.len PySem.boot_len (aa (pv 2) ad)) ad)))) aH)
   (af (bv qq rfl (mQ rfl T.enum (aa (pv 2) ad)) (j9 rfl (ci (au (i:=3) DI.nd rfl (Or.inl rfl)) (ci (au (i:=4) DI.nd rfl (Or.inl rfl)) io)))
    (ah (aO (cj (bQ (aq Gt hr rfl mt kt bt .nil ap (aa (pv 1) (aa (av aF (pv 4) aj (fun _ _=>rfl)) (aa (av aF (pv 4) aj (fun _ _=>rfl)) ad))))))
     (ah (bF rfl X.WI aP (je X.WI X.inr X.knr Gr Bv X.bnr rfl X.mnr (aa (pv 3) ad)))) aH)))
   (af (aR (pv 0) (pv 1) rfl)
   (ah (aR (pv 0) (bu dO rfl T.tuple PySem.Pv.boot_tuple (aa (bB (own:=["pair"]) (capN:=[]) (cap:=[]) zK rfl (bA (pv 2))
    (fun C s' H' fp=>⟨au (i:=0) zl rfl (Or.inl rfl),bE,bH (aa (av (show pH _ (l7 K) from aF) (pv 0) aj (fun _ _=>rfl)) (aa (av (show pH _ (l7 K) from aF) (pv 0) aj (fun _ _=>rfl)) ad))⟩)) ad)) rfl))))),?_⟩
  refine⟨_,rfl,n,1,12,rfl,_,rfl,?_⟩
  by_cases hn:1 <= n/\n <= 12
  rotate_left
  ·rw[decide_eq_false hn]
   refine aN ⟨by show 1 <= sizeLine;decide,?_⟩
   exact h1 (by unfold fK;rw[if_pos (decide_eq_false hn)]) H (zW.refl H)
  rw[decide_eq_true hn]
  refine aJ ?_
  have EL:Ai.length=ps.length:=Paired.length hl
  refine⟨_,rfl,p,_,rfl, .inl hp,_,_,rfl,rfl,_,rfl,?_⟩
  by_cases hm:40 < ps.length
  ·rw[decide_eq_true (show (40:Int) < (Ai.length:Nat) by omega)]
   refine aN ⟨_,rfl,p,_,rfl, .inl hp,by show 1 <= sizeLine;decide,fun e tt he=>⟨e,_,tt,_,rfl,ac,X.ctm,X.ntm,fun d hd=>⟨rfl,?_⟩⟩⟩
   obtain⟨m1,m2,m3⟩:=iI (o:=bP e c.tm tt none) (o':=bP e c.tm tt (some d)) (x := .xd [("many", .int (Ai.length:Nat))]) he hd
   refine⟨some d,m3,h2 ps.length ?_ _ d m1 (by rw[m2,EL])⟩
   unfold fK
   rw[decide_eq_true hn,if_neg (by decide),if_pos hm]
  rw[decide_eq_false (show ¬ (40:Int) < (Ai.length:Nat) by omega)]
  refine aJ ?_
  refine⟨_,rfl,p,rfl,⟨_,hp⟩,n0 (sq:=fun H=>Aa K H p) (xs:=Ai) (fun i σ H2=>∃ a b:Option V,zW H H2/\σ=[some (.ref x),some (.int n),some (.ref p),a,b]/\∀ q ∈ ps.take i,jC n q=true)
   ⟨none,none,zW.refl H,rfl,fun q hq=>by simp at hq⟩ (fun i σ H2 _ ⟨a,b,s2,_⟩=>s2.seq hp) ?_ ?_⟩
  ·rintro i v q σ H2 hv ⟨a,b,s2,rfl,Bt⟩ hq
   obtain⟨pr,hpr,t,rfl,ht⟩:=Aq.get hl hv
   have s3:zW H (upd H2 q (.tup [.int i, .ref t])):=s2.new hq
   refine⟨q,_,rfl,Af.of ac,rfl,_,_,rfl,_,_,rfl,rfl,?_⟩
   have Fj:Af K (upd H2 q (.tup [.int i, .ref t])) t [.int pr.1, .int pr.2]:=Af.of (s3 _ _ ht)
   refine⟨_,rfl,_,rfl,t,_,0,_,rfl,rfl,Fj,ak (j:=0) rfl,?_⟩
   refine⟨_,rfl,t,_,1,_,rfl,rfl,Fj,ak (j:=1) rfl,n,pr.1,pr.2,rfl,_,rfl,?_⟩
   cases ho:jC n (pr.1,pr.2) with
   | true =>
    refine aJ ⟨some (.int i),some (.ref t),s3,rfl,fun z hz=>?_⟩
    rw[take_succ,hpr]at hz
    rcases mem_append.mp hz with hz | hz
    ·exact Bt z hz
    ·have:z=pr:=by simpa using hz
     rw[this];exact ho
   | false =>
    refine aN ⟨_,rfl,by show 1 <= sizeLine;decide,fun e tt he=>⟨e,_,tt,_,rfl,ac,X.cnr,X.nnr,fun d hd=>⟨rfl,?_⟩⟩⟩
    obtain⟨m1,m2,m3⟩:=iI (o:=bP e c.nr tt none) (o':=bP e c.nr tt (some d)) (x := .xd [("lane", .int i)]) he hd
    refine⟨some d,m3,h3 i ?_ _ d (s3.trans m1) m2⟩
    unfold fK
    rw[decide_eq_true hn,if_neg (by decide),if_neg hm,pG Bt hpr ho]
  ·rintro σ H2 ⟨a,b,s2,rfl,Bt⟩
   have Lp:fK n ps = .good:=by
    unfold fK
    rw[decide_eq_true hn,if_neg (by decide),if_neg hm,jX (fun z hz=>Bt z (by rw[EL,take_length];exact hz))]
   have Fp:=s2 _ _ hx
   refine⟨_,rfl,_,rfl,x,c.land,dx,_,rfl,Fp,L.cl,L.np,by show 0 < 1000;decide,?_⟩
   generalize WJ:upd H2 x (.ins c.land dx (aM "places" (.int n) []))=H3
   have o3:Off x H H3:=fun b o hb e=>by rw[← WJ,ae hb];exact s2 _ _ e
   have x3:H3 x=some (.ins c.land dx [("places", .int n)]):=by rw[← WJ,ac];rfl
   have l3:Aq H3 Ai ps:=o3.Dy hx hl
   have p3:Aa K H3 p Ai:=o3.sq hx hp
   refine⟨_,rfl,p,rfl,⟨_,p3⟩,bK Ai.length (by rw[sizeLine_eq];omega) (fun i acc H4=>zW H3 H4/\acc.length=i/\Aq H4 acc (ps.take i)) ⟨zW.refl _,rfl, .nil⟩ (fun i acc H4 h=>le_of_eq h.2.1) ?_ ?_⟩
   ·rintro i acc H4 hi ⟨s4,ha,hA⟩
    have q4:=s4.seq p3
    refine⟨⟨Ai,Ai[i],q4,by simp[hi]⟩,fun y H5 ⟨e5,hy⟩=>?_⟩
    subst e5
    have hy:=hy Ai q4
    obtain⟨pr,hpr,t,rfl,ht⟩:=Aq.get l3 hy
    have Fj:Af K H5 t [.int pr.1, .int pr.2]:=Af.of (s4 _ _ ht)
    refine⟨_,rfl,t,_,0,_,rfl,rfl,Fj,ak (j:=0) rfl,?_⟩
    refine⟨_,rfl,t,_,1,_,rfl,rfl,Fj,ak (j:=1) rfl,by show 2 <= sizeLine;decide,fun r G9=>?_⟩
    refine⟨s4.new G9,by rw[length_append,ha];rfl,?_⟩
    rw[take_succ,hpr]
    exact Aq.snoc ⟨r,rfl,ac⟩ (Aq.same (zW.new (zW.refl _) G9) hA)
   ·rintro acc H4 ⟨s4,ha,hA⟩
    have q4:=s4.seq p3
    refine⟨⟨Ai,q4,le_refl _⟩,fun D hD=>?_⟩
    have s5:zW H3 (upd H4 D (.lst acc)):=s4.new hD
    refine⟨D,acc,rfl, .inl ⟨Aa.of ac,fun t ht=>?_⟩⟩
    have s6:zW H3 (upd (upd H4 D (.lst acc)) t (.tup acc)):=s5.new ht
    have x6:=s6 _ _ x3
    refine⟨_,rfl,x,c.land,dx,_,rfl,x6,L.cl,L.nl,by show 1 < 1000;decide,?_⟩
    have htx:t ≠ x:=fun z=>by rw[z,s5 _ _ x3]at ht;cases ht
    refine h4 Lp _ t acc (fun b o hb e=>?_) ⟨by rw[ac];rfl,by rw[ae htx,ac],?_⟩
    ·rw[ae hb];exact s6 _ _ (o3 b o hb e)
    ·have OY:Aq H4 acc ps:=by rw[EL,take_length]at hA;exact hA
     have x4:=s4 _ _ x3
     have hA6:Aq (upd (upd H4 D (.lst acc)) t (.tup acc)) acc ps:=Aq.same (zW.new (zW.new (zW.refl _) hD) ht) OY
     exact Off.Dy (x:=x) (fun b o hb e=>by rw[ae hb];exact e) x6 hA6
noncomputable def jK (sel:Int × Int->Int)(ps:List (Int × Int))(pl:Int)(m:Nat):List V:=((List.range m).filter fun k=>decide (sel (ps.getD k (0,0))=pl)).map fun k:Nat=>V.int k
noncomputable def qZ (c:Cs)(sel:Int × Int->Int):Sp:=fun vs H Q _=>∃ (x dx t:Addr)(n:Int)(Ag:List V)(ps:List (Int × Int))(pl:Int),vs=[.ref x, .int pl]/\c6 H c x dx t n Ag ps/\ps.length <= 1000 /\
 ∀ H' D,zW H H'->H' D=none->Q (.ref D) (upd H' D (.lst (jK sel ps pl ps.length)))
theorem nu {sel:Int × Int->Int}{ps:List (Int × Int)}{pl:Int}{i:Nat}{pr:Int × Int}(h:ps[i]? = some pr):jK sel ps pl (i + 1)=if decide (sel pr=pl) then jK sel ps pl i ++ [V.int i] else jK sel ps pl i:=by
 have e:ps.getD i (0,0)=pr:=by rw[getD_eq_getElem?_getD,h];rfl
 unfold jK
 rw[range_succ,filter_append]
 by_cases hs:sel pr=pl
 ·rw[if_pos (decide_eq_true hs),List.filter_cons_of_pos (by rw[e];exact decide_eq_true hs)];simp
 ·rw[if_neg (by rw[decide_eq_false hs];decide),List.filter_cons_of_neg (by rw[e,decide_eq_false hs];decide)];simp
theorem qD {sel:Int × Int->Int}{ps:List (Int × Int)}{pl:Int}{i:Nat}:(jK sel ps pl i).length <= i:=by
 unfold jK
 rw[length_map]
 have:=length_filter_le (fun k=>decide (sel (ps.getD k (0,0))=pl)) (List.range i)
 rwa [length_range]at this
theorem Lq:ao ["self", "place"] ["self", "place"] (ai tI):=L2.Ax
theorem Lr:Ba ["self", "place"] (ai tI) (j2 tI) ["place"] [1]:=L2.BI
theorem yt:ao ["self", "place"] ["self", "place"] (ai mI):=L2.Ax
theorem zJ:Ba ["self", "place"] (ai mI) (j2 mI) ["place"] [1]:=L2.BI
theorem qx:(["lane", "pair", "place"]:List Str).Nodup:=by decide +kernel
theorem gJ (a b:Int):decide (V.int a=V.int b)=decide (a=b):=by
 by_cases h:a=b
 ·rw[h];simp
 ·rw[decide_eq_false h,decide_eq_false fun z=>h (by injection z)]
theorem ux {c:Cs}{f:Addr}{fd:FuncData}(F:As K "out_of" "Land.out_of" tI f fd)(T:dR mg)(L:lY K c):zX P w K mg base aC 1 f fd ["self", "place"] (qZ c Prod.fst):=by
 refine F.ok Lq (fun vs H Q E h=>?_) (fun cdv A outer s H vs Q E hr h=>?_)
 ·obtain⟨x,dx,t,n,Ag,ps,pl,rfl,_⟩:=h
  rfl
 ·obtain⟨x,dx,t,n,Ag,ps,pl,rfl,⟨hx,ht,hl⟩,hlen,q⟩:=h
  refine⟨_,ah (ar (bB (own:=["lane", "pair"]) (capN:=["place"]) (cap:=[1]) Lr rfl (mP rfl T.enum (aa (al (pv 0) rfl) ad))
   (fun C s' H' fp=>⟨(show PG _ _ (zD K 2 _) from j9 rfl (ci (au (i:=0) qx rfl (Or.inl rfl)) (ci (au (i:=1) qx rfl (Or.inl rfl)) io))),
    c7 (ax bG (av (show pH _ (l7 K) from aF) (pv 1) aj (fun _ _=>rfl)) (pv 2) (aB _)),pv 0⟩))),?_⟩
  have EL:Ag.length=ps.length:=Paired.length hl
  refine⟨_,rfl,x,c.land,dx,_,_,rfl,hx,L.cl,L.nl,rfl,t,rfl,⟨_,Af.of ht⟩,bK ps.length (by rw[sizeLine_eq];omega) (fun i acc H4=>zW H H4/\acc=jK Prod.fst ps pl i) ⟨zW.refl _,rfl⟩ (fun i acc H4 h=>by rw[h.2];exact qD) ?_ ?_⟩
  ·rintro i acc H4 hi ⟨s4,rfl⟩
   have q4:Af K H4 t Ag:=Af.of (s4 _ _ ht)
   refine⟨⟨Ag,Ag[i]'(by omega),q4,by simp[EL,hi]⟩,fun y H5 ⟨r,CT,ey,h5⟩=>?_⟩
   obtain⟨v,hv,rfl⟩:=h5 Ag q4
   subst ey
   obtain⟨pr,hpr,u,rfl,hu⟩:=Aq.get hl hv
   have s5:zW H (upd H4 r (.tup [.int i, .ref u])):=s4.new CT
   refine⟨r,_,rfl,Af.of ac,rfl,_,_,rfl,_,_,rfl,rfl,?_⟩
   refine⟨_,rfl,u,_,0,_,rfl,rfl,Af.of (s5 _ _ hu),ak (j:=0) rfl,_,rfl,rfl,_,rfl,?_⟩
   rw[gJ,nu hpr]
   cases hd:decide (pr.1=pl) with
   | true=>exact aN ⟨_,rfl,s5,by simp[hd]⟩
   | false=>exact aJ ⟨s5,by simp[hd]⟩
  ·rintro acc H4 ⟨s4,rfl⟩
   exact⟨⟨Ag,Af.of (s4 _ _ ht),EL⟩,fun D hD=>q H4 D s4 hD⟩
theorem qv {c:Cs}{f:Addr}{fd:FuncData}(F:As K "into" "Land.into" mI f fd)(T:dR mg)(L:lY K c):zX P w K mg base aC 1 f fd ["self", "place"] (qZ c Prod.snd):=by
 refine F.ok yt (fun vs H Q E h=>?_) (fun cdv A outer s H vs Q E hr h=>?_)
 ·obtain⟨x,dx,t,n,Ag,ps,pl,rfl,_⟩:=h
  rfl
 ·obtain⟨x,dx,t,n,Ag,ps,pl,rfl,⟨hx,ht,hl⟩,hlen,q⟩:=h
  refine⟨_,ah (ar (bB (own:=["lane", "pair"]) (capN:=["place"]) (cap:=[1]) zJ rfl (mP rfl T.enum (aa (al (pv 0) rfl) ad))
   (fun C s' H' fp=>⟨(show PG _ _ (zD K 2 _) from j9 rfl (ci (au (i:=0) qx rfl (Or.inl rfl)) (ci (au (i:=1) qx rfl (Or.inl rfl)) io))),
    c7 (ax bG (av (show pH _ (l7 K) from aF) (pv 1) aj (fun _ _=>rfl)) (pv 2) (aB _)),pv 0⟩))),?_⟩
  have EL:Ag.length=ps.length:=Paired.length hl
  refine⟨_,rfl,x,c.land,dx,_,_,rfl,hx,L.cl,L.nl,rfl,t,rfl,⟨_,Af.of ht⟩,bK ps.length (by rw[sizeLine_eq];omega) (fun i acc H4=>zW H H4/\acc=jK Prod.snd ps pl i) ⟨zW.refl _,rfl⟩ (fun i acc H4 h=>by rw[h.2];exact qD) ?_ ?_⟩
  ·rintro i acc H4 hi ⟨s4,rfl⟩
   have q4:Af K H4 t Ag:=Af.of (s4 _ _ ht)
   refine⟨⟨Ag,Ag[i]'(by omega),q4,by simp[EL,hi]⟩,fun y H5 ⟨r,CT,ey,h5⟩=>?_⟩
   obtain⟨v,hv,rfl⟩:=h5 Ag q4
   subst ey
   obtain⟨pr,hpr,u,rfl,hu⟩:=Aq.get hl hv
   have s5:zW H (upd H4 r (.tup [.int i, .ref u])):=s4.new CT
   refine⟨r,_,rfl,Af.of ac,rfl,_,_,rfl,_,_,rfl,rfl,?_⟩
   refine⟨_,rfl,u,_,1,_,rfl,rfl,Af.of (s5 _ _ hu),ak (j:=1) rfl,_,rfl,rfl,_,rfl,?_⟩
   rw[gJ,nu hpr]
   cases hd:decide (pr.2=pl) with
   | true=>exact aN ⟨_,rfl,s5,by simp[hd]⟩
   | false=>exact aJ ⟨s5,by simp[hd]⟩
  ·rintro acc H4 ⟨s4,rfl⟩
   exact⟨⟨Ag,Af.of (s4 _ _ ht),EL⟩,fun D hD=>q H4 D s4 hD⟩
noncomputable def xJ:Sp:=fun vs H Q _=>∃ m k:Nat,vs=[.int m, .int k]/\Q (.bl (m.testBit k)) H
noncomputable def wT (m:Nat):List V:=(Yd.DC m (Builtin.Int.intBits (m:Int))).map fun k:Nat=>V.int k
noncomputable def sP:Sp:=fun vs H Q _=>∃ m:Nat,vs=[.int m]/\m < 2 ^ 400/\∀ p,H p=none->Q (.ref p) (upd H p (.lst (wT m)))
noncomputable def sJ (K:Frag):Sp:=fun vs H Q _=>∃ (a:Addr)(ks:List Nat),vs=[.ref a]/\Aa K H a (ks.map fun k:Nat=>V.int k)/\(∀ k ∈ ks,k <= 1000)/\Q (.int (Yd.AE ks 0:Nat)) H
theorem Ls:ao ["some", "number"] ["some", "number"] (ai vT):=L2.Ax
theorem zi {f:Addr}{fd:FuncData}(F:As K "has" "has" vT f fd):zX P w K mg base aC 1 f fd ["some", "number"] xJ:=by
 refine F.ok Ls (fun vs H Q E h=>?_) (fun cdv A outer s H vs Q E hr h=>?_)
 ·obtain⟨m,k,rfl,_⟩:=h
  rfl
 ·obtain⟨m,k,rfl,q⟩:=h
  refine⟨_,ah (ar (dI (cS xL (pv 1) aj (aB _)) (dH (cS bG (aD um (aD uj (pv 0) (pv 1)) aj) aj (aB _))))),?_⟩
  refine⟨_,rfl,_,_,rfl,rfl,_,rfl,?_⟩
  rw[decide_eq_true (show (0:Int) <= (k:Int) by omega)]
  refine aN ?_
  refine⟨_,rfl,_,rfl,_,_,rfl,rfl,(show (0:Int) <= (k:Int) by omega),_,_,rfl,rfl,rfl,?_⟩
  have e:decide (V.int (Builtin.bitAnd ((m:Int) / 2 ^ (k:Int).toNat) 1)=V.int 1)=m.testBit k:=by
   rw[toNat_natCast,← Yd.DP m k]
   by_cases h:Builtin.bitAnd ((m:Int) / 2 ^ k) 1=1
   ·rw[h];simp
   ·rw[decide_eq_false h,decide_eq_false fun z=>h (by injection z)]
  rw[e]
  exact q
theorem uJ {ks:List Nat}{i:Nat}{x:V}(h:(ks.map fun k:Nat=>V.int k)[i]? = some x):∃ k,ks[i]? = some k/\x=V.int k:=by
 rw[List.getElem?_map]at h
 cases e:ks[i]? with
 | none=>rw[e]at h;cases h
 | some k=>rw[e]at h;exact⟨k,rfl,(Option.some.inj h).symm⟩
theorem DT:ao ["numbers", "some", "number"] ["numbers"] (ai yz):=L2.Ax
theorem yU {f:Addr}{fd:FuncData}(F:As K "set_of" "set_of" yz f fd):zX P w K mg base aC 1 f fd ["numbers"] (sJ K):=by
 refine F.ok DT (fun vs H Q E h=>?_) (fun cdv A outer s H vs Q E hr h=>?_)
 ·obtain⟨a,ks,rfl,_⟩:=h
  rfl
 ·obtain⟨a,ks,rfl,hS,hk,q⟩:=h
  refine⟨_,af (aE (i:=1) DT.nd rfl (Or.inl rfl) aj)
   (af (bv PassesOwn.never rfl (bA (pv 0)) (au (i:=2) DT.nd rfl (Or.inl rfl))
    (ah (aE (i:=1) DT.nd rfl (Or.inl rfl) (aD Kn (pv 1) (aD yO aj (pv 2))))))
   (ah (ar (pv 1)))),?_⟩
  refine⟨_,rfl,a,rfl,⟨_,hS⟩,eA (K:=K) (a:=a) (xs:=ks.map fun k:Nat=>V.int k) (fun i σ H2=>∃ v:Option V,H2=H/\σ=[some (.ref a),some (.int (Yd.AE (ks.take i) 0:Nat)),v])
   ⟨none,rfl,rfl⟩ (fun i σ H2 _ ⟨_,e,_⟩=>by rw[e];exact hS) ?_ ?_⟩
  ·rintro i x σ H2 hx ⟨v,rfl,rfl⟩
   obtain⟨k,ek,rfl⟩:=uJ hx
   have R4:=hk k (mem_of_getElem? ek)
   refine⟨_,rfl,_,rfl,_,_,rfl,rfl,⟨(show (0:Int) <= (k:Int) by omega),(show (k:Int) <= 1000000 by omega),(by decide)⟩,_,_,rfl,rfl,some (.int k),rfl,?_⟩
   have e:Builtin.bitOr ((Yd.AE (ks.take i) 0:Nat):Int) (1 * 2 ^ (k:Int).toNat)=((Yd.AE (ks.take (i + 1)) 0:Nat):Int):=by
    rw[take_succ,ek,toNat_natCast,Int.one_mul,show (2:Int) ^ k=((2 ^ k:Nat):Int) by rw[Int.natCast_pow];rfl,Yd.Eb,Yd.EC]
    rfl
   show [some (V.ref a),some (V.int _),some (V.int k)]=_
   rw[e]
  ·rintro σ H2 ⟨v,rfl,rfl⟩
   refine⟨_,rfl,?_⟩
   rw[length_map,take_length]
   exact q
theorem Lu:ao ["some"] ["some"] (ai tL):=L2.Ax
theorem Lv:(["number", "some"]:List Str).Nodup:=by decide +kernel
theorem Lw:Ba ["some"] (ai tL) (j2 tL) ["some"] [0]:=L2.BI
theorem yZ {f fh:Addr}{fd CS:FuncData}(F:As K "members" "members" tL f fd)(T:dR mg)(mh:mg "has" = some (.ref fh))(Fh:As K "has" "has" vT fh CS)(bh:Binds K CS ["some", "number"] []):zX P w K mg base aC 2 f fd ["some"] sP:=by
 have G:zX P w K mg base aC 1 fh CS ["some", "number"] xJ:=zi Fh
 refine F.ok Lu (fun vs H Q E h=>?_) (fun cdv A outer s H vs Q E hr h=>?_)
 ·obtain⟨m,rfl,_⟩:=h
  rfl
 ·obtain⟨m,rfl,hm,q⟩:=h
  refine⟨_,ah (ar (bB (own:=["number"]) (capN:=["some"]) (cap:=[0]) Lw rfl
   (aL rfl T.range (aa (oW PySem.F.plainAttrs_int PySem.F.slot_int_bit_length PySem.F.type_int_bit_length wQ (pv 0)) ad))
   (fun C s' H' fp=>⟨au (i:=0) Lv rfl (Or.inl rfl),c7 (bQ (aq G hr rfl mh Fh.kp bh .nil ap (aa (pv 1) (aa (pv 0) ad)))),pv 0⟩))),?_⟩
  have hb:Builtin.Int.intBits (m:Int) <= 400:=Yd.bits_le hm
  refine⟨_,rfl,rfl,_,rfl,rfl,(Builtin.Int.intBits (m:Int):Nat),rfl,by omega,by omega,?_⟩
  rw[toNat_natCast]
  refine nI (fun k=>m.testBit k) (fun k=>V.int k) (by rw[sizeLine_eq];omega) (fun i acc N hi h=>?_) q
  refine⟨_,rfl,_,rfl,m,i,by simp,_,rfl,?_⟩
  cases e:m.testBit i with
  | true =>
   rw[e]at h
   refine aN ⟨_,rfl,?_⟩
   simpa using h
  | false =>
   rw[e]at h
   exact aJ (by simpa using h)
noncomputable def iz (ks:List Nat):List Int:=ks.map fun k:Nat=>(k:Int)
theorem wY (ks:List Nat):(iz ks).map V.int=ks.map fun k:Nat=>V.int k:=by rw[iz,map_map];rfl
theorem wS (m:Nat):wT m=(iz (Yd.DC m (Builtin.Int.intBits (m:Int)))).map V.int:=by rw[wY];rfl
theorem wX {ks:List Nat}(h:ks.Pairwise (· < ·)):(iz ks).Pairwise (· < ·):=by
 unfold iz
 rw[List.pairwise_map]
 exact h.imp fun z=>by omega
theorem Bw {ks:List Nat}{k:Int}:k ∈ iz ks↔∃ n ∈ ks,(n:Int)=k:=mem_map
theorem pb {ks:List Nat}{ms:List Int}(h1:ms.Pairwise (· < ·))(h2:∀ k,k ∈ ms↔k ∈ iz ks):iz (Yd.DC (Yd.AE ks 0) (Builtin.Int.intBits ((Yd.AE ks 0:Nat):Int)))=ms:=by
 refine Yd.Di (wX (Yd.Ec _ _)) h1 fun k=>?_
 rw[h2 k,Bw,Bw]
 constructor
 ·rintro⟨n,hn,e⟩
  rw[Yd.Dh (Yd.DO _),Yd.Bu]at hn
  exact⟨n,by simpa using hn,e⟩
 ·rintro⟨n,hn,e⟩
  refine⟨n,?_,e⟩
  rw[Yd.Dh (Yd.DO _),Yd.Bu]
  simpa using hn
theorem tq {ks:List Nat}{b:Nat}(h:∀ k ∈ ks,k < b):Yd.AE ks 0 < 2 ^ b:=by
 rw[← Yd.F3 h]
 exact Yd.CH ks b
theorem qW {ks:List Nat}{k:Nat}:(Yd.AE ks 0).testBit k=decide ((k:Int) ∈ iz ks):=by
 rw[Yd.Bu,Nat.zero_testBit,Bool.false_or]
 congr 1
 refine propext ⟨fun h=>Bw.mpr ⟨k,h,rfl⟩,fun h=>?_⟩
 obtain⟨n,hn,e⟩:=Bw.mp h
 have:n=k:=by omega
 rw[← this]
 exact hn
structure Rw where
 p:Int
 g:Int
 c:Option Nat
 s:List Nat
noncomputable def aZ (r:Rw):gk:=[some r.p,some r.g,r.c.map fun k:Nat=>(k:Int)]
noncomputable def eV (sel:Int × Int->Int)(ps:List (Int × Int))(pl:Int):List Nat:=(List.range ps.length).filter fun k=>decide (sel (ps.getD k (0,0))=pl)
noncomputable def eY (n:Int)(ps:List (Int × Int))(r:Rw):Bool :=
 jC n (r.p,r.g) && ((match r.c with | none=>true | some k=>decide (k ∈ eV Prod.snd ps r.p)) && r.s.all fun k=>decide (k ∈ eV Prod.fst ps r.p))
noncomputable def mW (sel:Int × Int->Int)(ps:List (Int × Int))(pl:Int)(k:Nat):Bool:=decide (ps.length <= k) || !decide (sel (ps.getD k (0,0))=pl)
noncomputable def nS (n:Int)(ps:List (Int × Int))(ahead:List Rw)(r:Rw):Bool :=
 !jC n (r.p,r.g) || ((match r.c with | none=>false | some k=>mW Prod.snd ps r.p k) || ((r.s.any fun k=>mW Prod.fst ps r.p k) || ahead.any fun a=>decide (aZ a=aZ r)))
theorem qG {sel:Int × Int->Int}{ps:List (Int × Int)}{pl:Int}{k:Nat}:decide (k ∈ eV sel ps pl) = !mW sel ps pl k:=by
 unfold eV mW
 by_cases h1:ps.length <= k
 ·rw[decide_eq_true h1,decide_eq_false]
  ·rfl
  ·intro z
   have:=mem_range.mp (mem_filter.mp z).1
   omega
 ·rw[decide_eq_false h1]
  by_cases h2:sel (ps.getD k (0,0))=pl
  ·rw[decide_eq_true h2,decide_eq_true]
   ·rfl
   ·exact mem_filter.mpr ⟨mem_range.mpr (by omega),decide_eq_true h2⟩
  ·rw[decide_eq_false h2,decide_eq_false]
   ·rfl
   ·intro z
    exact h2 (of_decide_eq_true (mem_filter.mp z).2)
theorem xq {l:List Nat}{f:Nat->Bool}:(l.all fun k=>!f k) = !(l.any f):=by
 induction l with
 | nil=>rfl
 | cons a l ih=>rw[all_cons,any_cons,ih,Bool.not_or]
theorem iB (n:Int)(ps:List (Int × Int))(ahead:List Rw)(r:Rw):nS n ps ahead r=(!eY n ps r || ahead.any fun a=>decide (aZ a=aZ r)):=by
 unfold nS eY
 have e:(r.s.all fun k=>decide (k ∈ eV Prod.fst ps r.p)) = !(r.s.any fun k=>mW Prod.fst ps r.p k):=by
  rw[← xq]
  congr 1
  funext k
  exact qG
 rw[e]
 cases hc:r.c with
 | none =>
  dsimp only
  cases jC n (r.p,r.g)<;>cases (r.s.any fun k=>mW Prod.fst ps r.p k)<;>cases (ahead.any fun a=>decide (aZ a=aZ r))<;>rfl
 | some k =>
  dsimp only
  rw[qG]
  cases jC n (r.p,r.g)<;>cases (mW Prod.snd ps r.p k)<;>cases (r.s.any fun k=>mW Prod.fst ps r.p k)<;>cases (ahead.any fun a=>decide (aZ a=aZ r))<;>rfl
noncomputable def dC (n:Int)(ps:List (Int × Int))(rs:List Rw)(m:Nat):Option Nat:=(List.range m).find? fun k=>nS n ps (rs.take k) (rs.getD k ⟨0,0,none,[]⟩)
theorem gh {n:Int}{ps:List (Int × Int)}{rs:List Rw}:∀ {m:Nat},(∀ k,k < m->nS n ps (rs.take k) (rs.getD k ⟨0,0,none,[]⟩)=false)->dC n ps rs m=none:=by
 intro m h
 unfold dC
 rw[List.find?_eq_none]
 intro k hk
 rw[h k (mem_range.mp hk)]
 decide
theorem kj {n:Int}{ps:List (Int × Int)}{rs:List Rw}{m i:Nat}(hi:i < m)(h:∀ k,k < i->nS n ps (rs.take k) (rs.getD k ⟨0,0,none,[]⟩)=false)(hb:nS n ps (rs.take i) (rs.getD i ⟨0,0,none,[]⟩)=true):dC n ps rs m=some i:=by
 unfold dC
 rw[List.find?_range_eq_some]
 refine⟨hb,mem_range.mpr hi,fun j hj=>?_⟩
 rw[h j hj]
 rfl
noncomputable def e9 (rs:List Rw)(k:gk):Option Rw:=rs.reverse.find? fun r=>decide (aZ r=k)
theorem py {rs:List Rw}{r:Rw}{k:gk}:e9 (rs ++ [r]) k=if k=aZ r then some r else e9 rs k:=by
 unfold e9
 rw[List.reverse_append,List.reverse_singleton,List.singleton_append,List.find?_cons]
 by_cases h:aZ r=k
 ·rw[decide_eq_true h,if_pos h.symm]
 ·rw[decide_eq_false h,if_neg (Ne.symm h)]
theorem lJ {rs:List Rw}{k:gk}:(e9 rs k).isSome=rs.any fun r=>decide (aZ r=k):=by
 unfold e9
 rw[Bool.eq_iff_iff,List.find?_isSome,List.any_eq_true]
 exact⟨fun⟨x,hx,h⟩=>⟨x,mem_reverse.mp hx,h⟩,fun⟨x,hx,h⟩=>⟨x,mem_reverse.mpr hx,h⟩⟩
noncomputable def cV:Option Nat->V
 | none => .An
 | some k => .int k
noncomputable def bV (ks:List Nat):List V:=ks.map fun k:Nat=>V.int k
noncomputable def Ij (H:Hp)(t l:Addr)(r:Rw):Prop:=H t=some (.tup [.int r.p, .int r.g,cV r.c, .ref l])/\H l=some (.lst (bV r.s))
noncomputable def Ik (H:Hp)(v:V)(r:Rw):Prop:=∃ t l,v = .ref t/\Ij H t l r
noncomputable abbrev Dz (H:Hp):List V->List Rw->Prop:=Paired (Ik H)
theorem Ij.same {H H':Hp}{t l:Addr}{r:Rw}(h:zW H H')(x:Ij H t l r):Ij H' t l r:=⟨h _ _ x.1,h _ _ x.2⟩
theorem Ik.same {H H':Hp}{v:V}{r:Rw}(h:zW H H'):Ik H v r->Ik H' v r:=fun⟨t,l,e,x⟩=>⟨t,l,e,x.same h⟩
theorem Dz.imp {H H':Hp}(h:∀ v r,Ik H v r->Ik H' v r):∀ {vs:List V}{rs:List Rw},Dz H vs rs->Dz H' vs rs
 | _,_, .nil => .nil
 | _,_, .cons x r => .cons (h _ _ x) (Dz.imp h r)
theorem Dz.same {H H':Hp}(h:zW H H'){vs:List V}{rs:List Rw}(x:Dz H vs rs):Dz H' vs rs:=Dz.imp (fun _ _ z=>z.same h) x
theorem Dz.get {H:Hp}:∀ {vs:List V}{rs:List Rw}{i:Nat}{v:V},Dz H vs rs->vs[i]? = some v->∃ r,rs[i]? = some r/\Ik H v r
 | _,_,_,_, .nil,e=>by simp at e
 | _,_,0,_, .cons x _,e=>by simp at e;subst e;exact⟨_,rfl,x⟩
 | _,_,i + 1,v, .cons _ t,e=>by
  obtain⟨r,h1,h2⟩:=Dz.get (i:=i) (v:=v) t (by simpa using e)
  exact⟨r,by simpa using h1,h2⟩
theorem qC (r:Rw):(aZ r).map sh=[.int r.p, .int r.g,cV r.c]:=by
 cases r with
 | mk p g c s=>cases c<;>rfl
theorem p0 {sel:Int × Int->Int}{ps:List (Int × Int)}{pl:Int}:jK sel ps pl ps.length=(iz (eV sel ps pl)).map V.int:=by rw[wY];rfl
theorem pz {k:Nat}{l:List Nat}:decide ((k:Int) ∈ iz l)=decide (k ∈ l):=by
 congr 1
 refine propext ⟨fun h=>?_,fun h=>Bw.mpr ⟨k,h,rfl⟩⟩
 obtain⟨n,hn,e⟩:=Bw.mp h
 have:n=k:=by omega
 rw[← this]
 exact hn
theorem qR (ks l:List Nat):((bV ks).filter fun _=>true).map (fun v=>match v with | .int i=>V.bl (decide (i ∈ iz l)) | _ => .An)=(ks.map fun k=>decide (k ∈ l)).map V.bl:=by
 rw[List.filter_eq_self.mpr (fun _ _=>rfl)]
 unfold bV
 rw[map_map,map_map]
 refine List.map_congr_left fun k _=>?_
 show V.bl (decide ((k:Int) ∈ iz l))=V.bl (decide (k ∈ l))
 rw[pz]
theorem vt (ks:List Nat)(p:Nat->Bool):(ks.map p).all id=ks.all p:=by rw[all_map];rfl
noncomputable def xB (K:Frag):Sp:=fun vs H Q _=>∃ (i:Int)(p:Addr)(ns:List Int),vs=[.int i, .ref p]/\Aa K H p (ns.map V.int)/\Q (.bl (decide (i ∈ ns))) H
noncomputable def sZ (c:Cs):Sp:=fun vs H Q _=>∃ (x dx lt t l:Addr)(n:Int)(Ag:List V)(ps:List (Int × Int))(r:Rw),vs=[.ref x, .ref t]/\c6 H c x dx lt n Ag ps/\Ij H t l r/\ps.length <= 1000/\r.s.length <= 1000/\∀ H',zW H H'->Q (.bl (eY n ps r)) H'
structure Lx (K:Frag)(c:Cs)(f3 f4:Addr)(d3 d4:FuncData):Prop where
 m3:bz K c.land "out_of" f3
 m4:bz K c.land "into" f4
 b3:Binds K d3 ["self", "place"] []
 b4:Binds K d4 ["self", "place"] []
noncomputable abbrev NF:List Str:=["land", "row", "place", "came", "begin_here"]
noncomputable def vv (s:Stmt):Scope:=match s with
 | .Return (some (.Call _ [.ListComp _ _ sc _] _ _)) _=>sc
 | _=>{ kind := .function,names:=[],isGenerator:=false,isCoroutine:=false }
theorem Ly:ao ["value", "numbers"] ["value", "numbers"] (ai y2):=L2.Ax
theorem yW {f fh:Addr}{fd CS:FuncData}(F:As K "is_one_of" "is_one_of" y2 f fd)(T:dR mg)(mh:mg "is_whole" = some (.ref fh))(Fh:As K "is_whole" "is_whole" gr fh CS)(bh:Binds K CS ["value"] []) :
  zX P w K mg base aC 2 f fd ["value", "numbers"] (xB K):=by
 have G:zX P w K mg base aC 1 fh CS ["value"] lh:=mV Fh T
 refine F.ok Ly (fun vs H Q E h=>?_) (fun cdv A outer s H vs Q E hr h=>?_)
 ·obtain⟨i,p,ns,rfl,_⟩:=h
  rfl
 ·obtain⟨i,p,ns,rfl,hS,q⟩:=h
  refine⟨_,ah (ar (dI (aq G hr rfl mh Fh.kp bh .nil ap (aa (pv 0) ad)) (dH (cS rp (pv 0) (pv 1) (by with_unfolding_all rfl))))),?_⟩
  refine⟨_,rfl,i,rfl,true,rfl,aN ?_⟩
  refine⟨_,rfl,_,rfl,p,_,rfl, .inl hS,rfl,iL _,?_⟩
  show Q (V.bl (Jt (V.int i) (ns.map V.int))) H
  rw[lL]
  exact q
theorem CI:ao NF ["land", "row"] (ai mK):=L2.Ax
theorem zL:Ba NF (ai mK) (vv ((aG mK).getD 5 (.Pass ⟨0,0,0,0⟩))) ["begin_here"] [4]:=L2.BI
theorem zm:(["lane", "begin_here"]:List Str).Nodup:=by decide +kernel
theorem wL {c:Cs}{f ft fo f3 f4:Addr}{fd dt d1 d3 d4:FuncData}(F:As K "row_fits" "row_fits" mK f fd)(T:dR mg)(L:lY K c)(M:Lx K c f3 f4 d3 d4)
  (mt:mg "are_two_places" = some (.ref ft)) (kt:keepIn K (.ref ft)=true) (bt:Binds K dt ["places", "one", "other"] []) (Gt:zX P w K mg base aC 3 ft dt ["places", "one", "other"] sF)
  (mo:mg "is_one_of" = some (.ref fo)) (ko:keepIn K (.ref fo)=true) (bo:Binds K d1 ["value", "numbers"] []) (Go:zX P w K mg base aC 2 fo d1 ["value", "numbers"] (xB K))
  (G3:zX P w K mg base aC 1 f3 d3 ["self", "place"] (qZ c Prod.fst)) (G4:zX P w K mg base aC 1 f4 d4 ["self", "place"] (qZ c Prod.snd)) :
  zX P w K mg base aC 4 f fd ["land", "row"] (sZ c):=by
 refine F.ok CI (fun vs H Q E h=>?_) (fun cdv A outer s H vs Q E hr h=>?_)
 ·obtain⟨x,dx,lt,t,l,n,Ag,ps,r,rfl,_⟩:=h
  rfl
 ·obtain⟨x,dx,lt,t,l,n,Ag,ps,r,rfl,hL,hR,hlen,OT,q⟩:=h
  have AI:Ah 1 _:=hr.mono (by decide)
  have Bv:Ah 2 _:=hr.mono (by decide)
  refine⟨_,af (aE (i:=2) CI.nd rfl (Or.inl rfl) (av aF (pv 1) aj (fun _ _=>rfl)))
   (af (aE (i:=3) CI.nd rfl (Or.inl rfl) (av aF (pv 1) aj (fun _ _=>rfl)))
   (af (aO (cj (bQ (aq Gt hr rfl mt kt bt .nil ap (aa (al (pv 0) rfl) (aa (pv 2) (aa (av aF (pv 1) aj (fun _ _=>rfl)) ad)))))) (ah (ar iR)) aH)
   (af (aO (PW.pt (l9 (ax wk (pv 3) cI (aB _)) (l8 (cj (bQ (aq Go Bv rfl mo ko bo .nil ap (aa (pv 3) (aa (aA (pv 0) L.cl M.m4 G4 AI M.b4 .nil ap (aa (pv 2) ad)) ad)))))))) (ah (ar iR)) aH)
   (af (aE (i:=4) CI.nd rfl (Or.inr rfl) (aA (pv 0) L.cl M.m3 G3 AI M.b3 .nil ap (aa (pv 2) ad)))
   (ah (ar (az (jW rfl) rfl T.all PyProof.Rows.boot_all (aa (bB (own:=["lane"]) (capN:=["begin_here"]) (cap:=[4]) zL rfl (bA (av aF (pv 1) aj (fun _ _=>rfl)))
    (fun C s' H' fp=>⟨au (i:=0) zm rfl (Or.inl rfl),bE,aq Go Bv rfl mo ko bo .nil ap (aa (pv 0) (aa (pv 1) ad))⟩)) ad)))))))),?_⟩
  obtain⟨hT,hl⟩:=hR
  have R5:Af K H t [.int r.p, .int r.g,cV r.c, .ref l]:=Af.of hT
  refine⟨_,rfl,t,_,0,_,rfl,rfl,R5,ak (j:=0) rfl,?_⟩
  refine⟨_,rfl,t,_,2,_,rfl,rfl,R5,ak (j:=2) rfl,?_⟩
  refine⟨_,rfl,x,c.land,dx,_,_,rfl,hL.1,L.cl,L.np,rfl,_,rfl,_,rfl,t,_,1,_,rfl,rfl,R5,ak (j:=1) rfl,n,r.p,r.g,rfl,_,rfl,?_⟩
  cases ho:jC n (r.p,r.g) with
  | false =>
   have e:eY n ps r=false:=by unfold eY;rw[ho];rfl
   refine aN ?_
   have:=q H (zW.refl H)
   rw[e]at this
   exact this
  | true =>
   refine aJ ?_
   cases hc:r.c with
   | none =>
    refine⟨_,rfl,rfl,_,rfl,aJ (aJ ?_)⟩
    have s1:=zW.refl H
    have e1:eY n ps r=r.s.all fun k=>decide (k ∈ eV Prod.fst ps r.p):=by unfold eY;rw[ho,hc];rfl
    refine⟨_,rfl,x,dx,_,rfl,s1 _ _ hL.1,rfl,_,rfl,x,dx,lt,n,Ag,ps,r.p,rfl,⟨s1 _ _ hL.1,s1 _ _ hL.2.1,Aq.same s1 hL.2.2⟩,hlen,fun H2 D2 s2 BY=>?_⟩
    have s3:=(s1.trans s2).new (o := .lst (jK Prod.fst ps r.p ps.length)) BY
    have g2:(upd H2 D2 (.lst (jK Prod.fst ps r.p ps.length))) D2=some (.lst (jK Prod.fst ps r.p ps.length)):=ac
    generalize upd H2 D2 (.lst (jK Prod.fst ps r.p ps.length))=H3 at s3 g2 ⊢
    refine⟨_,rfl,t,_,3,_,rfl,rfl,Af.of (s3 _ _ hT),ak (j:=3) rfl,l,rfl,⟨_,Aa.of (s3 _ _ hl)⟩,?_⟩
    refine fL (xs:=bV r.s) (fun _=>true) (fun v=>match v with | .int i => .bl (decide (i ∈ iz (eV Prod.fst ps r.p))) | _ => .An) (by rw[sizeLine_eq];simp only[bV,length_map];omega) (Aa.of (s3 _ _ hl)) (fun y acc N hy h=>?_) (fun D hD=>?_)
    ·obtain⟨k',_,rfl⟩:=mem_map.mp hy
     exact⟨_,rfl,_,rfl,(k':Int),D2,iz (eV Prod.fst ps r.p),rfl,by rw[← p0];exact Aa.of g2,by simpa using h⟩
    ·rw[qR]
     refine⟨D,r.s.map fun k=>decide (k ∈ eV Prod.fst ps r.p),rfl,Aa.of ac,?_⟩
     have:=q _ (s3.new (o := .lst ((r.s.map fun k=>decide (k ∈ eV Prod.fst ps r.p)).map V.bl)) hD)
     rw[e1]at this
     rw[vt]
     exact this
   | some k =>
    refine⟨_,rfl,rfl,_,rfl,aN ?_⟩
    refine⟨_,rfl,_,rfl,x,dx,_,rfl,hL.1,rfl,_,rfl,x,dx,lt,n,Ag,ps,r.p,rfl,hL,hlen,fun H' D s' hD=>?_⟩
    have s1:=s'.new (o := .lst (jK Prod.snd ps r.p ps.length)) hD
    refine⟨(k:Int),D,iz (eV Prod.snd ps r.p),rfl,by rw[← p0];exact Aa.of ac,_,rfl,?_⟩
    rw[pz]
    cases hk:decide (k ∈ eV Prod.snd ps r.p) with
    | false =>
     refine aN ?_
     have e:eY n ps r=false:=by unfold eY;rw[ho,hc];dsimp only;rw[hk];rfl
     have:=q _ s1
     rw[e]at this
     exact this
    | true =>
     have e1:eY n ps r=r.s.all fun k=>decide (k ∈ eV Prod.fst ps r.p):=by unfold eY;rw[ho,hc];dsimp only;rw[hk];rfl
     refine aJ ?_
     refine⟨_,rfl,x,dx,_,rfl,s1 _ _ hL.1,rfl,_,rfl,x,dx,lt,n,Ag,ps,r.p,rfl,⟨s1 _ _ hL.1,s1 _ _ hL.2.1,Aq.same s1 hL.2.2⟩,hlen,fun H2 D2 s2 BY=>?_⟩
     have s3:=(s1.trans s2).new (o := .lst (jK Prod.fst ps r.p ps.length)) BY
     have g2:(upd H2 D2 (.lst (jK Prod.fst ps r.p ps.length))) D2=some (.lst (jK Prod.fst ps r.p ps.length)):=ac
     generalize upd H2 D2 (.lst (jK Prod.fst ps r.p ps.length))=H3 at s3 g2 ⊢
     refine⟨_,rfl,t,_,3,_,rfl,rfl,Af.of (s3 _ _ hT),ak (j:=3) rfl,l,rfl,⟨_,Aa.of (s3 _ _ hl)⟩,?_⟩
     refine fL (xs:=bV r.s) (fun _=>true) (fun v=>match v with | .int i => .bl (decide (i ∈ iz (eV Prod.fst ps r.p))) | _ => .An) (by rw[sizeLine_eq];simp only[bV,length_map];omega) (Aa.of (s3 _ _ hl)) (fun y acc N hy h=>?_) (fun D hD=>?_)
     ·obtain⟨k',_,rfl⟩:=mem_map.mp hy
      exact⟨_,rfl,_,rfl,(k':Int),D2,iz (eV Prod.fst ps r.p),rfl,by rw[← p0];exact Aa.of g2,by simpa using h⟩
     ·rw[qR]
      refine⟨D,r.s.map fun k=>decide (k ∈ eV Prod.fst ps r.p),rfl,Aa.of ac,?_⟩
      have:=q _ (s3.new (o := .lst ((r.s.map fun k=>decide (k ∈ eV Prod.fst ps r.p)).map V.bl)) hD)
      rw[e1]at this
      rw[vt]
      exact this
structure Ts where
 tab:Addr
 told:Addr
 ne:Addr
noncomputable def sI (K:Frag):Sp:=fun vs H Q _=>∃ (x C dx:Addr)(lv:V),vs=[.ref x,lv]/\H x=some (.ins C dx [])/\C6 K C/\Ak K C "land"/\Q .An (upd H x (.ins C dx [("land",lv)]))
noncomputable def tw (r:Rw):V := .int (Yd.AE r.s 0:Nat)
noncomputable def sH (P:Program)(w:World)(K:Frag)(c:Cs)(ts:Ts):Sp:=fun vs H Q E=>∃ (x dx lx Aw lt p:Addr)(n:Int)(Ag Am:List V)(ps:List (Int × Int))(rs:List Rw),
 vs=[.ref x, .ref lx, .ref p]/\H x=some (.ins ts.told dx [])/\c6 H c lx Aw lt n Ag ps/\Aa K H p Am/\Dz H Am rs/\Am.length <= 100000/\ps.length <= 1000/\(∀ r ∈ rs,(∀ k ∈ r.s,k <= 1000)/\r.s.length <= 1000) /\
 (∀ i,dC n ps rs rs.length=some i->∀ H' d,Off x H H'->H' d=some (.xd [("row", .int i)])->E (.ref ts.ne) (some d) H') /\
 (dC n ps rs rs.length=none->∀ H' de kvs,Off x H H'->H' x=some (.ins ts.told dx [("land", .ref lx),("entries", .ref de)])->AQ P w H' de kvs->(∀ k,ce kvs k=(e9 rs k).map tw)->Q .An H')
noncomputable def pR (P:Program)(w:World)(ts:Ts):Sp:=fun vs H Q _=>∃ (x dx de:Addr)(lv:V)(kvs:List dQ)(r:Rw)(m:Nat),vs=[.ref x, .int r.p, .int r.g,cV r.c]/\H x=some (.ins ts.told dx [("land",lv),("entries", .ref de)])/\AQ P w H de kvs /\
 (ce kvs (aZ r)).getD (.int 0) = .int m/\m < 2 ^ 400/\∀ H' D,zW H H'->H' D=none->Q (.ref D) (upd H' D (.lst (wT m)))
structure R6 (K:Frag)(mg:Str->Option Value)(ts:Ts)(f1 f2:Addr)(d1 d2:FuncData):Prop where
 ct:C6 K ts.tab
 nt:Ak K ts.tab "land"
 cd:C6 K ts.told
 nd1:Ak K ts.told "land"
 OZ:Ak K ts.told "entries"
 mt:mg "Table" = some (.ref ts.tab)
 cm:vA K ts.tab "__init__" f1
 bt:Binds K d1 ["self", "land"] []
 mne:mg "NoEntry" = some (.ref ts.ne)
 WK:b8 K ts.ne (some (.ref f2))=true
 kne:keepIn K (.ref ts.ne)=true
 Fg:gK K ts.ne
 WL:findIn K (.ref ts.ne) "row" = some none
 ine:isFn K (.ref f2)=true
 Fne:As K "__init__" "NoEntry.__init__" OX f2 d2
 bne:Binds K d2 ["self", "row"] []
noncomputable abbrev NT:List Str:=["self", "land", "rows", "number", "row", "key"]
theorem Off.land {H H':Hp}{x C dx:Addr}(o:Off x H H')(hx:H x=some (.ins C dx [])){c:Cs}{lx Aw lt:Addr}{n:Int}{Ag:List V}{ps:List (Int × Int)}(h:c6 H c lx Aw lt n Ag ps):c6 H' c lx Aw lt n Ag ps :=
 ⟨o _ _ (aX h.1 hx (by intro z;cases z)) h.1,o _ _ (aX h.2.1 hx (by intro z;cases z)) h.2.1,o.Dy hx h.2.2⟩
theorem R7:ao ["self", "row"] ["self", "row"] (ai OX):=L2.Ax
theorem Lz {f:Addr}{fd:FuncData}(F:As K "__init__" "NoEntry.__init__" OX f fd):zX P w K mg base aC 1 f fd ["self", "row"] (qY K "row"):=by
 refine F.ok R7 (fun vs H Q E h=>?_) (fun cdv A outer s H vs Q E hr h=>?_)
 ·obtain⟨e,C,tt,v,rfl,_⟩:=h
  rfl
 ·obtain⟨e,C,tt,v,rfl,h1,h2,h3,q⟩:=h
  refine⟨_,ah (lA (pv 0) (pv 1) rfl),?_⟩
  exact⟨_,rfl,_,rfl,e,C,tt,rfl,h1,h2,h3,q⟩
theorem L0:ao ["self", "land"] ["self", "land"] (ai yy):=L2.Ax
theorem yT {f:Addr}{fd:FuncData}(F:As K "__init__" "Table.__init__" yy f fd):zX P w K mg base aC 1 f fd ["self", "land"] (sI K):=by
 refine F.ok L0 (fun vs H Q E h=>?_) (fun cdv A outer s H vs Q E hr h=>?_)
 ·obtain⟨x,C,dx,lv,rfl,_⟩:=h
  rfl
 ·obtain⟨x,C,dx,lv,rfl,hx,hc,hn,q⟩:=h
  refine⟨_,ah (aR (pv 0) (pv 1) rfl),?_⟩
  exact⟨_,rfl,_,rfl,x,C,dx,_,rfl,hx,hc,hn,by show 0 < 1000;decide,q⟩
theorem vO:ao ["self", "place", "goal", "came"] ["self", "place", "goal", "came"] (ai oH):=L2.Ax
theorem ur {ts:Ts}{f fm f1 f2:Addr}{fd dm d1 d2:FuncData}(F:As K "ways" "Told.ways" oH f fd)(B:R6 K mg ts f1 f2 d1 d2)(mm:mg "members" = some (.ref fm))(km:keepIn K (.ref fm)=true)(bm:Binds K dm ["some"] [])
  (Gm:zX P w K mg base aC 2 fm dm ["some"] sP):zX P w K mg base aC 3 f fd ["self", "place", "goal", "came"] (pR P w ts):=by
 refine F.ok vO (fun vs H Q E h=>?_) (fun cdv A outer s H vs Q E hr h=>?_)
 ·obtain⟨x,dx,de,lv,kvs,r,m,rfl,_⟩:=h
  rfl
 ·obtain⟨x,dx,de,lv,kvs,r,m,rfl,hx,hd,hv,hm,q⟩:=h
  have hu:=kK hr
  refine⟨_,ah (ar (aq Gm hr rfl mm km bm .nil ap (aa (mR hu (al (pv 0) rfl) (aa (bH (aa (pv 1) (aa (pv 2) (aa (pv 3) ad)))) (aa aj ad))) ad))),?_⟩
  refine⟨_,rfl,x,ts.told,dx,_,_,rfl,hx,B.cd,B.OZ,rfl,de,kvs,rfl,hd,?_⟩
  refine⟨_,rfl,_,rfl,_,rfl,by show 3 <= sizeLine;decide,fun t ht=>?_⟩
  have s1:zW H (upd H t (.tup [.int r.p, .int r.g,cV r.c])):=(zW.refl H).new ht
  refine⟨_,_,ce kvs (aZ r),rfl,⟨kvs,aZ r,t,hd.same s1,rfl,by rw[qC];exact ac,rfl⟩,?_⟩
  rw[hv]
  exact⟨m,rfl,hm,fun D hD=>q _ D s1 hD⟩
theorem CJ:ao NT ["self", "land", "rows"] (ai tE):=L2.Ax
theorem wr {c:Cs}{ts:Ts}{f ff fs f1 f2:Addr}{fd df ds d1 d2:FuncData}(F:As K "__init__" "Told.__init__" tE f fd)(T:dR mg)(B:R6 K mg ts f1 f2 d1 d2)(G1:zX P w K mg base aC 1 f1 d1 ["self", "land"] (sI K))
  (mf:mg "row_fits" = some (.ref ff)) (kf:keepIn K (.ref ff)=true) (bf:Binds K df ["land", "row"] []) (Gf:zX P w K mg base aC 4 ff df ["land", "row"] (sZ c))
  (ms:mg "set_of" = some (.ref fs)) (ks:keepIn K (.ref fs)=true) (bs:Binds K ds ["numbers"] []) (Gs:zX P w K mg base aC 1 fs ds ["numbers"] (sJ K)) :
  zX P w K mg base (eE P w) 5 f fd ["self", "land", "rows"] (sH P w K c ts):=by
 have Gn:zX P w K mg base aC 1 f2 d2 ["self", "row"] (qY K "row"):=Lz B.Fne
 refine F.Fl CJ (fun vs H Q E h=>?_) (fun cdv A outer s H vs Q E hr h=>?_)
 ·obtain⟨x,dx,lx,Aw,lt,p,n,Ag,Am,ps,rs,rfl,_⟩:=h
  rfl
 ·obtain⟨x,dx,lx,Aw,lt,p,n,Ag,Am,ps,rs,rfl,hx,hL,hp,hR,hlen,EL,WM,hE,hQ⟩:=h
  have AI:Ah 1 _:=hr.mono (by decide)
  have Bv:Ah 2 _:=hr.mono (by decide)
  have hu:=kK hr
  refine⟨_,af (aK (mS (eO (v := .ref ts.tab) rfl B.mt rfl) B.cm G1 AI B.bt .nil ap (aa (pv 0) (aa (pv 1) ad))))
   (af (aR (pv 0) (show PE _ _ (sA P w) from qm) rfl)
   (ah (bv qq rfl (mQ rfl T.enum (aa (pv 2) ad)) (j9 rfl (ci (au (i:=3) CJ.nd rfl (Or.inl rfl)) (ci (au (i:=4) CJ.nd rfl (Or.inl rfl)) io)))
    (af (aE (i:=5) CJ.nd rfl (Or.inl rfl) (bH (aa (av aF (pv 4) aj (fun _ _=>rfl)) (aa (av aF (pv 4) aj (fun _ _=>rfl)) (aa (av aF (pv 4) aj (fun _ _=>rfl)) ad)))))
    (af (aO (PW.pt (j5 (cj (bQ (aq Gf hr rfl mf kf bf .nil ap (aa (pv 1) (aa (pv 4) ad))))) (gF (ub (yK hu (pv 5) (al (pv 0) rfl))))))
     (ah (bF rfl B.WK aP (je B.WK B.ine B.kne Gn Bv B.bne rfl B.mne (aa (pv 3) ad)))) aH)
    (ah (qk hu (al (pv 0) rfl) (pv 5) (aq Gs AI rfl ms ks bs .nil ap (aa (av aF (pv 4) aj (fun _ _=>rfl)) ad)) rfl))))))),?_⟩
  refine⟨rfl,_,rfl,_,rfl,x,ts.told,dx,_,rfl,hx,B.cd,B.nd1,?_⟩
  refine fun de Dx=>⟨_,rfl,x,ts.told,dx,[("land", .ref lx)],rfl,by rw[ae (ag ac Dx)];exact ac,B.cd,B.OZ,by show 1 < 1000;decide,?_⟩
  have Fq:x ≠ de:=ag ac Dx
  have EM:H de=none:=by rw[ae (Ne.symm Fq)]at Dx;exact Dx
  generalize ED:upd (upd (upd H x (.ins ts.told dx [("land", .ref lx)])) de (jZ P w de [])) x (.ins ts.told dx (aM "entries" (.ref de) [("land", .ref lx)]))=H2
  have o2:Off x H H2:=fun b o hb e=>by rw[← ED,ae hb,ae (ag e EM),ae hb];exact e
  have x2:H2 x=some (.ins ts.told dx [("land", .ref lx),("entries", .ref de)]):=by rw[← ED,ac];rfl
  have d2:AQ P w H2 de []:=⟨by rw[← ED,ae (Ne.symm Fq),ac],fun y hy=>by cases hy⟩
  have Jy:Am.length=rs.length:=Paired.length hR
  refine⟨_,rfl,p,rfl,⟨_,o2.sq hx hp⟩,n0 (sq:=fun H=>Aa K H p) (xs:=Am) (fun i σ H3=>∃ (a b k:Option V)(kvs:List dQ),Off x H H3/\H3 x=some (.ins ts.told dx [("land", .ref lx),("entries", .ref de)])/\AQ P w H3 de kvs/\kvs.length <= i /\
    (∀ k,ce kvs k=(e9 (rs.take i) k).map tw)/\(∀ j,j < i->nS n ps (rs.take j) (rs.getD j ⟨0,0,none,[]⟩)=false)/\σ=[some (.ref x),some (.ref lx),some (.ref p),a,b,k])
   ⟨none,none,none,[],o2,x2,d2,le_refl _,fun k=>rfl,fun j hj=>absurd hj (not_lt_zero _),rfl⟩ (fun i σ H3 _ ⟨_,_,_,_,o3,_⟩=>o3.sq hx hp) ?_ ?_⟩
  ·rintro i v q σ H3 hv ⟨a,b,k,kvs,o3,x3,d3,l3,v3,g3,rfl⟩ hq
   obtain⟨r,hri,t,l,rfl,hT⟩:=Dz.get hR hv
   have hi:i < rs.length:=(List.getElem?_eq_some_iff.mp hri).1
   have Pa:rs.getD i ⟨0,0,none,[]⟩ = r:=by rw[getD_eq_getElem?_getD,hri];rfl
   have Il:Ij H3 t l r:=⟨o3 _ _ (aX hT.1 hx (by intro z;cases z)) hT.1,o3 _ _ (aX hT.2 hx (by intro z;cases z)) hT.2⟩
   have CK:=o3.land hx hL
   have s4:zW H3 (upd H3 q (.tup [.int i, .ref t])):=(zW.refl H3).new hq
   refine⟨q,_,rfl,Af.of ac,rfl,_,_,rfl,_,_,rfl,rfl,?_⟩
   generalize upd H3 q (.tup [.int i, .ref t])=H4 at s4 ⊢
   have GQ:Af K H4 t [.int r.p, .int r.g,cV r.c, .ref l]:=Af.of (s4 _ _ Il.1)
   refine⟨_,rfl,t,_,0,_,rfl,rfl,GQ,ak (j:=0) rfl,_,rfl,t,_,1,_,rfl,rfl,GQ,ak (j:=1) rfl,_,rfl,t,_,2,_,rfl,rfl,GQ,ak (j:=2) rfl,by show 3 <= sizeLine;decide,fun kt R8=>?_⟩
   have s5:zW H3 (upd H4 kt (.tup [.int r.p, .int r.g,cV r.c])):=s4.new R8
   have k5:(upd H4 kt (.tup [.int r.p, .int r.g,cV r.c])) kt=some (.tup ((aZ r).map sh)):=by rw[qC];exact ac
   generalize upd H4 kt (.tup [.int r.p, .int r.g,cV r.c])=H5 at s5 k5 ⊢
   refine⟨_,rfl,_,rfl,lx,Aw,lt,t,l,n,Ag,ps,r,rfl,⟨s5 _ _ CK.1,s5 _ _ CK.2.1,Aq.same s5 CK.2.2⟩,Il.same s5,EL,(WM r (mem_of_getElem? hri)).2,fun H6 WN=>⟨_,rfl,?_⟩⟩
   have s6:=s5.trans WN
   have k6:=WN _ _ k5
   have x6:=s6 _ _ x3
   have d6:=d3.same s6
   have GR:nS n ps (rs.take i) r=true->∀ e tt,H6 e=none->∀ d,upd H6 e (bP e ts.ne tt none) d=none ->
     ∃ dd,(upd (upd (upd H6 e (bP e ts.ne tt none)) d (.xd [("row", .int i)])) e (bP e ts.ne tt (some d))) e=some (bP e ts.ne tt dd)/\E (.ref ts.ne) dd (vn (upd (upd (upd H6 e (bP e ts.ne tt none)) d (.xd [("row", .int i)])) e (bP e ts.ne tt (some d))) e):=by
    intro hb e tt he d hd
    obtain⟨m1,m2,m3⟩:=iI (o:=bP e ts.ne tt none) (o':=bP e ts.ne tt (some d)) (x := .xd [("row", .int i)]) he hd
    exact⟨some d,m3,hE i (kj hi g3 (by rw[Pa];exact hb)) _ d (o3.same (s6.trans m1)) m2⟩
   cases hf:eY n ps r with
   | false =>
    refine aN (aN ⟨_,rfl,by show 1 <= sizeLine;decide,fun e tt he=>⟨e,_,tt,_,rfl,ac,B.Fg,B.WL,fun d hd=>⟨rfl,?_⟩⟩⟩)
    exact GR (by rw[iB,hf];rfl) e tt he d hd
   | true =>
    refine aJ ⟨_,rfl,_,rfl,x,ts.told,dx,_,_,rfl,x6,B.cd,B.OZ,rfl,de,_,rfl,⟨kvs,aZ r,kt,d6,rfl,k6,rfl⟩,_,rfl,?_⟩
    have eS:(ce kvs (aZ r)).isSome=(rs.take i).any fun a=>decide (aZ a=aZ r):=by rw[v3,Option.isSome_map,lJ]
    cases hS:(ce kvs (aZ r)).isSome with
    | true =>
     refine aN ⟨_,rfl,by show 1 <= sizeLine;decide,fun e tt he=>⟨e,_,tt,_,rfl,ac,B.Fg,B.WL,fun d hd=>⟨rfl,?_⟩⟩⟩
     exact GR (by rw[iB,hf,← eS,hS];rfl) e tt he d hd
    | false =>
     refine aJ ?_
     have L4:=Il.same s6
     refine⟨_,rfl,t,_,3,_,rfl,rfl,Af.of L4.1,ak (j:=3) rfl,l,r.s,rfl,Aa.of L4.2,(WM r (mem_of_getElem? hri)).1,?_⟩
     refine⟨_,rfl,x,ts.told,dx,_,_,rfl,x6,B.cd,B.OZ,rfl,_,rfl,de,kvs,aZ r,kt,rfl,d6,rfl,k6,by rw[sizeLine_eq];omega,?_⟩
     have hx6:x ≠ de:=Fq
     refine⟨_,_,_,fz kvs (aZ r) kt (tw r),fun b' o hb e=>?_,?_,⟨ac,k9 (F:=fun k a=>(upd H6 de (jZ P w de (fz kvs (aZ r) kt (tw r)))) a=some (.tup (k.map sh))) (fun y hy=>?_) ?_⟩,?_,fun k'=>?_,fun j hj=>?_,rfl⟩
     ·rw[ae (ag e EM)];exact s6 _ _ (o3 _ _ hb e)
     ·rw[ae Fq];exact x6
     ·rw[ae (aX (d6.2 y hy) d6.1 (by intro z;cases z))];exact d6.2 y hy
     ·rw[ae (aX k6 d6.1 (by intro z;cases z))];exact k6
     ·exact le_trans fv (Nat.succ_le_succ l3)
     ·rw[gY,take_succ,hri,Option.toList_some,py,v3]
      by_cases hk:k' = aZ r
      ·rw[if_pos hk,if_pos hk];rfl
      ·rw[if_neg hk,if_neg hk]
     ·rcases lt_or_ge j i with h | h
      ·exact g3 j h
      ·have:j=i:=by omega
       subst this
       rw[Pa,iB,hf,← eS,hS];rfl
  ·rintro σ H3 ⟨a,b,k,kvs,o3,x3,d3,l3,v3,g3,rfl⟩
   rw[Jy]at g3 v3
   rw[take_length]at v3
   exact hQ (gh g3) H3 de kvs o3 x3 d3 v3
noncomputable def nV (ps:List Nat):List V:=ps.map fun q:Nat=>V.int (q:Int)
theorem dA (ps:List Nat):(nV ps).length=ps.length:=by simp[nV]
theorem lH {ps:List Nat}{k q:Nat}(h:ps[k]? = some q):(nV ps)[k]? = some (V.int (q:Int)):=by simp[nV,h]
theorem uM (a b:List Nat):nV (a ++ b)=nV a ++ nV b:=by unfold nV;rw[map_append]
theorem uK {ps:List Nat}{v:V}(h:v ∈ nV ps):∃ q:Nat,q ∈ ps/\v = .int (q:Int):=by
 obtain⟨q,hq,e⟩:=mem_map.mp h
 exact⟨q,hq,e.symm⟩
noncomputable def oF (c:Cs)(sel:Int × Int->Int):Sp:=fun vs H Q _=>∃ (x dx t:Addr)(n:Int)(Ag:List V)(ps:List (Int × Int))(k:Nat)(pr:Int × Int),vs=[.ref x, .int k]/\c6 H c x dx t n Ag ps/\ps[k]? = some pr/\Q (.int (sel pr)) H
structure xy (K:Frag)(c:Cs)(f:Addr)(d:FuncData):Prop where
 m:bz K c.land "end_of" f
 b:Binds K d ["self", "lane"] []
theorem bN (a b:Int):decide (V.int a=V.int b)=decide (a=b):=by
 by_cases h:a=b
 ·rw[h];simp
 ·rw[decide_eq_false h,decide_eq_false fun z=>h (by injection z)]
theorem i0 {n i:Nat}(h:i < n):wZ n (i:Int)=some i:=by
 unfold wZ
 rw[if_pos (by omega),if_pos (by omega),toNat_natCast]
noncomputable def mN (m:Nat):List Nat:=Yd.DC m (Builtin.Int.intBits (m:Int))
theorem uL:∀ {a b:List Nat},nV a=nV b->a=b
 | [],[],_=>rfl
 | [],_ :: _,h=>by cases h
 | _ :: _,[],h=>by cases h
 | x :: a,y :: b,h=>by
  unfold nV at h
  rw[map_cons,map_cons]at h
  injection h with h1 h2
  injection h1 with h1
  rw[uL (a:=a) (b:=b) h2,show x=y by omega]
theorem L5:ao ["self", "lane"] ["self", "lane"] (ai yD):=L2.Ax
theorem zj {c:Cs}{f:Addr}{fd:FuncData}(F:As K "end_of" "Land.end_of" yD f fd)(L:lY K c):zX P w K mg base aC 1 f fd ["self", "lane"] (oF c Prod.snd):=by
 refine F.ok L5 (fun vs H Q E h=>?_) (fun cdv A outer s H vs Q E hr h=>?_)
 ·obtain⟨x,dx,t,n,Ag,ps,k,pr,rfl,_⟩:=h
  rfl
 ·obtain⟨x,dx,t,n,Ag,ps,k,pr,rfl,⟨hx,ht,hl⟩,hk,q⟩:=h
  refine⟨_,ah (ar (av aF (av aF (al (pv 0) rfl) (pv 1) (fun _ _=>rfl)) aj (fun _ _=>rfl))),?_⟩
  obtain⟨v,hv,u,rfl,hu⟩:=Aq.EK hl hk
  refine⟨_,rfl,x,c.land,dx,_,_,rfl,hx,L.cl,L.nl,rfl,_,rfl,t,_,_,_,rfl,rfl,Af.of ht,ak hv,u,_,1,_,rfl,rfl,Af.of hu,ak (j:=1) rfl,q⟩
noncomputable def isI:V->Bool
 | .int _=>true
 | _=>false
noncomputable def kB:V->Int->Int->Bool
 | .int i,a,b=>decide (a <= i/\i <= b)
 | _,_,_=>false
inductive sd:V->Prop
 | int (i:Int):sd (.int i)
 | bl (b:Bool):sd (.bl b)
 | An:sd .An
structure vw (K:Frag):Prop where
 ii:kitOne K (.type "int") (.type "int")=some true
 ib:kitOne K (.type "int") (.type "bool")=some false
 bi:kitOne K (.type "bool") (.type "int")=some true
 bb:kitOne K (.type "bool") (.type "bool")=some true
 ni:kitOne K (.type "NoneType") (.type "int")=some false
noncomputable def gZ:Sp:=fun vs H Q _=>∃ v,vs=[v]/\sd v/\Q (.bl (isI v)) H
noncomputable def fM:Sp:=fun vs H Q _=>∃ (v:V)(a b:Int),vs=[v, .int a, .int b]/\sd v/\Q (.bl (kB v a b)) H
noncomputable def oE (K:Frag):Sp:=fun vs H Q _=>∃ (a:Addr)(ns:List Int)(k:Nat),vs=[.ref a, .int k]/\Aa K H a (ns.map V.int)/\∀ d,Q (.int d) H
noncomputable def m9:Sp:=fun vs H Q _=>∃ (c:Int)(k:Nat),vs=[.int c, .int k]/\k <= 1000000/\∀ d:Int,0 <= d->Q (.int d) H
theorem Aq.imp {H H':Hp}(h:∀ v p,xx H v p->xx H' v p):∀ {vs:List V}{ps:List (Int × Int)},Aq H vs ps->Aq H' vs ps
 | _,_, .nil => .nil
 | _,_, .cons z r => .cons (h _ _ z) (Aq.imp h r)
noncomputable def hV:Option Int->V
 | none => .An
 | some z => .int z
noncomputable abbrev Fs:=List (Str × V)
noncomputable def iV (r b:Int)(h:V)(pa:Addr):Fs:=[("rights", .int r),("returning", .int b),("holder",h),("pieces", .ref pa)]
structure Ar (H:Hp)(C x dx pa:Addr)(r b:Int)(h:Option Int)(Al:List V)(qs:List (Int × Int)):Prop where
 ins:H x=some (.ins C dx (iV r b (hV h) pa))
 lst:H pa=some (.lst Al)
 Bp:Aq H Al qs
noncomputable def Bz (x pa:Addr)(H H':Hp):Prop:=∀ a o,a ≠ x->a ≠ pa->H a=some o->H' a=some o
theorem Bz.Dy {C x dx pa:Addr}{fs:Fs}{Al:List V}{H H':Hp}(h:Bz x pa H H')(hx:H x=some (.ins C dx fs))(hp:H pa=some (.lst Al)){vs:List V}{qs:List (Int × Int)}:Aq H vs qs->Aq H' vs qs :=
 Aq.imp fun _ _ ⟨t,e,q⟩=>⟨t,e,h _ _ (aX q hx (by intro z;cases z)) (aX q hp (by intro z;cases z)) q⟩
theorem Ar.same {H H':Hp}{C x dx pa:Addr}{r b:Int}{h:Option Int}{Al:List V}{qs:List (Int × Int)}(L:Ar H C x dx pa r b h Al qs)(s:zW H H'):Ar H' C x dx pa r b h Al qs:=⟨s _ _ L.ins,s _ _ L.lst,Aq.same s L.Bp⟩
noncomputable def cx (r:Int)(h:Option Int)(l c:Int):Bool:=if r=0 then false else if c=0 then decide (h=none) else decide (h=some l)
theorem zB (h:Option Int):decide (hV h=V.An)=decide (h=none):=by cases h<;>rfl
theorem zC (h:Option Int)(l:Int):decide (hV h=V.int l)=decide (h=some l):=by
 cases h with
 | none=>rfl
 | some z =>
  show decide (V.int z=V.int l)=_
  rw[bN]
  by_cases e:z=l
  ·rw[decide_eq_true e,decide_eq_true (by rw[e])]
  ·rw[decide_eq_false e,decide_eq_false fun q=>e (Option.some.inj q)]
theorem xb (h:Option Int)(l:Int):yn (hV h) (.int l)=true:=by cases h<;>rfl
structure xw (K:Frag)(C:Addr):Prop where
 cl:C6 K C
 n1:Ak K C "rights"
 n2:Ak K C "returning"
 n3:Ak K C "holder"
 n4:Ak K C "pieces"
structure L6 (K:Frag)(mg:Str->Option Value)(nm:Addr):Prop where
 m:mg "NoMove" = some (.ref nm)
 x:b8 K nm none=true
 k:keepIn K (.ref nm)=true
 e:PySem.W.exmOne K (.ref nm) (.ref nm)=some true
noncomputable def sR (C:Addr):Sp:=fun vs H Q _=>∃ (x dx:Addr)(room:Int),vs=[.ref x, .int room]/\H x=some (.ins C dx [])/\∀ (pa:Addr)(H':Hp),H pa=none->(∀ a o,a ≠ x->H a=some o->H' a=some o)->Ar H' C x dx pa room 0 none [] []->Q .An H'
noncomputable def lj (C:Addr):Sp:=fun vs H Q _=>∃ (x dx pa:Addr)(r b:Int)(h:Option Int)(l c:Int),vs=[.ref x, .int l, .int c]/\H x=some (.ins C dx (iV r b (hV h) pa))/\Q (.bl (cx r h l c)) H
noncomputable def xA (C nm:Addr):Sp:=fun vs H Q E=>∃ (x dx pa:Addr)(r b:Int)(h:Option Int)(Al:List V)(qs:List (Int × Int))(l c:Int)(last:Bool),vs=[.ref x, .int l, .int c, .bl last]/\Ar H C x dx pa r b h Al qs/\Al.length < 100000 /\
 (cx r h l c=false->∀ H',zW H H'->E (.ref nm) none H') /\
 (cx r h l c=true->∀ (t:Addr)(H':Hp),Bz x pa H H'->Ar H' C x dx pa (r - 1) b (if last then none else some l) (Al ++ [.ref t]) (qs ++ [(l,c)])->Q .An H')
noncomputable def p7:List V->V
 | [] => .An
 | v :: _=>v
noncomputable def jb (C:Addr):Sp:=fun vs H Q _=>∃ (x dx pa:Addr)(r b:Int)(h:Option Int)(Al:List V)(qs:List (Int × Int)),vs=[.ref x]/\Ar H C x dx pa r b h Al qs/\Q (p7 Al) H
noncomputable def o0 (C nm:Addr):Sp:=fun vs H Q E=>∃ (x dx pa:Addr)(r b:Int)(h:Option Int)(Al:List V)(qs:List (Int × Int)),vs=[.ref x]/\Ar H C x dx pa r b h Al qs /\
 (Al=[]->∀ H',zW H H'->E (.ref nm) none H') /\
 (∀ v rest,Al=v :: rest->∀ H':Hp,Bz x pa H H'->Ar H' C x dx pa r (b + 1) h rest qs.tail->Q v H')
noncomputable def qf (C nm:Addr):Sp:=fun vs H Q E=>∃ (x dx pa:Addr)(r b:Int)(h:Option Int)(Al:List V)(qs:List (Int × Int)),vs=[.ref x]/\Ar H C x dx pa r b h Al qs /\
 (b=0->∀ H',zW H H'->E (.ref nm) none H') /\
 (b ≠ 0->∀ H':Hp,Bz x pa H H'->Ar H' C x dx pa (r + 1) (b - 1) h Al qs->Q .An H')
noncomputable def xG (C:Addr):Sp:=fun vs H Q _=>∃ (x dx pa:Addr)(r b:Int)(h:Option Int)(Al:List V)(qs:List (Int × Int)),vs=[.ref x]/\Ar H C x dx pa r b h Al qs /\
 ∀ (t ql:Addr)(H':Hp),zW H H'->H ql=none->H' t=some (.tup [.int r, .int b,hV h, .ref ql])->H' ql=some (.lst Al)->Q (.ref t) H'
theorem R9 (n:Nat):seqIndex? 0 (n + 1)=some 0:=by
 unfold seqIndex?
 simp
theorem kC {f:Addr}{fd:FuncData}(F:As K "is_whole" "is_whole" gr f fd)(T:dR mg)(Z:vw K):zX P w K mg base aC 1 f fd ["value"] gZ:=by
 refine F.ok qj (fun vs H Q E h=>?_) (fun cdv A outer s H vs Q E hr h=>?_)
 ·obtain⟨m,rfl,_⟩:=h
  rfl
 ·obtain⟨v,rfl,hv,q⟩:=h
  refine⟨_,ah (ar (dI (az iA rfl T.Jx PyProof.Rows.boot_isinstance (aa (pv 0) (aa (fP (v := .ty "int") rfl T.int PySem.Pv.boot_int rfl) ad)))
   (dH (ug (az iA rfl T.Jx PyProof.Rows.boot_isinstance (aa (pv 0) (aa (fP (v := .ty "bool") rfl T.bool PySem.Pv.boot_bool rfl) ad))))))),?_⟩
  cases hv with
  | int i=>exact⟨_,rfl, .int i,_, "int",true,rfl, .int i,Z.ii,true,rfl,aN ⟨_,rfl, .int i,_, "bool",false,rfl, .int i,Z.ib,false,rfl,q⟩⟩
  | bl b=>exact⟨_,rfl, .bl b,_, "int",true,rfl, .bl b,Z.bi,true,rfl,aN ⟨_,rfl, .bl b,_, "bool",true,rfl, .bl b,Z.bb,true,rfl,q⟩⟩
  | An=>exact⟨_,rfl, .An,_, "int",false,rfl, .An,Z.ni,false,rfl,aJ q⟩
theorem oZ {f fh:Addr}{fd CS:FuncData}(F:As K "is_within" "is_within" jd f fd)(T:dR mg)(Z:vw K)(mh:mg "is_whole" = some (.ref fh))(Fh:As K "is_whole" "is_whole" gr fh CS)(bh:Binds K CS ["value"] []) :
  zX P w K mg base aC 2 f fd ["value", "least", "most"] fM:=by
 have G:zX P w K mg base aC 1 fh CS ["value"] gZ:=kC Fh T Z
 refine F.ok mE (fun vs H Q E h=>?_) (fun cdv A outer s H vs Q E hr h=>?_)
 ·obtain⟨i,a,b,rfl,_⟩:=h
  rfl
 ·obtain⟨v,a,b,rfl,hv,q⟩:=h
  refine⟨_,ah (ar (dI (aq G hr rfl mh Fh.kp bh .nil ap (aa (pv 0) ad)) (dH (mT qu qu (pv 1) (pv 0) (pv 2))))),?_⟩
  cases hv with
  | bl x=>exact⟨_,rfl,_,rfl, .bl x,false,rfl,aJ q⟩
  | An=>exact⟨_,rfl,_,rfl, .An,false,rfl,aJ q⟩
  | int i =>
   refine⟨_,rfl,_,rfl, .int i,true,rfl,aN ?_⟩
   refine⟨_,rfl,_,rfl,_,_,rfl,rfl,_,rfl,?_⟩
   have q:Q (V.bl (decide (a <= i/\i <= b))) H:=q
   by_cases h1:a <= i
   ·rw[decide_eq_true h1]
    refine aN ⟨_,rfl,_,_,rfl,rfl,?_⟩
    show Q (V.bl (decide (i <= b))) H
    by_cases h2:i <= b
    ·rw[decide_eq_true h2];rw[decide_eq_true ⟨h1,h2⟩]at q;exact q
    ·rw[decide_eq_false h2];rw[decide_eq_false fun z=>h2 z.2]at q;exact q
   ·rw[decide_eq_false h1]
    refine aJ ?_
    rw[decide_eq_false fun z=>h1 z.1]at q;exact q
theorem yu:ao ["_law_script", "_law_k"] ["_law_script", "_law_k"] (ai tU):=L2.Ax
theorem wM {f:Addr}{fd:FuncData}(F:As K "_law_cell_at" "_law_cell_at" tU f fd)(T:dR mg):zX P w K mg base aC 1 f fd ["_law_script", "_law_k"] (oE K):=by
 refine F.ok yu (fun vs H Q E h=>?_) (fun cdv A outer s H vs Q E hr h=>?_)
 ·obtain⟨a,ns,k,rfl,_⟩:=h
  rfl
 ·obtain⟨a,ns,k,rfl,hS,q⟩:=h
  refine⟨_,af (aO (ax qt (pv 1) (az aw rfl T.len PySem.boot_len (aa (pv 0) ad)) (aB _))
    (ah (ar (av aI (pv 0) (pv 1) (fun _ _=>rfl)))) aH) (ah (ar aj)),?_⟩
  refine⟨_,rfl,_,rfl,a,_,rfl, .inl hS,_,_,rfl,rfl,_,rfl,?_⟩
  refine QV (fun h=>?_) fun _=>q _
  have h':(k:Int) < ((ns.map V.int).length:Nat):=of_decide_eq_true h
  rw[length_map]at h'
  have hk:k < ns.length:=by omega
  exact⟨_,rfl,_,rfl,a,_,k,V.int ns[k],rfl,rfl,hS,ak (by simp[hk]),q _⟩
theorem GU:ao ["_law_cell", "_law_k", "_law_number"] ["_law_cell", "_law_k"] (ai y3):=L2.Ax
theorem yY {f:Addr}{fd:FuncData}(F:As K "_law_mixed" "_law_mixed" y3 f fd):zX P w K mg base aC 1 f fd ["_law_cell", "_law_k"] m9:=by
 refine F.ok GU (fun vs H Q E h=>?_) (fun cdv A outer s H vs Q E hr h=>?_)
 ·obtain⟨c,k,rfl,_⟩:=h
  rfl
 ·obtain⟨c,k,rfl,hk,q⟩:=h
  refine⟨_,af (aE (i:=2) GU.nd rfl (Or.inl rfl) (aD bJ (aD jB (aD bR (aD bR (aD bJ (pv 0) aj) (aD jB aj (pv 1))) aj) aj) aj))
   (ah (ar (aD bJ (aD jB (pv 2) (aD bR (aD c9 (pv 2) aj) aj)) aj))),?_⟩
  have pos:(0:Int) < 2147483647:=by decide
  refine⟨_,rfl,_,_,rfl,rfl,pos,_,rfl,_,_,rfl,rfl, .inl ⟨by decide,by decide⟩,_,_,rfl,rfl,_,_,rfl,rfl,_,_,rfl,rfl, .inr ⟨by decide,by decide⟩,_,_,rfl,rfl,pos,?_⟩
  dsimp only
  have h1:=emod_nonneg ((c % 2147483647 + 7919 * (k:Int) + 1) * 48271) (show (2147483647:Int) ≠ 0 by decide)
  have h2:=emod_lt_of_pos ((c % 2147483647 + 7919 * (k:Int) + 1) * 48271) pos
  generalize (c % 2147483647 + 7919 * (k:Int) + 1) * 48271 % 2147483647=m at h1 h2
  refine⟨_,rfl,_,rfl,_,_,rfl,rfl,⟨by decide,by decide⟩,_,_,rfl,rfl,_,_,rfl,rfl, .inl ⟨by omega,by omega⟩,_,_,rfl,rfl,pos,?_⟩
  exact q _ (emod_nonneg _ (by decide))
theorem L7:ao ["self", "room"] ["self", "room"] (ai y8):=L2.Ax
theorem ze {C f:Addr}{fd:FuncData}(F:As K "__init__" "Lane.__init__" y8 f fd)(L:xw K C):zX P w K mg base aC 1 f fd ["self", "room"] (sR C):=by
 refine F.ok L7 (fun vs H Q E h=>?_) (fun cdv A outer s H vs Q E hr h=>?_)
 ·obtain⟨x,dx,room,rfl,_⟩:=h
  rfl
 ·obtain⟨x,dx,room,rfl,hx,q⟩:=h
  refine⟨_,af (aR (pv 0) (pv 1) rfl) (af (aR (pv 0) aj rfl) (af (aR (pv 0) cI rfl) (ah (aR (pv 0) (aV ad) rfl)))),?_⟩
  refine⟨_,rfl,_,rfl,x,C,dx,_,rfl,hx,L.cl,L.n1,by show 0 < 1000;decide,?_⟩
  refine⟨_,rfl,x,C,dx,_,rfl,ac,L.cl,L.n2,by show 1 < 1000;decide,?_⟩
  refine⟨_,rfl,x,C,dx,_,rfl,ac,L.cl,L.n3,by show 2 < 1000;decide,?_⟩
  refine⟨zero_le _,fun pa Ee=>?_⟩
  have Dq:x ≠ pa:=ag ac Ee
  refine⟨_,rfl,x,C,dx,_,rfl,by rw[ae Dq];exact ac,L.cl,L.n4,by show 3 < 1000;decide,?_⟩
  have FA:H pa=none:=by
   rw[ae (Ne.symm Dq),ae (Ne.symm Dq),ae (Ne.symm Dq)]at Ee
   exact Ee
  refine q pa _ FA (fun a o ha e=>?_) ⟨ac,by rw[ae (Ne.symm Dq)];exact ac, .nil⟩
  have nap:a ≠ pa:=fun z=>by
   rw[z,FA]at e
   cases e
  rw[ae ha,ae nap,ae ha,ae ha,ae ha]
  exact e
theorem yr:ao ["self", "letter", "count"] ["self", "letter", "count"] (ai tJ):=L2.Ax
theorem wA {C f:Addr}{fd:FuncData}(F:As K "open_to" "Lane.open_to" tJ f fd)(L:xw K C):zX P w K mg base aC 1 f fd ["self", "letter", "count"] (lj C):=by
 refine F.ok yr (fun vs H Q E h=>?_) (fun cdv A outer s H vs Q E hr h=>?_)
 ·obtain⟨x,dx,pa,r,b,h,l,c,rfl,_⟩:=h
  rfl
 ·obtain⟨x,dx,pa,r,b,h,l,c,rfl,hx,q⟩:=h
  refine⟨_,af (aO (ax bG (al (pv 0) rfl) aj (aB _)) (ah (ar iR)) aH)
   (af (aO (ax bG (pv 2) aj (aB _)) (ah (ar (cS lG (al (pv 0) rfl) cI (aB _)))) aH)
   (ah (ar (cS bG (al (pv 0) rfl) (pv 1) (aB _))))),?_⟩
  refine⟨_,rfl,x,C,dx,_,_,rfl,hx,L.cl,L.n1,rfl,rfl,_,rfl,?_⟩
  rw[bN]
  unfold cx at q
  by_cases Pb:r=0
  ·rw[decide_eq_true Pb]
   rw[if_pos Pb]at q
   exact aN q
  rw[decide_eq_false Pb]
  rw[if_neg Pb]at q
  refine aJ ⟨_,rfl,rfl,_,rfl,?_⟩
  rw[bN]
  by_cases HU:c=0
  ·rw[decide_eq_true HU]
   rw[if_pos HU]at q
   refine aN ⟨_,rfl,x,C,dx,_,_,rfl,hx,L.cl,L.n3,rfl,rfl,?_⟩
   rw[zB]
   exact q
  ·rw[decide_eq_false HU]
   rw[if_neg HU]at q
   refine aJ ⟨_,rfl,x,C,dx,_,_,rfl,hx,L.cl,L.n3,rfl,_,rfl,xb h l,?_⟩
   rw[zC]
   exact q
theorem L8:ao ["self", "letter", "count", "last"] ["self", "letter", "count", "last"] (ai y1):=L2.Ax
theorem yV {C f nm fo:Addr}{fd CU:FuncData}(F:As K "put" "Lane.put" y1 f fd)(L:xw K C)(Ex:L6 K mg nm)(mo:bz K C "open_to" fo)(bo:Binds K CU ["self", "letter", "count"] [])(Go:zX P w K mg base aC 1 fo CU ["self", "letter", "count"] (lj C)) :
  zX P w K mg base (eE P w) 2 f fd ["self", "letter", "count", "last"] (xA C nm):=by
 refine F.Fl L8 (fun vs H Q E h=>?_) (fun cdv A outer s H vs Q E hr h=>?_)
 ·obtain⟨x,dx,pa,r,b,h,Al,qs,l,c,last,rfl,_⟩:=h
  rfl
 ·obtain⟨x,dx,pa,r,b,h,Al,qs,l,c,last,rfl,hL,hlen,h1,h2⟩:=h
  refine⟨_,af (aO (cj (bQ (aA (pv 0) L.cl mo Go hr bo .nil ap (aa (pv 1) (aa (pv 2) ad))))) (ah (bF rfl Ex.x aP (cf Ex.x Ex.k rfl rfl Ex.m (aa bC ad)))) aH)
   (af (dU (pv 0) aj qI)
   (af (aK (cu plainAttrs_list PySem.F.slot_list_append PySem.F.type_list_append b7 (al (pv 0) rfl) (aa (bH (aa (pv 1) (aa (pv 2) ad))) ad)))
   (ah (aR (pv 0) (dv (bQ (pv 3)) cI (pv 1)) rfl)))),?_⟩
  refine⟨_,rfl,x,dx,_,rfl,hL.ins,rfl,_,rfl,_,rfl,x,dx,pa,r,b,h,l,c,rfl,hL.ins,_,rfl,?_⟩
  cases ho:cx r h l c with
  | false =>
   refine aN ⟨by show 1 <= sizeLine;decide,?_⟩
   exact h1 ho H (zW.refl H)
  | true =>
   refine aJ ?_
   refine⟨_,rfl,x,C,dx,_,_,rfl,hL.ins,L.cl,L.n1,rfl,_,_,rfl,rfl,dx,_,hL.ins,by show 4 < 1000;decide,?_⟩
   have Dq:pa ≠ x:=aX hL.lst hL.ins (by intro z;cases z)
   have BE:(upd H x (.ins C dx (aM "rights" (.int (r - 1)) (iV r b (hV h) pa)))) x=some (.ins C dx (iV (r - 1) b (hV h) pa)):=ac
   have Az:(upd H x (.ins C dx (aM "rights" (.int (r - 1)) (iV r b (hV h) pa)))) pa=some (.lst Al):=by rw[ae Dq];exact hL.lst
   have o1:Bz x pa H (upd H x (.ins C dx (aM "rights" (.int (r - 1)) (iV r b (hV h) pa)))):=fun a o ha _ e=>by rw[ae ha];exact e
   show _
   generalize upd H x (.ins C dx (aM "rights" (.int (r - 1)) (iV r b (hV h) pa)))=H1 at BE Az o1 ⊢
   refine⟨_,rfl,x,C,dx,_,_,rfl,BE,L.cl,L.n4,rfl, .inl ⟨rfl,_,Aa.of Az⟩,_,rfl,_,rfl,by show 2 <= sizeLine;decide,fun t ht=>?_⟩
   have s2:=(zW.refl H1).new (o := .tup [.int l, .int c]) ht
   have gt:(upd H1 t (.tup [.int l, .int c])) t=some (.tup [.int l, .int c]):=ac
   generalize upd H1 t (.tup [.int l, .int c])=H2 at s2 gt ⊢
   refine⟨pa,Al,_,rfl,rfl,s2 _ _ Az,by rw[sizeLine_eq];omega,?_⟩
   have Pc:(upd H2 pa (.lst (Al ++ [.ref t]))) x=some (.ins C dx (iV (r - 1) b (hV h) pa)):=by rw[ae (Ne.symm Dq)];exact s2 _ _ BE
   have Cv:(upd H2 pa (.lst (Al ++ [.ref t]))) pa=some (.lst (Al ++ [.ref t])):=ac
   have o3:Bz x pa H (upd H2 pa (.lst (Al ++ [.ref t]))):=fun a o ha hb e=>by rw[ae hb];exact s2 _ _ (o1 a o ha hb e)
   have ntp:t ≠ pa:=aX gt (s2 _ _ Az) (by intro z;cases z)
   have RA:(upd H2 pa (.lst (Al ++ [.ref t]))) t=some (.tup [.int l, .int c]):=by rw[ae ntp];exact gt
   generalize upd H2 pa (.lst (Al ++ [.ref t]))=H3 at Pc Cv o3 RA ⊢
   have ntx:t ≠ x:=aX RA Pc (by intro z;cases z)
   have fin:∀ h':Option Int,Ar (upd H3 x (.ins C dx (aM "holder" (hV h') (iV (r - 1) b (hV h) pa)))) C x dx pa (r - 1) b h' (Al ++ [.ref t]) (qs ++ [(l,c)]):=fun h' =>
    ⟨ac,by rw[ae Dq];exact Cv,Aq.snoc ⟨t,rfl,by rw[ae ntx];exact RA⟩ (Bz.Dy (fun a o ha hb e=>by rw[ae ha];exact o3 a o ha hb e) hL.ins hL.lst hL.Bp)⟩
   have off:∀ o',Bz x pa H (upd H3 x o'):=fun o' a o ha hb e=>by rw[ae ha];exact o3 a o ha hb e
   refine⟨_,rfl,_,rfl,?_⟩
   cases last with
   | true=>exact aN ⟨_,rfl,x,C,dx,_,rfl,Pc,L.cl,L.n3,by show 4 < 1000;decide,h2 ho t _ (off _) (fin none)⟩
   | false=>exact aJ ⟨_,rfl,_,rfl,x,C,dx,_,rfl,Pc,L.cl,L.n3,by show 4 < 1000;decide,h2 ho t _ (off _) (fin (some l))⟩
theorem vQ:ao ["self"] ["self"] (ai oR):=L2.Ax
theorem uC {C f:Addr}{fd:FuncData}(F:As K "front" "Lane.front" oR f fd)(L:xw K C):zX P w K mg base aC 1 f fd ["self"] (jb C):=by
 refine F.ok vQ (fun vs H Q E h=>?_) (fun cdv A outer s H vs Q E hr h=>?_)
 ·obtain⟨x,dx,pa,r,b,h,Al,qs,rfl,_⟩:=h
  rfl
 ·obtain⟨x,dx,pa,r,b,h,Al,qs,rfl,hL,q⟩:=h
  refine⟨_,ah (ar (dv (j6 (al (pv 0) rfl) (fun _=>rfl)) (av aI (al (pv 0) rfl) aj (fun _ _=>rfl)) cI)),?_⟩
  refine⟨_,rfl,x,C,dx,_,_,rfl,hL.ins,L.cl,L.n4,rfl,_, .inl ⟨_,Aa.of hL.lst,rfl⟩,?_⟩
  cases Al with
  | nil=>exact aJ q
  | cons v rest=>exact aN ⟨_,rfl,x,C,dx,_,_,rfl,hL.ins,L.cl,L.n4,rfl,pa,_,0,v,rfl,rfl,Aa.of hL.lst,ak (j:=0) rfl,q⟩
theorem yo:ao ["self"] ["self"] (ai tF):=L2.Ax
theorem wu {C f nm:Addr}{fd:FuncData}(F:As K "pull" "Lane.pull" tF f fd)(L:xw K C)(Ex:L6 K mg nm):zX P w K mg base (eE P w) 1 f fd ["self"] (o0 C nm):=by
 refine F.Fl yo (fun vs H Q E h=>?_) (fun cdv A outer s H vs Q E hr h=>?_)
 ·obtain⟨x,dx,pa,r,b,h,Al,qs,rfl,_⟩:=h
  rfl
 ·obtain⟨x,dx,pa,r,b,h,Al,qs,rfl,hL,h1,h2⟩:=h
  refine⟨_,af (aO (cj (j6 (al (pv 0) rfl) (fun _=>rfl))) (ah (bF rfl Ex.x aP (cf Ex.x Ex.k rfl rfl Ex.m (aa bC ad)))) aH)
   (af (dU (pv 0) aj lK)
   (ah (ar (cu plainAttrs_list PySem.F.slot_list_pop PySem.F.type_list_pop uN (al (pv 0) rfl) (aa aj ad))))),?_⟩
  refine⟨_,rfl,x,C,dx,_,_,rfl,hL.ins,L.cl,L.n4,rfl,_, .inl ⟨_,Aa.of hL.lst,rfl⟩,?_⟩
  have Dq:pa ≠ x:=aX hL.lst hL.ins (by intro z;cases z)
  cases Al with
  | nil =>
   refine aN ⟨by show 1 <= sizeLine;decide,?_⟩
   exact h1 rfl H (zW.refl H)
  | cons v rest =>
   refine aJ ?_
   refine⟨_,rfl,x,C,dx,_,_,rfl,hL.ins,L.cl,L.n2,rfl,_,_,rfl,rfl,dx,_,hL.ins,by show 4 < 1000;decide,?_⟩
   have BE:(upd H x (.ins C dx (aM "returning" (.int (b + 1)) (iV r b (hV h) pa)))) x=some (.ins C dx (iV r (b + 1) (hV h) pa)):=ac
   have Az:(upd H x (.ins C dx (aM "returning" (.int (b + 1)) (iV r b (hV h) pa)))) pa=some (.lst (v :: rest)):=by rw[ae Dq];exact hL.lst
   have o1:Bz x pa H (upd H x (.ins C dx (aM "returning" (.int (b + 1)) (iV r b (hV h) pa)))):=fun a o ha _ e=>by rw[ae ha];exact e
   show _
   generalize upd H x (.ins C dx (aM "returning" (.int (b + 1)) (iV r b (hV h) pa)))=H1 at BE Az o1 ⊢
   refine⟨_,rfl,x,C,dx,_,_,rfl,BE,L.cl,L.n4,rfl, .inl ⟨rfl,_,Aa.of Az⟩,pa,v :: rest,0,0,v,rfl,rfl,Az,by decide,by decide,R9 _,rfl,?_⟩
   have o2:Bz x pa H (upd H1 pa (.lst rest)):=fun a o ha hb e=>by rw[ae hb];exact o1 a o ha hb e
   refine h2 v rest rfl _ o2 ⟨by rw[ae (Ne.symm Dq)];exact BE,ac,?_⟩
   have z:=Bz.Dy o2 hL.ins hL.lst hL.Bp
   cases z with
   | cons _ t=>exact t
theorem vR:ao ["self"] ["self"] (ai oU):=L2.Ax
theorem uF {C f nm:Addr}{fd:FuncData}(F:As K "bring" "Lane.bring" oU f fd)(L:xw K C)(Ex:L6 K mg nm):zX P w K mg base (eE P w) 1 f fd ["self"] (qf C nm):=by
 refine F.Fl vR (fun vs H Q E h=>?_) (fun cdv A outer s H vs Q E hr h=>?_)
 ·obtain⟨x,dx,pa,r,b,h,Al,qs,rfl,_⟩:=h
  rfl
 ·obtain⟨x,dx,pa,r,b,h,Al,qs,rfl,hL,h1,h2⟩:=h
  refine⟨_,af (aO (ax bG (al (pv 0) rfl) aj (aB _)) (ah (bF rfl Ex.x aP (cf Ex.x Ex.k rfl rfl Ex.m (aa bC ad)))) aH)
   (af (dU (pv 0) aj qI) (ah (dU (pv 0) aj lK))),?_⟩
  refine⟨_,rfl,x,C,dx,_,_,rfl,hL.ins,L.cl,L.n2,rfl,rfl,_,rfl,?_⟩
  have Dq:pa ≠ x:=aX hL.lst hL.ins (by intro z;cases z)
  rw[bN]
  by_cases Pe:b=0
  ·rw[decide_eq_true Pe]
   refine aN ⟨by show 1 <= sizeLine;decide,?_⟩
   exact h1 Pe H (zW.refl H)
  ·rw[decide_eq_false Pe]
   refine aJ ?_
   refine⟨_,rfl,x,C,dx,_,_,rfl,hL.ins,L.cl,L.n2,rfl,_,_,rfl,rfl,dx,_,hL.ins,by show 4 < 1000;decide,?_⟩
   have BE:(upd H x (.ins C dx (aM "returning" (.int (b - 1)) (iV r b (hV h) pa)))) x=some (.ins C dx (iV r (b - 1) (hV h) pa)):=ac
   have o1:Bz x pa H (upd H x (.ins C dx (aM "returning" (.int (b - 1)) (iV r b (hV h) pa)))):=fun a o ha _ e=>by rw[ae ha];exact e
   have Az:(upd H x (.ins C dx (aM "returning" (.int (b - 1)) (iV r b (hV h) pa)))) pa=some (.lst Al):=by rw[ae Dq];exact hL.lst
   show _
   generalize upd H x (.ins C dx (aM "returning" (.int (b - 1)) (iV r b (hV h) pa)))=H1 at BE Az o1 ⊢
   refine⟨_,rfl,x,C,dx,_,_,rfl,BE,L.cl,L.n1,rfl,_,_,rfl,rfl,dx,_,BE,by show 4 < 1000;decide,?_⟩
   have o2:∀ o',Bz x pa H (upd H1 x o'):=fun o' a o ha hb e=>by rw[ae ha];exact o1 a o ha hb e
   exact h2 Pe _ (o2 _) ⟨ac,by rw[ae Dq];exact Az,Bz.Dy (o2 _) hL.ins hL.lst hL.Bp⟩
theorem L9:ao ["self"] ["self"] (ai y6):=L2.Ax
theorem zd {C f:Addr}{fd:FuncData}(F:As K "told" "Lane.told" y6 f fd)(T:dR mg)(L:xw K C):zX P w K mg base aC 1 f fd ["self"] (xG C):=by
 refine F.ok L9 (fun vs H Q E h=>?_) (fun cdv A outer s H vs Q E hr h=>?_)
 ·obtain⟨x,dx,pa,r,b,h,Al,qs,rfl,_⟩:=h
  rfl
 ·obtain⟨x,dx,pa,r,b,h,Al,qs,rfl,hL,q⟩:=h
  refine⟨_,ah (ar (bH (aa (al (pv 0) rfl) (aa (al (pv 0) rfl) (aa (al (pv 0) rfl) (aa (bu aW rfl T.list PySem.Pv.boot_list (aa (al (pv 0) rfl) ad)) ad)))))),?_⟩
  refine⟨_,rfl,x,C,dx,_,_,rfl,hL.ins,L.cl,L.n1,rfl,_,rfl,x,C,dx,_,_,rfl,hL.ins,L.cl,L.n2,rfl,_,rfl,x,C,dx,_,_,rfl,hL.ins,L.cl,L.n3,rfl,_,rfl,x,C,dx,_,_,rfl,hL.ins,L.cl,L.n4,rfl,pa,_,rfl, .inl (Aa.of hL.lst),fun ql EN=>?_⟩
  have s1:=(zW.refl H).new (o := .lst Al) EN
  have g1:(upd H ql (.lst Al)) ql=some (.lst Al):=ac
  generalize upd H ql (.lst Al)=H1 at s1 g1 ⊢
  refine⟨by show 4 <= sizeLine;decide,fun t ht=>?_⟩
  have s2:=s1.new (o := .tup [.int r, .int b,hV h, .ref ql]) ht
  exact q t ql _ s2 EN ac (by rw[ae (ag g1 ht)];exact g1)
noncomputable def mj (m:Nat)(Am:List V):Bool:=decide (Am.length=m) && Am.all fun v=>kB v 1 60
noncomputable def Sq (K:Frag)(H:Hp)(a:Addr)(xs:List V):Prop:=Aa K H a xs∨Af K H a xs
noncomputable def pU (K:Frag)(c:Cs)(nr:Addr):Sp:=fun vs H Q E=>∃ (lx Aw lt:Addr)(n:Int)(Ag:List V)(ps:List (Int × Int))(rv:V),vs=[.ref lx,rv]/\c6 H c lx Aw lt n Ag ps/\ps.length <= 1000 /\
 ((rv = .An/\∀ t H',zW H H'->H' t=some (.tup (List.replicate ps.length (.int 1)))->Q (.ref t) H') ∨
  (∃ ra Am,rv = .ref ra/\Sq K H ra Am/\Am.length <= 1000/\(∀ v ∈ Am,sd v)/\(mj ps.length Am=false->∀ H',zW H H'->E (.ref nr) none H')/\(mj ps.length Am=true->∀ t H',zW H H'->Af K H' t Am->Q (.ref t) H')))
noncomputable def zA (s:Stmt):Scope:=match s with
 | .If _ (.Return (some (.Call _ [.ListComp _ _ sc _] _ _)) _ :: _) _ _=>sc
 | _=>{ kind := .function,names:=[],isGenerator:=false,isCoroutine:=false }
noncomputable def yN (s:Stmt):Scope:=match s with
 | .If (.BoolOp _ [_, .UnaryOp _ (.Call _ [.ListComp _ _ sc _] _ _) _] _) _ _ _=>sc
 | _=>{ kind := .function,names:=[],isGenerator:=false,isCoroutine:=false }
noncomputable def Jz:V->Bool
 | .int i=>decide ((if i < 0 then -i else i) < 10 ^ (60:Int).toNat)
 | _=>false
noncomputable def sD:Sp:=fun vs H Q _=>∃ v,vs=[v]/\sd v/\Q (.bl (Jz v)) H
noncomputable def x9 (K:Frag)(f1 f2:Str):Sp:=fun vs H Q _=>∃ e C tt v1 v2,vs=[.ref e,v1,v2]/\H e=some (bP e C tt none)/\gK K C/\findIn K (.ref C) f1=some none/\findIn K (.ref C) f2=some none/\∀ d H',H d=none->(∀ b o,b ≠ e->H b=some o->H' b=some o)->H' e=some (bP e C tt (some d))->H' d=some (.xd [(f1,v1),(f2,v2)])->Q .An H'
theorem bq {K:Frag}{H H':Hp}{a:Addr}{xs:List V}(e:zW H H')(h:Af K H a xs):Af K H' a xs:=by
 rcases h with h | h
 ·refine .inl ?_
  rcases h with h | ⟨o,h⟩
  ·exact .inl (e _ _ h)
  ·exact .inr ⟨o,e _ _ h⟩
 ·exact .inr h
theorem LA {X:Cx}{tg it:Expr}{a b:TI}(h1:PI X tg it a)(h2:PI X tg it b):PI X tg it (fun σ H R=>a σ H R∨b σ H R):=fun pins s σ H R I h=>h.elim (h1 pins s σ H R I) (h2 pins s σ H R I)
theorem nJ {J:It}{xs:List V}{g:TG}{te:TE}{σ0:St}{H:Hp}{Q:VK}(f:V->V)(hn:xs.length < sizeLine)(hgo:∀ i,i < xs.length->J.go i H)(Du:J.stop xs.length H)(hy:∀ i x H',J.Fi i H x H'->H' = H/\xs[i]? = some x)
  (hs:∀ (x:V)(N:V->Hp->Prop),x ∈ xs->N (f x) H->g x σ0 H fun σ2 H2=>te σ2 H2 N)
  (hq:∀ D,H D=none->Q (.ref D) (upd H D (.lst (xs.map f)))):dE J g lg te σ0 Q H:=by
 refine bK xs.length hn (fun i acc H'=>H' = H/\acc=(xs.take i).map f) ⟨rfl,rfl⟩ (fun i acc H' h=>by rw[h.2,length_map];exact length_take_le _ _) (fun i acc H' hi h=>?_) (fun acc H' h=>?_)
 ·obtain⟨rfl,rfl⟩:=h
  refine⟨hgo i hi,fun v H2 y=>?_⟩
  obtain⟨e,hx⟩:=hy i v H2 y
  subst e
  exact hs v (fun y H4=>H4=H2/\(xs.take i).map f ++ [y]=(xs.take (i + 1)).map f) (mem_of_getElem? hx) ⟨rfl,by rw[take_succ,hx,map_append];rfl⟩
 ·obtain⟨rfl,rfl⟩:=h
  rw[take_length]
  exact⟨Du,hq⟩
theorem zI {K:Frag}{a:Addr}{xs:List V}{g:TG}{te:TE}{σ0:St}{H:Hp}{Q:VK}(f:V->V)(hn:xs.length < sizeLine)(ha:Aa K H a xs)(hs:∀ (x:V) (N:V->Hp->Prop),x ∈ xs->N (f x) H->g x σ0 H fun σ2 H2=>te σ2 H2 N)
  (hq:∀ D,H D=none->Q (.ref D) (upd H D (.lst (xs.map f)))):dE (vy K a) g lg te σ0 Q H :=
 nJ f hn (fun i hi=>⟨xs,xs[i],ha,by simp[hi]⟩) ⟨xs,ha,le_refl _⟩ (fun i x H' y=>⟨y.1,y.2 xs ha⟩) hs hq
theorem vp {K:Frag}{a:Addr}{xs:List V}{g:TG}{te:TE}{σ0:St}{H:Hp}{Q:VK}(f:V->V)(hn:xs.length < sizeLine)(ha:Af K H a xs)(hs:∀ (x:V) (N:V->Hp->Prop),x ∈ xs->N (f x) H->g x σ0 H fun σ2 H2=>te σ2 H2 N)
  (hq:∀ D,H D=none->Q (.ref D) (upd H D (.lst (xs.map f)))):dE (OE K a) g lg te σ0 Q H :=
 nJ f hn (fun i hi=>⟨xs,xs[i],ha,by simp[hi]⟩) ⟨xs,ha,le_refl _⟩ (fun i x H' y=>⟨y.1,y.2 xs ha⟩) hs hq
structure vE (K:Frag)(mg:Str->Option Value)(x:Str)(C:Addr):Prop where
 m:mg x=some (.ref C)
 x:b8 K C none=true
 k:keepIn K (.ref C)=true
theorem RB:ao ["land", "rooms"] ["land", "rooms"] (ai gs):=L2.Ax
theorem RC:Ba ["land", "rooms"] (ai gs) (zA ((aG gs).getD 0 (.Pass ⟨0,0,0,0⟩))) [] []:=L2.BI
theorem RD:Ba ["land", "rooms"] (ai gs) (yN ((aG gs).getD 1 (.Pass ⟨0,0,0,0⟩))) [] []:=L2.BI
theorem RE:(["lane"]:List Str).Nodup:=by decide +kernel
theorem LB:(["room"]:List Str).Nodup:=by decide +kernel
theorem uw {c:Cs}{f fw nr:Addr}{fd dw:FuncData}{t1:Tok}(F:As K "rooms_of" "rooms_of" gs f fd)(T:dR mg)(L:lY K c)(X:vE K mg "NoRooms" nr)
  (mw:mg "is_within" = some (.ref fw)) (kw:keepIn K (.ref fw)=true) (bw:Binds K dw ["value", "least", "most"] []) (Gw:zX P w K mg base aC 2 fw dw ["value", "least", "most"] fM) (mp:mg "MOST_ROOM" = some (.int 60 t1)) :
  zX P w K mg base (eE P w) 3 f fd ["land", "rooms"] (pU K c nr):=by
 refine F.Fl RB (fun vs H Q E h=>?_) (fun cdv A outer s H vs Q E hr h=>?_)
 ·obtain⟨lx,Aw,lt,n,Ag,ps,rv,rfl,_⟩:=h
  rfl
 ·obtain⟨lx,Aw,lt,n,Ag,ps,rv,rfl,hL,BL,hh⟩:=h
  refine⟨_,af (aO (ax lG (pv 1) cI (aB _)) (ah (ar (bu dO rfl T.tuple PySem.Pv.boot_tuple (aa (bB (own:=["lane"]) (capN:=[]) (cap:=[]) RC rfl (lB (al (pv 0) rfl))
     (fun C s' H' fp=>⟨au (i:=0) RE rfl (Or.inl rfl),bE,aj⟩)) ad)))) aH)
   (af (aO (jf (PW.pt (j5 (ax mU (az aw rfl T.len PySem.boot_len (aa (pv 1) ad)) (az aw rfl T.len PySem.boot_len (aa (al (pv 0) rfl) ad)) (aB _))
     (gF (cj (bQ (az (jW rfl) rfl T.all PyProof.Rows.boot_all (aa (bB (own:=["room"]) (capN:=[]) (cap:=[]) RD rfl (LA (bA (pv 1)) (lB (pv 1)))
      (fun C s' H' fp=>⟨au (i:=0) LB rfl (Or.inl rfl),bE,aq Gw hr rfl mw kw bw .nil ap (aa (pv 0) (aa aj (aa (eO (v := .int 60) rfl mp ⟨_,rfl⟩) ad)))⟩)) ad))))))))
    (ah (bF rfl X.x aP (cf X.x X.k rfl rfl X.m (aa bC ad)))) aH)
   (ah (ar (bu dO rfl T.tuple PySem.Pv.boot_tuple (aa (pv 1) ad))))),?_⟩
  have E3:Ag.length=ps.length:=Paired.length hL.2.2
  refine⟨_,rfl,rfl,_,rfl,?_⟩
  rcases hh with ⟨rfl,q⟩ | ⟨ra,Am,rfl,hR,D3,FC,qE,q⟩
  ·refine aN ⟨_,rfl,lx,c.land,Aw,_,_,rfl,hL.1,L.cl,L.nl,rfl,lt,rfl,⟨_,Af.of hL.2.1⟩,?_⟩
   refine vp (fun _ => .int 1) (by rw[sizeLine_eq];omega) (Af.of hL.2.1) (fun x N hx h=>h) (fun D hD=>?_)
   have s1:=(zW.refl H).new (o := .lst (Ag.map fun _=>V.int 1)) hD
   refine⟨D,_,rfl, .inl ⟨Aa.of ac,fun t ht=>q t _ (s1.new ht) ?_⟩⟩
   rw[ac,List.map_const',E3]
  ·refine aJ ?_
   have len1:∀ {H:Hp},Sq K H ra Am->(Aa K H ra Am∨Af K H ra Am):=fun h=>h
   refine⟨fun b H'=>zW H H'/\b = !mj ps.length Am,?_,?_⟩
   ·refine⟨_,rfl,ra,Am,rfl,hR,_,rfl,lx,c.land,Aw,_,_,rfl,hL.1,L.cl,L.nl,rfl,lt,_,rfl, .inr (Af.of hL.2.1),rfl,_,rfl,?_⟩
    rw[bN,E3]
    by_cases LC:Am.length=ps.length
    rotate_left
    ·rw[decide_eq_false (show ¬ ((Am.length:Nat):Int)=(ps.length:Nat) by omega)]
     refine aN ⟨zW.refl H,?_⟩
     unfold mj
     rw[decide_eq_false LC];rfl
    rw[decide_eq_true (show((Am.length:Nat):Int)=(ps.length:Nat) by omega)]
    have step:∀ (x:V)(N:V->Hp->Prop),x ∈ Am->N (.bl (kB x 1 60)) H->sd x:=fun x _ hx _=>FC x hx
    have fin:∀ D,H D=none->∃ (p:Addr)(bs:List Bool),[V.ref D]=[.ref p]/\Aa K (upd H D (.lst (Am.map fun v=>V.bl (kB v 1 60)))) p (bs.map V.bl)/\∃ cc,V.bl (bs.all id) = .bl cc/\(zW H (upd H D (.lst (Am.map fun v=>V.bl (kB v 1 60))))/\(!cc) = !mj ps.length Am):=fun D hD=>by
     refine⟨D,Am.map fun v=>kB v 1 60,rfl,Aa.of (by rw[ac,map_map];rfl),_,rfl,(zW.refl H).new hD,?_⟩
     unfold mj
     rw[decide_eq_true LC,Bool.true_and,all_map];rfl
    refine aJ ?_
    rcases hR with hR | hR
    ·refine .inl ⟨_,rfl,ra,rfl,⟨_,hR⟩,?_⟩
     exact zI (fun v => .bl (kB v 1 60)) (by rw[sizeLine_eq];omega) hR (fun x N hx h=>⟨_,rfl,x,1,60,rfl,FC x hx,h⟩) fin
    ·refine .inr ⟨_,rfl,ra,rfl,⟨_,hR⟩,?_⟩
     exact vp (fun v => .bl (kB v 1 60)) (by rw[sizeLine_eq];omega) hR (fun x N hx h=>⟨_,rfl,x,1,60,rfl,FC x hx,h⟩) fin
   rintro b H' ⟨s',rfl⟩
   cases Ad:mj ps.length Am with
   | false=>exact aN ⟨by show 1 <= sizeLine;decide,qE Ad H' s'⟩
   | true =>
    refine aJ ⟨_,rfl,ra,Am,rfl,?_⟩
    rcases hR with hR | hR
    ·exact .inl ⟨s'.seq hR,fun t ht=>q Ad t _ (s'.new ht) (Af.of ac)⟩
    ·exact .inr ⟨bq s' hR,q Ad ra _ s' (bq s' hR)⟩
theorem RF:ao ["word"] ["word"] (ai t7):=L2.Ax
theorem wo {f fh:Addr}{fd dh:FuncData}(F:As K "is_word" "is_word" t7 f fd)(T:dR mg)(mh:mg "is_whole" = some (.ref fh))(kh:keepIn K (.ref fh)=true)(bh:Binds K dh ["value"] [])(G:zX P w K mg base aC 1 fh dh ["value"] gZ) :
  zX P w K mg base aC 2 f fd ["word"] sD:=by
 refine F.ok RF (fun vs H Q E h=>?_) (fun cdv A outer s H vs Q E hr h=>?_)
 ·obtain⟨v,rfl,_⟩:=h
  rfl
 ·obtain⟨v,rfl,hv,q⟩:=h
  refine⟨_,ah (ar (dI (aq G hr rfl mh kh bh .nil ap (aa (pv 0) ad)) (dH (cS qt (az vq rfl T.abs PyProof.Rows.boot_abs (aa (pv 0) ad)) (aD uk aj aj) (aB _))))),?_⟩
  cases hv with
  | int i=>exact⟨_,rfl,_,rfl, .int i,true,rfl,aN ⟨_,rfl,i,rfl,_,_,rfl,rfl,⟨by decide,by decide,by decide⟩,_,_,rfl,rfl,q⟩⟩
  | bl b=>exact⟨_,rfl,_,rfl, .bl b,false,rfl,aJ q⟩
  | An=>exact⟨_,rfl,_,rfl, .An,false,rfl,aJ q⟩
theorem RG:ao ["self", "start", "goal"] ["self", "start", "goal"] (ai vS):=L2.Ax
theorem LD {f:Addr}{fd:FuncData}(F:As K "__init__" "NoWay.__init__" vS f fd):zX P w K mg base aC 1 f fd ["self", "start", "goal"] (x9 K "start" "goal"):=by
 refine F.ok RG (fun vs H Q E h=>?_) (fun cdv A outer s H vs Q E hr h=>?_)
 ·obtain⟨e,C,tt,v1,v2,rfl,_⟩:=h
  rfl
 ·obtain⟨e,C,tt,v1,v2,rfl,he,hx,n1,n2,q⟩:=h
  refine⟨_,af (ue (pv 0) (pv 1) rfl) (ah (ud (pv 0) (pv 2) rfl)),?_⟩
  refine⟨_,rfl,_,rfl,e,C,tt,rfl,he,hx,n1,fun d hd=>?_⟩
  have WO:e ≠ d:=ag he hd
  refine⟨_,rfl,_,rfl,e,C,tt,d,[("start",v1)],rfl,ac,by rw[ae (Ne.symm WO)];exact ac,by show 1 < 1000;decide,hx,n2,?_⟩
  refine q d _ hd (fun b o nb eb=>?_) (by rw[ae WO];exact ac) (by rw[ac];rfl)
  have WQ:b ≠ d:=ag eb hd
  rw[ae WQ,ae nb,ae WQ]
  exact eb
noncomputable abbrev Wf:=Nat->Nat->Option Nat->List Nat
noncomputable abbrev TJ:=Hp->Addr->Nat->Wf->Prop
noncomputable def NL:HO->Prop
 | .lst _=>False
 | .ins _ _ []=>False
 | _=>True
noncomputable def AA (H H':Hp):Prop:=∀ b o,H b=some o->NL o->H' b=some o
theorem zW.Ao {H H':Hp}(s:zW H H'):AA H H':=fun b o e _=>s b o e
theorem AA.trans {H H1 H2:Hp}(a:AA H H1)(b:AA H1 H2):AA H H2:=fun x o e n=>b x o (a x o e n) n
theorem AA.Dy {H H':Hp}(k:AA H H'){vs:List V}{ps:List (Int × Int)}(h:Aq H vs ps):Aq H' vs ps:=Aq.imp (fun _ _ ⟨t,e,q⟩=>⟨t,e,k _ _ q True.intro⟩) h
structure Bm (c:Cs)(C:Addr)(J:TJ)(H:Hp)(x lx Aw lt:Addr)(n:Nat)(Ag:List V)(ps:List (Int × Int))(wy:Wf):Prop where
 j:J H x n wy
 i:∃ dx fs,H x=some (.ins C dx fs)/\fs.lookup ("land":Str)=some (.ref lx)/\fs.lookup ("ways":Str)=none
 l:c6 H c lx Aw lt (n:Int) Ag ps
 LF:n <= 12
 AZ:ps.length <= 40
 ok:∀ p g k,p < n->g < n->∀ z ∈ wy p g k,z < ps.length
structure Wy (K:Frag)(C fw:Addr)(dw:FuncData)(J:TJ):Prop where
 cl:C6 K C
 nl:Ak K C "land"
 m:bz K C "ways" fw
 b:Binds K dw ["self", "place", "goal", "came"] []
 BS:∀ H H' x n wy,J H x n wy->AA H H'->J H' x n wy
theorem Bm.keep {K:Frag}{c:Cs}{C fw:Addr}{dw:FuncData}{J:TJ}{H H':Hp}{x lx Aw lt:Addr}{n:Nat}{Ag:List V}{ps:List (Int × Int)}{wy:Wf}(W:Wy K C fw dw J)(h:Bm c C J H x lx Aw lt n Ag ps wy)(k:AA H H'):Bm c C J H' x lx Aw lt n Ag ps wy :=
 ⟨W.BS _ _ _ _ _ h.j k,let ⟨dx,fs,h1,h2⟩:=h.i; ⟨dx,fs,k _ _ h1 (by cases fs with | nil=>cases h2.1 | cons _ _=>exact True.intro),h2⟩,⟨k _ _ h.l.1 True.intro,k _ _ h.l.2.1 True.intro,k.Dy h.l.2.2⟩,h.LF,h.AZ,h.ok⟩
noncomputable def eK (J:TJ):Sp:=fun vs H Q _=>∃ (x:Addr)(n:Nat)(wy:Wf)(p g:Nat)(k:Option Nat),vs=[.ref x, .int p, .int g,cV k]/\J H x n wy/\p < n/\g < n/\∀ (D:Addr)(H':Hp),zW H H'->H D=none->H' D=some (.lst (nV (wy p g k)))->Q (.ref D) H'
structure cz where
 r:Int
 b:Int
 h:Option Int
 qs:List (Int × Int)
structure cp where
 start:Int
 goal:Int
 len:Int
 word:Int
 gone:Int
 way:List Nat
structure YS where
 rooms:List V
 lanes:List cz
 U:List cp
 lies:List (List (Int × Int))
 done:List (List V)
structure Ys where
 zY:Addr
 Au:Addr
 zZ:Addr
 ex:List Addr
noncomputable def Cm (H:Hp)(C:Addr)(ex:List Addr)(v:V)(s:cz):Prop:=∃ x dx pa Al,v = .ref x/\Ar H C x dx pa s.r s.b s.h Al s.qs/\pa ∉ ex
noncomputable def pj (s:cp)(wa:Addr):Fs:=[("start", .int s.start),("goal", .int s.goal),("length", .int s.len),("word", .int s.word),("gone", .int s.gone),("way", .ref wa)]
noncomputable def CL (H:Hp)(C:Addr)(ex:List Addr)(v:V)(s:cp):Prop:=∃ x dx wa,v = .ref x/\H x=some (.ins C dx (pj s wa))/\H wa=some (.lst (nV s.way))/\wa ∉ ex
noncomputable def B3 (H:Hp)(v:V)(qs:List (Int × Int)):Prop:=∃ t vs,v = .ref t/\H t=some (.tup vs)/\Aq H vs qs
noncomputable def Bq (H:Hp)(v:V)(m:List V):Prop:=∃ t,v = .ref t/\H t=some (.tup m)
theorem Paired.mono {α β:Type}{R R':α->β->Prop}(h:∀ a b,R a b->R' a b):∀ {as:List α}{bs:List β},Paired R as bs->Paired R' as bs
 | _,_, .nil => .nil
 | _,_, .cons x r => .cons (h _ _ x) (Paired.mono h r)
theorem Paired.snoc {α β:Type}{R:α->β->Prop}{a:α}{b:β}(h:R a b):∀ {as:List α}{bs:List β},Paired R as bs->Paired R (as ++ [a]) (bs ++ [b])
 | _,_, .nil => .cons h .nil
 | _,_, .cons x r => .cons x (Paired.snoc h r)
theorem Paired.at {α β:Type}{R:α->β->Prop}:∀ {as:List α}{bs:List β}{i:Nat}{a:α},Paired R as bs->as[i]? = some a->∃ b,bs[i]? = some b/\R a b
 | _,_,_,_, .nil,h=>by cases h
 | _,_,0,_, .cons x _,h=>by cases h;exact⟨_,rfl,x⟩
 | _,_,i + 1,_, .cons _ r,h=>Paired.at (i:=i) r h
theorem Paired.at2 {α β:Type}{R:α->β->Prop}:∀ {as:List α}{bs:List β}{i:Nat}{b:β},Paired R as bs->bs[i]? = some b->∃ a,as[i]? = some a/\R a b
 | _,_,_,_, .nil,h=>by cases h
 | _,_,0,_, .cons x _,h=>by cases h;exact⟨_,rfl,x⟩
 | _,_,i + 1,_, .cons _ r,h=>Paired.at2 (i:=i) r h
noncomputable def Ae (ex:List Addr)(H H':Hp):Prop:=∀ b o,b ∉ ex->H b=some o->H' b=some o
theorem zW.AB {ex:List Addr}{H H':Hp}(s:zW H H'):Ae ex H H':=fun b o _ e=>s b o e
theorem Ae.trans {ex:List Addr}{H H1 H2:Hp}(a:Ae ex H H1)(b:Ae ex H1 H2):Ae ex H H2:=fun x o n e=>b x o n (a x o n e)
theorem Aq.AB {ex:List Addr}{H H':Hp}(hx:∀ b ∈ ex,∃ xs,H b=some (.lst xs))(o:Ae ex H H'){vs:List V}{ps:List (Int × Int)}(h:Aq H vs ps):Aq H' vs ps :=
 Aq.imp (fun _ _ ⟨t,e,q⟩=>⟨t,e,o _ _ (fun z=>by obtain⟨xs,hz⟩:=hx _ z;rw[q]at hz;cases hz) q⟩) h
theorem Ae.GV {ex:List Addr}{H H':Hp}(hx:∀ b ∈ ex,∃ o,H b=some o/\¬ NL o)(o:Ae ex H H'):AA H H':=fun b u e n=>o b u (fun z=>by obtain⟨o',hz,hn⟩:=hx _ z;rw[e]at hz;cases hz;exact hn n) e
theorem Ae.Ao {ex:List Addr}{H H':Hp}(hx:∀ b ∈ ex,∃ xs,H b=some (.lst xs))(o:Ae ex H H'):AA H H':=o.GV fun b hb=>let ⟨xs,hz⟩:=hx b hb; ⟨_,hz,id⟩
theorem Cm.AB {ex:List Addr}{H H':Hp}{C:Addr}{v:V}{s:cz}(hx:∀ b ∈ ex,∃ xs,H b=some (.lst xs))(o:Ae ex H H')(h:Cm H C ex v s):Cm H' C ex v s:=by
 obtain⟨x,dx,pa,Al,e,L,n⟩:=h
 have k:=o.Ao hx
 exact⟨x,dx,pa,Al,e,⟨k _ _ L.ins True.intro,o _ _ n L.lst,Aq.AB hx o L.Bp⟩,n⟩
theorem CL.AB {ex:List Addr}{H H':Hp}{C:Addr}{v:V}{s:cp}(hx:∀ b ∈ ex,∃ xs,H b=some (.lst xs))(o:Ae ex H H')(h:CL H C ex v s):CL H' C ex v s:=by
 obtain⟨x,dx,wa,e,h1,h2,n⟩:=h
 exact⟨x,dx,wa,e,o.Ao hx _ _ h1 True.intro,o _ _ n h2,n⟩
theorem B3.keep {H H':Hp}{v:V}{qs:List (Int × Int)}(k:AA H H')(h:B3 H v qs):B3 H' v qs:=by
 obtain⟨t,vs,e,h1,h2⟩:=h
 exact⟨t,vs,e,k _ _ h1 True.intro,k.Dy h2⟩
theorem Bq.keep {H H':Hp}{v:V}{m:List V}(k:AA H H')(h:Bq H v m):Bq H' v m:=by
 obtain⟨t,e,h1⟩:=h
 exact⟨t,e,k _ _ h1 True.intro⟩
noncomputable def pN (tb ro la le li dn:Addr):Fs:=[("table", .ref tb),("rooms", .ref ro),("lanes", .ref la),("letters", .ref le),("lies", .ref li),("done", .ref dn)]
structure Ac (K:Frag)(ys:Ys)(H:Hp)(y dy tb ro la le li dn:Addr)(s:YS):Prop where
 ins:H y=some (.ins ys.zY dy (pN tb ro la le li dn))
 Im:Af K H ro s.rooms
 Bf:∃ vs,H la=some (.lst vs)/\Paired (Cm H ys.Au (la :: le :: li :: dn :: ys.ex)) vs s.lanes
 hle:∃ vs,H le=some (.lst vs)/\Paired (CL H ys.zZ (la :: le :: li :: dn :: ys.ex)) vs s.U
 BP:∃ vs,H li=some (.lst vs)/\Paired (B3 H) vs s.lies
 BJ:∃ vs,H dn=some (.lst vs)/\Paired (Bq H) vs s.done
 ne:[la,le,li,dn].Nodup
 hex:∀ b ∈ ys.ex,∃ xs,H b=some (.lst xs)
theorem Ac.B8 {K:Frag}{ys:Ys}{H:Hp}{y dy tb ro la le li dn:Addr}{s:YS}(h:Ac K ys H y dy tb ro la le li dn s):∀ b ∈ [la,le,li,dn],∃ xs,H b=some (.lst xs):=by
 intro b hb
 obtain⟨v1,h1,_⟩:=h.Bf
 obtain⟨v2,h2,_⟩:=h.hle
 obtain⟨v3,h3,_⟩:=h.BP
 obtain⟨v4,h4,_⟩:=h.BJ
 simp only[mem_cons,not_mem_nil,or_false]at hb
 rcases hb with rfl | rfl | rfl | rfl
 ·exact⟨_,h1⟩
 ·exact⟨_,h2⟩
 ·exact⟨_,h3⟩
 ·exact⟨_,h4⟩
theorem Ac.Dr {K:Frag}{ys:Ys}{H:Hp}{y dy tb ro la le li dn:Addr}{s:YS}(h:Ac K ys H y dy tb ro la le li dn s):∀ b ∈ la :: le :: li :: dn :: ys.ex,∃ xs,H b=some (.lst xs):=by
 intro b hb
 have e:la :: le :: li :: dn :: ys.ex=[la,le,li,dn] ++ ys.ex:=rfl
 rw[e]at hb
 rcases mem_append.mp hb with hb | hb
 ·exact h.B8 b hb
 ·exact h.hex b hb
theorem Ac.same {K:Frag}{ys:Ys}{H H':Hp}{y dy tb ro la le li dn:Addr}{s:YS}(h:Ac K ys H y dy tb ro la le li dn s)(e:zW H H'):Ac K ys H' y dy tb ro la le li dn s:=by
 have hx:=h.Dr
 obtain⟨v1,h1,p1⟩:=h.Bf
 obtain⟨v2,h2,p2⟩:=h.hle
 obtain⟨v3,h3,p3⟩:=h.BP
 obtain⟨v4,h4,p4⟩:=h.BJ
 have o:Ae (la :: le :: li :: dn :: ys.ex) H H':=zW.AB e
 exact⟨e _ _ h.ins,bq e h.Im,⟨v1,e _ _ h1,Paired.mono (fun _ _ z=>z.AB hx o) p1⟩,⟨v2,e _ _ h2,Paired.mono (fun _ _ z=>z.AB hx o) p2⟩,⟨v3,e _ _ h3,Paired.mono (fun _ _ z=>z.keep (zW.Ao e)) p3⟩,⟨v4,e _ _ h4,Paired.mono (fun _ _ z=>z.keep (zW.Ao e)) p4⟩,h.ne,fun b hb=>let ⟨xs,hz⟩:=h.hex b hb; ⟨xs,e _ _ hz⟩⟩
structure gj (K:Frag)(ys:Ys):Prop where
 cl:C6 K ys.zY
 n1:Ak K ys.zY "table"
 n2:Ak K ys.zY "rooms"
 n3:Ak K ys.zY "lanes"
 n4:Ak K ys.zY "letters"
 n5:Ak K ys.zY "lies"
 n6:Ak K ys.zY "done"
 ct:C6 K ys.zZ
 t1:Ak K ys.zZ "start"
 t2:Ak K ys.zZ "goal"
 t3:Ak K ys.zZ "length"
 t4:Ak K ys.zZ "word"
 t5:Ak K ys.zZ "gone"
 t6:Ak K ys.zZ "way"
 L:xw K ys.Au
noncomputable def sQ (C:Addr):Sp:=fun vs H Q _=>∃ (x dx:Addr)(a b l u:Int),vs=[.ref x, .int a, .int b, .int l, .int u]/\H x=some (.ins C dx [])/\∀ (wa:Addr)(H':Hp),H wa=none->(∀ z o,z ≠ x->H z=some o->H' z=some o)->H' x=some (.ins C dx (pj ⟨a,b,l,u,0,[]⟩ wa))->H' wa=some (.lst (nV []))->Q .An H'
theorem LG:ao ["self", "start", "goal", "length", "word"] ["self", "start", "goal", "length", "word"] (ai tP):=L2.Ax
theorem zb {ys:Ys}{f:Addr}{fd:FuncData}(F:As K "__init__" "Letter.__init__" tP f fd)(Y:gj K ys):zX P w K mg base aC 1 f fd ["self", "start", "goal", "length", "word"] (sQ ys.zZ):=by
 refine F.ok LG (fun vs H Q E h=>?_) (fun cdv A outer s H vs Q E hr h=>?_)
 ·obtain⟨x,dx,a,b,l,u,rfl,_⟩:=h
  rfl
 ·obtain⟨x,dx,a,b,l,u,rfl,hx,q⟩:=h
  refine⟨_,af (aR (pv 0) (pv 1) rfl) (af (aR (pv 0) (pv 2) rfl) (af (aR (pv 0) (pv 3) rfl) (af (aR (pv 0) (pv 4) rfl) (af (aR (pv 0) aj rfl) (ah (aR (pv 0) (aV ad) rfl)))))),?_⟩
  refine⟨_,rfl,_,rfl,x,ys.zZ,dx,_,rfl,hx,Y.ct,Y.t1,by show 0 < 1000;decide,?_⟩
  refine⟨_,rfl,_,rfl,x,ys.zZ,dx,_,rfl,ac,Y.ct,Y.t2,by show 1 < 1000;decide,?_⟩
  refine⟨_,rfl,_,rfl,x,ys.zZ,dx,_,rfl,ac,Y.ct,Y.t3,by show 2 < 1000;decide,?_⟩
  refine⟨_,rfl,_,rfl,x,ys.zZ,dx,_,rfl,ac,Y.ct,Y.t4,by show 3 < 1000;decide,?_⟩
  refine⟨_,rfl,x,ys.zZ,dx,_,rfl,ac,Y.ct,Y.t5,by show 4 < 1000;decide,?_⟩
  refine⟨zero_le _,fun wa Ef=>?_⟩
  have FD:x ≠ wa:=ag ac Ef
  refine⟨_,rfl,x,ys.zZ,dx,_,rfl,by rw[ae FD];exact ac,Y.ct,Y.t6,by show 5 < 1000;decide,?_⟩
  have LH:H wa=none:=by
   rw[ae (Ne.symm FD),ae (Ne.symm FD),ae (Ne.symm FD),ae (Ne.symm FD),ae (Ne.symm FD)]at Ef
   exact Ef
  refine q wa _ LH (fun z o nz e=>?_) ac (by rw[ae (Ne.symm FD)];exact ac)
  have nzw:z ≠ wa:=ag e LH
  rw[ae nz,ae nzw,ae nz,ae nz,ae nz,ae nz,ae nz]
  exact e
noncomputable def vI:V->Int
 | .int i=>i
 | _=>0
noncomputable def rJ (v:V):cz:=⟨vI v,0,none,[]⟩
noncomputable def Y0 (rooms:List V)(n:Nat):YS:=⟨rooms,rooms.map rJ,[],List.replicate n [],[]⟩
noncomputable def BQ (H0 H:Hp)(C:Addr)(v:V)(s:cz):Prop:=∃ x dx pa,v = .ref x/\Ar H C x dx pa s.r s.b s.h [] []/\s.qs=[]/\H0 x=none/\H0 pa=none
theorem BQ.same {H0 H H':Hp}{C:Addr}{v:V}{s:cz}(h:BQ H0 H C v s)(e:zW H H'):BQ H0 H' C v s:=by
 obtain⟨x,dx,pa,h1,h2,h3⟩:=h
 exact⟨x,dx,pa,h1,h2.same e,h3⟩
noncomputable def AG (y:Addr)(ex:List Addr)(H:Hp)(C:Addr)(v:V)(s:cz):Prop:=∃ x dx pa,v = .ref x/\Ar H C x dx pa s.r s.b s.h [] []/\s.qs=[]/\x ≠ y/\pa ≠ y/\pa ∉ ex
theorem BQ.LJ {H0 H:Hp}{C y:Addr}{v:V}{s:cz}{u:HO}(h:BQ H0 H C v s){ex:List Addr}(hy:H0 y=some u)(hx:∀ b ∈ ex,∃ o,H0 b=some o):AG y ex H C v s:=by
 obtain⟨x,dx,pa,h1,h2,h3,h4,h5⟩:=h
 exact⟨x,dx,pa,h1,h2,h3,(fun z=>by rw[z,hy]at h4;cases h4),(fun z=>by rw[z,hy]at h5;cases h5),fun z=>by obtain⟨o,ho⟩:=hx _ z;rw[h5]at ho;cases ho⟩
theorem AG.same {y:Addr}{ex:List Addr}{H H':Hp}{C:Addr}{v:V}{s:cz}(h:AG y ex H C v s)(e:zW H H'):AG y ex H' C v s:=by
 obtain⟨x,dx,pa,h1,h2,h3⟩:=h
 exact⟨x,dx,pa,h1,h2.same e,h3⟩
theorem AG.upd {y:Addr}{ex:List Addr}{H:Hp}{C:Addr}{v:V}{s:cz}{o:HO}(h:AG y ex H C v s):AG y ex (upd H y o) C v s:=by
 obtain⟨x,dx,pa,h1,h2,h3,h4,h5,h6⟩:=h
 exact⟨x,dx,pa,h1,⟨by rw[ae h4];exact h2.ins,by rw[ae h5];exact h2.lst, .nil⟩,h3,h4,h5,h6⟩
theorem AG.new {y a:Addr}{ex:List Addr}{H:Hp}{C:Addr}{v:V}{s:cz}{o:HO}(h:AG y ex H C v s)(ha:H a=none):AG y (a :: ex) (L2.upd H a o) C v s:=by
 obtain⟨x,dx,pa,h1,h2,h3,h4,h5,h6⟩:=h
 exact⟨x,dx,pa,h1,h2.same ((zW.refl H).new ha),h3,h4,h5,fun z=>(mem_cons.mp z).elim (fun z=>by rw[z]at h2;rw[h2.lst]at ha;cases ha) h6⟩
theorem AG.LK {y:Addr}{ex Jm:List Addr}{H:Hp}{C:Addr}{v:V}{s:cz}(h:AG y ex H C v s)(hs:∀ a ∈ Jm,a ∈ ex):Cm H C Jm v s:=by
 obtain⟨x,dx,pa,h1,h2,h3,h4,h5,h6⟩:=h
 exact⟨x,dx,pa,[],h1,by rw[h3];exact h2,fun z=>h6 (hs _ z)⟩
theorem pA {K:Frag}{ro C:Addr}{Am:List V}{g:TG}{te:TE}{σ0:St}{H:Hp}{Q:VK}(hn:Am.length < sizeLine)(ha:Af K H ro Am)(hint:∀ v ∈ Am,∃ r,v = .int r)
  (hs:∀ (r:Int)(H1:Hp)(N:V->Hp->Prop),zW H H1->(∀ x dx pa H2,H1 x=none->H1 pa=none->zW H1 H2->Ar H2 C x dx pa r 0 none [] []->N (.ref x) H2)->g (.int r) σ0 H1 fun σ2 H2=>te σ2 H2 N)
  (hq:∀ D vs H1,zW H H1->H1 D=none->Paired (BQ H H1 C) vs (Am.map rJ)->Q (.ref D) (upd H1 D (.lst vs))):dE (OE K ro) g lg te σ0 Q H:=by
 refine bK Am.length hn (fun i acc H'=>zW H H'/\Paired (BQ H H' C) acc ((Am.take i).map rJ)) ⟨zW.refl _, .nil⟩ (fun i acc H' h=>by have:=Paired.length h.2;rw[this,length_map];exact length_take_le _ _) (fun i acc H' hi h=>?_) (fun acc H' h=>?_)
 ·obtain⟨s,hL⟩:=h
  refine⟨⟨Am,Am[i],bq s ha,by simp[hi]⟩,fun v H2 y=>?_⟩
  obtain⟨e,y⟩:=y
  subst e
  have hv:=y _ (bq s ha)
  obtain⟨r,rfl⟩:=hint v (mem_of_getElem? hv)
  refine hs r H2 (fun y H4=>zW H H4/\Paired (BQ H H4 C) (acc ++ [y]) ((Am.take (i + 1)).map rJ)) s fun x dx pa H3 nx FE s3 CK=>⟨s.trans s3,?_⟩
  rw[take_succ,hv,Option.toList_some,map_append]
  exact Paired.snoc (b:=rJ (.int r)) ⟨x,dx,pa,rfl,CK,rfl,s.free nx,s.free FE⟩ (Paired.mono (fun _ _ z=>z.same s3) hL)
 ·obtain⟨s,hL⟩:=h
  rw[take_length]at hL
  exact⟨⟨Am,bq s ha,le_refl _⟩,fun D hD=>hq D acc H' s hD hL⟩
theorem rX {n:Nat}{g:TG}{te:TE}{σ0:St}{H:Hp}{Q:VK}(hn:n <= 1000)
  (hs:∀ (i:Nat)(H1:Hp)(N:V->Hp->Prop),zW H H1->(∀ t,H1 t=none->N (.ref t) (upd H1 t (.tup [])))->g (.int (0 + i)) σ0 H1 fun σ2 H2=>te σ2 H2 N)
  (hq:∀ D vs H1,zW H H1->H1 D=none->Paired (B3 H1) vs (List.replicate n [])->Q (.ref D) (upd H1 D (.lst vs))):dE (vx 0 n) g lg te σ0 Q H:=by
 refine bK n (by rw[sizeLine_eq];omega) (fun i acc H'=>zW H H'/\Paired (B3 H') acc (List.replicate i [])) ⟨zW.refl _, .nil⟩ (fun i acc H' h=>by have:=Paired.length h.2;rw[this,length_replicate];exact le_refl _) (fun i acc H' hi h=>?_) (fun acc H' h=>?_)
 ·obtain⟨s,hL⟩:=h
  refine⟨hi,fun v H2 y=>?_⟩
  obtain⟨e1,e2⟩:=y
  subst e1 e2
  refine hs i H2 (fun y H4=>zW H H4/\Paired (B3 H4) (acc ++ [y]) (List.replicate (i + 1) [])) s fun t ht=>⟨s.new ht,?_⟩
  rw[List.replicate_succ']
  exact Paired.snoc ⟨t,[],rfl,ac, .nil⟩ (Paired.mono (fun _ _ z=>z.keep (zW.Ao ((zW.refl H2).new ht))) hL)
 ·obtain⟨s,hL⟩:=h
  exact⟨le_refl n,fun D hD=>hq D acc H' s hD hL⟩
theorem eJ {K:Frag}{H:Hp}{a y C d:Addr}{fs:Fs}{o:HO}{xs:List V}(hy:H y=some (.ins C d fs))(h:Af K H a xs):Af K (upd H y o) a xs:=by
 rcases h with h | h
 ·refine .inl ?_
  rcases h with h | ⟨u,h⟩
  ·exact .inl (by rw[ae (aX h hy (by intro z;cases z))];exact h)
  ·exact .inr ⟨u,by rw[ae (aX h hy (by intro z;cases z))];exact h⟩
 ·exact .inr h
theorem vK {K:Frag}{H:Hp}{a y C d:Addr}{fs:Fs}{o:HO}{xs:List V}(hy:H y=some (.ins C d fs))(h:Aa K H a xs):Aa K (upd H y o) a xs:=by
 rcases h with h | h
 ·refine .inl ?_
  rcases h with h | ⟨u,h⟩
  ·exact .inl (by rw[ae (aX h hy (by intro z;cases z))];exact h)
  ·exact .inr ⟨u,by rw[ae (aX h hy (by intro z;cases z))];exact h⟩
 ·exact .inr h
noncomputable def pQ (K:Frag)(c:Cs)(TC:Addr)(J:TJ)(ys:Ys)(nr:Addr):Sp:=fun vs H Q E=>∃ (y dy tb lx Aw lt:Addr)(n:Nat)(Ag:List V)(ps:List (Int × Int))(wy:Wf)(rv:V)(Am:List V),vs=[.ref y, .ref tb,rv]/\H y=some (.ins ys.zY dy [])/\Bm c TC J H tb lx Aw lt n Ag ps wy/\(∀ b ∈ ys.ex,∃ xs,H b=some (.lst xs)) /\
 ((rv = .An/\Am=List.replicate ps.length (.int 1))∨(∃ ra,rv = .ref ra/\Sq K H ra Am/\Am.length <= 1000/\(∀ v ∈ Am,sd v)/\(mj ps.length Am=false->∀ H',Ae [y] H H'->E (.ref nr) none H'))) /\
 (mj ps.length Am=true->∀ (ro la le li dn:Addr)(H':Hp),Ae [y] H H'->H la=none->H le=none->H li=none->H dn=none->Ac K ys H' y dy tb ro la le li dn (Y0 Am n)->Q .An H')
noncomputable def LL (s:Stmt):Scope:=match s with
 | .Assign _ (.ListComp _ _ sc _) _=>sc
 | _=>{ kind := .function,names:=[],isGenerator:=false,isCoroutine:=false }
theorem ip {v:V}{a b:Int}(h:kB v a b=true):∃ r,v = .int r:=by
 cases v<;>first | exact⟨_,rfl⟩ | cases h
theorem RH:ao ["self", "table", "rooms"] ["self", "table", "rooms"] (ai iE):=L2.Ax
theorem LM:Ba ["self", "table", "rooms"] (ai iE) (LL ((aG iE).getD 2 (.Pass ⟨0,0,0,0⟩))) [] []:=L2.BI
theorem LN:Ba ["self", "table", "rooms"] (ai iE) (LL ((aG iE).getD 4 (.Pass ⟨0,0,0,0⟩))) [] []:=L2.BI
theorem LO:(["place"]:List Str).Nodup:=by decide +kernel
theorem yR {c:Cs}{ys:Ys}{J:TJ}{TC f GX fr fl nr:Addr}{fd GZ dr dl:FuncData}(F:Ed K "__init__" "Yard.__init__" iE f fd)(T:dR mg)(L:lY K c)(Y:gj K ys)(W:Wy K TC GX GZ J)
  (mr:mg "rooms_of" = some (.ref fr)) (kr:keepIn K (.ref fr)=true) (br:Binds K dr ["land", "rooms"] []) (Gr:zX P w K mg base (eE P w) 3 fr dr ["land", "rooms"] (pU K c nr))
  (ml:mg "Lane" = some (.ref ys.Au)) (Ml:Mk K ys.Au fl) (bl:Binds K dl ["self", "room"] []) (Gl:zX P w K mg base aC 1 fl dl ["self", "room"] (sR ys.Au)) :
  zX P w K mg base (eE P w) 4 f fd ["self", "table", "rooms"] (pQ K c TC J ys nr):=by
 refine F.Fl RH (fun vs H Q E h=>?_) (fun cdv A outer s H vs Q E hr h=>?_)
 ·obtain⟨y,dy,tb,lx,Aw,lt,n,Ag,ps,wy,rv,Am,rfl,_⟩:=h
  rfl
 ·obtain⟨y,dy,tb,lx,Aw,lt,n,Ag,ps,wy,rv,Am,rfl,hy,hT,hex,hrv,q⟩:=h
  have He:∀ b ∈ ys.ex,b ∉ [y]:=fun b hb z=>by obtain⟨xs,hz⟩:=hex b hb;rw[mem_singleton.mp z,hy]at hz;cases hz
  have Bv:Ah 2 _:=hr.mono (by decide)
  refine⟨_,af (aR (pv 0) (pv 1) rfl)
   (af (aR (pv 0) (jg (aq Gr hr rfl mr kr br .nil (BO.passes aP rfl) (aa (al (pv 1) rfl) (aa (pv 2) ad)))) rfl)
   (af (aR (pv 0) (bB (own:=["room"]) (capN:=[]) (cap:=[]) LM rfl (lB (al (pv 0) rfl)) (fun C s' H' fp=>⟨au (i:=0) LB rfl (Or.inl rfl),bE,c8 Ml Gl Bv rfl ml bl .nil ap (aa (pv 0) ad)⟩)) rfl)
   (af (aR (pv 0) (aV ad) rfl)
   (af (aR (pv 0) (bB (own:=["place"]) (capN:=[]) (cap:=[]) LN rfl (aL rfl T.range (aa (al (al (pv 1) rfl) rfl) ad)) (fun C s' H' fp=>⟨au (i:=0) LO rfl (Or.inl rfl),bE,bH ad⟩)) rfl)
   (ah (aR (pv 0) (aV ad) rfl)))))),?_⟩
  have hm40:=hT.AZ
  have RI:=hT.LF
  obtain⟨C8,fst,C1,AF,_⟩:=hT.i
  have kp:∀ {H':Hp},Ae [y] H H'->AA H H':=fun o=>o.GV fun b hb=>by rw[mem_singleton.mp hb];exact⟨_,hy,id⟩
  have RJ:tb ≠ y:=aX C1 hy (fun z=>by injection z with _ _ z3;rw[z3]at AF;cases AF)
  refine⟨_,rfl,_,rfl,y,ys.zY,dy,_,rfl,hy,Y.cl,Y.n1,by show 0 < 1000;decide,?_⟩
  have o1:Ae [y] H (upd H y (.ins ys.zY dy (aM "table" (.ref tb) []))):=fun b o nb e=>by rw[ae (fun z=>nb (by rw[z];exact mem_singleton.mpr rfl))];exact e
  have g1:(upd H y (.ins ys.zY dy (aM "table" (.ref tb) []))) y=some (.ins ys.zY dy [("table", .ref tb)]):=ac
  have WR:∀ ra,Sq K H ra Am->Sq K (upd H y (.ins ys.zY dy (aM "table" (.ref tb) []))) ra Am:=fun ra h=>h.elim (fun h => .inl (vK hy h)) fun h => .inr (eJ hy h)
  show _
  generalize upd H y (.ins ys.zY dy (aM "table" (.ref tb) []))=A1 at o1 g1 WR ⊢
  have hT1:=hT.keep W (kp o1)
  have J0:∀ {Ha Hb:Hp}{o:HO},Ae [y] Ha Hb->Ae [y] Ha (upd Hb y o):=fun {Ha Hb o} h b u nb e=>by rw[ae (fun z=>nb (by rw[z];exact mem_singleton.mpr rfl))];exact h b u nb e
  refine⟨fun v A2=>∃ ro,v = .ref ro/\zW A1 A2/\Af K A2 ro Am/\mj ps.length Am=true,?_,?_⟩
  ·refine⟨_,rfl,tb,TC,C8,fst,_,rfl,o1 _ _ (fun z=>RJ (mem_singleton.mp z)) C1,W.cl,W.nl,AF,_,rfl,lx,Aw,lt,(n:Int),Ag,ps,rv,rfl,hT1.l,by omega,?_⟩
   rcases hrv with ⟨rfl,rfl⟩ | ⟨ra,rfl,hR,D3,FC,qE⟩
   ·refine .inl ⟨rfl,fun t A2 s2 ht=>⟨t,rfl,s2,Af.of ht,?_⟩⟩
    unfold mj
    rw[length_replicate,decide_eq_true rfl,Bool.true_and,all_eq_true]
    intro v hv
    rw[eq_of_mem_replicate hv];rfl
   ·have hR1:Sq K A1 ra Am:=WR ra hR
    exact .inr ⟨ra,Am,rfl,hR1,D3,FC,fun Ad A2 s2=>qE Ad A2 (o1.trans (zW.AB s2)),fun Ad t A2 s2 ht=>⟨t,rfl,s2,ht,Ad⟩⟩
  rintro v A2 ⟨ro,rfl,s2,Im,Ad⟩
  have Bt:Am.length=ps.length/\∀ v ∈ Am,∃ r,v = .int r:=by
   unfold mj at Ad
   rw[Bool.and_eq_true,decide_eq_true_eq,all_eq_true]at Ad
   exact⟨Ad.1,fun v hv=>ip (Ad.2 v hv)⟩
  have o2:Ae [y] H A2:=o1.trans (zW.AB s2)
  have g2:=s2 _ _ g1
  refine⟨_,rfl,y,ys.zY,dy,_,rfl,g2,Y.cl,Y.n2,by show 1 < 1000;decide,?_⟩
  have o3:=J0 (o := .ins ys.zY dy (aM "rooms" (.ref ro) [("table", .ref tb)])) o2
  have g3:(upd A2 y (.ins ys.zY dy (aM "rooms" (.ref ro) [("table", .ref tb)]))) y=some (.ins ys.zY dy [("table", .ref tb),("rooms", .ref ro)]):=ac
  have FF:Af K (upd A2 y (.ins ys.zY dy (aM "rooms" (.ref ro) [("table", .ref tb)]))) ro Am:=eJ g2 Im
  show _
  generalize upd A2 y (.ins ys.zY dy (aM "rooms" (.ref ro) [("table", .ref tb)]))=A3 at o3 g3 FF ⊢
  have RK:∀ b ∈ ys.ex,∃ o,A3 b=some o:=fun b hb=>let ⟨xs,hz⟩:=hex b hb; ⟨_,o3 b _ (He b hb) hz⟩
  refine⟨_,rfl,y,ys.zY,dy,_,_,rfl,g3,Y.cl,Y.n2,rfl,ro,rfl,⟨_,FF⟩,?_⟩
  refine pA (C:=ys.Au) (by rw[sizeLine_eq];omega) FF Bt.2 (fun r B N sB hN=>?_) (fun la Ai A4 s4 Bf FG=>?_)
  ·refine⟨_,rfl,fun x dx nx LP He=>⟨x,dx,r,rfl,ac,fun pa B2 Ee off hL=>⟨rfl,?_⟩⟩⟩
   have Dq:B pa=none:=by
    by_cases e1:pa=x
    ·rw[e1,ac]at Ee;cases Ee
    ·by_cases e2:pa=dx
     ·rw[e2,ae He,ac]at Ee;cases Ee
     ·rw[ae e1,ae e2]at Ee;exact Ee
   refine hN x dx pa B2 nx Dq (fun b o e=>off b o (ag e nx) ?_) hL
   rw[ae (ag e nx),ae (ag e LP)]
   exact e
  have o4:Ae [y] H A4:=o3.trans (zW.AB s4)
  have g4:=s4 _ _ g3
  have FH:la ≠ y:=Ne.symm (ag g4 Bf)
  have RL:H la=none:=by
   cases e:H la with
   | none=>rfl
   | some u=>rw[o4 _ _ (fun z=>FH (mem_singleton.mp z)) e]at Bf;cases Bf
  have WS:Paired (AG y (la :: ys.ex) (upd A4 la (.lst Ai)) ys.Au) Ai (Am.map rJ):=Paired.mono (fun _ _ z=>(z.LJ g3 RK).new Bf) FG
  have o5:Ae [y] H (upd A4 la (.lst Ai)):=o4.trans (zW.AB ((zW.refl A4).new Bf))
  have g5:(upd A4 la (.lst Ai)) y=some (.ins ys.zY dy [("table", .ref tb),("rooms", .ref ro)]):=by rw[ae (Ne.symm FH)];exact g4
  have LQ:(upd A4 la (.lst Ai)) la=some (.lst Ai):=ac
  have LR:Af K (upd A4 la (.lst Ai)) ro Am:=bq ((zW.refl A4).new Bf) (bq s4 FF)
  refine⟨_,rfl,y,ys.zY,dy,_,rfl,g5,Y.cl,Y.n3,by show 2 < 1000;decide,?_⟩
  generalize upd A4 la (.lst Ai)=A5 at WS o5 g5 LQ LR ⊢
  have WT:Paired (AG y (la :: ys.ex) (upd A5 y (.ins ys.zY dy (aM "lanes" (.ref la) [("table", .ref tb),("rooms", .ref ro)]))) ys.Au) Ai (Am.map rJ):=Paired.mono (fun _ _ z=>z.upd) WS
  have o6:=J0 (o := .ins ys.zY dy (aM "lanes" (.ref la) [("table", .ref tb),("rooms", .ref ro)])) o5
  have g6:(upd A5 y (.ins ys.zY dy (aM "lanes" (.ref la) [("table", .ref tb),("rooms", .ref ro)]))) y=some (.ins ys.zY dy [("table", .ref tb),("rooms", .ref ro),("lanes", .ref la)]):=ac
  have Io:(upd A5 y (.ins ys.zY dy (aM "lanes" (.ref la) [("table", .ref tb),("rooms", .ref ro)]))) la=some (.lst Ai):=by rw[ae FH];exact LQ
  have LS:=eJ (o := .ins ys.zY dy (aM "lanes" (.ref la) [("table", .ref tb),("rooms", .ref ro)])) g5 LR
  generalize upd A5 y (.ins ys.zY dy (aM "lanes" (.ref la) [("table", .ref tb),("rooms", .ref ro)]))=A6 at WT o6 g6 Io LS ⊢
  refine⟨zero_le _,fun le hle=>?_⟩
  have Hg:le ≠ y:=Ne.symm (ag g6 hle)
  have Hi:la ≠ le:=ag Io hle
  have LU:H le=none:=by
   cases e:H le with
   | none=>rfl
   | some u=>rw[o6 _ _ (fun z=>Hg (mem_singleton.mp z)) e]at hle;cases hle
  have WU:Paired (AG y (le :: la :: ys.ex) (upd A6 le (.lst [])) ys.Au) Ai (Am.map rJ):=Paired.mono (fun _ _ z=>z.new hle) WT
  have o7:Ae [y] H (upd A6 le (.lst [])):=o6.trans (zW.AB ((zW.refl A6).new hle))
  have g7:(upd A6 le (.lst [])) y=some (.ins ys.zY dy [("table", .ref tb),("rooms", .ref ro),("lanes", .ref la)]):=by rw[ae (Ne.symm Hg)];exact g6
  have LV:(upd A6 le (.lst [])) la=some (.lst Ai):=by rw[ae Hi];exact Io
  have LW:(upd A6 le (.lst [])) le=some (.lst []):=ac
  have LX:Af K (upd A6 le (.lst [])) ro Am:=bq ((zW.refl A6).new hle) LS
  refine⟨_,rfl,y,ys.zY,dy,_,rfl,g7,Y.cl,Y.n4,by show 3 < 1000;decide,?_⟩
  generalize upd A6 le (.lst [])=A7 at WU o7 g7 LV LW LX ⊢
  have WV:Paired (AG y (le :: la :: ys.ex) (upd A7 y (.ins ys.zY dy (aM "letters" (.ref le) [("table", .ref tb),("rooms", .ref ro),("lanes", .ref la)]))) ys.Au) Ai (Am.map rJ):=Paired.mono (fun _ _ z=>z.upd) WU
  have o8:=J0 (o := .ins ys.zY dy (aM "letters" (.ref le) [("table", .ref tb),("rooms", .ref ro),("lanes", .ref la)])) o7
  have g8:(upd A7 y (.ins ys.zY dy (aM "letters" (.ref le) [("table", .ref tb),("rooms", .ref ro),("lanes", .ref la)]))) y=some (.ins ys.zY dy [("table", .ref tb),("rooms", .ref ro),("lanes", .ref la),("letters", .ref le)]):=ac
  have Ip:(upd A7 y (.ins ys.zY dy (aM "letters" (.ref le) [("table", .ref tb),("rooms", .ref ro),("lanes", .ref la)]))) la=some (.lst Ai):=by rw[ae FH];exact LV
  have Iq:(upd A7 y (.ins ys.zY dy (aM "letters" (.ref le) [("table", .ref tb),("rooms", .ref ro),("lanes", .ref la)]))) le=some (.lst []):=by rw[ae Hg];exact LW
  have LY:=eJ (o := .ins ys.zY dy (aM "letters" (.ref le) [("table", .ref tb),("rooms", .ref ro),("lanes", .ref la)])) g7 LX
  generalize upd A7 y (.ins ys.zY dy (aM "letters" (.ref le) [("table", .ref tb),("rooms", .ref ro),("lanes", .ref la)]))=A8 at WV o8 g8 Ip Iq LY ⊢
  have hT8:=hT.keep W (kp o8)
  refine⟨_,rfl,tb,TC,C8,fst,_,rfl,o8 _ _ (fun z=>RJ (mem_singleton.mp z)) C1,W.cl,W.nl,AF,lx,c.land,Aw,_,_,rfl,hT8.l.1,L.cl,L.np,rfl,(n:Int),rfl,by omega,by omega,?_⟩
  rw[toNat_natCast]
  refine rX (by omega) (fun i B N sB hN=>⟨zero_le _,fun t ht=>hN t ht⟩) (fun li Eg A9 s9 BP hLi=>?_)
  have g9:=s9 _ _ g8
  have o9:Ae [y] H A9:=o8.trans (zW.AB s9)
  have J4:li ≠ y:=Ne.symm (ag g9 BP)
  have LZ:la ≠ li:=ag (s9 _ _ Ip) BP
  have Mb:le ≠ li:=ag (s9 _ _ Iq) BP
  have Ir:H li=none:=by
   cases e:H li with
   | none=>rfl
   | some u=>rw[o9 _ _ (fun z=>J4 (mem_singleton.mp z)) e]at BP;cases BP
  have J5:=(zW.refl A9).new (o := .lst Eg) BP
  have Mc:Paired (AG y (li :: le :: la :: ys.ex) (upd A9 li (.lst Eg)) ys.Au) Ai (Am.map rJ):=Paired.mono (fun _ _ z=>(z.same s9).new BP) WV
  have Hj:Paired (B3 (upd A9 li (.lst Eg))) Eg (List.replicate n []):=Paired.mono (fun _ _ z=>z.keep (zW.Ao J5)) hLi
  have Hk:(upd A9 li (.lst Eg)) li=some (.lst Eg):=ac
  have WW:Ae [y] H (upd A9 li (.lst Eg)):=o9.trans (zW.AB J5)
  have Pf:=J5 _ _ g9
  have Hl:=J5 _ _ (s9 _ _ Ip)
  have Hm:=J5 _ _ (s9 _ _ Iq)
  have Hn:=bq J5 (bq s9 LY)
  refine⟨_,rfl,y,ys.zY,dy,_,rfl,Pf,Y.cl,Y.n5,by show 4 < 1000;decide,?_⟩
  generalize upd A9 li (.lst Eg)=Iu at Mc Hj Hk WW Pf Hl Hm Hn ⊢
  have Md:∀ {B:Hp}{o:HO}{C d:Addr}{fs:Fs}{v:V}{qs:List (Int × Int)},B y=some (.ins C d fs)->B3 B v qs->B3 (upd B y o) v qs:=fun {B o C d fs v qs} hB h=>by
   obtain⟨t,ws,e,h1,h2⟩:=h
   exact⟨t,ws,e,by rw[ae (aX h1 hB (by intro z;cases z))];exact h1,Aq.imp (fun _ _ ⟨t',e',q'⟩=>⟨t',e',by rw[ae (aX q' hB (by intro z;cases z))];exact q'⟩) h2⟩
  have Mf:Paired (AG y (li :: le :: la :: ys.ex) (upd Iu y (.ins ys.zY dy (aM "lies" (.ref li) [("table", .ref tb),("rooms", .ref ro),("lanes", .ref la),("letters", .ref le)]))) ys.Au) Ai (Am.map rJ):=Paired.mono (fun _ _ z=>z.upd) Mc
  have Ho:Paired (B3 (upd Iu y (.ins ys.zY dy (aM "lies" (.ref li) [("table", .ref tb),("rooms", .ref ro),("lanes", .ref la),("letters", .ref le)])))) Eg (List.replicate n []):=Paired.mono (fun _ _ z=>Md Pf z) Hj
  have Pg:=J0 (o := .ins ys.zY dy (aM "lies" (.ref li) [("table", .ref tb),("rooms", .ref ro),("lanes", .ref la),("letters", .ref le)])) WW
  have RM:(upd Iu y (.ins ys.zY dy (aM "lies" (.ref li) [("table", .ref tb),("rooms", .ref ro),("lanes", .ref la),("letters", .ref le)]))) y=some (.ins ys.zY dy [("table", .ref tb),("rooms", .ref ro),("lanes", .ref la),("letters", .ref le),("lies", .ref li)]):=ac
  have EO:(upd Iu y (.ins ys.zY dy (aM "lies" (.ref li) [("table", .ref tb),("rooms", .ref ro),("lanes", .ref la),("letters", .ref le)]))) la=some (.lst Ai):=by rw[ae FH];exact Hl
  have ER:(upd Iu y (.ins ys.zY dy (aM "lies" (.ref li) [("table", .ref tb),("rooms", .ref ro),("lanes", .ref la),("letters", .ref le)]))) le=some (.lst []):=by rw[ae Hg];exact Hm
  have ES:(upd Iu y (.ins ys.zY dy (aM "lies" (.ref li) [("table", .ref tb),("rooms", .ref ro),("lanes", .ref la),("letters", .ref le)]))) li=some (.lst Eg):=by rw[ae J4];exact Hk
  have Hq:=eJ (o := .ins ys.zY dy (aM "lies" (.ref li) [("table", .ref tb),("rooms", .ref ro),("lanes", .ref la),("letters", .ref le)])) Pf Hn
  generalize upd Iu y (.ins ys.zY dy (aM "lies" (.ref li) [("table", .ref tb),("rooms", .ref ro),("lanes", .ref la),("letters", .ref le)]))=A11 at Mf Ho Pg RM EO ER ES Hq ⊢
  refine⟨zero_le _,fun dn BJ=>?_⟩
  have J6:dn ≠ y:=Ne.symm (ag RM BJ)
  have Mg:la ≠ dn:=ag EO BJ
  have Mj:le ≠ dn:=ag ER BJ
  have Mm:li ≠ dn:=ag ES BJ
  have RN:H dn=none:=by
   cases e:H dn with
   | none=>rfl
   | some u=>rw[Pg _ _ (fun z=>J6 (mem_singleton.mp z)) e]at BJ;cases BJ
  have Hr:=(zW.refl A11).new (o := .lst []) BJ
  have RO:=Hr _ _ RM
  refine⟨_,rfl,y,ys.zY,dy,_,rfl,RO,Y.cl,Y.n6,by show 5 < 1000;decide,?_⟩
  refine q Ad ro la le li dn _ (J0 (Pg.trans (zW.AB Hr))) RL LU Ir RN ⟨ac,eJ RO (bq Hr Hq),⟨Ai,by rw[ae FH];exact Hr _ _ EO,?_⟩,⟨[],by rw[ae Hg];exact Hr _ _ ER, .nil⟩,⟨Eg,by rw[ae J4];exact Hr _ _ ES,Paired.mono (fun _ _ z=>Md RO (z.keep (zW.Ao Hr))) Ho⟩,⟨[],by rw[ae J6];exact ac, .nil⟩,?_,(fun b hb=>let ⟨xs,hz⟩:=hex b hb; ⟨xs,(J0 (Pg.trans (zW.AB Hr))) b _ (He b hb) hz⟩)⟩
  ·refine Paired.mono (fun _ _ z=>((z.new BJ).upd).LK fun a ha=>?_) Mf
   simp only[mem_cons]at ha ⊢
   rcases ha with rfl | rfl | rfl | rfl | h
   ·exact .inr (.inr (.inr (.inl rfl)))
   ·exact .inr (.inr (.inl rfl))
   ·exact .inr (.inl rfl)
   ·exact .inl rfl
   ·exact .inr (.inr (.inr (.inr h)))
  ·simp only[nodup_cons,mem_cons,not_mem_nil,or_false,not_or,not_false_eq_true,and_true,nodup_nil]
   exact⟨⟨Hi,LZ,Mg⟩,⟨Mb,Mj⟩,Mm⟩
theorem Ac.off {K:Frag}{ys:Ys}{H H':Hp}{y dy tb ro la le li dn:Addr}{s:YS}(h:Ac K ys H y dy tb ro la le li dn s)(o:Ae (la :: le :: li :: dn :: ys.ex) H H'):H' y=some (.ins ys.zY dy (pN tb ro la le li dn))/\Af K H' ro s.rooms/\(∀ vs ss,Paired (Cm H ys.Au (la :: le :: li :: dn :: ys.ex)) vs ss->Paired (Cm H' ys.Au (la :: le :: li :: dn :: ys.ex)) vs ss)/\(∀ vs ss,Paired (CL H ys.zZ (la :: le :: li :: dn :: ys.ex)) vs ss->Paired (CL H' ys.zZ (la :: le :: li :: dn :: ys.ex)) vs ss)/\(∀ vs ss,Paired (B3 H) vs ss->Paired (B3 H') vs ss)/\∀ vs ss,Paired (Bq H) vs ss->Paired (Bq H') vs ss:=by
 have hx:=h.Dr
 have k:=o.Ao hx
 refine⟨k _ _ h.ins True.intro,?_,fun vs ss=>Paired.mono fun _ _ z=>z.AB hx o,fun vs ss=>Paired.mono fun _ _ z=>z.AB hx o,fun vs ss=>Paired.mono fun _ _ z=>z.keep k,fun vs ss=>Paired.mono fun _ _ z=>z.keep k⟩
 rcases h.Im with r | r
 ·refine .inl ?_
  rcases r with r | ⟨u,r⟩
  ·exact .inl (k _ _ r True.intro)
  ·exact .inr ⟨u,k _ _ r True.intro⟩
 ·exact .inr r
theorem cr {ex:List Addr}{a:Addr}{H:Hp}{o:HO}(ha:a ∈ ex):Ae ex H (upd H a o):=fun b u nb e=>by rw[ae (fun z=>nb (by rw[z];exact ha))];exact e
theorem lN {H:Hp}{x b:Addr}{zs:List V}(h:∃ xs,H b=some (.lst xs)):∃ xs,(upd H x (.lst zs)) b=some (.lst xs):=by
 by_cases e:b=x
 ·exact⟨zs,by rw[e,ac]⟩
 ·obtain⟨xs,hz⟩:=h
  exact⟨xs,by rw[ae e];exact hz⟩
theorem Ac.Mp {K:Frag}{ys:Ys}{H:Hp}{y dy tb ro la le li dn:Addr}{s:YS}(h:Ac K ys H y dy tb ro la le li dn s){vs:List V}{v:V}{t:cp}(hv:H le=some (.lst vs))(hL:CL H ys.zZ (la :: le :: li :: dn :: ys.ex) v t):Ac K ys (upd H le (.lst (vs ++ [v]))) y dy tb ro la le li dn { s with U:=s.U ++ [t] }:=by
 obtain⟨h1,h2,f1,f2,f3,f4⟩:=h.off (cr (a:=le) (o := .lst (vs ++ [v])) (by simp))
 obtain⟨v1,a1,p1⟩:=h.Bf
 obtain⟨v2,a2,p2⟩:=h.hle
 obtain⟨v3,a3,p3⟩:=h.BP
 obtain⟨v4,a4,p4⟩:=h.BJ
 rw[hv]at a2
 cases a2
 have ne:=h.ne
 simp only[nodup_cons,mem_cons,not_mem_nil,or_false,not_or,not_false_eq_true,and_true,nodup_nil]at ne
 have RP:Paired (CL (upd H le (.lst (vs ++ [v]))) ys.zZ (la :: le :: li :: dn :: ys.ex)) [v] [t]:=f2 [v] [t] (.cons hL .nil)
 exact⟨h1,h2,⟨v1,by rw[ae ne.1.1];exact a1,f1 _ _ p1⟩,⟨vs ++ [v],ac,Paired.snoc (by cases RP with | cons z _=>exact z) (f2 _ _ p2)⟩,⟨v3,by rw[ae (Ne.symm ne.2.1.1)];exact a3,f3 _ _ p3⟩,⟨v4,by rw[ae (Ne.symm ne.2.1.2)];exact a4,f4 _ _ p4⟩,h.ne,fun b hb=>lN (h.hex b hb)⟩
theorem Ac.Hs {K:Frag}{ys:Ys}{H:Hp}{y dy tb ro la le li dn:Addr}{s:YS}(h:Ac K ys H y dy tb ro la le li dn s){vs:List V}{v:V}{t:List V}(hv:H dn=some (.lst vs))(hL:Bq H v t):Ac K ys (upd H dn (.lst (vs ++ [v]))) y dy tb ro la le li dn { s with done:=s.done ++ [t] }:=by
 obtain⟨h1,h2,f1,f2,f3,f4⟩:=h.off (cr (a:=dn) (o := .lst (vs ++ [v])) (by simp))
 obtain⟨v1,a1,p1⟩:=h.Bf
 obtain⟨v2,a2,p2⟩:=h.hle
 obtain⟨v3,a3,p3⟩:=h.BP
 obtain⟨v4,a4,p4⟩:=h.BJ
 rw[hv]at a4
 cases a4
 have ne:=h.ne
 simp only[nodup_cons,mem_cons,not_mem_nil,or_false,not_or,not_false_eq_true,and_true,nodup_nil]at ne
 have RP:Paired (Bq (upd H dn (.lst (vs ++ [v])))) [v] [t]:=f4 [v] [t] (.cons hL .nil)
 exact⟨h1,h2,⟨v1,by rw[ae ne.1.2.2];exact a1,f1 _ _ p1⟩,⟨v2,by rw[ae ne.2.1.2];exact a2,f2 _ _ p2⟩,⟨v3,by rw[ae ne.2.2];exact a3,f3 _ _ p3⟩,⟨vs ++ [v],ac,Paired.snoc (by cases RP with | cons z _=>exact z) (f4 _ _ p4)⟩,h.ne,fun b hb=>lN (h.hex b hb)⟩
inductive Pd
 | place | length | word | way | full | good
noncomputable def lD (n:Nat)(wy:Wf)(m:Nat)(sv gv lv wv:V):Pd :=
 if (kB sv 0 ((n:Int) - 1) && kB gv 0 ((n:Int) - 1))=false then .place else if kB lv 1 60=false then .length else if Jz wv=false then .word
 else if vI sv=vI gv∨wy (vI sv).toNat (vI gv).toNat none=[] then .way else if 60 <= m then .full else .good
structure Xs where
 place:Addr
 length:Addr
 word:Addr
 way:Addr
 full:Addr
noncomputable def iQ (s:YS)(a b l u:Int):YS:={ s with U:=s.U ++ [⟨a,b,l,u,0,[]⟩],done:=s.done ++ [[.str "post", .int a, .int b, .int l, .int u]] }
noncomputable def oA (K:Frag)(c:Cs)(TC:Addr)(J:TJ)(ys:Ys)(x:Xs):Sp:=fun vs H Q E=>∃ (y dy tb ro la le li dn lx Aw lt:Addr)(n:Nat)(Ag:List V)(ps:List (Int × Int))(wy:Wf)(s:YS)(sv gv lv wv:V),vs=[.ref y,sv,gv,lv,wv]/\Ac K ys H y dy tb ro la le li dn s/\Bm c TC J H tb lx Aw lt n Ag ps wy/\sd sv/\sd gv/\sd lv/\sd wv/\s.U.length <= 900/\s.done.length <= 10000 /\
 (lD n wy s.U.length sv gv lv wv = .place->∀ H',zW H H'->E (.ref x.place) none H') /\
 (lD n wy s.U.length sv gv lv wv = .length->∀ H',zW H H'->E (.ref x.length) none H') /\
 (lD n wy s.U.length sv gv lv wv = .word->∀ H',zW H H'->E (.ref x.word) none H') /\
 (lD n wy s.U.length sv gv lv wv = .way->∀ H' d,zW H H'->H' d=some (.xd [("start",sv),("goal",gv)])->E (.ref x.way) (some d) H') /\
 (lD n wy s.U.length sv gv lv wv = .full->∀ H',zW H H'->E (.ref x.full) none H') /\
 (lD n wy s.U.length sv gv lv wv = .good->∀ H',Ae [le,dn] H H'->Ac K ys H' y dy tb ro la le li dn (iQ s (vI sv) (vI gv) (vI lv) (vI wv))->Q (.int s.U.length) H')
structure WX (K:Frag)(mg:Str->Option Value)(C f:Addr)(d:FuncData):Prop where
 m:mg "NoWay" = some (.ref C)
 x:b8 K C (some (.ref f))=true
 k:keepIn K (.ref C)=true
 c:gK K C
 n1:findIn K (.ref C) "start" = some none
 n2:findIn K (.ref C) "goal" = some none
 i:isFn K (.ref f)=true
 F:As K "__init__" "NoWay.__init__" vS f d
 b:Binds K d ["self", "start", "goal"] []
noncomputable abbrev NPo:List Str:=["self", "start", "goal", "length", "word", "last_place"]
noncomputable abbrev Mq:List Str:=["self", "start", "goal", "length", "word"]
theorem Mr:ao NPo Mq (ai ig):=L2.Ax
theorem wx {c:Cs}{ys:Ys}{x:Xs}{J:TJ}{TC f GX fw RQ fl WY:Addr}{fd GZ dw WZ dl Xa:FuncData}{t1 t2:Tok}(F:Ed K "post" "Yard.post" ig f fd)(T:dR mg)(L:lY K c)(Y:gj K ys)(W:Wy K TC GX GZ J)(Iv:zX P w K mg base aC 3 GX GZ ["self", "place", "goal", "came"] (eK J))
  (mw:mg "is_within" = some (.ref fw)) (kw:keepIn K (.ref fw)=true) (bw:Binds K dw ["value", "least", "most"] []) (Gw:zX P w K mg base aC 2 fw dw ["value", "least", "most"] fM)
  (mwo:mg "is_word" = some (.ref RQ)) (kwo:keepIn K (.ref RQ)=true) (bwo:Binds K WZ ["word"] []) (RS:zX P w K mg base aC 2 RQ WZ ["word"] sD)
  (ml:mg "Letter" = some (.ref ys.zZ)) (Ml:Mk K ys.zZ fl) (bl:Binds K dl ["self", "start", "goal", "length", "word"] []) (Gl:zX P w K mg base aC 1 fl dl ["self", "start", "goal", "length", "word"] (sQ ys.zZ))
  (mL:mg "MOST_LENGTH" = some (.int 60 t1)) (mM:mg "MOST_LETTERS" = some (.int 60 t2)) (X1:vE K mg "NoPlace" x.place) (X2:vE K mg "NoLength" x.length) (X3:vE K mg "NoWord" x.word) (X4:WX K mg x.way WY Xa) (X5:vE K mg "Full" x.full) :
  zX P w K mg base (eE P w) 4 f fd Mq (oA K c TC J ys x):=by
 have Gnw:zX P w K mg base aC 1 WY Xa ["self", "start", "goal"] (x9 K "start" "goal"):=LD X4.F
 refine F.Fl Mr (fun vs H Q E h=>?_) (fun cdv A outer s H vs Q E hr h=>?_)
 ·obtain⟨y,dy,tb,ro,la,le,li,dn,lx,Aw,lt,n,Ag,ps,wy,s,sv,gv,lv,wv,rfl,_⟩:=h
  rfl
 ·obtain⟨y,dy,tb,ro,la,le,li,dn,lx,Aw,lt,n,Ag,ps,wy,st,sv,gv,lv,wv,rfl,hY,hT,cs,cg,cl,cw,hl9,hd9,e1,e2,e3,e4,e5,q⟩:=h
  have Bv:Ah 2 _:=hr.mono (by decide)
  refine⟨_,af (aE (i:=5) Mr.nd rfl (Or.inl rfl) (aD eP (al (al (al (pv 0) rfl) rfl) rfl) aj))
   (af (aO (PW.pt (j5 (cj (bQ (aq Gw Bv rfl mw kw bw .nil ap (aa (pv 1) (aa aj (aa (pv 5) ad)))))) (gF (cj (bQ (aq Gw Bv rfl mw kw bw .nil ap (aa (pv 2) (aa aj (aa (pv 5) ad)))))))))
    (ah (bF rfl X1.x aP (cf X1.x X1.k rfl rfl X1.m (aa bC ad)))) aH)
   (af (aO (cj (bQ (aq Gw Bv rfl mw kw bw .nil ap (aa (pv 3) (aa aj (aa (eO (v := .int 60) rfl mL ⟨_,rfl⟩) ad))))))
    (ah (bF rfl X2.x aP (cf X2.x X2.k rfl rfl X2.m (aa bC ad)))) aH)
   (af (aO (cj (bQ (aq RS Bv rfl mwo kwo bwo .nil ap (aa (pv 4) ad))))
    (ah (bF rfl X3.x aP (cf X3.x X3.k rfl rfl X3.m (aa bC ad)))) aH)
   (af (aO (jf (PW.pt (j5 (ax bG (pv 1) (pv 2) (aB _)) (gF (cj (j6 (aA (al (pv 0) rfl) W.cl W.m Iv hr W.b .nil ap (aa (pv 1) (aa (pv 2) (aa cI ad)))) (fun _=>rfl)))))))
    (ah (bF rfl X4.x aP (je X4.x X4.i X4.k Gnw Bv X4.b rfl X4.m (aa (pv 1) (aa (pv 2) ad))))) aH)
   (af (aO (ax xL (az aw rfl T.len PySem.boot_len (aa (al (pv 0) rfl) ad)) (eO (v := .int 60) rfl mM ⟨_,rfl⟩) (aB _))
    (ah (bF rfl X5.x aP (cf X5.x X5.k rfl rfl X5.m (aa bC ad)))) aH)
   (af (aK (cu plainAttrs_list PySem.F.slot_list_append PySem.F.type_list_append b7 (al (pv 0) rfl) (aa (c8 Ml Gl Bv rfl ml bl .nil ap (aa (pv 1) (aa (pv 2) (aa (pv 3) (aa (pv 4) ad))))) ad)))
   (af (aK (cu plainAttrs_list PySem.F.slot_list_append PySem.F.type_list_append b7 (al (pv 0) rfl) (aa (bH (aa bC (aa (pv 1) (aa (pv 2) (aa (pv 3) (aa (pv 4) ad)))))) ad)))
   (ah (ar (aD eP (az aw rfl T.len PySem.boot_len (aa (al (pv 0) rfl) ad)) aj)))))))))),?_⟩
  obtain⟨C8,fst,C1,AF,B9⟩:=hT.i
  unfold lD at e1 e2 e3 e4 e5 q
  refine⟨_,rfl,y,ys.zY,dy,_,_,rfl,hY.ins,Y.cl,Y.n1,rfl,tb,TC,C8,fst,_,rfl,C1,W.cl,W.nl,AF,lx,c.land,Aw,_,_,rfl,hT.l.1,L.cl,L.np,rfl,_,_,rfl,rfl,?_⟩
  refine⟨_,rfl,_,rfl,sv,0,(n:Int) - 1,rfl,cs,_,rfl,?_⟩
  cases h1:kB sv 0 ((n:Int) - 1) with
  | false =>
   refine aN (aN ⟨by show 1 <= sizeLine;decide,?_⟩)
   exact e1 (by rw[h1,Bool.false_and,if_pos rfl]) H (zW.refl H)
  | true =>
  refine aJ ⟨_,rfl,_,rfl,gv,0,(n:Int) - 1,rfl,cg,_,rfl,?_⟩
  cases h2:kB gv 0 ((n:Int) - 1) with
  | false =>
   refine aN ⟨by show 1 <= sizeLine;decide,?_⟩
   exact e1 (by rw[h1,h2,Bool.and_false,if_pos rfl]) H (zW.refl H)
  | true =>
  rw[h1,h2,Bool.true_and,if_neg (by decide)]at e2 e3 e4 e5 q
  refine aJ ⟨_,rfl,lv,1,60,rfl,cl,_,rfl,?_⟩
  cases h3:kB lv 1 60 with
  | false =>
   refine aN ⟨by show 1 <= sizeLine;decide,?_⟩
   exact e2 (by rw[h3,if_pos rfl]) H (zW.refl H)
  | true =>
  rw[h3,if_neg (by decide)]at e3 e4 e5 q
  refine aJ ⟨_,rfl,wv,rfl,cw,_,rfl,?_⟩
  cases h4:Jz wv with
  | false =>
   refine aN ⟨by show 1 <= sizeLine;decide,?_⟩
   exact e3 (by rw[h4,if_pos rfl]) H (zW.refl H)
  | true =>
  rw[h4,if_neg (by decide)]at e4 e5 q
  refine aJ ?_
  obtain⟨a,rfl⟩:=ip h1
  obtain⟨b,rfl⟩:=ip h2
  obtain⟨l,rfl⟩:=ip h3
  obtain⟨u,rfl⟩:∃ u,wv = .int u:=by
   cases wv<;>first | exact⟨_,rfl⟩ | cases h4
  have ha:0 <= a/\a <= (n:Int) - 1:=of_decide_eq_true h1
  have hb:0 <= b/\b <= (n:Int) - 1:=of_decide_eq_true h2
  obtain⟨a',rfl⟩:∃ a':Nat,a=(a':Int):=⟨a.toNat,by omega⟩
  obtain⟨b',rfl⟩:∃ b':Nat,b=(b':Int):=⟨b.toNat,by omega⟩
  have ev:∀ z:Int,vI (.int z)=z:=fun _=>rfl
  rw[ev,ev,toNat_natCast,toNat_natCast]at e4 e5 q
  refine⟨fun k H1=>zW H H1/\k=decide ((a':Int)=(b':Int)∨wy a' b' none=[]),?_,?_⟩
  ·refine⟨_,rfl,_,rfl,rfl,_,rfl,?_⟩
   rw[bN]
   by_cases Ht:(a':Int)=(b':Int)
   ·rw[decide_eq_true Ht]
    exact aN ⟨zW.refl H,by rw[decide_eq_true (Or.inl Ht)]⟩
   ·rw[decide_eq_false Ht]
    refine aJ ⟨_,rfl,y,ys.zY,dy,_,_,rfl,hY.ins,Y.cl,Y.n1,rfl,tb,C8,fst,rfl,C1,B9,_,rfl,_,rfl,tb,n,wy,a',b',none,rfl,hT.j,by omega,by omega,fun D H1 s1 hD gD=>⟨_, .inl ⟨_,Aa.of gD,rfl⟩,s1,?_⟩⟩
    cases hw:wy a' b' none with
    | nil=>rw[decide_eq_true (Or.inr rfl)];rfl
    | cons z zs=>rw[decide_eq_false (fun z=>z.elim Ht fun z=>by cases z)];rfl
  rintro k H1 ⟨s1,rfl⟩
  have Bb:=hY.same s1
  by_cases FI:(a':Int)=(b':Int)∨wy a' b' none=[]
  ·rw[decide_eq_true FI]
   refine aN ⟨_,rfl,_,rfl,by show 2 <= sizeLine;decide,fun e tt he=>⟨e,_,tt,_,_,rfl,ac,X4.c,X4.n1,X4.n2,fun d H2 hd off Fm hd2=>⟨rfl,some d,Fm,?_⟩⟩⟩
   have Fq:d ≠ e:=fun z=>by rw[z,ac]at hd;cases hd
   refine e4 (by rw[if_pos FI]) _ d (fun z o ez=>?_) (by rw[dM Fq];exact hd2)
   have RT:z ≠ e:=ag (s1 _ _ ez) he
   rw[dM RT]
   exact off z o RT (by rw[ae RT];exact s1 _ _ ez)
  rw[decide_eq_false FI]
  rw[if_neg FI]at e5 q
  refine aJ ?_
  obtain⟨Eh,Bn,pl⟩:=Bb.hle
  have E3:Eh.length=st.U.length:=Paired.length pl
  refine⟨_,rfl,y,ys.zY,dy,_,_,rfl,Bb.ins,Y.cl,Y.n4,rfl,le,_,rfl, .inl (Aa.of Bn),_,_,rfl,rfl,_,rfl,?_⟩
  by_cases Hu:60 <= st.U.length
  ·rw[decide_eq_true (show (60:Int) <= (Eh.length:Nat) by omega)]
   refine aN ⟨by show 1 <= sizeLine;decide,?_⟩
   exact e5 (by rw[if_pos Hu]) H1 s1
  rw[decide_eq_false (show ¬ (60:Int) <= (Eh.length:Nat) by omega)]
  rw[if_neg Hu]at q
  refine aJ ?_
  refine⟨_,rfl,y,ys.zY,dy,_,_,rfl,Bb.ins,Y.cl,Y.n4,rfl, .inl ⟨rfl,_,Aa.of Bn⟩,_,rfl,_,rfl,_,rfl,_,rfl,fun xl BZ nx LP He=>⟨xl,BZ,(a':Int),(b':Int),l,u,rfl,ac,fun wa H2 Ef off Fp Ph=>⟨rfl,?_⟩⟩⟩
  have RU:zW H1 H2:=fun z o ez=>off z o (ag ez nx) (by rw[ae (ag ez nx),ae (ag ez LP)];exact ez)
  have RV:H1 wa=none:=by
   by_cases z1:wa=xl
   ·rw[z1,ac]at Ef;cases Ef
   ·by_cases z2:wa=BZ
    ·rw[z2,ae He,ac]at Ef;cases Ef
    ·rw[ae z1,ae z2]at Ef;exact Ef
  have Bi:=Bb.same RU
  have Ms:=RU _ _ Bn
  have hlv:CL H2 ys.zZ (la :: le :: li :: dn :: ys.ex) (.ref xl) ⟨(a':Int),(b':Int),l,u,0,[]⟩:=⟨xl,BZ,wa,rfl,Fp,Ph,fun z=>by obtain⟨xs,hz⟩:=Bb.Dr wa z;rw[RV]at hz;cases hz⟩
  refine⟨le,_,_,rfl,rfl,Ms,by rw[sizeLine_eq];omega,?_⟩
  have AS:=Bi.Mp Ms hlv
  have o3:Ae [le,dn] H (upd H2 le (.lst (Eh ++ [.ref xl]))):=(zW.AB (s1.trans RU)).trans (cr (by simp))
  generalize upd H2 le (.lst (Eh ++ [.ref xl]))=H3 at AS o3 ⊢
  obtain⟨AL,Hv,pd⟩:=AS.BJ
  have Ie:AL.length=st.done.length:=Paired.length pd
  refine⟨_,rfl,y,ys.zY,dy,_,_,rfl,AS.ins,Y.cl,Y.n6,rfl, .inl ⟨rfl,_,Aa.of Hv⟩,_,rfl,_,rfl,_,rfl,_,rfl,by show 5 <= sizeLine;decide,fun t ht=>?_⟩
  have Pj:=(zW.refl H3).new (o := .tup [.str "post", .int (a':Int), .int (b':Int), .int l, .int u]) ht
  have Xb:(upd H3 t (.tup [.str "post", .int (a':Int), .int (b':Int), .int l, .int u])) t=some (.tup [.str "post", .int (a':Int), .int (b':Int), .int l, .int u]):=ac
  generalize upd H3 t (.tup [.str "post", .int (a':Int), .int (b':Int), .int l, .int u])=H4 at Pj Xb ⊢
  have Ds:=AS.same Pj
  have Mu:=Pj _ _ Hv
  refine⟨dn,_,_,rfl,rfl,Mu,by rw[sizeLine_eq];omega,?_⟩
  have Ca:=Ds.Hs Mu ⟨t,rfl,Xb⟩
  have o5:Ae [le,dn] H (upd H4 dn (.lst (AL ++ [.ref t]))):=(o3.trans (zW.AB Pj)).trans (cr (by simp))
  generalize upd H4 dn (.lst (AL ++ [.ref t]))=H5 at Ca o5 ⊢
  obtain⟨Xc,RW,pl5⟩:=Ca.hle
  have hl5:Xc.length=st.U.length + 1:=by rw[Paired.length pl5,length_append];rfl
  refine⟨_,rfl,y,ys.zY,dy,_,_,rfl,Ca.ins,Y.cl,Y.n4,rfl,le,_,rfl, .inl (Aa.of RW),_,_,rfl,rfl,?_⟩
  have er:((Xc.length:Nat):Int) - 1=(st.U.length:Int):=by omega
  dsimp only
  rw[er]
  exact q rfl H5 o5 Ca
theorem kT {K:Frag}{a:Addr}{xs:List V}{g:TG}{te:TE}{σ0:St}{H:Hp}{Q:VK}(f:Nat->V)(hn:xs.length < sizeLine)(ha:Aa K H a xs)
  (hs:∀ (i:Nat)(x:V)(N:V->Hp->Prop),xs[i]? = some x->N (f i) H->g x σ0 H fun σ2 H2=>te σ2 H2 N)
  (hq:∀ D,H D=none->Q (.ref D) (upd H D (.lst ((List.range xs.length).map f)))):dE (vy K a) g lg te σ0 Q H:=by
 refine bK xs.length hn (fun i acc H'=>H' = H/\acc=(List.range i).map f) ⟨rfl,rfl⟩ (fun i acc H' h=>by rw[h.2,length_map,length_range];exact le_refl _) (fun i acc H' hi h=>?_) (fun acc H' h=>?_)
 ·obtain⟨rfl,rfl⟩:=h
  refine⟨⟨xs,xs[i],ha,by simp[hi]⟩,fun v H2 y=>?_⟩
  obtain⟨e,y⟩:=y
  subst e
  exact hs i v (fun y H4=>H4=H2/\(List.range i).map f ++ [y]=(List.range (i + 1)).map f) (y xs ha) ⟨rfl,by rw[range_succ,map_append];rfl⟩
 ·obtain⟨rfl,rfl⟩:=h
  exact⟨⟨xs,ha,le_refl _⟩,hq⟩
theorem j4 {α β:Type}(xs:List α)(d:α)(f:α->β):(List.range xs.length).map (fun i=>f (xs.getD i d))=xs.map f:=by
 refine List.ext_getElem (by simp) fun i h1 h2=>?_
 simp only[getElem_map,List.getElem_range]
 rw[getD_eq_getElem?_getD,List.getElem?_eq_getElem (by simpa using h2)];rfl
noncomputable def RX (K:Frag):List V->Hp->VK->Prop:=fun xs H Q=>∃ (p:Addr)(ys:List V),xs=[.ref p]/\(Aa K H p ys∨Af K H p ys)/\Q (.int (ys.length:Nat)) H
noncomputable def qc (K:Frag)(ys:Ys):Sp:=fun vs H Q _=>∃ (y dy tb ro la le li dn:Addr)(s:YS)(k:Nat)(ln:cz),vs=[.ref y, .int k]/\Ac K ys H y dy tb ro la le li dn s/\s.lanes[k]? = some ln/\∀ (t ql:Addr)(Al:List V)(H':Hp),zW H H'->H ql=none->H' t=some (.tup [.int ln.r, .int ln.b,hV ln.h, .ref ql])->H' ql=some (.lst Al)->Aq H' Al ln.qs->Q (.ref t) H'
noncomputable def sT (K:Frag)(ys:Ys):Sp:=fun vs H Q _=>∃ (y dy tb ro la le li dn:Addr)(s:YS)(k:Nat)(lt:cp),vs=[.ref y, .int k]/\Ac K ys H y dy tb ro la le li dn s/\s.U[k]? = some lt/\∀ (t:Addr)(H':Hp),zW H H'->H' t=some (.tup [.int lt.start, .int lt.goal, .int lt.len, .int lt.word])->Q (.ref t) H'
noncomputable def sE (K:Frag)(ys:Ys):Sp:=fun vs H Q _=>∃ (y dy tb ro la le li dn:Addr)(s:YS)(k:Nat)(lt:cp),vs=[.ref y, .int k]/\Ac K ys H y dy tb ro la le li dn s/\s.U[k]? = some lt/\∀ (t:Addr)(H':Hp),zW H H'->H t=none->H' t=some (.lst (nV lt.way))->Q (.ref t) H'
noncomputable def m8 (K:Frag)(ys:Ys):Sp:=fun vs H Q _=>∃ (y dy tb ro la le li dn:Addr)(s:YS),vs=[.ref y]/\Ac K ys H y dy tb ro la le li dn s/\Q (.int s.U.length) H
noncomputable def sX (K:Frag)(ys:Ys):Sp:=fun vs H Q _=>∃ (y dy tb ro la le li dn:Addr)(s:YS),vs=[.ref y]/\Ac K ys H y dy tb ro la le li dn s/\∀ (t:Addr)(vs:List V)(H':Hp),zW H H'->H t=none->H' t=some (.lst vs)->Paired (Bq H') vs s.done->Q (.ref t) H'
theorem RY:ao ["self", "lane"] ["self", "lane"] (ai oQ):=L2.Ax
theorem uB {ys:Ys}{f ft:Addr}{fd dt:FuncData}(F:As K "lane_told" "Yard.lane_told" oQ f fd)(Y:gj K ys)(mt:bz K ys.Au "told" ft)(bt:Binds K dt ["self"] [])(Gt:zX P w K mg base aC 1 ft dt ["self"] (xG ys.Au)) :
  zX P w K mg base aC 2 f fd ["self", "lane"] (qc K ys):=by
 refine F.ok RY (fun vs H Q E h=>?_) (fun cdv A outer s H vs Q E hr h=>?_)
 ·obtain⟨y,dy,tb,ro,la,le,li,dn,st,k,ln,rfl,_⟩:=h
  rfl
 ·obtain⟨y,dy,tb,ro,la,le,li,dn,st,k,ln,rfl,hY,hk,q⟩:=h
  refine⟨_,ah (ar (aT (av aI (al (pv 0) rfl) (pv 1) (fun _ _=>rfl)) Y.L.cl mt Gt hr bt .nil ap)),?_⟩
  obtain⟨Ai,AX,pl⟩:=hY.Bf
  obtain⟨v,hv,x,dx,pa,Al,rfl,hL,_⟩:=Paired.at2 pl hk
  refine⟨_,rfl,y,ys.zY,dy,_,_,rfl,hY.ins,Y.cl,Y.n3,rfl,_,rfl,la,Ai,(k:Int),_,rfl,rfl,Aa.of AX,ak hv,x,dx,_,rfl,hL.ins,rfl,?_⟩
  exact⟨x,dx,pa,ln.r,ln.b,ln.h,Al,ln.qs,rfl,hL,fun t ql H' s' EN gt Iw=>q t ql Al H' s' EN gt Iw (Aq.same s' hL.Bp)⟩
theorem Mw:ao ["self", "number", "letter"] ["self", "number"] (ai tO):=L2.Ax
theorem wG {ys:Ys}{f:Addr}{fd:FuncData}(F:As K "letter_told" "Yard.letter_told" tO f fd)(Y:gj K ys):zX P w K mg base aC 1 f fd ["self", "number"] (sT K ys):=by
 refine F.ok Mw (fun vs H Q E h=>?_) (fun cdv A outer s H vs Q E hr h=>?_)
 ·obtain⟨y,dy,tb,ro,la,le,li,dn,st,k,ln,rfl,_⟩:=h
  rfl
 ·obtain⟨y,dy,tb,ro,la,le,li,dn,st,k,lt,rfl,hY,hk,q⟩:=h
  refine⟨_,af (aE (i:=2) Mw.nd rfl (Or.inl rfl) (av aI (al (pv 0) rfl) (pv 1) (fun _ _=>rfl))) (ah (ar (bH (aa (al (pv 2) rfl) (aa (al (pv 2) rfl) (aa (al (pv 2) rfl) (aa (al (pv 2) rfl) ad))))))),?_⟩
  obtain⟨Ag,Bn,pl⟩:=hY.hle
  obtain⟨v,hv,x,dx,wa,rfl,hx,_⟩:=Paired.at2 pl hk
  refine⟨_,rfl,y,ys.zY,dy,_,_,rfl,hY.ins,Y.cl,Y.n4,rfl,_,rfl,le,Ag,(k:Int),_,rfl,rfl,Aa.of Bn,ak hv,?_⟩
  refine⟨_,rfl,x,ys.zZ,dx,_,_,rfl,hx,Y.ct,Y.t1,rfl,_,rfl,x,ys.zZ,dx,_,_,rfl,hx,Y.ct,Y.t2,rfl,_,rfl,x,ys.zZ,dx,_,_,rfl,hx,Y.ct,Y.t3,rfl,_,rfl,x,ys.zZ,dx,_,_,rfl,hx,Y.ct,Y.t4,rfl,by show 4 <= sizeLine;decide,fun t ht=>?_⟩
  exact q t _ ((zW.refl H).new ht) ac
theorem RZ:ao ["self", "number"] ["self", "number"] (ai tD):=L2.Ax
theorem wq {ys:Ys}{f:Addr}{fd:FuncData}(F:As K "way_told" "Yard.way_told" tD f fd)(T:dR mg)(Y:gj K ys):zX P w K mg base aC 1 f fd ["self", "number"] (sE K ys):=by
 refine F.ok RZ (fun vs H Q E h=>?_) (fun cdv A outer s H vs Q E hr h=>?_)
 ·obtain⟨y,dy,tb,ro,la,le,li,dn,st,k,ln,rfl,_⟩:=h
  rfl
 ·obtain⟨y,dy,tb,ro,la,le,li,dn,st,k,lt,rfl,hY,hk,q⟩:=h
  refine⟨_,ah (ar (bu aW rfl T.list PySem.Pv.boot_list (aa (al (av aI (al (pv 0) rfl) (pv 1) (fun _ _=>rfl)) rfl) ad))),?_⟩
  obtain⟨Ag,Bn,pl⟩:=hY.hle
  obtain⟨v,hv,x,dx,wa,rfl,hx,hw,_⟩:=Paired.at2 pl hk
  refine⟨_,rfl,y,ys.zY,dy,_,_,rfl,hY.ins,Y.cl,Y.n4,rfl,_,rfl,le,Ag,(k:Int),_,rfl,rfl,Aa.of Bn,ak hv,x,ys.zZ,dx,_,_,rfl,hx,Y.ct,Y.t6,rfl,wa,_,rfl, .inl (Aa.of hw),fun t ht=>?_⟩
  exact q t _ ((zW.refl H).new ht) ht ac
theorem Sb:ao ["self"] ["self"] (ai ls):=L2.Ax
theorem r9 {ys:Ys}{f:Addr}{fd:FuncData}(F:As K "posted" "Yard.posted" ls f fd)(T:dR mg)(Y:gj K ys):zX P w K mg base aC 1 f fd ["self"] (m8 K ys):=by
 refine F.ok Sb (fun vs H Q E h=>?_) (fun cdv A outer s H vs Q E hr h=>?_)
 ·obtain⟨y,dy,tb,ro,la,le,li,dn,st,rfl,_⟩:=h
  rfl
 ·obtain⟨y,dy,tb,ro,la,le,li,dn,st,rfl,hY,q⟩:=h
  refine⟨_,ah (ar (az aw rfl T.len PySem.boot_len (aa (al (pv 0) rfl) ad))),?_⟩
  obtain⟨Ag,Bn,pl⟩:=hY.hle
  refine⟨_,rfl,y,ys.zY,dy,_,_,rfl,hY.ins,Y.cl,Y.n4,rfl,le,_,rfl, .inl (Aa.of Bn),?_⟩
  rw[Paired.length pl]
  exact q
theorem Se:ao ["self"] ["self"] (ai tR):=L2.Ax
theorem wJ {ys:Ys}{f:Addr}{fd:FuncData}(F:As K "history" "Yard.history" tR f fd)(T:dR mg)(Y:gj K ys):zX P w K mg base aC 1 f fd ["self"] (sX K ys):=by
 refine F.ok Se (fun vs H Q E h=>?_) (fun cdv A outer s H vs Q E hr h=>?_)
 ·obtain⟨y,dy,tb,ro,la,le,li,dn,st,rfl,_⟩:=h
  rfl
 ·obtain⟨y,dy,tb,ro,la,le,li,dn,st,rfl,hY,q⟩:=h
  refine⟨_,ah (ar (bu aW rfl T.list PySem.Pv.boot_list (aa (al (pv 0) rfl) ad))),?_⟩
  obtain⟨AL,Hv,pd⟩:=hY.BJ
  refine⟨_,rfl,y,ys.zY,dy,_,_,rfl,hY.ins,Y.cl,Y.n6,rfl,dn,_,rfl, .inl (Aa.of Hv),fun t ht=>?_⟩
  exact q t AL _ ((zW.refl H).new ht) ht ac (Paired.mono (fun _ _ z=>z.keep (zW.Ao ((zW.refl H).new ht))) pd)
theorem pF {K:Frag}{T:Addr}{o:Obj}{n:Nat}{kV doc pm cdv ct:Value}{an:Option Addr}(ho:K.lookup T=some o)(hs:o.data = .seq #[Value.none] n) :
  Binds K (fnOf "__init__" "Yard.__init__" (bO iE) (aG iE) (ai iE) (.ref T) kV doc pm an cdv ct) ["self", "table", "rooms"] []:=fun s us Eo hl=>by
 have hl:us.length=3:=by rw[append_nil]at hl;exact hl
 obtain⟨a,us0,rfl,Pk⟩:=L2.G5 hl
 obtain⟨b,us1,rfl,Mx⟩:=L2.G5 Pk
 obtain⟨c,us2,rfl,Eu⟩:=L2.G5 Mx
 obtain rfl:=List.eq_nil_of_length_eq_zero Eu
 exact BindsTo.of_defaults rfl (Eo _ _ ho) hs rfl rfl
theorem nR {K:Frag}{T:Addr}{o:Obj}{n:Nat}{tk:Tok}{kV doc pm cdv ct:Value}{an:Option Addr}(ho:K.lookup T=some o)(hs:o.data = .seq #[Value.int 0 tk] n) :
  Binds K (fnOf "post" "Yard.post" (bO ig) (aG ig) (ai ig) (.ref T) kV doc pm an cdv ct) Mq []:=fun s us Eo hl=>by
 have hl:us.length=5:=by rw[append_nil]at hl;exact hl
 obtain⟨a,us0,rfl,Pk⟩:=L2.G5 hl
 obtain⟨b,us1,rfl,Mx⟩:=L2.G5 Pk
 obtain⟨c,us2,rfl,Eu⟩:=L2.G5 Mx
 obtain⟨d,us3,rfl,Pl⟩:=L2.G5 Eu
 obtain⟨e,us4,rfl,hl4⟩:=L2.G5 Pl
 obtain rfl:=List.eq_nil_of_length_eq_zero hl4
 exact BindsTo.of_defaults rfl (Eo _ _ ho) hs rfl rfl
noncomputable def xF (C:Addr):Sp:=fun vs H Q _=>∃ (x dx pa:Addr)(r b:Int)(h:Option Int)(Al:List V)(qs:List (Int × Int)),vs=[.ref x]/\Ar H C x dx pa r b h Al qs/\∀ (x' DZ E4:Addr)(H':Hp),zW H H'->H x' = none->H E4 = none->Ar H' C x' DZ E4 r b h Al qs->Q (.ref x') H'
noncomputable def xD (C:Addr):Sp:=fun vs H Q _=>∃ (x dx wa:Addr)(s:cp),vs=[.ref x]/\H x=some (.ins C dx (pj s wa))/\H wa=some (.lst (nV s.way))/\∀ (x' DZ DU:Addr)(H':Hp),zW H H'->H x' = none->H DU = none->H' x' = some (.ins C DZ (pj s DU))->H' DU = some (.lst (nV s.way))->Q (.ref x') H'
theorem Hw:ao ["self", "other"] ["self"] (ai y4):=L2.Ax
theorem zc {C f fl:Addr}{fd dl:FuncData}(F:As K "twin" "Lane.twin" y4 f fd)(T:dR mg)(L:xw K C)(ml:mg "Lane" = some (.ref C))(Ml:Mk K C fl)(bl:Binds K dl ["self", "room"] [])(Gl:zX P w K mg base aC 1 fl dl ["self", "room"] (sR C)) :
  zX P w K mg base aC 3 f fd ["self"] (xF C):=by
 refine F.ok Hw (fun vs H Q E h=>?_) (fun cdv A outer s H vs Q E hr h=>?_)
 ·obtain⟨x,dx,pa,r,b,h,Al,qs,rfl,_⟩:=h
  rfl
 ·obtain⟨x,dx,pa,r,b,h,Al,qs,rfl,hL,q⟩:=h
  refine⟨_,af (aE (i:=1) Hw.nd rfl (Or.inl rfl) (c8 Ml Gl hr rfl ml bl .nil ap (aa (al (pv 0) rfl) ad)))
   (af (aR (pv 1) (al (pv 0) rfl) rfl)
   (af (aR (pv 1) (al (pv 0) rfl) rfl)
   (af (aR (pv 1) (bu aW rfl T.list PySem.Pv.boot_list (aa (al (pv 0) rfl) ad)) rfl)
   (ah (ar (pv 1)))))),?_⟩
  refine⟨_,rfl,x,C,dx,_,_,rfl,hL.ins,L.cl,L.n1,rfl,fun x' d' nx nd ne=>⟨x',d',r,rfl,ac,fun Iy H1 FA off Iz=>⟨rfl,?_⟩⟩⟩
  have s1:zW H H1:=fun z o ez=>off z o (ag ez nx) (by rw[ae (ag ez nx),ae (ag ez nd)];exact ez)
  have hi1:=Iz.ins
  clear FA off Iz
  refine⟨_,rfl,x,C,dx,_,_,rfl,s1 _ _ hL.ins,L.cl,L.n2,rfl,_,rfl,x',C,d',_,rfl,hi1,L.cl,L.n2,by show 4 < 1000;decide,?_⟩
  have o2:∀ o',zW H (upd H1 x' o'):=fun o' z o ez=>by rw[ae (ag ez nx)];exact s1 _ _ ez
  refine⟨_,rfl,x,C,dx,_,_,rfl,o2 _ _ _ hL.ins,L.cl,L.n3,rfl,_,rfl,x',C,d',_,rfl,ac,L.cl,L.n3,by show 4 < 1000;decide,?_⟩
  have o3:∀ o' Xd,zW H (upd (upd H1 x' o') x' Xd):=fun o' Xd z o ez=>by rw[ae (ag ez nx)];exact o2 _ _ _ ez
  have s3:=o3 (.ins C d' (aM "returning" (.int b) (iV r 0 (hV none) Iy))) (.ins C d' (aM "holder" (hV h) (aM "returning" (.int b) (iV r 0 (hV none) Iy))))
  have I0:(upd (upd H1 x' (.ins C d' (aM "returning" (.int b) (iV r 0 (hV none) Iy)))) x' (.ins C d' (aM "holder" (hV h) (aM "returning" (.int b) (iV r 0 (hV none) Iy))))) x' = some (.ins C d' (iV r b (hV h) Iy)):=ac
  generalize upd (upd H1 x' (.ins C d' (aM "returning" (.int b) (iV r 0 (hV none) Iy)))) x' (.ins C d' (aM "holder" (hV h) (aM "returning" (.int b) (iV r 0 (hV none) Iy))))=H3 at s3 I0 ⊢
  refine⟨_,rfl,x,C,dx,_,_,rfl,s3 _ _ hL.ins,L.cl,L.n4,rfl,pa,_,rfl, .inl (Aa.of (s3 _ _ hL.lst)),fun E4 IA=>?_⟩
  have Ee:H E4 = none:=by
   cases e:H E4 with
   | none=>rfl
   | some o=>rw[s3 _ _ e]at IA;cases IA
  have Mz:x' ≠ E4:=ag I0 IA
  refine⟨_,rfl,x',C,d',_,rfl,by rw[ae Mz];exact I0,L.cl,L.n4,by show 4 < 1000;decide,_,rfl,?_⟩
  have s4:∀ o',zW H (upd (upd H3 E4 (.lst Al)) x' o'):=fun o' z o ez=>by rw[ae (ag ez nx),ae (ag ez Ee)];exact s3 _ _ ez
  exact q x' d' E4 _ (s4 _) nx Ee ⟨ac,by rw[ae (Ne.symm Mz)];exact ac,Aq.same (s4 _) hL.Bp⟩
theorem Hy:ao ["self", "other"] ["self"] (ai tN):=L2.Ax
theorem za {ys:Ys}{f fl:Addr}{fd dl:FuncData}(F:As K "twin" "Letter.twin" tN f fd)(T:dR mg)(Y:gj K ys)(ml:mg "Letter" = some (.ref ys.zZ))(Ml:Mk K ys.zZ fl)(bl:Binds K dl ["self", "start", "goal", "length", "word"] [])(Gl:zX P w K mg base aC 1 fl dl ["self", "start", "goal", "length", "word"] (sQ ys.zZ)) :
  zX P w K mg base aC 3 f fd ["self"] (xD ys.zZ):=by
 refine F.ok Hy (fun vs H Q E h=>?_) (fun cdv A outer s H vs Q E hr h=>?_)
 ·obtain⟨x,dx,wa,s,rfl,_⟩:=h
  rfl
 ·obtain⟨x,dx,wa,t,rfl,hx,hw,q⟩:=h
  refine⟨_,af (aE (i:=1) Hy.nd rfl (Or.inl rfl) (c8 Ml Gl hr rfl ml bl .nil ap (aa (al (pv 0) rfl) (aa (al (pv 0) rfl) (aa (al (pv 0) rfl) (aa (al (pv 0) rfl) ad))))))
   (af (aR (pv 1) (al (pv 0) rfl) rfl)
   (af (aR (pv 1) (bu aW rfl T.list PySem.Pv.boot_list (aa (al (pv 0) rfl) ad)) rfl)
   (ah (ar (pv 1))))),?_⟩
  refine⟨_,rfl,x,ys.zZ,dx,_,_,rfl,hx,Y.ct,Y.t1,rfl,_,rfl,x,ys.zZ,dx,_,_,rfl,hx,Y.ct,Y.t2,rfl,_,rfl,x,ys.zZ,dx,_,_,rfl,hx,Y.ct,Y.t3,rfl,_,rfl,x,ys.zZ,dx,_,_,rfl,hx,Y.ct,Y.t4,rfl,fun x' d' nx nd ne=>⟨x',d',t.start,t.goal,t.len,t.word,rfl,ac,fun w0 H1 hw0 off BE Ft=>⟨rfl,?_⟩⟩⟩
  have s1:zW H H1:=fun z o ez=>off z o (ag ez nx) (by rw[ae (ag ez nx),ae (ag ez nd)];exact ez)
  clear hw0 off Ft
  refine⟨_,rfl,x,ys.zZ,dx,_,_,rfl,s1 _ _ hx,Y.ct,Y.t5,rfl,_,rfl,x',ys.zZ,d',_,rfl,BE,Y.ct,Y.t5,by show 6 < 1000;decide,?_⟩
  have s3:zW H (upd H1 x' (.ins ys.zZ d' (aM "gone" (.int t.gone) (pj ⟨t.start,t.goal,t.len,t.word,0,[]⟩ w0)))):=fun z o ez=>by rw[ae (ag ez nx)];exact s1 _ _ ez
  have I0:(upd H1 x' (.ins ys.zZ d' (aM "gone" (.int t.gone) (pj ⟨t.start,t.goal,t.len,t.word,0,[]⟩ w0)))) x' = some (.ins ys.zZ d' (pj ⟨t.start,t.goal,t.len,t.word,t.gone,[]⟩ w0)):=ac
  show _
  generalize upd H1 x' (.ins ys.zZ d' (aM "gone" (.int t.gone) (pj ⟨t.start,t.goal,t.len,t.word,0,[]⟩ w0)))=H3 at s3 I0 ⊢
  refine⟨_,rfl,x,ys.zZ,dx,_,_,rfl,s3 _ _ hx,Y.ct,Y.t6,rfl,wa,_,rfl, .inl (Aa.of (s3 _ _ hw)),fun DU IB=>?_⟩
  have Ef:H DU = none:=by
   cases e:H DU with
   | none=>rfl
   | some o=>rw[s3 _ _ e]at IB;cases IB
  have Mz:x' ≠ DU:=ag I0 IB
  refine⟨_,rfl,x',ys.zZ,d',_,rfl,by rw[ae Mz];exact I0,Y.ct,Y.t6,by show 6 < 1000;decide,_,rfl,?_⟩
  have s4:∀ o',zW H (upd (upd H3 DU (.lst (nV t.way))) x' o'):=fun o' z o ez=>by rw[ae (ag ez nx),ae (ag ez Ef)];exact s3 _ _ ez
  exact q x' d' DU _ (s4 _) nx Ef ac (by rw[ae (Ne.symm Mz)];exact ac)
structure YA where
 y:Addr
 dy:Addr
 tb:Addr
 ro:Addr
 la:Addr
 le:Addr
 li:Addr
 dn:Addr
 lx:Addr
 Aw:Addr
 lt:Addr
 n:Nat
 Ag:List V
 ps:List (Int × Int)
 wy:Wf
noncomputable abbrev AJ (K:Frag)(ys:Ys)(H:Hp)(a:YA)(s:YS):Prop:=Ac K ys H a.y a.dy a.tb a.ro a.la a.le a.li a.dn s
noncomputable abbrev vC (c:Cs)(TC:Addr)(J:TJ)(H:Hp)(a:YA):Prop:=Bm c TC J H a.tb a.lx a.Aw a.lt a.n a.Ag a.ps a.wy
noncomputable abbrev YA.four (a:YA):List Addr:=[a.la,a.le,a.li,a.dn]
theorem Paired.set {α β:Type}{R:α->β->Prop}{v:α}{r:β}(h:R v r):∀ {vs:List α}{rs:List β}(i:Nat),Paired R vs rs->Paired R (vs.set i v) (rs.set i r)
 | _,_,_, .nil => .nil
 | _,_,0, .cons _ t => .cons h t
 | _,_,i + 1, .cons x t => .cons x (Paired.set h i t)
theorem Ae.mono {ex Jm:List Addr}{H H':Hp}(h:∀ b ∈ ex,b ∈ Jm)(o:Ae ex H H'):Ae Jm H H':=fun b u nb e=>o b u (fun z=>nb (h b z)) e
theorem kE {K:Frag}{ys:Ys}{H:Hp}{a:YA}{s:YS}(h:AJ K ys H a s){p:Addr}(hp:H p=none):p ∉ a.la :: a.le :: a.li :: a.dn :: ys.ex:=fun z=>by obtain⟨xs,hz⟩:=Ac.Dr h p z;rw[hp]at hz;cases hz
theorem lO {H H2:Hp}{x b:Addr}{zs:List V}(o:Ae [x] H H2)(hx:H2 x=some (.lst zs))(h:∃ xs,H b=some (.lst xs)):∃ xs,H2 b=some (.lst xs):=by
 by_cases e:b=x
 ·exact⟨zs,by rw[e];exact hx⟩
 ·obtain⟨xs,hz⟩:=h
  exact⟨xs,o _ _ (by simpa using e) hz⟩
theorem AJ.CM {K:Frag}{ys:Ys}{H H2:Hp}{a:YA}{s:YS}(h:AJ K ys H a s){vs:List V}(hv:H a.la=some (.lst vs))(o:Ae [a.la] H H2){k:Nat}{x dx pa:Addr}(hl:H2 a.la=some (.lst (vs.set k (.ref x)))){ln:cz}{Al:List V}
  (L:Ar H2 ys.Au x dx pa ln.r ln.b ln.h Al ln.qs) (np:H pa=none):AJ K ys H2 a { s with lanes:=s.lanes.set k ln }:=by
 obtain⟨h1,h2,f1,f2,f3,f4⟩:=Ac.off h (o.mono (by simp))
 obtain⟨v1,a1,p1⟩:=h.Bf
 obtain⟨v2,a2,p2⟩:=h.hle
 obtain⟨v3,a3,p3⟩:=h.BP
 obtain⟨v4,a4,p4⟩:=h.BJ
 rw[hv]at a1
 cases a1
 have ne:=h.ne
 simp only[nodup_cons,mem_cons,not_mem_nil,or_false,not_or,not_false_eq_true,and_true,nodup_nil]at ne
 exact⟨h1,h2,⟨_,hl,Paired.set ⟨x,dx,pa,Al,rfl,L,kE h np⟩ k (f1 _ _ p1)⟩,⟨v2,o _ _ (by simp;exact Ne.symm ne.1.1) a2,f2 _ _ p2⟩,⟨v3,o _ _ (by simp;exact Ne.symm ne.1.2.1) a3,f3 _ _ p3⟩,⟨v4,o _ _ (by simp;exact Ne.symm ne.1.2.2) a4,f4 _ _ p4⟩,h.ne,fun b hb=>lO o hl (h.hex b hb)⟩
theorem AJ.ET {K:Frag}{ys:Ys}{H H2:Hp}{a:YA}{s:YS}(h:AJ K ys H a s){vs:List V}(hv:H a.le=some (.lst vs))(o:Ae [a.le] H H2){k:Nat}{x dx wa:Addr}(hl:H2 a.le=some (.lst (vs.set k (.ref x)))){t:cp}
  (hx:H2 x=some (.ins ys.zZ dx (pj t wa))) (hw:H2 wa=some (.lst (nV t.way))) (np:H wa=none):AJ K ys H2 a { s with U:=s.U.set k t }:=by
 obtain⟨h1,h2,f1,f2,f3,f4⟩:=Ac.off h (o.mono (by simp))
 obtain⟨v1,a1,p1⟩:=h.Bf
 obtain⟨v2,a2,p2⟩:=h.hle
 obtain⟨v3,a3,p3⟩:=h.BP
 obtain⟨v4,a4,p4⟩:=h.BJ
 rw[hv]at a2
 cases a2
 have ne:=h.ne
 simp only[nodup_cons,mem_cons,not_mem_nil,or_false,not_or,not_false_eq_true,and_true,nodup_nil]at ne
 exact⟨h1,h2,⟨v1,o _ _ (by simp;exact ne.1.1) a1,f1 _ _ p1⟩,⟨_,hl,Paired.set ⟨x,dx,wa,rfl,hx,hw,kE h np⟩ k (f2 _ _ p2)⟩,⟨v3,o _ _ (by simp;exact Ne.symm ne.2.1.1) a3,f3 _ _ p3⟩,⟨v4,o _ _ (by simp;exact Ne.symm ne.2.1.2) a4,f4 _ _ p4⟩,h.ne,fun b hb=>lO o hl (h.hex b hb)⟩
theorem AJ.IC {K:Frag}{ys:Ys}{H H2:Hp}{a:YA}{s:YS}(h:AJ K ys H a s){vs:List V}(hv:H a.li=some (.lst vs))(o:Ae [a.li] H H2){k:Nat}{v:V}(hl:H2 a.li=some (.lst (vs.set k v))){qs:List (Int × Int)}
  (L:B3 H2 v qs):AJ K ys H2 a { s with lies:=s.lies.set k qs }:=by
 obtain⟨h1,h2,f1,f2,f3,f4⟩:=Ac.off h (o.mono (by simp))
 obtain⟨v1,a1,p1⟩:=h.Bf
 obtain⟨v2,a2,p2⟩:=h.hle
 obtain⟨v3,a3,p3⟩:=h.BP
 obtain⟨v4,a4,p4⟩:=h.BJ
 rw[hv]at a3
 cases a3
 have ne:=h.ne
 simp only[nodup_cons,mem_cons,not_mem_nil,or_false,not_or,not_false_eq_true,and_true,nodup_nil]at ne
 exact⟨h1,h2,⟨v1,o _ _ (by simp;exact ne.1.2.1) a1,f1 _ _ p1⟩,⟨v2,o _ _ (by simp;exact ne.2.1.1) a2,f2 _ _ p2⟩,⟨_,hl,Paired.set L k (f3 _ _ p3)⟩,⟨v4,o _ _ (by simp;exact Ne.symm ne.2.2) a4,f4 _ _ p4⟩,h.ne,fun b hb=>lO o hl (h.hex b hb)⟩
noncomputable def sN (K:Frag)(ys:Ys):Sp:=fun vs H Q _=>∃ (a:YA)(s:YS)(k:Nat)(ln:cz)(Ai:List V),vs=[.ref a.y, .int k]/\AJ K ys H a s/\s.lanes[k]? = some ln/\H a.la=some (.lst Ai) /\
 ∀ (x dx pa:Addr)(Al:List V)(H':Hp),Ae [a.la] H H'->H x=none->H pa=none->H' a.la=some (.lst (Ai.set k (.ref x)))->Ar H' ys.Au x dx pa ln.r ln.b ln.h Al ln.qs->Q (.ref x) H'
noncomputable def sM (K:Frag)(ys:Ys):Sp:=fun vs H Q _=>∃ (a:YA)(s:YS)(k:Nat)(t:cp)(Ag:List V),vs=[.ref a.y, .int k]/\AJ K ys H a s/\s.U[k]? = some t/\H a.le=some (.lst Ag) /\
 ∀ (x dx wa:Addr)(H':Hp),Ae [a.le] H H'->H x=none->H wa=none->H' a.le=some (.lst (Ag.set k (.ref x)))->H' x=some (.ins ys.zZ dx (pj t wa))->H' wa=some (.lst (nV t.way))->Q (.ref x) H'
noncomputable def xH (K:Frag)(ys:Ys):Sp:=fun vs H Q _=>∃ (a:YA)(s:YS)(v:V)(q:Int × Int)(p:Nat)(qs:List (Int × Int)),vs=[.ref a.y,v, .int p]/\AJ K ys H a s/\xx H v q/\s.lies[p]? = some qs/\qs.length <= 100000 /\
 ∀ H',Ae [a.li] H H'->AJ K ys H' a { s with lies:=s.lies.set p (qs ++ [q]) }->Q .An H'
noncomputable def pZ (K:Frag)(ys:Ys):Sp:=fun vs H Q _=>∃ (a:YA)(s:YS)(p:Nat)(qs:List (Int × Int)),vs=[.ref a.y, .int p]/\AJ K ys H a s/\s.lies[p]? = some qs /\
 ∀ (D:Addr)(Al:List V)(H':Hp),zW H H'->H D=none->H' D=some (.lst Al)->Aq H' Al qs->Q (.ref D) H'
theorem yq:ao ["self", "lane"] ["self", "lane"] (ai tH):=L2.Ax
theorem w8 {ys:Ys}{f ft:Addr}{fd dt:FuncData}(F:As K "own_lane" "Yard.own_lane" tH f fd)(Y:gj K ys)(mt:bz K ys.Au "twin" ft)(bt:Binds K dt ["self"] [])(Gt:zX P w K mg base aC 3 ft dt ["self"] (xF ys.Au)) :
  zX P w K mg base aC 4 f fd ["self", "lane"] (sN K ys):=by
 refine F.ok yq (fun vs H Q E h=>?_) (fun cdv A outer s H vs Q E hr h=>?_)
 ·obtain⟨a,s,k,ln,Ai,rfl,_⟩:=h
  rfl
 ·obtain⟨a,st,k,ln,Ai,rfl,hY,hk,AX,q⟩:=h
  refine⟨_,af (j8 (aT (av aI (al (pv 0) rfl) (pv 1) (fun _ _=>rfl)) Y.L.cl mt Gt hr bt .nil ap) (lC (al (pv 0) rfl) (pv 1) hU))
   (ah (ar (av aI (al (pv 0) rfl) (pv 1) (fun _ _=>rfl)))),?_⟩
  obtain⟨lvs',M0,pl⟩:=hY.Bf
  rw[AX]at M0
  cases M0
  obtain⟨v,hv,x,dx,pa,Al,rfl,hL,_⟩:=Paired.at2 pl hk
  have Ei:k < Ai.length:=(List.getElem?_eq_some_iff.mp hv).1
  refine⟨_,rfl,a.y,ys.zY,a.dy,_,_,rfl,hY.ins,Y.cl,Y.n3,rfl,_,rfl,a.la,Ai,(k:Int),_,rfl,rfl,Aa.of AX,ak hv,x,dx,_,rfl,hL.ins,rfl,?_⟩
  refine⟨x,dx,pa,ln.r,ln.b,ln.h,Al,ln.qs,rfl,hL,fun x' DZ E4 H1 s1 nx FE Iz=>?_⟩
  refine⟨_,rfl,a.y,ys.zY,a.dy,_,_,rfl,s1 _ _ hY.ins,Y.cl,Y.n3,rfl,_,rfl,a.la,Ai,(k:Int),k,rfl,rfl,s1 _ _ AX,i0 Ei,?_⟩
  have o1:Ae [a.la] H (upd H1 a.la (.lst (Ai.set k (.ref x')))):=(zW.AB s1).trans (cr (by simp))
  have g1:(upd H1 a.la (.lst (Ai.set k (.ref x')))) a.la=some (.lst (Ai.set k (.ref x'))):=ac
  have Cn:Ar (upd H1 a.la (.lst (Ai.set k (.ref x')))) ys.Au x' DZ E4 ln.r ln.b ln.h Al ln.qs:=by
   have n1:x' ≠ a.la:=aX Iz.ins (s1 _ _ AX) (by intro z;cases z)
   have n2:E4 ≠ a.la:=fun z=>by rw[z,AX]at FE;cases FE
   exact⟨by rw[ae n1];exact Iz.ins,by rw[ae n2];exact Iz.lst,Aq.AB (ex:=[a.la]) (fun b hb=>by simp at hb;subst hb;exact⟨_,s1 _ _ AX⟩) (cr (by simp)) Iz.Bp⟩
  generalize upd H1 a.la (.lst (Ai.set k (.ref x')))=H2 at o1 g1 Cn ⊢
  have Sf:H2 a.y=some (.ins ys.zY a.dy (pN a.tb a.ro a.la a.le a.li a.dn)):=o1 _ _ (by simp;exact aX hY.ins AX (by intro z;cases z)) hY.ins
  exact⟨_,rfl,a.y,ys.zY,a.dy,_,_,rfl,Sf,Y.cl,Y.n3,rfl,_,rfl,a.la,_,(k:Int), .ref x',rfl,rfl,Aa.of g1,ak (by simp[Ei]),q x' DZ E4 Al H2 o1 nx FE g1 Cn⟩
theorem yp:ao ["self", "number"] ["self", "number"] (ai tG):=L2.Ax
theorem wz {ys:Ys}{f ft:Addr}{fd dt:FuncData}(F:As K "own_letter" "Yard.own_letter" tG f fd)(Y:gj K ys)(mt:bz K ys.zZ "twin" ft)(bt:Binds K dt ["self"] [])(Gt:zX P w K mg base aC 3 ft dt ["self"] (xD ys.zZ)) :
  zX P w K mg base aC 4 f fd ["self", "number"] (sM K ys):=by
 refine F.ok yp (fun vs H Q E h=>?_) (fun cdv A outer s H vs Q E hr h=>?_)
 ·obtain⟨a,s,k,ln,Ai,rfl,_⟩:=h
  rfl
 ·obtain⟨a,st,k,t,Ag,rfl,hY,hk,Bn,q⟩:=h
  refine⟨_,af (j8 (aT (av aI (al (pv 0) rfl) (pv 1) (fun _ _=>rfl)) Y.ct mt Gt hr bt .nil ap) (lC (al (pv 0) rfl) (pv 1) hU))
   (ah (ar (av aI (al (pv 0) rfl) (pv 1) (fun _ _=>rfl)))),?_⟩
  obtain⟨Eh,M3,pl⟩:=hY.hle
  rw[Bn]at M3
  cases M3
  obtain⟨v,hv,x,dx,wa,rfl,hx,hw,_⟩:=Paired.at2 pl hk
  have Ei:k < Ag.length:=(List.getElem?_eq_some_iff.mp hv).1
  refine⟨_,rfl,a.y,ys.zY,a.dy,_,_,rfl,hY.ins,Y.cl,Y.n4,rfl,_,rfl,a.le,Ag,(k:Int),_,rfl,rfl,Aa.of Bn,ak hv,x,dx,_,rfl,hx,rfl,?_⟩
  refine⟨x,dx,wa,t,rfl,hx,hw,fun x' DZ DU H1 s1 nx FE BE Ft=>?_⟩
  refine⟨_,rfl,a.y,ys.zY,a.dy,_,_,rfl,s1 _ _ hY.ins,Y.cl,Y.n4,rfl,_,rfl,a.le,Ag,(k:Int),k,rfl,rfl,s1 _ _ Bn,i0 Ei,?_⟩
  have o1:Ae [a.le] H (upd H1 a.le (.lst (Ag.set k (.ref x')))):=(zW.AB s1).trans (cr (by simp))
  have g1:(upd H1 a.le (.lst (Ag.set k (.ref x')))) a.le=some (.lst (Ag.set k (.ref x'))):=ac
  have n1:x' ≠ a.le:=aX BE (s1 _ _ Bn) (by intro z;cases z)
  have n2:DU ≠ a.le:=fun z=>by rw[z,Bn]at FE;cases FE
  have Fp:(upd H1 a.le (.lst (Ag.set k (.ref x')))) x' = some (.ins ys.zZ DZ (pj t DU)):=by rw[ae n1];exact BE
  have Ph:(upd H1 a.le (.lst (Ag.set k (.ref x')))) DU = some (.lst (nV t.way)):=by rw[ae n2];exact Ft
  generalize upd H1 a.le (.lst (Ag.set k (.ref x')))=H2 at o1 g1 Fp Ph ⊢
  have Sf:H2 a.y=some (.ins ys.zY a.dy (pN a.tb a.ro a.la a.le a.li a.dn)):=o1 _ _ (by simp;exact aX hY.ins Bn (by intro z;cases z)) hY.ins
  exact⟨_,rfl,a.y,ys.zY,a.dy,_,_,rfl,Sf,Y.cl,Y.n4,rfl,_,rfl,a.le,_,(k:Int), .ref x',rfl,rfl,Aa.of g1,ak (by simp[Ei]),q x' DZ DU H2 o1 nx FE g1 Fp Ph⟩
theorem M4:ao ["self", "piece", "place"] ["self", "piece", "place"] (ai y9):=L2.Ax
theorem zf {ys:Ys}{f:Addr}{fd:FuncData}(F:As K "lay" "Yard.lay" y9 f fd)(Y:gj K ys):zX P w K mg base aC 1 f fd ["self", "piece", "place"] (xH K ys):=by
 refine F.ok M4 (fun vs H Q E h=>?_) (fun cdv A outer s H vs Q E hr h=>?_)
 ·obtain⟨a,s,v,q,p,qs,rfl,_⟩:=h
  rfl
 ·obtain⟨a,st,v,qp,p,qs,rfl,hY,hv,hp,hlen,q⟩:=h
  refine⟨_,ah (j8 (aD wm (av aI (al (pv 0) rfl) (pv 2) (fun _ _=>rfl)) (bH (aa (pv 1) ad))) (lC (al (pv 0) rfl) (pv 2) hU)),?_⟩
  obtain⟨Ai,EU,pl⟩:=hY.BP
  obtain⟨v0,Pm,t0,Ez,rfl,HA,M5⟩:=Paired.at2 pl hp
  have Ei:p < Ai.length:=(List.getElem?_eq_some_iff.mp Pm).1
  have Pk:Ez.length=qs.length:=Paired.length M5
  refine⟨_,rfl,a.y,ys.zY,a.dy,_,_,rfl,hY.ins,Y.cl,Y.n5,rfl,_,rfl,a.li,Ai,(p:Int),_,rfl,rfl,Aa.of EU,ak Pm,_,rfl,by show 1 <= sizeLine;decide,fun t ht=>?_⟩
  have s1:=(zW.refl H).new (o := .tup [v]) ht
  have g1:(upd H t (.tup [v])) t=some (.tup [v]):=ac
  generalize upd H t (.tup [v])=H1 at s1 g1 ⊢
  have fin:∀ (z:Addr)(H2:Hp),zW H H2->B3 H2 (.ref z) (qs ++ [qp])->Q .An (upd H2 a.li (.lst (Ai.set p (.ref z)))):=fun z H2 s2 hz=>by
   have o2:Ae [a.li] H (upd H2 a.li (.lst (Ai.set p (.ref z)))):=(zW.AB s2).trans (cr (by simp))
   refine q _ o2 (AJ.IC hY EU o2 ac ?_)
   obtain⟨tz,vz,ez,Xe,hz2⟩:=hz
   cases ez
   have nz:z ≠ a.li:=aX Xe (s2 _ _ EU) (by intro y;cases y)
   exact⟨z,vz,rfl,by rw[ae nz];exact Xe,Aq.AB (ex:=[a.li]) (fun b hb=>by simp at hb;subst hb;exact⟨_,s2 _ _ EU⟩) (cr (by simp)) hz2⟩
  refine⟨t0,t,Ez,[v],rfl,rfl,Af.of (s1 _ _ HA),Af.of g1,by simp,by rw[sizeLine_eq];simp;omega,fun e0=>?_,fun e0 p2 Ld=>?_⟩
  ·subst e0
   cases M5
   refine⟨_,rfl,a.y,ys.zY,a.dy,_,_,rfl,s1 _ _ hY.ins,Y.cl,Y.n5,rfl,_,rfl,a.li,Ai,(p:Int),p,rfl,rfl,s1 _ _ EU,i0 Ei,?_⟩
   exact fin t H1 s1 ⟨t,[v],rfl,g1, .cons (let ⟨u,e,hu⟩:=hv; ⟨u,e,s1 _ _ hu⟩) .nil⟩
  ·have s2:=s1.new (o := .tup (Ez ++ [v])) Ld
   have g2:(upd H1 p2 (.tup (Ez ++ [v]))) p2=some (.tup (Ez ++ [v])):=ac
   generalize upd H1 p2 (.tup (Ez ++ [v]))=H2 at s2 g2 ⊢
   refine⟨_,rfl,a.y,ys.zY,a.dy,_,_,rfl,s2 _ _ hY.ins,Y.cl,Y.n5,rfl,_,rfl,a.li,Ai,(p:Int),p,rfl,rfl,s2 _ _ EU,i0 Ei,?_⟩
   exact fin p2 H2 s2 ⟨p2,_,rfl,g2,Aq.snoc (let ⟨u,e,hu⟩:=hv; ⟨u,e,s2 _ _ hu⟩) (Aq.same s2 M5)⟩
theorem M6:ao ["self", "place"] ["self", "place"] (ai oO):=L2.Ax
theorem u0 {ys:Ys}{f:Addr}{fd:FuncData}(F:As K "lying" "Yard.lying" oO f fd)(T:dR mg)(Y:gj K ys):zX P w K mg base aC 1 f fd ["self", "place"] (pZ K ys):=by
 refine F.ok M6 (fun vs H Q E h=>?_) (fun cdv A outer s H vs Q E hr h=>?_)
 ·obtain⟨a,s,p,qs,rfl,_⟩:=h
  rfl
 ·obtain⟨a,st,p,qs,rfl,hY,hp,q⟩:=h
  refine⟨_,ah (ar (bu aW rfl T.list PySem.Pv.boot_list (aa (av aI (al (pv 0) rfl) (pv 1) (fun _ _=>rfl)) ad))),?_⟩
  obtain⟨Ai,EU,pl⟩:=hY.BP
  obtain⟨v0,Pm,t0,Ez,rfl,HA,M5⟩:=Paired.at2 pl hp
  refine⟨_,rfl,a.y,ys.zY,a.dy,_,_,rfl,hY.ins,Y.cl,Y.n5,rfl,_,rfl,a.li,Ai,(p:Int),_,rfl,rfl,Aa.of EU,ak Pm,t0,_,rfl, .inr (Af.of HA),fun D hD=>?_⟩
  have s1:=(zW.refl H).new (o := .lst Ez) hD
  exact q D Ez _ s1 hD ac (Aq.same s1 M5)
noncomputable def jH (ln:cz)(m c len:Int):cz:={ ln with r:=ln.r - 1,h:=if decide (c=len - 1)=true then none else some m,qs:=ln.qs ++ [(m,c)] }
noncomputable def dL (s:YS)(m:Nat)(c:Int)(l:Nat)(t:cp)(ln:cz):YS:={ s with U:=if c=0 then s.U.set m { t with way:=t.way ++ [l] } else s.U,lanes:=s.lanes.set l (jH ln m c t.len) }
noncomputable def lm (K:Frag)(ys:Ys):Sp:=fun vs H Q _=>∃ (a:YA)(s:YS)(v:V)(m:Nat)(c:Int)(l:Nat)(t:cp)(ln:cz),vs=[.ref a.y,v, .int l]/\AJ K ys H a s/\xx H v ((m:Int),c)/\s.U[m]? = some t/\s.lanes[l]? = some ln/\cx ln.r ln.h m c=true/\t.way.length <= 1000/\ln.qs.length < 100000 /\
 ∀ H',Ae [a.la,a.le] H H'->AJ K ys H' a (dL s m c l t ln)->Q .An H'
noncomputable def iU (s:YS)(m:Nat)(t:cp):YS:={ s with U:=s.U.set m { t with gone:=t.gone + 1 } }
noncomputable def sY (K:Frag)(ys:Ys):Sp:=fun vs H Q _=>∃ (a:YA)(s:YS)(m l:Nat)(t:cp)(ln:cz),vs=[.ref a.y, .int m, .int l]/\AJ K ys H a s/\s.U[m]? = some t/\s.lanes[l]? = some ln/\cx ln.r ln.h m t.gone=true/\t.way.length <= 1000/\ln.qs.length < 100000 /\
 ∀ H',Ae [a.la,a.le] H H'->AJ K ys H' a (dL (iU s m t) m t.gone l { t with gone:=t.gone + 1 } ln)->Q .An H'
structure Own (P:Program)(w:World)(K:Frag)(mg:Str->Option Value)(base:Heap)(ys:Ys)(nm:Addr)(fl ft fp:Addr)(dl dt dp:FuncData):Prop where
 ml:bz K ys.zY "own_lane" fl
 bl:Binds K dl ["self", "lane"] []
 Gl:zX P w K mg base aC 4 fl dl ["self", "lane"] (sN K ys)
 mt:bz K ys.zY "own_letter" ft
 bt:Binds K dt ["self", "number"] []
 Gt:zX P w K mg base aC 4 ft dt ["self", "number"] (sM K ys)
 mp:bz K ys.Au "put" fp
 bp:Binds K dp ["self", "letter", "count", "last"] []
 Gp:zX P w K mg base (eE P w) 2 fp dp ["self", "letter", "count", "last"] (xA ys.Au nm)
noncomputable abbrev Xf:List Str:=["self", "piece", "lane", "last"]
noncomputable abbrev NGi:List Str:=["self", "number", "lane", "letter"]
theorem M7:ao Xf ["self", "piece", "lane"] (ai oS):=L2.Ax
theorem uD {ys:Ys}{nm f fl ft fp:Addr}{fd dl dt dp:FuncData}(F:As K "enter" "Yard.enter" oS f fd)(Y:gj K ys)(O:Own P w K mg base ys nm fl ft fp dl dt dp) :
  zX P w K mg base aC 5 f fd ["self", "piece", "lane"] (lm K ys):=by
 refine F.ok M7 (fun vs H Q E h=>?_) (fun cdv A outer s H vs Q E hr h=>?_)
 ·obtain⟨a,s,v,m,c,l,t,ln,rfl,_⟩:=h
  rfl
 ·obtain⟨a,st,v,m,c,l,t,ln,rfl,hY,⟨pt,rfl,Dt⟩,hm,hl,Ku,Ew,EN,q⟩:=h
  have Bv:Ah 2 _:=hr.mono (by decide)
  refine⟨_,af (im (aO (ax bG (av aF (pv 1) aj (fun _ _=>rfl)) aj (aB _))
    (ah (aK (cu plainAttrs_list PySem.F.slot_list_append PySem.F.type_list_append b7 (al (aA (pv 0) Y.cl O.mt O.Gt hr O.bt .nil ap (aa (av aF (pv 1) aj (fun _ _=>rfl)) ad)) rfl) (aa (pv 2) ad)))) aH))
   (af (aE (i:=3) M7.nd rfl (Or.inl rfl) (cS bG (av aF (pv 1) aj (fun _ _=>rfl)) (aD eP (al (av aI (al (pv 0) rfl) (av aF (pv 1) aj (fun _ _=>rfl)) (fun _ _=>rfl)) rfl) aj) (aB _)))
   (ah (aK (aA (aA (pv 0) Y.cl O.ml O.Gl hr O.bl .nil ap (aa (pv 2) ad)) Y.L.cl O.mp O.Gp Bv O.bp .nil fA (aa (av aF (pv 1) aj (fun _ _=>rfl)) (aa (av aF (pv 1) aj (fun _ _=>rfl)) (aa (pv 3) ad))))))),?_⟩
  refine⟨fun σ' H'=>σ' = start Xf [.ref a.y, .ref pt, .int l]/\Ae [a.le] H H'/\∃ t1:cp,t1.len=t.len/\AJ K ys H' a { st with U:=if c=0 then st.U.set m { t with way:=t.way ++ [l] } else st.U }/\(if c=0 then st.U.set m { t with way:=t.way ++ [l] } else st.U)[m]? = some t1,?_,?_⟩
  ·refine⟨_,rfl,pt,_,1,_,rfl,rfl,Af.of Dt,ak (j:=1) rfl,rfl,_,rfl,?_⟩
   rw[bN]
   by_cases hc:c=0
   ·rw[decide_eq_true hc]
    obtain⟨Ag,Bn,pl⟩:=hY.hle
    refine aN ⟨_,rfl,a.y,a.dy,_,rfl,hY.ins,rfl,_,rfl,pt,_,0,_,rfl,rfl,Af.of Dt,ak (j:=0) rfl,a,st,m,t,Ag,rfl,hY,hm,Bn,fun x dx wa H1 o1 nx nw g1 BE Ft=>?_⟩
    refine⟨x,ys.zZ,dx,_,_,rfl,BE,Y.ct,Y.t6,rfl, .inl ⟨rfl,_,Aa.of Ft⟩,_,rfl,wa,_,_,rfl,rfl,Ft,by rw[dA,sizeLine_eq];omega,?_⟩
    have nxw:x ≠ wa:=aX BE Ft (by intro z;cases z)
    have nlw:a.le ≠ wa:=ag Bn nw
    have o2:Ae [a.le] H (upd H1 wa (.lst (nV t.way ++ [.int l]))):=fun b o nb e=>by rw[ae (ag e nw)];exact o1 b o nb e
    have Bi:=AJ.ET hY Bn o2 (k:=m) (x:=x) (dx:=dx) (wa:=wa) (by rw[ae nlw];exact g1) (t:={ t with way:=t.way ++ [l] }) (by rw[ae nxw];exact BE) (by rw[ac,uM];rfl) nw
    have Sg:m < st.U.length:=(List.getElem?_eq_some_iff.mp hm).1
    refine⟨rfl,o2,{ t with way:=t.way ++ [l] },rfl,?_,?_⟩
    ·rw[if_pos hc];exact Bi
    ·rw[if_pos hc];simp[Sg]
   ·rw[decide_eq_false hc]
    refine aJ ⟨rfl,zW.AB (zW.refl H),t,rfl,?_,?_⟩
    ·rw[if_neg hc];exact hY
    ·rw[if_neg hc];exact hm
  ·rintro σ' H1 ⟨rfl,o1,t1,hlen,Bb,hm1⟩
   have FJ:H1 pt=some (.tup [.int m, .int c]):=by
    obtain⟨Ag,Bn,_⟩:=hY.hle
    exact o1 _ _ (by simp;exact aX Dt Bn (by intro z;cases z)) Dt
   obtain⟨Sh,Si,Sj⟩:=Bb.hle
   obtain⟨v1,Pn,x1,dx1,wa1,rfl,BE,_⟩:=Paired.at2 Sj hm1
   refine⟨_,rfl,pt,_,1,_,rfl,rfl,Af.of FJ,ak (j:=1) rfl,_,rfl,a.y,ys.zY,a.dy,_,_,rfl,Bb.ins,Y.cl,Y.n4,rfl,_,rfl,pt,_,0,_,rfl,rfl,Af.of FJ,ak (j:=0) rfl,a.le,Sh,(m:Int),_,rfl,rfl,Aa.of Si,ak Pn,x1,ys.zZ,dx1,_,_,rfl,BE,Y.ct,Y.t3,rfl,_,_,rfl,rfl,rfl,?_⟩
   obtain⟨Ai,AX,E5⟩:=Bb.Bf
   refine⟨_,rfl,a.y,a.dy,_,rfl,Bb.ins,rfl,_,rfl,a,_,l,ln,Ai,rfl,Bb,hl,AX,fun x dx pa Al H2 o2 nx np g2 Cn=>?_⟩
   have EV:H2 pt=some (.tup [.int m, .int c]):=o2 _ _ (by simp;exact aX FJ AX (by intro z;cases z)) FJ
   have BL:Al.length=ln.qs.length:=Paired.length Cn.Bp
   refine⟨x,dx,_,rfl,Cn.ins,rfl,_,rfl,pt,_,0,_,rfl,rfl,Af.of EV,ak (j:=0) rfl,_,rfl,pt,_,1,_,rfl,rfl,Af.of EV,ak (j:=1) rfl,_,rfl,x,dx,pa,ln.r,ln.b,ln.h,Al,ln.qs,(m:Int),c,decide (c=t.len - 1),?_,Cn,by omega,(fun ho=>by rw[Ku]at ho;cases ho),fun _ t3 H3 o3 CK=>?_⟩
   ·rw[bN,hlen];rfl
   have nxl:a.la ≠ x:=ag AX nx
   have npl:a.la ≠ pa:=ag AX np
   have o4:Ae [a.la] H1 H3:=fun b o nb e=>o3 b o (ag e nx) (ag e np) (o2 b o nb e)
   have AS:=AJ.CM Bb AX o4 (k:=l) (x:=x) (dx:=dx) (pa:=pa) (o3 _ _ nxl npl g2) (ln:=jH ln m c t.len) CK np
   exact q H3 ((o1.mono (by simp)).trans (o4.mono (by simp))) AS
theorem M8:ao NGi ["self", "number", "lane"] (ai tS):=L2.Ax
theorem wK {ys:Ys}{nm f fl ft fp fe:Addr}{fd dl dt dp de:FuncData}(F:As K "go_in" "Yard.go_in" tS f fd)(Y:gj K ys)(O:Own P w K mg base ys nm fl ft fp dl dt dp)(me:bz K ys.zY "enter" fe)(be:Binds K de ["self", "piece", "lane"] [])(Ge:zX P w K mg base aC 5 fe de ["self", "piece", "lane"] (lm K ys)) :
  zX P w K mg base aC 6 f fd ["self", "number", "lane"] (sY K ys):=by
 refine F.ok M8 (fun vs H Q E h=>?_) (fun cdv A outer s H vs Q E hr h=>?_)
 ·obtain⟨a,s,m,l,t,ln,rfl,_⟩:=h
  rfl
 ·obtain⟨a,st,m,l,t,ln,rfl,hY,hm,hl,Ku,Ew,EN,q⟩:=h
  have CT:Ah 4 _:=hr.mono (by decide)
  refine⟨_,af (aE (i:=3) M8.nd rfl (Or.inl rfl) (aA (pv 0) Y.cl O.mt O.Gt CT O.bt .nil ap (aa (pv 1) ad)))
   (af (dU (pv 3) aj lK)
   (ah (aK (aA (pv 0) Y.cl me Ge hr be .nil ap (aa (bH (aa (pv 1) (aa (aD eP (al (pv 3) rfl) aj) ad))) (aa (pv 2) ad)))))),?_⟩
  obtain⟨Ag,Bn,pl⟩:=hY.hle
  refine⟨_,rfl,a.y,a.dy,_,rfl,hY.ins,rfl,_,rfl,a,st,m,t,Ag,rfl,hY,hm,Bn,fun x dx wa H1 o1 nx nw g1 BE Ft=>?_⟩
  refine⟨_,rfl,x,ys.zZ,dx,_,_,rfl,BE,Y.ct,Y.t5,rfl,_,_,rfl,rfl,dx,_,BE,by show 6 < 1000;decide,?_⟩
  have nlx:a.le ≠ x:=ag Bn nx
  have FD:wa ≠ x:=aX Ft BE (by intro z;cases z)
  have o2:Ae [a.le] H (upd H1 x (.ins ys.zZ dx (aM "gone" (.int (t.gone + 1)) (pj t wa)))):=fun b o nb e=>by rw[ae (ag e nx)];exact o1 b o nb e
  have Fp:(upd H1 x (.ins ys.zZ dx (aM "gone" (.int (t.gone + 1)) (pj t wa)))) x=some (.ins ys.zZ dx (pj { t with gone:=t.gone + 1 } wa)):=ac
  have Bi:=AJ.ET hY Bn o2 (k:=m) (x:=x) (dx:=dx) (wa:=wa) (by rw[ae nlx];exact g1) (t:={ t with gone:=t.gone + 1 }) Fp (by rw[ae FD];exact Ft) nw
  show _
  generalize upd H1 x (.ins ys.zZ dx (aM "gone" (.int (t.gone + 1)) (pj t wa)))=H2 at o2 Fp Bi ⊢
  refine⟨_,rfl,a.y,a.dy,_,rfl,Bi.ins,rfl,_,rfl,_,rfl,x,ys.zZ,dx,_,_,rfl,Fp,Y.ct,Y.t5,rfl,_,_,rfl,rfl,by show 2 <= sizeLine;decide,fun pt Dt=>?_⟩
  have eg:t.gone + 1 - 1=t.gone:=by omega
  have s3:=(zW.refl H2).new (o := .tup [.int m, .int t.gone]) Dt
  have g3:(upd H2 pt (.tup [.int m, .int t.gone])) pt=some (.tup [.int m, .int t.gone]):=ac
  dsimp only
  rw[eg]
  generalize upd H2 pt (.tup [.int m, .int t.gone])=H3 at s3 g3 ⊢
  have Sg:m < st.U.length:=(List.getElem?_eq_some_iff.mp hm).1
  refine⟨_,rfl,a,iU st m t,_,m,t.gone,l,{ t with gone:=t.gone + 1 },ln,rfl,Ac.same Bi s3,⟨pt,rfl,g3⟩,by unfold iU;simp[Sg],hl,Ku,Ew,EN,fun H' o' ID=>?_⟩
  exact q H' ((o2.mono (by simp)).trans ((zW.AB s3).trans o')) ID
theorem zH (us:List Nat)(i:Nat):eZ (nV us) none (some (i:Int))=nV (us.take i):=by
 unfold eZ
 have e0:HT.Cd (nV us).length 0 none=0:=rfl
 rw[e0,show HT.Cd (nV us).length (nV us).length (some (i:Int))=min i (nV us).length from HT.B6 _ _ i,List.drop_zero,Nat.sub_zero]
 unfold nV
 rw[List.map_take,length_map]
 refine List.ext_getElem? fun j=>?_
 simp only[List.getElem?_take,List.getElem?_map]
 by_cases h1:j < i
 ·by_cases h2:j < us.length
  ·rw[if_pos (by omega),if_pos h1]
  ·rw[if_neg (by omega),if_pos h1,List.getElem?_eq_none (by omega)];rfl
 ·rw[if_neg (by omega),if_neg h1]
theorem xm (us:List Nat)(i:Nat):eZ (nV us) (some (i:Int)) (some ((i:Int) + 1))=nV ((us.drop i).take 1):=by
 unfold eZ
 rw[show HT.Cd (nV us).length 0 (some (i:Int))=min i (nV us).length from HT.B6 _ _ i,show((i:Int) + 1)=((i + 1:Nat):Int) by omega,show HT.Cd (nV us).length (nV us).length (some ((i + 1:Nat):Int))=min (i + 1) (nV us).length from HT.B6 _ _ (i + 1),dA]
 by_cases h:i < us.length
 ·rw[min_eq_left (by omega),min_eq_left (by omega),show i + 1 - i=1 by omega]
  unfold nV
  rw[List.map_take,List.map_drop]
 ·rw[min_eq_right (by omega),min_eq_right (by omega),Nat.sub_self,take_zero,List.drop_eq_nil_of_le (by omega)];rfl
theorem qy (us:List Nat):nV us=(iz us).map V.int:=(wY us).symm
theorem uW (k:Nat):∀ us:List Nat,(iz us).idxOf (k:Int)=us.idxOf k
 | []=>rfl
 | u :: us=>by
  have ih:=uW k us
  unfold iz at ih ⊢
  rw[map_cons,List.idxOf_cons,List.idxOf_cons,ih]
  by_cases h:u=k
  ·subst h;simp
  ·have h':((u:Int) == (k:Int))=false:=by simp;omega
   have h2:(u == k)=false:=by simp;exact h
   rw[h',h2]
inductive Mv
 | BR (k l:Nat) | on (k l:Nat) | DJ (k:Nat) | back (k:Nat)
noncomputable def fV:Mv->List V
 | .BR k l=>[.str "in", .int k, .int l]
 | .on k l=>[.str "on", .int k, .int l]
 | .DJ k=>[.str "lie", .int k]
 | .back k=>[.str "back", .int k]
noncomputable def fZ (s:YS)(l:Nat)(m c:Int):Bool:=match s.lanes[l]? with
 | some ln=>cx ln.r ln.h m c
 | none=>false
noncomputable def bZ (s:YS)(k:Nat):Option (Int × Int):=match s.lanes[k]? with
 | some ln=>ln.qs.head?
 | none=>none
noncomputable def sg (a:YA)(l g:Nat):List Nat:=if (a.ps.getD l (0,0)).2=(g:Int) then [] else a.wy (a.ps.getD l (0,0)).2.toNat g (some l)
noncomputable def dF (a:YA)(s:YS)(k:Nat):List Nat:=match bZ s k with
 | none=>[]
 | some q=>match s.U[q.1.toNat]? with
  | none=>[]
  | some t=>if q.2=0 then (sg a k t.goal.toNat).filter fun l=>!decide (l ∈ t.way) else (t.way.drop (t.way.idxOf k + 1)).take 1
noncomputable def dB (a:YA)(t:cp):List Nat:=if t.gone=0 then a.wy t.start.toNat t.goal.toNat none else t.way.take 1
noncomputable def iH (a:YA)(s:YS)(k:Nat):List Mv:=match s.U[k]? with
 | none=>[]
 | some t=>if t.gone=t.len then [] else ((dB a t).filter fun l=>fZ s l k t.gone).map (Mv.BR k)
noncomputable def iX (a:YA)(s:YS)(k:Nat):List Mv:=match bZ s k with
 | none=>[]
 | some q=>((dF a s k).filter fun l=>fZ s l q.1 q.2).map (Mv.on k)
noncomputable def fD (a:YA)(s:YS)(k:Nat):List Mv:=match bZ s k with
 | none=>[]
 | some q=>match s.U[q.1.toNat]? with
  | none=>[]
  | some t=>if t.goal=(a.ps.getD k (0,0)).2 then [.DJ k] else []
noncomputable def dJ (s:YS)(k:Nat):List Mv:=match s.lanes[k]? with
 | some ln=>if 0 < ln.b then [.back k] else []
 | none=>[]
structure M9 (a:YA):Prop where
 ends:∀ (l:Nat)(pr:Int × Int),a.ps[l]? = some pr->∃ e:Nat,pr.2=(e:Int)/\e < a.n
 AZ:∀ p g k,(a.wy p g k).length <= 400
structure Sk (a:YA)(s:YS):Prop where
 lanes:s.lanes.length=a.ps.length
 lies:s.lies.length=a.n
 lets:∀ (m:Nat)(t:cp),s.U[m]? = some t->∃ x y:Nat,t.start=(x:Int)/\t.goal=(y:Int)/\x < a.n/\y < a.n
 Bc:∀ (m:Nat)(t:cp),s.U[m]? = some t->(∀ l ∈ t.way,l < a.ps.length)/\t.way.length <= 1000
 Bp:∀ (k:Nat)(ln:cz),s.lanes[k]? = some ln->∀ q ∈ ln.qs,∃ (m:Nat)(t:cp),q.1=(m:Int)/\s.U[m]? = some t/\k ∈ t.way
 AZ:s.U.length <= 60
structure D4 (K:Frag)(c:Cs)(TC:Addr)(J:TJ)(ys:Ys)(H:Hp)(a:YA)(s:YS):Prop where
 Y:AJ K ys H a s
 T:vC c TC J H a
 O:M9 a
 G:Sk a s
theorem D4.same {K:Frag}{c:Cs}{TC fw:Addr}{dw:FuncData}{J:TJ}{ys:Ys}{H H':Hp}{a:YA}{s:YS}(W:Wy K TC fw dw J)(h:D4 K c TC J ys H a s)(e:zW H H'):D4 K c TC J ys H' a s:=⟨Ac.same h.Y e,Bm.keep W h.T (zW.Ao e),h.O,h.G⟩
noncomputable abbrev pV (K:Frag)(c:Cs)(TC:Addr)(J:TJ)(ys:Ys)(f:YA->YS->Nat->List Mv)(len:YS->Nat):Sp:=fun vs H Q _=>∃ (a:YA)(s:YS)(k:Nat),vs=[.ref a.y, .int k]/\D4 K c TC J ys H a s/\k < len s /\
 ∀ (D:Addr)(Ay:List V)(H':Hp),zW H H'->H D=none->H' D=some (.lst Ay)->Paired (Bq H') Ay ((f a s k).map fV)->Q (.ref D) H'
noncomputable def oC (K:Frag)(c:Cs)(TC:Addr)(J:TJ)(ys:Ys):Sp:=pV K c TC J ys iH (fun s=>s.U.length)
noncomputable def oB (K:Frag)(c:Cs)(TC:Addr)(J:TJ)(ys:Ys):Sp:=pV K c TC J ys iX (fun s=>s.lanes.length)
noncomputable def pY (K:Frag)(c:Cs)(TC:Addr)(J:TJ)(ys:Ys):Sp:=pV K c TC J ys fD (fun s=>s.lanes.length)
noncomputable def jw (K:Frag)(c:Cs)(TC:Addr)(J:TJ)(ys:Ys):Sp:=pV K c TC J ys (fun _ s k=>dJ s k) (fun s=>s.lanes.length)
noncomputable def jv (K:Frag)(c:Cs)(TC:Addr)(J:TJ)(ys:Ys):Sp:=fun vs H Q _=>∃ (a:YA)(s:YS)(k:Nat),vs=[.ref a.y, .int k]/\D4 K c TC J ys H a s/\k < s.lanes.length /\
 ∀ (D:Addr)(H':Hp),zW H H'->H D=none->H' D=some (.lst (nV (dF a s k)))->Q (.ref D) H'
noncomputable def xC (c:Cs)(C:Addr)(J:TJ):Sp:=fun vs H Q _=>∃ (a:YA)(l g:Nat),vs=[.ref a.tb, .int l, .int g]/\vC c C J H a/\M9 a/\l < a.ps.length/\g < a.n /\
 ∀ (D:Addr)(H':Hp),zW H H'->H D=none->H' D=some (.lst (nV (sg a l g)))->Q (.ref D) H'
theorem lW {K:Frag}{p:Addr}{us:List Nat}{g:TG}{tt:TT}{te:TE}{σ0:St}{H:Hp}{Q:VK}(b:Nat->Bool)(f:Nat->Mv)(hn:us.length < sizeLine)(ha:H p=some (.lst (nV us)))
  (hs:∀ (u:Nat)(H1:Hp)(acc:List V)(N:List V->Hp->Prop),u ∈ us->zW H H1->(b u=true->∀ v H2,zW H1 H2->Bq H2 v (fV (f u))->N (acc ++ [v]) H2)->(b u=false->N acc H1) ->
   g (.int u) σ0 H1 fun σ2 H2=>tt σ2 H2 fun b H3=>if b=true then te σ2 H3 fun y H4=>N (acc ++ [y]) H4 else N acc H3)
  (hq:∀ D vs H1,zW H H1->H1 D=none->Paired (Bq H1) vs (((us.filter b).map f).map fV)->Q (.ref D) (upd H1 D (.lst vs))):dE (vy K p) g tt te σ0 Q H:=by
 refine bK us.length hn (fun i acc H'=>zW H H'/\Paired (Bq H') acc ((((us.take i).filter b).map f).map fV)) ⟨zW.refl _, .nil⟩ (fun i acc H' h=>by
   rw[Paired.length h.2,length_map,length_map]
   have h1:=length_filter_le b (us.take i)
   have h2:=length_take_le i us
   omega) (fun i acc H' hi h=>?_) (fun acc H' h=>?_)
 ·obtain⟨s,hL⟩:=h
  have hu:us[i]? = some us[i]:=List.getElem?_eq_getElem hi
  refine⟨⟨_,_,Aa.of (s _ _ ha),lH hu⟩,fun v H2 y=>?_⟩
  obtain⟨rfl,y⟩:=y
  have hv:=y _ (Aa.of (s _ _ ha))
  rw[lH hu]at hv
  cases hv
  refine hs us[i] H2 acc (fun AY H4=>zW H H4/\Paired (Bq H4) AY ((((us.take (i + 1)).filter b).map f).map fV)) (getElem_mem hi) s (fun hb v H3 s3 hv=>⟨s.trans s3,?_⟩) (fun hb=>⟨s,?_⟩)
  ·rw[take_succ,hu,filter_append]
   have e:(some us[i]).toList.filter b=[us[i]]:=by simp[hb]
   rw[e,map_append,map_append]
   exact Paired.snoc hv (Paired.mono (fun _ _ z=>z.keep (zW.Ao s3)) hL)
  ·rw[take_succ,hu,filter_append]
   have e:(some us[i]).toList.filter b=[]:=by simp[hb]
   rw[e,append_nil]
   exact hL
 ·obtain⟨s,hL⟩:=h
  rw[take_length]at hL
  exact⟨⟨_,Aa.of (s _ _ ha),by rw[dA];exact le_refl _⟩,fun D hD=>hq D acc H' s hD hL⟩
noncomputable def vV (s:Stmt):Scope:=match s with
 | .Return (some (.ListComp _ _ sc _)) _=>sc
 | _=>{ kind := .function,names:=[],isGenerator:=false,isCoroutine:=false }
noncomputable def zz (s:Stmt):Scope:=match s with
 | .If _ [s'] _ _=>vV s'
 | _=>{ kind := .function,names:=[],isGenerator:=false,isCoroutine:=false }
noncomputable abbrev Xg:List Str:=["self", "number", "letter", "wanted"]
noncomputable abbrev Xh:List Str:=["self", "lane", "piece", "letter", "behind"]
noncomputable abbrev Xi:List Str:=["self", "lane", "piece", "wanted"]
theorem IE:ao Xg ["self", "number"] (ai mG):=L2.Ax
theorem Sl:Ba Xg (ai mG) (vV ((aG mG).getD 3 (.Pass ⟨0,0,0,0⟩))) ["self", "number", "letter"] [0,1,2]:=L2.BI
theorem Sm:(["lane", "self", "number", "letter"]:List Str).Nodup:=by decide +kernel
theorem wD {c:Cs}{ys:Ys}{J:TJ}{TC f fw fo:Addr}{fd dw CU:FuncData}(F:As K "moves_in" "Yard.moves_in" mG f fd)(Y:gj K ys)(W:Wy K TC fw dw J)(Iv:zX P w K mg base aC 3 fw dw ["self", "place", "goal", "came"] (eK J))
  (mo:bz K ys.Au "open_to" fo) (bo:Binds K CU ["self", "letter", "count"] []) (Go:zX P w K mg base aC 1 fo CU ["self", "letter", "count"] (lj ys.Au)) :
  zX P w K mg base aC 4 f fd ["self", "number"] (oC K c TC J ys):=by
 refine F.ok IE (fun vs H Q E h=>?_) (fun cdv A outer s H vs Q E hr h=>?_)
 ·obtain⟨a,s,k,rfl,_⟩:=h
  rfl
 ·obtain⟨a,st,k,rfl,hI,hk,q⟩:=h
  have AI:Ah 1 _:=hr.mono (by decide)
  refine⟨_,af (aE (i:=2) IE.nd rfl (Or.inr rfl) (av aI (al (pv 0) rfl) (pv 1) (fun _ _=>rfl)))
   (af (aO (ax bG (al (pv 2) rfl) (al (pv 2) rfl) (aB _)) (ah (ar (aV ad))) aH)
   (af (aE (i:=3) IE.nd rfl (Or.inl rfl) (jg (dv (ax bG (al (pv 2) rfl) aj (aB _)) (aA (al (pv 0) rfl) W.cl W.m Iv hr W.b .nil ap (aa (al (pv 2) rfl) (aa (al (pv 2) rfl) (aa cI ad)))) (du eL (al (pv 2) rfl) fO (dG aj)))))
   (ah (ar (bB (own:=["lane"]) (capN:=["self", "number", "letter"]) (cap:=[0,1,2]) Sl rfl (bA (pv 3)) (fun C s' H' fp=>⟨au (i:=0) Sm rfl (Or.inl rfl),c7 (bQ (aA (av (show pH _ (tZ K) from aI) (show PE _ _ (qX K (oy 1) "lanes") from al (pv 1) rfl) (pv 0) (fun _ _=>rfl)) Y.L.cl mo Go AI bo .nil ap (aa (pv 2) (aa (show PE _ _ (qX K (oy 3) "gone") from al (pv 3) rfl) ad)))),bH (aa bC (aa (pv 2) (aa (pv 0) ad)))⟩)))))),?_⟩
  have hY:=hI.Y
  obtain⟨Ag,Bn,pl⟩:=hY.hle
  obtain⟨t,ht⟩:∃ t,st.U[k]? = some t:=⟨_,List.getElem?_eq_getElem hk⟩
  obtain⟨v,hv,x,dx,wa,rfl,hx,hw,_⟩:=Paired.at2 pl ht
  obtain⟨x0,y0,e1,e2,Po,J7⟩:=hI.G.lets k t ht
  obtain⟨Ew,hw9⟩:=hI.G.Bc k t ht
  unfold iH at q
  rw[ht]at q
  refine⟨_,rfl,a.y,ys.zY,a.dy,_,_,rfl,hY.ins,Y.cl,Y.n4,rfl,_,rfl,a.le,Ag,(k:Int),_,rfl,rfl,Aa.of Bn,ak hv,?_⟩
  refine⟨_,rfl,x,ys.zZ,dx,_,_,rfl,hx,Y.ct,Y.t5,rfl,_,rfl,x,ys.zZ,dx,_,_,rfl,hx,Y.ct,Y.t3,rfl,rfl,_,rfl,?_⟩
  rw[bN]
  by_cases hg:t.gone=t.len
  ·rw[decide_eq_true hg]
   dsimp only at q
   rw[if_pos hg]at q
   exact aN ⟨zero_le _,fun D hD=>q D [] _ ((zW.refl H).new hD) hD ac .nil⟩
  rw[decide_eq_false hg]
  dsimp only at q
  rw[if_neg hg]at q
  refine aJ ⟨fun v H1=>∃ D,v = .ref D/\zW H H1/\H1 D=some (.lst (nV (dB a t))),?_,?_⟩
  ·refine⟨_,rfl,x,ys.zZ,dx,_,_,rfl,hx,Y.ct,Y.t5,rfl,rfl,_,rfl,?_⟩
   rw[bN]
   unfold dB
   by_cases h0:t.gone=0
   ·rw[decide_eq_true h0,if_pos h0]
    obtain⟨C8,fst,C1,AF,B9⟩:=hI.T.i
    refine aN ⟨_,rfl,a.y,ys.zY,a.dy,_,_,rfl,hY.ins,Y.cl,Y.n1,rfl,a.tb,C8,fst,rfl,C1,B9,_,rfl,x,ys.zZ,dx,_,_,rfl,hx,Y.ct,Y.t1,rfl,_,rfl,x,ys.zZ,dx,_,_,rfl,hx,Y.ct,Y.t2,rfl,?_⟩
    rw[e1,e2,toNat_natCast,toNat_natCast]
    exact⟨a.tb,a.n,a.wy,x0,y0,none,rfl,hI.T.j,Po,J7,fun D H1 s1 hD gD=>⟨D,rfl,s1,gD⟩⟩
   ·rw[decide_eq_false h0,if_neg h0]
    refine aJ ⟨_,rfl,x,ys.zZ,dx,_,_,rfl,hx,Y.ct,Y.t6,rfl,_,rfl,wa,_,rfl,Aa.of hw,fun D hD=>⟨D,rfl,(zW.refl H).new hD,?_⟩⟩
    rw[ac,show((1:Int))=((1:Nat):Int) from rfl,zH]
  rintro v H1 ⟨D,rfl,s1,gD⟩
  have Ej:=hI.same W s1
  have Bb:=Ej.Y
  have BE:=s1 _ _ hx
  obtain⟨Ai,AX,E5⟩:=Bb.Bf
  have hfl:(dB a t).length <= 1000:=by
   unfold dB
   by_cases h0:t.gone=0
   ·rw[if_pos h0];exact le_trans (hI.O.AZ _ _ _) (by decide)
   ·rw[if_neg h0];rw[length_take];omega
  have MA:∀ u ∈ dB a t,u < a.ps.length:=fun u hu=>by
   unfold dB at hu
   by_cases h0:t.gone=0
   ·rw[if_pos h0,e1,e2,toNat_natCast,toNat_natCast]at hu;exact hI.T.ok _ _ _ Po J7 u hu
   ·rw[if_neg h0]at hu;exact Ew u (mem_of_mem_take hu)
  refine⟨_,rfl,D,rfl,⟨_,Aa.of gD⟩,?_⟩
  refine lW (fun l=>fZ st l k t.gone) (Mv.BR k) (by rw[sizeLine_eq];omega) gD (fun u H2 acc N hu s2 FK Pp=>?_) (fun D2 IF H2 s2 BY hp=>?_)
  ·have CN:=Ej.same W s2
   obtain⟨FL,IG,IH⟩:=CN.Y.Bf
   have Sn:u < st.lanes.length:=by rw[hI.G.lanes];exact MA u hu
   obtain⟨ln,AK⟩:∃ ln,st.lanes[u]? = some ln:=⟨_,List.getElem?_eq_getElem Sn⟩
   obtain⟨vl,EW,xl,BZ,HB,II,rfl,hL,_⟩:=Paired.at2 IH AK
   refine⟨_,rfl,a.y,ys.zY,a.dy,_,_,rfl,CN.Y.ins,Y.cl,Y.n3,rfl,_,rfl,a.la,FL,(u:Int),_,rfl,rfl,Aa.of IG,ak EW,xl,BZ,_,rfl,hL.ins,rfl,_,rfl,_,rfl,x,ys.zZ,dx,_,_,rfl,s2 _ _ BE,Y.ct,Y.t5,rfl,xl,BZ,HB,ln.r,ln.b,ln.h,(k:Int),t.gone,rfl,hL.ins,_,rfl,?_⟩
   have eo:fZ st u k t.gone=cx ln.r ln.h k t.gone:=by unfold fZ;rw[AK]
   cases ho:cx ln.r ln.h k t.gone with
   | false=>exact aJ (Pp (by rw[eo,ho]))
   | true=>exact aN ⟨_,rfl,_,rfl,by show 3 <= sizeLine;decide,fun z hz=>FK (by rw[eo,ho]) _ _ ((zW.refl H2).new hz) ⟨z,rfl,ac⟩⟩
  ·exact q D2 IF _ ((s1.trans s2).new BY) (s1.free (s2.free BY)) ac (Paired.mono (fun _ _ z=>z.keep (zW.Ao ((zW.refl H2).new BY))) hp)
theorem jP {H:Hp}{Al:List V}{qs:List (Int × Int)}(h:Aq H Al qs):(qs.head? = none/\p7 Al = .An)∨∃ q pt,qs.head? = some q/\p7 Al = .ref pt/\H pt=some (.tup [.int q.1, .int q.2]):=by
 cases h with
 | nil=>exact .inl ⟨rfl,rfl⟩
 | cons x r=>obtain⟨t,rfl,ht⟩:=x;exact .inr ⟨_,t,rfl,rfl,ht⟩
theorem MB:ao ["table", "lane", "goal", "end"] ["table", "lane", "goal"] (ai Rz):=L2.Ax
theorem yX {c:Cs}{J:TJ}{C f fw fe:Addr}{fd dw de:FuncData}(F:As K "onward" "onward" Rz f fd)(L:lY K c)(W:Wy K C fw dw J)(Gw:zX P w K mg base aC 3 fw dw ["self", "place", "goal", "came"] (eK J))
  (M:xy K c fe de) (Ge:zX P w K mg base aC 1 fe de ["self", "lane"] (oF c Prod.snd)):zX P w K mg base aC 4 f fd ["table", "lane", "goal"] (xC c C J):=by
 refine F.ok MB (fun vs H Q E h=>?_) (fun cdv A outer s H vs Q E hr h=>?_)
 ·obtain⟨a,l,g,rfl,_⟩:=h
  rfl
 ·obtain⟨a,l,g,rfl,hT,hO,hl,hg,q⟩:=h
  have AI:Ah 1 _:=hr.mono (by decide)
  refine⟨_,af (aE (i:=3) MB.nd rfl (Or.inl rfl) (aA (al (pv 0) rfl) L.cl M.m Ge AI M.b .nil ap (aa (pv 1) ad)))
   (ah (ar (dv (ax bG (pv 3) (pv 2) (aB _)) (aV ad) (aA (pv 0) W.cl W.m Gw hr W.b .nil ap (aa (pv 3) (aa (pv 2) (aa (pv 1) ad))))))),?_⟩
  obtain⟨dx,fs,hx,hf,hw'⟩:=hT.i
  have he:=List.getElem?_eq_getElem hl
  have HC:a.ps.getD l (0,0)=a.ps[l]:=by rw[getD_eq_getElem?_getD,he];rfl
  unfold sg at q
  rw[HC]at q
  obtain⟨e,ee,MC⟩:=hO.ends l _ he
  refine⟨_,rfl,a.tb,C,dx,fs,_,rfl,hx,W.cl,W.nl,hf,a.lx,a.Aw,_,rfl,hT.l.1,rfl,_,rfl,a.lx,a.Aw,a.lt,(a.n:Int),a.Ag,a.ps,l,_,rfl,hT.l,he,?_⟩
  rw[ee]at q ⊢
  rw[toNat_natCast]at q
  refine⟨_,rfl,_,rfl,rfl,_,rfl,?_⟩
  rw[bN]
  by_cases h1:(e:Int)=(g:Int)
  ·rw[decide_eq_true h1]
   rw[if_pos h1]at q
   exact aN ⟨zero_le _,fun D hD=>q D _ ((zW.refl H).new hD) hD ac⟩
  ·rw[decide_eq_false h1]
   rw[if_neg h1]at q
   exact aJ ⟨_,rfl,a.tb,dx,fs,rfl,hx,hw',_,rfl,_,rfl,_,rfl,a.tb,a.n,a.wy,e,g,some l,rfl,hT.j,MC,hg,fun D H' s' hD gD=>q D _ s' hD gD⟩
theorem FN:ao Xh ["self", "lane"] (ai ie):=L2.Ax
theorem So:Ba Xh (ai ie) (zz ((aG ie).getD 3 (.Pass ⟨0,0,0,0⟩))) ["letter"] [3]:=L2.BI
theorem Sr:(["way", "letter"]:List Str).Nodup:=by decide +kernel
theorem r8 {c:Cs}{ys:Ys}{J:TJ}{TC f fw ff fo:Addr}{fd dw df CU:FuncData}(F:As K "wanted" "Yard.wanted" ie f fd)(Y:gj K ys)(W:Wy K TC fw dw J)
  (mf:bz K ys.Au "front" ff) (bf:Binds K df ["self"] []) (Gf:zX P w K mg base aC 1 ff df ["self"] (jb ys.Au))
  (mo:mg "onward" = some (.ref fo)) (ko:keepIn K (.ref fo)=true) (bo:Binds K CU ["table", "lane", "goal"] []) (Go:zX P w K mg base aC 4 fo CU ["table", "lane", "goal"] (xC c TC J)) :
  zX P w K mg base aC 5 f fd ["self", "lane"] (jv K c TC J ys):=by
 refine F.ok FN (fun vs H Q E h=>?_) (fun cdv A outer s H vs Q E hr h=>?_)
 ·obtain⟨a,s,k,rfl,_⟩:=h
  rfl
 ·obtain⟨a,st,k,rfl,hI,hk,q⟩:=h
  have AI:Ah 1 _:=hr.mono (by decide)
  refine⟨_,af (aE (i:=2) FN.nd rfl (Or.inl rfl) (aT (av aI (al (pv 0) rfl) (pv 1) (fun _ _=>rfl)) Y.L.cl mf Gf AI bf .nil ap))
   (af (aO (ax lG (pv 2) cI (aB _)) (ah (ar (aV ad))) aH)
   (af (aE (i:=3) FN.nd rfl (Or.inr rfl) (av aI (al (pv 0) rfl) (av aF (pv 2) aj (fun _ _=>rfl)) (fun _ _=>rfl)))
   (af (aO (ax bG (av aF (pv 2) aj (fun _ _=>rfl)) aj (aB _))
    (ah (ar (bB (own:=["way"]) (capN:=["letter"]) (cap:=[3]) So rfl (bA (aq Go hr rfl mo ko bo .nil ap (aa (al (pv 0) rfl) (aa (pv 1) (aa (al (pv 3) rfl) ad))))) (fun C s' H' fp=>⟨au (i:=0) Sr rfl (Or.inl rfl),c7 (ax (show eW _ (compareOp .NotIn) (QL K true) from lF) (pv 0) (show PE _ _ (qX K (oy 1) "way") from al (pv 1) rfl) (by with_unfolding_all rfl)),pv 0⟩)))) aH)
   (af (aE (i:=4) FN.nd rfl (Or.inl rfl) (aD bR (cu plainAttrs_list PySem.F.slot_list_index PySem.F.type_list_index rF (al (pv 3) rfl) (aa (pv 1) ad)) aj))
   (ah (ar (du eL (al (pv 3) rfl) (dG (pv 4)) (dG (aD bR (pv 4) aj))))))))),?_⟩
  have hY:=hI.Y
  obtain⟨Ai,AX,E5⟩:=hY.Bf
  obtain⟨ln,AK⟩:∃ ln,st.lanes[k]? = some ln:=⟨_,List.getElem?_eq_getElem hk⟩
  obtain⟨vl,EW,xl,BZ,HB,II,rfl,hL,_⟩:=Paired.at2 E5 AK
  refine⟨_,rfl,a.y,ys.zY,a.dy,_,_,rfl,hY.ins,Y.cl,Y.n3,rfl,_,rfl,a.la,Ai,(k:Int),_,rfl,rfl,Aa.of AX,ak EW,xl,BZ,_,rfl,hL.ins,rfl,xl,BZ,HB,ln.r,ln.b,ln.h,II,ln.qs,rfl,hL,?_⟩
  unfold dF bZ at q
  rw[AK]at q
  dsimp only at q
  rcases jP hL.Bp with ⟨hf,ef⟩ | ⟨pq,pt,hf,ef,Dt⟩
  ·rw[hf]at q
   rw[ef]
   exact⟨_,rfl,rfl,_,rfl,aN ⟨zero_le _,fun D hD=>q D _ ((zW.refl H).new hD) hD ac⟩⟩
  rw[hf]at q
  rw[ef]
  have hqm:pq ∈ ln.qs:=mem_of_head? hf
  obtain⟨m,t,em,hm,IJ⟩:=hI.G.Bp k ln AK pq hqm
  obtain⟨x0,y0,e1,e2,Po,J7⟩:=hI.G.lets m t hm
  obtain⟨Ew,hw9⟩:=hI.G.Bc m t hm
  rw[em]at Dt
  dsimp only at q
  rw[em,toNat_natCast,hm]at q
  dsimp only at q
  refine⟨_,rfl,rfl,_,rfl,aJ ?_⟩
  obtain⟨Ag,Bn,pl⟩:=hY.hle
  obtain⟨v,hv,x,dx,wa,rfl,hx,hw,_⟩:=Paired.at2 pl hm
  refine⟨_,rfl,a.y,ys.zY,a.dy,_,_,rfl,hY.ins,Y.cl,Y.n4,rfl,_,rfl,pt,_,0,_,rfl,rfl,Af.of Dt,ak (j:=0) rfl,a.le,Ag,(m:Int),_,rfl,rfl,Aa.of Bn,ak hv,?_⟩
  refine⟨_,rfl,pt,_,1,_,rfl,rfl,Af.of Dt,ak (j:=1) rfl,rfl,_,rfl,?_⟩
  rw[bN]
  by_cases h0:pq.2=0
  ·rw[decide_eq_true h0]
   rw[if_pos h0,e2,toNat_natCast]at q
   refine aN ⟨_,rfl,a.y,ys.zY,a.dy,_,_,rfl,hY.ins,Y.cl,Y.n1,rfl,_,rfl,_,rfl,x,ys.zZ,dx,_,_,rfl,hx,Y.ct,Y.t2,rfl,?_⟩
   rw[e2]
   refine⟨a,k,y0,rfl,hI.T,hI.O,by rw[← hI.G.lanes];exact hk,J7,fun D H1 s1 hD gD=>⟨D,rfl,⟨_,Aa.of gD⟩,?_⟩⟩
   have Ic:(sg a k y0).length <= 400:=by
    unfold sg
    by_cases z:(a.ps.getD k (0,0)).2=(y0:Int)
    ·rw[if_pos z];exact zero_le _
    ·rw[if_neg z];exact hI.O.AZ _ _ _
   refine fL (fun v=>match v with | .int i=>!decide (i ∈ iz t.way) | _=>false) (fun v=>v) (by rw[dA,sizeLine_eq];omega) (Aa.of gD) (fun y acc N hy h=>?_) (fun D2 BY=>?_)
   ·obtain⟨u,hu,rfl⟩:=uK hy
    refine⟨_,rfl,_,rfl,x,ys.zZ,dx,_,_,rfl,s1 _ _ hx,Y.ct,Y.t6,rfl,wa,_,rfl, .inl (Aa.of (s1 _ _ hw)),rfl,by rw[qy];exact iL _,_,rfl,?_⟩
    rw[qy,lL]
    have h:N (if (!decide ((u:Int) ∈ iz t.way))=true then acc ++ [V.int u] else acc) H1:=h
    cases hb:decide ((u:Int) ∈ iz t.way) with
    | true =>
     rw[hb]at h
     exact aJ h
    | false =>
     rw[hb]at h
     exact aN ⟨_,rfl,h⟩
   ·have e:((nV (sg a k y0)).filter (fun v=>match v with | .int i=>!decide (i ∈ iz t.way) | _=>false)).map (fun v=>v)=nV ((sg a k y0).filter fun l=>!decide (l ∈ t.way)):=by
     rw[List.map_id']
     unfold nV
     rw[List.filter_map]
     congr 1
     refine filter_congr fun u _=>?_
     show(!decide ((u:Int) ∈ iz t.way))=_
     rw[pz]
    rw[e]
    exact q D2 _ (s1.new BY) (s1.free BY) ac
  ·rw[decide_eq_false h0]
   rw[if_neg h0]at q
   refine aJ ⟨_,rfl,x,ys.zZ,dx,_,_,rfl,hx,Y.ct,Y.t6,rfl, .inl ⟨rfl,_,Aa.of hw⟩,_,rfl,wa,iz t.way,(k:Int),rfl,rfl,by rw[← qy];exact hw,Bw.mpr ⟨k,IJ,rfl⟩,by unfold iz;rw[length_map];omega,_,_,rfl,rfl,?_⟩
   rw[uW]
   refine⟨_,rfl,x,ys.zZ,dx,_,_,rfl,hx,Y.ct,Y.t6,rfl,_,rfl,_,rfl,_,rfl,_,_,rfl,rfl,_,rfl,wa,_,rfl,Aa.of hw,fun D hD=>?_⟩
   have e:eZ (nV t.way) (some (((t.way.idxOf k:Nat):Int) + 1)) (some (((t.way.idxOf k:Nat):Int) + 1 + 1))=nV ((t.way.drop (t.way.idxOf k + 1)).take 1):=by
    have:=xm t.way (t.way.idxOf k + 1)
    rw[← this]
    rfl
   dsimp only
   rw[e]
   exact q D _ ((zW.refl H).new hD) hD ac
theorem IK:ao Xi ["self", "lane"] (ai mF):=L2.Ax
theorem Ss:Ba Xi (ai mF) (vV ((aG mF).getD 2 (.Pass ⟨0,0,0,0⟩))) ["self", "lane", "piece"] [0,1,2]:=L2.BI
theorem Sv:(["other", "self", "lane", "piece"]:List Str).Nodup:=by decide +kernel
theorem wC {c:Cs}{ys:Ys}{J:TJ}{TC f fw ff fa fo:Addr}{fd dw df da CU:FuncData}(F:As K "moves_on" "Yard.moves_on" mF f fd)(Y:gj K ys)(W:Wy K TC fw dw J)
  (mf:bz K ys.Au "front" ff) (bf:Binds K df ["self"] []) (Gf:zX P w K mg base aC 1 ff df ["self"] (jb ys.Au))
  (ma:bz K ys.zY "wanted" fa) (ba:Binds K da ["self", "lane"] []) (Ga:zX P w K mg base aC 5 fa da ["self", "lane"] (jv K c TC J ys))
  (mo:bz K ys.Au "open_to" fo) (bo:Binds K CU ["self", "letter", "count"] []) (Go:zX P w K mg base aC 1 fo CU ["self", "letter", "count"] (lj ys.Au)) :
  zX P w K mg base aC 6 f fd ["self", "lane"] (oB K c TC J ys):=by
 refine F.ok IK (fun vs H Q E h=>?_) (fun cdv A outer s H vs Q E hr h=>?_)
 ·obtain⟨a,s,k,rfl,_⟩:=h
  rfl
 ·obtain⟨a,st,k,rfl,hI,hk,q⟩:=h
  have AI:Ah 1 _:=hr.mono (by decide)
  refine⟨_,af (aE (i:=2) IK.nd rfl (Or.inr rfl) (aT (av aI (al (pv 0) rfl) (pv 1) (fun _ _=>rfl)) Y.L.cl mf Gf AI bf .nil ap))
   (af (aE (i:=3) IK.nd rfl (Or.inl rfl) (aA (pv 0) Y.cl ma Ga hr ba .nil ap (aa (pv 1) ad)))
   (ah (ar (bB (own:=["other"]) (capN:=["self", "lane", "piece"]) (cap:=[0,1,2]) Ss rfl (bA (pv 3)) (fun C s' H' fp=>⟨au (i:=0) Sv rfl (Or.inl rfl),c7 (bQ (aA (av (show pH _ (tZ K) from aI) (show PE _ _ (qX K (oy 1) "lanes") from al (pv 1) rfl) (pv 0) (fun _ _=>rfl)) Y.L.cl mo Go AI bo .nil ap (aa (av (show pH _ (l7 K) from aF) (pv 3) aj (fun _ _=>rfl)) (aa (av (show pH _ (l7 K) from aF) (pv 3) aj (fun _ _=>rfl)) ad)))),bH (aa bC (aa (pv 2) (aa (pv 0) ad)))⟩))))),?_⟩
  have hY:=hI.Y
  obtain⟨Ai,AX,E5⟩:=hY.Bf
  obtain⟨ln,AK⟩:∃ ln,st.lanes[k]? = some ln:=⟨_,List.getElem?_eq_getElem hk⟩
  obtain⟨vl,EW,xl,BZ,HB,II,rfl,hL,_⟩:=Paired.at2 E5 AK
  refine⟨_,rfl,a.y,ys.zY,a.dy,_,_,rfl,hY.ins,Y.cl,Y.n3,rfl,_,rfl,a.la,Ai,(k:Int),_,rfl,rfl,Aa.of AX,ak EW,xl,BZ,_,rfl,hL.ins,rfl,xl,BZ,HB,ln.r,ln.b,ln.h,II,ln.qs,rfl,hL,?_⟩
  refine⟨_,rfl,a.y,a.dy,_,rfl,hY.ins,rfl,_,rfl,a,st,k,rfl,hI,hk,fun D H1 s1 hD gD=>?_⟩
  refine⟨_,rfl,D,rfl,⟨_,Aa.of gD⟩,?_⟩
  have Ej:=hI.same W s1
  have eF:bZ st k=ln.qs.head?:=by unfold bZ;rw[AK]
  have MA:∀ u ∈ dF a st k,u < a.ps.length:=fun u hu=>by
   unfold dF at hu
   rw[eF]at hu
   cases hq:ln.qs.head? with
   | none=>rw[hq]at hu;cases hu
   | some pq =>
    rw[hq]at hu
    obtain⟨m,t,em,hm,IJ⟩:=hI.G.Bp k ln AK pq (mem_of_head? hq)
    obtain⟨x0,y0,e1,e2,Po,J7⟩:=hI.G.lets m t hm
    dsimp only at hu
    rw[em,toNat_natCast,hm]at hu
    dsimp only at hu
    by_cases h0:pq.2=0
    ·rw[if_pos h0,e2,toNat_natCast]at hu
     have hu:=(mem_filter.mp hu).1
     unfold sg at hu
     by_cases z:(a.ps.getD k (0,0)).2=(y0:Int)
     ·rw[if_pos z]at hu;cases hu
     ·rw[if_neg z]at hu
      have J8:k < a.ps.length:=by rw[← hI.G.lanes];exact hk
      obtain⟨e,ee,MC⟩:=hI.O.ends k _ (List.getElem?_eq_getElem J8)
      have HC:a.ps.getD k (0,0)=a.ps[k]:=by rw[getD_eq_getElem?_getD,List.getElem?_eq_getElem J8];rfl
      rw[HC,ee,toNat_natCast]at hu
      exact hI.T.ok _ _ _ MC J7 u hu
    ·rw[if_neg h0]at hu
     exact(hI.G.Bc m t hm).1 u (mem_of_mem_drop (mem_of_mem_take hu))
  have Ew:(dF a st k).length <= 1000:=by
   unfold dF
   cases bZ st k with
   | none=>exact zero_le _
   | some pq =>
    dsimp only
    cases st.U[pq.1.toNat]? with
    | none=>exact zero_le _
    | some t =>
     dsimp only
     by_cases h0:pq.2=0
     ·rw[if_pos h0]
      refine le_trans (length_filter_le _ _) ?_
      unfold sg
      by_cases z:(a.ps.getD k (0,0)).2=((t.goal.toNat:Nat):Int)
      ·rw[if_pos z];exact zero_le _
      ·rw[if_neg z];exact le_trans (hI.O.AZ _ _ _) (by decide)
     ·rw[if_neg h0,length_take];omega
  unfold iX at q
  rw[eF]at q
  rcases jP hL.Bp with ⟨hf,ef⟩ | ⟨pq,pt,hf,ef,Dt⟩
  ·have e0:dF a st k=[]:=by unfold dF;rw[eF,hf]
   rw[hf]at q
   rw[e0]at gD
   refine lW (fun l=>false) (Mv.on k) (by rw[sizeLine_eq];decide) gD (fun u H2 acc N hu s2 FK Pp=>by cases hu) (fun D2 IF H2 s2 BY hp=>?_)
   exact q D2 IF _ ((s1.trans s2).new BY) (s1.free (s2.free BY)) ac (Paired.mono (fun _ _ z=>z.keep (zW.Ao ((zW.refl H2).new BY))) hp)
  rw[hf]at q
  dsimp only at q
  rw[ef]
  refine lW (fun l=>fZ st l pq.1 pq.2) (Mv.on k) (by rw[sizeLine_eq];omega) gD (fun u H2 acc N hu s2 FK Pp=>?_) (fun D2 IF H2 s2 BY hp=>?_)
  ·have CN:=Ej.same W s2
   obtain⟨FL,IG,IH⟩:=CN.Y.Bf
   have Sn:u < st.lanes.length:=by rw[hI.G.lanes];exact MA u hu
   obtain⟨B0,EX⟩:∃ ln,st.lanes[u]? = some ln:=⟨_,List.getElem?_eq_getElem Sn⟩
   obtain⟨vu,hvu,xu,Xj,pau,pvu,rfl,Xk,_⟩:=Paired.at2 IH EX
   have EV:=s2 _ _ (s1 _ _ Dt)
   refine⟨_,rfl,a.y,ys.zY,a.dy,_,_,rfl,CN.Y.ins,Y.cl,Y.n3,rfl,_,rfl,a.la,FL,(u:Int),_,rfl,rfl,Aa.of IG,ak hvu,xu,Xj,_,rfl,Xk.ins,rfl,_,rfl,pt,_,0,_,rfl,rfl,Af.of EV,ak (j:=0) rfl,_,rfl,pt,_,1,_,rfl,rfl,Af.of EV,ak (j:=1) rfl,xu,Xj,pau,B0.r,B0.b,B0.h,pq.1,pq.2,rfl,Xk.ins,_,rfl,?_⟩
   have eo:fZ st u pq.1 pq.2=cx B0.r B0.h pq.1 pq.2:=by unfold fZ;rw[EX]
   cases ho:cx B0.r B0.h pq.1 pq.2 with
   | false=>exact aJ (Pp (by rw[eo,ho]))
   | true=>exact aN ⟨_,rfl,_,rfl,by show 3 <= sizeLine;decide,fun z hz=>FK (by rw[eo,ho]) _ _ ((zW.refl H2).new hz) ⟨z,rfl,ac⟩⟩
  ·exact q D2 IF _ ((s1.trans s2).new BY) (s1.free (s2.free BY)) ac (Paired.mono (fun _ _ z=>z.keep (zW.Ao ((zW.refl H2).new BY))) hp)
theorem MD:ao ["self", "lane", "piece"] ["self", "lane"] (ai oM):=L2.Ax
theorem uy {c:Cs}{ys:Ys}{J:TJ}{TC f fw ff fe:Addr}{fd dw df de:FuncData}(F:As K "moves_lie" "Yard.moves_lie" oM f fd)(Y:gj K ys)(L:lY K c)(W:Wy K TC fw dw J)
  (mf:bz K ys.Au "front" ff) (bf:Binds K df ["self"] []) (Gf:zX P w K mg base aC 1 ff df ["self"] (jb ys.Au)) (M:xy K c fe de) (Ge:zX P w K mg base aC 1 fe de ["self", "lane"] (oF c Prod.snd)) :
  zX P w K mg base aC 2 f fd ["self", "lane"] (pY K c TC J ys):=by
 refine F.ok MD (fun vs H Q E h=>?_) (fun cdv A outer s H vs Q E hr h=>?_)
 ·obtain⟨a,s,k,rfl,_⟩:=h
  rfl
 ·obtain⟨a,st,k,rfl,hI,hk,q⟩:=h
  refine⟨_,af (aE (i:=2) MD.nd rfl (Or.inl rfl) (aT (av aI (al (pv 0) rfl) (pv 1) (fun _ _=>rfl)) Y.L.cl mf Gf hr bf .nil ap))
   (af (aO (PW.pt (j5 (ax lG (pv 2) cI (aB _)) (gF (ax mU (al (av aI (al (pv 0) rfl) (av aF (pv 2) aj (fun _ _=>rfl)) (fun _ _=>rfl)) rfl) (aA (al (al (pv 0) rfl) rfl) L.cl M.m Ge hr M.b .nil ap (aa (pv 1) ad)) (aB _))))) (ah (ar (aV ad))) aH)
   (ah (ar (aV (aa (bH (aa bC (aa (pv 1) ad))) ad))))),?_⟩
  have hY:=hI.Y
  obtain⟨Ai,AX,E5⟩:=hY.Bf
  obtain⟨ln,AK⟩:∃ ln,st.lanes[k]? = some ln:=⟨_,List.getElem?_eq_getElem hk⟩
  obtain⟨vl,EW,xl,BZ,HB,II,rfl,hL,_⟩:=Paired.at2 E5 AK
  refine⟨_,rfl,a.y,ys.zY,a.dy,_,_,rfl,hY.ins,Y.cl,Y.n3,rfl,_,rfl,a.la,Ai,(k:Int),_,rfl,rfl,Aa.of AX,ak EW,xl,BZ,_,rfl,hL.ins,rfl,xl,BZ,HB,ln.r,ln.b,ln.h,II,ln.qs,rfl,hL,?_⟩
  have eF:bZ st k=ln.qs.head?:=by unfold bZ;rw[AK]
  unfold fD at q
  rw[eF]at q
  rcases jP hL.Bp with ⟨hf,ef⟩ | ⟨pq,pt,hf,ef,Dt⟩
  ·rw[hf]at q
   rw[ef]
   exact⟨_,rfl,rfl,_,rfl,aN (aN ⟨zero_le _,fun D hD=>q D [] _ ((zW.refl H).new hD) hD ac .nil⟩)⟩
  rw[hf]at q
  rw[ef]
  obtain⟨m,t,em,hm,IJ⟩:=hI.G.Bp k ln AK pq (mem_of_head? hf)
  rw[em]at Dt
  dsimp only at q
  rw[em,toNat_natCast,hm]at q
  dsimp only at q
  obtain⟨Ag,Bn,pl⟩:=hY.hle
  obtain⟨v,hv,x,dx,wa,rfl,hx,hw,_⟩:=Paired.at2 pl hm
  obtain⟨C8,fst,C1,AF,B9⟩:=hI.T.i
  have J8:k < a.ps.length:=by rw[← hI.G.lanes];exact hk
  have he:=List.getElem?_eq_getElem J8
  have HC:a.ps.getD k (0,0)=a.ps[k]:=by rw[getD_eq_getElem?_getD,he];rfl
  rw[HC]at q
  refine⟨_,rfl,rfl,_,rfl,aJ ⟨_,rfl,a.y,ys.zY,a.dy,_,_,rfl,hY.ins,Y.cl,Y.n4,rfl,_,rfl,pt,_,0,_,rfl,rfl,Af.of Dt,ak (j:=0) rfl,a.le,Ag,(m:Int),_,rfl,rfl,Aa.of Bn,ak hv,x,ys.zZ,dx,_,_,rfl,hx,Y.ct,Y.t2,rfl,_,rfl,a.y,ys.zY,a.dy,_,_,rfl,hY.ins,Y.cl,Y.n1,rfl,a.tb,TC,C8,fst,_,rfl,C1,W.cl,W.nl,AF,a.lx,a.Aw,_,rfl,hI.T.l.1,rfl,_,rfl,a.lx,a.Aw,a.lt,(a.n:Int),a.Ag,a.ps,k,_,rfl,hI.T.l,he,rfl,_,rfl,?_⟩⟩
  rw[bN]
  by_cases hg:t.goal=a.ps[k].2
  ·rw[decide_eq_true hg]
   rw[if_pos hg]at q
   refine aJ ⟨_,rfl,by show 2 <= sizeLine;decide,fun z hz=>⟨by show 1 <= sizeLine;decide,fun D hD=>?_⟩⟩
   have s2:=(zW.refl H).new (o := .tup [.str "lie", .int k]) hz
   have gz:(upd H z (.tup [.str "lie", .int k])) z=some (.tup [.str "lie", .int k]):=ac
   exact q D [.ref z] _ (s2.new hD) (s2.free hD) ac (.cons ⟨z,rfl,by rw[ae (ag gz hD)];exact gz⟩ .nil)
  ·rw[decide_eq_false hg]
   rw[if_neg hg]at q
   exact aN ⟨zero_le _,fun D hD=>q D [] _ ((zW.refl H).new hD) hD ac .nil⟩
theorem Sw:ao ["self", "lane"] ["self", "lane"] (ai lu):=L2.Ax
theorem rA {c:Cs}{ys:Ys}{J:TJ}{TC f:Addr}{fd:FuncData}(F:As K "moves_back" "Yard.moves_back" lu f fd)(Y:gj K ys):zX P w K mg base aC 1 f fd ["self", "lane"] (jw K c TC J ys):=by
 refine F.ok Sw (fun vs H Q E h=>?_) (fun cdv A outer s H vs Q E hr h=>?_)
 ·obtain⟨a,s,k,rfl,_⟩:=h
  rfl
 ·obtain⟨a,st,k,rfl,hI,hk,q⟩:=h
  refine⟨_,ah (ar (dv (ax ul (al (av aI (al (pv 0) rfl) (pv 1) (fun _ _=>rfl)) rfl) aj (aB _)) (aV (aa (bH (aa bC (aa (pv 1) ad))) ad)) (aV ad))),?_⟩
  have hY:=hI.Y
  obtain⟨Ai,AX,E5⟩:=hY.Bf
  obtain⟨ln,AK⟩:∃ ln,st.lanes[k]? = some ln:=⟨_,List.getElem?_eq_getElem hk⟩
  obtain⟨vl,EW,xl,BZ,HB,II,rfl,hL,_⟩:=Paired.at2 E5 AK
  unfold dJ at q
  dsimp only at q
  rw[AK]at q
  dsimp only at q
  refine⟨_,rfl,a.y,ys.zY,a.dy,_,_,rfl,hY.ins,Y.cl,Y.n3,rfl,_,rfl,a.la,Ai,(k:Int),_,rfl,rfl,Aa.of AX,ak EW,xl,ys.Au,BZ,_,_,rfl,hL.ins,Y.L.cl,Y.L.n2,rfl,_,_,rfl,rfl,_,rfl,?_⟩
  by_cases hb:0 < ln.b
  ·rw[decide_eq_true hb]
   rw[if_pos hb]at q
   refine aN ⟨_,rfl,by show 2 <= sizeLine;decide,fun z hz=>⟨by show 1 <= sizeLine;decide,fun D hD=>?_⟩⟩
   have s2:=(zW.refl H).new (o := .tup [.str "back", .int k]) hz
   have gz:(upd H z (.tup [.str "back", .int k])) z=some (.tup [.str "back", .int k]):=ac
   exact q D [.ref z] _ (s2.new hD) (s2.free hD) ac (.cons ⟨z,rfl,by rw[ae (ag gz hD)];exact gz⟩ .nil)
  ·rw[decide_eq_false hb]
   rw[if_neg hb]at q
   exact aJ ⟨zero_le _,fun D hD=>q D [] _ ((zW.refl H).new hD) hD ac .nil⟩
theorem iu {H:Hp}{F:Addr}{xs:List V}{o:HO}(h:H F=some (.lst xs)):AA H (upd H F o):=fun b u e n=>by
 have nb:b ≠ F:=fun z=>by rw[z,h]at e;cases e;exact n
 rw[ae nb];exact e
theorem eB {α:Type}(f:Nat->List α)(i:Nat):(List.range (i + 1)).flatMap f=(List.range i).flatMap f ++ f i:=by
 rw[range_succ,List.flatMap_append];simp
theorem bj {α:Type}{f:Nat->List α}(h:∀ i,(f i).length <= 1000):∀ i,((List.range i).flatMap f).length <= 1000 * i
 | 0=>by simp
 | i + 1=>by rw[eB,length_append];have:=bj h i;have:=h i;omega
theorem dZ {a:YA}{s:YS}(O:M9 a)(G:Sk a s)(k:Nat):(iH a s k).length <= 1000:=by
 unfold iH
 cases ht:s.U[k]? with
 | none=>exact zero_le _
 | some t =>
  dsimp only
  by_cases hg:t.gone=t.len
  ·rw[if_pos hg];exact zero_le _
  rw[if_neg hg,length_map]
  refine le_trans (length_filter_le _ _) ?_
  unfold dB
  by_cases h0:t.gone=0
  ·rw[if_pos h0];exact le_trans (O.AZ _ _ _) (by decide)
  ·rw[if_neg h0,length_take];omega
theorem dY {a:YA}{s:YS}(O:M9 a)(k:Nat):(iX a s k).length <= 1000:=by
 unfold iX
 cases hq:bZ s k with
 | none=>exact zero_le _
 | some pq =>
  dsimp only
  rw[length_map]
  refine le_trans (length_filter_le _ _) ?_
  unfold dF
  rw[hq]
  dsimp only
  cases s.U[pq.1.toNat]? with
  | none=>exact zero_le _
  | some t =>
   dsimp only
   by_cases h0:pq.2=0
   ·rw[if_pos h0]
    refine le_trans (length_filter_le _ _) ?_
    unfold sg
    by_cases z:(a.ps.getD k (0,0)).2=((t.goal.toNat:Nat):Int)
    ·rw[if_pos z];exact zero_le _
    ·rw[if_neg z];exact le_trans (O.AZ _ _ _) (by decide)
   ·rw[if_neg h0,length_take];omega
theorem cU (a:YA)(s:YS)(k:Nat):(fD a s k).length <= 1000:=by
 unfold fD
 cases bZ s k with
 | none=>exact zero_le _
 | some pq =>
  dsimp only
  cases s.U[pq.1.toNat]? with
  | none=>exact zero_le _
  | some t =>
   dsimp only
   by_cases h0:t.goal=(a.ps.getD k (0,0)).2
   ·rw[if_pos h0];show 1 <= 1000;decide
   ·rw[if_neg h0];exact zero_le _
theorem jE (s:YS)(k:Nat):(dJ s k).length <= 1000:=by
 unfold dJ
 cases s.lanes[k]? with
 | none=>exact zero_le _
 | some ln =>
  dsimp only
  by_cases h0:0 < ln.b
  ·rw[if_pos h0];show 1 <= 1000;decide
  ·rw[if_neg h0];exact zero_le _
noncomputable def bS (a:YA)(s:YS):List Mv:=(List.range s.U.length).flatMap (iH a s) ++ (List.range s.lanes.length).flatMap (iX a s) ++ (List.range s.lanes.length).flatMap (fD a s) ++ (List.range s.lanes.length).flatMap (dJ s)
noncomputable def ll (K:Frag)(c:Cs)(TC:Addr)(J:TJ)(ys:Ys):Sp:=fun vs H Q _=>∃ (a:YA)(s:YS),vs=[.ref a.y]/\D4 K c TC J ys H a s /\
 ∀ (D:Addr)(Ay:List V)(H':Hp),zW H H'->H D=none->H' D=some (.lst Ay)->Paired (Bq H') Ay ((bS a s).map fV)->Q (.ref D) H'
theorem Paired.app {α β:Type}{R:α->β->Prop}{cs:List α}{ds:List β}(h:Paired R cs ds):∀ {as:List α}{bs:List β},Paired R as bs->Paired R (as ++ cs) (bs ++ ds)
 | _,_, .nil=>h
 | _,_, .cons x r => .cons x (Paired.app h r)
theorem jj {H H2 H3:Hp}{F:Addr}{vs Ay:List V}{xs ys:List Mv}(nF:H F=none)(s2:zW H H2)(g2:H2 F=some (.lst vs))(p2:Paired (Bq H2) vs (xs.map fV))(s3:zW H2 H3)(p3:Paired (Bq H3) Ay (ys.map fV)) :
  zW H (upd H3 F (.lst (vs ++ Ay)))/\(upd H3 F (.lst (vs ++ Ay))) F=some (.lst (vs ++ Ay))/\Paired (Bq (upd H3 F (.lst (vs ++ Ay)))) (vs ++ Ay) ((xs ++ ys).map fV):=by
 refine⟨fun b o e=>by rw[ae (ag e nF)];exact s3 _ _ (s2 _ _ e),ac,?_⟩
 have kk:AA H3 (upd H3 F (.lst (vs ++ Ay))):=iu (s3 _ _ g2)
 rw[map_append]
 have q2:=Paired.mono (fun _ _ z=>z.keep (AA.trans (zW.Ao s3) kk)) p2
 have q3:=Paired.mono (fun _ _ z=>z.keep kk) p3
 exact Paired.app q3 q2
noncomputable abbrev NMs:List Str:=["self", "found", "number", "lane"]
theorem Ek:ao NMs ["self"] (ai oN):=L2.Ax
structure Sy (P:Program)(w:World)(K:Frag)(mg:Str->Option Value)(base:Heap)(c:Cs)(TC:Addr)(J:TJ)(ys:Ys)(fi fo fl fb:Addr)(di CU dl db:FuncData):Prop where
 mi:bz K ys.zY "moves_in" fi
 bi:Binds K di ["self", "number"] []
 Gi:zX P w K mg base aC 4 fi di ["self", "number"] (oC K c TC J ys)
 mo:bz K ys.zY "moves_on" fo
 bo:Binds K CU ["self", "lane"] []
 Go:zX P w K mg base aC 6 fo CU ["self", "lane"] (oB K c TC J ys)
 ml:bz K ys.zY "moves_lie" fl
 bl:Binds K dl ["self", "lane"] []
 Gl:zX P w K mg base aC 2 fl dl ["self", "lane"] (pY K c TC J ys)
 mb:bz K ys.zY "moves_back" fb
 bb:Binds K db ["self", "lane"] []
 Gb:zX P w K mg base aC 1 fb db ["self", "lane"] (jw K c TC J ys)
theorem uz {c:Cs}{ys:Ys}{J:TJ}{TC f fw fi fo fl fb:Addr}{fd dw di CU dl db:FuncData}(F:As K "moves" "Yard.moves" oN f fd)(T:dR mg)(Y:gj K ys)(W:Wy K TC fw dw J)(M:Sy P w K mg base c TC J ys fi fo fl fb di CU dl db) :
  zX P w K mg base aC 7 f fd ["self"] (ll K c TC J ys):=by
 refine F.ok Ek (fun vs H Q E h=>?_) (fun cdv A outer s H vs Q E hr h=>?_)
 ·obtain⟨a,s,rfl,_⟩:=h
  rfl
 ·obtain⟨a,st,rfl,hI,q⟩:=h
  have AI:Ah 1 _:=hr.mono (by decide)
  have Bv:Ah 2 _:=hr.mono (by decide)
  have CT:Ah 4 _:=hr.mono (by decide)
  refine⟨_,af (aE (i:=1) Ek.nd rfl (Or.inl rfl) (aV ad))
   (af (bv PassesOwn.never rfl (aL rfl T.range (aa (az aw rfl T.len PySem.boot_len (aa (al (pv 0) rfl) ad)) ad)) (au (i:=2) Ek.nd rfl (Or.inl rfl)) (ah (aK (cu plainAttrs_list slot_list_extend type_list_extend fR (pv 1) (aa (aA (pv 0) Y.cl M.mi M.Gi CT M.bi .nil ap (aa (pv 2) ad)) ad)))))
   (af (bv PassesOwn.never rfl (aL rfl T.range (aa (az aw rfl T.len PySem.boot_len (aa (al (pv 0) rfl) ad)) ad)) (au (i:=3) Ek.nd rfl (Or.inl rfl)) (ah (aK (cu plainAttrs_list slot_list_extend type_list_extend fR (pv 1) (aa (aA (pv 0) Y.cl M.mo M.Go hr M.bo .nil ap (aa (pv 3) ad)) ad)))))
   (af (bv PassesOwn.never rfl (aL rfl T.range (aa (az aw rfl T.len PySem.boot_len (aa (al (pv 0) rfl) ad)) ad)) (au (i:=3) Ek.nd rfl (Or.inl rfl)) (ah (aK (cu plainAttrs_list slot_list_extend type_list_extend fR (pv 1) (aa (aA (pv 0) Y.cl M.ml M.Gl Bv M.bl .nil ap (aa (pv 3) ad)) ad)))))
   (af (bv PassesOwn.never rfl (aL rfl T.range (aa (az aw rfl T.len PySem.boot_len (aa (al (pv 0) rfl) ad)) ad)) (au (i:=3) Ek.nd rfl (Or.inl rfl)) (ah (aK (cu plainAttrs_list slot_list_extend type_list_extend fR (pv 1) (aa (aA (pv 0) Y.cl M.mb M.Gb AI M.bb .nil ap (aa (pv 3) ad)) ad)))))
   (ah (ar (pv 1))))))),?_⟩
  have hlet:=hI.G.AZ
  have FO:st.lanes.length <= 40:=by rw[hI.G.lanes];exact hI.T.AZ
  refine⟨zero_le _,fun Fd J9=>?_⟩
  have s0:=(zW.refl H).new (o := .lst []) J9
  have g0:(upd H Fd (.lst [])) Fd=some (.lst []):=ac
  show cv 1 (V.ref Fd) _ _ _
  generalize upd H Fd (.lst [])=H0 at s0 g0 ⊢
  have Sz:∃ vs,zW H H0/\H0 Fd=some (.lst vs)/\Paired (Bq H0) vs (([]:List Mv).map fV):=⟨[],s0,g0, .nil⟩
  obtain⟨Ez,Xl,g0',p0'⟩:=Sz
  have Xm:=(hI.same W Xl).Y
  obtain⟨Xn,gl0,pl0⟩:=Xm.hle
  have S0:Xn.length=st.U.length:=Paired.length pl0
  refine⟨_,rfl,a.y,ys.zY,a.dy,_,_,rfl,Xm.ins,Y.cl,Y.n4,rfl,a.le,_,rfl, .inl (Aa.of gl0),((Xn.length:Nat):Int),rfl,by omega,by omega,?_⟩
  rw[toNat_natCast,S0]
  refine aY (n:=st.U.length) (fun i σ H2=>∃ a2 a3:Option V,(∃ vs,zW H H2/\H2 Fd=some (.lst vs)/\Paired (Bq H2) vs (((List.range i).flatMap (iH a st)).map fV))/\σ=[some (.ref a.y),some (.ref Fd),a2,a3]) ?_ ?_ ?_
  ·exact⟨_,_,⟨Ez,Xl,g0',by simpa using p0'⟩,rfl⟩
  ·rintro i σ H2 hi ⟨a2,a3,⟨vs,s2,g2,p2⟩,rfl⟩
   rw[zero_add]
   have CN:=hI.same W s2
   refine⟨_,rfl, .inl ⟨rfl,_,Aa.of g2⟩,_,rfl,a.y,a.dy,_,rfl,CN.Y.ins,rfl,_,rfl,a,st,i,rfl,CN,hi,fun D Ay H3 s3 hD gD hp=>?_⟩
   have l1:vs.length <= 1000000:=by
    rw[Paired.length p2,length_map]
    have h0:=bj (dZ hI.O hI.G) st.U.length
    have h1:=bj (dY (s:=st) hI.O) st.lanes.length
    have h2:=bj (cU a st) st.lanes.length
    have hh:=bj (dZ hI.O hI.G) i
    try simp only[length_append]
    omega
   have l2:Ay.length <= 1000:=by rw[Paired.length hp,length_map];exact(dZ hI.O hI.G) i
   obtain⟨q1,q2,q3⟩:=jj J9 s2 g2 p2 s3 hp
   refine⟨Fd,D,vs,Ay,rfl,rfl,s3 _ _ g2,gD,by rw[sizeLine_eq];omega,?_⟩
   refine⟨_,_,⟨vs ++ Ay,q1,q2,?_⟩,rfl⟩
   rw[eB]
   exact q3
  rintro σ0 H1 ⟨a20,a30,inv1,rfl⟩
  obtain⟨vs1,Xo,g1',p1'⟩:=inv1
  have Bb:=(hI.same W Xo).Y
  obtain⟨Xp,Pq,Sj⟩:=Bb.Bf
  have S4:Xp.length=st.lanes.length:=Paired.length Sj
  refine⟨_,rfl,a.y,ys.zY,a.dy,_,_,rfl,Bb.ins,Y.cl,Y.n3,rfl,a.la,_,rfl, .inl (Aa.of Pq),((Xp.length:Nat):Int),rfl,by omega,by omega,?_⟩
  rw[toNat_natCast,S4]
  refine aY (n:=st.lanes.length) (fun i σ H2=>∃ a2 a3:Option V,(∃ vs,zW H H2/\H2 Fd=some (.lst vs)/\Paired (Bq H2) vs ((((List.range st.U.length).flatMap (iH a st)) ++ (List.range i).flatMap (iX a st)).map fV))/\σ=[some (.ref a.y),some (.ref Fd),a2,a3]) ?_ ?_ ?_
  ·exact⟨_,_,⟨vs1,Xo,g1',by simpa using p1'⟩,rfl⟩
  ·rintro i σ H2 hi ⟨a2,a3,⟨vs,s2,g2,p2⟩,rfl⟩
   rw[zero_add]
   have CN:=hI.same W s2
   refine⟨_,rfl, .inl ⟨rfl,_,Aa.of g2⟩,_,rfl,a.y,a.dy,_,rfl,CN.Y.ins,rfl,_,rfl,a,st,i,rfl,CN,hi,fun D Ay H3 s3 hD gD hp=>?_⟩
   have l1:vs.length <= 1000000:=by
    rw[Paired.length p2,length_map]
    have h0:=bj (dZ hI.O hI.G) st.U.length
    have h1:=bj (dY (s:=st) hI.O) st.lanes.length
    have h2:=bj (cU a st) st.lanes.length
    have hh:=bj (dY (s:=st) hI.O) i
    try simp only[length_append]
    omega
   have l2:Ay.length <= 1000:=by rw[Paired.length hp,length_map];exact(dY (s:=st) hI.O) i
   obtain⟨q1,q2,q3⟩:=jj J9 s2 g2 p2 s3 hp
   refine⟨Fd,D,vs,Ay,rfl,rfl,s3 _ _ g2,gD,by rw[sizeLine_eq];omega,?_⟩
   refine⟨_,_,⟨vs ++ Ay,q1,q2,?_⟩,rfl⟩
   rw[eB]
   rw[← append_assoc];exact q3
  rintro σ1 H2 ⟨a21,a31,inv2,rfl⟩
  obtain⟨IF,Xq,g2',p2'⟩:=inv2
  have Bi:=(hI.same W Xq).Y
  obtain⟨Xr,gl2,pl2⟩:=Bi.Bf
  have S5:Xr.length=st.lanes.length:=Paired.length pl2
  refine⟨_,rfl,a.y,ys.zY,a.dy,_,_,rfl,Bi.ins,Y.cl,Y.n3,rfl,a.la,_,rfl, .inl (Aa.of gl2),((Xr.length:Nat):Int),rfl,by omega,by omega,?_⟩
  rw[toNat_natCast,S5]
  refine aY (n:=st.lanes.length) (fun i σ H2=>∃ a2 a3:Option V,(∃ vs,zW H H2/\H2 Fd=some (.lst vs)/\Paired (Bq H2) vs ((((List.range st.U.length).flatMap (iH a st) ++ (List.range st.lanes.length).flatMap (iX a st)) ++ (List.range i).flatMap (fD a st)).map fV))/\σ=[some (.ref a.y),some (.ref Fd),a2,a3]) ?_ ?_ ?_
  ·exact⟨_,_,⟨IF,Xq,g2',by simpa using p2'⟩,rfl⟩
  ·rintro i σ H2 hi ⟨a2,a3,⟨vs,s2,g2,p2⟩,rfl⟩
   rw[zero_add]
   have CN:=hI.same W s2
   refine⟨_,rfl, .inl ⟨rfl,_,Aa.of g2⟩,_,rfl,a.y,a.dy,_,rfl,CN.Y.ins,rfl,_,rfl,a,st,i,rfl,CN,hi,fun D Ay H3 s3 hD gD hp=>?_⟩
   have l1:vs.length <= 1000000:=by
    rw[Paired.length p2,length_map]
    have h0:=bj (dZ hI.O hI.G) st.U.length
    have h1:=bj (dY (s:=st) hI.O) st.lanes.length
    have h2:=bj (cU a st) st.lanes.length
    have hh:=bj (cU a st) i
    try simp only[length_append]
    omega
   have l2:Ay.length <= 1000:=by rw[Paired.length hp,length_map];exact(cU a st) i
   obtain⟨q1,q2,q3⟩:=jj J9 s2 g2 p2 s3 hp
   refine⟨Fd,D,vs,Ay,rfl,rfl,s3 _ _ g2,gD,by rw[sizeLine_eq];omega,?_⟩
   refine⟨_,_,⟨vs ++ Ay,q1,q2,?_⟩,rfl⟩
   rw[eB]
   rw[← append_assoc];exact q3
  rintro σ2 H3 ⟨a22,a32,S9,rfl⟩
  obtain⟨vs3,Xt,g3',p3'⟩:=S9
  have AS:=(hI.same W Xt).Y
  obtain⟨Xu,gl3,pl3⟩:=AS.Bf
  have SA:Xu.length=st.lanes.length:=Paired.length pl3
  refine⟨_,rfl,a.y,ys.zY,a.dy,_,_,rfl,AS.ins,Y.cl,Y.n3,rfl,a.la,_,rfl, .inl (Aa.of gl3),((Xu.length:Nat):Int),rfl,by omega,by omega,?_⟩
  rw[toNat_natCast,SA]
  refine aY (n:=st.lanes.length) (fun i σ H2=>∃ a2 a3:Option V,(∃ vs,zW H H2/\H2 Fd=some (.lst vs)/\Paired (Bq H2) vs ((((List.range st.U.length).flatMap (iH a st) ++ (List.range st.lanes.length).flatMap (iX a st) ++ (List.range st.lanes.length).flatMap (fD a st)) ++ (List.range i).flatMap (dJ st)).map fV))/\σ=[some (.ref a.y),some (.ref Fd),a2,a3]) ?_ ?_ ?_
  ·exact⟨_,_,⟨vs3,Xt,g3',by simpa using p3'⟩,rfl⟩
  ·rintro i σ H2 hi ⟨a2,a3,⟨vs,s2,g2,p2⟩,rfl⟩
   rw[zero_add]
   have CN:=hI.same W s2
   refine⟨_,rfl, .inl ⟨rfl,_,Aa.of g2⟩,_,rfl,a.y,a.dy,_,rfl,CN.Y.ins,rfl,_,rfl,a,st,i,rfl,CN,hi,fun D Ay H3 s3 hD gD hp=>?_⟩
   have l1:vs.length <= 1000000:=by
    rw[Paired.length p2,length_map]
    have h0:=bj (dZ hI.O hI.G) st.U.length
    have h1:=bj (dY (s:=st) hI.O) st.lanes.length
    have h2:=bj (cU a st) st.lanes.length
    have hh:=bj (jE st) i
    try simp only[length_append]
    omega
   have l2:Ay.length <= 1000:=by rw[Paired.length hp,length_map];exact(jE st) i
   obtain⟨q1,q2,q3⟩:=jj J9 s2 g2 p2 s3 hp
   refine⟨Fd,D,vs,Ay,rfl,rfl,s3 _ _ g2,gD,by rw[sizeLine_eq];omega,?_⟩
   refine⟨_,_,⟨vs ++ Ay,q1,q2,?_⟩,rfl⟩
   rw[eB]
   rw[← append_assoc];exact q3
  rintro σ3 H4 ⟨a23,a33,SD,rfl⟩
  obtain⟨vs,s2,g2,p2⟩:=SD
  exact⟨_,rfl,q Fd vs _ s2 J9 g2 p2⟩
structure MF (K:Frag):Prop where
 ss:kitOne K (.type "str") (.type "str")=some true
 ns:kitOne K (.type "int") (.type "str")=some false
 tt:kitOne K (.type "tuple") (.type "tuple")=some true
theorem iW {a b:Str}(h:a ≠ b):decide (V.str a=V.str b)=false:=decide_eq_false fun z=>h (by injection z)
theorem jz (a:Str):decide (V.str a=V.str a)=true:=decide_eq_true rfl
noncomputable def sV:Sp:=fun vs H Q _=>∃ (p:Addr)(xs:List V),vs=[.ref p]/\H p=some (.tup xs)/\xs.length <= 100/\(∀ x ∈ xs,(∃ t,x = .str t)∨∃ i,x = .int i)/\∀ H',zW H H'->Q (.bl true) H'
noncomputable def xp (s:Stmt):Scope:=match s with
 | .Return (some (.BoolOp _ [_, .Call _ [.ListComp _ _ sc _] _ _] _)) _=>sc
 | _=>{ kind := .function,names:=[],isGenerator:=false,isCoroutine:=false }
theorem mY (m:Mv):(fV m).length <= 100/\∀ x ∈ fV m,(∃ t,x=V.str t)∨∃ i,x=V.int i:=by
 cases m<;>refine⟨by simp[fV],fun x hx=>?_⟩<;>simp only[fV,mem_cons,not_mem_nil,or_false]at hx
 ·rcases hx with rfl | rfl | rfl
  ·exact .inl ⟨_,rfl⟩
  ·exact .inr ⟨_,rfl⟩
  ·exact .inr ⟨_,rfl⟩
 ·rcases hx with rfl | rfl | rfl
  ·exact .inl ⟨_,rfl⟩
  ·exact .inr ⟨_,rfl⟩
  ·exact .inr ⟨_,rfl⟩
 ·rcases hx with rfl | rfl
  ·exact .inl ⟨_,rfl⟩
  ·exact .inr ⟨_,rfl⟩
 ·rcases hx with rfl | rfl
  ·exact .inl ⟨_,rfl⟩
  ·exact .inr ⟨_,rfl⟩
noncomputable def qB (a:YA)(s:YS):Mv->List Mv
 | .BR k _=>iH a s k
 | .on k _=>iX a s k
 | .DJ k=>fD a s k
 | .back k=>dJ s k
noncomputable def xQ (s:YS):Mv->Prop
 | .BR k _=>k < s.U.length
 | .on k _=>k < s.lanes.length
 | .DJ k=>k < s.lanes.length
 | .back k=>k < s.lanes.length
noncomputable def sS (K:Frag)(c:Cs)(TC:Addr)(J:TJ)(ys:Ys):Sp:=fun vs H Q _=>∃ (a:YA)(s:YS)(p:Addr)(m:Mv),vs=[.ref a.y, .ref p]/\D4 K c TC J ys H a s/\H p=some (.tup (fV m))/\xQ s m /\
 ∀ (D:Addr)(Ay:List V)(H':Hp),zW H H'->H D=none->H' D=some (.lst Ay)->Paired (Bq H') Ay ((qB a s m).map fV)->Q (.ref D) H'
theorem SE:ao ["move"] ["move"] (ai mH):=L2.Ax
theorem SG:Ba ["move"] (ai mH) (xp ((aG mH).getD 0 (.Pass ⟨0,0,0,0⟩))) [] []:=L2.BI
theorem SH:(["thing"]:List Str).Nodup:=by decide +kernel
theorem wH {f fh:Addr}{fd dh:FuncData}(F:As K "is_move" "is_move" mH f fd)(T:dR mg)(Z:MF K)(mh:mg "is_whole" = some (.ref fh))(kh:keepIn K (.ref fh)=true)(bh:Binds K dh ["value"] [])(G:zX P w K mg base aC 1 fh dh ["value"] gZ) :
  zX P w K mg base aC 2 f fd ["move"] sV:=by
 refine F.ok SE (fun vs H Q E h=>?_) (fun cdv A outer s H vs Q E hr h=>?_)
 ·obtain⟨p,xs,rfl,_⟩:=h
  rfl
 ·obtain⟨p,xs,rfl,hp,hl,hx,q⟩:=h
  refine⟨_,ah (ar (dI (az iA rfl T.Jx PyProof.Rows.boot_isinstance (aa (pv 0) (aa (fP (v := .ty "tuple") rfl T.tuple PySem.Pv.boot_tuple rfl) ad)))
   (dH (az (jW rfl) rfl T.all PyProof.Rows.boot_all (aa (bB (own:=["thing"]) (capN:=[]) (cap:=[]) SG rfl (lB (pv 0)) (fun C s' H' fp=>⟨au (i:=0) SH rfl (Or.inl rfl),bE,
    Kd (az (show eD _ (.builtin "isinstance") (Lb K) from iA) rfl T.Jx PyProof.Rows.boot_isinstance (aa (pv 0) (aa (fP (v := .ty "str") rfl T.str PySem.Pv.boot_str rfl) ad))) (dH (aq G hr rfl mh kh bh .nil ap (aa (pv 0) ad)))⟩)) ad))))),?_⟩
  refine⟨_,rfl, .ref p,_, "tuple",true,rfl, .tup hp,Z.tt,true,rfl,aN ⟨_,rfl,p,rfl,⟨_,Af.of hp⟩,?_⟩⟩
  refine bK xs.length (by rw[sizeLine_eq];omega) (fun i acc H'=>H' = H/\acc=(List.replicate i true).map V.bl) ⟨rfl,rfl⟩ (fun i acc H' h=>by rw[h.2];simp) (fun i acc H' hi h=>?_) (fun acc H' h=>?_)
  ·obtain⟨rfl,rfl⟩:=h
   refine⟨⟨xs,xs[i],Af.of hp,List.getElem?_eq_getElem hi⟩,fun v H2 y=>?_⟩
   obtain⟨rfl,y⟩:=y
   have hv:=y xs (Af.of hp)
   have e:(List.replicate i true).map V.bl ++ [V.bl true]=(List.replicate (i + 1) true).map V.bl:=by rw[List.replicate_succ',map_append];rfl
   rcases hx v (mem_of_getElem? hv) with ⟨t,rfl⟩ | ⟨z,rfl⟩
   ·exact⟨_,rfl, .str t,_, "str",true,rfl, .str t,Z.ss,true,rfl,aN ⟨rfl,e⟩⟩
   ·exact⟨_,rfl, .int z,_, "str",false,rfl, .int z,Z.ns,false,rfl,aJ ⟨_,rfl, .int z,rfl, .int z,rfl,e⟩⟩
  ·obtain⟨rfl,rfl⟩:=h
   refine⟨⟨xs,Af.of hp,le_refl _⟩,fun D hD=>⟨D,List.replicate xs.length true,rfl,Aa.of ac,?_⟩⟩
   have e:(List.replicate xs.length true).all id=true:=by rw[all_eq_true];intro b hb;rw[eq_of_mem_replicate hb];rfl
   rw[e]
   exact q _ ((zW.refl H').new hD)
theorem SI:ao ["self", "move"] ["self", "move"] (ai tM):=L2.Ax
theorem wF {c:Cs}{ys:Ys}{J:TJ}{TC f fw fi fo fl fb fm fn:Addr}{fd dw di CU dl db dm dn:FuncData}(F:As K "moves_like" "Yard.moves_like" tM f fd)(T:dR mg)(Y:gj K ys)(W:Wy K TC fw dw J)(M:Sy P w K mg base c TC J ys fi fo fl fb di CU dl db)
  (mm:mg "is_move" = some (.ref fm)) (km:keepIn K (.ref fm)=true) (bm:Binds K dm ["move"] []) (Gm:zX P w K mg base aC 2 fm dm ["move"] sV)
  (mn:mg "is_within" = some (.ref fn)) (kn:keepIn K (.ref fn)=true) (bn:Binds K dn ["value", "least", "most"] []) (Gn:zX P w K mg base aC 2 fn dn ["value", "least", "most"] fM) :
  zX P w K mg base aC 7 f fd ["self", "move"] (sS K c TC J ys):=by
 refine F.ok SI (fun vs H Q E h=>?_) (fun cdv A outer s H vs Q E hr h=>?_)
 ·obtain⟨a,s,p,m,rfl,_⟩:=h
  rfl
 ·obtain⟨a,st,p,m,rfl,hI,hp,Ad,q⟩:=h
  have AI:Ah 1 _:=hr.mono (by decide)
  have Bv:Ah 2 _:=hr.mono (by decide)
  have CT:Ah 4 _:=hr.mono (by decide)
  refine⟨_,af (aO (jf (PW.pt (j5 (cj (bQ (aq Gm Bv rfl mm km bm .nil ap (aa (pv 1) ad)))) (gF (ax qt (az aw rfl T.len PySem.boot_len (aa (pv 1) ad)) aj (aB _)))))) (ah (ar (aV ad))) aH)
   (af (aO (ax bG (av aF (pv 1) aj (fun _ _=>rfl)) bC (aB _))
    (ah (ar (dv (bQ (aq Gn Bv rfl mn kn bn .nil ap (aa (av aF (pv 1) aj (fun _ _=>rfl)) (aa aj (aa (aD eP (az aw rfl T.len PySem.boot_len (aa (al (pv 0) rfl) ad)) aj) ad)))))
     (aA (pv 0) Y.cl M.mi M.Gi CT M.bi .nil ap (aa (av aF (pv 1) aj (fun _ _=>rfl)) ad)) (aV ad)))) aH)
   (af (aO (cj (bQ (aq Gn Bv rfl mn kn bn .nil ap (aa (av aF (pv 1) aj (fun _ _=>rfl)) (aa aj (aa (aD eP (az aw rfl T.len PySem.boot_len (aa (al (pv 0) rfl) ad)) aj) ad)))))) (ah (ar (aV ad))) aH)
   (af (aO (ax bG (av aF (pv 1) aj (fun _ _=>rfl)) bC (aB _)) (ah (ar (aA (pv 0) Y.cl M.mo M.Go hr M.bo .nil ap (aa (av aF (pv 1) aj (fun _ _=>rfl)) ad)))) aH)
   (af (aO (ax bG (av aF (pv 1) aj (fun _ _=>rfl)) bC (aB _)) (ah (ar (aA (pv 0) Y.cl M.ml M.Gl Bv M.bl .nil ap (aa (av aF (pv 1) aj (fun _ _=>rfl)) ad)))) aH)
   (ah (ar (dv (ax bG (av aF (pv 1) aj (fun _ _=>rfl)) bC (aB _)) (aA (pv 0) Y.cl M.mb M.Gb AI M.bb .nil ap (aa (av aF (pv 1) aj (fun _ _=>rfl)) ad)) (aV ad)))))))),?_⟩
  refine⟨fun b H1=>b=false/\zW H H1,?_,?_⟩
  ·refine⟨_,rfl,p,fV m,rfl,hp,(mY m).1,(mY m).2,fun H1 s1=>⟨_,rfl,aJ ?_⟩⟩
   refine⟨_,rfl,p,_,rfl, .inr (Af.of (s1 _ _ hp)),_,_,rfl,rfl,_,rfl,?_,s1⟩
   cases m<;>rfl
  rintro b H1 ⟨rfl,s1⟩
  refine aJ ?_
  have Ej:=hI.same W s1
  have Az:=s1 _ _ hp
  have q1:∀ (D:Addr)(Ay:List V)(H':Hp),zW H1 H'->H1 D=none->H' D=some (.lst Ay)->Paired (Bq H') Ay ((qB a st m).map fV)->Q (.ref D) H':=fun D Ay H' s' hD g' DQ=>q D Ay H' (s1.trans s') (s1.free hD) g' DQ
  have hY:=Ej.Y
  obtain⟨Ag,Bn,ple⟩:=hY.hle
  have hle:Ag.length=st.U.length:=Paired.length ple
  obtain⟨Ai,AX,E5⟩:=hY.Bf
  have Bf:Ai.length=st.lanes.length:=Paired.length E5
  clear s1 q hp hI
  have inl:∀ k:Nat,k < st.lanes.length->kB (.int k) 0 (((Ai.length:Nat):Int) - 1)=true:=fun k hk=>decide_eq_true (by omega)
  cases m with
  | BR k l =>
   have Az:H1 p=some (.tup [.str "in", .int k, .int l]):=Az
   have Ad:k < st.U.length:=Ad
   refine⟨_,rfl,p,_,0,_,rfl,rfl,Af.of Az,ak (j:=0) rfl,rfl,_,rfl,?_⟩
   rw[jz]
   refine aN ⟨_,rfl,p,_,1,_,rfl,rfl,Af.of Az,ak (j:=1) rfl,_,rfl,a.y,ys.zY,a.dy,_,_,rfl,hY.ins,Y.cl,Y.n4,rfl,a.le,_,rfl, .inl (Aa.of Bn),_,_,rfl,rfl, .int k,0,((Ag.length:Nat):Int) - 1,rfl, .int _,_,rfl,?_⟩
   rw[show kB (.int k) 0 (((Ag.length:Nat):Int) - 1)=true from decide_eq_true (by omega)]
   exact aN ⟨_,rfl,a.y,a.dy,_,rfl,hY.ins,rfl,_,rfl,p,_,1,_,rfl,rfl,Af.of Az,ak (j:=1) rfl,a,st,k,rfl,Ej,Ad,fun D Ay H' s' hD g' DQ=>q1 D Ay H' s' hD g' DQ⟩
  | on k l =>
   have Az:H1 p=some (.tup [.str "on", .int k, .int l]):=Az
   have Ad:k < st.lanes.length:=Ad
   refine⟨_,rfl,p,_,0,_,rfl,rfl,Af.of Az,ak (j:=0) rfl,rfl,_,rfl,?_⟩
   rw[iW (by decide +kernel)]
   refine aJ ⟨_,rfl,p,_,1,_,rfl,rfl,Af.of Az,ak (j:=1) rfl,_,rfl,a.y,ys.zY,a.dy,_,_,rfl,hY.ins,Y.cl,Y.n3,rfl,a.la,_,rfl, .inl (Aa.of AX),_,_,rfl,rfl, .int k,0,((Ai.length:Nat):Int) - 1,rfl, .int _,_,rfl,?_⟩
   rw[inl k Ad]
   refine aJ ⟨_,rfl,p,_,0,_,rfl,rfl,Af.of Az,ak (j:=0) rfl,rfl,_,rfl,?_⟩
   rw[jz]
   exact aN ⟨_,rfl,a.y,a.dy,_,rfl,hY.ins,rfl,_,rfl,p,_,1,_,rfl,rfl,Af.of Az,ak (j:=1) rfl,a,st,k,rfl,Ej,Ad,fun D Ay H' s' hD g' DQ=>q1 D Ay H' s' hD g' DQ⟩
  | DJ k =>
   have Az:H1 p=some (.tup [.str "lie", .int k]):=Az
   have Ad:k < st.lanes.length:=Ad
   refine⟨_,rfl,p,_,0,_,rfl,rfl,Af.of Az,ak (j:=0) rfl,rfl,_,rfl,?_⟩
   rw[iW (by decide +kernel)]
   refine aJ ⟨_,rfl,p,_,1,_,rfl,rfl,Af.of Az,ak (j:=1) rfl,_,rfl,a.y,ys.zY,a.dy,_,_,rfl,hY.ins,Y.cl,Y.n3,rfl,a.la,_,rfl, .inl (Aa.of AX),_,_,rfl,rfl, .int k,0,((Ai.length:Nat):Int) - 1,rfl, .int _,_,rfl,?_⟩
   rw[inl k Ad]
   refine aJ ⟨_,rfl,p,_,0,_,rfl,rfl,Af.of Az,ak (j:=0) rfl,rfl,_,rfl,?_⟩
   rw[iW (by decide +kernel)]
   refine aJ ⟨_,rfl,p,_,0,_,rfl,rfl,Af.of Az,ak (j:=0) rfl,rfl,_,rfl,?_⟩
   rw[jz]
   exact aN ⟨_,rfl,a.y,a.dy,_,rfl,hY.ins,rfl,_,rfl,p,_,1,_,rfl,rfl,Af.of Az,ak (j:=1) rfl,a,st,k,rfl,Ej,Ad,fun D Ay H' s' hD g' DQ=>q1 D Ay H' s' hD g' DQ⟩
  | back k =>
   have Az:H1 p=some (.tup [.str "back", .int k]):=Az
   have Ad:k < st.lanes.length:=Ad
   refine⟨_,rfl,p,_,0,_,rfl,rfl,Af.of Az,ak (j:=0) rfl,rfl,_,rfl,?_⟩
   rw[iW (by decide +kernel)]
   refine aJ ⟨_,rfl,p,_,1,_,rfl,rfl,Af.of Az,ak (j:=1) rfl,_,rfl,a.y,ys.zY,a.dy,_,_,rfl,hY.ins,Y.cl,Y.n3,rfl,a.la,_,rfl, .inl (Aa.of AX),_,_,rfl,rfl, .int k,0,((Ai.length:Nat):Int) - 1,rfl, .int _,_,rfl,?_⟩
   rw[inl k Ad]
   refine aJ ⟨_,rfl,p,_,0,_,rfl,rfl,Af.of Az,ak (j:=0) rfl,rfl,_,rfl,?_⟩
   rw[iW (by decide +kernel)]
   refine aJ ⟨_,rfl,p,_,0,_,rfl,rfl,Af.of Az,ak (j:=0) rfl,rfl,_,rfl,?_⟩
   rw[iW (by decide +kernel)]
   refine aJ ⟨_,rfl,p,_,0,_,rfl,rfl,Af.of Az,ak (j:=0) rfl,rfl,_,rfl,?_⟩
   rw[jz]
   exact aN ⟨_,rfl,a.y,a.dy,_,rfl,hY.ins,rfl,_,rfl,p,_,1,_,rfl,rfl,Af.of Az,ak (j:=1) rfl,a,st,k,rfl,Ej,Ad,fun D Ay H' s' hD g' DQ=>q1 D Ay H' s' hD g' DQ⟩
noncomputable def cy (ln:cz):cz:={ ln with b:=ln.b + 1,qs:=ln.qs.tail }
noncomputable def xP (ln:cz):cz:={ ln with r:=ln.r + 1,b:=ln.b - 1 }
inductive CV (a:YA)(s:YS):Mv->YS->Prop
 | BR {k l:Nat} {t:cp} {ln:cz} (ht:s.U[k]? = some t) (hg:t.gone ≠ t.len) (hl:l ∈ dB a t) (AK:s.lanes[l]? = some ln) (ho:cx ln.r ln.h k t.gone=true) :
  CV a s (.BR k l) (dL (iU s k t) k t.gone l { t with gone:=t.gone + 1 } ln)
 | on {k l m:Nat} {c:Int} {lk ln:cz} {t:cp} (hk:s.lanes[k]? = some lk) (hq:lk.qs.head? = some ((m:Int),c)) (ht:s.U[m]? = some t) (hl:l ∈ dF a s k) (AK:(s.lanes.set k (cy lk))[l]? = some ln) (ho:cx ln.r ln.h m c=true) :
  CV a s (.on k l) (dL { s with lanes:=s.lanes.set k (cy lk) } m c l t ln)
 | DJ {k m e:Nat} {c:Int} {lk:cz} {t:cp} {qs:List (Int × Int)} (hk:s.lanes[k]? = some lk) (hq:lk.qs.head? = some ((m:Int),c)) (ht:s.U[m]? = some t) (hg:t.goal=(e:Int)) (he:(a.ps.getD k (0,0)).2=(e:Int)) (C2:s.lies[e]? = some qs) :
  CV a s (.DJ k) { s with lanes:=s.lanes.set k (cy lk),lies:=s.lies.set e (qs ++ [((m:Int),c)]) }
 | back {k:Nat} {lk:cz} (hk:s.lanes[k]? = some lk) (hb:0 < lk.b):CV a s (.back k) { s with lanes:=s.lanes.set k (xP lk) }
theorem CV.done {a:YA}{s s':YS}{m:Mv}(h:CV a s m s'):s'.done=s.done:=by
 cases h<;>rfl
structure SJ (s:YS):Prop where
 q:∀ (k:Nat)(ln:cz),s.lanes[k]? = some ln->ln.qs.length <= 10000
 l:∀ (p:Nat)(qs:List (Int × Int)),s.lies[p]? = some qs->qs.length <= 10000
 d:s.done.length <= 100000
theorem jA {s:YS}{l:Nat}{m c:Int}(h:fZ s l m c=true):∃ ln,s.lanes[l]? = some ln/\cx ln.r ln.h m c=true:=by
 unfold fZ at h
 cases hl:s.lanes[l]? with
 | none=>rw[hl]at h;cases h
 | some ln=>rw[hl]at h;exact⟨ln,rfl,h⟩
theorem uR {a:YA}{s:YS}{k:Nat}{m:Mv}(h:m ∈ iH a s k):∃ l t ln,m = .BR k l/\s.U[k]? = some t/\t.gone ≠ t.len/\l ∈ dB a t/\s.lanes[l]? = some ln/\cx ln.r ln.h k t.gone=true:=by
 unfold iH at h
 cases ht:s.U[k]? with
 | none=>rw[ht]at h;cases h
 | some t =>
  rw[ht]at h
  dsimp only at h
  by_cases hg:t.gone=t.len
  ·rw[if_pos hg]at h;cases h
  rw[if_neg hg]at h
  obtain⟨l,hl,rfl⟩:=mem_map.mp h
  obtain⟨h1,h2⟩:=mem_filter.mp hl
  obtain⟨ln,h3,h4⟩:=jA h2
  exact⟨l,t,ln,rfl,rfl,hg,h1,h3,h4⟩
theorem uQ {a:YA}{s:YS}{k:Nat}{m:Mv}(h:m ∈ iX a s k):∃ l q lk ln,m = .on k l/\s.lanes[k]? = some lk/\lk.qs.head? = some q/\l ∈ dF a s k/\s.lanes[l]? = some ln/\cx ln.r ln.h q.1 q.2=true:=by
 unfold iX at h
 cases hq:bZ s k with
 | none=>rw[hq]at h;cases h
 | some q =>
  rw[hq]at h
  dsimp only at h
  obtain⟨l,hl,rfl⟩:=mem_map.mp h
  obtain⟨h1,h2⟩:=mem_filter.mp hl
  obtain⟨ln,h3,h4⟩:=jA h2
  unfold bZ at hq
  cases hk:s.lanes[k]? with
  | none=>rw[hk]at hq;cases hq
  | some lk=>rw[hk]at hq;exact⟨l,q,lk,ln,rfl,rfl,hq,h1,h3,h4⟩
theorem qz {a:YA}{s:YS}{k:Nat}{m:Mv}(h:m ∈ fD a s k):∃ q lk t,m = .DJ k/\s.lanes[k]? = some lk/\lk.qs.head? = some q/\s.U[q.1.toNat]? = some t/\t.goal=(a.ps.getD k (0,0)).2:=by
 unfold fD at h
 cases hq:bZ s k with
 | none=>rw[hq]at h;cases h
 | some q =>
  rw[hq]at h
  dsimp only at h
  cases ht:s.U[q.1.toNat]? with
  | none=>rw[ht]at h;cases h
  | some t =>
   rw[ht]at h
   dsimp only at h
   by_cases hg:t.goal=(a.ps.getD k (0,0)).2
   ·rw[if_pos hg]at h
    have hm:m = .DJ k:=by simpa using h
    unfold bZ at hq
    cases hk:s.lanes[k]? with
    | none=>rw[hk]at hq;cases hq
    | some lk=>rw[hk]at hq;exact⟨q,lk,t,hm,rfl,hq,ht,hg⟩
   ·rw[if_neg hg]at h;cases h
theorem nj {s:YS}{k:Nat}{m:Mv}(h:m ∈ dJ s k):∃ lk,m = .back k/\s.lanes[k]? = some lk/\0 < lk.b:=by
 unfold dJ at h
 cases hk:s.lanes[k]? with
 | none=>rw[hk]at h;cases h
 | some lk =>
  rw[hk]at h
  dsimp only at h
  by_cases hb:0 < lk.b
  ·rw[if_pos hb]at h;exact⟨lk,by simpa using h,rfl,hb⟩
  ·rw[if_neg hb]at h;cases h
theorem rG {a:YA}{s:YS}{m:Mv}(h:m ∈ bS a s):xQ s m/\m ∈ qB a s m:=by
 unfold bS at h
 rw[mem_append,mem_append,mem_append]at h
 rcases h with ((h | h) | h) | h
 ·obtain⟨k,hk,h⟩:=mem_flatMap.mp h
  obtain⟨l,t,ln,rfl,_⟩:=uR h
  exact⟨mem_range.mp hk,h⟩
 ·obtain⟨k,hk,h⟩:=mem_flatMap.mp h
  obtain⟨l,q,lk,ln,rfl,_⟩:=uQ h
  exact⟨mem_range.mp hk,h⟩
 ·obtain⟨k,hk,h⟩:=mem_flatMap.mp h
  obtain⟨q,lk,t,rfl,_⟩:=qz h
  exact⟨mem_range.mp hk,h⟩
 ·obtain⟨k,hk,h⟩:=mem_flatMap.mp h
  obtain⟨lk,rfl,_⟩:=nj h
  exact⟨mem_range.mp hk,h⟩
noncomputable def si:Mv->PyData
 | .BR k l => .tuple [.str "in", .int k, .int l]
 | .on k l => .tuple [.str "on", .int k, .int l]
 | .DJ k => .tuple [.str "lie", .int k]
 | .back k => .tuple [.str "back", .int k]
theorem fN {x:Str}(h:PyData.strOk x=true):BD (.str x) 0:=⟨by simp[PyData.canLay0,h],by simp[PyData.depth]⟩
theorem jx (m:Mv):BD (si m) 1:=by
 cases m<;>refine c5 (m:=0) fun y hy=>?_<;>simp only[mem_cons,not_mem_nil,or_false]at hy
 ·rcases hy with rfl | rfl | rfl
  ·exact fN (by decide +kernel)
  ·exact bL _
  ·exact bL _
 ·rcases hy with rfl | rfl | rfl
  ·exact fN (by decide +kernel)
  ·exact bL _
  ·exact bL _
 ·rcases hy with rfl | rfl
  ·exact fN (by decide +kernel)
  ·exact bL _
 ·rcases hy with rfl | rfl
  ·exact fN (by decide +kernel)
  ·exact bL _
theorem vm {K:Frag}{H:Hp}{p:Addr}(m:Mv)(h:H p=some (.tup (fV m))):ke K H (.ref p) (si m):=by
 cases m<;>refine .tup (Af.of h) ?_
 ·exact .cons (.str _) (.cons (.int _) (.cons (.int _) .nil))
 ·exact .cons (.str _) (.cons (.int _) (.cons (.int _) .nil))
 ·exact .cons (.str _) (.cons (.int _) .nil)
 ·exact .cons (.str _) (.cons (.int _) .nil)
theorem i7 {K:Frag}{H:Hp}:∀ {vs:List V}{ms:List Mv},Paired (Bq H) vs (ms.map fV)->gN K H vs (ms.map si)
 | [],[],_ => .nil
 | _ :: _,m :: ms, .cons ⟨t,e,h⟩ r=>by subst e;exact .cons (vm m h) (i7 r)
 | [],_ :: _,h=>by cases h
 | _ :: _,[],h=>by cases h
theorem zP {m:Mv}{ms:List Mv}(h:m ∈ ms):((ms.map si).any fun y=>PyData.eqv y (si m))=true:=by
 rw[List.any_eq_true]
 exact⟨si m,mem_map.mpr ⟨m,h,rfl⟩,SeqAt.eqv_refl _ (jx m).1⟩
noncomputable def MG (K:Frag)(c:Cs)(TC:Addr)(J:TJ)(ys:Ys):Sp:=fun vs H Q _=>∃ (a:YA)(s:YS)(p:Addr)(m:Mv),vs=[.ref a.y, .ref p]/\D4 K c TC J ys H a s/\H p=some (.tup (fV m))/\m ∈ bS a s/\SJ s /\
 ∀ (H':Hp)(s':YS),CV a s m s'->Ae a.four H H'->AJ K ys H' a { s' with done:=s.done ++ [fV m] }->Q .An H'
structure Xv (P:Program)(w:World)(K:Frag)(mg:Str->Option Value)(base:Heap)(c:Cs)(TC:Addr)(J:TJ)(ys:Ys)(nm:Addr)(fk fg fe fp fb fy:Addr)(dk dg de dp db dy:FuncData):Prop where
 mk':bz K ys.zY "moves_like" fk
 bk:Binds K dk ["self", "move"] []
 Gk:zX P w K mg base aC 7 fk dk ["self", "move"] (sS K c TC J ys)
 mg':bz K ys.zY "go_in" fg
 bg:Binds K dg ["self", "number", "lane"] []
 Gg:zX P w K mg base aC 6 fg dg ["self", "number", "lane"] (sY K ys)
 me:bz K ys.zY "enter" fe
 be:Binds K de ["self", "piece", "lane"] []
 Ge:zX P w K mg base aC 5 fe de ["self", "piece", "lane"] (lm K ys)
 mp:bz K ys.Au "pull" fp
 bp:Binds K dp ["self"] []
 Gp:zX P w K mg base (eE P w) 1 fp dp ["self"] (o0 ys.Au nm)
 mb:bz K ys.Au "bring" fb
 bb:Binds K db ["self"] []
 Gb:zX P w K mg base (eE P w) 1 fb db ["self"] (qf ys.Au nm)
 my:bz K ys.zY "lay" fy
 Pr:Binds K dy ["self", "piece", "place"] []
 Gy:zX P w K mg base aC 1 fy dy ["self", "piece", "place"] (xH K ys)
theorem SK:ao ["self", "move"] ["self", "move"] (ai R0):=L2.Ax
theorem MH {c:Cs}{ys:Ys}{J:TJ}{TC nm f fw fl ft fpu fk fg fe fp fb fy Xw:Addr}{fd dw dl dt dpu dk dg de dp db dy den:FuncData}(F:As K "do" "Yard.do" R0 f fd)(Y:gj K ys)(L:lY K c)(W:Wy K TC fw dw J)(Ex:L6 K mg nm)(O:Own P w K mg base ys nm fl ft fpu dl dt dpu)
  (D:Xv P w K mg base c TC J ys nm fk fg fe fp fb fy dk dg de dp db dy) (Me:xy K c Xw den) (Gen:zX P w K mg base aC 1 Xw den ["self", "lane"] (oF c Prod.snd)) :
  zX P w K mg base (eE P w) 8 f fd ["self", "move"] (MG K c TC J ys):=by
 refine F.Fl SK (fun vs H Q E h=>?_) (fun cdv A outer s H vs Q E hr h=>?_)
 ·obtain⟨a,s,p,m,rfl,_⟩:=h
  rfl
 ·obtain⟨a,st,p,m,rfl,hI,hp,hm,hS,q⟩:=h
  have hu:=hr.units
  have AI:Ah 1 _:=hr.mono (by decide)
  have CT:Ah 4 _:=hr.mono (by decide)
  have Fu:Ah 5 _:=hr.mono (by decide)
  have hr6:Ah 6 _:=hr.mono (by decide)
  refine⟨_,af (aO (ax (rn hu) (pv 1) (aA (pv 0) Y.cl D.mk' D.Gk hr D.bk .nil ap (aa (pv 1) ad)) (by with_unfolding_all rfl)) (ah (bF rfl Ex.x aP (cf Ex.x Ex.k rfl rfl Ex.m (aa bC ad)))) aH)
   (af (im (aO (ax bG (av aF (pv 1) aj (fun _ _=>rfl)) bC (aB _))
    (ah (aK (aA (pv 0) Y.cl D.mg' D.Gg hr6 D.bg .nil ap (aa (av aF (pv 1) aj (fun _ _=>rfl)) (aa (av aF (pv 1) aj (fun _ _=>rfl)) ad)))))
    (ah (aO (ax bG (av aF (pv 1) aj (fun _ _=>rfl)) bC (aB _))
     (ah (aK (aA (pv 0) Y.cl D.me D.Ge Fu D.be .nil ap (aa (aT (aA (pv 0) Y.cl O.ml O.Gl CT O.bl .nil ap (aa (av aF (pv 1) aj (fun _ _=>rfl)) ad)) Y.L.cl D.mp D.Gp AI D.bp .nil (BO.passes aP rfl)) (aa (av aF (pv 1) aj (fun _ _=>rfl)) ad)))))
     (ah (aO (ax bG (av aF (pv 1) aj (fun _ _=>rfl)) bC (aB _))
      (ah (aK (aA (pv 0) Y.cl D.my D.Gy AI D.Pr .nil ap (aa (aT (aA (pv 0) Y.cl O.ml O.Gl CT O.bl .nil ap (aa (av aF (pv 1) aj (fun _ _=>rfl)) ad)) Y.L.cl D.mp D.Gp AI D.bp .nil (BO.passes aP rfl)) (aa (aA (al (al (pv 0) rfl) rfl) L.cl Me.m Gen AI Me.b .nil ap (aa (av aF (pv 1) aj (fun _ _=>rfl)) ad)) ad)))))
      (ah (aK (aT (aA (pv 0) Y.cl O.ml O.Gl CT O.bl .nil ap (aa (av aF (pv 1) aj (fun _ _=>rfl)) ad)) Y.L.cl D.mb D.Gb AI D.bb .nil (BO.passes aP rfl))))))))))
   (ah (aK (cu plainAttrs_list PySem.F.slot_list_append PySem.F.type_list_append b7 (al (pv 0) rfl) (aa (pv 1) ad))))),?_⟩
  obtain⟨Ad,DK⟩:=rG hm
  refine⟨_,rfl,_,rfl,a.y,a.dy,_,rfl,hI.Y.ins,rfl,_,rfl,a,st,p,m,rfl,hI,hp,Ad,fun Dl Ay H1 s1 hDl gDl hpr=>?_⟩
  refine⟨Dl,Ay,si m,(qB a st m).map si,rfl,vm m (s1 _ _ hp),Aa.of gDl,i7 hpr,(jx m).le (by decide),fun z hz=>by obtain⟨m',_,rfl⟩:=mem_map.mp hz;exact(jx m').le (by decide),_,rfl,?_⟩
  rw[zP DK]
  refine aJ ?_
  have Ej:=hI.same W s1
  have Az:=s1 _ _ hp
  have hY:=Ej.Y
  refine⟨fun σ' H'=>σ' = start ["self", "move"] [.ref a.y, .ref p]/\∃ s',CV a st m s'/\Ae a.four H1 H'/\AJ K ys H' a s',?_,?_⟩
  ·
   have EY:∀ (k:Nat)(lk:cz)(pq:Int × Int),st.lanes[k]? = some lk->lk.qs.head? = some pq->∀ (Ai:List V),H1 a.la=some (.lst Ai)->∀ (x dx pa:Addr)(Al:List V)(H2:Hp),Ae [a.la] H1 H2->H1 x=none->H1 pa=none->H2 a.la=some (.lst (Ai.set k (.ref x)))->Ar H2 ys.Au x dx pa lk.r lk.b lk.h Al lk.qs ->
     ∀ (Q':VK)(E':XK),(∀ (v:V)(H3:Hp),xx H3 v pq->Ae [a.la] H1 H3->AJ K ys H3 a { st with lanes:=st.lanes.set k (cy lk) }->Q' v H3)->o0 ys.Au nm [.ref x] H2 Q' E':=by
    intro k lk pq hk hq Ai AX x dx pa Al H2 o2 nx np g2 Cn Q' E' hQ
    refine⟨x,dx,pa,lk.r,lk.b,lk.h,Al,lk.qs,rfl,Cn,fun e0=>?_,fun v rest ev H3 o3 CK=>?_⟩
    ·exfalso
     have hl:=Paired.length Cn.Bp
     rw[e0]at hl
     cases C2:lk.qs with
     | nil=>rw[C2]at hq;cases hq
     | cons _ _=>rw[C2]at hl;cases hl
    ·have o4:Ae [a.la] H1 H3:=fun b o nb e=>o3 b o (ag e nx) (ag e np) (o2 b o nb e)
     refine hQ v H3 ?_ o4 (AJ.CM hY AX o4 (k:=k) (x:=x) (dx:=dx) (pa:=pa) (o3 _ _ (ag AX nx) (ag AX np) g2) (ln:=cy lk) CK np)
     have hz:=Bz.Dy o3 Cn.ins Cn.lst Cn.Bp
     rw[ev]at hz
     cases C2:lk.qs with
     | nil=>rw[C2]at hq;cases hq
     | cons q0 r0 =>
      rw[C2]at hq hz
      cases hq
      cases hz with
      | cons z _=>exact z
   obtain⟨Ai,AX,E5⟩:=hY.Bf
   have p3:∀ {H3:Hp}{ex:List Addr}{xs:List V},H1 p=some (.tup xs)->Ae ex H1 H3->(∀ b ∈ ex,b ∈ a.four)->H3 p=some (.tup xs):=fun h o he=>o _ _ (fun z=>by obtain⟨xs,hz⟩:=hY.B8 _ (he _ z);rw[h]at hz;cases hz) h
   cases m with
   | BR k l =>
    have Az:H1 p=some (.tup [.str "in", .int k, .int l]):=Az
    obtain⟨l',t,ln,e0,ht,hg,hl,AK,ho⟩:=uR (show Mv.BR k l ∈ iH a st k from DK)
    cases e0
    refine⟨_,rfl,p,_,0,_,rfl,rfl,Af.of Az,ak (j:=0) rfl,rfl,_,rfl,?_⟩
    rw[jz]
    refine aN ⟨_,rfl,a.y,a.dy,_,rfl,hY.ins,rfl,_,rfl,p,_,1,_,rfl,rfl,Af.of Az,ak (j:=1) rfl,_,rfl,p,_,2,_,rfl,rfl,Af.of Az,ak (j:=2) rfl,a,st,k,l,t,ln,rfl,hY,ht,AK,ho,(hI.G.Bc k t ht).2,lt_of_le_of_lt (hS.q l ln AK) (by decide),fun H' o' ID=>⟨rfl,_,CV.BR ht hg hl AK ho,o'.mono (by simp),ID⟩⟩
   | on k l =>
    have Az:H1 p=some (.tup [.str "on", .int k, .int l]):=Az
    obtain⟨l',pq,lk,ln,e0,hk,hq,hl,AK,ho⟩:=uQ (show Mv.on k l ∈ iX a st k from DK)
    cases e0
    obtain⟨m,t,em,ht,IJ⟩:=hI.G.Bp k lk hk pq (mem_of_head? hq)
    obtain⟨m0,cq⟩:=pq
    have em:m0=(m:Int):=em
    subst em
    refine⟨_,rfl,p,_,0,_,rfl,rfl,Af.of Az,ak (j:=0) rfl,rfl,_,rfl,?_⟩
    rw[iW (by decide +kernel)]
    refine aJ ⟨_,rfl,p,_,0,_,rfl,rfl,Af.of Az,ak (j:=0) rfl,rfl,_,rfl,?_⟩
    rw[jz]
    refine aN ⟨_,rfl,a.y,a.dy,_,rfl,hY.ins,rfl,_,rfl,a.y,a.dy,_,rfl,hY.ins,rfl,_,rfl,p,_,1,_,rfl,rfl,Af.of Az,ak (j:=1) rfl,a,st,k,lk,Ai,rfl,hY,hk,AX,fun x dx pa Al H2 o2 nx np g2 Cn=>⟨x,dx,_,rfl,Cn.ins,rfl,EY k lk _ hk hq Ai AX x dx pa Al H2 o2 nx np g2 Cn _ _ fun v H3 hv o3 AS=>?_⟩⟩
    have Cv:=p3 Az o3 (by simp)
    have Ei:k < st.lanes.length:=(List.getElem?_eq_some_iff.mp hk).1
    obtain⟨ln2,MI,er,eh,eq⟩:∃ ln2,(st.lanes.set k (cy lk))[l]? = some ln2/\ln2.r=ln.r/\ln2.h=ln.h/\ln2.qs.length <= 10000:=by
     by_cases MJ:k=l
     ·subst MJ
      rw[hk]at AK
      cases AK
      refine⟨cy lk,by simp[Ei],rfl,rfl,?_⟩
      have:=hS.q k lk hk
      show lk.qs.tail.length <= 10000
      rw[List.length_tail];omega
     ·exact⟨ln,by rw[List.getElem?_set_ne MJ];exact AK,rfl,rfl,hS.q l ln AK⟩
    have BG:cx ln2.r ln2.h m cq=true:=by rw[er,eh];exact ho
    refine⟨_,rfl,p,_,2,_,rfl,rfl,Af.of Cv,ak (j:=2) rfl,a,{ st with lanes:=st.lanes.set k (cy lk) },v,m,cq,l,t,ln2,rfl,AS,hv,ht,MI,BG,(hI.G.Bc m t ht).2,lt_of_le_of_lt eq (by decide),fun H' o' ID=>⟨rfl,_,CV.on hk hq ht hl MI BG,(o3.mono (by simp)).trans (o'.mono (by simp)),ID⟩⟩
   | DJ k =>
    have Az:H1 p=some (.tup [.str "lie", .int k]):=Az
    obtain⟨pq,lk,t0,e0,hk,hq,HA,hg⟩:=qz (show Mv.DJ k ∈ fD a st k from DK)
    obtain⟨m,t,em,ht,IJ⟩:=hI.G.Bp k lk hk pq (mem_of_head? hq)
    obtain⟨m0,cq⟩:=pq
    have em:m0=(m:Int):=em
    subst em
    have HA:st.U[m]? = some t0:=by rw[← HA];rfl
    rw[ht]at HA
    cases HA
    have Ei:k < st.lanes.length:=(List.getElem?_eq_some_iff.mp hk).1
    have J8:k < a.ps.length:=by rw[← hI.G.lanes];exact Ei
    have he:=List.getElem?_eq_getElem J8
    have HC:a.ps.getD k (0,0)=a.ps[k]:=by rw[getD_eq_getElem?_getD,he];rfl
    obtain⟨e,ee,MC⟩:=hI.O.ends k _ he
    rw[HC,ee]at hg
    have HD:e < st.lies.length:=by rw[hI.G.lies];exact MC
    have C2:=List.getElem?_eq_getElem HD
    refine⟨_,rfl,p,_,0,_,rfl,rfl,Af.of Az,ak (j:=0) rfl,rfl,_,rfl,?_⟩
    rw[iW (by decide +kernel)]
    refine aJ ⟨_,rfl,p,_,0,_,rfl,rfl,Af.of Az,ak (j:=0) rfl,rfl,_,rfl,?_⟩
    rw[iW (by decide +kernel)]
    refine aJ ⟨_,rfl,p,_,0,_,rfl,rfl,Af.of Az,ak (j:=0) rfl,rfl,_,rfl,?_⟩
    rw[jz]
    refine aN ⟨_,rfl,a.y,a.dy,_,rfl,hY.ins,rfl,_,rfl,a.y,a.dy,_,rfl,hY.ins,rfl,_,rfl,p,_,1,_,rfl,rfl,Af.of Az,ak (j:=1) rfl,a,st,k,lk,Ai,rfl,hY,hk,AX,fun x dx pa Al H2 o2 nx np g2 Cn=>⟨x,dx,_,rfl,Cn.ins,rfl,EY k lk _ hk hq Ai AX x dx pa Al H2 o2 nx np g2 Cn _ _ fun v H3 hv o3 AS=>?_⟩⟩
    have Cv:=p3 Az o3 (by simp)
    have Il:vC c TC J H3 a:=Bm.keep W Ej.T (Ae.Ao (fun b hb=>by simp at hb;subst hb;exact⟨_,AX⟩) o3)
    obtain⟨C8,fst,C1,AF,B9⟩:=Il.i
    refine⟨_,rfl,a.y,ys.zY,a.dy,_,_,rfl,AS.ins,Y.cl,Y.n1,rfl,a.tb,TC,C8,fst,_,rfl,C1,W.cl,W.nl,AF,a.lx,a.Aw,_,rfl,Il.l.1,rfl,_,rfl,p,_,1,_,rfl,rfl,Af.of Cv,ak (j:=1) rfl,a.lx,a.Aw,a.lt,(a.n:Int),a.Ag,a.ps,k,_,rfl,Il.l,he,?_⟩
    rw[ee]
    exact⟨a,{ st with lanes:=st.lanes.set k (cy lk) },v,((m:Int),cq),e,_,rfl,AS,hv,C2,le_trans (hS.l e _ C2) (by decide),fun H' o' ID=>⟨rfl,_,CV.DJ hk hq ht hg (by rw[HC,ee]) C2,(o3.mono (by simp)).trans (o'.mono (by simp)),ID⟩⟩
   | back k =>
    have Az:H1 p=some (.tup [.str "back", .int k]):=Az
    obtain⟨lk,e0,hk,hb⟩:=nj (show Mv.back k ∈ dJ st k from DK)
    refine⟨_,rfl,p,_,0,_,rfl,rfl,Af.of Az,ak (j:=0) rfl,rfl,_,rfl,?_⟩
    rw[iW (by decide +kernel)]
    refine aJ ⟨_,rfl,p,_,0,_,rfl,rfl,Af.of Az,ak (j:=0) rfl,rfl,_,rfl,?_⟩
    rw[iW (by decide +kernel)]
    refine aJ ⟨_,rfl,p,_,0,_,rfl,rfl,Af.of Az,ak (j:=0) rfl,rfl,_,rfl,?_⟩
    rw[iW (by decide +kernel)]
    refine aJ ⟨_,rfl,a.y,a.dy,_,rfl,hY.ins,rfl,_,rfl,p,_,1,_,rfl,rfl,Af.of Az,ak (j:=1) rfl,a,st,k,lk,Ai,rfl,hY,hk,AX,fun x dx pa Al H2 o2 nx np g2 Cn=>⟨x,dx,_,rfl,Cn.ins,rfl,x,dx,pa,lk.r,lk.b,lk.h,Al,lk.qs,rfl,Cn,(fun e0=>by rw[e0]at hb;exact absurd hb (by decide)),fun _ H3 o3 CK=>?_⟩⟩
    have o4:Ae [a.la] H1 H3:=fun b o nb e=>o3 b o (ag e nx) (ag e np) (o2 b o nb e)
    exact⟨rfl,_,CV.back hk hb,o4.mono (by simp),AJ.CM hY AX o4 (k:=k) (x:=x) (dx:=dx) (pa:=pa) (o3 _ _ (ag AX nx) (ag AX np) g2) (ln:=xP lk) CK np⟩
  ·rintro σ' H2 ⟨rfl,s',hs,o2,Bi⟩
   obtain⟨AL,Hv,pd⟩:=Bi.BJ
   have Ie:AL.length=st.done.length:=by rw[Paired.length pd,hs.done]
   have Ld:H2 p=some (.tup (fV m)):=o2 _ _ (fun z=>by obtain⟨xs,hz⟩:=hY.B8 _ z;rw[Az]at hz;cases hz) Az
   have hd:=hS.d
   refine⟨_,rfl,a.y,ys.zY,a.dy,_,_,rfl,Bi.ins,Y.cl,Y.n6,rfl, .inl ⟨rfl,_,Aa.of Hv⟩,_,rfl,a.dn,_,_,rfl,rfl,Hv,by rw[sizeLine_eq];omega,?_⟩
   have AS:=Bi.Hs Hv ⟨p,rfl,Ld⟩
   rw[hs.done]at AS
   exact q _ s' hs ((zW.AB s1).trans (o2.trans (cr (by simp)))) AS
theorem fS {α:Type}{L:List α}{k j:Nat}{y z:α}(h:(L.set k y)[j]? = some z):(j=k/\z=y)∨(j ≠ k/\L[j]? = some z):=by
 by_cases e:k=j
 ·subst e
  rw[List.getElem?_set_self']at h
  cases hk:L[k]? with
  | none=>rw[hk]at h;cases h
  | some x=>rw[hk]at h;cases h;exact .inl ⟨rfl,rfl⟩
 ·rw[List.getElem?_set_ne e]at h
  exact .inr ⟨Ne.symm e,h⟩
theorem jc {α:Type}{L:List α}{k:Nat}{x y:α}(h:L[k]? = some x):(L.set k y)[k]? = some y:=by
 have:=(List.getElem?_eq_some_iff.mp h).1
 simp[this]
theorem fq {α:Type}(f:α->Nat):∀ {L:List α}{k:Nat}{x y:α},L[k]? = some x->((L.set k y).map f).sum + f x=(L.map f).sum + f y
 | [],_,_,_,h=>by cases h
 | z :: L,0,x,y,h=>by cases h;simp only[List.set_cons_zero,map_cons,sum_cons];omega
 | z :: L,k + 1,x,y,h=>by
  have:=fq f (L:=L) (k:=k) (x:=x) (y:=y) h
  simp only[List.set_cons_succ,map_cons,sum_cons];omega
theorem jr {α:Type}(f:α->Int):∀ {L:List α}{k:Nat}{x y:α},L[k]? = some x->((L.set k y).map f).sum + f x=(L.map f).sum + f y
 | [],_,_,_,h=>by cases h
 | z :: L,0,x,y,h=>by cases h;simp only[List.set_cons_zero,map_cons,sum_cons];omega
 | z :: L,k + 1,x,y,h=>by
  have:=jr f (L:=L) (k:=k) (x:=x) (y:=y) h
  simp only[List.set_cons_succ,map_cons,sum_cons];omega
noncomputable def n8 (a:YA)(l:Nat):Int:=(a.ps.getD l (0,0)).2
noncomputable def kg (s:YS):Nat:=(s.lanes.map fun ln=>ln.qs.length).sum
noncomputable def js (s:YS):Nat:=(s.lies.map fun qs=>qs.length).sum
noncomputable def gq (s:YS):Int:=(s.U.map fun t=>t.gone).sum
structure Pt (a:YA)(s:YS)(m:Nat)(c:Int):Prop where
 lanes:s.lanes.length=a.ps.length
 lies:s.lies.length=a.n
 AZ:s.U.length <= 60
 D5:a.ps.length <= 40
 lets:∀ (m:Nat)(t:cp),s.U[m]? = some t->∃ x y:Nat,t.start=(x:Int)/\t.goal=(y:Int)/\x < a.n/\y < a.n
 Bc:∀ (m:Nat)(t:cp),s.U[m]? = some t->(∀ l ∈ t.way,l < a.ps.length)/\t.way.Nodup
 Bp:∀ (k:Nat)(ln:cz),s.lanes[k]? = some ln->∀ q ∈ ln.qs,∃ (m:Nat)(t:cp),q.1=(m:Int)/\s.U[m]? = some t/\k ∈ t.way
 Cb:∀ (m:Nat)(t:cp),s.U[m]? = some t->0 <= t.gone/\t.gone <= t.len/\t.len <= 60
 Bj:∀ (m':Nat)(t:cp),s.U[m']? = some t->t.gone=0->t.way=[]/\m' ≠ m
 last:∀ (m:Nat)(t:cp),s.U[m]? = some t->∀ (i l:Nat),t.way[i]? = some l->n8 a l=t.goal->i + 1=t.way.length
 head:∀ (m':Nat)(t:cp),s.U[m']? = some t->∀ (l:Nat)(ln:cz),t.way.getLast? = some l->s.lanes[l]? = some ln->(m' = m/\c=0)∨((m':Int),(0:Int)) ∈ ln.qs∨n8 a l=t.goal
 first:∀ (k:Nat)(ln:cz),s.lanes[k]? = some ln->∀ (i j:Nat)(z:Int)(q:Int × Int),ln.qs[i]? = some (z,0)->j < i->ln.qs[j]? = some q->q.1 ≠ z
 El:∀ (k:Nat)(ln:cz),s.lanes[k]? = some ln->∀ (m':Nat)(t:cp),((m':Int),(0:Int)) ∈ ln.qs->s.U[m']? = some t->t.way.getLast? = some k
 gone:c=0->∀ (k:Nat)(ln:cz),s.lanes[k]? = some ln->((m:Int),(0:Int)) ∉ ln.qs
 sum:(kg s:Int) + (js s:Int) + 1=gq s
structure Bk (a:YA)(s:YS):Prop where
 lanes:s.lanes.length=a.ps.length
 lies:s.lies.length=a.n
 AZ:s.U.length <= 60
 D5:a.ps.length <= 40
 lets:∀ (m:Nat)(t:cp),s.U[m]? = some t->∃ x y:Nat,t.start=(x:Int)/\t.goal=(y:Int)/\x < a.n/\y < a.n
 Bc:∀ (m:Nat)(t:cp),s.U[m]? = some t->(∀ l ∈ t.way,l < a.ps.length)/\t.way.Nodup
 Bp:∀ (k:Nat)(ln:cz),s.lanes[k]? = some ln->∀ q ∈ ln.qs,∃ (m:Nat)(t:cp),q.1=(m:Int)/\s.U[m]? = some t/\k ∈ t.way
 Cb:∀ (m:Nat)(t:cp),s.U[m]? = some t->0 <= t.gone/\t.gone <= t.len/\t.len <= 60
 Bj:∀ (m':Nat)(t:cp),s.U[m']? = some t->t.gone=0->t.way=[]
 last:∀ (m:Nat)(t:cp),s.U[m]? = some t->∀ (i l:Nat),t.way[i]? = some l->n8 a l=t.goal->i + 1=t.way.length
 head:∀ (m':Nat)(t:cp),s.U[m']? = some t->∀ (l:Nat)(ln:cz),t.way.getLast? = some l->s.lanes[l]? = some ln->((m':Int),(0:Int)) ∈ ln.qs∨n8 a l=t.goal
 first:∀ (k:Nat)(ln:cz),s.lanes[k]? = some ln->∀ (i j:Nat)(z:Int)(q:Int × Int),ln.qs[i]? = some (z,0)->j < i->ln.qs[j]? = some q->q.1 ≠ z
 El:∀ (k:Nat)(ln:cz),s.lanes[k]? = some ln->∀ (m':Nat)(t:cp),((m':Int),(0:Int)) ∈ ln.qs->s.U[m']? = some t->t.way.getLast? = some k
 sum:(kg s:Int) + (js s:Int)=gq s
theorem dX:∀ (n:Nat)(l:List Nat),l.Nodup->(∀ x ∈ l,x < n)->l.length <= n
 | 0,l,_,h=>by
  cases l with
  | nil=>exact le_refl _
  | cons x _=>exact absurd (h x mem_cons_self) (by omega)
 | n + 1,l,hn,h=>by
  have h1:=dX n (l.filter fun x=>decide (x ≠ n)) (hn.filter _) fun x hx=>by
   obtain⟨a,b⟩:=mem_filter.mp hx
   have:=h x a
   have:=of_decide_eq_true b
   omega
  have h2:l.length <= (l.filter fun x=>decide (x ≠ n)).length + 1:=by
   clear h1 h
   induction l with
   | nil=>exact zero_le _
   | cons x l ih =>
    rw[nodup_cons]at hn
    by_cases e:x=n
    ·subst e
     have:(l.filter fun y=>decide (y ≠ x))=l:=List.filter_eq_self.mpr fun y hy=>decide_eq_true fun z=>hn.1 (z ▸ hy)
     rw[List.filter_cons_of_neg (by simp),this]
     exact le_refl _
    ·rw[List.filter_cons_of_pos (by simpa using e)]
     have:=ih hn.2
     simp only[length_cons]
     omega
  omega
theorem Bk.ok {a:YA}{s:YS}(h:Bk a s):Sk a s:=⟨h.lanes,h.lies,h.lets,fun m t ht=>⟨(h.Bc m t ht).1,by have:=dX _ _ (h.Bc m t ht).2 (h.Bc m t ht).1;have:=h.D5;omega⟩,h.Bp,h.AZ⟩
theorem uP {α:Type}{x:α}{l:List α}(h:x ∈ l.tail):x ∈ l:=List.mem_of_mem_tail h
theorem uY {α:Type}{l:List α}{x:α}(h:l.head? = some x):l[0]? = some x:=by cases l with
 | nil=>cases h
 | cons y r=>exact h
theorem q5 {α:Type}{l:List α}{x:α}(h:x ∈ l):∃ i:Nat,l[i]? = some x:=by
 obtain⟨i,hi,e⟩:=List.getElem_of_mem h
 exact⟨i,by rw[List.getElem?_eq_getElem hi,e]⟩
theorem m7 {α:Type}(l:List α)(i:Nat):l.tail[i]? = l[i + 1]?:=by cases l with
 | nil=>simp
 | cons y r=>rfl
theorem ng {a:YA}{s:YS}{k m:Nat}{c:Int}{lk:cz}(J:Bk a s)(hk:s.lanes[k]? = some lk)(hq:lk.qs.head? = some ((m:Int),c)):Pt a { s with lanes:=s.lanes.set k (cy lk) } m c:=by
 have h0:=uY hq
 have BR:∀ (j:Nat)(B0:cz),(s.lanes.set k (cy lk))[j]? = some B0->∃ ln,s.lanes[j]? = some ln/\(∀ q ∈ B0.qs,q ∈ ln.qs)/\∃ d,(∀ i,B0.qs[i]? = ln.qs[i + d]?)/\(B0.qs=ln.qs∨(j=k/\ln=lk/\B0.qs=lk.qs.tail)):=fun j B0 h=>by
  rcases fS h with ⟨rfl,rfl⟩ | ⟨ne,h⟩
  ·exact⟨lk,hk,fun q hq=>uP hq,1,fun i=>m7 _ i, .inr ⟨rfl,rfl,rfl⟩⟩
  ·exact⟨B0,h,fun q hq=>hq,0,fun i=>rfl, .inl rfl⟩
 have keep:∀ (j:Nat)(ln:cz),s.lanes[j]? = some ln->∃ B0,(s.lanes.set k (cy lk))[j]? = some B0/\∀ q ∈ ln.qs,q=((m:Int),c)∨q ∈ B0.qs:=fun j ln h=>by
  by_cases e:j=k
  ·subst e
   rw[hk]at h
   cases h
   refine⟨cy lk,jc hk,fun q CG=>?_⟩
   show _∨q ∈ lk.qs.tail
   cases hl:lk.qs with
   | nil=>rw[hl]at hq;cases hq
   | cons z r =>
    rw[hl]at hq CG
    cases hq
    exact(mem_cons.mp CG).imp id id
  ·exact⟨ln,by rw[List.getElem?_set_ne (Ne.symm e)];exact h,fun q hq => .inr hq⟩
 refine⟨by rw[← J.lanes];simp,J.lies,J.AZ,J.D5,J.lets,J.Bc,?_,J.Cb,?_,J.last,?_,?_,?_,?_,?_⟩
 ·intro j B0 h q CG
  obtain⟨ln,hj,h1,_⟩:=BR j B0 h
  exact J.Bp j ln hj q (h1 q CG)
 ·intro m' t ht hg
  refine⟨J.Bj m' t ht hg,fun e=>?_⟩
  subst e
  obtain⟨m2,t2,e2,FP,Pu⟩:=J.Bp k lk hk _ (mem_of_head? hq)
  have:m' = m2:=by have:(m':Int)=(m2:Int):=e2;omega
  subst this
  rw[ht]at FP
  cases FP
  rw[J.Bj m' t ht hg]at Pu
  cases Pu
 ·intro m' t ht l B0 hl EX
  obtain⟨ln,hj,h1,_⟩:=BR l B0 EX
  rcases J.head m' t ht l ln hl hj with h | h
  ·obtain⟨ln2,h2,h3⟩:=keep l ln hj
   have h2:{ s with lanes:=s.lanes.set k (cy lk) }.lanes[l]? = some ln2:=h2
   rw[EX]at h2
   cases h2
   rcases h3 _ h with e | h
   ·injection e with e1 e2
    exact .inl ⟨by omega,e2.symm⟩
   ·exact .inr (.inl h)
  ·exact .inr (.inr h)
 ·intro j B0 h i i' z q hi AU CG
  obtain⟨ln,hj,_,d,h2,_⟩:=BR j B0 h
  rw[h2]at hi CG
  exact J.first j ln hj (i + d) (i' + d) z q hi (by omega) CG
 ·intro j B0 h m' t Fo ht
  obtain⟨ln,hj,h1,_⟩:=BR j B0 h
  exact J.El j ln hj m' t (h1 _ Fo) ht
 ·intro e0 j B0 h Fo
  subst e0
  obtain⟨ln,hj,h1,d,h2,h3⟩:=BR j B0 h
  obtain⟨m2,t2,e2,FP,_⟩:=J.Bp k lk hk _ (mem_of_head? hq)
  have:m=m2:=by have:(m:Int)=(m2:Int):=e2;omega
  subst this
  have b1:=J.El k lk hk m t2 (mem_of_head? hq) FP
  have b2:=J.El j ln hj m t2 (h1 _ Fo) FP
  rw[b1]at b2
  have b2:=Option.some.inj b2
  subst b2
  rcases fS h with ⟨_,rfl⟩ | ⟨ne,_⟩
  ·obtain⟨i,hi⟩:=q5 Fo
   have hi:lk.qs.tail[i]? = some ((m:Int),0):=hi
   rw[m7]at hi
   exact J.first k lk hk (i + 1) 0 _ _ hi (by omega) h0 rfl
  ·exact ne rfl
 ·have:=fq (fun ln:cz=>ln.qs.length) (y:=cy lk) hk
  have hl:(cy lk).qs.length + 1=lk.qs.length:=by
   show lk.qs.tail.length + 1=_
   cases hl:lk.qs with
   | nil=>rw[hl]at hq;cases hq
   | cons _ _=>rfl
  have h1:=J.sum
  unfold kg at h1 ⊢
  show((((s.lanes.set k (cy lk)).map fun ln=>ln.qs.length).sum:Nat):Int) + (js s:Int) + 1=gq s
  omega
theorem uO {a:YA}{s:YS}{k:Nat}{t:cp}(J:Bk a s)(ht:s.U[k]? = some t)(hg:t.gone ≠ t.len):Pt a (iU s k t) k t.gone:=by
 have g0:=J.Cb k t ht
 have lk:∀ (m:Nat)(t':cp),(s.U.set k { t with gone:=t.gone + 1 })[m]? = some t'->∃ t0,s.U[m]? = some t0/\t'.start=t0.start/\t'.goal=t0.goal/\t'.way=t0.way/\t'.len=t0.len/\((m=k/\t'.gone=t.gone + 1)∨(m ≠ k/\t'.gone=t0.gone)):=fun m t' h=>by
  rcases fS h with ⟨rfl,rfl⟩ | ⟨ne,h⟩
  ·exact⟨t,ht,rfl,rfl,rfl,rfl, .inl ⟨rfl,rfl⟩⟩
  ·exact⟨t',h,rfl,rfl,rfl,rfl, .inr ⟨ne,rfl⟩⟩
 refine⟨J.lanes,J.lies,by show(s.U.set _ _).length <= 60;rw[length_set];exact J.AZ,J.D5,?_,?_,?_,?_,?_,?_,?_,J.first,?_,?_,?_⟩
 ·intro m t' h
  obtain⟨t0,h0,e1,e2,_⟩:=lk m t' h
  rw[e1,e2];exact J.lets m t0 h0
 ·intro m t' h
  obtain⟨t0,h0,e1,e2,e3,_⟩:=lk m t' h
  rw[e3];exact J.Bc m t0 h0
 ·intro j ln h q hq
  obtain⟨m,t0,e,h0,hj⟩:=J.Bp j ln h q hq
  by_cases em:m=k
  ·subst em
   rw[ht]at h0
   cases h0
   exact⟨m,_,e,jc ht,hj⟩
  ·exact⟨m,t0,e,by show(s.U.set _ _)[m]? = _;rw[List.getElem?_set_ne (Ne.symm em)];exact h0,hj⟩
 ·intro m t' h
  obtain⟨t0,h0,e1,e2,e3,e4,e5⟩:=lk m t' h
  have:=J.Cb m t0 h0
  rcases e5 with ⟨rfl,e5⟩ | ⟨_,e5⟩
  ·rw[ht]at h0
   cases h0
   rw[e4,e5];omega
  ·rw[e4,e5];exact this
 ·intro m t' h hz
  obtain⟨t0,h0,e1,e2,e3,e4,e5⟩:=lk m t' h
  rcases e5 with ⟨rfl,e5⟩ | ⟨ne,e5⟩
  ·omega
  ·rw[e3];exact⟨J.Bj m t0 h0 (by omega),ne⟩
 ·intro m t' h i l hi hl
  obtain⟨t0,h0,e1,e2,e3,e4,e5⟩:=lk m t' h
  rw[e3]at hi ⊢
  rw[e2]at hl
  exact J.last m t0 h0 i l hi hl
 ·intro m t' h l ln hl AK
  obtain⟨t0,h0,e1,e2,e3,e4,e5⟩:=lk m t' h
  rw[e3]at hl
  rw[e2]
  exact .inr (J.head m t0 h0 l ln hl AK)
 ·intro j ln h m t' hm h'
  obtain⟨t0,h0,e1,e2,e3,e4,e5⟩:=lk m t' h'
  rw[e3]
  exact J.El j ln h m t0 hm h0
 ·intro e0 j ln h hm
  obtain⟨m,t0,e,h0,hj⟩:=J.Bp j ln h _ hm
  have:k=m:=by have:(k:Int)=(m:Int):=e;omega
  subst this
  rw[ht]at h0
  cases h0
  rw[J.Bj k t ht e0]at hj
  cases hj
 ·have:=jr (fun t:cp=>t.gone) (y:={ t with gone:=t.gone + 1 }) ht
  have h1:=J.sum
  unfold gq at h1 ⊢
  show (kg s:Int) + (js s:Int) + 1=((s.U.set k { t with gone:=t.gone + 1 }).map fun t=>t.gone).sum
  have:({ t with gone:=t.gone + 1 }:cp).gone=t.gone + 1:=rfl
  omega
theorem uV {l:List Nat}{x:Nat}(h:l.getLast? = some x):l[l.length - 1]? = some x:=by rw[← h,List.getLast?_eq_getElem?]
theorem kG {a:YA}{s:YS}{m l:Nat}{c:Int}{t:cp}{ln:cz}(M:Pt a s m c)(ht:s.U[m]? = some t)(AK:s.lanes[l]? = some ln)(h0:c=0->l ∉ t.way/\∀ x ∈ t.way,n8 a x ≠ t.goal)(h1:c ≠ 0->l ∈ t.way):Bk a (dL s m c l t ln):=by
 have E3:l < a.ps.length:=by rw[← M.lanes];exact(List.getElem?_eq_some_iff.mp AK).1
 have lk:∀ (m':Nat)(t':cp),(dL s m c l t ln).U[m']? = some t'->∃ t0,s.U[m']? = some t0/\t'.start=t0.start/\t'.goal=t0.goal/\t'.len=t0.len/\t'.gone=t0.gone/\((c=0/\m' = m/\t0=t/\t'.way=t.way ++ [l])∨(¬ (c=0/\m' = m)/\t'.way=t0.way)):=fun m' t' h=>by
  have h:(if c=0 then s.U.set m { t with way:=t.way ++ [l] } else s.U)[m']? = some t':=h
  by_cases hc:c=0
  ·rw[if_pos hc]at h
   rcases fS h with ⟨rfl,rfl⟩ | ⟨ne,h⟩
   ·exact⟨t,ht,rfl,rfl,rfl,rfl, .inl ⟨hc,rfl,rfl,rfl⟩⟩
   ·exact⟨t',h,rfl,rfl,rfl,rfl, .inr ⟨fun z=>ne z.2,rfl⟩⟩
  ·rw[if_neg hc]at h
   exact⟨t',h,rfl,rfl,rfl,rfl, .inr ⟨fun z=>hc z.1,rfl⟩⟩
 have Xx:∀ (m':Nat)(t0:cp),s.U[m']? = some t0->∃ t',(dL s m c l t ln).U[m']? = some t'/\(∀ x ∈ t0.way,x ∈ t'.way)/\(m' = m->l ∈ t'.way):=fun m' t0 h=>by
  by_cases hc:c=0
  ·by_cases e:m' = m
   ·subst e
    rw[ht]at h
    cases h
    refine⟨{ t with way:=t.way ++ [l] },by show(if c=0 then s.U.set m' { t with way:=t.way ++ [l] } else s.U)[m']? = _;rw[if_pos hc];exact jc ht,fun x hx=>mem_append_left _ hx,fun _=>by show l ∈ t.way ++ [l];simp⟩
   ·exact⟨t0,by show(if c=0 then s.U.set m { t with way:=t.way ++ [l] } else s.U)[m']? = _;rw[if_pos hc,List.getElem?_set_ne (Ne.symm e)];exact h,fun x hx=>hx,fun z=>absurd z e⟩
  ·refine⟨t0,by show(if c=0 then s.U.set m { t with way:=t.way ++ [l] } else s.U)[m']? = _;rw[if_neg hc];exact h,fun x hx=>hx,fun z=>?_⟩
   subst z
   rw[ht]at h
   cases h
   exact h1 hc
 have B0:∀ (j:Nat)(l':cz),(dL s m c l t ln).lanes[j]? = some l'->(j=l/\l'.qs=ln.qs ++ [((m:Int),c)])∨(j ≠ l/\s.lanes[j]? = some l'):=fun j l' h=>by
  rcases fS h with ⟨rfl,rfl⟩ | ⟨ne,h⟩
  ·exact .inl ⟨rfl,rfl⟩
  ·exact .inr ⟨ne,h⟩
 have old:∀ (j:Nat)(l':cz),(dL s m c l t ln).lanes[j]? = some l'->∀ q ∈ l'.qs,(j=l/\q=((m:Int),c))∨∃ l0,s.lanes[j]? = some l0/\q ∈ l0.qs:=fun j l' h q hq=>by
  rcases B0 j l' h with ⟨rfl,e⟩ | ⟨ne,h⟩
  ·rw[e,mem_append]at hq
   rcases hq with hq | hq
   ·exact .inr ⟨ln,AK,hq⟩
   ·exact .inl ⟨rfl,by simpa using hq⟩
  ·exact .inr ⟨l',h,hq⟩
 refine⟨by rw[← M.lanes];show(s.lanes.set _ _).length=_;simp,M.lies,?_,M.D5,?_,?_,?_,?_,?_,?_,?_,?_,?_,?_⟩
 ·show(if c=0 then s.U.set m { t with way:=t.way ++ [l] } else s.U).length <= 60
  by_cases hc:c=0
  ·rw[if_pos hc,length_set];exact M.AZ
  ·rw[if_neg hc];exact M.AZ
 ·intro m' t' h
  obtain⟨t0,h2,e1,e2,_⟩:=lk m' t' h
  rw[e1,e2];exact M.lets m' t0 h2
 ·intro m' t' h
  obtain⟨t0,h2,_,_,_,_,e⟩:=lk m' t' h
  obtain⟨w1,w2⟩:=M.Bc m' t0 h2
  rcases e with ⟨hc,rfl,rfl,e⟩ | ⟨_,e⟩
  ·rw[e]
   refine⟨fun x hx=>?_,?_⟩
   ·rcases mem_append.mp hx with hx | hx
    ·exact w1 x hx
    ·rw[mem_singleton.mp hx];exact E3
   ·rw[List.nodup_append]
    exact⟨w2,by simp,fun x hx y hy=>by rw[mem_singleton.mp hy];exact fun z=>(h0 hc).1 (z ▸ hx)⟩
  ·rw[e];exact⟨w1,w2⟩
 ·intro j l' h q hq
  rcases old j l' h q hq with ⟨rfl,rfl⟩ | ⟨l0,h2,hq⟩
  ·obtain⟨t',h3,_,h4⟩:=Xx m t ht
   exact⟨m,t',rfl,h3,h4 rfl⟩
  ·obtain⟨m',t0,e,h3,hj⟩:=M.Bp j l0 h2 q hq
   obtain⟨t',h4,h5,_⟩:=Xx m' t0 h3
   exact⟨m',t',e,h4,h5 j hj⟩
 ·intro m' t' h
  obtain⟨t0,h2,_,_,e3,e4,_⟩:=lk m' t' h
  rw[e3,e4];exact M.Cb m' t0 h2
 ·intro m' t' h hz
  obtain⟨t0,h2,_,_,_,e4,e⟩:=lk m' t' h
  rw[e4]at hz
  obtain⟨w1,w2⟩:=M.Bj m' t0 h2 hz
  rcases e with ⟨hc,rfl,_⟩ | ⟨_,e⟩
  ·exact absurd rfl w2
  ·rw[e];exact w1
 ·intro m' t' h i x hi hx
  obtain⟨t0,h2,_,e2,_,_,e⟩:=lk m' t' h
  rw[e2]at hx
  rcases e with ⟨hc,rfl,rfl,e⟩ | ⟨_,e⟩
  ·rw[e]at hi ⊢
   by_cases AU:i < t0.way.length
   ·rw[List.getElem?_append_left AU]at hi
    exact absurd hx ((h0 hc).2 x (mem_of_getElem? hi))
   ·have:=(List.getElem?_eq_some_iff.mp hi).1
    rw[length_append,length_singleton]at this ⊢
    omega
  ·rw[e]at hi ⊢
   exact M.last m' t0 h2 i x hi hx
 ·intro m' t' h x l' hx DD
  obtain⟨t0,h2,_,e2,_,_,e⟩:=lk m' t' h
  rcases e with ⟨hc,rfl,rfl,e⟩ | ⟨ne,e⟩
  ·rw[e]at hx
   have hx:l=x:=by simpa using hx
   subst hx
   rcases B0 l l' DD with ⟨_,e'⟩ | ⟨ne,_⟩
   ·left
    rw[e',hc];simp
   ·exact absurd rfl ne
  ·rw[e]at hx
   rcases B0 x l' DD with ⟨rfl,e'⟩ | ⟨ne',h'⟩
   ·rcases M.head m' t0 h2 x ln hx AK with z | z | z
    ·exact absurd ⟨z.2,z.1⟩ ne
    ·exact .inl (by rw[e'];exact mem_append_left _ z)
    ·rw[e2];exact .inr z
   ·rcases M.head m' t0 h2 x l' hx h' with z | z | z
    ·exact absurd ⟨z.2,z.1⟩ ne
    ·exact .inl z
    ·rw[e2];exact .inr z
 ·intro j l' h i i' z q hi AU hq
  rcases B0 j l' h with ⟨rfl,e⟩ | ⟨_,h'⟩
  ·rw[e]at hi hq
   by_cases Eu:i < ln.qs.length
   ·rw[List.getElem?_append_left Eu]at hi
    rw[List.getElem?_append_left (by omega)]at hq
    exact M.first j ln AK i i' z q hi AU hq
   ·have h3:=(List.getElem?_eq_some_iff.mp hi).1
    rw[length_append,length_singleton]at h3
    have ei:i=ln.qs.length:=by omega
    subst ei
    rw[List.getElem?_concat_length]at hi
    have hi:=Option.some.inj hi
    injection hi with e1 e2
    subst e1
    rw[List.getElem?_append_left AU]at hq
    intro ez
    obtain⟨m',t0,e3,h4,h5⟩:=M.Bp j ln AK q (mem_of_getElem? hq)
    have em0:(m':Int)=(m:Int):=by rw[← e3];exact ez
    have:m=m':=by omega
    subst this
    rw[ht]at h4
    cases h4
    exact(h0 e2).1 h5
  ·exact M.first j l' h' i i' z q hi AU hq
 ·intro j l' h m' t' hm h'
  obtain⟨t0,h2,_,_,_,_,e⟩:=lk m' t' h'
  rcases old j l' h _ hm with ⟨rfl,e'⟩ | ⟨l0,h3,hm⟩
  ·injection e' with e1 e2
   have em:m' = m:=by omega
   subst em
   rcases e with ⟨_,_,_,e⟩ | ⟨ne,_⟩
   ·rw[e];simp
   ·exact absurd ⟨e2.symm,rfl⟩ ne
  ·rcases e with ⟨hc,rfl,rfl,e⟩ | ⟨ne,e⟩
   ·exact absurd hm (M.gone hc j l0 h3)
   ·rw[e];exact M.El j l0 h3 m' t0 hm h2
 ·have q1:=fq (fun ln:cz=>ln.qs.length) (y:=jH ln m c t.len) AK
  have q2:(jH ln m c t.len).qs.length=ln.qs.length + 1:=by show(ln.qs ++ [_]).length=_;simp
  have q3:gq (dL s m c l t ln)=gq s:=by
   unfold gq
   show((if c=0 then s.U.set m { t with way:=t.way ++ [l] } else s.U).map fun t=>t.gone).sum=_
   by_cases hc:c=0
   ·rw[if_pos hc]
    have:=jr (fun t:cp=>t.gone) (y:={ t with way:=t.way ++ [l] }) ht
    have e:({ t with way:=t.way ++ [l] }:cp).gone=t.gone:=rfl
    omega
   ·rw[if_neg hc]
  have h2:=M.sum
  rw[q3]
  unfold kg at h2 ⊢
  show((((s.lanes.set l (jH ln m c t.len)).map fun ln=>ln.qs.length).sum:Nat):Int) + (js s:Int)=gq s
  omega
theorem wR {a:YA}{s:YS}{m e:Nat}{c:Int}{t:cp}{qs:List (Int × Int)}(M:Pt a s m c)(ht:s.U[m]? = some t)(C2:s.lies[e]? = some qs)(h0:c=0->∀ x,t.way.getLast? = some x->n8 a x=t.goal):Bk a { s with lies:=s.lies.set e (qs ++ [((m:Int),c)]) }:=by
 refine⟨M.lanes,by show(s.lies.set _ _).length=_;rw[length_set];exact M.lies,M.AZ,M.D5,M.lets,M.Bc,M.Bp,M.Cb,fun m' t' h z=>(M.Bj m' t' h z).1,M.last,?_,M.first,M.El,?_⟩
 ·intro m' t' h x l' hx DD
  rcases M.head m' t' h x l' hx DD with ⟨rfl,hc⟩ | z | z
  ·have h:s.U[m']? = some t':=h
   rw[ht]at h
   cases h
   exact .inr (h0 hc x hx)
  ·exact .inl z
  ·exact .inr z
 ·have:=fq (fun qs:List (Int × Int)=>qs.length) (y:=qs ++ [((m:Int),c)]) C2
  have h2:=M.sum
  unfold js at h2 ⊢
  show (kg s:Int) + ((((s.lies.set e (qs ++ [((m:Int),c)])).map fun qs=>qs.length).sum:Nat):Int)=gq s
  rw[length_append,length_singleton]at this
  omega
theorem Bk.back {a:YA}{s:YS}{k:Nat}{lk MK:cz}(J:Bk a s)(hk:s.lanes[k]? = some lk)(e:MK.qs=lk.qs):Bk a { s with lanes:=s.lanes.set k MK }:=by
 have BR:∀ (j:Nat)(l':cz),(s.lanes.set k MK)[j]? = some l'->∃ l0,s.lanes[j]? = some l0/\l'.qs=l0.qs:=fun j l' h=>by
  rcases fS h with ⟨rfl,rfl⟩ | ⟨_,h⟩
  ·exact⟨lk,hk,e⟩
  ·exact⟨l',h,rfl⟩
 refine⟨by rw[← J.lanes];simp,J.lies,J.AZ,J.D5,J.lets,J.Bc,?_,J.Cb,J.Bj,J.last,?_,?_,?_,?_⟩
 ·intro j l' h q hq
  obtain⟨l0,h0,e0⟩:=BR j l' h
  rw[e0]at hq
  exact J.Bp j l0 h0 q hq
 ·intro m t ht x l' hx DD
  obtain⟨l0,h0,e0⟩:=BR x l' DD
  rw[e0]
  exact J.head m t ht x l0 hx h0
 ·intro j l' h
  obtain⟨l0,h0,e0⟩:=BR j l' h
  rw[e0]
  exact J.first j l0 h0
 ·intro j l' h
  obtain⟨l0,h0,e0⟩:=BR j l' h
  rw[e0]
  exact J.El j l0 h0
 ·have:=fq (fun ln:cz=>ln.qs.length) (y:=MK) hk
  have h1:=J.sum
  have e':=congrArg List.length e
  unfold kg at h1 ⊢
  show((((s.lanes.set k MK).map fun ln=>ln.qs.length).sum:Nat):Int) + (js s:Int)=gq s
  omega
theorem Bk.step {a:YA}{s s':YS}{m:Mv}(J:Bk a s)(h:CV a s m s'):Bk a s':=by
 cases h with
 | @BR k l t ln ht hg hl AK ho =>
  have M:=uO J ht hg
  refine kG (t:={ t with gone:=t.gone + 1 }) M (jc ht) AK (fun hc=>?_) (fun hc=>?_)
  ·have hw:=J.Bj k t ht hc
   show l ∉ t.way/\∀ x ∈ t.way,n8 a x ≠ t.goal
   rw[hw]
   exact⟨by simp,by simp⟩
  ·unfold dB at hl
   rw[if_neg hc]at hl
   exact mem_of_mem_take hl
 | @on k l m c lk ln t hk hq ht hl AK ho =>
  have M:=ng J hk hq
  have hw:dF a s k=if c=0 then (sg a k t.goal.toNat).filter (fun l=>!decide (l ∈ t.way)) else (t.way.drop (t.way.idxOf k + 1)).take 1:=by
   unfold dF bZ
   rw[hk]
   dsimp only
   rw[hq]
   dsimp only
   rw[toNat_natCast,ht]
  rw[hw]at hl
  refine kG M ht AK (fun hc=>?_) (fun hc=>?_)
  ·rw[if_pos hc]at hl
   obtain⟨h1,h2⟩:=mem_filter.mp hl
   refine⟨by simpa using h2,fun x hx ex=>?_⟩
   subst hc
   obtain⟨i,hi⟩:=q5 hx
   have h3:=J.last m t ht i x hi ex
   have h4:=J.El k lk hk m t (mem_of_head? hq) ht
   have h5:=uV h4
   rw[show t.way.length - 1=i by omega,hi]at h5
   have h5:=Option.some.inj h5
   subst h5
   unfold sg at h1
   obtain⟨x0,y0,e1,e2,_,_⟩:=J.lets m t ht
   rw[if_pos (by show n8 a x=_;rw[ex,e2,toNat_natCast])]at h1
   cases h1
  ·rw[if_neg hc]at hl
   exact mem_of_mem_drop (mem_of_mem_take hl)
 | @DJ k m e c lk t qs hk hq ht hg he C2 =>
  have M:=ng J hk hq
  have:=wR (s:={ s with lanes:=s.lanes.set k (cy lk) }) M ht C2 (fun hc x hx=>?_)
  ·exact this
  ·subst hc
   have h4:=J.El k lk hk m t (mem_of_head? hq) ht
   rw[h4]at hx
   have hx:=Option.some.inj hx
   subst hx
   show(a.ps.getD k (0,0)).2=t.goal
   rw[he,hg]
 | @back k lk hk hb=>exact J.back hk rfl
noncomputable def sC (s:YS):Int:=(s.U.map fun t=>t.len).sum
theorem pP {α:Type}(f g:α->Int):∀ {L:List α},(∀ (m:Nat)(t:α),L[m]? = some t->f t <= g t)->(L.map f).sum <= (L.map g).sum
 | [],_=>by simp
 | x :: L,h=>by
  have h1:=h 0 x rfl
  have h2:=pP f g (L:=L) fun m t ht=>h (m + 1) t ht
  simp only[map_cons,sum_cons];omega
theorem kz {α:Type}(g:α->Int):∀ {L:List α},(∀ (m:Nat)(t:α),L[m]? = some t->g t <= 60)->(L.map g).sum <= 60 * L.length
 | [],_=>by simp
 | x :: L,h=>by
  have h1:=h 0 x rfl
  have h2:=kz g (L:=L) fun m t ht=>h (m + 1) t ht
  simp only[map_cons,sum_cons,length_cons];omega
theorem Bk.ML {a:YA}{s:YS}(J:Bk a s):(js s:Int) <= sC s/\(kg s:Int) + (js s:Int) <= 3600:=by
 have h1:=pP (fun t:cp=>t.gone) (fun t=>t.len) (L:=s.U) fun m t ht=>(J.Cb m t ht).2.1
 have h2:=J.sum
 have h3:=kz (fun t:cp=>t.len) (L:=s.U) fun m t ht=>(J.Cb m t ht).2.2
 have h4:=J.AZ
 unfold gq at h2
 unfold sC
 omega
theorem jF {α:Type}(f:α->Nat):∀ {L:List α}{k:Nat}{x:α},L[k]? = some x->f x <= (L.map f).sum
 | [],_,_,h=>by cases h
 | z :: L,0,x,h=>by cases h;simp only[map_cons,sum_cons];omega
 | z :: L,k + 1,x,h=>by
  have:=jF f (L:=L) (k:=k) (x:=x) h
  simp only[map_cons,sum_cons];omega
theorem Bk.Xy {a:YA}{s:YS}(J:Bk a s)(hd:s.done.length <= 100000):SJ s:=by
 have h:=J.ML.2
 refine⟨fun k ln hk=>?_,fun p qs hp=>?_,hd⟩
 ·have:=jF (fun ln:cz=>ln.qs.length) hk
  unfold kg at h
  omega
 ·have:=jF (fun qs:List (Int × Int)=>qs.length) hp
  unfold js at h
  omega
noncomputable abbrev Es:=List (Nat × Nat)
noncomputable def lk (fs:Es)(p:Nat):Option Nat:=(fs.find? fun x=>decide (x.1=p)).map (·.2)
theorem iw {fs:Es}{p d:Nat}(h:lk fs p=some d):(p,d) ∈ fs:=by
 unfold lk at h
 cases e:fs.find? (fun x=>decide (x.1=p)) with
 | none=>rw[e]at h;cases h
 | some x =>
  rw[e]at h
  have h1:=List.find?_some e
  have h2:=List.mem_of_find?_eq_some e
  have h3:x.2=d:=Option.some.inj h
  have h4:x.1=p:=of_decide_eq_true h1
  rw[← h3,← h4];exact h2
theorem CO {fs:Es}{p:Nat}:lk fs p=none↔p ∉ fs.map (·.1):=by
 unfold lk
 rw[Option.map_eq_none_iff,List.find?_eq_none]
 constructor
 ·intro h m
  obtain⟨x,hx,e⟩:=mem_map.mp m
  exact h x hx (decide_eq_true e)
 ·intro h x hx e
  exact h (mem_map.mpr ⟨x,hx,of_decide_eq_true e⟩)
theorem iJ {fs:Es}(hn:(fs.map (·.1)).Nodup){p d:Nat}(h:(p,d) ∈ fs):lk fs p=some d:=by
 cases e:lk fs p with
 | none=>exact absurd (mem_map.mpr ⟨_,h,rfl⟩) (CO.mp e)
 | some d' =>
  have h':=iw e
  have:∀ {l:Es},(l.map (·.1)).Nodup->(p,d) ∈ l->(p,d') ∈ l->d' = d:=by
   intro l
   induction l with
   | nil=>intro _ h;cases h
   | cons x l ih =>
    intro hn h1 h2
    rw[map_cons,nodup_cons]at hn
    rcases mem_cons.mp h1 with h1 | h1
    ·rcases mem_cons.mp h2 with h2 | h2
     ·rw[← h1]at h2;exact(Prod.mk.inj h2).2
     ·exact absurd (mem_map.mpr ⟨_,h2,by rw[← h1]⟩) hn.1
    ·rcases mem_cons.mp h2 with h2 | h2
     ·exact absurd (mem_map.mpr ⟨_,h1,by rw[← h2]⟩) hn.1
     ·exact ih hn.2 h1 h2
  rw[this hn h h']
theorem ir:∀ (n:Nat)(l:List Nat),l.Nodup->(∀ x ∈ l,x < n)->l.length <= n
 | 0,l,_,h=>by
  cases l with
  | nil=>exact le_refl _
  | cons x l=>exact absurd (h x mem_cons_self) (not_lt_zero _)
 | n + 1,l,hn,h=>by
  by_cases hm:n ∈ l
  ·have e:=List.length_erase_of_mem hm
   have:=ir n (l.erase n) (hn.erase n) fun x hx=>by
    have C7:=(hn.mem_erase_iff).mp hx
    have:=h x C7.2
    have:=C7.1
    omega
   omega
  ·have:=ir n l hn fun x hx=>by
    have:=h x hx
    have:x ≠ n:=fun z=>hm (by rw[← z];exact hx)
    omega
   omega
structure DV (n:Nat)(es:Es)(g:Nat)(fs:Es)(i:Nat):Prop where
 nd:(fs.map (·.1)).Nodup
 lt:∀ x ∈ fs,x.1 < n
 g0:(g,0) ∈ fs
 up:∀ p d,(p,d) ∈ fs->(p=g/\d=0)∨∃ q d',d=d' + 1/\(q,d') ∈ fs/\(p,q) ∈ es
 sorted:fs.Pairwise fun x y=>x.2 <= y.2
 near:∀ y,fs[i]? = some y->∀ x ∈ fs,x.2 <= y.2 + 1
 cl:∀ k q d:Nat,k < i->fs[k]? = some (q,d)->∀ s,(s,q) ∈ es->∃ d',(s,d') ∈ fs/\d' <= d + 1
 ix:∀ j p d:Nat,fs[j]? = some (p,d)->d <= j
 le:i <= fs.length
theorem DV.AZ {n:Nat}{es:Es}{g:Nat}{fs:Es}{i:Nat}(b:DV n es g fs i):fs.length <= n:=by
 have:=ir n (fs.map (·.1)) b.nd fun x hx=>by
  obtain⟨y,hy,rfl⟩:=mem_map.mp hx
  exact b.lt y hy
 rwa [length_map]at this
theorem rZ {n:Nat}{es:Es}{g:Nat}(hg:g < n):DV n es g [(g,0)] 0 where
 nd:=by simp
 lt:=fun x hx=>by rw[mem_singleton.mp hx];exact hg
 g0:=mem_singleton.mpr rfl
 up:=fun p d h=>by
  have:=mem_singleton.mp h
  exact .inl (Prod.mk.inj this)
 sorted:=by simp
 near:=fun y hy x hx=>by rw[mem_singleton.mp hx];exact zero_le _
 cl:=fun k _ _ h=>absurd h (not_lt_zero _)
 ix:=fun j p d h=>by
  cases j with
  | zero=>have:=Option.some.inj h;have:=(Prod.mk.inj this).2;omega
  | succ j=>simp at h
 le:=zero_le _
theorem DV.push {n:Nat}{es:Es}{g:Nat}{fs:Es}{i s p d:Nat}(b:DV n es g fs i)(hy:fs[i]? = some (p,d))(hs:s < n)(hl:(s,p) ∈ es)(hn:lk fs s=none):DV n es g (fs ++ [(s,d + 1)]) i where
 nd:=by
  rw[map_append,List.nodup_append]
  refine⟨b.nd,by simp,fun a ha c hc=>?_⟩
  have hc:c=s:=by simpa using hc
  intro z
  rw[z,hc]at ha
  exact CO.mp hn ha
 lt:=fun x hx=>by
  rcases mem_append.mp hx with h | h
  ·exact b.lt x h
  ·rw[mem_singleton.mp h];exact hs
 g0:=mem_append_left _ b.g0
 up:=fun q e h=>by
  rcases mem_append.mp h with h | h
  ·rcases b.up q e h with h | ⟨q',d',h1,h2,h3⟩
   ·exact .inl h
   ·exact .inr ⟨q',d',h1,mem_append_left _ h2,h3⟩
  ·obtain⟨h1,h2⟩:=Prod.mk.inj (mem_singleton.mp h)
   subst h1 h2
   exact .inr ⟨p,d,rfl,mem_append_left _ (mem_of_getElem? hy),hl⟩
 sorted:=by
  rw[List.pairwise_append]
  refine⟨b.sorted,by simp,fun x hx y hy'=>?_⟩
  rw[mem_singleton.mp hy']
  exact b.near _ hy x hx
 near:=fun y hy' x hx=>by
  have hi:i < fs.length:=(List.getElem?_eq_some_iff.mp hy).1
  rw[List.getElem?_append_left hi,hy]at hy'
  rw[← Option.some.inj hy']
  rcases mem_append.mp hx with h | h
  ·exact b.near _ hy x h
  ·rw[mem_singleton.mp h];exact le_refl _
 cl:=fun k q e hk hq t ht=>by
  have hi:i < fs.length:=(List.getElem?_eq_some_iff.mp hy).1
  rw[List.getElem?_append_left (by omega)]at hq
  obtain⟨d',h1,h2⟩:=b.cl k q e hk hq t ht
  exact⟨d',mem_append_left _ h1,h2⟩
 ix:=fun j q e h=>by
  have hi:i < fs.length:=(List.getElem?_eq_some_iff.mp hy).1
  have hd:=b.ix i p d hy
  rcases lt_or_ge j fs.length with hj | hj
  ·rw[List.getElem?_append_left hj]at h;exact b.ix j q e h
  ·rw[List.getElem?_append_right hj]at h
   have hj0:j - fs.length=0:=by
    have:=(List.getElem?_eq_some_iff.mp h).1
    simp at this;omega
   rw[hj0]at h
   have:=(Prod.mk.inj (Option.some.inj h)).2
   omega
 le:=le_trans b.le (by rw[length_append];omega)
theorem DV.next {n:Nat}{es:Es}{g:Nat}{fs:Es}{i p d:Nat}(b:DV n es g fs i)(hy:fs[i]? = some (p,d))(hc:∀ s,(s,p) ∈ es->s ∈ fs.map (·.1)):DV n es g fs (i + 1) where
 nd:=b.nd
 lt:=b.lt
 g0:=b.g0
 up:=b.up
 sorted:=b.sorted
 near:=fun y hy' x hx=>by
  have hi:i < fs.length:=(List.getElem?_eq_some_iff.mp hy).1
  have SN:i + 1 < fs.length:=(List.getElem?_eq_some_iff.mp hy').1
  have h1:=b.near _ hy x hx
  have h2:=pairwise_iff_getElem.mp b.sorted i (i + 1) hi SN (lt_succ_self _)
  have e1:fs[i]=(p,d):=(List.getElem?_eq_some_iff.mp hy).2
  have e2:fs[i + 1]=y:=(List.getElem?_eq_some_iff.mp hy').2
  rw[e1,e2]at h2
  have h2:d <= y.2:=h2
  have h1:x.2 <= d + 1:=h1
  omega
 cl:=fun k q e hk hq s hs=>by
  rcases lt_or_ge k i with h | h
  ·exact b.cl k q e h hq s hs
  ·have:k=i:=by omega
   subst this
   rw[hy]at hq
   obtain⟨h1,h2⟩:=Prod.mk.inj (Option.some.inj hq)
   subst h1 h2
   obtain⟨x,hx,e⟩:=mem_map.mp (hc s hs)
   exact⟨x.2,by rw[← e];exact hx,b.near _ hy x hx⟩
 ix:=b.ix
 le:=(List.getElem?_eq_some_iff.mp hy).1
structure zU (n:Nat)(es:Es)(g:Nat)(fs:Es):Prop where
 nd:(fs.map (·.1)).Nodup
 lt:∀ x ∈ fs,x.1 < n
 g0:lk fs g=some 0
 up:∀ p d,lk fs p=some d->(p=g/\d=0)∨∃ q d',d=d' + 1/\lk fs q=some d'/\(p,q) ∈ es
 cl:∀ s q d,(s,q) ∈ es->lk fs q=some d->∃ d',lk fs s=some d'/\d' <= d + 1
 AZ:∀ p d,lk fs p=some d->d < n
theorem DV.far {n:Nat}{es:Es}{g:Nat}{fs:Es}(b:DV n es g fs fs.length):zU n es g fs where
 nd:=b.nd
 lt:=b.lt
 g0:=iJ b.nd b.g0
 up:=fun p d h=>by
  rcases b.up p d (iw h) with h | ⟨q,d',h1,h2,h3⟩
  ·exact .inl h
  ·exact .inr ⟨q,d',h1,iJ b.nd h2,h3⟩
 cl:=fun s q d hs hq=>by
  obtain⟨k,hk⟩:=List.getElem?_of_mem (iw hq)
  obtain⟨d',h1,h2⟩:=b.cl k q d (List.getElem?_eq_some_iff.mp hk).1 hk s hs
  exact⟨d',iJ b.nd h1,h2⟩
 AZ:=fun p d h=>by
  obtain⟨k,hk⟩:=List.getElem?_of_mem (iw h)
  have h1:=b.ix k p d hk
  have h2:=(List.getElem?_eq_some_iff.mp hk).1
  have h3:=b.AZ
  omega
noncomputable def fk (x:Nat × Nat):cb × V:=(Sum.inl (x.1:Int),V.int (x.2:Int))
noncomputable def zp (x:Nat × Nat):Int × Int:=((x.1:Int),(x.2:Int))
theorem gS (p:Nat):∀ fs:Es,gU (fs.map fk) (Sum.inl (p:Int))=(lk fs p).map fun d:Nat=>V.int (d:Int)
 | []=>rfl
 | x :: fs=>by
  have ih:=gS p fs
  unfold gU lk at ih ⊢
  rw[map_cons,List.find?_cons,List.find?_cons]
  by_cases h:x.1=p
  ·have h1:(fk x).1=(Sum.inl (p:Int):cb):=by rw[← h];rfl
   rw[decide_eq_true h,decide_eq_true h1];rfl
  ·have h1:¬ (fk x).1=(Sum.inl (p:Int):cb):=fun z=>h (by have:=Sum.inl.inj z;omega)
   rw[decide_eq_false h,decide_eq_false h1];exact ih
theorem yH {fs:Es}{s d:Nat}(h:lk fs s=none):cK (fs.map fk) (Sum.inl (s:Int)) (V.int (d:Int))=(fs ++ [(s,d)]).map fk:=by
 rw[ua _ (by rw[gS,h];rfl),map_append];rfl
noncomputable def i3 (es:Es)(p:Nat):List Nat:=(List.range es.length).filter fun k=>decide ((es.getD k (0,0)).2=p)
noncomputable def fB (es:Es)(p:Nat):List Nat:=(List.range es.length).filter fun k=>decide ((es.getD k (0,0)).1=p)
theorem pJ (es:Es)(k:Nat):(es.map zp).getD k (0,0)=zp (es.getD k (0,0)):=by
 rw[getD_eq_getElem?_getD,getD_eq_getElem?_getD,List.getElem?_map]
 cases es[k]?<;>rfl
theorem MN (es:Es)(p:Nat):jK Prod.snd (es.map zp) (p:Int) (es.map zp).length=nV (i3 es p):=by
 unfold jK i3 nV
 rw[length_map]
 congr 1
 refine filter_congr fun k _=>?_
 rw[pJ]
 show decide (((es.getD k (0,0)).2:Int)=(p:Int))=decide ((es.getD k (0,0)).2=p)
 by_cases h:(es.getD k (0,0)).2=p
 ·rw[decide_eq_true h,decide_eq_true (by omega)]
 ·rw[decide_eq_false h,decide_eq_false (by omega)]
theorem yL (es:Es)(p:Nat):jK Prod.fst (es.map zp) (p:Int) (es.map zp).length=nV (fB es p):=by
 unfold jK fB nV
 rw[length_map]
 congr 1
 refine filter_congr fun k _=>?_
 rw[pJ]
 show decide (((es.getD k (0,0)).1:Int)=(p:Int))=decide ((es.getD k (0,0)).1=p)
 by_cases h:(es.getD k (0,0)).1=p
 ·rw[decide_eq_true h,decide_eq_true (by omega)]
 ·rw[decide_eq_false h,decide_eq_false (by omega)]
theorem wg (es:Es)(p:Nat):(fB es p).length <= es.length:=by
 unfold fB
 exact le_trans (length_filter_le _ _) (by rw[length_range];exact le_refl _)
theorem MO {es:Es}{p k:Nat}(h:k ∈ i3 es p):∃ s,es[k]? = some (s,p)/\es.getD k (0,0)=(s,p):=by
 obtain⟨h1,h2⟩:=mem_filter.mp h
 have hk:=mem_range.mp h1
 have e:=List.getElem?_eq_getElem hk
 have e2:es.getD k (0,0)=es[k]:=by rw[getD_eq_getElem?_getD,e];rfl
 have h2:(es.getD k (0,0)).2=p:=of_decide_eq_true h2
 refine⟨es[k].1,?_,?_⟩
 ·rw[e,← h2,e2]
 ·rw[e2,← h2,e2]
noncomputable def Pw (n:Nat)(es:Es):Prop:=∀ e ∈ es,e.1 < n/\e.2 < n
noncomputable def xI (c:Cs):Sp:=fun vs H Q _=>∃ (lx Aw lt:Addr)(Ag:List V)(n:Nat)(es:Es)(g:Nat),vs=[.ref lx, .int g]/\c6 H c lx Aw lt (n:Int) Ag (es.map zp)/\Pw n es/\es.length <= 100/\n <= 100/\g < n /\
 ∀ (fa:Addr)(fs:Es)(H':Hp),zW H H'->H fa=none->zU n es g fs->H' fa=some (.dK (fs.map fk))->Q (.ref fa) H'
structure Lm (K:Frag)(c:Cs)(fs fe fo fi:Addr)(ds de JA di:FuncData):Prop where
 ms:bz K c.land "start_of" fs
 bs:Binds K ds ["self", "lane"] []
 me:bz K c.land "end_of" fe
 be:Binds K de ["self", "lane"] []
 mo:bz K c.land "out_of" fo
 bo:Binds K JA ["self", "place"] []
 mi:bz K c.land "into" fi
 bi:Binds K di ["self", "place"] []
noncomputable abbrev NH:List Str:=["land", "goal", "far", "line", "looked_at", "place", "lane", "start"]
theorem HE:ao NH ["land", "goal"] (ai yA):=L2.Ax
theorem zh {c:Cs}{f f1 f2 f3 f4:Addr}{fd d1 d2 d3 d4:FuncData}(F:As K "how_far" "how_far" yA f fd)(T:dR mg)(L:lY K c)(M:Lm K c f1 f2 f3 f4 d1 d2 d3 d4)
  (Gs:zX P w K mg base aC 1 f1 d1 ["self", "lane"] (oF c Prod.fst)) (Gi:zX P w K mg base aC 1 f4 d4 ["self", "place"] (qZ c Prod.snd)):zX P w K mg base aC 2 f fd ["land", "goal"] (xI c):=by
 refine F.ok HE (fun vs H Q E h=>?_) (fun cdv A outer s H vs Q E hr h=>?_)
 ·obtain⟨lx,Aw,lt,Ag,n,es,g,rfl,_⟩:=h
  rfl
 ·obtain⟨lx,Aw,lt,Ag,n,es,g,rfl,hL,Co,HD,hn,hg,q⟩:=h
  have hu:=kK hr
  refine⟨_,af (aE (i:=2) HE.nd rfl (Or.inl rfl) (wf (uf (pv 1) aj wc) rfl rfl (by intro z;cases z) (by decide)))
   (af (aE (i:=3) HE.nd rfl (Or.inl rfl) (aV (aa (pv 1) ad)))
   (af (aE (i:=4) HE.nd rfl (Or.inl rfl) aj)
   (af (uc PassesOwn.never (ax qt (pv 4) (az aw rfl T.len PySem.boot_len (aa (pv 3) ad)) (aB _))
    (af (aE (i:=5) HE.nd rfl (Or.inl rfl) (av aI (pv 3) (pv 4) (fun _ _=>rfl)))
    (af (yI (i:=4) HE.nd rfl (Or.inl rfl) aj zy)
    (ah (bv PassesOwn.never rfl (bA (aA (pv 0) L.cl M.mi Gi hr M.bi .nil ap (aa (pv 5) ad))) (au (i:=6) HE.nd rfl (Or.inl rfl))
     (af (aE (i:=7) HE.nd rfl (Or.inl rfl) (aA (pv 0) L.cl M.ms Gs hr M.bs .nil ap (aa (pv 6) ad)))
     (ah (aO (ub (rm hu (pv 7) (pv 2)))
      (af (wb hu (pv 2) (pv 7) (aD bR (qo hu (pv 2) (pv 5) (fun _ _=>rfl)) aj) rfl)
      (ah (aK (cu plainAttrs_list PySem.F.slot_list_append PySem.F.type_list_append b7 (pv 3) (aa (pv 7) ad))))) aH))))))))
   (ah (ar (pv 2)))))),?_⟩
  have land:∀ {H':Hp},zW H H'->c6 H' c lx Aw lt (n:Int) Ag (es.map zp):=fun s'=>⟨s' _ _ hL.1,s' _ _ hL.2.1,Aq.same s' hL.2.2⟩
  refine fun fa DW=>⟨_,rfl,ac,[fk (g,0)],rfl,(by show 1 <= 15;decide),?_⟩
  have s0:zW H (upd (upd H fa (.dK [])) fa (.dK (fE [] [fk (g,0)]))):=fun b o e=>by rw[ae (ag e DW),ae (ag e DW)];exact e
  have SO:(upd (upd H fa (.dK [])) fa (.dK (fE [] [fk (g,0)]))) fa=some (.dK ([(g,0)].map fk)):=ac
  generalize upd (upd H fa (.dK [])) fa (.dK (fE [] [fk (g,0)]))=H0 at s0 SO ⊢
  refine⟨_,rfl,by show 1 <= sizeLine;decide,fun ln AK=>?_⟩
  have s1:=s0.new (o := .lst [.int g]) AK
  have SQ:H ln=none:=s0.free AK
  have Pq:(upd H0 ln (.lst [.int g])) ln=some (.lst (nV ([(g,0)].map (·.1)))):=ac
  have Xz:(upd H0 ln (.lst [.int g])) fa=some (.dK ([(g,0)].map fk)):=by rw[ae (ag SO AK)];exact SO
  generalize upd H0 ln (.lst [.int g])=H1 at s1 Pq Xz ⊢
  refine⟨fun m σ H'=>∃ (fs:Es)(i:Nat)(a5 a6 a7:Option V),m=n - i/\DV n es g fs i/\zW H H'/\H' fa=some (.dK (fs.map fk))/\H' ln=some (.lst (nV (fs.map (·.1))))/\σ=[some (.ref lx),some (.int g),some (.ref fa),some (.ref ln),some (.int (i:Nat)),a5,a6,a7],
   ⟨n - 0,[(g,0)],0,none,none,none,rfl,rZ hg,s1,Xz,Pq,rfl⟩,?_⟩
  rintro m σ H2 ⟨fs,i,a5,a6,a7,rfl,hB,s2,gf,gl,rfl⟩
  have De:=hB.AZ
  refine⟨_,rfl,_,rfl,ln,_,rfl, .inl (Aa.of gl),_,_,rfl,rfl,_,rfl,?_⟩
  by_cases hi:i < fs.length
  rotate_left
  ·have e:i=fs.length:=by have:=hB.le;omega
   subst e
   rw[decide_eq_false (by rw[dA,length_map];omega)]
   exact aJ ⟨_,rfl,q fa fs H2 s2 DW hB.far gf⟩
  rw[decide_eq_true (by rw[dA,length_map];omega)]
  have hy:=List.getElem?_eq_getElem hi
  generalize fs[i]=pd at hy
  obtain⟨p,d⟩:=pd
  have hp:p < n:=hB.lt _ (mem_of_getElem? hy)
  have BL:(nV (fs.map (·.1)))[i]? = some (.int (p:Int)):=lH (by rw[List.getElem?_map,hy];rfl)
  refine aN ⟨fun σ' H'=>∃ (AH:Es)(a5 a6 a7:Option V),DV n es g AH (i + 1)/\zW H H'/\H' fa=some (.dK (AH.map fk))/\H' ln=some (.lst (nV (AH.map (·.1))))/\σ' = [some (.ref lx),some (.int g),some (.ref fa),some (.ref ln),some (.int ((i:Int) + 1)),a5,a6,a7],
   fun σ' H' ⟨AH,a5,a6,a7,h1,h2,h3,h4,h5⟩=>⟨n - (i + 1),by omega,AH,i + 1,a5,a6,a7,rfl,h1,h2,h3,h4,h5⟩,?_⟩
  refine⟨_,rfl,_,rfl,ln,_,_,_,rfl,rfl,Aa.of gl,ak BL,?_⟩
  refine⟨_,rfl,_,_,rfl,rfl,?_⟩
  refine⟨_,rfl,lx,Aw,_,rfl,(land s2).1,rfl,_,rfl,lx,Aw,lt,(n:Int),Ag,es.map zp,(p:Int),rfl,land s2,by rw[length_map];omega,fun H3 Ia s3 SR=>?_⟩
  rw[MN]
  have u3:=s3.new (o := .lst (nV (i3 es p))) SR
  have gI:(upd H3 Ia (.lst (nV (i3 es p)))) Ia=some (.lst (nV (i3 es p))):=ac
  have nIl:Ia ≠ ln:=Ne.symm (ag (s3 _ _ gl) SR)
  have nIf:Ia ≠ fa:=Ne.symm (ag (s3 _ _ gf) SR)
  have X0:ln ≠ fa:=aX gl gf (by intro z;cases z)
  generalize upd H3 Ia (.lst (nV (i3 es p)))=H4 at u3 gI ⊢
  refine⟨Ia,rfl,⟨_,Aa.of gI⟩,?_⟩
  refine eA (K:=K) (a:=Ia) (xs:=nV (i3 es p)) (fun m σ H5=>∃ (AH:Es)(a6 a7:Option V),DV n es g AH i/\AH[i]? = some (p,d)/\(∀ k ∈ (i3 es p).take m,(es.getD k (0,0)).1 ∈ AH.map (·.1))/\zW H H5/\H5 Ia=some (.lst (nV (i3 es p)))/\H5 fa=some (.dK (AH.map fk))/\H5 ln=some (.lst (nV (AH.map (·.1)))) /\
    σ=[some (.ref lx),some (.int g),some (.ref fa),some (.ref ln),some (.int ((i:Int) + 1)),some (.int p),a6,a7])
   ⟨fs,_,_,hB,hy,fun k hk=>by simp at hk,s2.trans u3,gI,u3 _ _ gf,u3 _ _ gl,rfl⟩ (fun m σ H5 _ ⟨_,_,_,_,_,_,_,g5,_⟩=>Aa.of g5) ?_ ?_
  ·rintro m v σ H5 hv ⟨AH,a6,a7,JB,hy',Bt,s5,SS,JC,Px,rfl⟩
   have hm:m < (i3 es p).length:=by have:=(List.getElem?_eq_some_iff.mp hv).1;rw[dA]at this;exact this
   have hk0:=List.getElem?_eq_getElem hm
   have Jq:=lH hk0
   rw[Jq]at hv
   have hv:=Option.some.inj hv
   subst hv
   generalize hke:(i3 es p)[m]=k at hk0
   obtain⟨st,hk1,Pu⟩:=MO (mem_of_getElem? hk0)
   have MP:=mem_of_getElem? hk1
   have Du:=(Co _ MP).1
   have step:∀ {SU:Es},(∀ x ∈ AH.map (·.1),x ∈ SU.map (·.1))->st ∈ SU.map (·.1)->∀ k ∈ (i3 es p).take (m + 1),(es.getD k (0,0)).1 ∈ SU.map (·.1):=fun KU MA k' R4=>by
    rw[take_succ,hk0]at R4
    rcases mem_append.mp R4 with h | h
    ·exact KU _ (Bt k' h)
    ·have:k' = k:=by simpa using h
     rw[this,Pu];exact MA
   refine⟨_,rfl,lx,Aw,_,rfl,(land s5).1,rfl,_,rfl,lx,Aw,lt,(n:Int),Ag,es.map zp,k,zp (st,p),rfl,land s5,by rw[List.getElem?_map,hk1];rfl,?_⟩
   refine⟨_,rfl,_,rfl,fa,_,rfl,BW.k (k:=Sum.inl (st:Int)) JC,_,rfl,?_⟩
   rw[gS]
   have X6:=JB.AZ
   cases DK:lk AH st with
   | some d'=>exact aJ ⟨AH,_,_,JB,hy',step (fun x hx=>hx) (mem_map.mpr ⟨_,iw DK,rfl⟩),s5,SS,JC,Px,rfl⟩
   | none =>
    refine aN ?_
    refine⟨_,rfl,_,rfl,fa, .int (d:Int),rfl,?_,_,_,rfl,rfl,_,rfl,_,rfl,fa,_,rfl,EJ.k (k:=Sum.inl (st:Int)) JC (by rw[sizeLine_eq,length_map];omega),?_⟩
    ·have:=BW.k (k:=Sum.inl (p:Int)) JC
     rw[gS,iJ JB.nd (mem_of_getElem? hy')]at this
     exact this
    dsimp only
    have ep:cK (AH.map fk) (Sum.inl (st:Int)) (V.int ((d:Int) + 1))=(AH ++ [(st,d + 1)]).map fk:=yH (d:=d + 1) DK
    have X7:(upd H5 fa (.dK (cK (AH.map fk) (Sum.inl (st:Int)) (V.int ((d:Int) + 1))))) Ia=some (.lst (nV (i3 es p))):=by rw[ae nIf];exact SS
    have SV:(upd H5 fa (.dK (cK (AH.map fk) (Sum.inl (st:Int)) (V.int ((d:Int) + 1))))) ln=some (.lst (nV (AH.map (·.1)))):=by rw[ae X0];exact Px
    have X8:(upd H5 fa (.dK (cK (AH.map fk) (Sum.inl (st:Int)) (V.int ((d:Int) + 1))))) fa=some (.dK ((AH ++ [(st,d + 1)]).map fk)):=by rw[ac,ep]
    have s6:zW H (upd H5 fa (.dK (cK (AH.map fk) (Sum.inl (st:Int)) (V.int ((d:Int) + 1))))):=fun b o e=>by rw[ae (ag e DW)];exact s5 _ _ e
    generalize upd H5 fa (.dK (cK (AH.map fk) (Sum.inl (st:Int)) (V.int ((d:Int) + 1))))=H6 at X7 SV X8 s6 ⊢
    refine⟨_,rfl, .inl ⟨rfl,_,Aa.of SV⟩,_,rfl,ln,_,_,rfl,rfl,SV,by rw[sizeLine_eq,dA,length_map];omega,?_⟩
    have SN:i < AH.length:=(List.getElem?_eq_some_iff.mp hy').1
    refine⟨AH ++ [(st,d + 1)],_,_,JB.push hy' Du MP DK,by rw[List.getElem?_append_left SN];exact hy',step (fun x hx=>by rw[map_append];exact mem_append_left _ hx) (by rw[map_append];exact mem_append_right _ (by simp)),fun b o e=>by rw[ae (ag e SQ)];exact s6 _ _ e,by rw[ae nIl];exact X7,by rw[ae (Ne.symm X0)];exact X8,?_,rfl⟩
    rw[ac,map_append,uM];rfl
  ·rintro σ H5 ⟨AH,a6,a7,JB,hy',Bt,s5,SS,JC,Px,rfl⟩
   rw[dA,take_length]at Bt
   refine⟨AH,_,_,_,JB.next hy' (fun st Du=>?_),s5,JC,Px,rfl⟩
   obtain⟨k,hk⟩:=List.getElem?_of_mem Du
   have hk1:es.getD k (0,0)=(st,p):=by rw[getD_eq_getElem?_getD,hk];rfl
   have:=Bt k (mem_filter.mpr ⟨mem_range.mpr (List.getElem?_eq_some_iff.mp hk).1,by rw[hk1];exact decide_eq_true rfl⟩)
   rw[hk1]at this
   exact this
noncomputable def jD (fs:Es)(d:Nat)(e:Nat):Bool:=match lk fs e with
 | some d'=>decide (d' + 1=d)
 | none=>false
noncomputable def dz (es fs:Es)(p d:Nat):List Nat:=(fB es p).filter fun k=>jD fs d (es.getD k (0,0)).2
theorem ui (es:Es)(p:Nat):(fB es p).Pairwise (· < ·):=List.Pairwise.filter _ pairwise_lt_range
theorem rE (es fs:Es)(p d:Nat):(dz es fs p d).Pairwise (· < ·):=List.Pairwise.filter _ (ui es p)
theorem qw {es fs:Es}{p d k:Nat}(h:k ∈ dz es fs p d):k < es.length:=mem_range.mp (mem_filter.mp (mem_filter.mp h).1).1
theorem nh {ks:List Nat}(h:ks.Pairwise (· < ·)):wT (Yd.AE ks 0)=nV ks:=by
 rw[wS,pb (ks:=ks) (ms:=iz ks) ?_ (fun k=>Iff.rfl),wY];rfl
 unfold iz
 exact List.Pairwise.map _ (fun a b Ht=>by show (a:Int) < (b:Int);omega) h
theorem yM {es:Es}{p k:Nat}(h:k ∈ fB es p):∃ e,es[k]? = some (p,e)/\es.getD k (0,0)=(p,e):=by
 obtain⟨h1,h2⟩:=mem_filter.mp h
 have hk:=mem_range.mp h1
 have e:=List.getElem?_eq_getElem hk
 have e2:es.getD k (0,0)=es[k]:=by rw[getD_eq_getElem?_getD,e];rfl
 have h2:(es.getD k (0,0)).1=p:=of_decide_eq_true h2
 refine⟨es[k].2,?_,?_⟩
 ·rw[e,← h2,e2]
 ·rw[e2,← h2,e2]
noncomputable def vN:V->Nat
 | .int z=>z.toNat
 | _=>0
theorem iS (es fs:Es)(d:Nat):∀ l:List Nat,((nV l).filter fun v=>jD fs d (es.getD (vN v) (0,0)).2).map (fun v=>v)=nV (l.filter fun k=>jD fs d (es.getD k (0,0)).2)
 | []=>rfl
 | x :: l=>by
  have ih:=iS es fs d l
  show((V.int (x:Int) :: nV l).filter _).map _=_
  rw[List.filter_cons,List.filter_cons]
  have e:vN (V.int (x:Int))=x:=toNat_natCast x
  rw[e]
  cases jD fs d (es.getD x (0,0)).2 with
  | true=>rw[if_pos rfl,if_pos rfl,map_cons,ih];rfl
  | false=>rw[if_neg (by decide),if_neg (by decide),ih]
noncomputable def MQ (c:Cs):Sp:=fun vs H Q _=>∃ (lx Aw lt fa:Addr)(Ag:List V)(n:Nat)(es fs:Es)(g p d:Nat),vs=[.ref lx, .ref fa, .int p]/\c6 H c lx Aw lt (n:Int) Ag (es.map zp)/\es.length <= 100/\Rd H fa (.dK (fs.map fk))/\zU n es g fs/\lk fs p=some d /\
 ∀ (D:Addr)(H':Hp),zW H H'->H D=none->H' D=some (.lst (nV (dz es fs p d)))->Q (.ref D) H'
theorem tY {H:Hp}{fa:Addr}{fs:Es}(h:Rd H fa (.dK (fs.map fk)))(p:Nat):BW H fa (.int (p:Int)) ((lk fs p).map fun d:Nat=>V.int (d:Int)) := .inl ⟨_,Sum.inl (p:Int),h,rfl,(gS p fs).symm⟩
theorem lz {H H':Hp}{a:Addr}{u:HO}(s:zW H H')(h:Rd H a u):Rd H' a u:=by
 rcases h with h | ⟨o,h⟩
 ·exact .inl (s _ _ h)
 ·exact .inr ⟨o,s _ _ h⟩
noncomputable def MR (s:Stmt):Scope:=match aG s with
 | .Return (some (.ListComp _ _ sc _)) _ :: _=>sc
 | _=>{ kind := .function,names:=[],isGenerator:=false,isCoroutine:=false }
theorem SW:ao ["land", "far", "place"] ["land", "far", "place"] (ai Ll):=L2.Ax
theorem SX:Ba ["land", "far", "place"] (ai Ll) (MR Ll) ["land", "far", "place"] [0,1,2]:=L2.BI
theorem SY:(["lane", "land", "far", "place"]:List Str).Nodup:=by decide +kernel
theorem MS {c:Cs}{f f1 f2 f3 f4:Addr}{fd d1 d2 d3 d4:FuncData}(F:As K "nearer_lanes" "nearer_lanes" Ll f fd)(T:dR mg)(L:lY K c)(M:Lm K c f1 f2 f3 f4 d1 d2 d3 d4)
  (Ge:zX P w K mg base aC 1 f2 d2 ["self", "lane"] (oF c Prod.snd)) (Go:zX P w K mg base aC 1 f3 d3 ["self", "place"] (qZ c Prod.fst)):zX P w K mg base aC 2 f fd ["land", "far", "place"] (MQ c):=by
 refine F.ok SW (fun vs H Q E h=>?_) (fun cdv A outer s H vs Q E hr h=>?_)
 ·obtain⟨lx,Aw,lt,fa,Ag,n,es,fs,g,p,d,rfl,_⟩:=h
  rfl
 ·obtain⟨lx,Aw,lt,fa,Ag,n,es,fs,g,p,d,rfl,hL,HD,DW,hF,DK,q⟩:=h
  have hu:=kK hr
  refine⟨_,ah (ar (bB (own:=["lane"]) (capN:=["land", "far", "place"]) (cap:=[0,1,2]) SX rfl (bA (aA (pv 0) L.cl M.mo Go hr M.bo .nil ap (aa (pv 2) ad)))
   (fun C s' H' fp=>⟨au (i:=0) SY rfl (Or.inl rfl),c7 (ax bG (uh hu (pv 2) (aA (pv 1) L.cl M.me Ge hr M.be .nil ap (aa (pv 0) ad)) ⟨rfl,rfl,rfl,rfl⟩) (aD eP (qo hu (pv 2) (pv 3) (fun _ _=>rfl)) aj) (aB _)),pv 0⟩))),?_⟩
  refine⟨_,rfl,lx,Aw,_,rfl,hL.1,rfl,_,rfl,lx,Aw,lt,(n:Int),Ag,es.map zp,(p:Int),rfl,hL,by rw[length_map];omega,fun H1 O s1 hO=>?_⟩
  rw[yL]
  have s2:=s1.new (o := .lst (nV (fB es p))) hO
  have gO:(upd H1 O (.lst (nV (fB es p)))) O=some (.lst (nV (fB es p))):=ac
  generalize upd H1 O (.lst (nV (fB es p)))=H2 at s2 gO ⊢
  have Ic:=wg es p
  refine⟨O,rfl,⟨_,Aa.of gO⟩,fL (fun v=>jD fs d (es.getD (vN v) (0,0)).2) (fun v=>v) (by rw[sizeLine_eq,dA];omega) (Aa.of gO) ?_ ?_⟩
  ·intro v acc N hv hN
   obtain⟨k,hk,rfl⟩:=uK hv
   obtain⟨e,he1,Fm⟩:=yM hk
   have ek:vN (V.int (k:Int))=k:=toNat_natCast k
   rw[ek,Fm]at hN
   have hN:N (if jD fs d e=true then acc ++ [V.int (k:Int)] else acc) H2:=hN
   have gd:=tY (lz s2 DW) p
   rw[DK]at gd
   refine⟨_,rfl,fa,rfl, .inl ⟨_,lz s2 DW⟩,_,rfl,lx,Aw,_,rfl,s2 _ _ hL.1,rfl,_,rfl,lx,Aw,lt,(n:Int),Ag,es.map zp,k,zp (p,e),rfl,⟨s2 _ _ hL.1,s2 _ _ hL.2.1,Aq.same s2 hL.2.2⟩,by rw[List.getElem?_map,he1];rfl,_,tY (lz s2 DW) e,?_⟩
   refine⟨_,rfl,_,rfl,fa,_,rfl,gd,_,_,rfl,rfl,?_⟩
   unfold jD at hN
   cases hle:lk fs e with
   | none =>
    rw[hle]at hN
    refine⟨rfl,_,rfl,?_⟩
    exact aJ hN
   | some d' =>
    rw[hle]at hN
    refine⟨rfl,_,rfl,?_⟩
    show(if decide (V.int (d':Int)=V.int ((d:Int) - 1))=true then _ else _)
    by_cases hd:d' + 1=d
    ·have hN:N (if decide (d' + 1=d)=true then acc ++ [V.int (k:Int)] else acc) H2:=hN
     rw[decide_eq_true hd,if_pos rfl]at hN
     rw[decide_eq_true (by rw[show (d:Int) - 1=(d':Int) by omega])]
     exact aN ⟨_,rfl,hN⟩
    ·have hN:N (if decide (d' + 1=d)=true then acc ++ [V.int (k:Int)] else acc) H2:=hN
     rw[decide_eq_false hd,if_neg (by decide)]at hN
     rw[decide_eq_false (fun z=>hd (by injection z with z;omega))]
     exact aJ hN
  ·intro D hD
   rw[iS]
   exact q D _ (s2.new hD) (s2.free hD) ac
structure lX where
 tab:Addr
 near:Addr
noncomputable def kk (p g:Nat):gk:=[some (p:Int),some (g:Int)]
theorem DL {p g p' g':Nat}:kk p g=kk p' g'↔p=p'/\g=g':=by
 unfold kk
 constructor
 ·intro h
  have h1:=List.cons.inj h
  have h2:=List.cons.inj h1.2
  have e1:=Option.some.inj h1.1
  have e2:=Option.some.inj h2.1
  omega
 ·rintro⟨rfl,rfl⟩;rfl
noncomputable def rS (es fs:Es)(p:Nat):Option V:=(lk fs p).map fun d=>V.int (Yd.AE (dz es fs p d) 0:Nat)
noncomputable def oa (n:Nat)(es:Es)(kvs:List dQ)(G:Nat):Prop:=(∀ g,g < G->∃ fs,zU n es g fs/\∀ p,ce kvs (kk p g)=rS es fs p)/\∀ g,G <= g->∀ p,ce kvs (kk p g)=none
noncomputable def v5 (n:Nat)(es:Es)(kvs:List dQ)(G:Nat)(fs:Es)(j:Nat):Prop:=(∀ g,g < G->∃ fs,zU n es g fs/\∀ p,ce kvs (kk p g)=rS es fs p)/\(∀ p,ce kvs (kk p G)=if p ∈ (fs.take j).map (·.1) then rS es fs p else none)/\∀ g,G < g->∀ p,ce kvs (kk p g)=none
theorem rR {n:Nat}{es:Es}{kvs:List dQ}{G:Nat}{fs:Es}(h:oa n es kvs G):v5 n es kvs G fs 0 :=
 ⟨h.1,fun p=>by rw[h.2 G (le_refl _) p,if_neg (by simp)],fun g hg p=>h.2 g (by omega) p⟩
theorem xi {n:Nat}{es:Es}{kvs:List dQ}{G:Nat}{fs:Es}(f:zU n es G fs)(h:v5 n es kvs G fs fs.length):oa n es kvs (G + 1):=by
 refine⟨fun g hg=>?_,fun g hg p=>h.2.2 g (by omega) p⟩
 rcases lt_or_ge g G with h1 | h1
 ·exact h.1 g h1
 ·have e:g=G:=by omega
  subst e
  refine⟨fs,f,fun p=>?_⟩
  rw[h.2.1 p,take_length]
  by_cases hp:p ∈ fs.map (·.1)
  ·rw[if_pos hp]
  ·rw[if_neg hp];unfold rS;rw[CO.mpr hp];rfl
theorem ve {n:Nat}{es:Es}{kvs:List dQ}{G:Nat}{fs:Es}{j p d:Nat}{b:Addr}(hn:(fs.map (·.1)).Nodup)(hj:fs[j]? = some (p,d))(h:v5 n es kvs G fs j) :
  v5 n es (fz kvs (kk p G) b (.int (Yd.AE (dz es fs p d) 0:Nat))) G fs (j + 1):=by
 have DK:=iJ hn (mem_of_getElem? hj)
 refine⟨fun g hg=>?_,fun p'=>?_,fun g hg p'=>?_⟩
 ·obtain⟨AH,f',h'⟩:=h.1 g hg
  refine⟨AH,f',fun p'=>?_⟩
  rw[gY,if_neg (fun z=>by have:=(DL.mp z).2;omega),h' p']
 ·rw[gY]
  by_cases e:p' = p
  ·subst e
   rw[if_pos rfl,if_pos (by rw[take_succ,hj,map_append];exact mem_append_right _ (by simp))]
   unfold rS;rw[DK];rfl
  ·rw[if_neg (fun z=>e (DL.mp z).1),h.2.1 p',take_succ,hj,map_append]
   by_cases hm:p' ∈ (fs.take j).map (·.1)
   ·rw[if_pos hm,if_pos (mem_append_left _ hm)]
   ·rw[if_neg hm,if_neg]
    intro z
    rcases mem_append.mp z with z | z
    ·exact hm z
    ·exact e (by simpa using z)
 ·rw[gY,if_neg (fun z=>by have:=(DL.mp z).2;omega),h.2.2 g hg p']
noncomputable def xv (P:Program)(w:World)(H:Hp)(ts:lX)(x dx:Addr)(lx:Addr)(de:Addr)(kvs:List dQ):Prop:=H x=some (.ins ts.near dx [("land", .ref lx),("entries", .ref de)])/\AQ P w H de kvs
noncomputable def sO (P:Program)(w:World)(c:Cs)(ts:lX):Sp:=fun vs H Q _=>∃ (x dx lx Aw lt:Addr)(Ag:List V)(n:Nat)(es:Es),vs=[.ref x, .ref lx]/\H x=some (.ins ts.near dx [])/\c6 H c lx Aw lt (n:Int) Ag (es.map zp)/\Pw n es/\es.length <= 100/\n <= 100 /\
 ∀ H' de kvs,Off x H H'->xv P w H' ts x dx lx de kvs->oa n es kvs n->Q .An H'
structure Ta (K:Frag)(mg:Str->Option Value)(ts:lX)(f1:Addr)(d1:FuncData):Prop where
 cl:C6 K ts.near
 n1:Ak K ts.near "land"
 n2:Ak K ts.near "entries"
 mt:mg "Table" = some (.ref ts.tab)
 cm:vA K ts.tab "__init__" f1
 bt:Binds K d1 ["self", "land"] []
noncomputable abbrev NNr:List Str:=["self", "land", "goal", "far", "place"]
theorem FQ:ao NNr ["self", "land"] (ai tK):=L2.Ax
theorem wB {c:Cs}{ts:lX}{f ft fh fn fs:Addr}{fd dt dh dn ds:FuncData}(F:As K "__init__" "Nearer.__init__" tK f fd)(T:dR mg)(L:lY K c)(B:Ta K mg ts ft dt)(G1:zX P w K mg base aC 1 ft dt ["self", "land"] (sI K))
  (mh:mg "how_far" = some (.ref fh)) (kh:keepIn K (.ref fh)=true) (bh:Binds K dh ["land", "goal"] []) (Gh:zX P w K mg base aC 2 fh dh ["land", "goal"] (xI c))
  (mn:mg "nearer_lanes" = some (.ref fn)) (kn:keepIn K (.ref fn)=true) (bn:Binds K dn ["land", "far", "place"] []) (Gn:zX P w K mg base aC 2 fn dn ["land", "far", "place"] (MQ c))
  (ms:mg "set_of" = some (.ref fs)) (ks:keepIn K (.ref fs)=true) (bs:Binds K ds ["numbers"] []) (Gs:zX P w K mg base aC 1 fs ds ["numbers"] (sJ K)) :
  zX P w K mg base aC 3 f fd ["self", "land"] (sO P w c ts):=by
 refine F.ok FQ (fun vs H Q E h=>?_) (fun cdv A outer s H vs Q E hr h=>?_)
 ·obtain⟨x,dx,lx,Aw,lt,Ag,n,es,rfl,_⟩:=h
  rfl
 ·obtain⟨x,dx,lx,Aw,lt,Ag,n,es,rfl,hx,hL,Co,HD,hn,q⟩:=h
  have AI:Ah 1 _:=hr.mono (by decide)
  have hu:=kK hr
  refine⟨_,af (aK (mS (eO (v := .ref ts.tab) rfl B.mt rfl) B.cm G1 AI B.bt .nil ap (aa (pv 0) (aa (pv 1) ad))))
   (af (aR (pv 0) (show PE _ _ (sA P w) from qm) rfl)
   (ah (bv PassesOwn.never rfl (aL rfl T.range (aa (al (pv 1) rfl) ad)) (au (i:=2) FQ.nd rfl (Or.inl rfl))
    (af (aE (i:=3) FQ.nd rfl (Or.inl rfl) (aq Gh hr rfl mh kh bh .nil ap (aa (pv 1) (aa (pv 2) ad))))
    (ah (bv PassesOwn.never rfl (we (pv 3)) (au (i:=4) FQ.nd rfl (Or.inl rfl))
     (ah (qk hu (al (pv 0) rfl) (bH (aa (pv 4) (aa (pv 2) ad))) (aq Gs AI rfl ms ks bs .nil ap (aa (aq Gn hr rfl mn kn bn .nil ap (aa (pv 1) (aa (pv 3) (aa (pv 4) ad)))) ad)) rfl)))))))),?_⟩
  refine⟨rfl,_,rfl,_,rfl,x,ts.near,dx,_,rfl,hx,B.cl,B.n1,?_⟩
  refine fun de Dx=>⟨_,rfl,x,ts.near,dx,[("land", .ref lx)],rfl,by rw[ae (ag ac Dx)];exact ac,B.cl,B.n2,by show 1 < 1000;decide,?_⟩
  have Fq:x ≠ de:=ag ac Dx
  have EM:H de=none:=by rw[ae (Ne.symm Fq)]at Dx;exact Dx
  generalize ED:upd (upd (upd H x (.ins ts.near dx [("land", .ref lx)])) de (jZ P w de [])) x (.ins ts.near dx (aM "entries" (.ref de) [("land", .ref lx)]))=H2
  have o2:Off x H H2:=fun b o hb e=>by rw[← ED,ae hb,ae (ag e EM),ae hb];exact e
  have x2:H2 x=some (.ins ts.near dx [("land", .ref lx),("entries", .ref de)]):=by rw[← ED,ac];rfl
  have d2:AQ P w H2 de []:=⟨by rw[← ED,ae (Ne.symm Fq),ac],fun y hy=>by cases hy⟩
  have Cn:=Off.land o2 hx hL
  refine⟨_,rfl,lx,c.land,Aw,_,_,rfl,Cn.1,L.cl,L.np,rfl,(n:Int),rfl,by omega,by omega,?_⟩
  rw[toNat_natCast]
  refine aY (n:=n) (fun G σ H3=>∃ (a2 a3 a4:Option V)(kvs:List dQ),Off x H H3/\xv P w H3 ts x dx lx de kvs/\kvs.length <= G * 100/\oa n es kvs G/\σ=[some (.ref x),some (.ref lx),a2,a3,a4])
   ⟨none,none,none,[],o2,⟨x2,d2⟩,zero_le _,⟨fun g hg=>absurd hg (not_lt_zero _),fun g _ p=>rfl⟩,rfl⟩ ?_ ?_
  ·rintro G σ H3 hG ⟨a2,a3,a4,kvs,o3,n3,l3,e3,rfl⟩
   rw[zero_add]
   have CK:=Off.land o3 hx hL
   refine⟨_,rfl,_,rfl,lx,Aw,lt,Ag,n,es,G,rfl,CK,Co,HD,hn,hG,fun fa AH H4 s4 DW hF gfa=>?_⟩
   have De:AH.length <= n:=by
    have:=ir n (AH.map (·.1)) hF.nd fun y hy=>by
     obtain⟨z,hz,rfl⟩:=mem_map.mp hy
     exact hF.lt z hz
    rwa [length_map]at this
   refine⟨_,rfl,fa,_,rfl,gfa,fun ob=>?_⟩
   have X9:(upd H4 fa (.BK ob (.dK (AH.map fk)))) fa=some (.BK ob (.dK (AH.map fk))):=ac
   have s5:zW H3 (upd H4 fa (.BK ob (.dK (AH.map fk)))):=fun b o e=>by rw[ae (ag e DW)];exact s4 _ _ e
   generalize upd H4 fa (.BK ob (.dK (AH.map fk)))=H5 at X9 s5 ⊢
   have nfa:H fa=none∨fa=x:=by
    by_cases h:fa=x
    ·exact .inr h
    ·exact .inl (by cases e:H fa with | none=>rfl | some o=>rw[o3 _ _ h e]at DW;cases DW)
   refine vb (a:=fa) (o:=ob) (kvs:=AH.map fk) (fun j σ H6=>∃ (a4:Option V)(kvs:List dQ),Off x H H6/\xv P w H6 ts x dx lx de kvs/\kvs.length <= G * 100 + j/\v5 n es kvs G AH j/\H6 fa=some (.BK ob (.dK (AH.map fk)))/\σ=[some (.ref x),some (.ref lx),some (.int G),some (.ref fa),a4])
    ⟨_,kvs,o3.same s5,⟨s5 _ _ n3.1,n3.2.same s5⟩,l3,rR e3,X9,rfl⟩ (fun j σ H6 _ ⟨_,_,_,_,_,_,g6,_⟩=>g6) ?_ ?_
   ·rintro j k σ H6 hk ⟨a4,kvs,o6,n6,l6,e6,g6,rfl⟩
    have hj:j < AH.length:=by have:=(List.getElem?_eq_some_iff.mp hk).1;simpa using this
    have hjp:=List.getElem?_eq_getElem hj
    generalize AH[j]=pd at hjp
    obtain⟨p,d⟩:=pd
    have ek:k=Sum.inl (p:Int):=by
     rw[List.getElem?_map,List.getElem?_map,hjp]at hk
     exact(Option.some.inj hk).symm
    subst ek
    rw[show kV (Sum.inl (p:Int))=V.int (p:Int) from rfl]
    have DK:=iJ hF.nd (mem_of_getElem? hjp)
    have hL6:=Off.land o6 hx hL
    refine⟨_,rfl,_,rfl,_,rfl,lx,Aw,lt,fa,Ag,n,es,AH,G,p,d,rfl,hL6,HD, .inr ⟨_,g6⟩,hF,DK,fun O H7 s7 hO gO=>?_⟩
    refine⟨O,dz es AH p d,rfl,Aa.of gO,fun k hk=>by have:=qw hk;omega,?_⟩
    have n7x:=s7 _ _ n6.1
    refine⟨_,rfl,x,ts.near,dx,_,_,rfl,n7x,B.cl,B.n2,rfl,_,rfl,_,rfl,by show 2 <= sizeLine;decide,fun kt R8=>?_⟩
    have s8:=s7.new (o := .tup [.int p, .int G]) R8
    have k8:(upd H7 kt (.tup [.int p, .int G])) kt=some (.tup ((kk p G).map sh)):=ac
    generalize upd H7 kt (.tup [.int p, .int G])=H8 at s8 k8 ⊢
    have d8:=n6.2.same s8
    refine⟨de,kvs,kk p G,kt,rfl,d8,rfl,k8,by rw[sizeLine_eq];have:G * 100 <= 100 * 100:=Nat.mul_le_mul_right _ (by omega);omega,?_⟩
    have nfd:fa ≠ de:=fun z=>by
     have h1:=s8 _ _ g6
     rw[z,d8.1]at h1
     cases h1
    have MT:∀ b ks,H8 b=some (.tup ks)->(upd H8 de (jZ P w de (fz kvs (kk p G) kt (.int (Yd.AE (dz es AH p d) 0:Nat))))) b=some (.tup ks):=fun b ks e=>by
     rw[ae (fun z=>by rw[z,d8.1]at e;cases e)];exact e
    refine⟨_,fz kvs (kk p G) kt (.int (Yd.AE (dz es AH p d) 0:Nat)),fun b o hb e=>?_,⟨?_,ac,k9 (F:=fun k a=>(upd H8 de (jZ P w de (fz kvs (kk p G) kt (.int (Yd.AE (dz es AH p d) 0:Nat))))) a=some (.tup (k.map sh))) (fun y hy=>MT _ _ (d8.2 y hy)) (MT _ _ k8)⟩,?_,ve hF.nd hjp e6,?_,rfl⟩
    ·rw[ae (ag e EM)];exact s8 _ _ (o6 _ _ hb e)
    ·rw[ae Fq];exact s8 _ _ n6.1
    ·have:=fv (kvs:=kvs) (k:=kk p G) (b:=kt) (v := .int (Yd.AE (dz es AH p d) 0:Nat));omega
    ·rw[ae nfd];exact s8 _ _ g6
   ·rintro σ H6 ⟨a4,kvs,o6,n6,l6,e6,g6,rfl⟩
    rw[length_map]at l6 e6
    refine⟨_,_,_,kvs,o6,n6,?_,xi hF e6,rfl⟩
    rw[Nat.succ_mul];omega
  ·rintro σ H3 ⟨a2,a3,a4,kvs,o3,n3,l3,e3,rfl⟩
   exact q H3 de kvs o3 n3 e3
noncomputable def ld (es fs:Es)(p:Nat):List Nat:=match lk fs p with
 | some d=>dz es fs p d
 | none=>[]
theorem mq (es fs:Es)(p:Nat):(ld es fs p).Pairwise (· < ·):=by
 unfold ld
 split
 ·exact rE _ _ _ _
 ·exact List.Pairwise.nil
theorem sm {es fs:Es}{p k:Nat}(h:k ∈ ld es fs p):k < es.length:=by
 unfold ld at h
 split at h
 ·exact qw h
 ·cases h
theorem qA {H:Hp}{l:Addr}{xs:List V}{o:HO}(hl:H l=some (.lst xs)):∀ {vs:List V}{ps:List (Int × Int)},Aq H vs ps->Aq (upd H l o) vs ps
 | _,_, .nil => .nil
 | _,_, .cons ⟨t,e,q⟩ r => .cons ⟨t,e,by rw[ae (aX q hl (by intro z;cases z))];exact q⟩ (qA hl r)
theorem wU {ks:List Nat}(h:ks.Pairwise (· < ·)):mN (Yd.AE ks 0)=ks:=uL (nh h)
noncomputable def MU (kvs:List dQ):Wf:=fun p g _=>mN (vN ((ce kvs (kk p g)).getD (.int 0)))
noncomputable def JD (P:Program)(w:World)(ts:lX):TJ:=fun H x n wy=>∃ (dx lx de:Addr)(kvs:List dQ)(es:Es),xv P w H ts x dx lx de kvs/\oa n es kvs n/\es.length <= 100/\∀ p g k,p < n->g < n->wy p g k=MU kvs p g k
theorem pO {n:Nat}{es:Es}{kvs:List dQ}(h:oa n es kvs n){g:Nat}(hg:g < n)(p:Nat)(k:Option Nat):∃ fs,zU n es g fs/\MU kvs p g k=ld es fs p/\(ce kvs (kk p g)).getD (.int 0) = .int (Yd.AE (ld es fs p) 0:Nat):=by
 obtain⟨fs,hF,hv⟩:=h.1 g hg
 have ev:(ce kvs (kk p g)).getD (.int 0) = .int (Yd.AE (ld es fs p) 0:Nat):=by
  rw[hv p]
  unfold rS ld
  cases lk fs p<;>rfl
 refine⟨fs,hF,?_,ev⟩
 unfold MU
 rw[ev]
 show mN (((Yd.AE (ld es fs p) 0:Nat):Int)).toNat=_
 rw[toNat_natCast,wU (mq es fs p)]
theorem xW {n:Nat}{es:Es}{kvs:List dQ}(h:oa n es kvs n){g p z:Nat}{k:Option Nat}(hg:g < n)(hz:z ∈ MU kvs p g k):z < es.length:=by
 obtain⟨fs,_,e,_⟩:=pO h hg p k
 rw[e]at hz
 exact sm hz
theorem JD.keep {P:Program}{w:World}{ts:lX}{H H':Hp}{x:Addr}{n:Nat}{wy:Wf}(h:JD P w ts H x n wy)(k:AA H H'):JD P w ts H' x n wy:=by
 obtain⟨dx,lx,de,kvs,es,⟨h1,h2,h3⟩,h4⟩:=h
 exact⟨dx,lx,de,kvs,es,⟨k _ _ h1 True.intro,k _ _ h2 True.intro,fun y hy=>k _ _ (h3 y hy) True.intro⟩,h4⟩
noncomputable def qb:Sp:=fun vs H Q _=>∃ (n m:Nat)(c:Int),vs=[.int n, .int m, .int c]/\2 <= n/\n <= 12/\m <= 100/\∀ (D:Addr)(Ai:List V)(es:Es)(H':Hp),zW H H'->H D=none->H' D=some (.lst Ai)->Aq H' Ai (es.map zp)->Pw n es->(∀ e ∈ es,e.1 ≠ e.2)->es.length=m->Q (.ref D) H'
noncomputable abbrev NLn:List Str:=["_law_places", "_law_amount", "_law_cell", "_law_lanes_here", "_law_k", "_law_draw", "_law_start"]
theorem vP:ao ["self", "lane"] ["self", "lane"] (ai oJ):=L2.Ax
theorem ut {c:Cs}{f:Addr}{fd:FuncData}(F:As K "start_of" "Land.start_of" oJ f fd)(L:lY K c):zX P w K mg base aC 1 f fd ["self", "lane"] (oF c Prod.fst):=by
 refine F.ok vP (fun vs H Q E h=>?_) (fun cdv A outer s H vs Q E hr h=>?_)
 ·obtain⟨x,dx,t,n,Ag,ps,k,pr,rfl,_⟩:=h
  rfl
 ·obtain⟨x,dx,t,n,Ag,ps,k,pr,rfl,⟨hx,ht,hl⟩,hk,q⟩:=h
  refine⟨_,ah (ar (av aF (av aF (al (pv 0) rfl) (pv 1) (fun _ _=>rfl)) aj (fun _ _=>rfl))),?_⟩
  obtain⟨v,hv,u,rfl,hu⟩:=Aq.EK hl hk
  refine⟨_,rfl,x,c.land,dx,_,_,rfl,hx,L.cl,L.nl,rfl,_,rfl,t,_,_,_,rfl,rfl,Af.of ht,ak hv,u,_,0,_,rfl,rfl,Af.of hu,ak (j:=0) rfl,q⟩
theorem Tb:ao ["self", "place", "goal", "came"] ["self", "place", "goal", "came"] (ai t8):=L2.Ax
theorem uq {ts:lX}{f fm f1:Addr}{fd dm d1:FuncData}(F:As K "ways" "Nearer.ways" t8 f fd)(B:Ta K mg ts f1 d1)(mm:mg "members" = some (.ref fm))(km:keepIn K (.ref fm)=true)(bm:Binds K dm ["some"] [])
  (Gm:zX P w K mg base aC 2 fm dm ["some"] sP):zX P w K mg base aC 3 f fd ["self", "place", "goal", "came"] (eK (JD P w ts)):=by
 refine F.ok Tb (fun vs H Q E h=>?_) (fun cdv A outer s H vs Q E hr h=>?_)
 ·obtain⟨x,n,wy,p,g,k,rfl,_⟩:=h
  rfl
 ·obtain⟨x,n,wy,p,g,k,rfl,⟨dx,lx,de,kvs,es,hx,hE,HD,hwy⟩,hp,hg,q⟩:=h
  rw[hwy p g k hp hg]at q
  have hu:=kK hr
  refine⟨_,ah (ar (aq Gm hr rfl mm km bm .nil ap (aa (mR hu (al (pv 0) rfl) (aa (bH (aa (pv 1) (aa (pv 2) ad))) (aa aj ad))) ad))),?_⟩
  refine⟨_,rfl,x,ts.near,dx,_,_,rfl,hx.1,B.cl,B.n2,rfl,de,kvs,rfl,hx.2,?_⟩
  refine⟨_,rfl,_,rfl,by show 2 <= sizeLine;decide,fun t ht=>?_⟩
  have s1:zW H (upd H t (.tup [.int p, .int g])):=(zW.refl H).new ht
  refine⟨_,_,ce kvs (kk p g),rfl,⟨kvs,kk p g,t,hx.2.same s1,rfl,ac,rfl⟩,?_⟩
  obtain⟨fs,hF,ew,ev⟩:=pO hE hg p k
  rw[ev]
  refine⟨_,rfl,lt_of_lt_of_le (tq fun k hk=>sm hk) (pow_le_pow_right (by decide) (by omega)),fun D hD=>?_⟩
  exact q D _ (s1.new hD) (s1.free hD) (by rw[ac,nh (mq es fs p),ew])
theorem EZ:ao NLn ["_law_places", "_law_amount", "_law_cell"] (ai oP):=L2.Ax
theorem uA {f fm:Addr}{fd dm:FuncData}(F:As K "_law_lanes" "_law_lanes" oP f fd)(T:dR mg)(mm:mg "_law_mixed" = some (.ref fm))(km:keepIn K (.ref fm)=true)(bm:Binds K dm ["_law_cell", "_law_k"] [])
  (Gm:zX P w K mg base aC 1 fm dm ["_law_cell", "_law_k"] m9):zX P w K mg base aC 2 f fd ["_law_places", "_law_amount", "_law_cell"] qb:=by
 refine F.ok EZ (fun vs H Q E h=>?_) (fun cdv A outer s H vs Q E hr h=>?_)
 ·obtain⟨n,m,c,rfl,_⟩:=h
  rfl
 ·obtain⟨n,m,c,rfl,Er,RI,hm,q⟩:=h
  refine⟨_,af (aE (i:=3) EZ.nd rfl (Or.inl rfl) (aV ad))
   (af (bv PassesOwn.never rfl (aL rfl T.range (aa (pv 1) ad)) (au (i:=4) EZ.nd rfl (Or.inl rfl))
    (af (aE (i:=5) EZ.nd rfl (Or.inl rfl) (aq Gm hr rfl mm km bm .nil ap (aa (pv 2) (aa (pv 4) ad))))
    (af (aE (i:=6) EZ.nd rfl (Or.inl rfl) (aD bJ (pv 5) (pv 0)))
    (ah (aK (cu plainAttrs_list PySem.F.slot_list_append PySem.F.type_list_append b7 (pv 3) (aa (bH (aa (pv 6) (aa (aD bJ (aD bR (aD bR (pv 6) aj) (aD bJ (aD c9 (pv 5) aj) (aD eP (pv 0) aj))) (pv 0)) ad))) ad)))))))
   (ah (ar (pv 3)))),?_⟩
  have two:(2:Nat) <= sizeLine:=by decide
  refine⟨zero_le _,fun D hD=>?_⟩
  have s0:=(zW.refl H).new (o := .lst []) hD
  refine⟨_,rfl,(m:Int),rfl,by omega,by omega,?_⟩
  rw[toNat_natCast]
  refine aY (n:=m) (fun i σ H2=>∃ (a3 a4 a5:Option V)(Ai:List V)(es:Es),zW H H2/\H2 D=some (.lst Ai)/\Aq H2 Ai (es.map zp)/\Pw n es/\(∀ e ∈ es,e.1 ≠ e.2)/\es.length=i/\σ=[some (.int n),some (.int m),some (.int c),some (.ref D),a3,a4,a5])
   ⟨none,none,none,[],[],s0,ac, .nil,(fun e he=>by cases he),(fun e he=>by cases he),rfl,rfl⟩ ?_ ?_
  ·rintro i σ H2 hi ⟨a3,a4,a5,Ai,es,s2,gD,Py,Co,Cg,hl,rfl⟩
   have Pz:(0:Int) < (n:Int):=by omega
   have XA:(0:Int) < (n:Int) - 1:=by omega
   rw[zero_add]
   refine⟨_,rfl,_,rfl,c,i,rfl,by omega,fun d hd=>?_⟩
   refine⟨_,rfl,_,rfl,_,_,rfl,rfl,Pz,?_⟩
   refine⟨_,rfl, .inl ⟨rfl,_,Aa.of gD⟩,_,rfl,_,rfl,_,_,rfl,rfl,_,rfl,_,_,rfl,rfl,⟨by decide,by decide⟩,_,rfl,_,_,rfl,rfl,_,_,rfl,rfl,XA,_,_,rfl,rfl,_,rfl,_,_,rfl,rfl,Pz,two,fun t1 h1=>?_⟩
   dsimp only at h1 ⊢
   have e1:=emod_nonneg d (show (n:Int) ≠ 0 by omega)
   have e2:=emod_lt_of_pos d Pz
   have e3:=emod_nonneg (d / 16) (show (n:Int) - 1 ≠ 0 by omega)
   have e4:=emod_lt_of_pos (d / 16) XA
   generalize d % (n:Int)=st at e1 e2 h1 ⊢
   generalize d / 16 % ((n:Int) - 1)=Fb at e3 e4 h1 ⊢
   have e5:=emod_nonneg (st + 1 + Fb) (show (n:Int) ≠ 0 by omega)
   have e6:=emod_lt_of_pos (st + 1 + Fb) Pz
   have e7:(st + 1 + Fb) % (n:Int) ≠ st:=by
    intro z
    rcases Int.lt_or_le (st + 1 + Fb) (n:Int) with h | h
    ·rw[Int.emod_eq_of_lt (by omega) h]at z;omega
    ·have:(st + 1 + Fb) % (n:Int)=st + 1 + Fb - n:=by
      rw[show st + 1 + Fb = (st + 1 + Fb - n) + n by omega,Int.add_emod_right,Int.emod_eq_of_lt (by omega) (by omega)];omega
     omega
   generalize (st + 1 + Fb) % (n:Int)=en at e5 e6 e7 h1 ⊢
   obtain⟨s',Jw,Tc⟩:∃ s':Nat,st=(s':Int)/\s' < n:=⟨st.toNat,by omega,by omega⟩
   obtain⟨n',CQ,Td⟩:∃ n':Nat,en=(n':Int)/\n' < n:=⟨en.toNat,by omega,by omega⟩
   subst Jw CQ
   have u1:=(zW.refl H2).new (o := .tup [.int (s':Int), .int (n':Int)]) h1
   have v1:(upd H2 t1 (.tup [.int (s':Int), .int (n':Int)])) t1=some (.tup [.int (s':Int), .int (n':Int)]):=ac
   have nT:t1 ≠ D:=Ne.symm (ag gD h1)
   generalize upd H2 t1 (.tup [.int (s':Int), .int (n':Int)])=H3 at u1 v1 ⊢
   have XB:=u1 _ _ gD
   have E3:Ai.length=es.length:=by rw[Paired.length Py,length_map]
   refine⟨D,Ai,_,rfl,rfl,XB,by rw[sizeLine_eq];omega,?_⟩
   refine⟨_,_,_,Ai ++ [.ref t1],es ++ [(s',n')],fun b o e=>by rw[ae (ag e hD)];exact u1 _ _ (s2 _ _ e),ac,?_,fun e he=>?_,fun e he=>?_,by rw[length_append,hl];rfl,rfl⟩
   ·rw[map_append]
    exact Aq.snoc (p:=zp (s',n')) ⟨t1,rfl,by rw[ae nT];exact v1⟩ (qA XB (Aq.same u1 Py))
   ·rcases mem_append.mp he with he | he
    ·exact Co e he
    ·rw[mem_singleton.mp he];exact⟨Tc,Td⟩
   ·rcases mem_append.mp he with he | he
    ·exact Cg e he
    ·rw[mem_singleton.mp he];show s' ≠ n';omega
  ·rintro σ H2 ⟨a3,a4,a5,Ai,es,s2,gD,Py,Co,Cg,hl,rfl⟩
   exact⟨_,rfl,q D Ai es H2 s2 hD gD Py Co Cg hl⟩
noncomputable def vB:Option Nat->Nat
 | none=>0
 | some k=>k + 1
noncomputable def tX (r:Rw):Nat:=(r.p.toNat * 100 + r.g.toNat) * 100 + vB r.c
theorem zt {a b:Rw}(h:aZ a=aZ b):tX a=tX b:=by
 unfold aZ at h
 injection h with h1 h2
 injection h2 with h2 h3
 injection h3 with h3 _
 injection h1 with h1
 injection h2 with h2
 have h4:a.c=b.c:=by
  cases ha:a.c with
  | none=>cases hb:b.c with
   | none=>rfl
   | some k=>rw[ha,hb]at h3;cases h3
  | some k=>cases hb:b.c with
   | none=>rw[ha,hb]at h3;cases h3
   | some k' =>
    rw[ha,hb]at h3
    have h3:some (k:Int)=some (k':Int):=h3
    injection h3 with h3
    rw[show k=k' by omega]
 unfold tX
 rw[h1,h2,h4]
structure DX (n:Nat)(ps:List (Int × Int))(B:Nat)(rs:List Rw):Prop where
 sort:(rs.map tX).Pairwise (· < ·)
 low:∀ r ∈ rs,tX r < B
 fit:∀ r ∈ rs,eY n ps r=true
 AZ:∀ r ∈ rs,r.s.length <= 40
theorem DX.up {n:Nat}{ps:List (Int × Int)}{B B':Nat}{rs:List Rw}(h:DX n ps B rs)(l:B <= B'):DX n ps B' rs:=⟨h.sort,fun r hr=>lt_of_lt_of_le (h.low r hr) l,h.fit,h.AZ⟩
theorem DX.snoc {n:Nat}{ps:List (Int × Int)}{B:Nat}{rs:List Rw}{r:Rw}(h:DX n ps B rs)(hr:B <= tX r)(hf:eY n ps r=true)(hl:r.s.length <= 40):DX n ps (tX r + 1) (rs ++ [r]):=by
 refine⟨?_,fun x hx=>?_,fun x hx=>?_,fun x hx=>?_⟩
 ·rw[map_append,List.pairwise_append]
  refine⟨h.sort,by simp,fun x hx y hy=>?_⟩
  obtain⟨r',G9,rfl⟩:=mem_map.mp hx
  have hy:y=tX r:=by simpa using hy
  rw[hy]
  exact lt_of_lt_of_le (h.low r' G9) hr
 ·rcases mem_append.mp hx with hx | hx
  ·have:=h.low x hx;omega
  ·rw[mem_singleton.mp hx];omega
 ·rcases mem_append.mp hx with hx | hx
  ·exact h.fit x hx
  ·rw[mem_singleton.mp hx];exact hf
 ·rcases mem_append.mp hx with hx | hx
  ·exact h.AZ x hx
  ·rw[mem_singleton.mp hx];exact hl
theorem DX.good {n:Nat}{ps:List (Int × Int)}{B:Nat}{rs:List Rw}(h:DX n ps B rs):dC n ps rs rs.length=none:=by
 refine gh fun k hk=>?_
 have hr:rs[k]? = some rs[k]:=List.getElem?_eq_getElem hk
 have Pa:rs.getD k ⟨0,0,none,[]⟩ = rs[k]:=by rw[getD_eq_getElem?_getD,hr];rfl
 rw[Pa,iB,h.fit _ (getElem_mem hk)]
 have Te:((rs.take k).any fun a=>decide (aZ a=aZ rs[k]))=false:=by
  rw[List.any_eq_false]
  intro a ha hd
  have e:=zt (of_decide_eq_true hd)
  obtain⟨j,hj,ea⟩:=List.mem_take_iff_getElem.mp ha
  have hj':j < k:=by omega
  have:=pairwise_iff_getElem.mp h.sort j k (by rw[length_map];omega) (by rw[length_map];exact hk) hj'
  rw[getElem_map,getElem_map,ea]at this
  omega
 rw[Te];rfl
theorem kL {n:Int}{ps:List (Int × Int)}{r:Rw}(h:eY n ps r=true):∀ k ∈ r.s,k < ps.length:=by
 unfold eY at h
 simp only[Bool.and_eq_true,all_eq_true,decide_eq_true_eq]at h
 intro k hk
 exact mem_range.mp (mem_filter.mp (h.2.2 k hk)).1
noncomputable def mz (rs:List Rw)(k:gk):Nat:=match e9 rs k with
 | some r=>Yd.AE r.s 0
 | none=>0
theorem nq {rs:List Rw}{k:gk}{r:Rw}(h:e9 rs k=some r):r ∈ rs:=mem_reverse.mp (List.mem_of_find?_eq_some h)
noncomputable def JE (rs:List Rw):Wf:=fun p g k=>mN (mz rs (aZ ⟨(p:Int),(g:Int),k,[]⟩))
noncomputable def C9 (P:Program)(w:World)(ts:Ts):TJ:=fun H x n wy=>∃ (dx de:Addr)(lv:V)(kvs:List dQ)(rs:List Rw),H x=some (.ins ts.told dx [("land",lv),("entries", .ref de)])/\AQ P w H de kvs/\(∀ k,ce kvs k=(e9 rs k).map tw)/\(∀ r ∈ rs,∀ k ∈ r.s,k < 40)/\wy=JE rs
theorem C9.keep {P:Program}{w:World}{ts:Ts}{H H':Hp}{x:Addr}{n:Nat}{wy:Wf}(h:C9 P w ts H x n wy)(k:AA H H'):C9 P w ts H' x n wy:=by
 obtain⟨dx,de,lv,kvs,rs,h1,⟨h2,h3⟩,h4⟩:=h
 exact⟨dx,de,lv,kvs,rs,k _ _ h1 True.intro,⟨k _ _ h2 True.intro,fun y hy=>k _ _ (h3 y hy) True.intro⟩,h4⟩
theorem zn {ks:List Nat}{z:Nat}(h:z ∈ mN (Yd.AE ks 0)):z ∈ ks:=by
 have:=(mem_filter.mp h).2
 have h2:(Yd.AE ks 0).testBit z=true:=this
 rw[qW,decide_eq_true_eq]at h2
 obtain⟨n,hn,e⟩:=Bw.mp h2
 have:n=z:=by omega
 exact this ▸ hn
theorem nk (m:Nat):(mN m).Nodup:=List.nodup_range.filter _
theorem sj {rs:List Rw}{n:Nat}(h:∀ r ∈ rs,∀ k ∈ r.s,k < n)(p g:Nat)(k:Option Nat):(∀ z ∈ JE rs p g k,z < n)/\(JE rs p g k).length <= n:=by
 have h1:∀ z ∈ JE rs p g k,z < n:=fun z hz=>by
  unfold JE mz at hz
  cases hl:e9 rs (aZ ⟨(p:Int),(g:Int),k,[]⟩) with
  | none=>rw[hl]at hz;exact absurd hz (by show z ∉ mN 0;intro h;cases h)
  | some r=>rw[hl]at hz;exact h r (nq hl) z (zn hz)
 exact⟨h1,dX n _ (nk _) h1⟩
theorem ow {ts:Ts}{f:Addr}{fd:FuncData}(G:zX P w K mg base aC 3 f fd ["self", "place", "goal", "came"] (pR P w ts)):zX P w K mg base aC 3 f fd ["self", "place", "goal", "came"] (eK (C9 P w ts)) :=
 G.imp fun vs H Q E Aj=>by
 obtain⟨x,n,wy,p,g,k,e,⟨dx,de,lv,kvs,rs,h1,h2,h3,h4,h5⟩,hp,hg,q⟩:=Aj
 exact⟨x,dx,de,lv,kvs,⟨(p:Int),(g:Int),k,[]⟩,mz rs (aZ ⟨(p:Int),(g:Int),k,[]⟩),e,h1,h2,by
  rw[h3]
  unfold mz
  cases e9 rs (aZ ⟨(p:Int),(g:Int),k,[]⟩)<;>rfl,by
  unfold mz
  cases hl:e9 rs (aZ ⟨(p:Int),(g:Int),k,[]⟩) with
  | none=>exact Nat.two_pow_pos _
  | some r=>exact lt_of_lt_of_le (tq (h4 r (nq hl))) (pow_le_pow_right (by decide) (by decide)),fun H' D s' hD=>q D _ (s'.new hD) (s'.free hD) (by rw[ac,h5];rfl)⟩
theorem qP {sel:Int × Int->Int}{ps:List (Int × Int)}{pl:Int}{g:TG}{tt:TT}{te:TE}{σ0:St}{H:Hp}{Q:VK}(hn:ps.length < sizeLine)
  (hs:∀ (i:Nat)(acc:List V)(N:List V->Hp->Prop)(pr:Int × Int),ps[i]? = some pr->N (if decide (sel pr=pl)=true then acc ++ [V.int i] else acc) H->g (.int i) σ0 H fun σ2 H2=>tt σ2 H2 fun b H3=>if b=true then te σ2 H3 fun y H4=>N (acc ++ [y]) H4 else N acc H3)
  (hq:∀ D,H D=none->Q (.ref D) (upd H D (.lst (bV (eV sel ps pl))))):dE (vx 0 ps.length) g tt te σ0 Q H:=by
 refine nI (lo:=0) (fun k=>decide (sel (ps.getD k (0,0))=pl)) (fun k=>V.int k) hn (fun i acc N hi h=>?_) hq
 obtain⟨pr,hpr⟩:∃ pr,ps[i]? = some pr:=⟨ps[i],List.getElem?_eq_getElem hi⟩
 have eg:ps.getD i (0,0)=pr:=by rw[getD_eq_getElem?_getD,hpr];rfl
 rw[zero_add]
 rw[eg]at h
 exact hs i acc N pr hpr h
noncomputable def Tf (x:Addr)(H:Hp)(v:V)(r:Rw):Prop:=∃ t l,v = .ref t/\Ij H t l r/\l ≠ x
noncomputable abbrev Cp (x:Addr)(H:Hp):List V->List Rw->Prop:=Paired (Tf x H)
theorem Cp.imp {x:Addr}{H H':Hp}{G:V->Rw->Prop}(h:∀ v r,Tf x H v r->G v r):∀ {vs:List V}{rs:List Rw},Cp x H vs rs->Paired G vs rs
 | _,_, .nil => .nil
 | _,_, .cons z r => .cons (h _ _ z) (Cp.imp (H':=H') h r)
theorem Cp.rws {x:Addr}{H:Hp}{vs:List V}{rs:List Rw}(h:Cp x H vs rs):Dz H vs rs:=Cp.imp (H':=H) (fun _ _ ⟨t,l,e,z,_⟩=>⟨t,l,e,z⟩) h
theorem Cp.same {x:Addr}{H H':Hp}(s:zW H H'){vs:List V}{rs:List Rw}(h:Cp x H vs rs):Cp x H' vs rs:=Cp.imp (H':=H) (fun _ _ ⟨t,l,e,z,n⟩=>⟨t,l,e,z.same s,n⟩) h
theorem Cp.off {x:Addr}{H:Hp}{xs:List V}{o:HO}(hx:H x=some (.lst xs)){vs:List V}{rs:List Rw}(h:Cp x H vs rs):Cp x (upd H x o) vs rs :=
 Cp.imp (H':=H) (fun _ _ ⟨t,l,e,z,n⟩=>⟨t,l,e,⟨by rw[ae (aX z.1 hx (by intro z;cases z))];exact z.1,by rw[ae n];exact z.2⟩,n⟩) h
theorem Cp.snoc {x:Addr}{H:Hp}{v:V}{r:Rw}(h:Tf x H v r):∀ {vs:List V}{rs:List Rw},Cp x H vs rs->Cp x H (vs ++ [v]) (rs ++ [r])
 | _,_, .nil => .cons h .nil
 | _,_, .cons z t => .cons z (Cp.snoc h t)
theorem Tg (m k:Nat):decide (V.int (Builtin.bitAnd ((m:Int) / 2 ^ (k:Int).toNat) 1)=V.int 1)=m.testBit k:=by
 rw[gJ,toNat_natCast,← Yd.DP m k]
theorem rW {K:Frag}{a:Addr}{xs:List Nat}{g:TG}{tt:TT}{te:TE}{σ0:St}{H:Hp}{Q:VK}(q:Nat->Bool)(hn:xs.length < sizeLine)(ha:Aa K H a (bV xs))
  (hs:∀ (k:Nat)(acc:List V)(N:List V->Hp->Prop),k ∈ xs->N (if q k then acc ++ [V.int (k:Int)] else acc) H->g (.int (k:Int)) σ0 H fun σ2 H2=>tt σ2 H2 fun b H3=>if b=true then te σ2 H3 fun y H4=>N (acc ++ [y]) H4 else N acc H3)
  (hq:∀ D,H D=none->Q (.ref D) (upd H D (.lst (bV (xs.filter q))))):dE (vy K a) g tt te σ0 Q H:=by
 refine fL (xs:=bV xs) (fun v=>match v with | .int k=>q k.toNat | _=>false) (fun v=>v) (by unfold bV;rw[length_map];exact hn) ha (fun x acc N hx h=>?_) fun D hD=>?_
 ·obtain⟨k,hk,rfl⟩:=mem_map.mp hx
  exact hs k acc N hk h
 ·have e:((bV xs).filter (fun v=>match v with | .int k=>q k.toNat | _=>false)).map (fun v=>v)=bV (xs.filter q):=by
   unfold bV
   rw[List.map_id'',List.filter_map]
   ·congr 1
   ·intro _;rfl
  rw[e]
  exact hq D hD
theorem DX.len {n:Nat}{ps:List (Int × Int)}{B:Nat}{rs:List Rw}(h:DX n ps B rs):rs.length <= B:=by
 have:=dX B (rs.map tX) (h.sort.imp fun h=>ne_of_lt h) fun x hx=>by
  obtain⟨r,hr,rfl⟩:=mem_map.mp hx
  exact h.low r hr
 rw[length_map]at this
 exact this
theorem vg {n:Nat}{ps:List (Int × Int)}(h1:1 <= n)(h2:n <= 12)(h3:ps.length <= 40)(h:∀ p ∈ ps,jC n p=true):fK n ps = .good:=by
 unfold fK
 rw[decide_eq_true (show (1:Int) <= (n:Int)/\(n:Int) <= 12 by omega),if_neg (by decide),if_neg (by omega),jX h]
noncomputable def nY (s:Stmt):Scope:=match s with
 | .Assign _ (.ListComp _ _ sc _) _=>sc
 | _=>{ kind := .function,names:=[],isGenerator:=false,isCoroutine:=false }
noncomputable def rC (b:List Stmt)(i:Nat):Stmt:=b.getD i (.Pass ⟨0,0,0,0⟩)
noncomputable def p8 (s:Stmt):List Stmt:=match s with
 | .For _ _ b _ _=>b
 | _=>[]
noncomputable def oi (x:V):Prop:=(∃ i,x = .int i)∨∃ t,x = .str t/\PyData.strOk t=true
structure JF (a:YA)(s:YS):Prop where
 lanes:s.lanes.length=a.ps.length
 lies:s.lies.length=a.n
 q0:∀ (k:Nat)(ln:cz),s.lanes[k]? = some ln->ln.qs=[]
 l0:∀ (p:Nat)(qs:List (Int × Int)),s.lies[p]? = some qs->qs=[]
 lets:∀ (m:Nat)(t:cp),s.U[m]? = some t->t.gone=0/\t.way=[]/\0 <= t.len/\t.len <= 60/\∃ x y:Nat,t.start=(x:Int)/\t.goal=(y:Int)/\x < a.n/\y < a.n
 done:∀ d ∈ s.done,∀ x ∈ d,oi x
theorem ym {α:Type}(f:α->Nat):∀ {L:List α},(∀ (k:Nat)(x:α),L[k]? = some x->f x=0)->(L.map f).sum=0
 | [],_=>rfl
 | x :: L,h=>by
  have h1:=h 0 x rfl
  have h2:=ym f (L:=L) fun k y hy=>h (k + 1) y hy
  simp only[map_cons,sum_cons];omega
theorem x8 {α:Type}(f:α->Int):∀ {L:List α},(∀ (k:Nat)(x:α),L[k]? = some x->f x=0)->(L.map f).sum=0
 | [],_=>rfl
 | x :: L,h=>by
  have h1:=h 0 x rfl
  have h2:=x8 f (L:=L) fun k y hy=>h (k + 1) y hy
  simp only[map_cons,sum_cons];omega
theorem JF.jnv {a:YA}{s:YS}(h:JF a s)(AZ:s.U.length <= 60)(D5:a.ps.length <= 40):Bk a s:=by
 refine⟨h.lanes,h.lies,AZ,D5,fun m t ht=>(h.lets m t ht).2.2.2.2,fun m t ht=>?_,fun k ln hk q hq=>?_,fun m t ht=>?_,fun m t ht _=>(h.lets m t ht).2.1,fun m t ht i l hi=>?_,fun m t ht l ln hl=>?_,fun k ln hk i j z q hi=>?_,fun k ln hk m t hm=>?_,?_⟩
 ·rw[(h.lets m t ht).2.1];exact⟨(fun l hl=>by cases hl),nodup_nil⟩
 ·rw[h.q0 k ln hk]at hq;cases hq
 ·obtain⟨h1,h2,h3,h4,_⟩:=h.lets m t ht
  rw[h1];exact⟨by omega,h3,h4⟩
 ·rw[(h.lets m t ht).2.1]at hi;cases hi
 ·rw[(h.lets m t ht).2.1]at hl;cases hl
 ·rw[h.q0 k ln hk]at hi;cases hi
 ·rw[h.q0 k ln hk]at hm;cases hm
 ·have h1:kg s=0:=ym _ fun k ln hk=>by rw[h.q0 k ln hk];rfl
  have h2:js s=0:=ym _ fun p qs hp=>by rw[h.l0 p qs hp];rfl
  have h3:gq s=0:=x8 _ fun m t ht=>(h.lets m t ht).1
  rw[h1,h2,h3];rfl
theorem JF.post {a:YA}{s:YS}(h:JF a s){x y:Nat}{l u:Int}(hx:x < a.n)(hy:y < a.n)(hl:0 <= l/\l <= 60):JF a (iQ s x y l u):=by
 refine⟨h.lanes,h.lies,h.q0,h.l0,fun m t ht=>?_,fun d hd z hz=>?_⟩
 ·have ht:(s.U ++ [⟨(x:Int),(y:Int),l,u,0,[]⟩])[m]? = some t:=ht
  by_cases hm:m < s.U.length
  ·rw[List.getElem?_append_left hm]at ht;exact h.lets m t ht
  ·have h3:=(List.getElem?_eq_some_iff.mp ht).1
   rw[length_append,length_singleton]at h3
   have em:m=s.U.length:=by omega
   subst em
   rw[List.getElem?_concat_length]at ht
   cases ht
   exact⟨rfl,rfl,hl.1,hl.2,x,y,rfl,rfl,hx,hy⟩
 ·rcases mem_append.mp hd with hd | hd
  ·exact h.done d hd z hz
  ·rw[mem_singleton.mp hd]at hz
   simp only[mem_cons,not_mem_nil,or_false]at hz
   rcases hz with rfl | rfl | rfl | rfl | rfl
   ·exact .inr ⟨_,rfl,by decide +kernel⟩
   ·exact .inl ⟨_,rfl⟩
   ·exact .inl ⟨_,rfl⟩
   ·exact .inl ⟨_,rfl⟩
   ·exact .inl ⟨_,rfl⟩
theorem rl {n a b:Nat}{wy:Wf}{m:Nat}{l u:Int}(ha:a < n)(hb:b < n)(hl:1 <= l/\l <= 60)(hu:Jz (.int u)=true)(Ht:a ≠ b)(hw:wy a b none ≠ [])(hm:m < 60):lD n wy m (.int a) (.int b) (.int l) (.int u) = .good:=by
 unfold lD
 rw[show kB (.int (a:Int)) 0 ((n:Int) - 1)=true from decide_eq_true (by omega),show kB (.int (b:Int)) 0 ((n:Int) - 1)=true from decide_eq_true (by omega),show kB (.int l) 1 60=true from decide_eq_true hl,hu,if_neg (by decide),if_neg (by decide),if_neg (by decide)]
 rw[if_neg (by
  rintro (h | h)
  ·have h:(a:Int)=(b:Int):=h
   omega
  ·have h:wy ((a:Int)).toNat ((b:Int)).toNat none=[]:=h
   rw[toNat_natCast,toNat_natCast]at h
   exact hw h),if_neg (by omega)]
noncomputable def kA (p:Int × Int):PyData := .tuple [.int p.1, .int p.2]
theorem i8 {K:Frag}{H:Hp}:∀ {vs:List V}{ps:List (Int × Int)},Aq H vs ps->gN K H vs (ps.map kA)
 | _,_, .nil => .nil
 | _,_, .cons ⟨t,e,h⟩ r => .cons (by subst e;exact .tup (Af.of h) (.cons (.int _) (.cons (.int _) .nil))) (i8 r)
theorem rb (ps:List (Int × Int)):BD (.list (ps.map kA)) 64:=(bD (m:=1) fun z hz=>by
 obtain⟨p,_,rfl⟩:=mem_map.mp hz
 exact c5 (m:=0) fun y hy=>by
  simp only[mem_cons,not_mem_nil,or_false]at hy
  rcases hy with rfl | rfl<;>exact bL _).le (by decide)
theorem qi (ms:List Mv):BD (.list (ms.map si)) 64:=(bD (m:=1) fun z hz=>by
 obtain⟨m,_,rfl⟩:=mem_map.mp hz
 exact jx m).le (by decide)
theorem FR:BD (.list []) 64:=(bD (m:=0) fun z hz=>by cases hz).le (by decide)
theorem xf {α:Type}(f:α->PyData)(l:List α):PyData.eqv (.list (l.map f)) (.list [])=l.isEmpty:=by
 cases l<;>simp[PyData.eqv,PyData.eqvAll]
theorem neN {K:Frag}{x y:V}{H:Hp}{Q:VK}{α:Type}{f:α->PyData}{l:List α}(h1:ke K H x (.list (l.map f)))(h2:ke K H y (.list []))(s:BD (.list (l.map f)) 64)(q:Q (.bl (!l.isEmpty)) H):yF K x y H Q :=
 ⟨_,_,h1,h2,s.shaped (le_refl _),FR.shaped (le_refl _),by rw[xf];exact q⟩
theorem j0 {ex:List Addr}{H H1 H2:Hp}(s:zW H H1)(o:Ae ex H1 H2)(hn:∀ b ∈ ex,H b=none):zW H H2:=fun b u e=>o b _ (fun z=>by rw[hn b z]at e;cases e) (s b u e)
noncomputable def vD:V->PyData
 | .int i => .int i
 | .str t => .str t
 | _ => .none
noncomputable def re (m:List V):PyData := .tuple (m.map vD)
theorem qK {K:Frag}{H:Hp}:∀ {m:List V},(∀ x ∈ m,oi x)->gN K H m (m.map vD)
 | [],_ => .nil
 | x :: m,h=>by
  refine .cons ?_ (qK fun y hy=>h y (mem_cons_of_mem _ hy))
  rcases h x mem_cons_self with ⟨i,rfl⟩ | ⟨t,rfl,_⟩
  ·exact .int i
  ·exact .str t
theorem fT {K:Frag}{H:Hp}:∀ {vs:List V}{ms:List (List V)},Paired (Bq H) vs ms->(∀ m ∈ ms,∀ x ∈ m,oi x)->gN K H vs (ms.map re)
 | _,_, .nil,_ => .nil
 | _,_, .cons ⟨t,e,h⟩ r,hm=>by
  subst e
  exact .cons (.tup (Af.of h) (qK (hm _ mem_cons_self))) (fT r fun m Fo=>hm m (mem_cons_of_mem _ Fo))
theorem tj {ms:List (List V)}(h:∀ m ∈ ms,∀ x ∈ m,oi x):BD (.list (ms.map re)) 64:=(bD (m:=1) fun z hz=>by
 obtain⟨m,hm,rfl⟩:=mem_map.mp hz
 refine c5 (m:=0) fun y hy=>?_
 obtain⟨x,hx,rfl⟩:=mem_map.mp hy
 rcases h m hm x hx with ⟨i,rfl⟩ | ⟨t,rfl,ht⟩
 ·exact bL _
 ·exact fN ht).le (by decide)
theorem Bk.done {a:YA}{s:YS}(J:Bk a s)(d:List (List V)):Bk a { s with done:=d }:=⟨J.lanes,J.lies,J.AZ,J.D5,J.lets,J.Bc,J.Bp,J.Cb,J.Bj,J.last,J.head,J.first,J.El,J.sum⟩
theorem Ti {a:YA}{Am:List V}(h:Am.length=a.ps.length):JF a (Y0 Am a.n):=by
 refine⟨by show(Am.map rJ).length=_;rw[length_map];exact h,by show(List.replicate a.n []).length=_;rw[length_replicate],fun k ln hk=>?_,fun p qs hp=>?_,fun m t ht=>?_,fun d hd=>?_⟩
 ·have hk:(Am.map rJ)[k]? = some ln:=hk
  rw[List.getElem?_map]at hk
  cases hr:Am[k]? with
  | none=>rw[hr]at hk;cases hk
  | some v=>rw[hr]at hk;cases hk;rfl
 ·have hp:(List.replicate a.n ([]:List (Int × Int)))[p]? = some qs:=hp
  exact eq_of_mem_replicate (mem_of_getElem? hp)
 ·have ht:([]:List cp)[m]? = some t:=ht
  cases ht
 ·have hd:d ∈ ([]:List (List V)):=hd
  cases hd
noncomputable def lim (xs:List Nat)(t:Nat):Nat:=if t=0 then 0 else xs.getD (t - 1) 0 + 1
theorem zo {xs:List Nat}(hs:xs.Pairwise (· < ·)){t p:Nat}(h:xs[t]? = some p):lim xs t <= p:=by
 unfold lim
 by_cases h0:t=0
 ·rw[if_pos h0];omega
 ·rw[if_neg h0]
  obtain⟨ht,e⟩:=List.getElem?_eq_some_iff.mp h
  have h1:=pairwise_iff_getElem.mp hs (t - 1) t (by omega) ht (by omega)
  rw[getD_eq_getElem?_getD,List.getElem?_eq_getElem (by omega)]
  rw[e]at h1
  exact h1
theorem uT {xs:List Nat}{t p:Nat}(h:xs[t]? = some p):lim xs (t + 1)=p + 1:=by
 unfold lim
 rw[if_neg (by omega),Nat.add_sub_cancel,getD_eq_getElem?_getD,h];rfl
theorem wV {xs:List Nat}(h:∀ p ∈ xs,p < 100):lim xs xs.length <= 100:=by
 unfold lim
 by_cases h0:xs.length=0
 ·rw[if_pos h0];omega
 ·rw[if_neg h0,getD_eq_getElem?_getD,List.getElem?_eq_getElem (show xs.length - 1 < xs.length by omega)]
  exact h _ (getElem_mem _)
end K50
namespace L2
open PySem
theorem zX.ex {P:Program}{w:World}{K:Frag}{mg:Str->Option Value}{base:Heap}{CX:pI}{k:Nat}{f:Addr}{fd:FuncData}{ps:List Str} {ι:Type} {sp:ι->Sp} (h:∀ i,zX P w K mg base CX k f fd ps (sp i)):zX P w K mg base CX k f fd ps (fun vs H Q E=>∃ i,sp i vs H Q E) :=
 ⟨fun vs H Q E ⟨i,q⟩=>(h i).len vs H Q E q,fun A outer s H args us vs Q E hr he hb hv ⟨i,hs⟩=>(h i).run A outer s H args us vs Q E hr he hb hv hs⟩
end L2
namespace K50
open PySem L2
variable {P:Program}{w:World}{K:Frag}{mg:Str->Option Value}{base:Heap}
noncomputable def bI (ps:List (Int × Int))(p:Nat):List (Option Nat):=none :: (eV Prod.snd ps (p:Int)).map some
theorem xn (ps:List (Int × Int))(p:Nat):[V.An] ++ bV (eV Prod.snd ps (p:Int))=(bI ps p).map cV:=by
 unfold bI bV
 rw[map_cons,map_map];rfl
theorem pB (ps:List (Int × Int))(p:Nat):((bI ps p).map vB).Pairwise (· < ·):=by
 unfold bI
 rw[map_cons,map_map,pairwise_cons]
 refine⟨fun x hx=>?_,?_⟩
 ·obtain⟨k,_,rfl⟩:=mem_map.mp hx
  show 0 < k + 1
  omega
 ·refine List.Pairwise.map _ (fun a b h=>?_) (List.Pairwise.filter _ pairwise_lt_range)
  show a + 1 < b + 1
  omega
theorem kU {ps:List (Int × Int)}{p:Nat}{cc:Option Nat}(h:cc ∈ bI ps p):vB cc <= ps.length/\∀ k,cc=some k->k ∈ eV Prod.snd ps (p:Int):=by
 rcases mem_cons.mp h with rfl | h
 ·exact⟨zero_le _,fun k e=>by cases e⟩
 ·obtain⟨k,hk,rfl⟩:=mem_map.mp h
  refine⟨?_,fun k' e=>by cases e;exact hk⟩
  have:=mem_range.mp (mem_filter.mp hk).1
  show k + 1 <= _
  omega
noncomputable def sK:Sp:=fun vs H Q _=>∃ (l:Addr)(Ai:List V)(ps:List (Int × Int))(n:Nat)(cl:Int),vs=[.int n, .ref l, .int cl]/\H l=some (.lst Ai)/\Aq H Ai ps/\(∀ p ∈ ps,jC n p=true)/\ps.length <= 10/\2 <= n/\n <= 5 /\
 ∀ (D:Addr)(Am:List V)(rs:List Rw)(H':Hp),zW H H'->H D=none->H' D=some (.lst Am)->Dz H' Am rs->DX n ps 50000 rs->Q (.ref D) H'
noncomputable abbrev P0:List Str:=["_law_places", "_law_lanes_here", "_law_cell", "_law_rows_here", "_law_place", "_law_out", "_law_cames", "_law_goal", "_law_came", "_law_draw", "_law_ways"]
noncomputable def zO (s:Stmt):Scope:=match s with
 | .Assign _ (.BinOp _ _ (.ListComp _ _ sc _) _) _=>sc
 | _=>{ kind := .function,names:=[],isGenerator:=false,isCoroutine:=false }
noncomputable def lE:List Stmt:=p8 (rC (aG j1) 1)
noncomputable def xa:List Stmt:=p8 (rC (p8 (rC lE 2)) 0)
theorem BA:ao P0 ["_law_places", "_law_lanes_here", "_law_cell"] (ai j1):=L2.Ax
theorem MV:Ba P0 (ai j1) (nY (rC lE 0)) ["_law_lanes_here", "_law_place"] [1,4]:=L2.BI
theorem MW:Ba P0 (ai j1) (zO (rC lE 1)) ["_law_lanes_here", "_law_place"] [1,4]:=L2.BI
theorem MX:Ba P0 (ai j1) (nY (rC xa 1)) ["_law_draw"] [9]:=L2.BI
theorem xN:(["_law_lane", "_law_lanes_here", "_law_place"]:List Str).Nodup:=by decide +kernel
theorem MY:(["_law_lane", "_law_draw"]:List Str).Nodup:=by decide +kernel
theorem wt {f fm:Addr}{fd dm:FuncData}(F:As K "_law_rows" "_law_rows" j1 f fd)(T:dR mg)(mm:mg "_law_mixed" = some (.ref fm))(km:keepIn K (.ref fm)=true)(bm:Binds K dm ["_law_cell", "_law_k"] [])(Gm:zX P w K mg base aC 1 fm dm ["_law_cell", "_law_k"] m9) :
  zX P w K mg base aC 2 f fd ["_law_places", "_law_lanes_here", "_law_cell"] sK:=by
 refine F.ok BA (fun vs H Q E h=>?_) (fun cdv A outer s H vs Q E hr h=>?_)
 ·obtain⟨l,Ai,ps,n,cl,rfl,_⟩:=h
  rfl
 ·obtain⟨l,Ai,ps,n,cl,rfl,gl,FG,Ad,BL,Er,IL,q⟩:=h
  refine⟨_,af (aE (i:=3) BA.nd rfl (Or.inl rfl) (aV ad))
   (af (bv PassesOwn.never rfl (aL rfl T.range (aa (pv 0) ad)) (au (i:=4) BA.nd rfl (Or.inr rfl))
    (af (bM (i:=5) (own:=["_law_lane"]) (capN:=["_law_lanes_here", "_law_place"]) (cap:=[1,4]) MV rfl BA.nd rfl rfl (aL rfl T.range (aa (az aw rfl T.len PySem.boot_len (aa (pv 1) ad)) ad))
     (fun C s' H' fp=>⟨au (i:=0) xN rfl (Or.inl rfl),c7 (ax bG (av (show pH _ (l7 K) from aF) (av (show pH _ (tZ K) from aI) (pv 1) (pv 0) (fun _ _=>rfl)) aj (fun _ _=>rfl)) (pv 2) (aB _)),pv 0⟩))
    (af (aE (i:=6) BA.nd rfl (Or.inl rfl) (aD oY (aV (aa cI ad)) (bB (own:=["_law_lane"]) (capN:=["_law_lanes_here", "_law_place"]) (cap:=[1,4]) MW rfl (aL rfl T.range (aa (az aw rfl T.len PySem.boot_len (aa (pv 1) ad)) ad))
     (fun C s' H' fp=>⟨au (i:=0) xN rfl (Or.inl rfl),c7 (ax bG (av (show pH _ (l7 K) from aF) (av (show pH _ (tZ K) from aI) (pv 1) (pv 0) (fun _ _=>rfl)) aj (fun _ _=>rfl)) (pv 2) (aB _)),pv 0⟩))))
    (ah (bv PassesOwn.never rfl (aL rfl T.range (aa (pv 0) ad)) (au (i:=7) BA.nd rfl (Or.inl rfl))
     (ah (bv PassesOwn.never rfl (bA (pv 6)) (au (i:=8) BA.nd rfl (Or.inl rfl))
      (af (aE (i:=9) BA.nd rfl (Or.inr rfl) (aq Gm hr rfl mm km bm .nil ap (aa (pv 2) (aa (aD bR (aD bR (az aw rfl T.len PySem.boot_len (aa (pv 3) ad)) (aD jB aj (pv 4))) (aD jB aj (pv 7))) ad))))
      (af (bM (i:=10) (own:=["_law_lane"]) (capN:=["_law_draw"]) (cap:=[9]) MX rfl BA.nd rfl rfl (bA (pv 5))
       (fun C s' H' fp=>⟨au (i:=0) MY rfl (Or.inl rfl),c7 (PW.pt (j5 (ax bG (aD um (aD uj (pv 1) (aD bR aj (pv 0))) aj) aj (aB _)) (gF (ax bG (aD bJ (pv 1) aj) aj (aB _))))),pv 0⟩))
      (ah (aO (ax mU (pv 4) (pv 7) (aB _))
       (ah (aK (cu plainAttrs_list PySem.F.slot_list_append PySem.F.type_list_append b7 (pv 3) (aa (bH (aa (pv 4) (aa (pv 7) (aa (pv 8) (aa (pv 10) ad))))) ad)))) aH)))))))))))
   (ah (ar (pv 3)))),?_⟩
  have E3:Ai.length=ps.length:=Paired.length FG
  refine⟨zero_le _,fun D hD=>?_⟩
  have s0:=(zW.refl H).new (o := .lst []) hD
  have g0:(upd H D (.lst [])) D=some (.lst []):=ac
  show cv 3 (V.ref D) _ _ _
  generalize upd H D (.lst [])=H0 at s0 g0 ⊢
  refine⟨_,rfl,(n:Int),rfl,by omega,by omega,?_⟩
  rw[toNat_natCast]
  refine aY (n:=n) (fun i σ H2=>∃ (a4 a5 a6 a7 a8 a9 Cq:Option V)(Am:List V)(rs:List Rw),zW H H2/\H2 D=some (.lst Am)/\Cp D H2 Am rs/\DX n ps (i * 10000) rs/\σ=[some (.int n),some (.ref l),some (.int cl),some (.ref D),a4,a5,a6,a7,a8,a9,Cq])
   ⟨none,none,none,none,none,none,none,[],[],s0,g0, .nil,⟨List.Pairwise.nil,(fun r hr=>by cases hr),(fun r hr=>by cases hr),(fun r hr=>by cases hr)⟩,rfl⟩ ?_ ?_
  rotate_left
  ·rintro σ H2 ⟨a4,a5,a6,a7,a8,a9,Cq,Am,rs,s2,g2,hR,hO,rfl⟩
   exact⟨_,rfl,q D Am rs H2 s2 hD g2 hR.rws (hO.up (by omega))⟩
  rintro p σ H2 hpn ⟨a4,a5,a6,a7,a8,a9,Cq,Am,rs,s2,g2,hR,hO,rfl⟩
  rw[zero_add]
  have pick:∀ (sel:Int × Int->Int)(j:Nat)(Hx:Hp)(sx:zW H Hx)(σ0:St),True:=fun _ _ _ _ _=>True.intro
  refine⟨_,rfl,l,_,rfl, .inl (Aa.of (s2 _ _ gl)),(Ai.length:Int),rfl,by omega,by omega,?_⟩
  rw[toNat_natCast,E3]
  refine qP (sel:=Prod.fst) (ps:=ps) (pl:=(p:Int)) (by rw[sizeLine_eq];omega) (fun z acc N pr hpr h=>?_) (fun Ou XC=>?_)
  ·obtain⟨v,hv,u,rfl,gu⟩:=Aq.EK FG hpr
   refine⟨_,rfl,_,rfl,l,Ai,_,_,rfl,rfl,Aa.of (s2 _ _ gl),ak hv,u,_,0,_,rfl,rfl,Af.of (s2 _ _ gu),ak (j:=0) rfl,_,rfl,rfl,_,rfl,?_⟩
   rw[gJ]
   cases hb:decide (pr.1=(p:Int)) with
   | true =>
    have BM:decide (Prod.fst pr=(p:Int))=true:=hb
    rw[BM]at h
    exact aN ⟨_,rfl,h⟩
   | false =>
    have BM:decide (Prod.fst pr=(p:Int))=false:=hb
    rw[BM]at h
    exact aJ h
  have XD:∀ sel:Int × Int->Int,(eV sel ps (p:Int)).length <= 10:=fun sel=>by
   have:=length_filter_le (fun k=>decide (sel (ps.getD k (0,0))=(p:Int))) (List.range ps.length)
   rw[length_range]at this
   unfold eV
   omega
  have u1:=(zW.refl H2).new (o := .lst (bV (eV Prod.fst ps (p:Int)))) XC
  have gO:(upd H2 Ou (.lst (bV (eV Prod.fst ps (p:Int))))) Ou=some (.lst (bV (eV Prod.fst ps (p:Int)))):=ac
  have nO:Ou ≠ D:=Ne.symm (ag g2 XC)
  show cv 5 (V.ref Ou) _ (upd H2 Ou (.lst (bV (eV Prod.fst ps (p:Int))))) _
  generalize upd H2 Ou (.lst (bV (eV Prod.fst ps (p:Int))))=H3 at u1 gO ⊢
  have s3:=s2.trans u1
  refine⟨by show 1 <= sizeLine;decide,fun o1 Fc=>?_⟩
  have u2:=(zW.refl H3).new (o := .lst [.An]) Fc
  have E6:(upd H3 o1 (.lst [.An])) o1=some (.lst [.An]):=ac
  generalize upd H3 o1 (.lst [.An])=H4 at u2 E6 ⊢
  have s4:=s3.trans u2
  refine⟨_,rfl,l,_,rfl, .inl (Aa.of (s4 _ _ gl)),(Ai.length:Int),rfl,by omega,by omega,?_⟩
  rw[toNat_natCast,E3]
  refine qP (sel:=Prod.snd) (ps:=ps) (pl:=(p:Int)) (by rw[sizeLine_eq];omega) (fun z acc N pr hpr h=>?_) (fun o2 BG=>?_)
  ·obtain⟨v,hv,u,rfl,gu⟩:=Aq.EK FG hpr
   refine⟨_,rfl,_,rfl,l,Ai,_,_,rfl,rfl,Aa.of (s4 _ _ gl),ak hv,u,_,1,_,rfl,rfl,Af.of (s4 _ _ gu),ak (j:=1) rfl,_,rfl,rfl,_,rfl,?_⟩
   rw[gJ]
   cases hb:decide (pr.2=(p:Int)) with
   | true =>
    have BM:decide (Prod.snd pr=(p:Int))=true:=hb
    rw[BM]at h
    exact aN ⟨_,rfl,h⟩
   | false =>
    have BM:decide (Prod.snd pr=(p:Int))=false:=hb
    rw[BM]at h
    exact aJ h
  have u3:=(zW.refl H4).new (o := .lst (bV (eV Prod.snd ps (p:Int)))) BG
  have go2:(upd H4 o2 (.lst (bV (eV Prod.snd ps (p:Int))))) o2=some (.lst (bV (eV Prod.snd ps (p:Int)))):=ac
  have MZ:(upd H4 o2 (.lst (bV (eV Prod.snd ps (p:Int))))) o1=some (.lst [.An]):=by rw[ae (ag E6 BG)];exact E6
  generalize upd H4 o2 (.lst (bV (eV Prod.snd ps (p:Int))))=H5 at u3 go2 MZ ⊢
  have OT:=XD Prod.snd
  refine⟨o1,o2,_,_,rfl,rfl,MZ,go2,by unfold bV;rw[length_map,sizeLine_eq];simp only[length_singleton];omega,fun C hC=>?_⟩
  rw[xn]
  have u4:=(zW.refl H5).new (o := .lst ((bI ps p).map cV)) hC
  have gC:(upd H5 C (.lst ((bI ps p).map cV))) C=some (.lst ((bI ps p).map cV)):=ac
  have XE:zW H2 H5:=u1.trans (u2.trans u3)
  have nC:C ≠ D:=Ne.symm (ag (XE _ _ g2) hC)
  show cv 6 (V.ref C) _ (upd H5 C (.lst ((bI ps p).map cV))) _
  generalize upd H5 C (.lst ((bI ps p).map cV))=H6 at u4 gC ⊢
  have Tj:=XE.trans u4
  have gO6:=u4 _ _ (u3 _ _ (u2 _ _ gO))
  refine⟨_,rfl,(n:Int),rfl,by omega,by omega,?_⟩
  rw[toNat_natCast]
  refine aY (n:=n) (fun i σ H7=>∃ (a7 a8 a9 Cq:Option V)(Am:List V)(rs:List Rw),zW H H7/\H7 D=some (.lst Am)/\H7 Ou=some (.lst (bV (eV Prod.fst ps (p:Int))))/\H7 C=some (.lst ((bI ps p).map cV))/\Cp D H7 Am rs/\DX n ps ((p * 100 + i) * 100) rs/\σ=[some (.int n),some (.ref l),some (.int cl),some (.ref D),some (.int (p:Int)),some (.ref Ou),some (.ref C),a7,a8,a9,Cq])
   ⟨_,_,_,_,Am,rs,s2.trans Tj,Tj _ _ g2,gO6,gC,hR.same Tj,hO.up (by omega),rfl⟩ ?_ ?_
  rotate_left
  ·rintro σ H7 ⟨a7,a8,a9,Cq,Am,rs,s7,g7,_,_,Tn,To,rfl⟩
   exact⟨_,_,_,_,_,_,_,Am,rs,s7,g7,Tn,To.up (by omega),rfl⟩
  rintro i σ H7 hi ⟨a7,a8,a9,Cq,Am,rs,s7,g7,gO7,XF,Tn,To,rfl⟩
  rw[zero_add]
  refine⟨_,rfl,C,rfl,⟨_,Aa.of XF⟩,?_⟩
  have DS:((bI ps p).map cV).length=(bI ps p).length:=length_map ..
  refine eA (K:=K) (a:=C) (xs:=(bI ps p).map cV) (fun j σ Hb=>∃ (a8 a9 Cq:Option V)(Am:List V)(rs:List Rw),zW H Hb/\Hb D=some (.lst Am)/\Hb Ou=some (.lst (bV (eV Prod.fst ps (p:Int))))/\Hb C=some (.lst ((bI ps p).map cV))/\Cp D Hb Am rs/\DX n ps ((p * 100 + i) * 100 + lim ((bI ps p).map vB) j) rs/\σ=[some (.int n),some (.ref l),some (.int cl),some (.ref D),some (.int (p:Int)),some (.ref Ou),some (.ref C),some (.int (i:Int)),a8,a9,Cq])
   ⟨_,_,_,Am,rs,s7,g7,gO7,XF,Tn,To.up (by omega),rfl⟩ (fun j σ Hb _ ⟨_,_,_,_,_,_,_,_,g,_⟩=>Aa.of g) ?_ ?_
  rotate_left
  ·rintro σ Hb ⟨a8,a9,Cq,Am,rs,sb,gb,IM,P5,Na,JG,rfl⟩
   rw[DS,← length_map (f:=vB) (as:=bI ps p)]at JG
   have:=wV (xs:=(bI ps p).map vB) fun x hx=>by
    obtain⟨cc,O8,rfl⟩:=mem_map.mp hx
    have:=(kU O8).1
    omega
   exact⟨_,_,_,_,Am,rs,sb,gb,IM,P5,Na,JG.up (by omega),rfl⟩
  rintro j v σ Hb hv ⟨a8,a9,Cq,Am,rs,sb,gb,IM,P5,Na,JG,rfl⟩
  obtain⟨cc,hcj,rfl⟩:∃ cc,(bI ps p)[j]? = some cc/\cV cc=v:=by
   rw[List.getElem?_map]at hv
   cases hx:(bI ps p)[j]? with
   | none=>rw[hx]at hv;cases hv
   | some cc=>rw[hx]at hv;exact⟨cc,rfl,Option.some.inj hv⟩
  obtain⟨hcl2,Tp⟩:=kU (mem_of_getElem? hcj)
  have Nb:((bI ps p).map vB)[j]? = some (vB cc):=by rw[List.getElem?_map,hcj];rfl
  have hlp:=zo (pB ps p) Nb
  have hls:=uT Nb
  have D3:Am.length=rs.length:=Paired.length Na
  have hrm:=JG.len
  refine⟨_,rfl,_,rfl,D,_,rfl, .inl (Aa.of gb),_,rfl,_,_,rfl,rfl, .inl ⟨by decide,by decide⟩,_,_,rfl,rfl,_,rfl,_,_,rfl,rfl, .inl ⟨by decide,by decide⟩,_,_,rfl,rfl,cl,Am.length + 100 * p + 10 * i,?_,by omega,fun d hd=>?_⟩
  ·show [V.int cl,V.int (((Am.length:Nat):Int) + 100 * (p:Int) + 10 * (i:Int))] ++ []=_
   rw[show((Am.length + 100 * p + 10 * i:Nat):Int)=((Am.length:Nat):Int) + 100 * (p:Int) + 10 * (i:Int) by omega];rfl
  obtain⟨m,rfl⟩:∃ m:Nat,d=(m:Int):=⟨d.toNat,by omega⟩
  generalize Nc:eV Prod.fst ps (p:Int)=out at IM ⊢
  have Ic:out.length <= 10:=by rw[← Nc];exact XD _
  refine⟨_,rfl,Ou,rfl,⟨_,Aa.of IM⟩,?_⟩
  refine rW (fun k=>m.testBit (3 + k) || decide ((m:Int) % 3=0)) (by rw[sizeLine_eq];omega) (Aa.of IM) (fun k acc N hk h=>?_) (fun Wa Tq=>?_)
  ·refine⟨_,rfl,_,rfl,_,_,rfl,rfl,_,_,rfl,rfl,(show (0:Int) <= 3 + (k:Int) by omega),_,_,rfl,rfl,rfl,_,rfl,?_⟩
   dsimp only
   rw[show (3:Int) + (k:Int)=((3 + k:Nat):Int) by omega,Tg]
   cases hb:m.testBit (3 + k) with
   | true=>rw[hb,Bool.true_or]at h;exact aN (aN ⟨_,rfl,h⟩)
   | false =>
    rw[hb,Bool.false_or]at h
    refine aJ ⟨_,rfl,_,_,rfl,rfl,(by show (0:Int) < 3;decide),rfl,_,rfl,?_⟩
    rw[gJ]
    cases KQ:decide ((m:Int) % 3=0) with
    | true=>rw[KQ]at h;exact aN ⟨_,rfl,h⟩
    | false=>rw[KQ]at h;exact aJ h
  generalize OL:(out.filter fun k=>m.testBit (3 + k) || decide ((m:Int) % 3=0))=us at Tq ⊢
  have husl:us.length <= 10:=by rw[← OL];exact le_trans (length_filter_le _ _) Ic
  have Tr:∀ k ∈ us,k ∈ out:=fun k hk=>by rw[← OL]at hk;exact(mem_filter.mp hk).1
  have u5:=(zW.refl Hb).new (o := .lst (bV us)) Tq
  have gW:(upd Hb Wa (.lst (bV us))) Wa=some (.lst (bV us)):=ac
  have nW:Wa ≠ D:=Ne.symm (ag gb Tq)
  show cv 10 (V.ref Wa) _ (upd Hb Wa (.lst (bV us))) _
  generalize upd Hb Wa (.lst (bV us))=Hc at u5 gW ⊢
  refine⟨_,rfl,_,rfl,rfl,_,rfl,?_⟩
  rw[gJ]
  by_cases Tt:(p:Int)=(i:Int)
  ·rw[decide_eq_true Tt]
   exact aJ ⟨_,_,_,Am,rs,sb.trans u5,u5 _ _ gb,u5 _ _ IM,u5 _ _ P5,Na.same u5,JG.up (by omega),rfl⟩
  rw[decide_eq_false Tt]
  refine aN ⟨_,rfl, .inl ⟨rfl,_,Aa.of (u5 _ _ gb)⟩,_,rfl,_,rfl,_,rfl,_,rfl,by show 4 <= sizeLine;decide,fun tt Fj=>?_⟩
  have u6:=u5.new (o := .tup [.int (p:Int), .int (i:Int),cV cc, .ref Wa]) Fj
  have gT:(upd Hc tt (.tup [.int (p:Int), .int (i:Int),cV cc, .ref Wa])) tt=some (.tup [.int (p:Int), .int (i:Int),cV cc, .ref Wa]):=ac
  have XG:(upd Hc tt (.tup [.int (p:Int), .int (i:Int),cV cc, .ref Wa])) Wa=some (.lst (bV us)):=by rw[ae (ag gW Fj)];exact gW
  generalize upd Hc tt (.tup [.int (p:Int), .int (i:Int),cV cc, .ref Wa])=Hf at u6 gT XG ⊢
  have XH:=u6 _ _ gb
  refine⟨D,Am,_,rfl,rfl,XH,by rw[sizeLine_eq];omega,?_⟩
  have Tv:eY n ps ⟨(p:Int),(i:Int),cc,us⟩ = true:=by
   unfold eY
   have ho:jC n ((p:Int),(i:Int))=true:=by
    unfold jC
    simp only[Bool.and_eq_true,decide_eq_true_eq,Bool.not_eq_true',decide_eq_false_iff_not]
    exact⟨⟨by omega,by omega⟩,⟨by omega,by omega⟩,Tt⟩
   rw[ho,Bool.true_and]
   have hs:(us.all fun z=>decide (z ∈ eV Prod.fst ps (p:Int)))=true:=by
    rw[all_eq_true]
    exact fun z hz=>decide_eq_true (by rw[Nc];exact Tr z hz)
   dsimp only
   rw[hs,Bool.and_true]
   cases cc with
   | none=>rfl
   | some k=>exact decide_eq_true (Tp k rfl)
  have XI:tX ⟨(p:Int),(i:Int),cc,us⟩ = (p * 100 + i) * 100 + vB cc:=by
   unfold tX
   show(((p:Int)).toNat * 100 + ((i:Int)).toNat) * 100 + vB cc=_
   rw[toNat_natCast,toNat_natCast]
  have hOn:=JG.snoc (r:=⟨(p:Int),(i:Int),cc,us⟩) (by rw[XI];omega) Tv (by show us.length <= 40;omega)
  refine⟨_,_,_,Am ++ [.ref tt],rs ++ [⟨(p:Int),(i:Int),cc,us⟩],fun b o e=>by rw[ae (ag e hD)];exact u6 _ _ (sb _ _ e),ac,?_,?_,?_,hOn.up (by rw[XI,hls];omega),rfl⟩
  ·rw[ae nO];exact u6 _ _ IM
  ·rw[ae nC];exact u6 _ _ P5
  ·have hRf:=Cp.snoc (r:=⟨(p:Int),(i:Int),cc,us⟩) ⟨tt,Wa,rfl,⟨gT,XG⟩,nW⟩ (Na.same u6)
   exact Cp.off XH hRf
noncomputable def TC (ts:Ts)(tn:lX):Bool->Addr
 | true=>tn.near
 | false=>ts.told
noncomputable def JJ (P:Program)(w:World)(ts:Ts)(tn:lX):Bool->TJ
 | true=>JD P w tn
 | false=>C9 P w ts
noncomputable def okE (n:Nat)(e:Nat × Nat):jC n (zp e)=true↔(e.1 < n/\e.2 < n/\e.1 ≠ e.2):=by
 unfold jC zp
 simp only[Bool.and_eq_true,decide_eq_true_eq,Bool.not_eq_true',decide_eq_false_iff_not]
 constructor
 ·rintro⟨⟨h1,h2⟩,⟨h3,h4⟩,h5⟩;exact⟨by omega,by omega,fun z=>h5 (by rw[z])⟩
 ·rintro⟨h1,h2,h3⟩;exact⟨⟨by omega,by omega⟩,⟨by omega,by omega⟩,by omega⟩
noncomputable def xV (n:Nat)(kvs:List dQ):Wf:=fun p g k=>if p < n/\g < n then MU kvs p g k else []
theorem sk {n:Nat}{es:Es}{kvs:List dQ}(h:oa n es kvs n)(p g:Nat)(k:Option Nat):(∀ z ∈ xV n kvs p g k,z < es.length)/\(xV n kvs p g k).length <= es.length:=by
 have h1:∀ z ∈ xV n kvs p g k,z < es.length:=fun z hz=>by
  unfold xV at hz
  by_cases JH:p < n/\g < n
  ·rw[if_pos JH]at hz;exact xW h JH.2 hz
  ·rw[if_neg JH]at hz;cases hz
 refine⟨h1,dX _ _ ?_ h1⟩
 unfold xV
 by_cases JH:p < n/\g < n
 ·rw[if_pos JH];exact nk _
 ·rw[if_neg JH];exact nodup_nil
noncomputable def sU (P:Program)(w:World)(K:Frag)(c:Cs)(ts:Ts)(tn:lX):Sp:=fun vs H Q _=>∃ (sc:Addr)(ns:List Int),vs=[.ref sc]/\Aa K H sc (ns.map V.int) /\
 ∀ (b:Bool)(x lx Aw lt:Addr)(n:Nat)(Ag:List V)(ps:List (Int × Int))(wy:Wf)(H':Hp),zW H H'->H x=none->Bm c (TC ts tn b) (JJ P w ts tn b) H' x lx Aw lt n Ag ps wy->(∀ p g k,(wy p g k).length <= 400)->(∀ p ∈ ps,jC n p=true)->ps.length <= 8->2 <= n->n <= 5->Q (.ref x) H'
structure TbM (P:Program)(w:World)(K:Frag)(mg:Str->Option Value)(base:Heap)(c:Cs)(ts:Ts)(tn:lX)(fc fl fi fn ft fr:Addr)(dc dl di dn dt dr:FuncData):Prop where
 mc:mg "_law_cell_at" = some (.ref fc)
 kc:keepIn K (.ref fc)=true
 bc:Binds K dc ["_law_script", "_law_k"] []
 Gc:zX P w K mg base aC 1 fc dc ["_law_script", "_law_k"] (oE K)
 ml:mg "_law_lanes" = some (.ref fl)
 kl:keepIn K (.ref fl)=true
 bl:Binds K dl ["_law_places", "_law_amount", "_law_cell"] []
 Gl:zX P w K mg base aC 2 fl dl ["_law_places", "_law_amount", "_law_cell"] qb
 mi:mg "Land" = some (.ref c.land)
 Mi:Mk K c.land fi
 bi:Binds K di ["self", "places", "lanes"] []
 Gi:zX P w K mg base (eE P w) 4 fi di ["self", "places", "lanes"] (sW K c)
 mn:mg "Nearer" = some (.ref tn.near)
 Mn:Mk K tn.near fn
 bn:Binds K dn ["self", "land"] []
 Gn:zX P w K mg base aC 3 fn dn ["self", "land"] (sO P w c tn)
 mt:mg "Told" = some (.ref ts.told)
 Mt:Mk K ts.told ft
 bt:Binds K dt ["self", "land", "rows"] []
 Gt:zX P w K mg base (eE P w) 5 ft dt ["self", "land", "rows"] (sH P w K c ts)
 mr:mg "_law_rows" = some (.ref fr)
 kr:keepIn K (.ref fr)=true
 br:Binds K dr ["_law_places", "_law_lanes_here", "_law_cell"] []
 Gr:zX P w K mg base aC 2 fr dr ["_law_places", "_law_lanes_here", "_law_cell"] sK
noncomputable def jh (a:YA)(ps:List (Int × Int)):Prop:=∀ p ∈ ps,∃ x y:Nat,p=((x:Int),(y:Int))/\x < a.n/\y < a.n/\x ≠ y/\a.wy x y none ≠ []
noncomputable def qg (c:Cs)(C:Addr)(J:TJ):Sp:=fun vs H Q _=>∃ (a:YA),vs=[.ref a.tb]/\vC c C J H a/\∀ (D:Addr)(Av:List V)(bs:List (Int × Int))(H':Hp),zW H H'->H D=none->H' D=some (.lst Av)->Aq H' Av bs->jh a bs->bs.length <= 1000->Q (.ref D) H'
noncomputable def mB (c:Cs)(C:Addr)(J:TJ):Sp:=fun vs H Q _=>∃ (a:YA)(cl:Int),vs=[.ref a.tb, .int cl]/\vC c C J H a/\∀ (D:Addr)(rs:List Int)(H':Hp),zW H H'->H D=none->H' D=some (.lst (rs.map V.int))->rs.length=a.ps.length->(∀ r ∈ rs,1 <= r/\r <= 60)->Q (.ref D) H'
theorem FU:ao ["_law_script", "_law_places", "_law_lanes_here", "_law_land"] ["_law_script"] (ai tQ):=L2.Ax
theorem wE {c:Cs}{ts:Ts}{tn:lX}{f fc fl fi fn ft fr:Addr}{fd dc dl di dn dt dr:FuncData}(F:As K "_law_table" "_law_table" tQ f fd)(M:TbM P w K mg base c ts tn fc fl fi fn ft fr dc dl di dn dt dr) :
  zX P w K mg base aC 7 f fd ["_law_script"] (sU P w K c ts tn):=by
 refine F.ok FU (fun vs H Q E h=>?_) (fun cdv A outer s H vs Q E hr h=>?_)
 ·obtain⟨sc,ns,rfl,_⟩:=h
  rfl
 ·obtain⟨sc,ns,rfl,hS,q⟩:=h
  have AI:Ah 1 _:=hr.mono (by decide)
  have Bv:Ah 2 _:=hr.mono (by decide)
  have CT:Ah 4 _:=hr.mono (by decide)
  have Fu:Ah 5 _:=hr.mono (by decide)
  refine⟨_,af (aE (i:=1) FU.nd rfl (Or.inl rfl) (aD bR aj (aD bJ (aq M.Gc AI rfl M.mc M.kc M.bc .nil ap (aa (pv 0) (aa aj ad))) aj)))
   (af (aE (i:=2) FU.nd rfl (Or.inl rfl) (aq M.Gl Bv rfl M.ml M.kl M.bl .nil ap (aa (pv 1) (aa (aD bJ (aD c9 (aq M.Gc AI rfl M.mc M.kc M.bc .nil ap (aa (pv 0) (aa aj ad))) aj) aj) (aa (aq M.Gc AI rfl M.mc M.kc M.bc .nil ap (aa (pv 0) (aa aj ad))) ad)))))
   (af (aE (i:=3) FU.nd rfl (Or.inl rfl) (c8 M.Mi M.Gi Fu rfl M.mi M.bi .nil fA (aa (pv 1) (aa (pv 2) ad))))
   (af (aO (ax bG (aD bJ (aq M.Gc AI rfl M.mc M.kc M.bc .nil ap (aa (pv 0) (aa aj ad))) aj) aj (aB _)) (ah (ar (c8 M.Mn M.Gn CT rfl M.mn M.bn .nil ap (aa (pv 3) ad)))) aH)
   (ah (ar (c8 M.Mt M.Gt hr rfl M.mt M.bt .nil fA (aa (pv 3) (aa (aq M.Gr Bv rfl M.mr M.kr M.br .nil ap (aa (pv 1) (aa (pv 2) (aa (aD c9 (aq M.Gc AI rfl M.mc M.kc M.bc .nil ap (aa (pv 0) (aa aj ad))) aj) ad)))) ad)))))))),?_⟩
  refine⟨_,rfl,sc,ns,0,rfl,hS,fun d0=>⟨_,_,rfl,rfl,(by show (0:Int) < 4;decide),_,_,rfl,rfl,?_⟩⟩
  obtain⟨n,hn,Er,IL⟩:∃ n:Nat,(2:Int) + d0 % 4=(n:Int)/\2 <= n/\n <= 5:=⟨(2 + d0 % 4).toNat,by omega,by omega,by omega⟩
  dsimp only
  rw[hn]
  refine⟨_,rfl,_,rfl,sc,ns,0,rfl,hS,fun d1=>⟨_,_,rfl,rfl,⟨by decide,by decide⟩,_,_,rfl,rfl,(by show (0:Int) < 9;decide),_,rfl,sc,ns,1,rfl,hS,fun d2=>?_⟩⟩
  obtain⟨m,hm,hm9⟩:∃ m:Nat,d1 / 4 % 9=(m:Int)/\m < 9:=⟨(d1 / 4 % 9).toNat,by omega,by omega⟩
  refine⟨n,m,d2,by rw[← hm];rfl,Er,by omega,by omega,fun l Ai es H1 s1 nl gl FG Co Cg HD=>?_⟩
  have E3:Ai.length=es.length:=by rw[Paired.length FG,length_map]
  have BL:(es.map zp).length=es.length:=length_map ..
  have Ad:∀ p ∈ es.map zp,jC n p=true:=fun p hp=>by
   obtain⟨e,he,rfl⟩:=mem_map.mp hp
   exact(okE n e).mpr ⟨(Co e he).1,(Co e he).2,Cg e he⟩
  have gd:=vg (ps:=es.map zp) (n:=n) (by omega) (by omega) (by omega) Ad
  refine⟨_,rfl,_,rfl,fun xl BZ nx LP He=>?_⟩
  have s2:zW H1 (upd (upd H1 BZ (.own xl)) xl (.ins c.land BZ [])):=zW.new (zW.new (zW.refl H1) LP) (by rw[ae (Ne.symm He)];exact nx)
  refine⟨xl,BZ,(n:Int),l,Ai,_,rfl,ac,Aa.of (s2 _ _ gl),Aq.same s2 FG,by omega,(fun h=>by rw[gd]at h;cases h),(fun k h=>by rw[gd]at h;cases h),(fun k h=>by rw[gd]at h;cases h),fun _ H3 lt Ag off hL=>⟨rfl,?_⟩⟩
  have s3:zW H1 H3:=fun b o e=>off b o (ag e nx) (s2 _ _ e)
  have D6:=s1.trans s3
  refine⟨_,rfl,sc,ns,2,rfl,D6.seq hS,fun d3=>⟨_,_,rfl,rfl,(by show (0:Int) < 2;decide),rfl,_,rfl,?_⟩⟩
  cases hb:decide (V.int (d3 % 2)=V.int 0) with
  | true =>
   refine aN ⟨_,rfl,fun tb Fe nt Tw Tx=>?_⟩
   have s4:zW H3 (upd (upd H3 Fe (.own tb)) tb (.ins tn.near Fe [])):=zW.new (zW.new (zW.refl H3) Tw) (by rw[ae (Ne.symm Tx)];exact nt)
   refine⟨tb,Fe,xl,BZ,lt,Ag,n,es,rfl,ac,⟨s4 _ _ hL.1,s4 _ _ hL.2.1,Aq.same s4 hL.2.2⟩,Co,by omega,by omega,fun H5 de kvs Tz XJ hE=>⟨rfl,?_⟩⟩
   have s5:zW H3 H5:=fun b o e=>Tz b o (ag e nt) (s4 _ _ e)
   refine q true tb xl BZ lt n Ag (es.map zp) (xV n kvs) H5 (D6.trans s5) (D6.free nt) ⟨⟨Fe,xl,de,kvs,es,XJ,hE,by omega,fun p g k hp hg=>by unfold xV;rw[if_pos ⟨hp,hg⟩]⟩,⟨Fe,_,XJ.1,rfl,rfl⟩,⟨s5 _ _ hL.1,s5 _ _ hL.2.1,Aq.same s5 hL.2.2⟩,by omega,by omega,fun p g k _ _ z hz=>by rw[BL];exact(sk hE p g k).1 z hz⟩ (fun p g k=>by have:=(sk hE p g k).2;omega) Ad (by omega) Er IL
  | false =>
   refine aJ ⟨_,rfl,_,rfl,_,rfl,_,rfl,sc,ns,2,rfl,D6.seq hS,fun d4=>⟨_,_,rfl,rfl,⟨by decide,by decide⟩,?_⟩⟩
   refine⟨l,Ai,es.map zp,n,_,rfl,s3 _ _ gl,Aq.same s3 FG,Ad,by omega,Er,IL,fun D Am rs H4 s4 hD gD hR hO=>?_⟩
   have D3:Am.length=rs.length:=Paired.length hR
   have hrm:=hO.len
   refine fun tb Fe nt Tw Tx=>?_
   have s6:zW H4 (upd (upd H4 Fe (.own tb)) tb (.ins ts.told Fe [])):=zW.new (zW.new (zW.refl H4) Tw) (by rw[ae (Ne.symm Tx)];exact nt)
   have T1:=s4.trans s6
   refine⟨tb,Fe,xl,BZ,lt,D,(n:Int),Ag,Am,es.map zp,rs,rfl,ac,⟨T1 _ _ hL.1,T1 _ _ hL.2.1,Aq.same T1 hL.2.2⟩,Aa.of (s6 _ _ gD),Dz.same s6 hR,by omega,by omega,fun r hr=>⟨fun k hk=>by have:=kL (hO.fit r hr) k hk;omega,by have:=hO.AZ r hr;omega⟩,(fun i e=>by rw[hO.good]at e;cases e),fun _ H7 de kvs T2 XN hd7 T3=>⟨rfl,?_⟩⟩
   have s7:zW H4 H7:=fun b o e=>T2 b o (ag e nt) (s6 _ _ e)
   have P6:=s4.trans s7
   have FO:∀ r ∈ rs,∀ k ∈ r.s,k < (es.map zp).length:=fun r hr=>kL (hO.fit r hr)
   refine q false tb xl BZ lt n Ag (es.map zp) (JE rs) H7 (D6.trans P6) (D6.free (s4.free nt)) ⟨⟨Fe,de,_,kvs,rs,XN,hd7,T3,(fun r hr k hk=>by have:=FO r hr k hk;omega),rfl⟩,⟨Fe,_,XN,rfl,rfl⟩,⟨P6 _ _ hL.1,P6 _ _ hL.2.1,Aq.same P6 hL.2.2⟩,by omega,by omega,fun p g k _ _ z hz=>(sj FO p g k).1 z hz⟩ (fun p g k=>by have:=(sj FO p g k).2;omega) Ad (by omega) Er IL
noncomputable abbrev NBg:List Str:=["_law_table_here", "_law_found", "_law_place", "_law_goal"]
theorem FV:ao NBg ["_law_table_here"] (ai oV):=L2.Ax
theorem uG {c:Cs}{J:TJ}{C f fw:Addr}{fd dw:FuncData}(F:As K "_law_begins" "_law_begins" oV f fd)(T:dR mg)(L:lY K c)(W:Wy K C fw dw J)(Gw:zX P w K mg base aC 3 fw dw ["self", "place", "goal", "came"] (eK J)) :
  zX P w K mg base aC 4 f fd ["_law_table_here"] (qg c C J):=by
 refine F.ok FV (fun vs H Q E h=>?_) (fun cdv A outer s H vs Q E hr h=>?_)
 ·obtain⟨a,rfl,_⟩:=h
  rfl
 ·obtain⟨a,rfl,hT,q⟩:=h
  have hu:=hr.units
  have hn:=hT.LF
  refine⟨_,af (aE (i:=1) FV.nd rfl (Or.inl rfl) (aV ad))
   (af (bv PassesOwn.never rfl (aL rfl T.range (aa (al (al (pv 0) rfl) rfl) ad)) (au (i:=2) FV.nd rfl (Or.inl rfl))
    (ah (bv PassesOwn.never rfl (aL rfl T.range (aa (al (al (pv 0) rfl) rfl) ad)) (au (i:=3) FV.nd rfl (Or.inl rfl))
     (ah (aO (jf (PW.pt (l9 (ax mU (pv 2) (pv 3) (aB _)) (l8 (ax (yP hu) (aA (pv 0) W.cl W.m Gw hr W.b .nil ap (aa (pv 2) (aa (pv 3) (aa cI ad)))) (aV ad) (aB _))))))
      (ah (aK (cu plainAttrs_list PySem.F.slot_list_append PySem.F.type_list_append b7 (pv 1) (aa (bH (aa (pv 2) (aa (pv 3) ad))) ad)))) aH)))))
   (ah (ar (pv 1)))),?_⟩
  obtain⟨C8,fst,C1,AF,B9⟩:=hT.i
  refine⟨zero_le _,fun D hD=>?_⟩
  have s0:=(zW.refl H).new (o := .lst []) hD
  have g0:(upd H D (.lst [])) D=some (.lst []):=ac
  show cv 1 (V.ref D) _ _ _
  generalize upd H D (.lst [])=H0 at s0 g0 ⊢
  refine⟨_,rfl,a.tb,C,C8,fst,_,rfl,s0 _ _ C1,W.cl,W.nl,AF,a.lx,c.land,a.Aw,_,_,rfl,s0 _ _ hT.l.1,L.cl,L.np,rfl,(a.n:Int),rfl,by omega,by omega,?_⟩
  rw[toNat_natCast]
  refine aY (n:=a.n) (fun i σ H2=>∃ (a2 a3:Option V)(Av:List V)(bs:List (Int × Int)),zW H H2/\H2 D=some (.lst Av)/\Aq H2 Av bs/\jh a bs/\bs.length <= i * 12/\σ=[some (.ref a.tb),some (.ref D),a2,a3])
   ⟨none,none,[],[],s0,g0, .nil,(fun p hp=>by cases hp),by show 0 <= _;omega,rfl⟩ ?_ ?_
  rotate_left
  ·rintro σ H2 ⟨a2,a3,Av,bs,s2,g2,hL,hP,IP,rfl⟩
   exact⟨_,rfl,q D Av bs H2 s2 hD g2 hL hP (by omega)⟩
  rintro i σ H2 hi ⟨a2,a3,Av,bs,s2,g2,hL,hP,IP,rfl⟩
  rw[zero_add]
  refine⟨_,rfl,a.tb,C,C8,fst,_,rfl,s2 _ _ C1,W.cl,W.nl,AF,a.lx,c.land,a.Aw,_,_,rfl,s2 _ _ hT.l.1,L.cl,L.np,rfl,(a.n:Int),rfl,by omega,by omega,?_⟩
  rw[toNat_natCast]
  refine aY (n:=a.n) (fun j σ H3=>∃ (a3:Option V)(Av:List V)(bs:List (Int × Int)),zW H H3/\H3 D=some (.lst Av)/\Aq H3 Av bs/\jh a bs/\bs.length <= i * 12 + j/\σ=[some (.ref a.tb),some (.ref D),some (.int (i:Int)),a3])
   ⟨_,Av,bs,s2,g2,hL,hP,by omega,rfl⟩ ?_ ?_
  rotate_left
  ·rintro σ H3 ⟨a3,Av,bs,s3,g3,CK,P7,hb3,rfl⟩
   exact⟨_,_,Av,bs,s3,g3,CK,P7,by omega,rfl⟩
  rintro j σ H3 hj ⟨a3,Av,bs,s3,g3,CK,P7,hb3,rfl⟩
  rw[zero_add]
  have hbl3:Av.length=bs.length:=Paired.length CK
  refine⟨fun b H4=>zW H3 H4/\b=decide (i ≠ j/\a.wy i j none ≠ []),?_,?_⟩
  ·refine⟨_,rfl,_,rfl,rfl,_,rfl,?_⟩
   rw[bN]
   by_cases XO:(i:Int)=(j:Int)
   ·rw[decide_eq_true XO]
    exact aJ ⟨zW.refl H3,by rw[decide_eq_false (fun z=>z.1 (by omega))]⟩
   ·rw[decide_eq_false XO]
    refine aN ⟨_,rfl,a.tb,C8,fst,rfl,s3 _ _ C1,B9,_,rfl,_,rfl,a.tb,a.n,a.wy,i,j,none,rfl,(Bm.keep W hT (zW.Ao s3)).j,hi,hj,fun Dw H4 s4 hDw XQ=>⟨zero_le _,fun o7 JI=>?_⟩⟩
    have s5:=s4.new (o := .lst []) JI
    have Nd:(upd H4 o7 (.lst [])) Dw=some (.lst (nV (a.wy i j none))):=by rw[ae (ag XQ JI)];exact XQ
    have g7:(upd H4 o7 (.lst [])) o7=some (.lst (([]:List Int).map V.int)):=ac
    generalize upd H4 o7 (.lst [])=H5 at s5 Nd g7 ⊢
    refine⟨Dw,o7,iz (a.wy i j none),[],rfl,rfl,by rw[← qy];exact Aa.of Nd,Aa.of g7,_,rfl,s5,?_⟩
    by_cases hw:a.wy i j none=[]
    ·rw[decide_eq_true (show iz (a.wy i j none)=[] by rw[hw];rfl),decide_eq_false (fun z=>z.2 hw)];rfl
    ·rw[decide_eq_false (show ¬ iz (a.wy i j none)=[] from fun z=>hw (by unfold iz at z;exact List.map_eq_nil_iff.mp z)),decide_eq_true ⟨by omega,hw⟩];rfl
  rintro b H4 ⟨s4,rfl⟩
  by_cases hw:i ≠ j/\a.wy i j none ≠ []
  ·rw[decide_eq_true hw]
   refine aN ⟨_,rfl, .inl ⟨rfl,_,Aa.of (s4 _ _ g3)⟩,_,rfl,_,rfl,by show 2 <= sizeLine;decide,fun t1 h1=>?_⟩
   have u1:=s4.new (o := .tup [.int (i:Int), .int (j:Int)]) h1
   have v1:(upd H4 t1 (.tup [.int (i:Int), .int (j:Int)])) t1=some (.tup [.int (i:Int), .int (j:Int)]):=ac
   generalize upd H4 t1 (.tup [.int (i:Int), .int (j:Int)])=H5 at u1 v1 ⊢
   have Nf:=u1 _ _ g3
   have XR:AA H5 (upd H5 D (.lst (Av ++ [.ref t1]))):=iu Nf
   refine⟨D,Av,_,rfl,rfl,Nf,by rw[sizeLine_eq];omega,?_⟩
   refine⟨_,Av ++ [.ref t1],bs ++ [((i:Int),(j:Int))],fun b o e=>by rw[ae (ag e hD)];exact u1 _ _ (s3 _ _ e),ac,Aq.snoc (p:=((i:Int),(j:Int))) ⟨t1,rfl,XR _ _ v1 True.intro⟩ (XR.Dy (Aq.same u1 CK)),fun p hp=>?_,by rw[length_append,length_singleton];omega,rfl⟩
   rcases mem_append.mp hp with hp | hp
   ·exact P7 p hp
   ·rw[mem_singleton.mp hp];exact⟨i,j,rfl,hi,hj,hw.1,hw.2⟩
  ·rw[decide_eq_false hw]
   exact aJ ⟨_,Av,bs,s3.trans s4,s4 _ _ g3,Aq.same s4 CK,P7,by omega,rfl⟩
theorem T4:ao ["_law_table_here", "_law_cell"] ["_law_table_here", "_law_cell"] (ai ij):=L2.Ax
theorem T5:Ba ["_law_table_here", "_law_cell"] (ai ij) (vV ((aG ij).getD 0 (.Pass ⟨0,0,0,0⟩))) ["_law_cell"] [1]:=L2.BI
theorem T6:(["_law_lane", "_law_cell"]:List Str).Nodup:=by decide +kernel
theorem rB {c:Cs}{J:TJ}{C f fw fm:Addr}{fd dw dm:FuncData}(F:As K "_law_rooms" "_law_rooms" ij f fd)(T:dR mg)(L:lY K c)(W:Wy K C fw dw J)(mm:mg "_law_mixed" = some (.ref fm))(km:keepIn K (.ref fm)=true)(bm:Binds K dm ["_law_cell", "_law_k"] [])(Gm:zX P w K mg base aC 1 fm dm ["_law_cell", "_law_k"] m9) :
  zX P w K mg base aC 2 f fd ["_law_table_here", "_law_cell"] (mB c C J):=by
 refine F.ok T4 (fun vs H Q E h=>?_) (fun cdv A outer s H vs Q E hr h=>?_)
 ·obtain⟨a,cl,rfl,_⟩:=h
  rfl
 ·obtain⟨a,cl,rfl,hT,q⟩:=h
  have h40:=hT.AZ
  refine⟨_,ah (ar (bB (own:=["_law_lane"]) (capN:=["_law_cell"]) (cap:=[1]) T5 rfl (aL rfl T.range (aa (az aw rfl T.len PySem.boot_len (aa (al (al (pv 0) rfl) rfl) ad)) ad)) (fun C s' H' fp=>⟨au (i:=0) T6 rfl (Or.inl rfl),bE,aD bR aj (aD bJ (aq Gm hr rfl mm km bm .nil ap (aa (pv 1) (aa (pv 0) ad))) aj)⟩))),?_⟩
  obtain⟨C8,fst,C1,AF,B9⟩:=hT.i
  have T7:a.Ag.length=a.ps.length:=Paired.length hT.l.2.2
  refine⟨_,rfl,a.tb,C,C8,fst,_,rfl,C1,W.cl,W.nl,AF,a.lx,c.land,a.Aw,_,_,rfl,hT.l.1,L.cl,L.nl,rfl,a.lt,_,rfl, .inr (Af.of hT.l.2.1),((a.Ag.length:Nat):Int),rfl,by omega,by omega,?_⟩
  rw[toNat_natCast,T7]
  refine bK a.ps.length (by rw[sizeLine_eq];omega) (fun i acc H'=>H' = H/\∃ rs:List Int,acc=rs.map V.int/\rs.length=i/\∀ r ∈ rs,1 <= r/\r <= 60) ⟨rfl,[],rfl,rfl,fun r hr=>by cases hr⟩ (fun i acc H' h=>by obtain⟨_,rs,rfl,e,_⟩:=h;rw[length_map];omega) (fun i acc H' hi h=>?_) (fun acc H' h=>?_)
  ·obtain⟨rfl,rs,rfl,e,Jy⟩:=h
   refine⟨hi,fun v H2 y=>?_⟩
   obtain⟨rfl,rfl⟩:=y
   rw[zero_add]
   refine⟨_,rfl,_,rfl,cl,i,rfl,by omega,fun d hd=>⟨_,_,rfl,rfl,(by show (0:Int) < 3;decide),_,_,rfl,rfl,rfl,rs ++ [1 + d % 3],by rw[map_append];rfl,by rw[length_append,e];rfl,fun r hr=>?_⟩⟩
   rcases mem_append.mp hr with hr | hr
   ·exact Jy r hr
   ·rw[mem_singleton.mp hr];omega
  ·obtain⟨rfl,rs,rfl,e,Jy⟩:=h
   exact⟨le_refl _,fun D hD=>q D rs _ ((zW.refl H').new hD) hD ac e Jy⟩
noncomputable def FW (N:Addr->Prop)(H:Hp)(v:V)(ln:cz):Prop:=∃ t ql Al,v = .ref t/\H t=some (.tup [.int ln.r, .int ln.b,hV ln.h, .ref ql])/\H ql=some (.lst Al)/\Aq H Al ln.qs/\N ql
noncomputable def FX (N:Addr->Prop)(H:Hp)(v:V)(way:List Nat):Prop:=∃ t,v = .ref t/\H t=some (.lst (nV way))/\N t
noncomputable def FY (N:Addr->Prop)(H:Hp)(v:V)(qs:List (Int × Int)):Prop:=∃ t Al,v = .ref t/\H t=some (.lst Al)/\Aq H Al qs/\N t
theorem FW.same {N:Addr->Prop}{H H':Hp}(s:zW H H')(v:V)(ln:cz)(h:FW N H v ln):FW N H' v ln:=by
 obtain⟨t,ql,Al,e,h1,h2,h3,h4⟩:=h
 exact⟨t,ql,Al,e,s _ _ h1,s _ _ h2,Aq.same s h3,h4⟩
theorem FX.same {N:Addr->Prop}{H H':Hp}(s:zW H H')(v:V)(y:List Nat)(h:FX N H v y):FX N H' v y:=by
 obtain⟨t,e,h1,h2⟩:=h
 exact⟨t,e,s _ _ h1,h2⟩
theorem FY.same {N:Addr->Prop}{H H':Hp}(s:zW H H')(v:V)(qs:List (Int × Int))(h:FY N H v qs):FY N H' v qs:=by
 obtain⟨t,Al,e,h1,h2,h3⟩:=h
 exact⟨t,Al,e,s _ _ h1,Aq.same s h2,h3⟩
noncomputable def hD:Option Int->PyData
 | none => .none
 | some z => .int z
noncomputable def lnD (ln:cz):PyData := .tuple [.int ln.r, .int ln.b,hD ln.h, .list (ln.qs.map kA)]
noncomputable def wyD (y:List Nat):PyData := .list (y.map fun z:Nat => .int z)
noncomputable def hpD (qs:List (Int × Int)):PyData := .list (qs.map kA)
theorem qL {K:Frag}{H:Hp}:∀ us:List Nat,gN K H (nV us) (us.map fun z:Nat=>PyData.int z)
 | [] => .nil
 | u :: us => .cons (.int _) (qL us)
theorem i6 {K:Frag}{H:Hp}{α:Type}{R:V->α->Prop}{f:α->PyData}(h:∀ v a,R v a->ke K H v (f a)):∀ {vs:List V}{as:List α},Paired R vs as->gN K H vs (as.map f)
 | _,_, .nil => .nil
 | _,_, .cons x r => .cons (h _ _ x) (i6 h r)
theorem Ng {K:Frag}{H:Hp}(h:Option Int):ke K H (hV h) (hD h):=by cases h<;>first | exact .An | exact .int _
theorem qh (ps:List (Int × Int)):BD (.list (ps.map kA)) 2:=bD (m:=1) fun z hz=>by
 obtain⟨p,_,rfl⟩:=mem_map.mp hz
 exact c5 (m:=0) fun y hy=>by
  simp only[mem_cons,not_mem_nil,or_false]at hy
  rcases hy with rfl | rfl<;>exact bL _
theorem i9 {α:Type}{R:Hp->V->α->Prop}{g:TG}{te:TE}{σ0:St}{H:Hp}{Q:VK}(mono:∀ {H H':Hp},zW H H'->∀ v a,R H v a->R H' v a)(as:List α)(hn:as.length < sizeLine)
  (hs:∀ (i:Nat)(a:α)(H1:Hp)(N:V->Hp->Prop),as[i]? = some a->zW H H1->(∀ v H2,zW H1 H2->R H2 v a->N v H2)->g (.int i) σ0 H1 fun σ2 H2=>te σ2 H2 N)
  (hq:∀ D vs H1,zW H H1->H1 D=none->Paired (R H1) vs as->Q (.ref D) (upd H1 D (.lst vs))):dE (vx 0 as.length) g lg te σ0 Q H:=by
 refine bK as.length hn (fun i acc H'=>zW H H'/\Paired (R H') acc (as.take i)) ⟨zW.refl _, .nil⟩ (fun i acc H' h=>by rw[Paired.length h.2];exact length_take_le _ _) (fun i acc H' hi h=>?_) (fun acc H' h=>?_)
 ·obtain⟨s,hL⟩:=h
  refine⟨hi,fun v H2 y=>?_⟩
  obtain⟨rfl,rfl⟩:=y
  rw[zero_add]
  refine hs i as[i] H2 (fun y H4=>zW H H4/\Paired (R H4) (acc ++ [y]) (as.take (i + 1))) (List.getElem?_eq_getElem hi) s fun v H3 s3 hv=>⟨s.trans s3,?_⟩
  rw[take_succ,List.getElem?_eq_getElem hi]
  exact Paired.snoc hv (Paired.mono (mono s3) hL)
 ·obtain⟨s,hL⟩:=h
  rw[take_length]at hL
  exact⟨le_refl _,fun D hD=>hq D acc H' s hD hL⟩
noncomputable def jm (s:YS):List (List Nat):=s.U.map fun t=>t.way
noncomputable def CP (H:Hp)(v:V)(t:cp):Prop:=∃ x,v = .ref x/\H x=some (.tup [.int t.start, .int t.goal, .int t.len, .int t.word])
theorem CP.same {H H':Hp}(s:zW H H')(v:V)(t:cp)(h:CP H v t):CP H' v t:=by
 obtain⟨x,e,h1⟩:=h
 exact⟨x,e,s _ _ h1⟩
noncomputable def xj (s:YS):Bool:=decide ((s.U.map (·.len)).sum=(s.lies.map fun q=>(q.length:Int)).sum)
noncomputable def T8 (s:Stmt):Scope:=match s with
 | .Return (some (.Compare (.Call _ [.ListComp _ _ sc _] _ _) _ _ _)) _=>sc
 | _=>{ kind := .function,names:=[],isGenerator:=false,isCoroutine:=false }
noncomputable def T9 (s:Stmt):Scope:=match s with
 | .Return (some (.Compare _ _ [.Call _ [.ListComp _ _ sc _] _ _] _)) _=>sc
 | _=>{ kind := .function,names:=[],isGenerator:=false,isCoroutine:=false }
noncomputable def qe (K:Frag)(ys:Ys):Sp:=fun vs H Q _=>∃ (y dy tb ro la le li dn:Addr)(s:YS),vs=[.ref y]/\Ac K ys H y dy tb ro la le li dn s/\s.U.length <= 900/\s.lies.length <= 900/\∀ H',zW H H'->Q (.bl (xj s)) H'
theorem TB:ao ["self"] ["self"] (ai gB):=L2.Ax
theorem TF:Ba ["self"] (ai gB) (T8 ((aG gB).getD 0 (.Pass ⟨0,0,0,0⟩))) [] []:=L2.BI
theorem TH:Ba ["self"] (ai gB) (T9 ((aG gB).getD 0 (.Pass ⟨0,0,0,0⟩))) [] []:=L2.BI
theorem TK:(["letter"]:List Str).Nodup:=by decide +kernel
theorem TL:(["pieces"]:List Str).Nodup:=by decide +kernel
theorem uE {ys:Ys}{f:Addr}{fd:FuncData}(F:As K "ended" "Yard.ended" gB f fd)(T:dR mg)(Y:gj K ys):zX P w K mg base aC 1 f fd ["self"] (qe K ys):=by
 refine F.ok TB (fun vs H Q E h=>?_) (fun cdv A outer s H vs Q E hr h=>?_)
 ·obtain⟨y,dy,tb,ro,la,le,li,dn,st,rfl,_⟩:=h
  rfl
 ·obtain⟨y,dy,tb,ro,la,le,li,dn,st,rfl,hY,h9,h92,q⟩:=h
  refine⟨_,ah (ar (cS bG (az (nN rfl) rfl T.sum PyProof.Rows.boot_sum (aa (bB (own:=["letter"]) (capN:=[]) (cap:=[]) TF rfl (bA (al (pv 0) rfl)) (fun C s' H' fp=>⟨au (i:=0) TK rfl (Or.inl rfl),bE,(show PE _ _ (qX K (oy 0) "length") from al (pv 0) rfl)⟩)) ad))
   (az (nN rfl) rfl T.sum PyProof.Rows.boot_sum (aa (bB (own:=["pieces"]) (capN:=[]) (cap:=[]) TH rfl (bA (al (pv 0) rfl)) (fun C s' H' fp=>⟨au (i:=0) TL rfl (Or.inl rfl),bE,az (show eD _ (.builtin "len") (RX K) from aw) rfl T.len PySem.boot_len (aa (pv 0) ad)⟩)) ad)) (aB _))),?_⟩
  obtain⟨Ag,Bn,pl⟩:=hY.hle
  have E3:=Paired.length pl
  refine⟨_,rfl,y,ys.zY,dy,_,_,rfl,hY.ins,Y.cl,Y.n4,rfl,le,rfl,⟨_,Aa.of Bn⟩,?_⟩
  refine kT (fun i => .int (st.U.getD i ⟨0,0,0,0,0,[]⟩).len) (by rw[sizeLine_eq];omega) (Aa.of Bn) (fun i x N hx h=>?_) (fun D hD=>?_)
  ·obtain⟨lt,AU,x',dx,wa,rfl,C7,_⟩:=Paired.at pl hx
   rw[getD_eq_getElem?_getD,AU]at h
   exact⟨_,rfl,x',ys.zZ,dx,_,_,rfl,C7,Y.ct,Y.t3,rfl,h⟩
  have e1:(List.range Ag.length).map (fun i=>V.int (st.U.getD i ⟨0,0,0,0,0,[]⟩).len)=(st.U.map (·.len)).map V.int:=by
   rw[E3,map_map]
   exact j4 st.U _ fun s=>V.int s.len
  rw[e1]
  have s1:=(zW.refl H).new (o := .lst ((st.U.map (·.len)).map V.int)) hD
  have gD:(upd H D (.lst ((st.U.map (·.len)).map V.int))) D=some (.lst ((st.U.map (·.len)).map V.int)):=ac
  generalize upd H D (.lst ((st.U.map (·.len)).map V.int))=H1 at s1 gD ⊢
  refine⟨D,_,rfl,Aa.of gD,?_⟩
  have Bb:=hY.same s1
  obtain⟨Eg,EU,ph⟩:=Bb.BP
  have hhl:=Paired.length ph
  refine⟨_,rfl,y,ys.zY,dy,_,_,rfl,Bb.ins,Y.cl,Y.n5,rfl,li,rfl,⟨_,Aa.of EU⟩,?_⟩
  refine kT (fun i => .int ((st.lies.getD i []).length:Nat)) (by rw[sizeLine_eq];omega) (Aa.of EU) (fun i x N hx h=>?_) (fun D2 BY=>?_)
  ·obtain⟨qs,C2,t,vs,rfl,ht,hL⟩:=Paired.at ph hx
   rw[getD_eq_getElem?_getD,C2]at h
   have EW:vs.length=qs.length:=Paired.length hL
   refine⟨_,rfl,t,vs,rfl, .inr (Af.of ht),?_⟩
   rw[EW]
   exact h
  have e2:(List.range Eg.length).map (fun i=>V.int ((st.lies.getD i []).length:Nat))=(st.lies.map fun q=>(q.length:Int)).map V.int:=by
   rw[hhl,map_map]
   exact j4 st.lies _ fun q=>V.int (q.length:Nat)
  rw[e2]
  refine⟨D2,_,rfl,Aa.of ac,rfl,?_⟩
  rw[bN]
  exact q _ (s1.new BY)
noncomputable abbrev YA.twin (a:YA)(y dy ro la le li dn:Addr):YA:={ a with y:=y,dy:=dy,ro:=ro,la:=la,le:=le,li:=li,dn:=dn }
noncomputable abbrev yx (ys:Ys)(ex:List Addr):Ys:={ ys with ex:=ex }
structure XS (K:Frag)(ys:Ys)(H:Hp)(a:YA)(s:YS):Prop where
 Y:AJ K ys H a s
 ok:mj a.ps.length s.rooms=true
 l1:s.lanes.length <= 900
 l2:s.U.length <= 900
 l3:s.lies.length <= 900
 l4:s.done.length <= 100000
noncomputable def tf (K:Frag)(c:Cs)(TC:Addr)(J:TJ)(ys:Ys):Sp:=fun vs H Q _=>∃ (a:YA)(s:YS),vs=[.ref a.y]/\XS K ys H a s/\vC c TC J H a /\
 ∀ (y dy ro la le li dn:Addr)(v1 v2 v3:List V)(H':Hp),zW H H'->H y=none->H a.la=some (.lst v1)->H a.le=some (.lst v2)->H a.li=some (.lst v3)->H' y=some (.ins ys.zY dy (pN a.tb ro la le li dn))->Af K H' ro s.rooms->H' la=some (.lst v1)->H' le=some (.lst v2)->H' li=some (.lst v3)->H' dn=some (.lst [])->(∀ b ∈ [la,le,li,dn],H b=none)->[la,le,li,dn].Nodup->Q (.ref y) H'
noncomputable def sG (K:Frag)(c:Cs)(TC:Addr)(J:TJ)(ys:Ys):Sp:=fun vs H Q _=>∃ (a:YA)(s:YS),vs=[.ref a.y]/\XS K ys H a s/\vC c TC J H a /\
 ∀ (y dy ro la le li dn:Addr)(H':Hp),zW H H'->(∀ b ∈ [la,le,li,dn],H b=none)->AJ K (yx ys (a.four ++ ys.ex)) H' (a.twin y dy ro la le li dn) s->Q (.ref y) H'
theorem wO {m:Nat}{rs:List V}(h:mj m rs=true):rs.length=m/\∀ v ∈ rs,∃ r,v = .int r:=by
 unfold mj at h
 rw[Bool.and_eq_true,decide_eq_true_eq,all_eq_true]at h
 exact⟨h.1,fun v hv=>ip (h.2 v hv)⟩
structure TM (K:Frag)(H B B':Hp)(C y dy la:Addr)(fs:Fs)(vs:List V):Prop where
 s:zW H B'
 g:B' y=some (.ins C dy fs)
 l:B' la=some (.lst vs)
 n:H la=none
 k:∀ b xs,B b=some (.lst xs)->B' b=some (.lst xs)/\b ≠ la
 r:∀ r xs,Af K B r xs->Af K B' r xs
theorem il {K:Frag}{H B:Hp}{C y dy la:Addr}{fs:Fs}{vs:List V}(f:Str)(sB:zW H B)(ny:H y=none)(gy:B y=some (.ins C dy fs))(hl:B la=none) :
  TM K H B (upd (upd B la (.lst vs)) y (.ins C dy (aM f (.ref la) fs))) C y dy la (aM f (.ref la) fs) vs:=by
 have u:=(zW.refl B).new (o := .lst vs) hl
 have nl:la ≠ y:=Ne.symm (ag gy hl)
 refine⟨fun b o e=>by rw[ae (ag e ny)];exact u _ _ (sB _ _ e),ac,by rw[ae nl];exact ac,sB.free hl,fun b xs e=>⟨?_,ag e hl⟩,fun r xs h=>eJ (u _ _ gy) (bq u h)⟩
 rw[ae (aX e gy (by intro z;cases z))];exact u _ _ e
theorem vF {K:Frag}{ys:Ys}{H B:Hp}{a:YA}{s:YS}{y dy ro la le li dn:Addr}{v1 v2 v3 v4:List V}{dn':List (List V)}(hY:AJ K ys H a s)(sB:zW H B)
  (g1:H a.la=some (.lst v1)) (g2:H a.le=some (.lst v2)) (g3:H a.li=some (.lst v3))
  (i:B y=some (.ins ys.zY dy (pN a.tb ro la le li dn))) (r:Af K B ro s.rooms) (b1:B la=some (.lst v1)) (b2:B le=some (.lst v2)) (b3:B li=some (.lst v3)) (b4:B dn=some (.lst v4)) (p4:Paired (Bq B) v4 dn')
  (fr:∀ b ∈ [la,le,li,dn],H b=none) (nd:[la,le,li,dn].Nodup):AJ K (yx ys (a.four ++ ys.ex)) B (a.twin y dy ro la le li dn) { s with done:=dn' }:=by
 obtain⟨w1,h1,p1⟩:=hY.Bf
 obtain⟨w2,h2,p2⟩:=hY.hle
 obtain⟨w3,h3,p3⟩:=hY.BP
 rw[g1]at h1;cases h1
 rw[g2]at h2;cases h2
 rw[g3]at h3;cases h3
 have Nh:∀ p:Addr,(∃ o,H p=some o)->p ∉ a.la :: a.le :: a.li :: a.dn :: ys.ex->p ∉ la :: le :: li :: dn :: (yx ys (a.four ++ ys.ex)).ex:=fun p ⟨o,ho⟩ hn z=>by
  have e:la :: le :: li :: dn :: (yx ys (a.four ++ ys.ex)).ex=[la,le,li,dn] ++ (a.la :: a.le :: a.li :: a.dn :: ys.ex):=rfl
  rw[e]at z
  rcases mem_append.mp z with z | z
  ·rw[fr p z]at ho;cases ho
  ·exact hn z
 refine⟨i,r,⟨v1,b1,Paired.mono (fun v ln z=>?_) p1⟩,⟨v2,b2,Paired.mono (fun v t z=>?_) p2⟩,⟨v3,b3,Paired.mono (fun v q z=>z.keep (zW.Ao sB)) p3⟩,⟨v4,b4,p4⟩,nd,fun b hb=>?_⟩
 ·obtain⟨x,dx,pa,Al,ev,L,n⟩:=z
  exact⟨x,dx,pa,Al,ev,L.same sB,Nh pa ⟨_,L.lst⟩ n⟩
 ·obtain⟨x,dx,wa,ev,hx,hw,n⟩:=z
  exact⟨x,dx,wa,ev,sB _ _ hx,sB _ _ hw,Nh wa ⟨_,hw⟩ n⟩
 ·obtain⟨xs,hz⟩:=Ac.Dr hY b hb
  exact⟨xs,sB _ _ hz⟩
theorem Ni:ao ["self", "other"] ["self"] (ai tV):=L2.Ax
theorem wN {c:Cs}{ys:Ys}{J:TJ}{TC nr f GX fy:Addr}{fd GZ dy:FuncData}(F:As K "bare_twin" "Yard.bare_twin" tV f fd)(T:dR mg)(Y:gj K ys)(W:Wy K TC GX GZ J)
  (my:mg "Yard" = some (.ref ys.zY)) (My:Mk K ys.zY fy) (IQ:Binds K dy ["self", "table", "rooms"] []) (Gy:zX P w K mg base (eE P w) 4 fy dy ["self", "table", "rooms"] (pQ K c TC J (yx ys []) nr)) :
  zX P w K mg base aC 6 f fd ["self"] (tf K c TC J ys):=by
 refine F.ok Ni (fun vs H Q E h=>?_) (fun cdv A outer s H vs Q E hr h=>?_)
 ·obtain⟨a,s,rfl,_⟩:=h
  rfl
 ·obtain⟨a,st,rfl,hW,hT,q⟩:=h
  have Fu:Ah 5 _:=hr.mono (by decide)
  refine⟨_,af (aE (i:=1) Ni.nd rfl (Or.inl rfl) (c8 My Gy Fu rfl my IQ .nil fA (aa (al (pv 0) rfl) (aa (al (pv 0) rfl) ad))))
   (af (aR (pv 1) (bu aW rfl T.list PySem.Pv.boot_list (aa (al (pv 0) rfl) ad)) rfl)
   (af (aR (pv 1) (bu aW rfl T.list PySem.Pv.boot_list (aa (al (pv 0) rfl) ad)) rfl)
   (af (aR (pv 1) (bu aW rfl T.list PySem.Pv.boot_list (aa (al (pv 0) rfl) ad)) rfl)
   (ah (ar (pv 1)))))),?_⟩
  have hY:=hW.Y
  obtain⟨D3,hri⟩:=wO hW.ok
  obtain⟨v1,g1,p1⟩:=hY.Bf
  obtain⟨v2,g2,p2⟩:=hY.hle
  obtain⟨v3,g3,p3⟩:=hY.BP
  have D5:=hT.AZ
  refine⟨_,rfl,a.y,ys.zY,a.dy,_,_,rfl,hY.ins,Y.cl,Y.n1,rfl,_,rfl,a.y,ys.zY,a.dy,_,_,rfl,hY.ins,Y.cl,Y.n2,rfl,fun y dy ny IS IT=>?_⟩
  have s1:zW H (upd (upd H dy (.own y)) y (.ins ys.zY dy [])):=zW.new (zW.new (zW.refl H) IS) (by rw[ae (Ne.symm IT)];exact ny)
  refine⟨y,dy,a.tb,a.lx,a.Aw,a.lt,a.n,a.Ag,a.ps,a.wy,_,st.rooms,rfl,ac,Bm.keep W hT (zW.Ao s1),(fun b hb=>by cases hb), .inr ⟨a.ro,rfl, .inr (bq s1 hY.Im),by omega,(fun v hv=>by obtain⟨r,rfl⟩:=hri v hv;exact .int r),fun h=>by rw[hW.ok]at h;cases h⟩,fun _ ro RL LU Ir dn H5 o5 FH Hg J4 J6 hN=>⟨rfl,?_⟩⟩
  have s5:zW H H5:=fun b o e=>o5 b o (fun z=>by rw[mem_singleton.mp z,ny]at e;cases e) (s1 _ _ e)
  have RN:H dn=none:=s1.free J6
  have g5:=hN.ins
  have ro5:Af K H5 ro st.rooms:=hN.Im
  have dn5:H5 dn=some (.lst []):=by
   obtain⟨vs,gv,pv⟩:=hN.BJ
   have e:(Y0 st.rooms a.n).done=[]:=rfl
   rw[e]at pv
   cases pv
   exact gv
  clear hN o5 s1
  refine⟨_,rfl,a.y,ys.zY,a.dy,_,_,rfl,s5 _ _ hY.ins,Y.cl,Y.n3,rfl,a.la,v1,rfl, .inl (Aa.of (s5 _ _ g1)),fun la Bf=>?_⟩
  have S6:=il (K:=K) (vs:=v1) "lanes" s5 ny g5 Bf
  refine⟨_,rfl,y,ys.zY,dy,_,rfl,(zW.refl H5).new (o := .lst v1) Bf _ _ g5,Y.cl,Y.n3,by show 6 < 1000;decide,?_⟩
  generalize upd (upd H5 la (.lst v1)) y (.ins ys.zY dy (aM "lanes" (.ref la) (pN a.tb ro RL LU Ir dn)))=H6 at S6 ⊢
  have g6:H6 y=some (.ins ys.zY dy (pN a.tb ro la LU Ir dn)):=S6.g
  refine⟨_,rfl,a.y,ys.zY,a.dy,_,_,rfl,S6.s _ _ hY.ins,Y.cl,Y.n4,rfl,a.le,v2,rfl, .inl (Aa.of (S6.s _ _ g2)),fun le hle=>?_⟩
  have S7:=il (K:=K) (vs:=v2) "letters" S6.s ny g6 hle
  refine⟨_,rfl,y,ys.zY,dy,_,rfl,(zW.refl H6).new (o := .lst v2) hle _ _ g6,Y.cl,Y.n4,by show 6 < 1000;decide,?_⟩
  generalize upd (upd H6 le (.lst v2)) y (.ins ys.zY dy (aM "letters" (.ref le) (pN a.tb ro la LU Ir dn)))=H7 at S7 ⊢
  have g7:H7 y=some (.ins ys.zY dy (pN a.tb ro la le Ir dn)):=S7.g
  refine⟨_,rfl,a.y,ys.zY,a.dy,_,_,rfl,S7.s _ _ hY.ins,Y.cl,Y.n5,rfl,a.li,v3,rfl, .inl (Aa.of (S7.s _ _ g3)),fun li BP=>?_⟩
  have S8:=il (K:=K) (vs:=v3) "lies" S7.s ny g7 BP
  refine⟨_,rfl,y,ys.zY,dy,_,rfl,(zW.refl H7).new (o := .lst v3) BP _ _ g7,Y.cl,Y.n5,by show 6 < 1000;decide,?_⟩
  generalize upd (upd H7 li (.lst v3)) y (.ins ys.zY dy (aM "lies" (.ref li) (pN a.tb ro la le Ir dn)))=H8 at S8 ⊢
  have g8:H8 y=some (.ins ys.zY dy (pN a.tb ro la le li dn)):=S8.g
  obtain⟨d6,nd6⟩:=S6.k _ _ dn5
  obtain⟨d7,nd7⟩:=S7.k _ _ d6
  obtain⟨d8,nd8⟩:=S8.k _ _ d7
  obtain⟨a7,na7⟩:=S7.k _ _ S6.l
  obtain⟨a8,na8⟩:=S8.k _ _ a7
  obtain⟨e8,ne8⟩:=S8.k _ _ S7.l
  have fr:∀ b ∈ [la,le,li,dn],H b=none:=fun b hb=>by
   simp only[mem_cons,not_mem_nil,or_false]at hb
   rcases hb with rfl | rfl | rfl | rfl
   ·exact S6.n
   ·exact S7.n
   ·exact S8.n
   ·exact RN
  refine⟨_,rfl,q y dy ro la le li dn v1 v2 v3 H8 S8.s ny g1 g2 g3 g8 (S8.r _ _ (S7.r _ _ (S6.r _ _ ro5))) a8 e8 S8.l d8 fr ?_⟩
  simp only[nodup_cons,mem_cons,not_mem_nil,or_false,not_or,not_false_eq_true,and_true,nodup_nil]
  exact⟨⟨na7,na8,Ne.symm nd6⟩,⟨ne8,Ne.symm nd7⟩,Ne.symm nd8⟩
theorem Nj:ao ["self", "other"] ["self"] (ai oG):=L2.Ax
theorem uo {c:Cs}{ys:Ys}{J:TJ}{TC f GX fb:Addr}{fd GZ db:FuncData}(F:As K "twin" "Yard.twin" oG f fd)(T:dR mg)(Y:gj K ys)(W:Wy K TC GX GZ J)
  (mb:bz K ys.zY "bare_twin" fb) (bb:Binds K db ["self"] []) (Gb:zX P w K mg base aC 6 fb db ["self"] (tf K c TC J ys)) :
  zX P w K mg base aC 7 f fd ["self"] (sG K c TC J ys):=by
 refine F.ok Nj (fun vs H Q E h=>?_) (fun cdv A outer s H vs Q E hr h=>?_)
 ·obtain⟨a,s,rfl,_⟩:=h
  rfl
 ·obtain⟨a,st,rfl,hW,hT,q⟩:=h
  refine⟨_,af (aE (i:=1) Nj.nd rfl (Or.inl rfl) (aT (pv 0) Y.cl mb Gb hr bb .nil ap))
   (af (aR (pv 1) (bu aW rfl T.list PySem.Pv.boot_list (aa (al (pv 0) rfl) ad)) rfl)
   (ah (ar (pv 1)))),?_⟩
  have hY:=hW.Y
  obtain⟨v4,g4,p4⟩:=hY.BJ
  refine⟨_,rfl,a.y,a.dy,_,rfl,hY.ins,rfl,a,st,rfl,hW,hT,fun y dy ro la le li dn v1 v2 v3 H5 s5 ny g1 g2 g3 g5 r5 a5 e5 i5 d5 fr nd=>?_⟩
  refine⟨_,rfl,a.y,ys.zY,a.dy,_,_,rfl,s5 _ _ hY.ins,Y.cl,Y.n6,rfl,a.dn,v4,rfl, .inl (Aa.of (s5 _ _ g4)),fun dn' BJ=>?_⟩
  have S6:=il (K:=K) (vs:=v4) "done" s5 ny g5 BJ
  refine⟨_,rfl,y,ys.zY,dy,_,rfl,(zW.refl H5).new (o := .lst v4) BJ _ _ g5,Y.cl,Y.n6,by show 6 < 1000;decide,?_⟩
  generalize upd (upd H5 dn' (.lst v4)) y (.ins ys.zY dy (aM "done" (.ref dn') (pN a.tb ro la le li dn)))=H6 at S6 ⊢
  have g6:H6 y=some (.ins ys.zY dy (pN a.tb ro la le li dn')):=S6.g
  obtain⟨c1,n1⟩:=S6.k _ _ a5
  obtain⟨c2,n2⟩:=S6.k _ _ e5
  obtain⟨c3,n3⟩:=S6.k _ _ i5
  have XT:∀ b ∈ [la,le,li,dn'],H b=none:=fun b hb=>by
   simp only[mem_cons,not_mem_nil,or_false]at hb
   rcases hb with rfl | rfl | rfl | rfl
   ·exact fr _ (by simp)
   ·exact fr _ (by simp)
   ·exact fr _ (by simp)
   ·exact S6.n
  refine⟨_,rfl,q y dy ro la le li dn' H6 S6.s XT (vF (dn':=st.done) hY S6.s g1 g2 g3 g6 (S6.r _ _ r5) c1 c2 c3 S6.l (Paired.mono (fun v m z=>Bq.keep (zW.Ao S6.s) z) p4) XT ?_)⟩
  simp only[nodup_cons,mem_cons,not_mem_nil,or_false,not_or,not_false_eq_true,and_true,nodup_nil]at nd ⊢
  exact⟨⟨nd.1.1,nd.1.2.1,n1⟩,⟨nd.2.1.1,n2⟩,n3⟩
theorem CV.rooms {a:YA}{s s':YS}{m:Mv}(h:CV a s m s'):s'.rooms=s.rooms:=by cases h<;>rfl
theorem CV.len {a:YA}{s s':YS}{m:Mv}(h:CV a s m s'):s'.U.length=s.U.length:=by
 cases h with
 | @BR k l t ln ht hg hl AK ho =>
  show(if t.gone=0 then (iU s k t).U.set k _ else (iU s k t).U).length=_
  have:(iU s k t).U.length=s.U.length:=length_set ..
  split
  ·rw[length_set];exact this
  ·exact this
 | @on k l m c lk ln t hk hq ht hl AK ho =>
  show(if c=0 then s.U.set m _ else s.U).length=_
  split
  ·exact length_set ..
  ·rfl
 | DJ=>rfl
 | back=>rfl
structure Cr (s s':YS):Prop where
 rooms:s'.rooms=s.rooms
 done:∃ e,s'.done=s.done ++ e/\∀ d ∈ e,∀ x ∈ d,oi x
theorem Cr.refl (s:YS):Cr s s:=⟨rfl,[],(append_nil _).symm,fun d hd=>by cases hd⟩
theorem Cr.trans {s s1 s2:YS}(h:Cr s s1)(g:Cr s1 s2):Cr s s2:=by
 obtain⟨e,he,se⟩:=h.done
 obtain⟨e',he',se'⟩:=g.done
 refine⟨g.rooms.trans h.rooms,e ++ e',by rw[he',he,append_assoc],fun d hd=>?_⟩
 rcases mem_append.mp hd with hd | hd
 ·exact se d hd
 ·exact se' d hd
theorem Nk (m:Mv):∀ x ∈ fV m,oi x:=by
 cases m<;>intro x hx<;>simp only[fV,mem_cons,not_mem_nil,or_false]at hx
 ·rcases hx with rfl | rfl | rfl<;>first | exact Or.inl ⟨_,rfl⟩ | exact Or.inr ⟨_,rfl,by decide +kernel⟩
 ·rcases hx with rfl | rfl | rfl<;>first | exact Or.inl ⟨_,rfl⟩ | exact Or.inr ⟨_,rfl,by decide +kernel⟩
 ·rcases hx with rfl | rfl<;>first | exact Or.inl ⟨_,rfl⟩ | exact Or.inr ⟨_,rfl,by decide +kernel⟩
 ·rcases hx with rfl | rfl<;>first | exact Or.inl ⟨_,rfl⟩ | exact Or.inr ⟨_,rfl,by decide +kernel⟩
theorem Cr.move {a:YA}{s s':YS}{m:Mv}(h:CV a s m s'):Cr s { s' with done:=s.done ++ [fV m] } :=
 ⟨h.rooms,[fV m],rfl,fun d hd=>by rw[mem_singleton.mp hd];exact Nk m⟩
theorem Cr.post (s:YS)(x y l u:Int):Cr s (iQ s x y l u):=by
 refine⟨rfl,[[.str "post", .int x, .int y, .int l, .int u]],rfl,fun d hd z hz=>?_⟩
 rw[mem_singleton.mp hd]at hz
 simp only[mem_cons,not_mem_nil,or_false]at hz
 rcases hz with rfl | rfl | rfl | rfl | rfl<;>first | exact Or.inl ⟨_,rfl⟩ | exact Or.inr ⟨_,rfl,by decide +kernel⟩
theorem Bk.post {a:YA}{s:YS}(J:Bk a s){x y:Nat}{l u:Int}(hx:x < a.n)(hy:y < a.n)(hl:0 <= l/\l <= 60)(hf:s.U.length < 60):Bk a (iQ s x y l u):=by
 have el:∀ (m:Nat)(t:cp),(iQ s x y l u).U[m]? = some t->s.U[m]? = some t∨(m=s.U.length/\t = ⟨x,y,l,u,0,[]⟩):=fun m t ht=>by
  have ht:(s.U ++ [(⟨(x:Int),(y:Int),l,u,0,[]⟩:cp)])[m]? = some t:=ht
  by_cases hm:m < s.U.length
  ·rw[List.getElem?_append_left hm]at ht;exact .inl ht
  ·have h3:=(List.getElem?_eq_some_iff.mp ht).1
   rw[length_append,length_singleton]at h3
   have em:m=s.U.length:=by omega
   subst em
   rw[List.getElem?_concat_length]at ht
   cases ht
   exact .inr ⟨rfl,rfl⟩
 have eo:∀ (m:Nat)(t:cp),s.U[m]? = some t->(iQ s x y l u).U[m]? = some t:=fun m t ht=>by
  show(s.U ++ [(⟨(x:Int),(y:Int),l,u,0,[]⟩:cp)])[m]? = some t
  rw[List.getElem?_append_left (List.getElem?_eq_some_iff.mp ht).1];exact ht
 refine⟨J.lanes,J.lies,?_,J.D5,fun m t ht=>?_,fun m t ht=>?_,fun k ln hk q hq=>?_,fun m t ht=>?_,fun m t ht hg=>?_,fun m t ht i l' hi he=>?_,fun m t ht l' ln DD AK=>?_,J.first,fun k ln hk m t hm ht=>?_,?_⟩
 ·show(s.U ++ [_]).length <= 60
  rw[length_append,length_singleton];omega
 ·rcases el m t ht with h | ⟨_,rfl⟩
  ·exact J.lets m t h
  ·exact⟨x,y,rfl,rfl,hx,hy⟩
 ·rcases el m t ht with h | ⟨_,rfl⟩
  ·exact J.Bc m t h
  ·exact⟨(fun l hl=>by cases hl),nodup_nil⟩
 ·obtain⟨m,t,e,ht,IJ⟩:=J.Bp k ln hk q hq
  exact⟨m,t,e,eo m t ht,IJ⟩
 ·rcases el m t ht with h | ⟨_,rfl⟩
  ·exact J.Cb m t h
  ·exact⟨Int.le_refl _,hl.1,hl.2⟩
 ·rcases el m t ht with h | ⟨_,rfl⟩
  ·exact J.Bj m t h hg
  ·rfl
 ·rcases el m t ht with h | ⟨_,rfl⟩
  ·exact J.last m t h i l' hi he
  ·cases hi
 ·rcases el m t ht with h | ⟨_,rfl⟩
  ·exact J.head m t h l' ln DD AK
  ·cases DD
 ·obtain⟨m2,t2,e2,FP,_⟩:=J.Bp k ln hk _ hm
  have e2:(m:Int)=(m2:Int):=e2
  have e2:m=m2:=by omega
  subst e2
  rcases el m t ht with h | ⟨e,_⟩
  ·exact J.El k ln hk m t hm h
  ·rw[e]at FP
   rw[List.getElem?_eq_none (le_refl _)]at FP
   cases FP
 ·have h:=J.sum
  have e:gq (iQ s x y l u)=gq s:=by
   show((s.U ++ [(⟨(x:Int),(y:Int),l,u,0,[]⟩:cp)]).map _).sum=_
   rw[map_append,List.sum_append]
   simp[gq]
  rw[e];exact h
noncomputable def qd (K:Frag)(c:Cs)(TC:Addr)(J:TJ)(ys:Ys):Sp:=fun vs H Q _=>∃ (a:YA)(s:YS)(d:Int),vs=[.ref a.y, .int d]/\D4 K c TC J ys H a s/\Bk a s/\s.done.length <= 90000 /\
 ∀ (H':Hp)(s':YS),Ae a.four H H'->AJ K ys H' a s'->Bk a s'->Cr s s'->s'.U.length=s.U.length->s'.done.length <= s.done.length + 1->(bS a s ≠ []->s.done.length < s'.done.length)->Q .An H'
noncomputable abbrev NDn:List Str:=["_law_yard", "_law_draw", "_law_moves"]
theorem Nl:ao NDn ["_law_yard", "_law_draw"] (ai tT):=L2.Ax
theorem u7 {c:Cs}{ys:Ys}{J:TJ}{TC f fw fm XU:Addr}{fd dw dm dd:FuncData}(F:As K "_law_done" "_law_done" tT f fd)(T:dR mg)(Y:gj K ys)(W:Wy K TC fw dw J)
  (mm:bz K ys.zY "moves" fm) (bm:Binds K dm ["self"] []) (Gm:zX P w K mg base aC 7 fm dm ["self"] (ll K c TC J ys))
  (md:bz K ys.zY "do" XU) (bd:Binds K dd ["self", "move"] []) (Gd:zX P w K mg base (eE P w) 8 XU dd ["self", "move"] (MG K c TC J ys)) :
  zX P w K mg base aC 9 f fd ["_law_yard", "_law_draw"] (qd K c TC J ys):=by
 refine F.ok Nl (fun vs H Q E h=>?_) (fun cdv A outer s H vs Q E hr h=>?_)
 ·obtain⟨a,s,d,rfl,_⟩:=h
  rfl
 ·obtain⟨a,st,d,rfl,hI,hJ,hd9,q⟩:=h
  have hu:=hr.units
  have P8:Ah 7 _:=hr.mono (by decide)
  have IU:Ah 8 _:=hr.mono (by decide)
  refine⟨_,af (aE (i:=2) Nl.nd rfl (Or.inl rfl) (aT (pv 0) Y.cl mm Gm P8 bm .nil ap))
   (ah (aO (ax (gG hu) (pv 2) (aV ad) (aB _)) (ah (aK (aA (pv 0) Y.cl md Gd IU bd .nil fA (aa (av aI (pv 2) (aD bJ (pv 1) (az aw rfl T.len PySem.boot_len (aa (pv 2) ad))) (fun _ _=>rfl)) ad)))) aH)),?_⟩
  refine⟨_,rfl,a.y,a.dy,_,rfl,hI.Y.ins,rfl,a,st,rfl,hI,fun Dm Ay Hb sb hDm XW hpm=>?_⟩
  have hIb:=hI.same W sb
  refine⟨_,rfl,zero_le _,fun o1 Fc=>?_⟩
  have IV:=sb.new (o := .lst []) Fc
  have E6:(upd Hb o1 (.lst [])) o1=some (.lst []):=ac
  have FZ:(upd Hb o1 (.lst [])) Dm=some (.lst Ay):=by rw[ae (ag XW Fc)];exact XW
  have Gj:=Paired.mono (fun _ _ z=>z.keep (zW.Ao ((zW.refl Hb).new (o := .lst []) Fc))) hpm
  generalize upd Hb o1 (.lst [])=Hc at IV E6 FZ Gj ⊢
  have TN:=hI.same W IV
  refine neN (f:=si) (l:=bS a st) (.lst (Aa.of FZ) (i7 Gj)) (.lst (Aa.of E6) .nil) (qi _) ⟨_,rfl,?_⟩
  cases JK:(bS a st).isEmpty with
  | true =>
   refine aJ (q Hc st (zW.AB IV) TN.Y hJ (Cr.refl _) rfl (by omega) fun hn=>?_)
   exact absurd (List.isEmpty_iff.mp JK) hn
  | false =>
  have TQ:Ay.length=(bS a st).length:=by rw[Paired.length Gj,length_map]
  have TU:0 < Ay.length:=by
   rw[TQ]
   cases hx:bS a st with
   | nil=>rw[hx]at JK;cases JK
   | cons _ _=>exact succ_pos _
  have np:(0:Int) < ((Ay.length:Nat):Int):=by omega
  have z1:=emod_nonneg d (show((Ay.length:Nat):Int) ≠ 0 by omega)
  have z2:=emod_lt_of_pos d np
  obtain⟨k,hk,TV⟩:∃ k:Nat,d % ((Ay.length:Nat):Int)=(k:Int)/\k < Ay.length:=⟨(d % ((Ay.length:Nat):Int)).toNat,by omega,by omega⟩
  have IW:=List.getElem?_eq_getElem TV
  obtain⟨mv,Nm,p,TY,hp⟩:=Paired.at Gj IW
  obtain⟨m,hmm,rfl⟩:∃ m,m ∈ bS a st/\fV m=mv:=by
   rw[List.getElem?_map]at Nm
   cases hx:(bS a st)[k]? with
   | none=>rw[hx]at Nm;cases Nm
   | some m=>rw[hx]at Nm;exact⟨m,mem_of_getElem? hx,Option.some.inj Nm⟩
  rw[TY]at IW
  refine aN ⟨_,rfl,a.y,a.dy,_,rfl,TN.Y.ins,rfl,_,rfl,_,rfl,_,rfl,Dm,_,rfl, .inl (Aa.of FZ),_,_,rfl,rfl,np,Dm,Ay,(k:Int), .ref p,rfl,congrArg V.int hk,Aa.of FZ,ak IW,?_⟩
  refine⟨a,st,p,m,rfl,TN,hp,hmm,hJ.Xy (by omega),fun Hf s' Du Fb hYf=>?_⟩
  refine q Hf _ ((zW.AB IV).trans Fb) hYf ((hJ.step Du).done _) (Cr.move Du) Du.len ?_ fun _=>?_
  ·show(st.done ++ [_]).length <= _
   rw[length_append,length_singleton];exact le_refl _
  ·show st.done.length < (st.done ++ [_]).length
   rw[length_append,length_singleton];exact lt_succ_self _
noncomputable def sL (K:Frag)(c:Cs)(TC:Addr)(J:TJ)(ys:Ys):Sp:=fun vs H Q _=>∃ (a:YA)(s:YS)(bg cs:Addr)(Av:List V)(bs:List (Int × Int))(ns:List Int),vs=[.ref a.y, .ref bg, .ref cs]/\AJ K ys H a s/\vC c TC J H a/\Bk a s/\H bg=some (.lst Av)/\Aq H Av bs/\jh a bs/\bs.length <= 1000/\bg ∉ a.four/\H cs=some (.lst (ns.map V.int))/\cs ∉ a.four/\ns.length <= 10/\s.U.length + ns.length <= 59/\s.done.length <= 9000 /\
 ∀ (H':Hp)(s':YS),Ae [a.le,a.dn] H H'->AJ K ys H' a s'->Bk a s'->Cr s s'->s'.U.length <= s.U.length + ns.length->s'.done.length <= s.done.length + ns.length->Q .An H'
noncomputable abbrev NLp:List Str:=["_law_yard", "_law_begins_here", "_law_cells", "_law_cell", "_law_start", "_law_goal"]
theorem Gq:ao NLp ["_law_yard", "_law_begins_here", "_law_cells"] (ai lw):=L2.Ax
theorem ww {c:Cs}{ys:Ys}{x:Xs}{J:TJ}{TC f fw fp:Addr}{fd dw dp:FuncData}(F:As K "_law_posts" "_law_posts" lw f fd)(T:dR mg)(Y:gj K ys)(W:Wy K TC fw dw J)
  (mp:bz K ys.zY "post" fp) (bp:Binds K dp Mq []) (Gp:zX P w K mg base (eE P w) 4 fp dp Mq (oA K c TC J ys x)) :
  zX P w K mg base aC 5 f fd ["_law_yard", "_law_begins_here", "_law_cells"] (sL K c TC J ys):=by
 refine F.ok Gq (fun vs H Q E h=>?_) (fun cdv A outer s H vs Q E hr h=>?_)
 ·obtain⟨a,s,bg,cs,Av,bs,ns,rfl,_⟩:=h
  rfl
 ·obtain⟨a,st,bg,cs,Av,bs,ns,rfl,hY,hT,hJ,gbg,JL,Nn,IP,nbg,XX,ncs,hnl,OT,hdl0,q⟩:=h
  have hu:=hr.units
  refine⟨_,ah (bv PassesOwn.never rfl (bA (pv 2)) (au (i:=3) Gq.nd rfl (Or.inl rfl))
   (ah (aO (ax (gG hu) (pv 1) (aV ad) (aB _))
    (af (j8 (av aI (pv 1) (aD bJ (aD c9 (pv 3) aj) (az aw rfl T.len PySem.boot_len (aa (pv 1) ad))) (fun _ _=>rfl)) (j9 rfl (ci (au (i:=4) Gq.nd rfl (Or.inl rfl)) (ci (au (i:=5) Gq.nd rfl (Or.inl rfl)) io))))
    (ah (aK (aA (pv 0) Y.cl mp Gp hr bp .nil fA (aa (pv 4) (aa (pv 5) (aa (aD bR aj (aD bJ (pv 3) aj)) (aa (aD bJ (aD c9 (pv 3) aj) (aD uk aj aj)) ad)))))))) aH))),?_⟩
  refine⟨_,rfl,cs,rfl,⟨_,Aa.of XX⟩,?_⟩
  refine eA (K:=K) (a:=cs) (xs:=ns.map V.int) (fun i σ H2=>∃ (a4 a5 a6:Option V)(s2:YS),Ae [a.le,a.dn] H H2/\H2 cs=some (.lst (ns.map V.int))/\H2 bg=some (.lst Av)/\AJ K ys H2 a s2/\Bk a s2/\Cr st s2/\s2.U.length <= st.U.length + i/\s2.done.length <= st.done.length + i/\σ=[some (.ref a.y),some (.ref bg),some (.ref cs),a4,a5,a6])
   ⟨none,none,none,st,zW.AB (zW.refl H),XX,gbg,hY,hJ,Cr.refl _,by omega,by omega,rfl⟩ (fun i σ H2 _ ⟨_,_,_,_,_,g,_⟩=>Aa.of g) ?_ ?_
  rotate_left
  ·rintro σ H2 ⟨a4,a5,a6,s2,o2,_,_,Bi,P9,BY,h1,h2,rfl⟩
   rw[length_map]at h1 h2
   exact q H2 s2 o2 Bi P9 BY h1 h2
  rintro i v σ H2 hv ⟨a4,a5,a6,s2,o2,g2,Np,Bi,P9,BY,h1,h2,rfl⟩
  have hi:i < ns.length:=by have:=(List.getElem?_eq_some_iff.mp hv).1;rw[length_map]at this;exact this
  obtain⟨d,rfl⟩:∃ d,v=V.int d:=by
   rw[List.getElem?_map,List.getElem?_eq_getElem hi]at hv
   exact⟨_,(Option.some.inj hv).symm⟩
  have Nq:∀ b ∈ [a.le,a.dn],∃ xs,H b=some (.lst xs):=fun b hb=>by
   simp only[mem_cons,not_mem_nil,or_false]at hb
   rcases hb with rfl | rfl
   ·exact hY.B8 _ (by simp)
   ·exact hY.B8 _ (by simp)
  have Ua:vC c TC J H2 a:=Bm.keep W hT (Ae.Ao Nq o2)
  have Ub:Aq H2 Av bs:=(Ae.Ao Nq o2).Dy JL
  have hbv:Av.length=bs.length:=Paired.length JL
  have in4:∀ z:Addr,z ∉ a.four->z ∉ [a.le,a.dn]:=fun z hz h=>hz (by simp only[mem_cons,not_mem_nil,or_false]at h ⊢;rcases h with h | h<;>simp[h])
  refine⟨_,rfl,zero_le _,fun o7 JI=>?_⟩
  have s4:=(zW.refl H2).new (o := .lst []) JI
  have g7:(upd H2 o7 (.lst [])) o7=some (.lst []):=ac
  generalize upd H2 o7 (.lst [])=H4 at s4 g7 ⊢
  have Ds:=Ac.same Bi s4
  have o4:Ae [a.le,a.dn] H H4:=o2.trans (zW.AB s4)
  have Nr:=Aq.same s4 Ub
  refine neN (f:=kA) (l:=bs) (.lst (Aa.of (s4 _ _ Np)) (i8 Nr)) (.lst (Aa.of g7) .nil) (rb _) ⟨_,rfl,?_⟩
  cases Cw:bs.isEmpty with
  | true=>exact aJ ⟨_,_,_,s2,o4,s4 _ _ g2,s4 _ _ Np,Ds,P9,BY,by omega,by omega,rfl⟩
  | false =>
  have TU:0 < Av.length:=by
   rw[hbv]
   cases bs with
   | nil=>cases Cw
   | cons _ _=>exact succ_pos _
  have np:(0:Int) < ((Av.length:Nat):Int):=by omega
  have z1:=emod_nonneg (d / 4) (show((Av.length:Nat):Int) ≠ 0 by omega)
  have z2:=emod_lt_of_pos (d / 4) np
  obtain⟨k,hk,TV⟩:∃ k:Nat,d / 4 % ((Av.length:Nat):Int)=(k:Int)/\k < Av.length:=⟨(d / 4 % ((Av.length:Nat):Int)).toNat,by omega,by omega⟩
  have IW:=List.getElem?_eq_getElem TV
  obtain⟨pr,hpr,pt,TY,Dt⟩:=Paired.at Nr IW
  rw[TY]at IW
  obtain⟨a',b',rfl,XY,XZ,Ht,hw⟩:=Nn pr (mem_of_getElem? hpr)
  refine aN ⟨_,rfl,_,rfl,_,_,rfl,rfl,⟨by decide,by decide⟩,_,rfl,bg,_,rfl, .inl (Aa.of (s4 _ _ Np)),_,_,rfl,rfl,np,bg,Av,(k:Int), .ref pt,rfl,congrArg V.int hk,Aa.of (s4 _ _ Np),ak IW,pt,_,rfl,Af.of Dt,rfl,_,_,rfl,_,_,rfl,rfl,?_⟩
  refine⟨_,rfl,a.y,a.dy,_,rfl,Ds.ins,rfl,_,rfl,_,rfl,_,rfl,_,_,rfl,rfl,(by show (0:Int) < 4;decide),_,_,rfl,rfl,_,rfl,_,_,rfl,rfl,⟨by decide,by decide⟩,_,_,rfl,rfl,⟨by decide,by decide,by decide⟩,_,_,rfl,rfl,(by show (0:Int) < 10 ^ (60:Int).toNat;decide +kernel),?_⟩
  have w1:=emod_nonneg (d / 4) (show(10 ^ (60:Int).toNat:Int) ≠ 0 by decide +kernel)
  have w2:=emod_lt_of_pos (d / 4) (show (0:Int) < 10 ^ (60:Int).toNat by decide +kernel)
  have l1:=emod_nonneg d (show (4:Int) ≠ 0 by decide)
  have l2:=emod_lt_of_pos d (show (0:Int) < 4 by decide)
  dsimp only
  generalize d / 4 % 10 ^ (60:Int).toNat=wd at w1 w2 ⊢
  have hwd:Jz (.int wd)=true:=by
   unfold Jz
   exact decide_eq_true (by rw[if_neg (by omega)];exact w2)
  obtain⟨len,hlen,LC⟩:∃ len:Int,1 + d % 4=len/\1 <= len/\len <= 60:=⟨_,rfl,by omega,by omega⟩
  rw[hlen]
  have gd:=rl (n:=a.n) (wy:=a.wy) (m:=s2.U.length) XY XZ LC hwd Ht hw (by omega)
  have GQ:vC c TC J H4 a:=Bm.keep W Ua (zW.Ao s4)
  have Ie:s2.done.length <= 10000:=by omega
  refine⟨a.y,a.dy,a.tb,a.ro,a.la,a.le,a.li,a.dn,a.lx,a.Aw,a.lt,a.n,a.Ag,a.ps,a.wy,s2, .int a', .int b', .int len, .int wd,rfl,Ds,GQ, .int _, .int _, .int _, .int _,by omega,Ie,(fun h=>by rw[gd]at h;cases h),(fun h=>by rw[gd]at h;cases h),(fun h=>by rw[gd]at h;cases h),(fun h=>by rw[gd]at h;cases h),(fun h=>by rw[gd]at h;cases h),fun _ H5 o5 Ca=>?_⟩
  refine⟨_,_,_,iQ s2 a' b' len wd,o4.trans o5,o5 _ _ (in4 _ ncs) (s4 _ _ g2),o5 _ _ (in4 _ nbg) (s4 _ _ Np),Ca,P9.post XY XZ ⟨by omega,LC.2⟩ (by omega),BY.trans (Cr.post _ _ _ _ _),?_,?_,rfl⟩
  ·show(s2.U ++ [_]).length <= _
   rw[length_append,length_singleton];omega
  ·show(s2.done ++ [_]).length <= _
   rw[length_append,length_singleton];omega
structure Sd (N:Addr->Prop)(H:Hp)(a:YA)(s:YS)(t L W X M D E:Addr)(Ai CA CB Ay AL Cu:List V):Prop where
 gt:H t=some (.lst [.ref L, .ref W, .ref X, .ref M, .ref D, .bl (xj s), .ref E])
 gl:H L=some (.lst Ai)
 pl:Paired (FW N H) Ai s.lanes
 gw:H W=some (.lst CA)
 pw:Paired (FX N H) CA (jm s)
 gx:H X=some (.lst CB)
 px:Paired (FY N H) CB s.lies
 gm:H M=some (.lst Ay)
 pm:Paired (Bq H) Ay ((bS a s).map fV)
 gd:H D=some (.lst AL)
 pd:Paired (Bq H) AL s.done
 ge:H E=some (.lst Cu)
 pe:Paired (CP H) Cu s.U
 n:∀ z ∈ [t,L,W,X,M,D,E],N z
noncomputable def BB (N:Addr->Prop)(H:Hp)(v:V)(as:YA × YS):Prop:=∃ t L W X M D E Ai CA CB Ay AL Cu,v = .ref t/\Sd N H as.1 as.2 t L W X M D E Ai CA CB Ay AL Cu
theorem eR {H H':Hp}(s:zW H H')(v:V)(m:List V)(h:Bq H v m):Bq H' v m:=h.keep (zW.Ao s)
theorem Sd.same {N:Addr->Prop}{H H':Hp}{a:YA}{s:YS}{t L W X M D E:Addr}{Ai CA CB Ay AL Cu:List V}(e:zW H H')(h:Sd N H a s t L W X M D E Ai CA CB Ay AL Cu):Sd N H' a s t L W X M D E Ai CA CB Ay AL Cu :=
 ⟨e _ _ h.gt,e _ _ h.gl,Paired.mono (fun v l=>FW.same e v l) h.pl,e _ _ h.gw,Paired.mono (fun v l=>FX.same e v l) h.pw,e _ _ h.gx,Paired.mono (fun v l=>FY.same e v l) h.px,e _ _ h.gm,Paired.mono (fun v l=>eR e v l) h.pm,e _ _ h.gd,Paired.mono (fun v l=>eR e v l) h.pd,e _ _ h.ge,Paired.mono (fun v l=>CP.same e v l) h.pe,h.n⟩
theorem BB.same {N:Addr->Prop}{H H':Hp}(e:zW H H')(v:V)(as:YA × YS)(h:BB N H v as):BB N H' v as:=by
 obtain⟨t,L,W,X,M,D,E,Ai,CA,CB,Ay,AL,Cu,ev,h⟩:=h
 exact⟨t,L,W,X,M,D,E,Ai,CA,CB,Ay,AL,Cu,ev,h.same e⟩
theorem BB.off {ex:List Addr}{H H':Hp}(k:AA H H')(o:Ae ex H H')(v:V)(as:YA × YS)(h:BB (fun z=>z ∉ ex) H v as):BB (fun z=>z ∉ ex) H' v as:=by
 obtain⟨t,L,W,X,M,D,E,Ai,CA,CB,Ay,AL,Cu,ev,h⟩:=h
 have n:=h.n
 refine⟨t,L,W,X,M,D,E,Ai,CA,CB,Ay,AL,Cu,ev,o _ _ (n _ (by simp)) h.gt,o _ _ (n _ (by simp)) h.gl,?_,o _ _ (n _ (by simp)) h.gw,?_,o _ _ (n _ (by simp)) h.gx,?_,o _ _ (n _ (by simp)) h.gm,Paired.mono (fun v l z=>Bq.keep k z) h.pm,o _ _ (n _ (by simp)) h.gd,Paired.mono (fun v l z=>Bq.keep k z) h.pd,o _ _ (n _ (by simp)) h.ge,Paired.mono (fun v l ⟨x,e,z⟩=>⟨x,e,k _ _ z True.intro⟩) h.pe,n⟩
 ·exact Paired.mono (fun v ln ⟨t,ql,Al,e,h1,h2,h3,h4⟩=>⟨t,ql,Al,e,k _ _ h1 True.intro,o _ _ h4 h2,k.Dy h3,h4⟩) h.pl
 ·exact Paired.mono (fun v y ⟨t,e,h1,h2⟩=>⟨t,e,o _ _ h2 h1,h2⟩) h.pw
 ·exact Paired.mono (fun v q ⟨t,Al,e,h1,h2,h3⟩=>⟨t,Al,e,o _ _ h3 h1,k.Dy h2,h3⟩) h.px
noncomputable def ltD (t:cp):PyData := .tuple [.int t.start, .int t.goal, .int t.len, .int t.word]
noncomputable def oh (as:YA × YS):PyData := .list [.list (as.2.lanes.map lnD), .list ((jm as.2).map wyD), .list (as.2.lies.map hpD), .list ((bS as.1 as.2).map si), .list (as.2.done.map re), .bool (xj as.2), .list (as.2.U.map ltD)]
theorem jU {K:Frag}{N:Addr->Prop}{H:Hp}{v:V}{as:YA × YS}(FC:∀ d ∈ as.2.done,∀ x ∈ d,oi x)(h:BB N H v as):ke K H v (oh as):=by
 obtain⟨t,L,W,X,M,D,E,Ai,CA,CB,Ay,AL,Cu,rfl,h⟩:=h
 refine .lst (Aa.of h.gt) (.cons (.lst (Aa.of h.gl) (i6 (fun v ln h=>?_) h.pl)) (.cons (.lst (Aa.of h.gw) (i6 (fun v y h=>?_) h.pw)) (.cons (.lst (Aa.of h.gx) (i6 (fun v qs h=>?_) h.px)) (.cons (.lst (Aa.of h.gm) (i7 h.pm)) (.cons (.lst (Aa.of h.gd) (fT h.pd FC)) (.cons (.bl _) (.cons (.lst (Aa.of h.ge) (i6 (fun v t h=>?_) h.pe)) .nil)))))))
 ·obtain⟨t,ql,Al,rfl,h1,h2,h3,_⟩:=h
  exact .tup (Af.of h1) (.cons (.int _) (.cons (.int _) (.cons (Ng _) (.cons (.lst (Aa.of h2) (i8 h3)) .nil))))
 ·obtain⟨t,rfl,h1,_⟩:=h
  exact .lst (Aa.of h1) (qL _)
 ·obtain⟨t,Al,rfl,h1,h2,_⟩:=h
  exact .lst (Aa.of h1) (i8 h2)
 ·obtain⟨x,rfl,h1⟩:=h
  exact .tup (Af.of h1) (.cons (.int _) (.cons (.int _) (.cons (.int _) (.cons (.int _) .nil))))
theorem vL {m:List V}(h:∀ x ∈ m,oi x):BD (re m) 1:=by
 unfold re
 refine c5 (m:=0) fun y hy=>?_
 obtain⟨x,hx,rfl⟩:=mem_map.mp hy
 rcases h x hx with ⟨i,rfl⟩ | ⟨t,rfl,ht⟩
 ·exact bL _
 ·exact fN ht
theorem lq {as:YA × YS}(FC:∀ d ∈ as.2.done,∀ x ∈ d,oi x):BD (oh as) 5:=bD (m:=4) fun y hy=>by
 simp only[mem_cons,not_mem_nil,or_false]at hy
 rcases hy with rfl | rfl | rfl | rfl | rfl | rfl | rfl
 ·refine bD (m:=3) fun z hz=>?_
  obtain⟨ln,_,rfl⟩:=mem_map.mp hz
  refine c5 (m:=2) fun y hy=>?_
  simp only[mem_cons,not_mem_nil,or_false]at hy
  rcases hy with rfl | rfl | rfl | rfl
  ·exact(bL _).le (by decide)
  ·exact(bL _).le (by decide)
  ·cases ln.h with
   | none=>exact EI.le (by decide)
   | some z=>exact(bL _).le (by decide)
  ·exact qh _
 ·refine(bD (m:=1) fun z hz=>?_).le (by decide)
  obtain⟨y,_,rfl⟩:=mem_map.mp hz
  refine bD (m:=0) fun x hx=>?_
  obtain⟨u,_,rfl⟩:=mem_map.mp hx
  exact bL _
 ·refine(bD (m:=2) fun z hz=>?_).le (by decide)
  obtain⟨qs,_,rfl⟩:=mem_map.mp hz
  exact qh _
 ·refine(bD (m:=1) fun z hz=>?_).le (by decide)
  obtain⟨m,_,rfl⟩:=mem_map.mp hz
  exact jx m
 ·refine(bD (m:=1) fun z hz=>?_).le (by decide)
  obtain⟨m,hm,rfl⟩:=mem_map.mp hz
  exact vL (FC m hm)
 ·exact(tp _).le (by decide)
 ·refine(bD (m:=1) fun z hz=>?_).le (by decide)
  obtain⟨t,_,rfl⟩:=mem_map.mp hz
  refine c5 (m:=0) fun x hx=>?_
  simp only[mem_cons,not_mem_nil,or_false]at hx
  rcases hx with rfl | rfl | rfl | rfl<;>exact bL _
noncomputable def pS (K:Frag)(c:Cs)(TC:Addr)(J:TJ)(ys:Ys):Sp:=fun vs H Q _=>∃ (N:Addr->Prop)(a:YA)(s:YS),(∀ z,H z=none->N z)/\vs=[.ref a.y, .int s.lanes.length, .int s.lies.length]/\D4 K c TC J ys H a s/\s.lanes.length <= 900/\s.lies.length <= 900/\s.U.length <= 900 /\
 ∀ (v:V)(H':Hp),zW H H'->BB N H' v (a,s)->Q v H'
noncomputable def pT (K:Frag)(c:Cs)(TC:Addr)(J:TJ)(ys:Ys):Sp:=fun vs H Q _=>∃ (a:YA)(s:YS),vs=[.ref a.y, .int s.lanes.length, .int s.lies.length]/\D4 K c TC J ys H a s/\s.lanes.length <= 900/\s.lies.length <= 900/\s.U.length <= 900/\SJ s /\
 ∀ (H':Hp),zW H H'->Q .An H'
noncomputable abbrev Nt:List Str:=["_law_yard", "_law_lanes_here", "_law_places", "_law_ways", "_law_letters", "_law_told", "_law_heaps"]
structure Uc (P:Program)(w:World)(K:Frag)(mg:Str->Option Value)(base:Heap)(c:Cs)(TC:Addr)(J:TJ)(ys:Ys)(ft fw fp fy fl fm fh:Addr)(dt dw dp dy dl dm dh:FuncData):Prop where
 mt:bz K ys.zY "lane_told" ft
 bt:Binds K dt ["self", "lane"] []
 Gt:zX P w K mg base aC 2 ft dt ["self", "lane"] (qc K ys)
 mw:bz K ys.zY "way_told" fw
 bw:Binds K dw ["self", "number"] []
 Gw:zX P w K mg base aC 1 fw dw ["self", "number"] (sE K ys)
 mp:bz K ys.zY "posted" fp
 bp:Binds K dp ["self"] []
 Gp:zX P w K mg base aC 1 fp dp ["self"] (m8 K ys)
 my:bz K ys.zY "lying" fy
 Pr:Binds K dy ["self", "place"] []
 Gy:zX P w K mg base aC 1 fy dy ["self", "place"] (pZ K ys)
 ml:bz K ys.zY "letter_told" fl
 bl:Binds K dl ["self", "number"] []
 Gl:zX P w K mg base aC 1 fl dl ["self", "number"] (sT K ys)
 mm:bz K ys.zY "moves" fm
 bm:Binds K dm ["self"] []
 Gm:zX P w K mg base aC 7 fm dm ["self"] (ll K c TC J ys)
 mh:bz K ys.zY "history" fh
 bh:Binds K dh ["self"] []
 Gh:zX P w K mg base aC 1 fh dh ["self"] (sX K ys)
theorem Ff:ao Nt ["_law_yard", "_law_lanes_here", "_law_places"] (ai dq):=L2.Ax
theorem Nu:Ba Nt (ai dq) (nY ((aG dq).getD 0 (.Pass ⟨0,0,0,0⟩))) ["_law_yard"] [0]:=L2.BI
theorem Nv:Ba Nt (ai dq) (nY ((aG dq).getD 1 (.Pass ⟨0,0,0,0⟩))) ["_law_yard"] [0]:=L2.BI
theorem Nw:Ba Nt (ai dq) (nY ((aG dq).getD 2 (.Pass ⟨0,0,0,0⟩))) ["_law_yard"] [0]:=L2.BI
theorem Nx:Ba Nt (ai dq) (nY ((aG dq).getD 3 (.Pass ⟨0,0,0,0⟩))) ["_law_yard"] [0]:=L2.BI
theorem xM:(["_law_number", "_law_yard"]:List Str).Nodup:=by decide +kernel
theorem Ny:(["_law_lane", "_law_yard"]:List Str).Nodup:=by decide +kernel
theorem Nz:(["_law_place", "_law_yard"]:List Str).Nodup:=by decide +kernel
theorem uu {c:Cs}{ys:Ys}{J:TJ}{TC f Ud ft fw fp fy fl fm fh fe:Addr}{fd Ue dt dw dp dy dl dm dh de:FuncData}(F:As K "_law_stand" "_law_stand" dq f fd)(T:dR mg)(Y:gj K ys)(W':Wy K TC Ud Ue J)(S:Uc P w K mg base c TC J ys ft fw fp fy fl fm fh dt dw dp dy dl dm dh)
  (me:bz K ys.zY "ended" fe) (be:Binds K de ["self"] []) (Ge:zX P w K mg base aC 1 fe de ["self"] (qe K ys)) :
  zX P w K mg base aC 8 f fd ["_law_yard", "_law_lanes_here", "_law_places"] (pS K c TC J ys):=by
 refine F.ok Ff (fun vs H Q E h=>?_) (fun cdv A outer s H vs Q E hr h=>?_)
 ·obtain⟨_,a,s,_,rfl,_⟩:=h
  rfl
 ·obtain⟨N,a,st,Fv,rfl,hI,Mx,Eu,Pl,q⟩:=h
  have AI:Ah 1 _:=hr.mono (by decide)
  have Bv:Ah 2 _:=hr.mono (by decide)
  refine⟨_,af (bM (i:=3) (own:=["_law_number"]) (capN:=["_law_yard"]) (cap:=[0]) Nu rfl Ff.nd rfl rfl (aL rfl T.range (aa (aT (pv 0) Y.cl S.mp S.Gp AI S.bp .nil ap) ad)) (fun C s' H' fp=>⟨au (i:=0) xM rfl (Or.inl rfl),bE,aA (pv 1) Y.cl S.mw S.Gw AI S.bw .nil ap (aa (pv 0) ad)⟩))
   (af (bM (i:=4) (own:=["_law_number"]) (capN:=["_law_yard"]) (cap:=[0]) Nv rfl Ff.nd rfl rfl (aL rfl T.range (aa (aT (pv 0) Y.cl S.mp S.Gp AI S.bp .nil ap) ad)) (fun C s' H' fp=>⟨au (i:=0) xM rfl (Or.inl rfl),bE,aA (pv 1) Y.cl S.ml S.Gl AI S.bl .nil ap (aa (pv 0) ad)⟩))
   (af (bM (i:=5) (own:=["_law_lane"]) (capN:=["_law_yard"]) (cap:=[0]) Nw rfl Ff.nd rfl rfl (aL rfl T.range (aa (pv 1) ad)) (fun C s' H' fp=>⟨au (i:=0) Ny rfl (Or.inl rfl),bE,aA (pv 1) Y.cl S.mt S.Gt Bv S.bt .nil ap (aa (pv 0) ad)⟩))
   (af (bM (i:=6) (own:=["_law_place"]) (capN:=["_law_yard"]) (cap:=[0]) Nx rfl Ff.nd rfl rfl (aL rfl T.range (aa (pv 2) ad)) (fun C s' H' fp=>⟨au (i:=0) Nz rfl (Or.inl rfl),bE,aA (pv 1) Y.cl S.my S.Gy AI S.Pr .nil ap (aa (pv 0) ad)⟩))
   (ah (ar (aV (aa (pv 5) (aa (pv 3) (aa (pv 6) (aa (aT (pv 0) Y.cl S.mm S.Gm hr S.bm .nil ap) (aa (aT (pv 0) Y.cl S.mh S.Gh AI S.bh .nil ap) (aa (aT (pv 0) Y.cl me Ge AI be .nil ap) (aa (pv 4) ad))))))))))))),?_⟩
  have hY:=hI.Y
  have Ew:(jm st).length=st.U.length:=length_map ..
  refine⟨_,rfl,a.y,a.dy,_,rfl,hY.ins,rfl,a.y,a.dy,a.tb,a.ro,a.la,a.le,a.li,a.dn,st,rfl,hY,(st.U.length:Int),rfl,by omega,by omega,?_⟩
  rw[toNat_natCast,← Ew]
  refine i9 (R:=FX N) (fun s=>FX.same s) (jm st) (by rw[sizeLine_eq];omega) (fun i y H1 N' hy s1 hN=>?_) (fun W CA H1 s1 hW pW=>?_)
  ·have Bb:=Ac.same hY s1
   obtain⟨t,ht,rfl⟩:∃ t,st.U[i]? = some t/\t.way=y:=by
    unfold jm at hy
    rw[List.getElem?_map]at hy
    cases hx:st.U[i]? with
    | none=>rw[hx]at hy;cases hy
    | some t=>rw[hx]at hy;exact⟨t,rfl,Option.some.inj hy⟩
   exact⟨_,rfl,a.y,a.dy,_,rfl,Bb.ins,rfl,_,rfl,a.y,a.dy,a.tb,a.ro,a.la,a.le,a.li,a.dn,st,i,t,rfl,Bb,ht,fun x H2 s2 hx gx=>hN _ H2 s2 ⟨x,rfl,gx,Fv _ (s1.free hx)⟩⟩
  have s2:=s1.new (o := .lst CA) hW
  have gW:(upd H1 W (.lst CA)) W=some (.lst CA):=ac
  have Ya:=Paired.mono (fun v l=>FX.same ((zW.refl H1).new (o := .lst CA) hW) v l) pW
  have nW:=Fv _ (s1.free hW)
  show cv 3 (V.ref W) _ (upd H1 W (.lst CA)) _
  generalize upd H1 W (.lst CA)=H2 at s2 gW Ya ⊢
  have Bi:=Ac.same hY s2
  refine⟨_,rfl,a.y,a.dy,_,rfl,Bi.ins,rfl,a.y,a.dy,a.tb,a.ro,a.la,a.le,a.li,a.dn,st,rfl,Bi,(st.U.length:Int),rfl,by omega,by omega,?_⟩
  rw[toNat_natCast]
  refine i9 (R:=CP) (fun s=>CP.same s) st.U (by rw[sizeLine_eq];omega) (fun i t H9 N' ht s9 hN=>?_) (fun E Cu H3 s3 hE pE=>?_)
  ·have E7:=Ac.same Bi s9
   exact⟨_,rfl,a.y,a.dy,_,rfl,E7.ins,rfl,_,rfl,a.y,a.dy,a.tb,a.ro,a.la,a.le,a.li,a.dn,st,i,t,rfl,E7,ht,fun x Hx sx gx=>hN _ Hx sx ⟨x,rfl,gx⟩⟩
  have u4:=s3.new (o := .lst Cu) hE
  have s4:=s2.trans u4
  have gE:(upd H3 E (.lst Cu)) E=some (.lst Cu):=ac
  have Yb:=Paired.mono (fun v l=>CP.same ((zW.refl H3).new (o := .lst Cu) hE) v l) pE
  have nE:=Fv _ ((s2.trans s3).free hE)
  show cv 4 (V.ref E) _ (upd H3 E (.lst Cu)) _
  generalize upd H3 E (.lst Cu)=H4 at u4 s4 gE Yb ⊢
  have Ds:=Ac.same hY s4
  refine⟨_,rfl,(st.lanes.length:Int),rfl,by omega,by omega,?_⟩
  rw[toNat_natCast]
  refine i9 (R:=FW N) (fun s=>FW.same s) st.lanes (by rw[sizeLine_eq];omega) (fun i ln H9 N' AK s9 hN=>?_) (fun L Ai H5 s5 hL pL=>?_)
  ·have E7:=Ac.same Ds s9
   exact⟨_,rfl,a.y,a.dy,_,rfl,E7.ins,rfl,_,rfl,a.y,a.dy,a.tb,a.ro,a.la,a.le,a.li,a.dn,st,i,ln,rfl,E7,AK,fun t ql Al Hx sx EN gt Iw IX=>hN _ Hx sx ⟨t,ql,Al,rfl,gt,Iw,IX,Fv _ ((s4.trans s9).free EN)⟩⟩
  have u6:=s5.new (o := .lst Ai) hL
  have s6:=s4.trans u6
  have gL:(upd H5 L (.lst Ai)) L=some (.lst Ai):=ac
  have Yc:=Paired.mono (fun v l=>FW.same ((zW.refl H5).new (o := .lst Ai) hL) v l) pL
  have nL:=Fv _ ((s4.trans s5).free hL)
  show cv 5 (V.ref L) _ (upd H5 L (.lst Ai)) _
  generalize upd H5 L (.lst Ai)=H6 at u6 s6 gL Yc ⊢
  have CD:=Ac.same hY s6
  refine⟨_,rfl,(st.lies.length:Int),rfl,by omega,by omega,?_⟩
  rw[toNat_natCast]
  refine i9 (R:=FY N) (fun s=>FY.same s) st.lies (by rw[sizeLine_eq];omega) (fun i qs H9 N' C2 s9 hN=>?_) (fun X CB H7 s7 hX pX=>?_)
  ·have E7:=Ac.same CD s9
   exact⟨_,rfl,a.y,a.dy,_,rfl,E7.ins,rfl,_,rfl,a,st,i,qs,rfl,E7,C2,fun D Al Hx sx hD gD IX=>hN _ Hx sx ⟨D,Al,rfl,gD,IX,Fv _ ((s6.trans s9).free hD)⟩⟩
  have u8:=s7.new (o := .lst CB) hX
  have s8:=s6.trans u8
  have gX:(upd H7 X (.lst CB)) X=some (.lst CB):=ac
  have Ye:=Paired.mono (fun v l=>FY.same ((zW.refl H7).new (o := .lst CB) hX) v l) pX
  have nX:=Fv _ ((s6.trans s7).free hX)
  show cv 6 (V.ref X) _ (upd H7 X (.lst CB)) _
  generalize upd H7 X (.lst CB)=H8 at u8 s8 gX Ye ⊢
  have Ug:=hI.same W' s8
  refine⟨_,rfl,_,rfl,_,rfl,_,rfl,a.y,a.dy,_,rfl,Ug.Y.ins,rfl,a,st,rfl,Ug,fun M Ay H9 s9 hM gM pM=>?_⟩
  have E7:=Ac.same Ug.Y s9
  refine⟨_,rfl,a.y,a.dy,_,rfl,E7.ins,rfl,a.y,a.dy,a.tb,a.ro,a.la,a.le,a.li,a.dn,st,rfl,E7,fun D AL Ha sa hD gD pD=>?_⟩
  have Yf:=Ac.same E7 sa
  refine⟨_,rfl,a.y,a.dy,_,rfl,Yf.ins,rfl,a.y,a.dy,a.tb,a.ro,a.la,a.le,a.li,a.dn,st,rfl,Yf,Pl,Eu,fun Hb sb=>⟨_,rfl,?_⟩⟩
  refine⟨by show 7 <= sizeLine;decide,fun t ht=>?_⟩
  have sc:=(zW.refl Hb).new (o := .lst [.ref L, .ref W, .ref X, .ref M, .ref D, .bl (xj st), .ref E]) ht
  have v9:=(sb.trans sc)
  have va:=sa.trans v9
  have v8:=s9.trans va
  have v6:=u8.trans v8
  have v4:=u6.trans v6
  have v2:=u4.trans v4
  have Uh:=s8.trans v8
  refine q (.ref t) _ Uh ⟨t,L,W,X,M,D,E,Ai,CA,CB,Ay,AL,Cu,rfl,ac,v6 _ _ gL,Paired.mono (fun v l=>FW.same v6 v l) Yc,v2 _ _ gW,Paired.mono (fun v l=>FX.same v2 v l) Ya,v8 _ _ gX,Paired.mono (fun v l=>FY.same v8 v l) Ye,va _ _ gM,Paired.mono (fun v l=>eR va v l) pM,v9 _ _ gD,Paired.mono (fun v l=>eR v9 v l) pD,v4 _ _ gE,Paired.mono (fun v l=>CP.same v4 v l) Yb,fun z hz=>?_⟩
  simp only[mem_cons,not_mem_nil,or_false]at hz
  rcases hz with rfl | rfl | rfl | rfl | rfl | rfl | rfl
  ·exact Fv _ ((s8.trans (s9.trans (sa.trans sb))).free ht)
  ·exact nL
  ·exact nW
  ·exact nX
  ·exact Fv _ (s8.free hM)
  ·exact Fv _ ((s8.trans s9).free hD)
  ·exact nE
theorem cY {H H1:Hp}{z:Addr}{o:HO}(s:zW H H1)(hz:H z=none):zW H (upd H1 z o):=fun b u e=>by rw[ae (ag e hz)];exact s _ _ e
noncomputable abbrev NSp:List Str:=["_law_yard", "_law_lanes_here", "_law_places", "_law_number", "_law_lane", "_law_place"]
theorem Gu:ao NSp ["_law_yard", "_law_lanes_here", "_law_places"] (ai oK):=L2.Ax
theorem uv {c:Cs}{ys:Ys}{J:TJ}{TC f Ud ft fw fp fy fl fm fh:Addr}{fd Ue dt dw dp dy dl dm dh:FuncData}(F:As K "_law_spoil" "_law_spoil" oK f fd)(T:dR mg)(Y:gj K ys)(W':Wy K TC Ud Ue J)(S:Uc P w K mg base c TC J ys ft fw fp fy fl fm fh dt dw dp dy dl dm dh) :
  zX P w K mg base aC 8 f fd ["_law_yard", "_law_lanes_here", "_law_places"] (pT K c TC J ys):=by
 refine F.ok Gu (fun vs H Q E h=>?_) (fun cdv A outer s H vs Q E hr h=>?_)
 ·obtain⟨a,s,rfl,_⟩:=h
  rfl
 ·obtain⟨a,st,rfl,hI,Mx,Eu,Pl,hS,q⟩:=h
  have AI:Ah 1 _:=hr.mono (by decide)
  have Bv:Ah 2 _:=hr.mono (by decide)
  refine⟨_,af (bv PassesOwn.never rfl (aL rfl T.range (aa (aT (pv 0) Y.cl S.mp S.Gp AI S.bp .nil ap) ad)) (au (i:=3) Gu.nd rfl (Or.inl rfl))
    (ah (aK (cu plainAttrs_list PySem.F.slot_list_append PySem.F.type_list_append b7 (aA (pv 0) Y.cl S.mw S.Gw AI S.bw .nil ap (aa (pv 3) ad)) (aa aj ad)))))
   (af (bv PassesOwn.never rfl (aL rfl T.range (aa (pv 1) ad)) (au (i:=4) Gu.nd rfl (Or.inl rfl))
    (ah (aK (cu plainAttrs_list PySem.F.slot_list_append PySem.F.type_list_append b7 (av aF (aA (pv 0) Y.cl S.mt S.Gt Bv S.bt .nil ap (aa (pv 4) ad)) aj (fun _ _=>rfl)) (aa (bH (aa aj (aa aj ad))) ad)))))
   (af (bv PassesOwn.never rfl (aL rfl T.range (aa (pv 2) ad)) (au (i:=5) Gu.nd rfl (Or.inl rfl))
    (ah (aK (cu plainAttrs_list PySem.F.slot_list_append PySem.F.type_list_append b7 (aA (pv 0) Y.cl S.my S.Gy AI S.Pr .nil ap (aa (pv 5) ad)) (aa (bH (aa aj (aa aj ad))) ad)))))
   (af (aK (oW plainAttrs_list PySem.F.slot_list_clear PySem.F.type_list_clear mZ (aT (pv 0) Y.cl S.mm S.Gm hr S.bm .nil ap)))
   (ah (aK (oW plainAttrs_list PySem.F.slot_list_clear PySem.F.type_list_clear mZ (aT (pv 0) Y.cl S.mh S.Gh AI S.bh .nil ap))))))),?_⟩
  have hY:=hI.Y
  refine⟨_,rfl,a.y,a.dy,_,rfl,hY.ins,rfl,a.y,a.dy,a.tb,a.ro,a.la,a.le,a.li,a.dn,st,rfl,hY,(st.U.length:Int),rfl,by omega,by omega,?_⟩
  rw[toNat_natCast]
  refine aY (n:=st.U.length) (fun i σ H1=>∃ a3:Option V,zW H H1/\σ=[some (.ref a.y),some (.int st.lanes.length),some (.int st.lies.length),a3,none,none]) ⟨none,zW.refl _,rfl⟩ ?_ ?_
  ·rintro i σ H1 hi ⟨a3,s1,rfl⟩
   rw[zero_add]
   have Bb:=Ac.same hY s1
   have ht:=List.getElem?_eq_getElem hi
   refine⟨_,rfl,a.y,a.dy,_,rfl,Bb.ins,rfl,_,rfl,a.y,a.dy,a.tb,a.ro,a.la,a.le,a.li,a.dn,st,i,_,rfl,Bb,ht,fun x H2 s2 hx gx=>⟨.inl ⟨rfl,_,Aa.of gx⟩,x,_,_,rfl,rfl,gx,?_,?_⟩⟩
   ·rw[dA,sizeLine_eq]
    have:=(hI.G.Bc i _ ht).2
    omega
   ·exact⟨_,cY (s1.trans s2) (s1.free hx),rfl⟩
  rintro σ H1 ⟨a3,s1,rfl⟩
  refine⟨_,rfl,(st.lanes.length:Int),rfl,by omega,by omega,?_⟩
  rw[toNat_natCast]
  refine aY (n:=st.lanes.length) (fun i σ H2=>∃ a4:Option V,zW H H2/\σ=[some (.ref a.y),some (.int st.lanes.length),some (.int st.lies.length),a3,a4,none]) ⟨none,s1,rfl⟩ ?_ ?_
  ·rintro i σ H2 hi ⟨a4,s2,rfl⟩
   rw[zero_add]
   have Bi:=Ac.same hY s2
   have AK:=List.getElem?_eq_getElem hi
   refine⟨_,rfl,a.y,a.dy,_,rfl,Bi.ins,rfl,_,rfl,a.y,a.dy,a.tb,a.ro,a.la,a.le,a.li,a.dn,st,i,_,rfl,Bi,AK,fun t ql Al H3 s3 EN gt Iw IX=>⟨t,_,3,_,rfl,rfl,Af.of gt,ak (j:=3) rfl, .inl ⟨rfl,_,Aa.of Iw⟩,by show 2 <= sizeLine;decide,fun o ho=>?_⟩⟩
   have s4:=s3.new (o := .tup [.int 0, .int 0]) ho
   have Yg:(upd H3 o (.tup [.int 0, .int 0])) ql=some (.lst Al):=by rw[ae (ag Iw ho)];exact Iw
   generalize upd H3 o (.tup [.int 0, .int 0])=H4 at s4 Yg ⊢
   refine⟨ql,_,_,rfl,rfl,Yg,?_,?_⟩
   ·rw[sizeLine_eq,Paired.length IX]
    have:=hS.q i _ AK
    omega
   ·exact⟨_,cY (s2.trans s4) (s2.free EN),rfl⟩
  rintro σ H2 ⟨a4,s2,rfl⟩
  refine⟨_,rfl,(st.lies.length:Int),rfl,by omega,by omega,?_⟩
  rw[toNat_natCast]
  refine aY (n:=st.lies.length) (fun i σ H3=>∃ a5:Option V,zW H H3/\σ=[some (.ref a.y),some (.int st.lanes.length),some (.int st.lies.length),a3,a4,a5]) ⟨none,s2,rfl⟩ ?_ ?_
  ·rintro i σ H3 hi ⟨a5,s3,rfl⟩
   rw[zero_add]
   have AS:=Ac.same hY s3
   have C2:=List.getElem?_eq_getElem hi
   refine⟨_,rfl,a.y,a.dy,_,rfl,AS.ins,rfl,_,rfl,a,st,i,_,rfl,AS,C2,fun D Al H4 s4 hD gD IX=>⟨.inl ⟨rfl,_,Aa.of gD⟩,by show 2 <= sizeLine;decide,fun o ho=>?_⟩⟩
   have s5:=s4.new (o := .tup [.int 0, .int 0]) ho
   have Nf:(upd H4 o (.tup [.int 0, .int 0])) D=some (.lst Al):=by rw[ae (ag gD ho)];exact gD
   generalize upd H4 o (.tup [.int 0, .int 0])=H5 at s5 Nf ⊢
   refine⟨D,_,_,rfl,rfl,Nf,?_,?_⟩
   ·rw[sizeLine_eq,Paired.length IX]
    have:=hS.l i _ C2
    omega
   ·exact⟨_,cY (s3.trans s5) (s3.free hD),rfl⟩
  rintro σ H3 ⟨a5,s3,rfl⟩
  have Yh:=hI.same W' s3
  refine⟨_,rfl,a.y,a.dy,_,rfl,Yh.Y.ins,rfl,a,st,rfl,Yh,fun M Ay H4 s4 hM gM pM=>⟨.inl ⟨rfl,_,Aa.of gM⟩,M,_,rfl,rfl,gM,?_⟩⟩
  have s5:=cY (s3.trans s4) (o := .lst []) (s3.free hM)
  generalize upd H4 M (.lst [])=H5 at s5 ⊢
  have Ca:=Ac.same hY s5
  exact⟨_,rfl,a.y,a.dy,_,rfl,Ca.ins,rfl,a.y,a.dy,a.tb,a.ro,a.la,a.le,a.li,a.dn,st,rfl,Ca,fun D AL H6 s6 hD gD pD=>⟨.inl ⟨rfl,_,Aa.of gD⟩,D,_,rfl,rfl,gD,q _ (cY (s5.trans s6) (s5.free hD))⟩⟩
theorem AJ.N0 {K:Frag}{ys:Ys}{e e':List Addr}{H H':Hp}{a:YA}{s:YS}(h:AJ K (yx ys e) H a s)(o:zW H H')(hx:∀ b ∈ e',b ∈ e∨(H b=none/\∃ zs,H' b=some (.lst zs))):AJ K (yx ys e') H' a s:=by
 have Nh:∀ p:Addr,(∃ u,H p=some u)->p ∉ a.la :: a.le :: a.li :: a.dn :: e->p ∉ a.la :: a.le :: a.li :: a.dn :: e':=fun p ⟨u,hu⟩ hn z=>by
  have en:∀ q:List Addr,a.la :: a.le :: a.li :: a.dn :: q=[a.la,a.le,a.li,a.dn] ++ q:=fun _=>rfl
  rw[en]at z hn
  rcases mem_append.mp z with z | z
  ·exact hn (mem_append_left _ z)
  ·rcases hx p z with z | ⟨z,_⟩
   ·exact hn (mem_append_right _ z)
   ·rw[z]at hu;cases hu
 obtain⟨v1,h1,p1⟩:=h.Bf
 obtain⟨v2,h2,p2⟩:=h.hle
 have h':=Ac.same h o
 refine⟨h'.ins,h'.Im,⟨v1,o _ _ h1,Paired.mono (fun v ln z=>?_) p1⟩,⟨v2,o _ _ h2,Paired.mono (fun v t z=>?_) p2⟩,h'.BP,h'.BJ,h'.ne,fun b hb=>?_⟩
 ·obtain⟨x,dx,pa,Al,ev,L,n⟩:=z
  exact⟨x,dx,pa,Al,ev,L.same o,Nh pa ⟨_,L.lst⟩ n⟩
 ·obtain⟨x,dx,wa,ev,C7,hw,n⟩:=z
  exact⟨x,dx,wa,ev,o _ _ C7,o _ _ hw,Nh wa ⟨_,hw⟩ n⟩
 ·rcases hx b hb with z | ⟨_,z⟩
  ·obtain⟨zs,hz⟩:=h.hex b z
   exact⟨zs,o _ _ hz⟩
  ·exact z
theorem AJ.Ui {K:Frag}{ys:Ys}{e:List Addr}{H H':Hp}{a:YA}{s:YS}(h:AJ K ys H a s)(o:Ae e H H')(hs:∀ b ∈ e,b ∈ ys.ex)(hn:∀ b ∈ a.four,b ∉ e)(hl:∀ b ∈ e,∃ zs,H' b=some (.lst zs)):AJ K ys H' a s:=by
 have o2:Ae (a.la :: a.le :: a.li :: a.dn :: ys.ex) H H':=o.mono fun b hb=>by simp[hs b hb]
 obtain⟨h1,h2,f1,f2,f3,f4⟩:=Ac.off h o2
 obtain⟨v1,a1,p1⟩:=h.Bf
 obtain⟨v2,a2,p2⟩:=h.hle
 obtain⟨v3,a3,p3⟩:=h.BP
 obtain⟨v4,a4,p4⟩:=h.BJ
 refine⟨h1,h2,⟨v1,o _ _ (hn _ (by simp)) a1,f1 _ _ p1⟩,⟨v2,o _ _ (hn _ (by simp)) a2,f2 _ _ p2⟩,⟨v3,o _ _ (hn _ (by simp)) a3,f3 _ _ p3⟩,⟨v4,o _ _ (hn _ (by simp)) a4,f4 _ _ p4⟩,h.ne,fun b hb=>?_⟩
 by_cases Cw:b ∈ e
 ·exact hl b Cw
 ·obtain⟨zs,hz⟩:=h.hex b hb
  exact⟨zs,o _ _ Cw hz⟩
noncomputable def oX (m:Nat)(A:Nat->YA)(j:Nat):List Addr:=((List.range m).filter fun k=>decide (k ≠ j)).flatMap fun k=>(A k).four
noncomputable def cn (m:Nat)(A:Nat->YA):List Addr:=(List.range m).flatMap fun k=>(A k).four
theorem By {m:Nat}{A:Nat->YA}{j:Nat}{z:Addr}:z ∈ oX m A j↔∃ k,k < m/\k ≠ j/\z ∈ (A k).four:=by
 unfold oX
 rw[mem_flatMap]
 constructor
 ·rintro⟨k,hk,hz⟩
  obtain⟨h1,h2⟩:=mem_filter.mp hk
  exact⟨k,mem_range.mp h1,of_decide_eq_true h2,hz⟩
 ·rintro⟨k,h1,h2,hz⟩
  exact⟨k,mem_filter.mpr ⟨mem_range.mpr h1,decide_eq_true h2⟩,hz⟩
theorem AV {m:Nat}{A:Nat->YA}{z:Addr}:z ∈ cn m A↔∃ k,k < m/\z ∈ (A k).four:=by
 unfold cn
 rw[mem_flatMap]
 constructor
 ·rintro⟨k,hk,hz⟩
  exact⟨k,mem_range.mp hk,hz⟩
 ·rintro⟨k,h1,hz⟩
  exact⟨k,mem_range.mpr h1,hz⟩
structure B4 (K:Frag)(c:Cs)(TC:Addr)(J:TJ)(ys:Ys)(m:Nat)(tb:Addr)(L n:Nat)(rv:List V)(lb db:Nat)(H:Hp)(A:Nat->YA)(S:Nat->YS):Prop where
 Y:∀ j,j < m->D4 K c TC J (yx ys (oX m A j)) H (A j) (S j)
 J:∀ j,j < m->Bk (A j) (S j)
 dj:∀ j k,j < m->k < m->j ≠ k->∀ z ∈ (A j).four,z ∉ (A k).four
 sc:∀ j,j < m->∀ d ∈ (S j).done,∀ x ∈ d,oi x
 cm:∀ j,j < m->(A j).tb=tb/\(A j).ps.length=L/\(A j).n=n/\(S j).rooms=rv
 bd:∀ j,j < m->(S j).U.length <= lb/\(S j).done.length <= db
section
variable {K:Frag}{c:Cs}{TC fw:Addr}{dw:FuncData}{J:TJ}{ys:Ys}{m:Nat}{tb:Addr}{L n:Nat}{rv:List V}{lb db JM JN:Nat}{H H':Hp}{A:Nat->YA}{S:Nat->YS}
theorem B4.same (W:Wy K TC fw dw J)(h:B4 K c TC J ys m tb L n rv lb db H A S)(e:zW H H'):B4 K c TC J ys m tb L n rv lb db H' A S:=⟨fun j hj=>(h.Y j hj).same W e,h.J,h.dj,h.sc,h.cm,h.bd⟩
theorem B4.Em (h:B4 K c TC J ys m tb L n rv lb db H A S){j:Nat}(hj:j < m):(S j).lanes.length=L/\(S j).lies.length=n:=⟨(h.J j hj).lanes.trans (h.cm j hj).2.1,(h.J j hj).lies.trans (h.cm j hj).2.2.1⟩
theorem B4.B8 (h:B4 K c TC J ys m tb L n rv lb db H A S):∀ z ∈ cn m A,∃ xs,H z=some (.lst xs):=fun z hz=>by
 obtain⟨k,hk,hz⟩:=AV.mp hz
 exact(h.Y k hk).Y.B8 z hz
theorem B4.new (h:B4 K c TC J ys m tb L n rv lb db H A S){z:Addr}(hz:H z=none):z ∉ cn m A:=fun hm=>by
 obtain⟨xs,hx⟩:=h.B8 z hm
 rw[hz]at hx;cases hx
noncomputable def ia (S:Nat->YS)(j:Nat)(s:YS):Nat->YS:=fun k=>if k=j then s else S k
theorem eM (S:Nat->YS)(j:Nat)(s:YS):ia S j s j=s:=if_pos rfl
theorem hZ {S:Nat->YS}{j k:Nat}{s:YS}(h:k ≠ j):ia S j s k=S k:=if_neg h
theorem B4.step (W:Wy K TC fw dw J)(h:B4 K c TC J ys m tb L n rv lb db H A S){j:Nat}(hj:j < m){s':YS}(o:Ae (A j).four H H')(hY:AJ K (yx ys (oX m A j)) H' (A j) s')(hJ:Bk (A j) s')(g:Cr (S j) s')
  (h1:s'.U.length <= JM) (h2:s'.done.length <= JN) (h3:lb <= JM) (h4:db <= JN):B4 K c TC J ys m tb L n rv JM JN H' A (ia S j s'):=by
 have kp:=Ae.Ao (fun z hz=>(h.Y j hj).Y.B8 z hz) o
 refine⟨fun k hk=>?_,fun k hk=>?_,h.dj,fun k hk=>?_,fun k hk=>?_,fun k hk=>?_⟩
 ·by_cases e:k=j
  ·subst e
   rw[eM]
   exact⟨hY,Bm.keep W (h.Y k hk).T kp,(h.Y k hk).O,hJ.ok⟩
  ·rw[hZ e]
   refine⟨AJ.Ui (h.Y k hk).Y o (fun b hb=>By.mpr ⟨j,hj,Ne.symm e,hb⟩) (fun b hb BM=>h.dj k j hk hj e b hb BM) (fun b hb=>hY.B8 b hb),Bm.keep W (h.Y k hk).T kp,(h.Y k hk).O,(h.Y k hk).G⟩
 ·by_cases e:k=j
  ·subst e;rw[eM];exact hJ
  ·rw[hZ e];exact h.J k hk
 ·by_cases e:k=j
  ·subst e
   rw[eM]
   obtain⟨d,hd,hsd⟩:=g.done
   rw[hd]
   intro x hx
   rcases mem_append.mp hx with hx | hx
   ·exact h.sc k hk x hx
   ·exact hsd x hx
  ·rw[hZ e];exact h.sc k hk
 ·obtain⟨c1,c2,c3,c4⟩:=h.cm k hk
  by_cases e:k=j
  ·subst e;rw[eM];exact⟨c1,c2,c3,g.rooms.trans c4⟩
  ·rw[hZ e];exact⟨c1,c2,c3,c4⟩
 ·obtain⟨b1,b2⟩:=h.bd k hk
  by_cases e:k=j
  ·subst e;rw[eM];exact⟨h1,h2⟩
  ·rw[hZ e];exact⟨by omega,by omega⟩
noncomputable def eC {α:Type}(A:Nat->α)(m:Nat)(a:α):Nat->α:=fun k=>if k=m then a else A k
theorem bU {α:Type}(A:Nat->α)(m:Nat)(a:α):eC A m a m=a:=if_pos rfl
theorem iD {α:Type}{A:Nat->α}{m k:Nat}{a:α}(h:k < m):eC A m a k=A k:=if_neg (by omega)
theorem B4.add (W:Wy K TC fw dw J)(h:B4 K c TC J ys m tb L n rv lb db H A S)(e:zW H H'){a:YA}{s:YS}(hY:D4 K c TC J (yx ys (cn m A)) H' a s)(hJ:Bk a s)(fr:∀ z ∈ a.four,H z=none)(sc:∀ d ∈ s.done,∀ x ∈ d,oi x)
  (cm:a.tb=tb/\a.ps.length=L/\a.n=n/\s.rooms=rv) (bd:s.U.length <= lb/\s.done.length <= db):B4 K c TC J ys (m + 1) tb L n rv lb db H' (eC A m a) (eC S m s):=by
 have A1:∀ {k:Nat},k < m->eC A m a k=A k:=fun hk=>iD hk
 have S1:∀ {k:Nat},k < m->eC S m s k=S k:=fun hk=>iD hk
 have cs:∀ {k:Nat},k < m + 1->k=m∨k < m:=fun hk=>by omega
 refine⟨fun k hk=>?_,fun k hk=>?_,fun j k hj hk hn z hz=>?_,fun k hk=>?_,fun k hk=>?_,fun k hk=>?_⟩
 ·rcases cs hk with rfl | hk
  ·rw[bU,bU]
   refine⟨AJ.N0 hY.Y (zW.refl _) fun b hb => .inl ?_,hY.T,hY.O,hY.G⟩
   obtain⟨i,h1,h2,h3⟩:=By.mp hb
   rw[A1 (by omega)]at h3
   exact AV.mpr ⟨i,by omega,h3⟩
  ·rw[A1 hk,S1 hk]
   have hI:=(h.Y k hk).same W e
   refine⟨AJ.N0 (h.Y k hk).Y e fun b hb=>?_,hI.T,hI.O,hI.G⟩
   obtain⟨i,h1,h2,h3⟩:=By.mp hb
   rcases cs h1 with rfl | h1
   ·rw[bU]at h3
    exact .inr ⟨fr b h3,hY.Y.B8 b h3⟩
   ·rw[A1 h1]at h3
    exact .inl (By.mpr ⟨i,h1,h2,h3⟩)
 ·rcases cs hk with rfl | hk
  ·rw[bU,bU];exact hJ
  ·rw[A1 hk,S1 hk];exact h.J k hk
 ·have old:∀ {i:Nat},i < m->∀ z ∈ (A i).four,z ∉ a.four:=fun hi z hz Fn=>by
   obtain⟨xs,hx⟩:=(h.Y _ hi).Y.B8 z hz
   rw[fr z Fn]at hx;cases hx
  rcases cs hj with rfl | hj
  ·rcases cs hk with rfl | hk
   ·exact absurd rfl hn
   ·rw[bU]at hz
    rw[A1 hk]
    exact fun Fn=>old hk z Fn hz
  ·rw[A1 hj]at hz
   rcases cs hk with rfl | hk
   ·rw[bU];exact old hj z hz
   ·rw[A1 hk];exact h.dj j k hj hk hn z hz
 ·rcases cs hk with rfl | hk
  ·rw[bU];exact sc
  ·rw[S1 hk];exact h.sc k hk
 ·rcases cs hk with rfl | hk
  ·rw[bU,bU];exact cm
  ·rw[A1 hk,S1 hk];exact h.cm k hk
 ·rcases cs hk with rfl | hk
  ·rw[bU];exact bd
  ·rw[S1 hk];exact h.bd k hk
end
theorem jS:∀ {xs ys:List PyData},PyData.eqvAll xs ys=true->xs.length=ys.length
 | [],[],_=>rfl
 | [],_ :: _,h=>by simp[PyData.eqvAll]at h
 | _ :: _,[],h=>by simp[PyData.eqvAll]at h
 | x :: xs,y :: ys,h=>by
  rw[PyData.eqvAll,Bool.and_eq_true]at h
  rw[length_cons,length_cons,jS h.2]
theorem N1 {a a':YA}{s s':YS}(h:s.done.length ≠ s'.done.length):PyData.eqv (oh (a,s)) (oh (a',s'))=false:=by
 cases e:PyData.eqv (oh (a,s)) (oh (a',s')) with
 | false=>rfl
 | true =>
  exfalso
  simp only[oh,PyData.eqv,PyData.eqvAll,Bool.and_eq_true]at e
  have:=jS e.2.2.2.2.1
  rw[length_map,length_map]at this
  exact h this
theorem Paired.take {α β:Type}{R:α->β->Prop}:∀ {as:List α}{bs:List β}(k:Nat),Paired R as bs->Paired R (as.take k) (bs.take k)
 | _,_,0,_=>by rw[take_zero,take_zero];exact .nil
 | _,_,_ + 1, .nil => .nil
 | _,_,k + 1, .cons x r => .cons x (Paired.take k r)
theorem Paired.drop {α β:Type}{R:α->β->Prop}:∀ {as:List α}{bs:List β}(k:Nat),Paired R as bs->Paired R (as.drop k) (bs.drop k)
 | _,_,0,h=>h
 | _,_,_ + 1, .nil => .nil
 | _,_,k + 1, .cons _ r=>Paired.drop k r
theorem kS {α:Type}{R:Hp->V->α->Prop}{K:Frag}{p:Addr}{xs:List V}{g:TG}{te:TE}{σ0:St}{H:Hp}{Q:VK}(mono:∀ {H H':Hp},zW H H'->∀ v a,R H v a->R H' v a)(as:List α)(hl:xs.length=as.length)(ha:H p=some (.lst xs))(hn:as.length < sizeLine)
  (hs:∀ (i:Nat)(x:V)(a:α)(H1:Hp)(N:V->Hp->Prop),xs[i]? = some x->as[i]? = some a->zW H H1->(∀ v H2,zW H1 H2->R H2 v a->N v H2)->g x σ0 H1 fun σ2 H2=>te σ2 H2 N)
  (hq:∀ D vs H1,zW H H1->H1 D=none->Paired (R H1) vs as->Q (.ref D) (upd H1 D (.lst vs))):dE (vy K p) g lg te σ0 Q H:=by
 refine bK as.length hn (fun i acc H'=>zW H H'/\Paired (R H') acc (as.take i)) ⟨zW.refl _, .nil⟩ (fun i acc H' h=>by rw[Paired.length h.2];exact length_take_le _ _) (fun i acc H' hi h=>?_) (fun acc H' h=>?_)
 ·obtain⟨s,hL⟩:=h
  have hx:xs[i]? = some (xs[i]'(by omega)):=List.getElem?_eq_getElem (by omega)
  refine⟨⟨xs,_,Aa.of (s _ _ ha),hx⟩,fun v H2 y=>?_⟩
  obtain⟨rfl,y⟩:=y
  have hv:=y xs (Aa.of (s _ _ ha))
  refine hs i v as[i] H2 (fun y H4=>zW H H4/\Paired (R H4) (acc ++ [y]) (as.take (i + 1))) hv (List.getElem?_eq_getElem hi) s fun v H3 s3 hv=>⟨s.trans s3,?_⟩
  rw[take_succ,List.getElem?_eq_getElem hi]
  exact Paired.snoc hv (Paired.mono (mono s3) hL)
 ·obtain⟨s,hL⟩:=h
  rw[take_length]at hL
  exact⟨⟨xs,Aa.of (s _ _ ha),by omega⟩,fun D hD=>hq D acc H' s hD hL⟩
theorem lV (xs:List V)(k:Nat):eZ xs none (some (k:Int))=xs.take k:=by
 unfold eZ
 have e0:HT.Cd xs.length 0 none=0:=rfl
 rw[e0,show HT.Cd xs.length xs.length (some (k:Int))=min k xs.length from HT.B6 _ _ k,List.drop_zero,Nat.sub_zero]
 rcases Nat.le_total k xs.length with h | h
 ·rw[min_eq_left h]
 ·rw[min_eq_right h,take_of_length_le h,take_of_length_le (le_refl _)]
theorem kR (xs:List V)(k:Nat)(h:k <= xs.length):eZ xs (some (k:Int)) none=xs.drop k:=by
 unfold eZ
 have e1:HT.Cd xs.length xs.length none=xs.length:=rfl
 rw[e1,show HT.Cd xs.length 0 (some (k:Int))=min k xs.length from HT.B6 _ _ k,min_eq_left h,take_of_length_le (by rw[length_drop];omega)]
noncomputable def bY:Nat->Nat
 | 0=>0
 | 1=>2
 | _=>1
noncomputable def og (A:Nat->YA)(S:Nat->YS):List (YA × YS):=[(A 0,S 0),(A 2,S 2),(A 1,S 1)]
noncomputable def m6 (A:Nat->YA):List V:=[.ref (A 0).y, .ref (A 2).y, .ref (A 1).y]
theorem cC (j:Nat):bY j < 3:=by unfold bY;split<;>decide
theorem ja {A:Nat->YA}{S:Nat->YS}:∀ {j:Nat},j < 3->(og A S)[j]? = some (A (bY j),S (bY j))
 | 0,_=>rfl
 | 1,_=>rfl
 | 2,_=>rfl
 | _ + 3,h=>absurd h (by omega)
theorem fj {A:Nat->YA}:∀ {j:Nat},j < 3->(m6 A)[j]? = some (.ref (A (bY j)).y)
 | 0,_=>rfl
 | 1,_=>rfl
 | 2,_=>rfl
 | _ + 3,h=>absurd h (by omega)
theorem B4.one {K:Frag}{c:Cs}{TC:Addr}{J:TJ}{ys:Ys}{H:Hp}{a:YA}{s:YS}{rv:List V}(hI:D4 K c TC J (yx ys []) H a s)(hJ:Bk a s)(h1:s.U=[])(h2:s.done=[])(h3:s.rooms=rv):B4 K c TC J ys 1 a.tb a.ps.length a.n rv 0 0 H (fun _=>a) (fun _=>s):=by
 refine⟨fun j hj=>⟨AJ.N0 hI.Y (zW.refl _) fun b hb=>?_,hI.T,hI.O,hI.G⟩,fun j hj=>hJ,fun j k hj hk hn=>absurd hn (by omega),fun j hj d hd=>?_,fun j hj=>⟨rfl,rfl,rfl,h3⟩,fun j hj=>?_⟩
 ·obtain⟨k,h1,h2,_⟩:=By.mp hb
  exact absurd h2 (by omega)
 ·rw[h2]at hd;cases hd
 ·rw[h1,h2];exact⟨le_refl _,le_refl _⟩
theorem B4.weak {K:Frag}{c:Cs}{TC:Addr}{J:TJ}{ys:Ys}{m:Nat}{tb:Addr}{L n:Nat}{rv:List V}{lb db JM JN:Nat}{H:Hp}{A:Nat->YA}{S:Nat->YS}(h:B4 K c TC J ys m tb L n rv lb db H A S)(h1:lb <= JM)(h2:db <= JN):B4 K c TC J ys m tb L n rv JM JN H A S :=
 ⟨h.Y,h.J,h.dj,h.sc,h.cm,fun j hj=>⟨le_trans (h.bd j hj).1 h1,le_trans (h.bd j hj).2 h2⟩⟩
theorem fJ {m:Nat}{A:Nat->YA}{j:Nat}(hj:j < m):∀ z ∈ (A j).four,z ∈ cn m A:=fun z hz=>AV.mpr ⟨j,hj,hz⟩
theorem iq {m:Nat}{A:Nat->YA}{j:Nat}(hj:j < m){z:Addr}(h:z ∉ cn m A):z ∉ (A j).four:=fun hz=>h (fJ hj z hz)
theorem uH {m:Nat}{rs:List Int}(D3:rs.length=m)(IY:∀ r ∈ rs,1 <= r/\r <= 60):mj m (rs.map V.int)=true:=by
 unfold mj
 rw[length_map,D3,decide_eq_true rfl,Bool.true_and,all_eq_true]
 intro v hv
 obtain⟨r,G9,rfl⟩:=mem_map.mp hv
 exact decide_eq_true (IY r G9)
noncomputable def Uj (K:Frag)(c:Cs)(TC:Addr)(J:TJ)(ys:Ys)(ex:List Addr)(H:Hp)(tb:Addr)(ps:List (Int × Int))(n:Nat)(rs:List Int):VK:=fun v H'=>∃ a:YA,v = .ref a.y/\a.tb=tb/\a.ps=ps/\a.n=n/\zW H H'/\(∀ z ∈ a.four,H z=none)/\D4 K c TC J (yx ys ex) H' a (Y0 (rs.map V.int) n)/\Bk a (Y0 (rs.map V.int) n)
theorem pK {P:Program}{w:World}{K:Frag}{c:Cs}{TC fw nr:Addr}{dw:FuncData}{J:TJ}{ys:Ys}{ex:List Addr}{H:Hp}{tb lx Aw lt ra:Addr}{n:Nat}{Ag:List V}{ps:List (Int × Int)}{wy:Wf}{rs:List Int}{E:XK}(W:Wy K TC fw dw J)
  (hT:Bm c TC J H tb lx Aw lt n Ag ps wy) (De:∀ p g k,(wy p g k).length <= 400) (Ad:∀ p ∈ ps,jC n p=true) (hR:Aa K H ra (rs.map V.int)) (D3:rs.length=ps.length) (IY:∀ r ∈ rs,1 <= r/\r <= 60) (hp:ps.length <= 8) (hex:∀ b ∈ ex,∃ xs,H b=some (.lst xs)) :
  ∀ y dy,H y=none->H dy=none->dy ≠ y->pQ K c TC J (yx ys ex) nr [.ref y, .ref tb, .ref ra] (upd (upd H dy (.own y)) y (.ins ys.zY dy [])) (fun v H2=>v = .An/\Uj K c TC J ys ex H tb ps n rs (.ref y) H2) E:=by
 intro y dy ny IS IT
 have s4:zW H (upd (upd H dy (.own y)) y (.ins ys.zY dy [])):=zW.new (zW.new (zW.refl H) IS) (by rw[ae (Ne.symm IT)];exact ny)
 have IZ:=uH D3 IY
 refine⟨y,dy,tb,lx,Aw,lt,n,Ag,ps,wy,_,rs.map V.int,rfl,ac,hT.keep W (zW.Ao s4),(fun b hb=>let ⟨xs,hz⟩:=hex b hb; ⟨xs,s4 _ _ hz⟩), .inr ⟨ra,rfl, .inl (s4.seq hR),by rw[length_map];omega,(fun v hv=>by obtain⟨r,_,rfl⟩:=mem_map.mp hv;exact .int r),fun h=>by rw[IZ]at h;cases h⟩,fun _ ro la le li dn H5 o5 FH Hg J4 J6 hY=>⟨rfl,?_⟩⟩
 have s5:zW H H5:=fun b o e=>o5 b o (fun z=>by rw[mem_singleton.mp z,ny]at e;cases e) (s4 _ _ e)
 have hO:M9 ⟨y,dy,tb,ro,la,le,li,dn,lx,Aw,lt,n,Ag,ps,wy⟩:=by
  refine⟨fun l pr hl=>?_,De⟩
  have N2:=Ad pr (mem_of_getElem? hl)
  unfold jC at N2
  simp only[Bool.and_eq_true,decide_eq_true_eq,Bool.not_eq_true',decide_eq_false_iff_not]at N2
  exact⟨pr.2.toNat,by omega,by show pr.2.toNat < n;omega⟩
 have hJ:Bk ⟨y,dy,tb,ro,la,le,li,dn,lx,Aw,lt,n,Ag,ps,wy⟩ (Y0 (rs.map V.int) n):=(Ti (a:=⟨y,dy,tb,ro,la,le,li,dn,lx,Aw,lt,n,Ag,ps,wy⟩) (by rw[length_map];exact D3)).jnv (zero_le _) (by show ps.length <= 40;omega)
 refine⟨⟨y,dy,tb,ro,la,le,li,dn,lx,Aw,lt,n,Ag,ps,wy⟩,rfl,rfl,rfl,rfl,s5,fun z hz=>?_,⟨hY,hT.keep W (zW.Ao s5),hO,hJ.ok⟩,hJ⟩
 have hz:z ∈ [la,le,li,dn]:=hz
 simp only[mem_cons,not_mem_nil,or_false]at hz
 rcases hz with rfl | rfl | rfl | rfl
 ·exact s4.free FH
 ·exact s4.free Hg
 ·exact s4.free J4
 ·exact s4.free J6
theorem AJ.chg {K:Frag}{ys:Ys}{H:Hp}{a:YA}{s:YS}(h:AJ K ys H a s){x:Addr}(hx:x ∈ ys.ex)(N3:x ∉ a.four){zs:List V}:AJ K ys (upd H x (.lst zs)) a s:=by
 have o:Ae (a.la :: a.le :: a.li :: a.dn :: ys.ex) H (upd H x (.lst zs)):=cr (by simp[hx])
 obtain⟨h1,h2,f1,f2,f3,f4⟩:=Ac.off h o
 obtain⟨v1,a1,p1⟩:=h.Bf
 obtain⟨v2,a2,p2⟩:=h.hle
 obtain⟨v3,a3,p3⟩:=h.BP
 obtain⟨v4,a4,p4⟩:=h.BJ
 simp only[mem_cons,not_mem_nil,or_false,not_or]at N3
 exact⟨h1,h2,⟨v1,by rw[ae (Ne.symm N3.1)];exact a1,f1 _ _ p1⟩,⟨v2,by rw[ae (Ne.symm N3.2.1)];exact a2,f2 _ _ p2⟩,⟨v3,by rw[ae (Ne.symm N3.2.2.1)];exact a3,f3 _ _ p3⟩,⟨v4,by rw[ae (Ne.symm N3.2.2.2)];exact a4,f4 _ _ p4⟩,h.ne,fun b hb=>lN (h.hex b hb)⟩
theorem Bk.twin {a:YA}{s:YS}(J:Bk a s){y dy ro la le li dn:Addr}:Bk (a.twin y dy ro la le li dn) s:=⟨J.lanes,J.lies,J.AZ,J.D5,J.lets,J.Bc,J.Bp,J.Cb,J.Bj,J.last,J.head,J.first,J.El,J.sum⟩
theorem lT {K:Frag}{N:Addr->Prop}{H:Hp}:∀ {vs:List V}{l:List (YA × YS)},Paired (BB N H) vs l->(∀ as ∈ l,∀ d ∈ as.2.done,∀ x ∈ d,oi x)->gN K H vs (l.map oh)
 | _,_, .nil,_ => .nil
 | _,_, .cons h r,hs => .cons (jU (hs _ (mem_cons_self ..)) h) (lT r fun as ha=>hs as (mem_cons_of_mem _ ha))
theorem xY {A:Nat->YA}{S:Nat->YS}{s:YS}:∀ {j:Nat},j < 3->(og A (ia S (bY j) s)).take j ++ (og A (ia S (bY j) s)).drop (j + 1)=(og A S).take j ++ (og A S).drop (j + 1)
 | 0,_=>rfl
 | 1,_=>rfl
 | 2,_=>rfl
 | _ + 3,h=>absurd h (by omega)
theorem sw {A:Nat->YA}{S:Nat->YS}(h:∀ j,j < 3->∀ d ∈ (S j).done,∀ x ∈ d,oi x):∀ as ∈ og A S,∀ d ∈ as.2.done,∀ x ∈ d,oi x:=fun as ha=>by
 simp only[og,mem_cons,not_mem_nil,or_false]at ha
 rcases ha with rfl | rfl | rfl
 ·exact h 0 (by decide)
 ·exact h 2 (by decide)
 ·exact h 1 (by decide)
noncomputable def qa (K:Frag):Sp:=fun vs H Q _=>∃ (a:Addr)(ns:List Int),vs=[.ref a]/\Aa K H a (ns.map V.int)/\ns.length <= 63/\∀ H',Q (.bl true) H'
noncomputable abbrev PB:List Str:=["_law_script", "_law_table_here", "_law_lanes_here", "_law_places", "_law_rooms_here", "_law_cells", "_law_handed", "_law_yard", "_law_other", "_law_one", "_law_k", "_law_yards", "_law_draw", "_law_at", "_law_before", "_law_behind"]
noncomputable def N4 (i:Nat)(s:Stmt):Scope:=match s with
 | .For _ _ b _ _=>nY (b.getD i (.Pass ⟨0,0,0,0⟩))
 | _=>{ kind := .function,names:=[],isGenerator:=false,isCoroutine:=false }
structure Fns (P:Program)(w:World)(K:Frag)(mg:Str->Option Value)(base:Heap)(c:Cs)(ts:Ts)(tn:lX)(ys:Ys)(nr:Addr)(fc fx ft N5 fy fb fp fs fo fd fw:Addr)(dc dx dt PD dy db dp ds JA dd dw:FuncData):Prop where
 mc:mg "_law_cell_at" = some (.ref fc)
 kc:keepIn K (.ref fc)=true
 bc:Binds K dc ["_law_script", "_law_k"] []
 Gc:zX P w K mg base aC 1 fc dc ["_law_script", "_law_k"] (oE K)
 mx:mg "_law_mixed" = some (.ref fx)
 kx:keepIn K (.ref fx)=true
 bx:Binds K dx ["_law_cell", "_law_k"] []
 Gx:zX P w K mg base aC 1 fx dx ["_law_cell", "_law_k"] m9
 mt:mg "_law_table" = some (.ref ft)
 kt:keepIn K (.ref ft)=true
 bt:Binds K dt ["_law_script"] []
 Gt:zX P w K mg base aC 7 ft dt ["_law_script"] (sU P w K c ts tn)
 mro:mg "_law_rooms" = some (.ref N5)
 kro:keepIn K (.ref N5)=true
 bro:Binds K PD ["_law_table_here", "_law_cell"] []
 Uk:∀ b,zX P w K mg base aC 2 N5 PD ["_law_table_here", "_law_cell"] (mB c (TC ts tn b) (JJ P w ts tn b))
 my:mg "Yard" = some (.ref ys.zY)
 My:Mk K ys.zY fy
 IQ:Binds K dy ["self", "table", "rooms"] []
 Gy:∀ b ex,zX P w K mg base (eE P w) 4 fy dy ["self", "table", "rooms"] (pQ K c (TC ts tn b) (JJ P w ts tn b) (yx ys ex) nr)
 mb:mg "_law_begins" = some (.ref fb)
 kb:keepIn K (.ref fb)=true
 bb:Binds K db ["_law_table_here"] []
 Gb:∀ b,zX P w K mg base aC 4 fb db ["_law_table_here"] (qg c (TC ts tn b) (JJ P w ts tn b))
 mp:mg "_law_posts" = some (.ref fp)
 kp:keepIn K (.ref fp)=true
 bp:Binds K dp ["_law_yard", "_law_begins_here", "_law_cells"] []
 Gp:∀ b ex,zX P w K mg base aC 5 fp dp ["_law_yard", "_law_begins_here", "_law_cells"] (sL K c (TC ts tn b) (JJ P w ts tn b) (yx ys ex))
 ms:mg "_law_stand" = some (.ref fs)
 ks:keepIn K (.ref fs)=true
 bs:Binds K ds ["_law_yard", "_law_lanes_here", "_law_places"] []
 Gs:∀ b ex,zX P w K mg base aC 8 fs ds ["_law_yard", "_law_lanes_here", "_law_places"] (pS K c (TC ts tn b) (JJ P w ts tn b) (yx ys ex))
 mo:mg "_law_spoil" = some (.ref fo)
 ko:keepIn K (.ref fo)=true
 bo:Binds K JA ["_law_yard", "_law_lanes_here", "_law_places"] []
 Go:∀ b ex,zX P w K mg base aC 8 fo JA ["_law_yard", "_law_lanes_here", "_law_places"] (pT K c (TC ts tn b) (JJ P w ts tn b) (yx ys ex))
 md:mg "_law_done" = some (.ref fd)
 kd:keepIn K (.ref fd)=true
 bd:Binds K dd ["_law_yard", "_law_draw"] []
 Gd:∀ b ex,zX P w K mg base aC 9 fd dd ["_law_yard", "_law_draw"] (qd K c (TC ts tn b) (JJ P w ts tn b) (yx ys ex))
 mw:bz K ys.zY "twin" fw
 bw:Binds K dw ["self"] []
 Gw:∀ b ex,zX P w K mg base aC 7 fw dw ["self"] (sG K c (TC ts tn b) (JJ P w ts tn b) (yx ys ex))
noncomputable abbrev LI (P:Program)(w:World)(K:Frag)(c:Cs)(ts:Ts)(tn:lX)(ys:Ys)(b:Bool)(H:Hp)(sc tb Ro Ce Ha Yl:Addr)(L n:Nat)(rs:List Int)(A:Nat->YA):Nat->St->Hp->Prop:=fun i σ Hx=>∃ (a9 Cq PF PH PJ E8:Option V)(S:Nat->YS),zW H Hx/\B4 K c (TC ts tn b) (JJ P w ts tn b) ys 3 tb L n (rs.map V.int) (8 + i) (20 + i) Hx A S/\Hx Yl=some (.lst (m6 A))/\σ=[some (.ref sc),some (.ref tb),some (.int L),some (.int n),some (.ref Ro),some (.ref Ce),some (.ref Ha),some (.ref (A 0).y),some (.ref (A 1).y),a9,Cq,some (.ref Yl),PF,PH,PJ,E8]
noncomputable abbrev P3 (P:Program)(w:World)(K:Frag)(c:Cs)(ts:Ts)(tn:lX)(ys:Ys)(b:Bool)(H:Hp)(sc tb Ro Ce Ha Yl:Addr)(L n:Nat)(rs:List Int)(A:Nat->YA)(S:Nat->YS)(i:Nat)(E8:Option V):St->Hp->Prop:=fun σ Hh=>∃ (a9:Option V)(Be:Addr)(Av:List V)(d:Int)(j:Nat)(s':YS),j < 3/\zW H Hh/\B4 K c (TC ts tn b) (JJ P w ts tn b) ys 3 tb L n (rs.map V.int) (8 + (i + 1)) (20 + (i + 1)) Hh A (ia S (bY j) s')/\Hh Yl=some (.lst (m6 A))/\Hh Be=some (.lst Av)/\Paired (BB (fun z=>z ∉ cn 3 A) Hh) Av (og A S)/\Cr (S (bY j)) s'/\(0 < d / 8 % 4->bS (A (bY j)) (S (bY j)) ≠ []->(S (bY j)).done.length < s'.done.length)/\σ=[some (.ref sc),some (.ref tb),some (.int L),some (.int n),some (.ref Ro),some (.ref Ce),some (.ref Ha),some (.ref (A 0).y),some (.ref (A 1).y),a9,some (.int ((5 + i:Nat):Int)),some (.ref Yl),some (.int d),some (.int j),some (.ref Be),E8]
noncomputable abbrev P4 (P:Program)(w:World)(K:Frag)(c:Cs)(ts:Ts)(tn:lX)(ys:Ys)(b:Bool)(H:Hp)(sc tb Ro Ce Ha Yl:Addr)(L n:Nat)(rs:List Int)(A:Nat->YA)(S:Nat->YS)(i:Nat)(a9 E8:Option V)(Be:Addr)(Av:List V)(d:Int)(j:Nat):St->Hp->Prop:=fun σ Hh=>∃ (s':YS),σ=[some (.ref sc),some (.ref tb),some (.int L),some (.int n),some (.ref Ro),some (.ref Ce),some (.ref Ha),some (.ref (A 0).y),some (.ref (A 1).y),a9,some (.int ((5 + i:Nat):Int)),some (.ref Yl),some (.int d),some (.int j),some (.ref Be),E8]/\zW H Hh/\B4 K c (TC ts tn b) (JJ P w ts tn b) ys 3 tb L n (rs.map V.int) (8 + (i + 1)) (20 + (i + 1)) Hh A (ia S (bY j) s')/\Hh Yl=some (.lst (m6 A))/\Hh Be=some (.lst Av)/\Paired (BB (fun z=>z ∉ cn 3 A) Hh) Av (og A S)/\Cr (S (bY j)) s'/\(0 < d / 8 % 4->bS (A (bY j)) (S (bY j)) ≠ []->(S (bY j)).done.length < s'.done.length)
noncomputable abbrev P2 (P:Program)(w:World)(K:Frag)(c:Cs)(ts:Ts)(tn:lX)(ys:Ys)(b:Bool)(H:Hp)(sc tb Ro Ce Ha:Addr)(L n:Nat)(rs:List Int):St->Hp->Prop:=fun σ Hd=>∃ (a9 Cq:Option V)(Yl:Addr)(A:Nat->YA)(S:Nat->YS),zW H Hd/\B4 K c (TC ts tn b) (JJ P w ts tn b) ys 3 tb L n (rs.map V.int) 8 20 Hd A S/\Hd Yl=some (.lst (m6 A))/\Yl ∉ cn 3 A/\(∀ z ∈ cn 3 A,H z=none)/\σ=[some (.ref sc),some (.ref tb),some (.int L),some (.int n),some (.ref Ro),some (.ref Ce),some (.ref Ha),some (.ref (A 0).y),some (.ref (A 1).y),a9,Cq,some (.ref Yl),none,none,none,none]
noncomputable abbrev P1 (P:Program)(w:World)(K:Frag)(c:Cs)(ts:Ts)(tn:lX)(ys:Ys)(H:Hp)(sc:Addr):St->Hp->Prop:=fun σ Hc=>∃ (b:Bool)(tb Ro Ce Ha:Addr)(L n:Nat)(rs ks:List Int)(A:Nat->YA)(S:Nat->YS),zW H Hc/\B4 K c (TC ts tn b) (JJ P w ts tn b) ys 2 tb L n (rs.map V.int) 0 0 Hc A S/\Hc Ce=some (.lst (ks.map V.int))/\Ce ∉ cn 2 A/\ks.length <= 4/\mj L (rs.map V.int)=true/\n <= 5/\(∀ z ∈ cn 2 A,H z=none)/\σ=[some (.ref sc),some (.ref tb),some (.int L),some (.int n),some (.ref Ro),some (.ref Ce),some (.ref Ha),some (.ref (A 0).y),some (.ref (A 1).y),none,none,none,none,none,none,none]
theorem Bo:ao PB ["_law_script"] (ai gA):=L2.Ax
theorem N6:Ba PB (ai gA) (nY ((aG gA).getD 4 (.Pass ⟨0,0,0,0⟩))) ["_law_script"] [0]:=L2.BI
theorem N7:Ba PB (ai gA) (N4 2 ((aG gA).getD 14 (.Pass ⟨0,0,0,0⟩))) ["_law_lanes_here", "_law_places"] [2,3]:=L2.BI
theorem N8:Ba PB (ai gA) (N4 5 ((aG gA).getD 14 (.Pass ⟨0,0,0,0⟩))) ["_law_lanes_here", "_law_places"] [2,3]:=L2.BI
theorem N9:(["_law_k", "_law_script"]:List Str).Nodup:=by decide +kernel
theorem xO:(["_law_one", "_law_lanes_here", "_law_places"]:List Str).Nodup:=by decide +kernel
theorem zg {c:Cs}{ts:Ts}{tn:lX}{ys:Ys}{nr f fc fx ft N5 fy fb fp fs fo fd fw:Addr}{fW:Bool->Addr}{dW:Bool->FuncData}{df dc dx dt PD dy db dp ds JA dd dw:FuncData}(F:As K "law" "law" gA f df)(T:dR mg)(L:lY K c)(Y:gj K ys)(W:∀ b,Wy K (TC ts tn b) (fW b) (dW b) (JJ P w ts tn b))
  (D:Fns P w K mg base c ts tn ys nr fc fx ft N5 fy fb fp fs fo fd fw dc dx dt PD dy db dp ds JA dd dw):zX P w K mg base aC 10 f df ["_law_script"] (qa K):=by
 refine F.ok Bo (fun vs H Q E h=>?_) (fun cdv A0 outer s H vs Q E hr h=>?_)
 ·obtain⟨a,ns,rfl,_⟩:=h
  rfl
 ·obtain⟨sc,ns,rfl,hS,hlen,q⟩:=h
  have hu:=hr.units
  have AI:Ah 1 _:=hr.mono (by decide)
  have Bv:Ah 2 _:=hr.mono (by decide)
  have CT:Ah 4 _:=hr.mono (by decide)
  have Fu:Ah 5 _:=hr.mono (by decide)
  have P8:Ah 7 _:=hr.mono (by decide)
  have IU:Ah 8 _:=hr.mono (by decide)
  have GRo:=zX.ex D.Uk
  have GY:=zX.ex fun i:Bool × List Addr=>D.Gy i.1 i.2
  have GB:=zX.ex D.Gb
  have GP:=zX.ex fun i:Bool × List Addr=>D.Gp i.1 i.2
  have GS:=zX.ex fun i:Bool × List Addr=>D.Gs i.1 i.2
  have GO:=zX.ex fun i:Bool × List Addr=>D.Go i.1 i.2
  have GD:=zX.ex fun i:Bool × List Addr=>D.Gd i.1 i.2
  have GW:=zX.ex fun i:Bool × List Addr=>D.Gw i.1 i.2
  refine⟨_,j7 10 (af (aE (i:=1) Bo.nd rfl (Or.inl rfl) (aq D.Gt P8 rfl D.mt D.kt D.bt .nil ap (aa (pv 0) ad)))
   (af (aE (i:=2) Bo.nd rfl (Or.inr rfl) (az aw rfl T.len PySem.boot_len (aa (al (al (pv 1) rfl) rfl) ad)))
   (af (aE (i:=3) Bo.nd rfl (Or.inr rfl) (al (al (pv 1) rfl) rfl))
   (af (aE (i:=4) Bo.nd rfl (Or.inl rfl) (aq GRo Bv rfl D.mro D.kro D.bro .nil ap (aa (pv 1) (aa (aq D.Gc AI rfl D.mc D.kc D.bc .nil ap (aa (pv 0) (aa aj ad))) ad))))
   (af (bM (i:=5) (own:=["_law_k"]) (capN:=["_law_script"]) (cap:=[0]) N6 rfl Bo.nd rfl rfl (aL rfl T.range (aa (aD bR aj (aD bJ (aq D.Gc AI rfl D.mc D.kc D.bc .nil ap (aa (pv 0) (aa aj ad))) aj)) ad)) (fun C s' H' fp=>⟨au (i:=0) N9 rfl (Or.inl rfl),bE,aq D.Gx AI rfl D.mx D.kx D.bx .nil ap (aa (aq D.Gc AI rfl D.mc D.kc D.bc .nil ap (aa (pv 1) (aa aj ad))) (aa (pv 0) ad))⟩))
   (af (aE (i:=6) Bo.nd rfl (Or.inl rfl) (bu aW rfl T.list PySem.Pv.boot_list (aa (pv 4) ad)))
   (af (aE (i:=7) Bo.nd rfl (Or.inl rfl) (jg (c8 D.My GY Fu rfl D.my D.IQ .nil fA (aa (pv 1) (aa (pv 6) ad)))))
   (af (aK (cu plainAttrs_list PySem.F.slot_list_append PySem.F.type_list_append b7 (pv 6) (aa aj ad)))
   (af (j8 aj (lC (pv 6) aj hU))
   (ah (aE (i:=8) Bo.nd rfl (Or.inl rfl) (jg (c8 D.My GY Fu rfl D.my D.IQ .nil fA (aa (pv 1) (aa (pv 4) ad)))))))))))))))
   (j7 4 (af (bv PassesOwn.never rfl (bA (aV (aa (pv 7) (aa (pv 8) ad)))) (au (i:=9) Bo.nd rfl (Or.inl rfl)) (ah (aK (aq GP Fu rfl D.mp D.kp D.bp .nil ap (aa (pv 9) (aa (aq GB CT rfl D.mb D.kb D.bb .nil ap (aa (pv 1) ad)) (aa (pv 5) ad)))))))
   (af (bv PassesOwn.never rfl (aL rfl T.range (aa (aD bJ (aD c9 (aq D.Gc AI rfl D.mc D.kc D.bc .nil ap (aa (pv 0) (aa aj ad))) aj) aj) ad)) (au (i:=10) Bo.nd rfl (Or.inl rfl)) (ah (aK (aq GD hr rfl D.md D.kd D.bd .nil ap (aa (pv 7) (aa (aq D.Gx AI rfl D.mx D.kx D.bx .nil ap (aa (aq D.Gc AI rfl D.mc D.kc D.bc .nil ap (aa (pv 0) (aa aj ad))) (aa (aD bR (pv 10) aj) ad))) ad))))))
   (af (aE (i:=11) Bo.nd rfl (Or.inl rfl) (aV (aa (pv 7) (aa (aT (pv 7) Y.cl D.mw GW P8 D.bw .nil ap) (aa (pv 8) ad)))))
   (ah (aO (ax (gG hu) (aq GS IU rfl D.ms D.ks D.bs .nil ap (aa (av aI (pv 11) aj (fun _ _=>rfl)) (aa (pv 2) (aa (pv 3) ad)))) (aq GS IU rfl D.ms D.ks D.bs .nil ap (aa (pv 7) (aa (pv 2) (aa (pv 3) ad)))) (aB _)) (ah (ar iR)) aH)))))
   (af (bv PassesOwn.never rfl (rj rfl T.range (aa aj (aa (az (rY rfl) rfl T.min PyProof.Rows.boot_min (aa (az aw rfl T.len PySem.boot_len (aa (pv 0) ad)) (aa aj ad))) ad))) (au (i:=10) Bo.nd rfl (Or.inl rfl))
    (j7 5 (af (aE (i:=12) Bo.nd rfl (Or.inl rfl) (aq D.Gx AI rfl D.mx D.kx D.bx .nil ap (aa (av aI (pv 0) (pv 10) (fun _ _=>rfl)) (aa (pv 10) ad))))
    (af (aE (i:=13) Bo.nd rfl (Or.inl rfl) (aD bJ (aD c9 (pv 12) aj) aj))
    (af (bM (i:=14) (own:=["_law_one"]) (capN:=["_law_lanes_here", "_law_places"]) (cap:=[2,3]) N7 rfl Bo.nd rfl rfl (bA (pv 11)) (fun C s' H' fp=>⟨au (i:=0) xO rfl (Or.inl rfl),bE,aq GS IU rfl D.ms D.ks D.bs .nil ap (aa (pv 0) (aa (pv 1) (aa (pv 2) ad)))⟩))
    (af (im (aO (ax bG (aD bJ (aD c9 (pv 12) aj) aj) aj (aB _)) (ah (aK (aq GP Fu rfl D.mp D.kp D.bp .nil ap (aa (av aI (pv 11) (pv 13) (fun _ _=>rfl)) (aa (aq GB CT rfl D.mb D.kb D.bb .nil ap (aa (pv 1) ad)) (aa (aV (aa (pv 12) ad)) ad)))))) (ah (aK (aq GD hr rfl D.md D.kd D.bd .nil ap (aa (av aI (pv 11) (pv 13) (fun _ _=>rfl)) (aa (pv 12) ad)))))))
    (ah (bv PassesOwn.never rfl (bA (pv 11)) (au (i:=9) Bo.nd rfl (Or.inl rfl)) (ah (aK (aq GO IU rfl D.mo D.ko D.bo .nil ap (aa (pv 9) (aa (pv 2) (aa (pv 3) ad))))))))))))
    (af (bM (i:=15) (own:=["_law_one"]) (capN:=["_law_lanes_here", "_law_places"]) (cap:=[2,3]) N8 rfl Bo.nd rfl rfl (bA (pv 11)) (fun C s' H' fp=>⟨au (i:=0) xO rfl (Or.inl rfl),bE,aq GS IU rfl D.ms D.ks D.bs .nil ap (aa (pv 0) (aa (pv 1) (aa (pv 2) ad)))⟩))
    (af (im (aO (ax (gG hu) (aD oY (du eL (pv 15) fO (dG (pv 13))) (du eL (pv 15) (dG (aD bR (pv 13) aj)) fO)) (aD oY (du eL (pv 14) fO (dG (pv 13))) (du eL (pv 14) (dG (aD bR (pv 13) aj)) fO)) (aB _)) (ah (ar iR)) aH))
    (af (im (aO (ax (gG hu) (du eL (av aI (av aI (pv 15) (pv 13) (fun _ _=>rfl)) aj (fun _ _=>rfl)) fO (dG (az aw rfl T.len PySem.boot_len (aa (av aI (av aI (pv 14) (pv 13) (fun _ _=>rfl)) aj (fun _ _=>rfl)) ad)))) (av aI (av aI (pv 14) (pv 13) (fun _ _=>rfl)) aj (fun _ _=>rfl)) (aB _)) (ah (ar iR)) aH))
    (ah (aO (PW.pt (l9 (ax ul (aD bJ (aD c9 (pv 12) aj) aj) aj (aB _)) (l9 (ax (gG hu) (av aI (av aI (pv 14) (pv 13) (fun _ _=>rfl)) aj (fun _ _=>rfl)) (aV ad) (aB _)) (l8 (ax (yQ hu) (av aI (pv 15) (pv 13) (fun _ _=>rfl)) (av aI (pv 14) (pv 13) (fun _ _=>rfl)) (aB _)))))) (ah (ar iR)) aH)))))))
   (ah (ar iR)))),?_⟩
  refine⟨P1 P w K c ts tn ys H sc,?_,?_⟩
  ·refine⟨_,rfl,sc,ns,rfl,hS,fun b tb lx Aw lt n Ag ps wy H1 s1 RJ hT De Ad Yi Er IL=>?_⟩
   obtain⟨C8,fst,C1,AF,B9⟩:=hT.i
   have T7:Ag.length=ps.length:=Paired.length hT.l.2.2
   refine⟨_,rfl,tb,TC ts tn b,C8,fst,_,rfl,C1,(W b).cl,(W b).nl,AF,lx,c.land,Aw,_,_,rfl,hT.l.1,L.cl,L.nl,rfl,lt,_,rfl, .inr (Af.of hT.l.2.1),?_⟩
   rw[T7]
   refine⟨_,rfl,tb,TC ts tn b,C8,fst,_,rfl,C1,(W b).cl,(W b).nl,AF,lx,c.land,Aw,_,_,rfl,hT.l.1,L.cl,L.np,rfl,?_⟩
   refine⟨_,rfl,_,rfl,sc,ns,3,rfl,s1.seq hS,fun d3=>⟨b,⟨tb,tb,tb,tb,tb,tb,tb,tb,lx,Aw,lt,n,Ag,ps,wy⟩,d3,rfl,hT,fun Ro rs H2 s2 hRo Ul D3 IY=>?_⟩⟩
   have D3:rs.length=ps.length:=D3
   have Gv:=s1.trans s2
   have Ua:=hT.keep (W b) (zW.Ao s2)
   refine⟨_,rfl,sc,ns,4,rfl,Gv.seq hS,fun d4=>⟨_,_,rfl,rfl,(by show (0:Int) < 4;decide),_,_,rfl,rfl,?_⟩⟩
   obtain⟨am,Um,Uo⟩:∃ am:Nat,(1:Int) + d4 % 4=(am:Int)/\am <= 4:=⟨(1 + d4 % 4).toNat,by omega,by omega⟩
   dsimp only
   rw[Um]
   refine⟨(am:Int),rfl,by omega,by omega,?_⟩
   rw[toNat_natCast]
   refine bK am (by rw[sizeLine_eq];omega) (fun i acc H'=>H' = H2/\∃ ks:List Int,acc=ks.map V.int/\ks.length=i) ⟨rfl,[],rfl,rfl⟩ (fun i acc H' h=>by obtain⟨_,ks,rfl,e⟩:=h;rw[length_map];omega) (fun i acc H' hi h=>?_) (fun acc H' h=>?_)
   ·obtain⟨rfl,ks,rfl,e⟩:=h
    refine⟨hi,fun v H2 y=>?_⟩
    obtain⟨rfl,rfl⟩:=y
    rw[zero_add]
    exact⟨_,rfl,sc,ns,4,rfl,Gv.seq hS,fun d5=>⟨_,rfl,d5,i,rfl,by omega,fun d hd=>⟨rfl,ks ++ [d],by rw[map_append];rfl,by rw[length_append,e];rfl⟩⟩⟩
   obtain⟨rfl,ks,rfl,Ei⟩:=h
   refine⟨le_refl _,fun Ce hCe=>?_⟩
   have s3:=(zW.refl H').new (o := .lst (ks.map V.int)) hCe
   have JO:(upd H' Ce (.lst (ks.map V.int))) Ce=some (.lst (ks.map V.int)):=ac
   show cv 5 (V.ref Ce) _ (upd H' Ce (.lst (ks.map V.int))) _
   generalize upd H' Ce (.lst (ks.map V.int))=H3 at s3 JO ⊢
   have D6:=Gv.trans s3
   refine⟨_,rfl,Ro,_,rfl, .inl (Aa.of (s3 _ _ Ul)),fun Ha NA=>?_⟩
   have s4:=s3.new (o := .lst (rs.map V.int)) NA
   have u4:=(zW.refl H3).new (o := .lst (rs.map V.int)) NA
   have HF:(upd H3 Ha (.lst (rs.map V.int))) Ha=some (.lst (rs.map V.int)):=ac
   show cv 6 (V.ref Ha) _ (upd H3 Ha (.lst (rs.map V.int))) _
   generalize upd H3 Ha (.lst (rs.map V.int))=H4 at s4 u4 HF ⊢
   have PK:=Gv.trans s4
   have GQ:=Ua.keep (W b) (zW.Ao s4)
   have Yj:H Ha=none:=(D6).free NA
   have NB:Ro ≠ Ha:=ag (s3 _ _ Ul) NA
   have NC:Ce ≠ Ha:=ag JO NA
   refine⟨Uj K c (TC ts tn b) (JJ P w ts tn b) ys [Ha] H4 tb ps n rs,⟨_,rfl,_,rfl,fun y dy ny IS IT=>⟨(b,[Ha]),pK (P:=P) (w:=w) (ys:=ys) (ex:=[Ha]) (nr:=nr) (W b) GQ De Ad (Aa.of HF) D3 IY Yi (fun z hz=>by rw[mem_singleton.mp hz];exact⟨_,HF⟩) y dy ny IS IT⟩⟩,?_⟩
   rintro v H5 ⟨a,rfl,e1,e2,e3,s5,fr,hI,hJ⟩
   have ND:Ha ∉ a.four:=fun z=>by rw[fr Ha z]at HF;cases HF
   have Jy:(rs.map V.int).length <= 8:=by rw[length_map];omega
   refine⟨_,rfl, .inl ⟨rfl,_,Aa.of (s5 _ _ HF)⟩,Ha,_,_,rfl,rfl,s5 _ _ HF,by rw[sizeLine_eq];omega,?_⟩
   have CD:=hI.Y.chg (x:=Ha) (mem_singleton.mpr rfl) ND (zs:=rs.map V.int ++ [V.int 7])
   have k6:=iu (o := .lst (rs.map V.int ++ [V.int 7])) (s5 _ _ HF)
   have Yk:zW H (upd H5 Ha (.lst (rs.map V.int ++ [V.int 7]))):=cY (PK.trans s5) Yj
   have Ja:(upd H5 Ha (.lst (rs.map V.int ++ [V.int 7]))) Ha=some (.lst (rs.map V.int ++ [V.int 7])):=ac
   have NG:(upd H5 Ha (.lst (rs.map V.int ++ [V.int 7]))) Ro=some (.lst (rs.map V.int)):=by rw[ae NB];exact s5 _ _ (s4 _ _ Ul)
   have NJ:(upd H5 Ha (.lst (rs.map V.int ++ [V.int 7]))) Ce=some (.lst (ks.map V.int)):=by rw[ae NC];exact s5 _ _ (u4 _ _ JO)
   have L4:=Bm.keep (W b) hI.T k6
   have Ym:=(GQ.keep (W b) (zW.Ao s5)).keep (W b) k6
   generalize upd H5 Ha (.lst (rs.map V.int ++ [V.int 7]))=H6 at CD k6 Yk Ja NG NJ L4 Ym ⊢
   refine⟨_,rfl,Ha,_,0,0,rfl,rfl,Ja,i0 (by rw[length_append];exact succ_pos _),?_⟩
   have Gz:=CD.chg (x:=Ha) (mem_singleton.mpr rfl) ND (zs:=(rs.map V.int ++ [V.int 7]).set 0 (V.int 59))
   have k7:=iu (o := .lst ((rs.map V.int ++ [V.int 7]).set 0 (V.int 59))) Ja
   have Up:zW H (upd H6 Ha (.lst ((rs.map V.int ++ [V.int 7]).set 0 (V.int 59)))):=cY Yk Yj
   have NK:(upd H6 Ha (.lst ((rs.map V.int ++ [V.int 7]).set 0 (V.int 59)))) Ro=some (.lst (rs.map V.int)):=by rw[ae NB];exact NG
   have G0:(upd H6 Ha (.lst ((rs.map V.int ++ [V.int 7]).set 0 (V.int 59)))) Ce=some (.lst (ks.map V.int)):=by rw[ae NC];exact NJ
   have Yn:=Bm.keep (W b) L4 k7
   have NM:=Ym.keep (W b) k7
   generalize upd H6 Ha (.lst ((rs.map V.int ++ [V.int 7]).set 0 (V.int 59)))=H7 at Gz Up NK G0 Yn NM ⊢
   have Bb:=B4.one (rv:=rs.map V.int) ⟨AJ.N0 Gz (zW.refl _) (fun z hz=>by cases hz),Yn,hI.O,hI.G⟩ hJ rfl rfl rfl
   refine⟨Uj K c (TC ts tn b) (JJ P w ts tn b) ys (cn 1 fun _=>a) H7 tb ps n rs,⟨_,rfl,_,rfl,fun y dy ny IS IT=>⟨(b,cn 1 fun _=>a),pK (P:=P) (w:=w) (ys:=ys) (ex:=cn 1 fun _=>a) (nr:=nr) (W b) NM De Ad (Aa.of NK) D3 IY Yi Bb.B8 y dy ny IS IT⟩⟩,?_⟩
   rintro v H8 ⟨a2,rfl,f1,f2,f3,s8,Uq,CN,hJ2⟩
   have Bi:=Bb.add (W b) s8 CN hJ2 Uq (fun d hd=>by cases hd) ⟨by rw[e1,f1],by rw[e2,f2],by rw[e3,f3],rfl⟩ ⟨zero_le _,zero_le _⟩
   have Bt:∀ z ∈ cn 2 (eC (fun _=>a) 1 a2),H z=none:=fun z hz=>by
    obtain⟨k,hk,hz⟩:=AV.mp hz
    rcases lt_or_ge k 1 with h1 | h1
    ·rw[iD h1]at hz;exact PK.free (fr z hz)
    ·have:k=1:=by omega
     subst this
     rw[bU]at hz;exact Up.free (Uq z hz)
   rw[e1,e2,e3]at Bi
   refine⟨b,tb,Ro,Ce,Ha,ps.length,n,rs,ks,_,_,Up.trans s8,Bi,s8 _ _ G0,?_,by omega,?_,IL,Bt,rfl⟩
   ·intro hz
    obtain⟨k,hk,hz⟩:=AV.mp hz
    rcases lt_or_ge k 1 with h1 | h1
    ·rw[iD h1]at hz
     have h9:=u4 _ _ JO
     rw[fr Ce hz]at h9;cases h9
    ·have:k=1:=by omega
     subst this
     rw[bU]at hz
     rw[Uq Ce hz]at G0;cases G0
   ·exact uH D3 IY
  ·rintro σ Hc ⟨b,tb,Ro,Ce,Ha,L,n,rs,ks,A,S,sHc,JP,JO,Yo,hks,IZ,IL,Dv,rfl⟩
   refine⟨P2 P w K c ts tn ys b H sc tb Ro Ce Ha L n rs,?_,?_⟩
   ·
    refine⟨_,rfl,_,rfl,by show 2 <= sizeLine;decide,fun Ol Yp=>?_⟩
    have s1:=(zW.refl Hc).new (o := .lst [.ref (A 0).y, .ref (A 1).y]) Yp
    have Ur:(upd Hc Ol (.lst [.ref (A 0).y, .ref (A 1).y])) Ol=some (.lst [.ref (A 0).y, .ref (A 1).y]):=ac
    have nOl:Ol ∉ cn 2 A:=JP.new Yp
    generalize upd Hc Ol (.lst [.ref (A 0).y, .ref (A 1).y])=Hd at s1 Ur ⊢
    refine⟨Ol,rfl,⟨_,Aa.of Ur⟩,?_⟩
    refine eA (K:=K) (a:=Ol) (xs:=[.ref (A 0).y, .ref (A 1).y]) (fun i σ H2=>∃ (a9:Option V)(S2:Nat->YS),zW H H2/\B4 K c (TC ts tn b) (JJ P w ts tn b) ys 2 tb L n (rs.map V.int) (4 * i) (4 * i) H2 A S2/\H2 Ol=some (.lst [.ref (A 0).y, .ref (A 1).y])/\H2 Ce=some (.lst (ks.map V.int))/\σ=[some (.ref sc),some (.ref tb),some (.int L),some (.int n),some (.ref Ro),some (.ref Ce),some (.ref Ha),some (.ref (A 0).y),some (.ref (A 1).y),a9,none,none,none,none,none,none])
     ⟨none,S,sHc.trans s1,JP.same (W b) s1,Ur,s1 _ _ JO,rfl⟩ (fun i σ H2 _ ⟨_,_,_,_,g,_⟩=>Aa.of g) ?_ ?_
    ·rintro i v σ H2 hv ⟨a9,S2,Gv,Bi,Yq,Us,rfl⟩
     have hi:i < 2:=(List.getElem?_eq_some_iff.mp hv).1
     have ev:v = .ref (A i).y:=by
      rcases (by omega:i=0∨i=1) with rfl | rfl<;>exact(Option.some.inj hv).symm
     subst ev
     obtain⟨c1,c2,c3,c4⟩:=Bi.cm i hi
     obtain⟨b1,b2⟩:=Bi.bd i hi
     refine⟨_,rfl,_,rfl,b,A i,by rw[c1];rfl,(Bi.Y i hi).T,fun Bg Av bs H3 s3 Ut Uu JL Nn IP=>?_⟩
     have AS:=Bi.same (W b) s3
     have nf:∀ z:Addr,z ∉ cn 2 A->z ∉ [(A i).le,(A i).dn]:=fun z hz Fn=>by
      refine iq hi hz ?_
      simp only[mem_cons,not_mem_nil,or_false]at Fn ⊢
      rcases Fn with rfl | rfl<;>simp
     have two:∀ z:Addr,z ∈ [(A i).le,(A i).dn]->z ∈ (A i).four:=fun z hz=>by simp only[mem_cons,not_mem_nil,or_false]at hz ⊢;rcases hz with rfl | rfl<;>simp
     refine⟨_,rfl,(b,oX 2 A i),A i,S2 i,Bg,Ce,Av,bs,ks,rfl,(AS.Y i hi).Y,(AS.Y i hi).T,AS.J i hi,Uu,JL,Nn,IP,iq hi (Bi.new Ut),s3 _ _ Us,iq hi Yo,by omega,by omega,by omega,fun H4 s' o4 Ds Uv Uw h1 h2=>?_⟩
     refine⟨_,ia S2 i s',j0 (Gv.trans s3) o4 (fun z hz=>Dv z (fJ hi z (two z hz))),AS.step (W b) hi (o4.mono two) Ds Uv Uw (by omega) (by omega) (by omega) (by omega),o4 _ _ (nf _ nOl) (s3 _ _ Yq),o4 _ _ (nf _ Yo) (s3 _ _ Us),rfl⟩
    rintro σ H2 ⟨a9,S2,Gv,Bi,Yq,Us,rfl⟩
    have Bi:B4 K c (TC ts tn b) (JJ P w ts tn b) ys 2 tb L n (rs.map V.int) 8 8 H2 A S2:=Bi
    refine⟨_,rfl,sc,ns,4,rfl,Gv.seq hS,fun d4=>⟨_,_,rfl,rfl,(by exact⟨by decide,by decide⟩),_,_,rfl,rfl,(by show (0:Int) < 12;decide),?_⟩⟩
    obtain⟨am,Um,Uo⟩:∃ am:Nat,d4 / 4 % 12=(am:Int)/\am < 12:=⟨(d4 / 4 % 12).toNat,by omega,by omega⟩
    refine⟨(am:Int),congrArg (fun x=>[V.int x]) Um,by omega,by omega,?_⟩
    rw[toNat_natCast]
    refine aY (lo:=0) (fun i σ H3=>∃ (Cq:Option V)(S2:Nat->YS),zW H H3/\B4 K c (TC ts tn b) (JJ P w ts tn b) ys 2 tb L n (rs.map V.int) 8 (8 + i) H3 A S2/\σ=[some (.ref sc),some (.ref tb),some (.int L),some (.int n),some (.ref Ro),some (.ref Ce),some (.ref Ha),some (.ref (A 0).y),some (.ref (A 1).y),a9,Cq,none,none,none,none,none])
     ⟨none,S2,Gv,Bi,rfl⟩ ?_ ?_
    ·rintro i σ H3 hi ⟨Cq,S2,D6,AS,rfl⟩
     rw[zero_add]
     obtain⟨b1,b2⟩:=AS.bd 0 (by decide)
     refine⟨_,rfl,_,rfl,sc,ns,4,rfl,D6.seq hS,fun d5=>⟨_,rfl,_,_,rfl,rfl,d5,i + 50,rfl,by omega,fun d hd=>?_⟩⟩
     refine⟨(b,oX 2 A 0),A 0,S2 0,d,rfl,AS.Y 0 (by decide),AS.J 0 (by decide),by omega,fun H4 s' o4 Ds Uv Uw h1 h2 _=>?_⟩
     exact⟨_,ia S2 0 s',j0 D6 o4 (fun z hz=>Dv z (fJ (by decide) z hz)),AS.step (W b) (by decide) o4 Ds Uv Uw (by omega) (by omega) (by omega) (by omega),rfl⟩
    rintro σ H3 ⟨Cq,S3,D6,AS,rfl⟩
    obtain⟨c1,c2,c3,c4⟩:=AS.cm 0 (by decide)
    obtain⟨b1,b2⟩:=AS.bd 0 (by decide)
    obtain⟨l1,l2⟩:=AS.Em (j:=0) (by decide)
    have NN:=AS.Y 0 (by decide)
    have PL:=AS.J 0 (by decide)
    have D5:=PL.D5
    have LF:(S3 0).lies.length <= 900:=by omega
    refine⟨_,rfl,_,rfl,(A 0).y,(A 0).dy,_,rfl,NN.Y.ins,rfl,(b,oX 2 A 0),A 0,S3 0,rfl,⟨NN.Y,by rw[c4,c2];exact IZ,by omega,by omega,LF,by omega⟩,NN.T,fun y dy ro la le li dn H4 s4 fr Ds=>?_⟩
    have PN:=NN.same (W b) s4
    have hIn:D4 K c (TC ts tn b) (JJ P w ts tn b) (yx ys (cn 2 A)) H4 ((A 0).twin y dy ro la le li dn) (S3 0):=⟨AJ.N0 Ds (zW.refl _) fun z hz => .inl (by
      obtain⟨k,hk,hz⟩:=AV.mp hz
      by_cases e:k=0
      ·subst e;exact mem_append_left _ hz
      ·exact mem_append_right _ (By.mpr ⟨k,hk,e,hz⟩)),PN.T,⟨PN.O.ends,PN.O.AZ⟩,PL.twin.ok⟩
    have Ca:=AS.add (W b) s4 hIn PL.twin fr (AS.sc 0 (by decide)) ⟨c1,c2,c3,c4⟩ ⟨b1,b2⟩
    have NO:∀ z ∈ cn 3 (eC A 2 ((A 0).twin y dy ro la le li dn)),H z=none:=fun z hz=>by
     obtain⟨k,hk,hz⟩:=AV.mp hz
     rcases lt_or_ge k 2 with h1 | h1
     ·rw[iD h1]at hz;exact Dv z (fJ h1 z hz)
     ·have:k=2:=by omega
      subst this
      rw[bU]at hz;exact D6.free (fr z hz)
    have e0:eC A 2 ((A 0).twin y dy ro la le li dn) 0=A 0:=rfl
    have e1:eC A 2 ((A 0).twin y dy ro la le li dn) 1=A 1:=rfl
    have e2:eC A 2 ((A 0).twin y dy ro la le li dn) 2=(A 0).twin y dy ro la le li dn:=rfl
    have f0:eC S3 2 (S3 0) 0=S3 0:=rfl
    have f2:eC S3 2 (S3 0) 2=S3 0:=rfl
    have ed:oh (eC A 2 ((A 0).twin y dy ro la le li dn) 2,eC S3 2 (S3 0) 2)=oh (eC A 2 ((A 0).twin y dy ro la le li dn) 0,eC S3 2 (S3 0) 0):=rfl
    have ey:(y:Addr)=(eC A 2 ((A 0).twin y dy ro la le li dn) 2).y:=rfl
    refine⟨_,rfl,by show 3 <= sizeLine;decide,fun Yl Yr=>?_⟩
    have s5:=(zW.refl H4).new (o := .lst [.ref (A 0).y, .ref y, .ref (A 1).y]) Yr
    have JQ:(upd H4 Yl (.lst [.ref (A 0).y, .ref y, .ref (A 1).y])) Yl=some (.lst [.ref (A 0).y, .ref y, .ref (A 1).y]):=ac
    have PQ:=Ca.new Yr
    show cv 11 (V.ref Yl) _ (upd H4 Yl (.lst [.ref (A 0).y, .ref y, .ref (A 1).y])) _
    generalize upd H4 Yl (.lst [.ref (A 0).y, .ref y, .ref (A 1).y])=H5 at s5 JQ ⊢
    have CD:=Ca.same (W b) s5
    have sH5:=(D6.trans s4).trans s5
    obtain⟨A',OY⟩:∃ A',A' = eC A 2 ((A 0).twin y dy ro la le li dn):=⟨_,rfl⟩
    obtain⟨S',Yt⟩:∃ S',S' = eC S3 2 (S3 0):=⟨_,rfl⟩
    rw[← OY]at CD PQ NO ed ey e0 e1
    rw[← Yt]at CD ed
    rw[ey,← e0,← e1]at JQ
    rw[← e0,← e1]
    clear OY Yt Ca hIn PN NN PL Ds fr e0 e1 e2 f0 f2 ey
    obtain⟨l3,l4⟩:=CD.Em (j:=2) (by decide)
    obtain⟨l5,l6⟩:=CD.Em (j:=0) (by decide)
    obtain⟨b3,b4⟩:=CD.bd 2 (by decide)
    obtain⟨b5,b6⟩:=CD.bd 0 (by decide)
    refine⟨_,rfl,Yl,_,1,_,rfl,rfl,Aa.of JQ,ak (j:=1) rfl,_,rfl,_,rfl,(b,oX 3 A' 2),(fun z=>z ∉ cn 3 A'),A' 2,S' 2,(fun z hz=>CD.new hz),by rw[l3,l4];rfl,CD.Y 2 (by decide),by omega,by omega,by omega,fun v6 H6 s6 hv6=>?_⟩
    have Gz:=CD.same (W b) s6
    refine⟨_,rfl,_,rfl,_,rfl,(b,oX 3 A' 0),(fun z=>z ∉ cn 3 A'),A' 0,S' 0,(fun z hz=>Gz.new hz),by rw[l5,l6];rfl,Gz.Y 0 (by decide),by omega,by omega,by omega,fun v7 H7 s7 T3=>?_⟩
    refine Ru (d:=oh (A' 0,S' 0)) (by rw[← ed];exact jU (Gz.sc 2 (by decide)) (BB.same s7 _ _ hv6)) (jU (Gz.sc 0 (by decide)) T3) ((lq (Gz.sc 0 (by decide))).le (by decide)) ⟨_,rfl,aJ ?_⟩
    exact⟨_,_,Yl,A',S',(sH5.trans s6).trans s7,(Gz.same (W b) s7).weak (le_refl _) (by omega),s7 _ _ (s6 _ _ JQ),PQ,NO,rfl⟩
   ·rintro σ Hd ⟨a9,Cq,Yl,A,S,Yu,JP,JQ,PQ,Dv,rfl⟩
    have hL:L <= 40:=by have h:=(JP.J 0 (by decide)).D5;rw[(JP.cm 0 (by decide)).2.1]at h;exact h
    refine⟨_,rfl,sc,_,rfl, .inl (Yu.seq hS),_,_,rfl,5,_,rfl,⟨by decide,by decide,?_,?_⟩,?_⟩
    ·rw[length_map];split<;>omega
    ·rw[length_map];split<;>omega
    rw[length_map]
    refine aY (lo:=5) (LI P w K c ts tn ys b H sc tb Ro Ce Ha Yl L n rs A)
     ⟨_,_,none,none,none,none,S,Yu,JP,JQ,rfl⟩ ?_ ?_
    rotate_left
    ·rintro σ Hx ⟨_,_,_,_,_,_,S,_,_,_,rfl⟩
     exact q _
    rintro i σ Hb hi ⟨a9,Cq,PF,PH,PJ,E8,S,Yv,NP,Ux,rfl⟩
    have Yw:5 + i < ns.length/\i < 40:=by
     have:i < ((if (45:Int) < (ns.length:Int) then (45:Int) else (ns.length:Int)) - 5).toNat:=hi
     split at this<;>omega
    rw[show (5:Int) + (i:Int)=((5 + i:Nat):Int) by omega]
    have hsx:(ns.map V.int)[5 + i]? = some (V.int (ns[5 + i]' Yw.1)):=by rw[List.getElem?_map,List.getElem?_eq_getElem Yw.1];rfl
    refine⟨P3 P w K c ts tn ys b H sc tb Ro Ce Ha Yl L n rs A S i E8,?_,?_⟩
    ·refine⟨_,rfl,_,rfl,sc,_,_,_,rfl,rfl,Yv.seq hS,ak hsx,_,rfl,_,5 + i,rfl,by omega,fun d hd=>?_⟩
     refine⟨_,rfl,_,_,rfl,rfl,(by exact⟨by decide,by decide⟩),_,_,rfl,rfl,(by show (0:Int) < 3;decide),?_⟩
     obtain⟨j,hj,Jb⟩:∃ j:Nat,d / 512 % 3=(j:Int)/\j < 3:=⟨(d / 512 % 3).toNat,by omega,by omega⟩
     dsimp only
     rw[hj]
     refine⟨_,rfl,Yl,rfl,⟨_,Aa.of Ux⟩,?_⟩
     refine kS (R:=BB (fun z=>z ∉ cn 3 A)) (fun s=>BB.same s) (og A S) rfl Ux (by show 3 < sizeLine;decide) (fun k x as H1 N hx ha s1 hN=>?_) (fun Be Av H2 s2 Yx pBe=>?_)
     ·have Jc:k < 3:=(List.getElem?_eq_some_iff.mp hx).1
      rw[fj Jc]at hx;cases hx
      rw[ja Jc]at ha;cases ha
      have Bb:=NP.same (W b) s1
      obtain⟨l1,l2⟩:=Bb.Em (cC k)
      obtain⟨b1,b2⟩:=Bb.bd _ (cC k)
      exact⟨_,rfl,_,rfl,_,rfl,(b,oX 3 A (bY k)),(fun z=>z ∉ cn 3 A),A (bY k),S (bY k),(fun z hz=>Bb.new hz),by rw[l1,l2];rfl,Bb.Y _ (cC k),by omega,by omega,by omega,fun v H' s' hv=>hN v H' s' hv⟩
     have v1:=(zW.refl H2).new (o := .lst Av) Yx
     have Yy:(upd H2 Be (.lst Av)) Be=some (.lst Av):=ac
     have nBe:Be ∉ cn 3 A:=(NP.same (W b) s2).new Yx
     show cv 14 (V.ref Be) _ (upd H2 Be (.lst Av)) _
     generalize upd H2 Be (.lst Av)=H3 at v1 Yy ⊢
     have Uy:=s2.trans v1
     have AS:=NP.same (W b) Uy
     have NQ:=Paired.mono (fun v as=>BB.same v1 v as) pBe
     have Uz:=Uy _ _ Ux
     have D6:=Yv.trans Uy
     refine⟨P4 P w K c ts tn ys b H sc tb Ro Ce Ha Yl L n rs A S i a9 E8 Be Av d j,?_,?_⟩
     ·have Cv:=cC j
      obtain⟨c1,c2,c3,c4⟩:=AS.cm _ Cv
      obtain⟨b1,b2⟩:=AS.bd _ Cv
      have fin:∀ (H5 H6:Hp)(s':YS),zW H3 H5->Ae (A (bY j)).four H5 H6->AJ K (yx ys (oX 3 A (bY j))) H6 (A (bY j)) s'->Bk (A (bY j)) s'->Cr (S (bY j)) s'->s'.U.length <= (S (bY j)).U.length + 1->s'.done.length <= (S (bY j)).done.length + 1 ->
        zW H H6/\B4 K c (TC ts tn b) (JJ P w ts tn b) ys 3 tb L n (rs.map V.int) (8 + (i + 1)) (20 + (i + 1)) H6 A (ia S (bY j) s')/\H6 Yl=some (.lst (m6 A))/\H6 Be=some (.lst Av)/\Paired (BB (fun z=>z ∉ cn 3 A) H6) Av (og A S):=by
       intro H5 H6 s' s5 o6 CD NR Jd h1 h2
       have Ca:=AS.same (W b) s5
       have o7:Ae (cn 3 A) H5 H6:=o6.mono fun z hz=>fJ Cv z hz
       have kp:=Ae.Ao Ca.B8 o7
       exact⟨j0 (D6.trans s5) o7 Dv,Ca.step (W b) Cv o6 CD NR Jd (by omega) (by omega) (by omega) (by omega),o7 _ _ PQ (s5 _ _ Uz),o7 _ _ nBe (s5 _ _ Yy),Paired.mono (fun v as z=>BB.off kp o7 v as (BB.same s5 v as z)) NQ⟩
      refine⟨_,rfl,_,_,rfl,rfl,(by exact⟨by decide,by decide⟩),_,_,rfl,rfl,(by show (0:Int) < 4;decide),rfl,_,rfl,?_⟩
      dsimp only
      by_cases h0:d / 8 % 4=0
      ·rw[decide_eq_true (show V.int (d / 8 % 4)=V.int 0 by rw[h0])]
       refine aN ⟨_,rfl,_,rfl,Yl,_,_,_,rfl,rfl,Aa.of Uz,ak (fj Jb),_,rfl,b,A (bY j),by rw[c1];rfl,(AS.Y _ Cv).T,fun Bg bbs bs H4 s4 Ut Uu JL Nn IP=>?_⟩
       refine⟨_,rfl,by show 1 <= sizeLine;decide,fun o1 Fc=>?_⟩
       have s5:=s4.new (o := .lst [.int d]) Fc
       have u5:=(zW.refl H4).new (o := .lst [.int d]) Fc
       have E6:(upd H4 o1 (.lst [.int d])) o1=some (.lst [.int d]):=ac
       have n1:=(AS.same (W b) s4).new Fc
       generalize upd H4 o1 (.lst [.int d])=H5 at s5 u5 E6 ⊢
       have Ca:=AS.same (W b) s5
       have two:∀ z:Addr,z ∈ [(A (bY j)).le,(A (bY j)).dn]->z ∈ (A (bY j)).four:=fun z hz=>by simp only[mem_cons,not_mem_nil,or_false]at hz ⊢;rcases hz with rfl | rfl<;>simp
       refine⟨(b,oX 3 A (bY j)),A (bY j),S (bY j),Bg,o1,bbs,bs,[d],rfl,(Ca.Y _ Cv).Y,(Ca.Y _ Cv).T,Ca.J _ Cv,u5 _ _ Uu,Aq.same u5 JL,Nn,IP,iq Cv (AS.new Ut),E6,iq Cv n1,by show 1 <= 10;decide,by show _ + 1 <= 59;omega,by omega,fun H6 s' o6 CD NR Jd h1 h2=>?_⟩
       obtain⟨z1,z2,z3,z4,z5⟩:=fin H5 H6 s' s5 (o6.mono two) CD NR Jd h1 h2
       exact⟨s',rfl,z1,z2,z3,z4,z5,Jd,fun h=>absurd h0 (by omega)⟩
      ·rw[decide_eq_false (show ¬ V.int (d / 8 % 4)=V.int 0 from fun e=>h0 (V.int.inj e))]
       refine aJ ⟨_,rfl,_,rfl,Yl,_,_,_,rfl,rfl,Aa.of Uz,ak (fj Jb),_,rfl,(b,oX 3 A (bY j)),A (bY j),S (bY j),d,rfl,AS.Y _ Cv,AS.J _ Cv,by omega,fun H6 s' o6 CD NR Jd h1 h2 h3=>?_⟩
       obtain⟨z1,z2,z3,z4,z5⟩:=fin H3 H6 s' (zW.refl _) o6 CD NR Jd (by omega) h2
       exact⟨s',rfl,z1,z2,z3,z4,z5,Jd,fun _=>h3⟩
     rintro σ H4 ⟨s',rfl,PK,Ds,U0,gB4,pB4,hG,hM⟩
     refine⟨_,rfl,Yl,rfl,⟨_,Aa.of U0⟩,?_⟩
     refine eA (K:=K) (a:=Yl) (xs:=m6 A) (fun k σ H5=>∃ a9,zW H4 H5/\σ=[some (.ref sc),some (.ref tb),some (.int L),some (.int n),some (.ref Ro),some (.ref Ce),some (.ref Ha),some (.ref (A 0).y),some (.ref (A 1).y),a9,some (.int ((5 + i:Nat):Int)),some (.ref Yl),some (.int d),some (.int j),some (.ref Be),E8]) ⟨_,zW.refl _,rfl⟩ (fun k σ H5 _ ⟨_,s,_⟩=>Aa.of (s _ _ U0)) ?_ ?_
     ·rintro k v σ H5 hv ⟨a9,s5,rfl⟩
      have Jc:k < 3:=(List.getElem?_eq_some_iff.mp hv).1
      rw[fj Jc]at hv;cases hv
      have Ca:=Ds.same (W b) s5
      have hJ5:=Ca.J _ (cC k)
      obtain⟨l1,l2⟩:=Ca.Em (cC k)
      obtain⟨b1,b2⟩:=Ca.bd _ (cC k)
      exact⟨_,rfl,_,rfl,_,rfl,(b,oX 3 A (bY k)),A (bY k),ia S (bY j) s' (bY k),by rw[l1,l2];rfl,Ca.Y _ (cC k),by omega,by omega,by omega,hJ5.Xy (by omega),fun H6 s6=>⟨_,s5.trans s6,rfl⟩⟩
     rintro σ H5 ⟨a9,s5,rfl⟩
     exact⟨a9,Be,Av,d,j,s',Jb,PK.trans s5,Ds.same (W b) s5,s5 _ _ U0,s5 _ _ gB4,Paired.mono (fun v as=>BB.same s5 v as) pB4,hG,hM,rfl⟩
    rintro σ Hh ⟨a9,Be,Av,d,j,s',Jb,sHh,PR,U1,gBh,Yz,hG,hM,rfl⟩
    have Cv:=cC j
    refine⟨_,rfl,Yl,rfl,⟨_,Aa.of U1⟩,?_⟩
    refine kS (R:=BB (fun z=>z ∉ cn 3 A)) (fun s=>BB.same s) (og A (ia S (bY j) s')) rfl U1 (by show 3 < sizeLine;decide) (fun k x as H1 N hx ha s1 hN=>?_) (fun Bh B1 H2 s2 hBh Y1=>?_)
    ·have Jc:k < 3:=(List.getElem?_eq_some_iff.mp hx).1
     rw[fj Jc]at hx;cases hx
     rw[ja Jc]at ha;cases ha
     have Bb:=PR.same (W b) s1
     obtain⟨l1,l2⟩:=Bb.Em (cC k)
     obtain⟨b1,b2⟩:=Bb.bd _ (cC k)
     exact⟨_,rfl,_,rfl,_,rfl,(b,oX 3 A (bY k)),(fun z=>z ∉ cn 3 A),A (bY k),ia S (bY j) s' (bY k),(fun z hz=>Bb.new hz),by rw[l1,l2];rfl,Bb.Y _ (cC k),by omega,by omega,by omega,fun v H' s' hv=>hN v H' s' hv⟩
    have v1:=(zW.refl H2).new (o := .lst B1) hBh
    have PU:(upd H2 Bh (.lst B1)) Bh=some (.lst B1):=ac
    show cv 15 (V.ref Bh) _ (upd H2 Bh (.lst B1)) _
    generalize upd H2 Bh (.lst B1)=H3 at v1 PU ⊢
    have U2:=s2.trans v1
    have U3:=Paired.mono (fun v as=>BB.same v1 v as) Y1
    have NQ:=Paired.mono (fun v as=>BB.same U2 v as) Yz
    have U4:=U2 _ _ gBh
    have DS:B1.length=3:=Paired.length U3
    have IP:Av.length=3:=Paired.length NQ
    have scC:=sw (A:=A) PR.sc
    have scB:=sw (A:=A) NP.sc
    clear Y1 Yz
    refine⟨fun σ' Hx=>zW H3 Hx/\σ' = [some (.ref sc),some (.ref tb),some (.int L),some (.int n),some (.ref Ro),some (.ref Ce),some (.ref Ha),some (.ref (A 0).y),some (.ref (A 1).y),a9,some (.int ((5 + i:Nat):Int)),some (.ref Yl),some (.int d),some (.int j),some (.ref Be),some (.ref Bh)],?_,?_⟩
    refine⟨_,rfl,_,rfl,_,rfl,Bh,B1,rfl,Aa.of PU,fun o1 Fc=>?_⟩
    rw[show eZ B1 none (some (j:Int))=B1.take j from lV B1 j]
    have w1:=(zW.refl H3).new (o := .lst (B1.take j)) Fc
    have E6:(upd H3 o1 (.lst (B1.take j))) o1=some (.lst (B1.take j)):=ac
    generalize upd H3 o1 (.lst (B1.take j))=H4 at w1 E6 ⊢
    refine⟨_,rfl,_,rfl,_,_,rfl,rfl,_,rfl,Bh,B1,rfl,Aa.of (w1 _ _ PU),fun o2 BG=>?_⟩
    rw[show eZ B1 (some ((j:Int) + 1)) none=B1.drop (j + 1) from kR B1 (j + 1) (by omega)]
    have w2:=(zW.refl H4).new (o := .lst (B1.drop (j + 1))) BG
    have go2:(upd H4 o2 (.lst (B1.drop (j + 1)))) o2=some (.lst (B1.drop (j + 1))):=ac
    generalize upd H4 o2 (.lst (B1.drop (j + 1)))=H5 at w2 go2 ⊢
    refine⟨o1,o2,_,_,rfl,rfl,w2 _ _ E6,go2,by rw[length_take,length_drop,sizeLine_eq];omega,fun o3 ho3=>?_⟩
    have w3:=(zW.refl H5).new (o := .lst (B1.take j ++ B1.drop (j + 1))) ho3
    have Y2:(upd H5 o3 (.lst (B1.take j ++ B1.drop (j + 1)))) o3=some (.lst (B1.take j ++ B1.drop (j + 1))):=ac
    generalize upd H5 o3 (.lst (B1.take j ++ B1.drop (j + 1)))=H6 at w3 Y2 ⊢
    have t6:=(w1.trans w2).trans w3
    refine⟨_,rfl,_,rfl,_,rfl,Be,Av,rfl,Aa.of (t6 _ _ U4),fun o4 ho4=>?_⟩
    rw[show eZ Av none (some (j:Int))=Av.take j from lV Av j]
    have w4:=(zW.refl H6).new (o := .lst (Av.take j)) ho4
    have Y3:(upd H6 o4 (.lst (Av.take j))) o4=some (.lst (Av.take j)):=ac
    generalize upd H6 o4 (.lst (Av.take j))=H7 at w4 Y3 ⊢
    refine⟨_,rfl,_,rfl,_,_,rfl,rfl,_,rfl,Be,Av,rfl,Aa.of (w4 _ _ (t6 _ _ U4)),fun o5 ho5=>?_⟩
    rw[show eZ Av (some ((j:Int) + 1)) none=Av.drop (j + 1) from kR Av (j + 1) (by omega)]
    have w5:=(zW.refl H7).new (o := .lst (Av.drop (j + 1))) ho5
    have Y4:(upd H7 o5 (.lst (Av.drop (j + 1)))) o5=some (.lst (Av.drop (j + 1))):=ac
    generalize upd H7 o5 (.lst (Av.drop (j + 1)))=H8 at w5 Y4 ⊢
    refine⟨o4,o5,_,_,rfl,rfl,w5 _ _ Y3,Y4,by rw[length_take,length_drop,sizeLine_eq];omega,fun o6 ho6=>?_⟩
    have w6:=(zW.refl H8).new (o := .lst (Av.take j ++ Av.drop (j + 1))) ho6
    have Y5:(upd H8 o6 (.lst (Av.take j ++ Av.drop (j + 1)))) o6=some (.lst (Av.take j ++ Av.drop (j + 1))):=ac
    generalize upd H8 o6 (.lst (Av.take j ++ Av.drop (j + 1)))=H9 at w6 Y5 ⊢
    have t9:=(w4.trans w5).trans w6
    have u9:=t6.trans t9
    have PV:=Paired.mono (fun v as=>BB.same u9 v as) U3
    have PY:=Paired.mono (fun v as=>BB.same u9 v as) NQ
    have NS:=Paired.app (Paired.drop (j + 1) PV) (Paired.take j PV)
    have U5:=Paired.app (Paired.drop (j + 1) PY) (Paired.take j PY)
    rw[xY Jb]at NS
    have U6:∀ as ∈ (og A S).take j ++ (og A S).drop (j + 1),∀ x ∈ as.2.done,∀ y ∈ x,oi y:=fun as ha=>scB as (by
     rcases mem_append.mp ha with h | h
     ·exact mem_of_mem_take h
     ·exact mem_of_mem_drop h)
    refine Ru (d := .list (((og A S).take j ++ (og A S).drop (j + 1)).map oh)) (.lst (Aa.of (t9 _ _ Y2)) (lT NS U6)) (.lst (Aa.of Y5) (lT U5 U6)) ((bD (m:=5) fun y hy=>by
     obtain⟨as,ha,rfl⟩:=mem_map.mp hy
     exact lq (U6 as ha)).le (by decide)) ⟨_,rfl,aJ ⟨u9,rfl⟩⟩
    rintro σ' H9 ⟨u9,rfl⟩
    have PV:=Paired.mono (fun v as=>BB.same u9 v as) U3
    have PY:=Paired.mono (fun v as=>BB.same u9 v as) NQ
    have Y6:=u9 _ _ PU
    have PZ:=u9 _ _ U4
    have hcj:B1[j]? = some (B1[j]'(by omega)):=List.getElem?_eq_getElem (by omega)
    have JR:Av[j]? = some (Av[j]'(by omega)):=List.getElem?_eq_getElem (by omega)
    obtain⟨as1,Y7,Pn⟩:=Paired.at PV hcj
    obtain⟨as2,Y8,Y9⟩:=Paired.at PY JR
    rw[ja Jb,eM]at Y7;cases Y7
    rw[ja Jb]at Y8;cases Y8
    have IV:∀ d ∈ s'.done,∀ x ∈ d,oi x:=by have h:=PR.sc _ Cv;rw[eM]at h;exact h
    have NU:=NP.sc _ Cv
    have D1:=Pn
    have D2:=Y9
    have hs1:BD (oh (A (bY j),s')) 5:=lq IV
    have D8:BD (oh (A (bY j),S (bY j))) 5:=lq NU
    obtain⟨t1,L1,W1,X1,M1,D1',E1,lvs1,wvs1,xvs1,mvs1,C3,evs1,ev1,z1⟩:=Pn
    obtain⟨t2,L2,W2,X2,M2,D2',E2,FL,wvs2,xvs2,mvs2,Cc,evs2,ev2,z2⟩:=Y9
    rw[ev1]at hcj D1
    rw[ev2]at JR D2
    obtain⟨e,he,hse⟩:=hG.done
    have WD:C3.length=s'.done.length:=Paired.length z1.pd
    have hd2:Cc.length=(S (bY j)).done.length:=Paired.length z2.pd
    refine⟨fun σ' Hx=>zW H9 Hx/\σ' = [some (.ref sc),some (.ref tb),some (.int L),some (.int n),some (.ref Ro),some (.ref Ce),some (.ref Ha),some (.ref (A 0).y),some (.ref (A 1).y),a9,some (.int ((5 + i:Nat):Int)),some (.ref Yl),some (.int d),some (.int j),some (.ref Be),some (.ref Bh)],?_,?_⟩
    refine⟨_,rfl,_,rfl,Bh,_,_,_,rfl,rfl,Aa.of Y6,ak hcj,t1,_,4,_,rfl,rfl,Aa.of z1.gt,ak (j:=4) rfl,?_⟩
    refine⟨_,rfl,_,rfl,Be,_,_,_,rfl,rfl,Aa.of PZ,ak JR,t2,_,4,_,rfl,rfl,Aa.of z2.gt,ak (j:=4) rfl,D2',Cc,rfl, .inl (Aa.of z2.gd),_,rfl,D1',C3,rfl,Aa.of z1.gd,fun o7 JI=>?_⟩
    rw[show eZ C3 none (some (Cc.length:Int))=C3.take Cc.length from lV C3 Cc.length]
    have x1:=(zW.refl H9).new (o := .lst (C3.take Cc.length)) JI
    have YB:(upd H9 o7 (.lst (C3.take Cc.length))) o7=some (.lst (C3.take Cc.length)):=ac
    generalize upd H9 o7 (.lst (C3.take Cc.length))=DH at x1 YB ⊢
    refine⟨_,rfl,_,rfl,Be,_,_,_,rfl,rfl,Aa.of (x1 _ _ PZ),ak JR,t2,_,4,_,rfl,rfl,Aa.of (x1 _ _ z2.gt),ak (j:=4) rfl,?_⟩
    have pd1:Paired (Bq DH) (C3.take Cc.length) (S (bY j)).done:=by
     have h:=Paired.take Cc.length (Paired.mono (fun v m=>eR x1 v m) z1.pd)
     rw[show s'.done.take Cc.length=(S (bY j)).done by rw[he,hd2,List.take_left'];rfl]at h
     exact h
    have pd2:=Paired.mono (fun v m=>eR x1 v m) z2.pd
    refine Ru (d := .list ((S (bY j)).done.map re)) (.lst (Aa.of YB) (fT pd1 NU)) (.lst (Aa.of (x1 _ _ z2.gd)) (fT pd2 NU)) (tj NU) ⟨_,rfl,aJ ⟨x1,rfl⟩⟩
    rintro σ' DH ⟨x1,rfl⟩
    have fin:∀ (E8:Option V)(Hz:Hp),zW H9 Hz->∃ (b9 Cq PF PH PJ U7:Option V)(S:Nat->YS),zW H Hz/\B4 K c (TC ts tn b) (JJ P w ts tn b) ys 3 tb L n (rs.map V.int) (8 + (i + 1)) (20 + (i + 1)) Hz A S/\Hz Yl=some (.lst (m6 A))/\[some (.ref sc),some (.ref tb),some (.int L),some (.int n),some (.ref Ro),some (.ref Ce),some (.ref Ha),some (.ref (A 0).y),some (.ref (A 1).y),a9,some (.int ((5 + i:Nat):Int)),some (.ref Yl),some (.int d),some (.int j),some (.ref Be),E8]=[some (.ref sc),some (.ref tb),some (.int L),some (.int n),some (.ref Ro),some (.ref Ce),some (.ref Ha),some (.ref (A 0).y),some (.ref (A 1).y),b9,Cq,some (.ref Yl),PF,PH,PJ,U7]:=by
     intro E8 Hz sz
     have U8:=(U2.trans u9).trans sz
     exact⟨_,_,_,_,_,_,ia S (bY j) s',sHh.trans U8,PR.same (W b) U8,U8 _ _ U1,rfl⟩
    refine⟨_,rfl,_,_,rfl,rfl,(by exact⟨by decide,by decide⟩),_,_,rfl,rfl,(by show (0:Int) < 4;decide),_,_,rfl,rfl,_,rfl,?_⟩
    dsimp only
    by_cases hg:0 < d / 8 % 4
    ·rw[decide_eq_true hg]
     refine aN ⟨_,rfl,_,rfl,Be,_,_,_,rfl,rfl,Aa.of (x1 _ _ PZ),ak JR,t2,_,3,_,rfl,rfl,Aa.of (x1 _ _ z2.gt),ak (j:=3) rfl,zero_le _,fun o8 ho8=>?_⟩
     have x2:=(zW.refl DH).new (o := .lst []) ho8
     have YC:(upd DH o8 (.lst [])) o8=some (.lst []):=ac
     generalize upd DH o8 (.lst [])=NV at x2 YC ⊢
     have x3:=x1.trans x2
     refine neN (f:=si) (l:=bS (A (bY j)) (S (bY j))) (.lst (Aa.of (x3 _ _ z2.gm)) (i7 (Paired.mono (fun v m=>eR x3 v m) z2.pm))) (.lst (Aa.of YC) .nil) (qi _) ⟨_,rfl,?_⟩
     cases JK:(bS (A (bY j)) (S (bY j))).isEmpty with
     | true=>exact aJ (aJ (fin _ _ x3))
     | false =>
      have Cg:bS (A (bY j)) (S (bY j)) ≠ []:=fun z=>by rw[z]at JK;cases JK
      have AU:=hM hg Cg
      have ef:PyData.eqv (oh (A (bY j),s')) (oh (A (bY j),S (bY j)))=false:=N1 (by omega)
      refine aN ⟨_,rfl,_,rfl,Bh,_,_,_,rfl,rfl,Aa.of (x3 _ _ Y6),ak hcj,_,rfl,_,rfl,Be,_,_,_,rfl,rfl,Aa.of (x3 _ _ PZ),ak JR,_,_,jU (as:=(A (bY j),s')) IV (BB.same x3 _ _ D1),jU (as:=(A (bY j),S (bY j))) NU (BB.same x3 _ _ D2),hs1.shaped (by decide),D8.shaped (by decide),?_⟩
      rw[ef]
      exact⟨_,rfl,aJ (fin _ _ x3)⟩
    ·rw[decide_eq_false hg]
     exact aJ (aJ (fin _ _ x1))
theorem len_of1 {α:Type}{P:List α->Prop}(h:∀ a0,P [a0]):∀ us:List α,us.length=1->P us
 | [a0],_=>h a0
theorem len_of2 {α:Type}{P:List α->Prop}(h:∀ a0 a1,P [a0,a1]):∀ us:List α,us.length=2->P us
 | [a0,a1],_=>h a0 a1
theorem len_of3 {α:Type}{P:List α->Prop}(h:∀ a0 a1 a2,P [a0,a1,a2]):∀ us:List α,us.length=3->P us
 | [a0,a1,a2],_=>h a0 a1 a2
theorem len_of4 {α:Type}{P:List α->Prop}(h:∀ a0 a1 a2 a3,P [a0,a1,a2,a3]):∀ us:List α,us.length=4->P us
 | [a0,a1,a2,a3],_=>h a0 a1 a2 a3
theorem len_of5 {α:Type}{P:List α->Prop}(h:∀ a0 a1 a2 a3 a4,P [a0,a1,a2,a3,a4]):∀ us:List α,us.length=5->P us
 | [a0,a1,a2,a3,a4],_=>h a0 a1 a2 a3 a4
structure FT (K:Frag)(mg:Str->Option Value)(n:Str)(st:Stmt)(ps:List Str)(f:Addr)(fd:FuncData):Prop where
 F:As K n n st f fd
 m:mg n=some (.ref f)
 k:keepIn K (.ref f)=true
 b:Binds K fd ps []
structure FM (K:Frag)(C:Addr)(n q:Str)(st:Stmt)(ps:List Str)(f:Addr)(fd:FuncData):Prop where
 F:As K n q st f fd
 m:bz K C n f
 b:Binds K fd ps []
section
variable {K:Frag}{mg:Str->Option Value}{C f:Addr}{n q:Str}{st:Stmt}{ps:List Str}{h:Heap}{oc:Value}{od an:Option Addr}{DB:Array (Option Value)}{kV doc pm cdv ct:Value}
theorem mkT (X:K.In h)(G:h.Ns mainGlobals mg)(hb:∀ (kV doc pm:Value) (an:Option Addr) (cdv ct:Value) (us:List Value),us.length=ps.length->bindArgs (fnOf n n (bO st) (aG st) (ai st) .none kV doc pm an cdv ct) ⟨us,[]⟩ = pure (ps.zip us))
  (a:nsIn K mainGlobals n=some (some (.ref f))) (l:K.lookup f=some ⟨oc,od, .func (fnOf n n (bO st) (aG st) (ai st) .none kV doc pm an cdv ct),DB⟩) (c:codeIn K cdv n=true) (k:keepIn K (.ref f)=true):∃ fd,FT K mg n st ps f fd :=
 ⟨_,jO l c k,mg_of X G a,k,(jO l c k).binds hb⟩
theorem mkM (hb:∀ (kV doc pm:Value) (an:Option Addr) (cdv ct:Value) (us:List Value),us.length=ps.length->bindArgs (fnOf n q (bO st) (aG st) (ai st) .none kV doc pm an cdv ct) ⟨us,[]⟩ = pure (ps.zip us))
  (a:findIn K (.ref C) n=some (some (.ref f))) (l:K.lookup f=some ⟨oc,od, .func (fnOf n q (bO st) (aG st) (ai st) .none kV doc pm an cdv ct),DB⟩) (c:codeIn K cdv q=true) (k:keepIn K (.ref f)=true) (i:isFn K (.ref f)=true):∃ fd,FM K C n q st ps f fd :=
 ⟨_,jO l c k,⟨a,i,k⟩,(jO l c k).binds hb⟩
end
section
variable {l:PySem.W.OpenLaw}{w:World}{K:Frag}{h:Heap}{mg:Str->Option Value}{fa cL cN cT cR cE cB cD cO cM cP cG cW cZ cF cQ cA cH cJ f1 f2 f3 f4 f5 f6 f7 f8 f9 YD OP YE YF YG YH YI YJ YK YL YM YN YO YQ YR YT U9 UA YU Qa UB UC UD UE UG UH NW UI f38 UJ f40 UK YV UL YW UM UN YX YY UO YZ Je JS UP UQ UR US UT Za UU Zb UW UX UY UZ Va Vb Vc Vd Ve Vf Vg Zc Zd Ze:Addr}{t1 t2 t3 t4 t5:Tok}
theorem both {α β:Type}{P:Bool->α->β->Prop}{a1 a2:α}{b1 b2:β}(h1:P true a1 b1)(h2:P false a2 b2):∃ (f:Bool->α)(g:Bool->β),∀ b,P b (f b) (g b):=⟨fun b=>cond b a1 a2,fun b=>cond b b1 b2,fun b=>by cases b<;>assumption⟩
theorem all_mk (X:K.In h)(G:h.Ns mainGlobals mg)(DW:mg "law" = some (.ref fa))
  {Vh NX Vi NY Vj NZ:Option Addr} {Vk Vl Vm:Array (Option Value)} {Vn Oa Ob Oc Jf Od Vo Oe Og Oh Jg Oi Vp Oj Om Oo Jh Oq:Value}
  {Ot Ov:Addr} {Vq Vr:Value} {Vs Vt:Option Addr} {Vu Vv:Nat} {Vw:Tok}  {Vx Vy:Array (Option Value)}
  (gcL:nsIn K mainGlobals "Land" = some (some (.ref cL)))
  (gcN:nsIn K mainGlobals "NoPlaces" = some (some (.ref cN)))
  (gcT:nsIn K mainGlobals "TooMany" = some (some (.ref cT)))
  (gcR:nsIn K mainGlobals "NoRoad" = some (some (.ref cR)))
  (gcE:nsIn K mainGlobals "NoEntry" = some (some (.ref cE)))
  (gcB:nsIn K mainGlobals "Table" = some (some (.ref cB)))
  (gcD:nsIn K mainGlobals "Told" = some (some (.ref cD)))
  (gcO:nsIn K mainGlobals "Nearer" = some (some (.ref cO)))
  (gcM:nsIn K mainGlobals "NoRooms" = some (some (.ref cM)))
  (gcP:nsIn K mainGlobals "NoPlace" = some (some (.ref cP)))
  (gcG:nsIn K mainGlobals "NoLength" = some (some (.ref cG)))
  (gcW:nsIn K mainGlobals "NoWord" = some (some (.ref cW)))
  (gcZ:nsIn K mainGlobals "NoWay" = some (some (.ref cZ)))
  (gcF:nsIn K mainGlobals "Full" = some (some (.ref cF)))
  (gcQ:nsIn K mainGlobals "NoMove" = some (some (.ref cQ)))
  (gcA:nsIn K mainGlobals "Lane" = some (some (.ref cA)))
  (gcH:nsIn K mainGlobals "Letter" = some (some (.ref cH)))
  (gcJ:nsIn K mainGlobals "Yard" = some (some (.ref cJ)))
  (h1:∃ d,FT K mg "has" vT ["some", "number"] f1 d)
  (h2:∃ d,FT K mg "members" tL ["some"] f2 d)
  (h3:∃ d,FT K mg "set_of" yz ["numbers"] f3 d)
  (h4:∃ d,FT K mg "is_whole" gr ["value"] f4 d)
  (h5:∃ d,FT K mg "is_within" jd ["value", "least", "most"] f5 d)
  (h6:∃ d,FT K mg "is_one_of" y2 ["value", "numbers"] f6 d)
  (h7:∃ d,FT K mg "are_two_places" yw ["places", "one", "other"] f7 d)
  (h8:∃ d,FT K mg "row_fits" mK ["land", "row"] f8 d)
  (h9:∃ d,FT K mg "onward" Rz ["table", "lane", "goal"] f9 d)
  (h10:∃ d,FT K mg "rooms_of" gs ["land", "rooms"] YD d)
  (h11:∃ d,FT K mg "is_word" t7 ["word"] OP d)
  (h12:∃ d,FT K mg "is_move" mH ["move"] YE d)
  (h13:∃ d,FT K mg "how_far" yA ["land", "goal"] YF d)
  (h14:∃ d,FT K mg "nearer_lanes" Ll ["land", "far", "place"] YG d)
  (h15:∃ d,FT K mg "_law_cell_at" tU ["_law_script", "_law_k"] YH d)
  (h16:∃ d,FT K mg "_law_mixed" y3 ["_law_cell", "_law_k"] YI d)
  (h17:∃ d,FT K mg "_law_lanes" oP ["_law_places", "_law_amount", "_law_cell"] YJ d)
  (h18:∃ d,FT K mg "_law_rows" j1 ["_law_places", "_law_lanes_here", "_law_cell"] YK d)
  (h19:∃ d,FT K mg "_law_table" tQ ["_law_script"] YL d)
  (h20:∃ d,FT K mg "_law_begins" oV ["_law_table_here"] YM d)
  (h21:∃ d,FT K mg "_law_rooms" ij ["_law_table_here", "_law_cell"] YN d)
  (h22:∃ d,FT K mg "_law_posts" lw ["_law_yard", "_law_begins_here", "_law_cells"] YO d)
  (h23:∃ d,FT K mg "_law_stand" dq ["_law_yard", "_law_lanes_here", "_law_places"] YQ d)
  (h24:∃ d,FT K mg "_law_spoil" oK ["_law_yard", "_law_lanes_here", "_law_places"] YR d)
  (h25:∃ d,FT K mg "_law_done" tT ["_law_yard", "_law_draw"] YT d)
  (a26:nsIn K mainGlobals "law" = some (some (.ref U9)))
  (l26:K.lookup U9=some ⟨Vn,Vh, .func (fnOf "law" "law" (bO gA) (aG gA) (ai gA) .none Oa Ob Oc NX Jf Od),Vk⟩)
  (c26:codeIn K Jf "law" = true)
  (k26:keepIn K (.ref U9)=true)
  (h27:∃ d,FM K cL "__init__" "Land.__init__" mJ ["self", "places", "lanes"] UA d)
  (h28:∃ d,FM K cL "start_of" "Land.start_of" oJ ["self", "lane"] YU d)
  (h29:∃ d,FM K cL "end_of" "Land.end_of" yD ["self", "lane"] Qa d)
  (h30:∃ d,FM K cL "out_of" "Land.out_of" tI ["self", "place"] UB d)
  (h31:∃ d,FM K cL "into" "Land.into" mI ["self", "place"] UC d)
  (h32:∃ d,FM K cT "__init__" "TooMany.__init__" OV ["self", "many"] UD d)
  (h33:∃ d,FM K cR "__init__" "NoRoad.__init__" OW ["self", "lane"] UE d)
  (h34:∃ d,FM K cE "__init__" "NoEntry.__init__" OX ["self", "row"] UG d)
  (h35:∃ d,FM K cZ "__init__" "NoWay.__init__" vS ["self", "start", "goal"] UH d)
  (h36:∃ d,FM K cB "__init__" "Table.__init__" yy ["self", "land"] NW d)
  (h37:∃ d,FM K cD "__init__" "Told.__init__" tE ["self", "land", "rows"] UI d)
  (h38:∃ d,FM K cD "ways" "Told.ways" oH ["self", "place", "goal", "came"] f38 d)
  (h39:∃ d,FM K cO "__init__" "Nearer.__init__" tK ["self", "land"] UJ d)
  (h40:∃ d,FM K cO "ways" "Nearer.ways" t8 ["self", "place", "goal", "came"] f40 d)
  (h41:∃ d,FM K cA "__init__" "Lane.__init__" y8 ["self", "room"] UK d)
  (h42:∃ d,FM K cA "open_to" "Lane.open_to" tJ ["self", "letter", "count"] YV d)
  (h43:∃ d,FM K cA "put" "Lane.put" y1 ["self", "letter", "count", "last"] UL d)
  (h44:∃ d,FM K cA "front" "Lane.front" oR ["self"] YW d)
  (h45:∃ d,FM K cA "pull" "Lane.pull" tF ["self"] UM d)
  (h46:∃ d,FM K cA "bring" "Lane.bring" oU ["self"] UN d)
  (h47:∃ d,FM K cA "told" "Lane.told" y6 ["self"] YX d)
  (h48:∃ d,FM K cA "twin" "Lane.twin" y4 ["self"] YY d)
  (h49:∃ d,FM K cH "__init__" "Letter.__init__" tP ["self", "start", "goal", "length", "word"] UO d)
  (h50:∃ d,FM K cH "twin" "Letter.twin" tN ["self"] YZ d)
  (a51:findIn K (.ref cJ) "__init__" = some (some (.ref Je)))
  (l51:K.lookup Je=some ⟨Vo,Vi, .func (fnOf "__init__" "Yard.__init__" (bO iE) (aG iE) (ai iE) (.ref Ot) Oe Og Oh NY Jg Oi),Vl⟩)
  (d51:K.lookup Ot=some ⟨Vq,Vs, .seq #[Value.none] Vu,Vx⟩)
  (c51:codeIn K Jg "Yard.__init__" = true)
  (k51:keepIn K (.ref Je)=true)
  (i51:isFn K (.ref Je)=true)
  (a52:findIn K (.ref cJ) "post" = some (some (.ref JS)))
  (l52:K.lookup JS=some ⟨Vp,Vj, .func (fnOf "post" "Yard.post" (bO ig) (aG ig) (ai ig) (.ref Ov) Oj Om Oo NZ Jh Oq),Vm⟩)
  (d52:K.lookup Ov=some ⟨Vr,Vt, .seq #[Value.int 0 Vw] Vv,Vy⟩)
  (c52:codeIn K Jh "Yard.post" = true)
  (k52:keepIn K (.ref JS)=true)
  (i52:isFn K (.ref JS)=true)
  (h53:∃ d,FM K cJ "moves" "Yard.moves" oN ["self"] UP d)
  (h54:∃ d,FM K cJ "moves_in" "Yard.moves_in" mG ["self", "number"] UQ d)
  (h55:∃ d,FM K cJ "moves_on" "Yard.moves_on" mF ["self", "lane"] UR d)
  (h56:∃ d,FM K cJ "moves_lie" "Yard.moves_lie" oM ["self", "lane"] US d)
  (h57:∃ d,FM K cJ "moves_back" "Yard.moves_back" lu ["self", "lane"] UT d)
  (h58:∃ d,FM K cJ "wanted" "Yard.wanted" ie ["self", "lane"] Za d)
  (h59:∃ d,FM K cJ "moves_like" "Yard.moves_like" tM ["self", "move"] UU d)
  (h60:∃ d,FM K cJ "do" "Yard.do" R0 ["self", "move"] Zb d)
  (h61:∃ d,FM K cJ "go_in" "Yard.go_in" tS ["self", "number", "lane"] UW d)
  (h62:∃ d,FM K cJ "enter" "Yard.enter" oS ["self", "piece", "lane"] UX d)
  (h63:∃ d,FM K cJ "lay" "Yard.lay" y9 ["self", "piece", "place"] UY d)
  (h64:∃ d,FM K cJ "own_lane" "Yard.own_lane" tH ["self", "lane"] UZ d)
  (h65:∃ d,FM K cJ "own_letter" "Yard.own_letter" tG ["self", "number"] Va d)
  (h66:∃ d,FM K cJ "lane_told" "Yard.lane_told" oQ ["self", "lane"] Vb d)
  (h67:∃ d,FM K cJ "letter_told" "Yard.letter_told" tO ["self", "number"] Vc d)
  (h68:∃ d,FM K cJ "way_told" "Yard.way_told" tD ["self", "number"] Vd d)
  (h69:∃ d,FM K cJ "lying" "Yard.lying" oO ["self", "place"] Ve d)
  (h70:∃ d,FM K cJ "posted" "Yard.posted" ls ["self"] Vf d)
  (h71:∃ d,FM K cJ "history" "Yard.history" tR ["self"] Vg d)
  (h72:∃ d,FM K cJ "ended" "Yard.ended" gB ["self"] Zc d)
  (h73:∃ d,FM K cJ "bare_twin" "Yard.bare_twin" tV ["self"] Zd d)
  (h74:∃ d,FM K cJ "twin" "Yard.twin" oG ["self"] Ze d)
  (mp:nsIn K mainGlobals "MOST_PLACES" = some (some (.int 12 t1)))
  (ml:nsIn K mainGlobals "MOST_LANES" = some (some (.int 40 t2)))
  (mr:nsIn K mainGlobals "MOST_ROOM" = some (some (.int 60 t3)))
  (mh:nsIn K mainGlobals "MOST_LENGTH" = some (some (.int 60 t4)))
  (mk:nsIn K mainGlobals "MOST_LETTERS" = some (some (.int 60 t5)))
  (p1cL:plainGet K cL Str.empty=true)
  (p2cL:hasDictIn K cL=true)
  (p3cL:plainOver K cL=true)
  (p4cL:findIn K (.ref cL) "__setattr__" = some (some (.builtin "object.__setattr__")))
  (p5cL:makesIn K cL=true)
  (p6cL:keepIn K (.ref cL)=true)
  (ncLplaces:findIn K (.ref cL) "places" = some none)
  (ncLlanes:findIn K (.ref cL) "lanes" = some none)
  (p1cB:plainGet K cB Str.empty=true)
  (p2cB:hasDictIn K cB=true)
  (p3cB:plainOver K cB=true)
  (p4cB:findIn K (.ref cB) "__setattr__" = some (some (.builtin "object.__setattr__")))
  (p5cB:makesIn K cB=true)
  (p6cB:keepIn K (.ref cB)=true)
  (ncBland:findIn K (.ref cB) "land" = some none)
  (p1cD:plainGet K cD Str.empty=true)
  (p2cD:hasDictIn K cD=true)
  (p3cD:plainOver K cD=true)
  (p4cD:findIn K (.ref cD) "__setattr__" = some (some (.builtin "object.__setattr__")))
  (p5cD:makesIn K cD=true)
  (p6cD:keepIn K (.ref cD)=true)
  (ncDland:findIn K (.ref cD) "land" = some none)
  (ncDentries:findIn K (.ref cD) "entries" = some none)
  (p1cO:plainGet K cO Str.empty=true)
  (p2cO:hasDictIn K cO=true)
  (p3cO:plainOver K cO=true)
  (p4cO:findIn K (.ref cO) "__setattr__" = some (some (.builtin "object.__setattr__")))
  (p5cO:makesIn K cO=true)
  (p6cO:keepIn K (.ref cO)=true)
  (ncOland:findIn K (.ref cO) "land" = some none)
  (ncOentries:findIn K (.ref cO) "entries" = some none)
  (p1cA:plainGet K cA Str.empty=true)
  (p2cA:hasDictIn K cA=true)
  (p3cA:plainOver K cA=true)
  (p4cA:findIn K (.ref cA) "__setattr__" = some (some (.builtin "object.__setattr__")))
  (p5cA:makesIn K cA=true)
  (p6cA:keepIn K (.ref cA)=true)
  (ncArights:findIn K (.ref cA) "rights" = some none)
  (ncAreturning:findIn K (.ref cA) "returning" = some none)
  (ncAholder:findIn K (.ref cA) "holder" = some none)
  (ncApieces:findIn K (.ref cA) "pieces" = some none)
  (p1cH:plainGet K cH Str.empty=true)
  (p2cH:hasDictIn K cH=true)
  (p3cH:plainOver K cH=true)
  (p4cH:findIn K (.ref cH) "__setattr__" = some (some (.builtin "object.__setattr__")))
  (p5cH:makesIn K cH=true)
  (p6cH:keepIn K (.ref cH)=true)
  (ncHstart:findIn K (.ref cH) "start" = some none)
  (ncHgoal:findIn K (.ref cH) "goal" = some none)
  (ncHlength:findIn K (.ref cH) "length" = some none)
  (ncHword:findIn K (.ref cH) "word" = some none)
  (ncHgone:findIn K (.ref cH) "gone" = some none)
  (ncHway:findIn K (.ref cH) "way" = some none)
  (p1cJ:plainGet K cJ Str.empty=true)
  (p2cJ:hasDictIn K cJ=true)
  (p3cJ:plainOver K cJ=true)
  (p4cJ:findIn K (.ref cJ) "__setattr__" = some (some (.builtin "object.__setattr__")))
  (p5cJ:makesIn K cJ=true)
  (p6cJ:keepIn K (.ref cJ)=true)
  (ncJtable:findIn K (.ref cJ) "table" = some none)
  (ncJrooms:findIn K (.ref cJ) "rooms" = some none)
  (ncJlanes:findIn K (.ref cJ) "lanes" = some none)
  (ncJletters:findIn K (.ref cJ) "letters" = some none)
  (ncJlies:findIn K (.ref cJ) "lies" = some none)
  (ncJdone:findIn K (.ref cJ) "done" = some none)
  (x1cN:b8 K cN none=true)
  (x2cN:keepIn K (.ref cN)=true)
  (x1cT:b8 K cT (some (.ref UD))=true)
  (x2cT:keepIn K (.ref cT)=true)
  (x3cT:iM K cT=true)
  (x4cT:hasDictIn K cT=true)
  (x5cT:findIn K (.ref cT) "__setattr__" = some (some (.builtin "object.__setattr__")))
  (x6cT:findIn K (.ref cT) "__getattribute__" = some (some (.builtin "BaseException.__getattribute__")))
  (x7cT:findIn K (.ref cT) "__getattr__" = some none)
  (ncTmany:findIn K (.ref cT) "many" = some none)
  (x1cR:b8 K cR (some (.ref UE))=true)
  (x2cR:keepIn K (.ref cR)=true)
  (x3cR:iM K cR=true)
  (x4cR:hasDictIn K cR=true)
  (x5cR:findIn K (.ref cR) "__setattr__" = some (some (.builtin "object.__setattr__")))
  (x6cR:findIn K (.ref cR) "__getattribute__" = some (some (.builtin "BaseException.__getattribute__")))
  (x7cR:findIn K (.ref cR) "__getattr__" = some none)
  (ncRlane:findIn K (.ref cR) "lane" = some none)
  (x1cE:b8 K cE (some (.ref UG))=true)
  (x2cE:keepIn K (.ref cE)=true)
  (x3cE:iM K cE=true)
  (x4cE:hasDictIn K cE=true)
  (x5cE:findIn K (.ref cE) "__setattr__" = some (some (.builtin "object.__setattr__")))
  (x6cE:findIn K (.ref cE) "__getattribute__" = some (some (.builtin "BaseException.__getattribute__")))
  (x7cE:findIn K (.ref cE) "__getattr__" = some none)
  (ncErow:findIn K (.ref cE) "row" = some none)
  (x1cM:b8 K cM none=true)
  (x2cM:keepIn K (.ref cM)=true)
  (x1cP:b8 K cP none=true)
  (x2cP:keepIn K (.ref cP)=true)
  (x1cG:b8 K cG none=true)
  (x2cG:keepIn K (.ref cG)=true)
  (x1cW:b8 K cW none=true)
  (x2cW:keepIn K (.ref cW)=true)
  (x1cZ:b8 K cZ (some (.ref UH))=true)
  (x2cZ:keepIn K (.ref cZ)=true)
  (x3cZ:iM K cZ=true)
  (x4cZ:hasDictIn K cZ=true)
  (x5cZ:findIn K (.ref cZ) "__setattr__" = some (some (.builtin "object.__setattr__")))
  (x6cZ:findIn K (.ref cZ) "__getattribute__" = some (some (.builtin "BaseException.__getattribute__")))
  (x7cZ:findIn K (.ref cZ) "__getattr__" = some none)
  (ncZstart:findIn K (.ref cZ) "start" = some none)
  (ncZgoal:findIn K (.ref cZ) "goal" = some none)
  (x1cF:b8 K cF none=true)
  (x2cF:keepIn K (.ref cF)=true)
  (x1cQ:b8 K cQ none=true)
  (x2cQ:keepIn K (.ref cQ)=true)
  (w1cB:PySem.W.readsIn K cB (.type "type")=true)
  (w2cB:PySem.W.findCls K (.ref cB) (.type "type") "__init__" = some (.val (.ref NW)))
  (w3cB:PySem.W.specialIn K (.ref cB) "__getattribute__" = some (some (.builtin "type.__getattribute__")))
  (kk1:kitOne K (.type "int") (.type "int")=some true)
  (kk2:kitOne K (.type "int") (.type "bool")=some false)
  (kk3:kitOne K (.type "bool") (.type "int")=some true)
  (kk4:kitOne K (.type "bool") (.type "bool")=some true)
  (kk5:kitOne K (.type "NoneType") (.type "int")=some false)
  (kk6:kitOne K (.type "str") (.type "str")=some true)
  (kk7:kitOne K (.type "int") (.type "str")=some false)
  (kk8:kitOne K (.type "tuple") (.type "tuple")=some true)
  (kk9:kitOne K (.type "list") (.type "list")=some true)
  (eQ:PySem.W.exmOne K (.ref cQ) (.ref cQ)=some true)
  (z0:nsIn K mainGlobals "isinstance" = some none)
  (z1:nsIn K mainGlobals "int" = some none)
  (z2:nsIn K mainGlobals "bool" = some none)
  (z3:nsIn K mainGlobals "len" = some none)
  (z4:nsIn K mainGlobals "enumerate" = some none)
  (z5:nsIn K mainGlobals "tuple" = some none)
  (z6:nsIn K mainGlobals "range" = some none)
  (z7:nsIn K mainGlobals "list" = some none)
  (z8:nsIn K mainGlobals "all" = some none)
  (z9:nsIn K mainGlobals "abs" = some none)
  (z10:nsIn K mainGlobals "str" = some none)
  (z11:nsIn K mainGlobals "min" = some none)
  (z12:nsIn K mainGlobals "sum" = some none)
  : ∃ fd:FuncData,(∀ (s:Shared)(v:Value),BindsTo s fd ⟨[v],[]⟩ [("_law_script",v)])/\∀ base:Heap,K.In base->base.Ns mainGlobals mg->zX l.prog w K mg base aC 10 fa fd ["_law_script"] (qa K):=by
 have e:=DW.symm.trans (mg_of X G a26)
 cases e
 have T:dR mg:=⟨mg_none_of X G z0,mg_none_of X G z1,mg_none_of X G z2,mg_none_of X G z3,mg_none_of X G z4,mg_none_of X G z5,mg_none_of X G z6,mg_none_of X G z7,mg_none_of X G z8,mg_none_of X G z9,mg_none_of X G z10,mg_none_of X G z11,mg_none_of X G z12⟩
 obtain⟨d1,H1⟩:=h1
 obtain⟨d2,H2⟩:=h2
 obtain⟨d3,H3⟩:=h3
 obtain⟨d4,H4⟩:=h4
 obtain⟨d5,H5⟩:=h5
 obtain⟨d6,H6⟩:=h6
 obtain⟨d7,H7⟩:=h7
 obtain⟨d8,H8⟩:=h8
 obtain⟨d9,H9⟩:=h9
 obtain⟨d10,DH⟩:=h10
 obtain⟨d11,NV⟩:=h11
 obtain⟨d12,Qb⟩:=h12
 obtain⟨d13,Qc⟩:=h13
 obtain⟨d14,Qd⟩:=h14
 obtain⟨d15,Ji⟩:=h15
 obtain⟨d16,En⟩:=h16
 obtain⟨d17,Qe⟩:=h17
 obtain⟨d18,Qf⟩:=h18
 obtain⟨d19,Qg⟩:=h19
 obtain⟨d20,Qh⟩:=h20
 obtain⟨d21,Qi⟩:=h21
 obtain⟨d22,Qj⟩:=h22
 obtain⟨d23,Qk⟩:=h23
 obtain⟨d24,Ql⟩:=h24
 obtain⟨d25,Qm⟩:=h25
 obtain⟨d27,Qn⟩:=h27
 obtain⟨d28,Vz⟩:=h28
 obtain⟨d29,Ow⟩:=h29
 obtain⟨d30,JT⟩:=h30
 obtain⟨d31,JU⟩:=h31
 obtain⟨d32,V0⟩:=h32
 obtain⟨d33,V1⟩:=h33
 obtain⟨d34,V2⟩:=h34
 obtain⟨d35,V3⟩:=h35
 obtain⟨d36,Ox⟩:=h36
 obtain⟨d37,Qo⟩:=h37
 obtain⟨d38,V4⟩:=h38
 obtain⟨d39,Qp⟩:=h39
 obtain⟨d40,V5⟩:=h40
 obtain⟨d41,Oy⟩:=h41
 obtain⟨d42,Jj⟩:=h42
 obtain⟨d43,V6⟩:=h43
 obtain⟨d44,Jk⟩:=h44
 obtain⟨d45,V7⟩:=h45
 obtain⟨d46,V8⟩:=h46
 obtain⟨d47,V9⟩:=h47
 obtain⟨d48,VA⟩:=h48
 obtain⟨d49,Oz⟩:=h49
 obtain⟨d50,VB⟩:=h50
 obtain⟨d53,O0⟩:=h53
 obtain⟨d54,VC⟩:=h54
 obtain⟨d55,VD⟩:=h55
 obtain⟨d56,VE⟩:=h56
 obtain⟨d57,VF⟩:=h57
 obtain⟨d58,VG⟩:=h58
 obtain⟨d59,VH⟩:=h59
 obtain⟨d60,VI⟩:=h60
 obtain⟨d61,VJ⟩:=h61
 obtain⟨d62,O1⟩:=h62
 obtain⟨d63,VL⟩:=h63
 obtain⟨d64,VM⟩:=h64
 obtain⟨d65,VN⟩:=h65
 obtain⟨d66,VO⟩:=h66
 obtain⟨d67,VP⟩:=h67
 obtain⟨d68,VQ⟩:=h68
 obtain⟨d69,VR⟩:=h69
 obtain⟨d70,VS⟩:=h70
 obtain⟨d71,VT⟩:=h71
 obtain⟨d72,VU⟩:=h72
 obtain⟨d73,VW⟩:=h73
 obtain⟨d74,VX⟩:=h74
 have F26:=jO (st:=gA) l26 c26 k26
 have F51:Ed K "__init__" "Yard.__init__" iE Je _:=⟨⟨_,_,_,_,_,_,_,_,_,_,rfl,l51,c51⟩,k51⟩
 have F52:Ed K "post" "Yard.post" ig JS _:=⟨⟨_,_,_,_,_,_,_,_,_,_,rfl,l52,c52⟩,k52⟩
 have L:lY K ⟨cN,cT,cR,cL⟩:=⟨⟨p1cL,p2cL,p3cL,p4cL⟩,ncLplaces,ncLlanes⟩
 have xT:gK K cT:=⟨x3cT,x4cT,x5cT,x6cT,x7cT⟩
 have xR:gK K cR:=⟨x3cR,x4cR,x5cR,x6cR,x7cR⟩
 have xE:gK K cE:=⟨x3cE,x4cE,x5cE,x6cE,x7cE⟩
 have xZ:gK K cZ:=⟨x3cZ,x4cZ,x5cZ,x6cZ,x7cZ⟩
 have Z:vw K:=⟨kk1,kk2,kk3,kk4,kk5⟩
 have ZS:MF K:=⟨kk6,kk7,kk8⟩
 have E:Exc K mg ⟨cN,cT,cR,cL⟩ UD UE _ _:=⟨(mg_of X G gcN),x1cN,x2cN,(mg_of X G gcT),x1cT,x2cT,xT,ncTmany,V0.m.fn,V0.F,V0.b,(mg_of X G gcR),x1cR,x2cR,xR,ncRlane,V1.m.fn,V1.F,V1.b⟩
 have B:R6 K mg ⟨cB,cD,cE⟩ NW UG _ _:=⟨⟨p1cB,p2cB,p3cB,p4cB⟩,ncBland,⟨p1cD,p2cD,p3cD,p4cD⟩,ncDland,ncDentries,(mg_of X G gcB),⟨w1cB,w2cB,w3cB,Ox.m.kp⟩,Ox.b,(mg_of X G gcE),x1cE,x2cE,xE,ncErow,V2.m.fn,V2.F,V2.b⟩
 have BN:Ta K mg ⟨cB,cO⟩ NW _:=⟨⟨p1cO,p2cO,p3cO,p4cO⟩,ncOland,ncOentries,(mg_of X G gcB),⟨w1cB,w2cB,w3cB,Ox.m.kp⟩,Ox.b⟩
 have M:Lx K ⟨cN,cT,cR,cL⟩ UB UC _ _:=⟨JT.m,JU.m,JT.b,JU.b⟩
 have ME:xy K ⟨cN,cT,cR,cL⟩ Qa _:=⟨Ow.m,Ow.b⟩
 have Y:∀ ex:List Addr,gj K ⟨cJ,cA,cH,ex⟩:=fun _=>⟨⟨p1cJ,p2cJ,p3cJ,p4cJ⟩,ncJtable,ncJrooms,ncJlanes,ncJletters,ncJlies,ncJdone,⟨p1cH,p2cH,p3cH,p4cH⟩,ncHstart,ncHgoal,ncHlength,ncHword,ncHgone,ncHway,⟨⟨p1cA,p2cA,p3cA,p4cA⟩,ncArights,ncAreturning,ncAholder,ncApieces⟩⟩
 have eX:vE K mg "NoRooms" cM:=⟨(mg_of X G gcM),x1cM,x2cM⟩
 have X1:vE K mg "NoPlace" cP:=⟨(mg_of X G gcP),x1cP,x2cP⟩
 have X2:vE K mg "NoLength" cG:=⟨(mg_of X G gcG),x1cG,x2cG⟩
 have X3:vE K mg "NoWord" cW:=⟨(mg_of X G gcW),x1cW,x2cW⟩
 have X5:vE K mg "Full" cF:=⟨(mg_of X G gcF),x1cF,x2cF⟩
 have X4:WX K mg cZ UH _:=⟨(mg_of X G gcZ),x1cZ,x2cZ,xZ,ncZstart,ncZgoal,V3.m.fn,V3.F,V3.b⟩
 have XM:L6 K mg cQ:=⟨(mg_of X G gcQ),x1cQ,x2cQ,eQ⟩
 have IQ:=pF (kV:=Oe) (doc:=Og) (pm:=Oh) (cdv:=Jg) (ct:=Oi) (an:=NY) d51 rfl
 have bp0:=nR (kV:=Oj) (doc:=Om) (pm:=Oo) (cdv:=Jh) (ct:=Oq) (an:=NZ) d52 rfl
 have Mi:Mk K cL UA:=⟨p5cL,Qn.m.at_,Qn.m.fn,p6cL⟩
 have Mt:Mk K cD UI:=⟨p5cD,Qo.m.at_,Qo.m.fn,p6cD⟩
 have Mn:Mk K cO UJ:=⟨p5cO,Qp.m.at_,Qp.m.fn,p6cO⟩
 have My:Mk K cJ Je:=⟨p5cJ,a51,i51,p6cJ⟩
 have Ma:Mk K cA UK:=⟨p5cA,Oy.m.at_,Oy.m.fn,p6cA⟩
 have Mh:Mk K cH UO:=⟨p5cH,Oz.m.at_,Oz.m.fn,p6cH⟩
 have Ml:Lm K ⟨cN,cT,cR,cL⟩ YU Qa UB UC _ _ _ _:=⟨Vz.m,Vz.b,Ow.m,Ow.b,JT.m,JT.b,JU.m,JU.b⟩
 refine⟨fnOf "law" "law" (bO gA) (aG gA) (ai gA) .none Oa Ob Oc NX Jf Od,fun s v => .of_eq rfl,fun base _ _=>?_⟩
 have Gm:zX l.prog w K mg base aC 2 f2 _ _ _:=yZ H2.F T H1.m H1.F H1.b
 obtain⟨fw,dw,WG⟩:=both (P:=fun b f d=>Wy K (TC ⟨cB,cD,cE⟩ ⟨cB,cO⟩ b) f d (JJ l.prog w ⟨cB,cD,cE⟩ ⟨cB,cO⟩ b)/\zX l.prog w K mg base aC 3 f d ["self", "place", "goal", "came"] (eK (JJ l.prog w ⟨cB,cD,cE⟩ ⟨cB,cO⟩ b)))
  ⟨⟨⟨p1cO,p2cO,p3cO,p4cO⟩,ncOland,V5.m,V5.b,fun H H' x n wy h k=>JD.keep (n:=n) (wy:=wy) h k⟩,uq V5.F BN H2.m H2.k H2.b Gm⟩ ⟨⟨⟨p1cD,p2cD,p3cD,p4cD⟩,ncDland,V4.m,V4.b,fun H H' x n wy h k=>C9.keep (n:=n) (wy:=wy) h k⟩,ow (ur V4.F B H2.m H2.k H2.b Gm)⟩
 have Wb:=fun b=>(WG b).1
 have Gb:=fun b=>(WG b).2
 have Gw:zX l.prog w K mg base aC 2 f5 _ _ _:=r6 H5.F T H4.m H4.F H4.b
 have VY:zX l.prog w K mg base aC 2 f5 _ _ _:=oZ H5.F T Z H4.m H4.F H4.b
 have GW:zX l.prog w K mg base aC 1 f4 _ _ _:=kC H4.F T Z
 have G2:zX l.prog w K mg base aC 3 f7 _ _ _:=yS H7.F H5.m H5.k H5.b Gw
 have Gi:zX l.prog w K mg base (eE l.prog w) 4 UA _ _ _:=wI Qn.F T L E H5.m H5.k H5.b Gw H7.m H7.k H7.b G2 (mg_of X G mp) (mg_of X G ml)
 have Go:zX l.prog w K mg base aC 2 f6 _ _ _:=yW H6.F T H4.m H4.F H4.b
 have Gf:zX l.prog w K mg base aC 4 f8 _ _ _:=wL H8.F T L M H7.m H7.k H7.b G2 H6.m H6.k H6.b Go (ux JT.F T L) (qv JU.F T L)
 have G1:zX l.prog w K mg base aC 1 NW _ _ _:=yT Ox.F
 have Zf:zX l.prog w K mg base aC 1 f3 _ _ _:=yU H3.F
 have Gt:zX l.prog w K mg base (eE l.prog w) 5 UI _ _ _:=wr Qo.F T B G1 H8.m H8.k H8.b Gf H3.m H3.k H3.b Zf
 have Ge:zX l.prog w K mg base aC 1 Qa _ _ _:=zj Ow.F L
 have Gh:zX l.prog w K mg base aC 2 YF _ _ _:=zh Qc.F T L Ml (ut Vz.F L) (qv JU.F T L)
 have Gnl:zX l.prog w K mg base aC 2 YG _ _ _:=MS Qd.F T L Ml Ge (ux JT.F T L)
 have Gn:zX l.prog w K mg base aC 3 UJ _ _ _:=wB Qp.F T L BN G1 Qc.m Qc.k Qc.b Gh Qd.m Qd.k Qd.b Gnl H3.m H3.k H3.b Zf
 have Uk:zX l.prog w K mg base (eE l.prog w) 3 YD _ _ _:=uw DH.F T L eX H5.m H5.k H5.b VY (mg_of X G mr)
 have RS:zX l.prog w K mg base aC 2 OP _ _ _:=wo NV.F T H4.m H4.k H4.b GW
 have Zg:zX l.prog w K mg base aC 1 UK _ _ _:=ze Oy.F (Y []).L
 have Glt:zX l.prog w K mg base aC 1 YX _ _ _:=zd V9.F T (Y []).L
 have VZ:zX l.prog w K mg base aC 1 YV _ _ _:=wA Jj.F (Y []).L
 have Wc:zX l.prog w K mg base aC 1 YW _ _ _:=uC Jk.F (Y []).L
 have Gpu:zX l.prog w K mg base (eE l.prog w) 2 UL _ _ _:=yV V6.F (Y []).L XM Jj.m Jj.b VZ
 have Gpl:zX l.prog w K mg base (eE l.prog w) 1 UM _ _ _:=wu V7.F (Y []).L XM
 have Gbr:zX l.prog w K mg base (eE l.prog w) 1 UN _ _ _:=uF V8.F (Y []).L XM
 have Gtw:zX l.prog w K mg base aC 3 YY _ _ _:=zc VA.F T (Y []).L (mg_of X G gcA) Ma Oy.b Zg
 have Zh:zX l.prog w K mg base aC 1 UO _ _ _:=zb Oz.F (Y [])
 have Gtx:zX l.prog w K mg base aC 3 YZ _ _ _:=za VB.F T (Y []) (mg_of X G gcH) Mh Oz.b Zh
 have Gy:∀ (b:Bool)(ex:List Addr),zX l.prog w K mg base (eE l.prog w) 4 Je _ _ _:=fun b ex=>yR F51 T L (Y ex) (Wb b) DH.m DH.k DH.b Uk (mg_of X G gcA) Ma Oy.b Zg
 have Gp:∀ (b:Bool)(ex:List Addr),zX l.prog w K mg base (eE l.prog w) 4 JS _ _ (oA K ⟨cN,cT,cR,cL⟩ (TC ⟨cB,cD,cE⟩ ⟨cB,cO⟩ b) (JJ l.prog w ⟨cB,cD,cE⟩ ⟨cB,cO⟩ b) ⟨cJ,cA,cH,ex⟩ ⟨cP,cG,cW,cZ,cF⟩):=fun b ex=>wx F52 T L (Y ex) (Wb b) (Gb b) H5.m H5.k H5.b VY NV.m NV.k NV.b RS (mg_of X G gcH) Mh Oz.b Zh (mg_of X G mh) (mg_of X G mk) X1 X2 X3 X4 X5
 have Gol:∀ ex:List Addr,zX l.prog w K mg base aC 4 UZ _ _ _:=fun ex=>w8 VM.F (Y ex) VA.m VA.b Gtw
 have Got:∀ ex:List Addr,zX l.prog w K mg base aC 4 Va _ _ _:=fun ex=>wz VN.F (Y ex) VB.m VB.b Gtx
 have O:∀ ex:List Addr,Own l.prog w K mg base ⟨cJ,cA,cH,ex⟩ cQ UZ Va UL _ _ _:=fun ex=>⟨VM.m,VM.b,Gol ex,VN.m,VN.b,Got ex,V6.m,V6.b,Gpu⟩
 have Gly:∀ ex:List Addr,zX l.prog w K mg base aC 1 UY _ _ _:=fun ex=>zf VL.F (Y ex)
 have Glg:∀ ex:List Addr,zX l.prog w K mg base aC 1 Ve _ _ _:=fun ex=>u0 VR.F T (Y ex)
 have Gen:∀ ex:List Addr,zX l.prog w K mg base aC 5 UX _ _ _:=fun ex=>uD O1.F (Y ex) (O ex)
 have Ggi:∀ ex:List Addr,zX l.prog w K mg base aC 6 UW _ _ _:=fun ex=>wK VJ.F (Y ex) (O ex) O1.m O1.b (Gen ex)
 have Gon:∀ b:Bool,zX l.prog w K mg base aC 4 f9 _ _ _:=fun b=>yX H9.F L (Wb b) (Gb b) ME Ge
 have Gmi:∀ (b:Bool)(ex:List Addr),zX l.prog w K mg base aC 4 UQ _ _ (oC K ⟨cN,cT,cR,cL⟩ (TC ⟨cB,cD,cE⟩ ⟨cB,cO⟩ b) (JJ l.prog w ⟨cB,cD,cE⟩ ⟨cB,cO⟩ b) ⟨cJ,cA,cH,ex⟩):=fun b ex=>wD VC.F (Y ex) (Wb b) (Gb b) Jj.m Jj.b VZ
 have Gwa:∀ (b:Bool)(ex:List Addr),zX l.prog w K mg base aC 5 Za _ _ (jv K ⟨cN,cT,cR,cL⟩ (TC ⟨cB,cD,cE⟩ ⟨cB,cO⟩ b) (JJ l.prog w ⟨cB,cD,cE⟩ ⟨cB,cO⟩ b) ⟨cJ,cA,cH,ex⟩):=fun b ex=>r8 VG.F (Y ex) (Wb b) Jk.m Jk.b Wc H9.m H9.k H9.b (Gon b)
 have Gmo:∀ (b:Bool)(ex:List Addr),zX l.prog w K mg base aC 6 UR _ _ (oB K ⟨cN,cT,cR,cL⟩ (TC ⟨cB,cD,cE⟩ ⟨cB,cO⟩ b) (JJ l.prog w ⟨cB,cD,cE⟩ ⟨cB,cO⟩ b) ⟨cJ,cA,cH,ex⟩):=fun b ex=>wC VD.F (Y ex) (Wb b) Jk.m Jk.b Wc VG.m VG.b (Gwa b ex) Jj.m Jj.b VZ
 have Gml:∀ (b:Bool)(ex:List Addr),zX l.prog w K mg base aC 2 US _ _ _:=fun b ex=>uy VE.F (Y ex) L (Wb b) Jk.m Jk.b Wc ME Ge
 have Gmb:∀ (b:Bool)(ex:List Addr),zX l.prog w K mg base aC 1 UT _ _ (jw K ⟨cN,cT,cR,cL⟩ (TC ⟨cB,cD,cE⟩ ⟨cB,cO⟩ b) (JJ l.prog w ⟨cB,cD,cE⟩ ⟨cB,cO⟩ b) ⟨cJ,cA,cH,ex⟩):=fun b ex=>rA VF.F (Y ex)
 have MM:∀ (b:Bool)(ex:List Addr),Sy l.prog w K mg base ⟨cN,cT,cR,cL⟩ (TC ⟨cB,cD,cE⟩ ⟨cB,cO⟩ b) (JJ l.prog w ⟨cB,cD,cE⟩ ⟨cB,cO⟩ b) ⟨cJ,cA,cH,ex⟩ UQ UR US UT _ _ _ _:=fun b ex=>⟨VC.m,VC.b,Gmi b ex,VD.m,VD.b,Gmo b ex,VE.m,VE.b,Gml b ex,VF.m,VF.b,Gmb b ex⟩
 have Zi:∀ (b:Bool)(ex:List Addr),zX l.prog w K mg base aC 7 UP _ _ _:=fun b ex=>uz O0.F T (Y ex) (Wb b) (MM b ex)
 have Gim:zX l.prog w K mg base aC 2 YE _ _ _:=wH Qb.F T ZS H4.m H4.k H4.b GW
 have Glk:∀ (b:Bool)(ex:List Addr),zX l.prog w K mg base aC 7 UU _ _ _:=fun b ex=>wF VH.F T (Y ex) (Wb b) (MM b ex) Qb.m Qb.k Qb.b Gim H5.m H5.k H5.b VY
 have DM:∀ (b:Bool)(ex:List Addr),Xv l.prog w K mg base ⟨cN,cT,cR,cL⟩ (TC ⟨cB,cD,cE⟩ ⟨cB,cO⟩ b) (JJ l.prog w ⟨cB,cD,cE⟩ ⟨cB,cO⟩ b) ⟨cJ,cA,cH,ex⟩ cQ UU UW UX UM UN UY _ _ _ _ _ _:=fun b ex=>⟨VH.m,VH.b,Glk b ex,VJ.m,VJ.b,Ggi ex,O1.m,O1.b,Gen ex,V7.m,V7.b,Gpl,V8.m,V8.b,Gbr,VL.m,VL.b,Gly ex⟩
 have Gdo:∀ (b:Bool)(ex:List Addr),zX l.prog w K mg base (eE l.prog w) 8 Zb _ _ _:=fun b ex=>MH VI.F (Y ex) L (Wb b) XM (O ex) (DM b ex) ME Ge
 have Wd:∀ ex:List Addr,zX l.prog w K mg base aC 2 Vb _ _ _:=fun ex=>uB VO.F (Y ex) V9.m V9.b Glt
 have Wg:∀ ex:List Addr,zX l.prog w K mg base aC 1 Vc _ _ _:=fun ex=>wG VP.F (Y ex)
 have Gwt:∀ ex:List Addr,zX l.prog w K mg base aC 1 Vd _ _ _:=fun ex=>wq VQ.F T (Y ex)
 have Gpd:∀ ex:List Addr,zX l.prog w K mg base aC 1 Vf _ _ _:=fun ex=>r9 VS.F T (Y ex)
 have Ghi:∀ ex:List Addr,zX l.prog w K mg base aC 1 Vg _ _ _:=fun ex=>wJ VT.F T (Y ex)
 have Gc:zX l.prog w K mg base aC 1 YH _ _ _:=wM Ji.F T
 have Qq:zX l.prog w K mg base aC 1 YI _ _ _:=yY En.F
 have Gln:zX l.prog w K mg base aC 2 YJ _ _ _:=uA Qe.F T En.m En.k En.b Qq
 have Cr:zX l.prog w K mg base aC 2 YK _ _ _:=wt Qf.F T En.m En.k En.b Qq
 have Gtb:zX l.prog w K mg base aC 7 YL _ _ _:=wE Qg.F ⟨Ji.m,Ji.k,Ji.b,Gc,Qe.m,Qe.k,Qe.b,Gln,(mg_of X G gcL),Mi,Qn.b,Gi,(mg_of X G gcO),Mn,Qp.b,Gn,(mg_of X G gcD),Mt,Qo.b,Gt,Qf.m,Qf.k,Qf.b,Cr⟩
 have Gbe:∀ b:Bool,zX l.prog w K mg base aC 4 YM _ _ _:=fun b=>uG Qh.F T L (Wb b) (Gb b)
 have Glr:∀ b:Bool,zX l.prog w K mg base aC 2 YN _ _ _:=fun b=>rB Qi.F T L (Wb b) En.m En.k En.b Qq
 have Glp:∀ (b:Bool)(ex:List Addr),zX l.prog w K mg base aC 5 YO _ _ _:=fun b ex=>ww Qj.F T (Y ex) (Wb b) ⟨a52,i52,k52⟩ bp0 (Gp b ex)
 have Ged:∀ ex:List Addr,zX l.prog w K mg base aC 1 Zc _ _ _:=fun ex=>uE VU.F T (Y ex)
 have SM:∀ (b:Bool)(ex:List Addr),Uc l.prog w K mg base ⟨cN,cT,cR,cL⟩ (TC ⟨cB,cD,cE⟩ ⟨cB,cO⟩ b) (JJ l.prog w ⟨cB,cD,cE⟩ ⟨cB,cO⟩ b) ⟨cJ,cA,cH,ex⟩ Vb Vd Vf Ve Vc UP Vg _ _ _ _ _ _ _:=fun b ex=>⟨VO.m,VO.b,Wd ex,VQ.m,VQ.b,Gwt ex,VS.m,VS.b,Gpd ex,VR.m,VR.b,Glg ex,VP.m,VP.b,Wg ex,O0.m,O0.b,Zi b ex,VT.m,VT.b,Ghi ex⟩
 have Gsd:∀ (b:Bool)(ex:List Addr),zX l.prog w K mg base aC 8 YQ _ _ _:=fun b ex=>uu Qk.F T (Y ex) (Wb b) (SM b ex) VU.m VU.b (Ged ex)
 have Gso:∀ (b:Bool)(ex:List Addr),zX l.prog w K mg base aC 8 YR _ _ _:=fun b ex=>uv Ql.F T (Y ex) (Wb b) (SM b ex)
 have Gld:∀ (b:Bool)(ex:List Addr),zX l.prog w K mg base aC 9 YT _ _ _:=fun b ex=>u7 Qm.F T (Y ex) (Wb b) O0.m O0.b (Zi b ex) VI.m VI.b (Gdo b ex)
 have Gbt:∀ (b:Bool)(ex:List Addr),zX l.prog w K mg base aC 6 Zd _ _ _:=fun b ex=>wN VW.F T (Y ex) (Wb b) (mg_of X G gcJ) My IQ (Gy b [])
 have Gyt:∀ (b:Bool)(ex:List Addr),zX l.prog w K mg base aC 7 Ze _ _ _:=fun b ex=>uo VX.F T (Y ex) (Wb b) VW.m VW.b (Gbt b ex)
 exact zg (c:=⟨cN,cT,cR,cL⟩) (ts:=⟨cB,cD,cE⟩) (tn:=⟨cB,cO⟩) (ys:=⟨cJ,cA,cH,[]⟩) (nr:=cM) F26 T L (Y []) Wb ⟨Ji.m,Ji.k,Ji.b,Gc,En.m,En.k,En.b,Qq,Qg.m,Qg.k,Qg.b,Gtb,Qi.m,Qi.k,Qi.b,Glr,(mg_of X G gcJ),My,IQ,Gy,Qh.m,Qh.k,Qh.b,Gbe,Qj.m,Qj.k,Qj.b,Glp,Qk.m,Qk.k,Qk.b,Gsd,Ql.m,Ql.k,Ql.b,Gso,Qm.m,Qm.k,Qm.b,Gld,VX.m,VX.b,Gyt⟩
end
theorem walk {l:PySem.W.OpenLaw}{q:Program}{loose:List Str}{XP:(Str->Option Value)->Heap->Prop}{YP:World->Heap->Prop}{d:DefRec}{K:Params->Frag}(hn:l.most=some 63)(K5:d.params.defaults=[])
  (hY:∀ (w:World)(h:Heap),YP w h->(K w.params).In h)
  (F:∀ (w:World)(mg:Str->Option Value)(fa:Addr)(h:Heap),(K w.params).In h->h.Ns mainGlobals mg->mg d.name=some (.ref fa) ->
   ∃ fd:FuncData,(∀ (s:Shared)(u:Value),BindsTo s fd ⟨[u],[]⟩ [("_law_script",u)])/\∀ base:Heap,(K w.params).In base->base.Ns mainGlobals mg->zX l.prog w (K w.params) mg base aC 10 fa fd ["_law_script"] (qa (K w.params))) :
  PySem.W.WalkO q loose XP YP l.row.toRowW d [] (fun f vs=>PySem.call f vs) :=
 L2.F2 (n:=63) (k:=10) (x := "_law_script") (CX:=fun _=>aC) (sp:=fun w=>qa (K w.params)) hn (by decide) K5 ⟨rfl,by decide,by decide⟩ hY F (fun _ _ a ns hl _ hS=>⟨a,ns,rfl,hS,hl,fun _=>rfl⟩) fun _ _ _ _ _ z=>z
end K50
local macro_rules | `(tactic| symm_saturate) => `(tactic| first | (refine' K50.mkT (by assumption) (by assumption) ?b ?a ?l ?c ?k; (case b => first | exact fun _ _ _ _ _ _ => K50.len_of1 (fun _ => rfl) | exact fun _ _ _ _ _ _ => K50.len_of2 (fun _ _ => rfl) | exact fun _ _ _ _ _ _ => K50.len_of3 (fun _ _ _ => rfl) | exact fun _ _ _ _ _ _ => K50.len_of4 (fun _ _ _ _ => rfl) | exact fun _ _ _ _ _ _ => K50.len_of5 (fun _ _ _ _ _ => rfl)); (case a => k_is); (case l => k_is); (case c => k_is); (case k => k_is)) | (refine' K50.mkM ?b ?a ?l ?c ?k ?i; (case b => first | exact fun _ _ _ _ _ _ => K50.len_of1 (fun _ => rfl) | exact fun _ _ _ _ _ _ => K50.len_of2 (fun _ _ => rfl) | exact fun _ _ _ _ _ _ => K50.len_of3 (fun _ _ _ => rfl) | exact fun _ _ _ _ _ _ => K50.len_of4 (fun _ _ _ _ => rfl) | exact fun _ _ _ _ _ _ => K50.len_of5 (fun _ _ _ _ _ => rfl)); (case a => k_is); (case l => k_is); (case c => k_is); (case k => k_is); (case i => k_is)))
structure PySem.W.Fast:Prop where
 (tw2597697704737003186 tw16215908243214028759 tw5284370471806111125 tw12058468210791006501 tw6241370996862710356 tw13891729879075660632 tw10664139982103902217 tw11345582877876244745 tw7225215665980551897 tw10765453310657318362 tw7513687059838962389 tw4639401034880272944 tw11896578981215684117 tw13534361569430941467 tw6369177889422835783 tw942134227905683198 tw12371918451729131747 tw14478430048722518005 tw7156123673481696763 tw11823260176771557889 tw821665057952462439 tw4440798307652266746 tw8085394759173261820 tw9235788663920130128 tw6661218871660658036 tw5899531727764919286 tw5092875859305537687 tw8354271385567543268 tw16517423768814186449 tw4323266403414938157 tw9646580775330952048 tw11550053891343914815 tw2721484352253954746 tw15524842482141848049 tw17589316972410868511 tw17622721094475505220 tw9536034249754896109 tw11200872138978866535 tw3716718061373730382 tw2268942481060707112 tw7072817082386058937 tw2552978851023019804 tw17825151128368787725 tw3263244828652904414 tw56078566844487406 tw2010518369095572642 tw8508838512378408046 tw14781245591909886107 tw17314733796593884294 tw16409596541531748878 tw9100895200887056591 tw14285978579866533068 tw7336444962820874860 tw18398675080575494926 tw1478070527995712238 tw11290063462218980917 tw2534382351814222506 tw17399798329578813722 tw15350028289740666544 tw15222491769316188103 tw11830450554095457843 tw3874191098441619311 tw11027848743502758705 tw14787019456147585687 tw1453504216820578151 tw6478369543350459027 tw4410992724523448038 tw7480056848158902990 tw2979818683235501158 tw17249063255441567913 tw10332373200794910643 tw1017002827285483559 tw6908688634923956898 tw16238853457339238556 tw13530260750984299985 tw13481506796102319126 tw8468843391385516185 tw1454562457302846049 tw16145188254750046005 tw5571698369908507030 tw14853111420946167687 tw9937659306562171170 tw17088839932419507014 tw3956520158034127673 tw3838886151621906611 tw13032341644925411778 tw6141376863982395595 tw3412601002647830254 tw5537287421592748527 tw16147292050574258557 tw6283209308893120154 tw12413721020948225827 tw11257913508875461133 tw13486801672300451829 tw18194688613020754109 tw5425600141609103882 tw2151457945517142655 tw123430347282256768 tw13659823120181386665 tw13940573958604495289 tw10771920759439705972 tw6701634933316820895 tw12261154083388806931 tw13742581909348916537 tw1228758559335889169 tw625559435215529147 tw14320309259481844282 tw12292599930464108548 tw12134751166197955439 tw16849244071509848672 tw15805679991167070646 tw17239012260865052443 tw17926487637118254156 tw9564561371709440540 tw3104507262655599593 tw17832501465534124944 tw15366916473592838440 tw903215438918589149 tw6957038025146089591 tw515856748031911226 tw11256023862045653205 tw7787184788596258431 tw4174537930983945717 tw11705228030048191684 tw17161425437312238434 tw8493070297395400163 tw16966868109460481393 tw17419011829940252456 tw5665300638312080908 tw12826378823866070361 tw14181552917658047391 tw11104630005164404201 tw8261165328146130071 tw12842229966912934478 tw10714739941782347123 tw11409734436409419056 tw2819428840248830738 tw16783397705513068046 tw16804702789182147168 tw3055227731776986752 tw13013399377330476093 tw2124482508788200048 tw402144232517459899 tw12078046108665390292 tw13531416553038264248 tw5318466691668545542 tw10502139979658115361 tw1080875902341007695 tw16259954534204803618 tw3916188765870886247 tw10326854662265041385 tw15794224268037881623 tw17680049015944253705 tw5963134266725136491 tw15130771271083372239 tw13088382158651425326 tw17397315552018886040 tw15943680213710078342 tw10979291867777310690 tw2365877330399414379 tw787600721548164551 tw10661000133630334059 tw8508347490902441199 tw15363718041657927011 tw7625486732905861960 tw9402983264756949200 tw16242180599410950424 tw8114541663830009790 tw16084348440060523977 tw13644755806367162918 tw10641728320875391920 tw6943711487503024486 tw13738811036587184185 tw14270569462754300769 tw2840302261271390398 tw13122997016657914978 tw10156386373620364020 tw11809623760653521614 tw10839701959356851593 tw14318333408369274995 tw8468820421821533571 tw18088818194612922652 tw9330969131388607351 tw9439720630555710778 tw17467162202371293175 tw2967184603274363782 tw11756446357057497888 tw573544963850029870 tw12685649377152213056 tw4237433905293635063 tw109050249310749536 tw14539914925076426969 tw6888909550668509274 tw1107103117700644948 tw1791478940297029070 tw8102711636361059487 tw15230381800174821075 tw5045671257953763770 tw15431578761278761338 tw3694668747655058532 tw11908826336790857454 tw1364057486053661574 tw372732386276503112 tw14665405207151908885 tw17360277706311417104 tw12205616602477049561 tw18143220943655687229 tw3749397044284877117 tw5880179694704760791 tw10227475584022331879 tw9022168497059272447 tw445567740984339813 tw9786458118134993709 tw6348415109172095479 tw7089207621280101563 tw8194059386499819245 tw9836288873923150943 tw9298141166260661422 tw10225244254318177444 tw18172197066830890151 tw17994897394117348969 tw2980298670253332900 tw6683760670191690990 tw4966969689825765032 tw13286971169757229870 tw6378045268646921209 tw4266268029381251599 tw9217101597410470406 tw12860040717927545650 tw9052717937288676281 tw6187565174158904070 tw18146597238782442428 tw5929471306507040548 tw15477952195645267515 tw13234104357399371733 tw16357836932393870449 tw14437345726038886975 tw553137584766146291 tw7699306769530970503 tw8811083442646430805 tw7785693191988285066 tw17487446748855933867 tw8985358033558088662 tw6158958278781516625 tw9592694517470264401 tw14755527150719822208 tw17516279241698481622 tw8786743808672047971 tw3590501897477972257 tw17928141195969348814 tw13808442691063911473 tw9891461305527728994 tw3060171480860077934 tw8331214621513611907 tw17350227162051451337 tw15752649723097627843 tw17105458082403902925 tw18287962689423238864 tw9896614606945328865 tw3623769810237961511 tw5183280461623139235 tw13068866004369042817 tw18054031535131862861 tw7392735593725542688 tw11922922582660939492 tw10190768077466091477 tw5476281009662914890 tw6116597170665712874 tw4799028086791080644 tw3091167740890709599 tw14466809902289129324 tw4241450733998222465 tw1991719004902290913 tw1839378526448298558 tw15219370883148314703 tw11534499207400076522 tw10037717437926242921 tw16225054675762845503 tw8204399068916181612 tw17617929266263460766 tw12336888037490002103 tw3062486010711739899 tw9579005591917332965 tw12439206975331365333 tw15725315095016079309 tw16253612081596785874 tw9530660610967698940 tw16668730494554449376 tw5494901981393265977 tw12408768386853125856 tw1394533522237167722 tw2508879756183101245 tw5214367051752412356 tw16384650646237025384 tw16317934611712720373 tw14144039452917476252 tw15322587051350350079 tw11587783027779751686 tw477824396133245024 tw17477737132610018249 tw3263526265912858277 tw10670845527974899219 tw15312786313880722793 tw5982969227001279468 tw10429218374580273590 tw4487572827273100174 tw1177364800794170203 tw7723089722815788952 tw16075083318691083258 tw17420182409117183597 tw12774367888052873402 tw2836113450916222898 tw18114745280882619737 tw14753918867487778587 tw8322017551730858767 tw6874546042804574665 tw7122643444980780950 tw2470554977054217185 tw12047532627720987090 tw3144363804475480683 tw7490237960678673425 tw9907800187147738370 tw3132806225476639723 tw14261317368306497971 tw14197406724459486229 tw6831360827392754109 tw5611424607416808720 tw14443209817099476083 tw10941858473421462625 tw18298505124806122491 tw1215148996323540685 tw18136174433138570879 tw6808818743806970986 tw16206650344104793081 tw7676603357130140830 tw5796839571264080183 tw10775397224369500876 tw4513093361939877525 tw17948937081416279924 tw1251762437016107593 tw1081146085801389679 tw12495701128670168706 tw1159400353635142141 tw15612030854848592715 tw4143538092011472628 tw12020693115653670655 tw9090116154024360861 tw4250125603117718662 tw3815363819346929515 tw3297768892296833212 tw12299792964241267511 tw10350898139626699706 tw17381356173660322803 tw9008921159054979539 tw8607391860912490878 tw5081404358425336299 tw15420270144165403817 tw13747522458390333006 tw9790330601929331744 tw14586156556718440146 tw5098391315439807600 tw2603141583745111252 tw15806954475254746048 tw6516364716052955789 tw5399087939467088879 tw10500603927093843133 tw1588443291648524917 tw13590541078959067732 tw9873191003943056579 tw13790997213093191119 tw13459909517926825185 tw8543917127126234554 tw10889490731006852609 tw11899298857687669557 tw16660033921949367635 tw10376536806708025153 tw8705169004408239505 tw9186567439837503433 tw4432237020804443339 tw15636995312783087770 tw14856455429221875380 tw4890081400340314484 tw17266419013934234496 tw16166797567662283851 tw11307633945182394703 tw5136724568175262711 tw4114098282784428408 tw2532159333298714507 tw3099644896699328898 tw3060257719948430588 tw18386387089048137231 tw13634724041623142164 tw9267437325085566440 tw6014567802121440864 tw2836353319272607674 tw2741645984249500667 tw16092194439767625624 tw13809448609791488027 tw6920076046333742981 tw8978235211046586717 tw16647403739814662377 tw9230361175602188843 tw510752256045909019 tw12942527182932268587 tw9458325921920149589 tw8820581127895177585 tw8788048747418430175 tw11989108564261659815 tw5200121623295001321 tw17242480608440349994 tw5027217768663041218 tw11794912721774396087 tw11635844306377931419 tw14034969741541324231 tw12567745708522638161 tw13647100165496206772 tw14463154759770943373 tw12155777267708573185 tw10644574750149238795 tw4180326887007669742 tw14830147551397328881 tw13082480598419800676 tw1297928030991859118 tw12520898156371883143 tw16547793456663044129 tw11244678824480985334 tw3042094200534540212 tw13496879276719307142 tw9601963557266864654 tw6098493421916073821 tw16719264189008388443 tw16273993542287104300 tw13325268939678219859 tw12881333930410044273 tw12764324522716243417 tw7071489838090597697 tw7203774340832908448 tw3801682965955081871 tw15015891200491446836 tw12895097037021825475 tw1078518651567391895 tw8586839587893648922 tw15732703414911809224 tw5017269309591821062 tw1384071971230332840 tw7386057679008705420 tw14668466939171120999 tw6197028391011827870 tw1846635386476697954 tw14810645478003037999 tw16434375543804543532 tw13461536595634345819 tw8526735150547817163 tw7468835370453458120 tw4099471215216627507 tw3345413712283362679 tw12588686467761774625 tw3771106827786692356 tw3399528683005493859 tw11596987866792824462 tw485789175580955557 tw15806760773785530802 tw1228084009718327546 tw10698226375588897983 tw7291802365441398233 tw13649146925529204162 tw9787070471883534384 tw4835549714248979220 tw3247011125595100001 tw14667237422165588156 tw13865834706006427852 tw12774438939140249472 tw553089581705006697 tw17866441726915557699 tw14984369791605904802 tw4196631480599044715 tw6654974193618111813 tw12150889497915398496 tw8392255232383657631 tw7995552580752163942 tw7713841144590795050 tw6622481415361127192 tw5816712458683208356 tw4440385643702456888 tw3004365639884304998 tw16156404806527382037 tw1475636143628974556 tw13340113634311237673 tw10255673383157316001 tw9709491461245888278 tw16992275220545757552 tw15786168484967248662 tw15770050426659283476 tw12666892839550784907 tw10230304484090923624 tw9812126536381243909 tw7593261163145859429 tw17423097345894273193 tw11438125315458419185 tw5233257702177803953 tw12793736897901030298 tw10281634938492521884 tw1969377069337838213 tw17237903599088374192 tw15792075544488024681 tw14662637578484437838 tw13403533054670097467 tw12494070300666325208 tw13389629317078000452 tw8237740539100942390 tw7651032129309417500 tw2609018876400879812 tw240053201358605215 tw1927783055849355776 tw14987155698313162336 tw10681303338498523199 tw15904835937129775188 tw17168353329346241502 tw6858950482838594695 tw4102167441791998737 tw2834716014787729650 tw995144296728335209 tw8918890789444423732 tw8868847261817186793 tw5291100340124619823 tw4733148830878337204 tw4218075101015839225 tw3511179427317887804 tw18218292120667005143 tw18056065301235415765 tw11723565020403249341 tw16605976307191680241 tw9553707902513477329 tw9452603564006973327 tw8763708773211703760 tw7647653825336282380 tw6958496555693523976 tw5996484060267334106 tw4133554118806674212 tw3950600993711062634 tw1725639469775940178 tw1649994004620819826 tw16311232460012299901 tw15466035036877097826 tw15060011889864973411 tw15052200737191993273 tw14639394650917780468 tw14387160792366307411 tw13829456961236506651 tw13347260195792556341 tw12232380834372386813 tw12031593116567694346 tw10743220816500234336 tw9929498258830009313 tw9198016386875003171 tw8949243136318239686 tw8847106450911959519 tw8465748527739746945 tw8036745167858007509 tw7818800557116404335 tw7670231277425025979 tw6211849192620173080 tw3878027753462977678 tw3863830024920960321 tw2445230653919793139 tw191879436742970689 tw15573356131637605823 tw15051663539922412938 tw1501300636564615925 tw14727593370724341460 tw13725410847090270260 tw12226541524304322283 tw2717642374925110172 tw6027042729171559070 tw13109435353226033680 tw9761064156486105935 tw9297823535397662931 tw8998022397334909634 tw8435914932170210296 tw7022439198530468311 tw6249570422512879894 tw2988282195924505440 tw17131404611492847160 tw16599495792331587386 tw12751952542578061479 tw11870464153945632964 tw11644535385812055751 tw1021566093954245215 tw7808280072928350195 tw725745393937420537 tw7249206285443108789 tw604472413516490006 tw5916932053719771654 tw5810293705290176617 tw3914493907059253955 tw379164545642518856 tw3738842921605656708 tw3408783036714932361 tw17333069696664695479 tw1649670022920099103 tw15758623551601919646 tw1434077294212874746 tw12969197434572142729 tw12267087569309268758 tw10934654365171283162 tw10772429096528113584 tw10680183562979511752 tw8981376328699427802 tw17016444567116653737 tw9821406322674458373 tw9752304043682290214 tw9686600471680634102 tw9654667644806579917 tw9579831624655216778 tw9442718988227951813 tw9426707473921411496 tw9378128477000419760 tw9308689666280255446 tw9266098488040544410 tw9264956462815471396 tw922596720928617701 tw9124858369265309931 tw8985123738491672010 tw8963967079427301833 tw8734159413767925669 tw8477594630336298191 tw8416264870866058012 tw8248502381611413010 tw8120285460763132057 tw7987976711947328523 tw783144628444677353 tw7629069756394616134 tw7442829793394502413 tw7412970509875889219 tw7408777467501961418 tw7351947165950177622 tw7306415331677600907 tw7166505577704042559 tw7116818254651288557 tw7021512689667194386 tw6967173713388503059 tw6841062004956702271 tw6750461171202391801 tw663740557193557461 tw6630326340726129509 tw6524251643498496677 tw6445729480635102387 tw6438352520794787368 tw6432020901570150285 tw6420154726661380872 tw6415619604157400314 tw6224374765362302930 tw6206130808531275101 tw6128133980765596694 tw6073815419029278722 tw6026624416225362647 tw599760103687510994 tw5952703223316862613 tw5830667672649320821 tw5658623846707871155 tw5630920217499677722 tw5546612256550479696 tw5511519374402335283 tw543889170092297504 tw5299458979316181055 tw51870790020317428 tw5159822816951912822 tw5010588720880060499 tw4741849058591217857 tw4737846195136990634 tw4650402074293225030 tw4644005055917511490 tw455754476121435072 tw4292954667209242096 tw4278544676823458137 tw4236721750485980624 tw404783271403792665 tw388933422874281624 tw3426861721770118300 tw3371363909887689508 tw324164698396096184 tw3140893069478578072 tw3106780895783644746 tw3023156738702408933 tw28973235373984724 tw285357900676224245 tw2812653560699395062 tw2801782783660513481 tw2782241455360353133 tw2742415836290958736 tw2639668241413344716 tw2555664183885103395 tw255405130246234275 tw2327408633815019152 tw2028410326464814473 tw1945682346211983440 tw1932707890213973386 tw18117946535928817480 tw18056291649038063338 tw17999444035047469431 tw17992124114383068890 tw17972270237150987476 tw17969224360715562644 tw17817312698370919892 tw1777315575834393432 tw17646263169309794406 tw1758409466426027913 tw17581687873416499942 tw17543643359487376073 tw17510289249285373849 tw17322050390329144919 tw17209728530345637050 tw17027161685107104831 tw17013932234933349230 tw16971462266154747270 tw16964329235343646288 tw16880738210370976136 tw16856218549641036693 tw16765721175067405835 tw16463025709136466186 tw16253015343435871364 tw1590606111031878741 tw15892208896691793749 tw15888450375988706691 tw15818286117126654095 tw15668999174665977553 tw15664718376670418205 tw15638138440685793591 tw15472448819788097194 tw15404086715957722581 tw15339832321116592246 tw15204765751634326054 tw1516353575636012849 tw15155023681452573054 tw1505602816154563463 tw15054238298436789369 tw14997204032363271620 tw14857572221777826900 tw14759102693160262966 tw14706467836148573955 tw14491817071105020894 tw14450653020095341366 tw13999707792149957874 tw13962635047542363420 tw13912916951153430857 tw13854142233570270726 tw13816415829051100764 tw1381105067662546075 tw13706026847927886564 tw13589564514032504818 tw13530561100945059245 tw13444682435569951019 tw13416882804449220991 tw13361221141899702449 tw13272697542566829131 tw13202678066793782994 tw13163289098299091069 tw13153393968936567121 tw13126229571239885006 tw13083651989631936614 tw1302077787518302559 tw13007463902256948968 tw12984768956662340714 tw12913176851014160316 tw12682729194253888802 tw12630198908921927760 tw12628844180439351120 tw12503818356930107703 tw12467642409028626349 tw12401287322431926699 tw12370235227132483874 tw12194248203496255864 tw1212923578454767476 tw12037858314504760382 tw12033886245251704513 tw11814996203009103062 tw11769543488995724152 tw11642592067151153432 tw11607974464904195680 tw11566098033952109751 tw11506944787030534953 tw11477572529901995995 tw11463099817237868815 tw1129000741488342745 tw11161807324061349073 tw11135034039583451543 tw11119104039481865854 tw11089070282674137814 tw1091074005635457908 tw1085585068202464270 tw10675165800150059746 tw10292321087140739995 tw10278416793882120832 tw1006083248869342949 tw10045817680891644714 tw10010691658490987787:True)
open PySem PySem.W PyProof.Rows
set_option maxRecDepth 100000 in
set_option maxHeartbeats 0 in
theorem PySem.Challenge.cw_wormyard_k50_twins_holds : PySem.Challenge.rw_wormyard_k50_twins.Holds := by
 w_on;o_law;k_head; (case hw=>w_witness2)
 k_fill
 refine K50.walk (l:=PySem.Challenge.rw_wormyard_k50_twins) rfl rfl (fun w h Y=>PySem.W.kIn_of Y) ?F
 case F =>
  intro w mg fa h KX G hmg
  refine' K50.all_mk KX G hmg ?gcL ?gcN ?gcT ?gcR ?gcE ?gcB ?gcD ?gcO ?gcM ?gcP ?gcG ?gcW ?gcZ ?gcF ?gcQ ?gcA ?gcH ?gcJ ?h1 ?h2 ?h3 ?h4 ?h5 ?h6 ?h7 ?h8 ?h9 ?h10 ?h11 ?h12 ?h13 ?h14 ?h15 ?h16 ?h17 ?h18 ?h19 ?h20 ?h21 ?h22 ?h23 ?h24 ?h25 ?a26 ?l26 ?c26 ?k26 ?h27 ?h28 ?h29 ?h30 ?h31 ?h32 ?h33 ?h34 ?h35 ?h36 ?h37 ?h38 ?h39 ?h40 ?h41 ?h42 ?h43 ?h44 ?h45 ?h46 ?h47 ?h48 ?h49 ?h50 ?a51 ?l51 ?d51 ?c51 ?k51 ?i51 ?a52 ?l52 ?d52 ?c52 ?k52 ?i52 ?h53 ?h54 ?h55 ?h56 ?h57 ?h58 ?h59 ?h60 ?h61 ?h62 ?h63 ?h64 ?h65 ?h66 ?h67 ?h68 ?h69 ?h70 ?h71 ?h72 ?h73 ?h74 ?mp ?ml ?mr ?mh ?mk ?p1cL ?p2cL ?p3cL ?p4cL ?p5cL ?p6cL ?ncLplaces ?ncLlanes ?p1cB ?p2cB ?p3cB ?p4cB ?p5cB ?p6cB ?ncBland ?p1cD ?p2cD ?p3cD ?p4cD ?p5cD ?p6cD ?ncDland ?ncDentries ?p1cO ?p2cO ?p3cO ?p4cO ?p5cO ?p6cO ?ncOland ?ncOentries ?p1cA ?p2cA ?p3cA ?p4cA ?p5cA ?p6cA ?ncArights ?ncAreturning ?ncAholder ?ncApieces ?p1cH ?p2cH ?p3cH ?p4cH ?p5cH ?p6cH ?ncHstart ?ncHgoal ?ncHlength ?ncHword ?ncHgone ?ncHway ?p1cJ ?p2cJ ?p3cJ ?p4cJ ?p5cJ ?p6cJ ?ncJtable ?ncJrooms ?ncJlanes ?ncJletters ?ncJlies ?ncJdone ?x1cN ?x2cN ?x1cT ?x2cT ?x3cT ?x4cT ?x5cT ?x6cT ?x7cT ?ncTmany ?x1cR ?x2cR ?x3cR ?x4cR ?x5cR ?x6cR ?x7cR ?ncRlane ?x1cE ?x2cE ?x3cE ?x4cE ?x5cE ?x6cE ?x7cE ?ncErow ?x1cM ?x2cM ?x1cP ?x2cP ?x1cG ?x2cG ?x1cW ?x2cW ?x1cZ ?x2cZ ?x3cZ ?x4cZ ?x5cZ ?x6cZ ?x7cZ ?ncZstart ?ncZgoal ?x1cF ?x2cF ?x1cQ ?x2cQ ?w1cB ?w2cB ?w3cB ?kk1 ?kk2 ?kk3 ?kk4 ?kk5 ?kk6 ?kk7 ?kk8 ?kk9 ?eQ ?z0 ?z1 ?z2 ?z3 ?z4 ?z5 ?z6 ?z7 ?z8 ?z9 ?z10 ?z11 ?z12
  (case gcL=>k_is)
  (case gcN=>k_is)
  (case gcT=>k_is)
  (case gcR=>k_is)
  (case gcE=>k_is)
  (case gcB=>k_is)
  (case gcD=>k_is)
  (case gcO=>k_is)
  (case gcM=>k_is)
  (case gcP=>k_is)
  (case gcG=>k_is)
  (case gcW=>k_is)
  (case gcZ=>k_is)
  (case gcF=>k_is)
  (case gcQ=>k_is)
  (case gcA=>k_is)
  (case gcH=>k_is)
  (case gcJ=>k_is)
  (case h1=>symm_saturate)
  (case h2=>symm_saturate)
  (case h3=>symm_saturate)
  (case h4=>symm_saturate)
  (case h5=>symm_saturate)
  (case h6=>symm_saturate)
  (case h7=>symm_saturate)
  (case h8=>symm_saturate)
  (case h9=>symm_saturate)
  (case h10=>symm_saturate)
  (case h11=>symm_saturate)
  (case h12=>symm_saturate)
  (case h13=>symm_saturate)
  (case h14=>symm_saturate)
  (case h15=>symm_saturate)
  (case h16=>symm_saturate)
  (case h17=>symm_saturate)
  (case h18=>symm_saturate)
  (case h19=>symm_saturate)
  (case h20=>symm_saturate)
  (case h21=>symm_saturate)
  (case h22=>symm_saturate)
  (case h23=>symm_saturate)
  (case h24=>symm_saturate)
  (case h25=>symm_saturate)
  (case a26=>k_is)
  (case l26=>k_is)
  (case c26=>k_is)
  (case k26=>k_is)
  (case h27=>symm_saturate)
  (case h28=>symm_saturate)
  (case h29=>symm_saturate)
  (case h30=>symm_saturate)
  (case h31=>symm_saturate)
  (case h32=>symm_saturate)
  (case h33=>symm_saturate)
  (case h34=>symm_saturate)
  (case h35=>symm_saturate)
  (case h36=>symm_saturate)
  (case h37=>symm_saturate)
  (case h38=>symm_saturate)
  (case h39=>symm_saturate)
  (case h40=>symm_saturate)
  (case h41=>symm_saturate)
  (case h42=>symm_saturate)
  (case h43=>symm_saturate)
  (case h44=>symm_saturate)
  (case h45=>symm_saturate)
  (case h46=>symm_saturate)
  (case h47=>symm_saturate)
  (case h48=>symm_saturate)
  (case h49=>symm_saturate)
  (case h50=>symm_saturate)
  (case a51=>k_is)
  (case l51=>k_is)
  (case d51=>k_is)
  (case c51=>k_is)
  (case k51=>k_is)
  (case i51=>k_is)
  (case a52=>k_is)
  (case l52=>k_is)
  (case d52=>k_is)
  (case c52=>k_is)
  (case k52=>k_is)
  (case i52=>k_is)
  (case h53=>symm_saturate)
  (case h54=>symm_saturate)
  (case h55=>symm_saturate)
  (case h56=>symm_saturate)
  (case h57=>symm_saturate)
  (case h58=>symm_saturate)
  (case h59=>symm_saturate)
  (case h60=>symm_saturate)
  (case h61=>symm_saturate)
  (case h62=>symm_saturate)
  (case h63=>symm_saturate)
  (case h64=>symm_saturate)
  (case h65=>symm_saturate)
  (case h66=>symm_saturate)
  (case h67=>symm_saturate)
  (case h68=>symm_saturate)
  (case h69=>symm_saturate)
  (case h70=>symm_saturate)
  (case h71=>symm_saturate)
  (case h72=>symm_saturate)
  (case h73=>symm_saturate)
  (case h74=>symm_saturate)
  (case mp=>k_is)
  (case ml=>k_is)
  (case mr=>k_is)
  (case mh=>k_is)
  (case mk=>k_is)
  (case p1cL=>k_is)
  (case p2cL=>k_is)
  (case p3cL=>k_is)
  (case p4cL=>k_is)
  (case p5cL=>k_is)
  (case p6cL=>k_is)
  (case ncLplaces=>k_is)
  (case ncLlanes=>k_is)
  (case p1cB=>k_is)
  (case p2cB=>k_is)
  (case p3cB=>k_is)
  (case p4cB=>k_is)
  (case p5cB=>k_is)
  (case p6cB=>k_is)
  (case ncBland=>k_is)
  (case p1cD=>k_is)
  (case p2cD=>k_is)
  (case p3cD=>k_is)
  (case p4cD=>k_is)
  (case p5cD=>k_is)
  (case p6cD=>k_is)
  (case ncDland=>k_is)
  (case ncDentries=>k_is)
  (case p1cO=>k_is)
  (case p2cO=>k_is)
  (case p3cO=>k_is)
  (case p4cO=>k_is)
  (case p5cO=>k_is)
  (case p6cO=>k_is)
  (case ncOland=>k_is)
  (case ncOentries=>k_is)
  (case p1cA=>k_is)
  (case p2cA=>k_is)
  (case p3cA=>k_is)
  (case p4cA=>k_is)
  (case p5cA=>k_is)
  (case p6cA=>k_is)
  (case ncArights=>k_is)
  (case ncAreturning=>k_is)
  (case ncAholder=>k_is)
  (case ncApieces=>k_is)
  (case p1cH=>k_is)
  (case p2cH=>k_is)
  (case p3cH=>k_is)
  (case p4cH=>k_is)
  (case p5cH=>k_is)
  (case p6cH=>k_is)
  (case ncHstart=>k_is)
  (case ncHgoal=>k_is)
  (case ncHlength=>k_is)
  (case ncHword=>k_is)
  (case ncHgone=>k_is)
  (case ncHway=>k_is)
  (case p1cJ=>k_is)
  (case p2cJ=>k_is)
  (case p3cJ=>k_is)
  (case p4cJ=>k_is)
  (case p5cJ=>k_is)
  (case p6cJ=>k_is)
  (case ncJtable=>k_is)
  (case ncJrooms=>k_is)
  (case ncJlanes=>k_is)
  (case ncJletters=>k_is)
  (case ncJlies=>k_is)
  (case ncJdone=>k_is)
  (case x1cN=>kernel_rfl)
  (case x2cN=>k_is)
  (case x1cT=>kernel_rfl)
  (case x2cT=>k_is)
  (case x3cT=>kernel_rfl)
  (case x4cT=>k_is)
  (case x5cT=>k_is)
  (case x6cT=>k_is)
  (case x7cT=>k_is)
  (case ncTmany=>k_is)
  (case x1cR=>kernel_rfl)
  (case x2cR=>k_is)
  (case x3cR=>kernel_rfl)
  (case x4cR=>k_is)
  (case x5cR=>k_is)
  (case x6cR=>k_is)
  (case x7cR=>k_is)
  (case ncRlane=>k_is)
  (case x1cE=>kernel_rfl)
  (case x2cE=>k_is)
  (case x3cE=>kernel_rfl)
  (case x4cE=>k_is)
  (case x5cE=>k_is)
  (case x6cE=>k_is)
  (case x7cE=>k_is)
  (case ncErow=>k_is)
  (case x1cM=>kernel_rfl)
  (case x2cM=>k_is)
  (case x1cP=>kernel_rfl)
  (case x2cP=>k_is)
  (case x1cG=>kernel_rfl)
  (case x2cG=>k_is)
  (case x1cW=>kernel_rfl)
  (case x2cW=>k_is)
  (case x1cZ=>kernel_rfl)
  (case x2cZ=>k_is)
  (case x3cZ=>kernel_rfl)
  (case x4cZ=>k_is)
  (case x5cZ=>k_is)
  (case x6cZ=>k_is)
  (case x7cZ=>k_is)
  (case ncZstart=>k_is)
  (case ncZgoal=>k_is)
  (case x1cF=>kernel_rfl)
  (case x2cF=>k_is)
  (case x1cQ=>kernel_rfl)
  (case x2cQ=>k_is)
  (case w1cB=>first | k_is | kernel_rfl)
  (case w2cB=>first | k_is | kernel_rfl)
  (case w3cB=>first | k_is | kernel_rfl)
  (case kk1=>kit_is)
  (case kk2=>kit_is)
  (case kk3=>kit_is)
  (case kk4=>kit_is)
  (case kk5=>kit_is)
  (case kk6=>kit_is)
  (case kk7=>kit_is)
  (case kk8=>kit_is)
  (case kk9=>kit_is)
  (case eQ=>kts_exm)
  (case z0=>k_is)
  (case z1=>k_is)
  (case z2=>k_is)
  (case z3=>k_is)
  (case z4=>k_is)
  (case z5=>k_is)
  (case z6=>k_is)
  (case z7=>k_is)
  (case z8=>k_is)
  (case z9=>k_is)
  (case z10=>k_is)
  (case z11=>k_is)
  (case z12=>k_is)
