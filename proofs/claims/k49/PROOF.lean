import PyProof.Rows.All
import Wide.All
import OpenK.AllK
import Wide.FinOn
import Lean
import PyProof.EqAt
import PyProof.EqKinds
import PyProof.TupleCall
import PyProof.ExcBaseAll.ValueError
import PyProof.EnumMake
import PyProof.Rows.EnumRows
import PyProof.TupleIter
import PyProof.DictValues
import PyProof.CollectStr
import PySem.Builtin.Int.W1All
import PyProof.Rows.SetFrom
import PyProof.Rows.SortShell
import PyProof.FactsAll.set_1
import PyProof.FactsAll.set_2
import PyProof.Rows.SortWalk
import PyProof.DictRoadsH
import PyProof.DictKinds
import PyProof.FactsAll.NoneType
import KE.KRevIter
import PyProof.FactsAll.list_3
import KE.KDictList
import PyProof.DictIter
import PyProof.DictWalks
import PyProof.ListRange
import PyProof.Rows.SumAny
import PyProof.Rows.SeqCalls
import PyProof.P3In
import PyProof.CollectIter
import PyProof.TupleOfGen
import PyProof.TupleOfSeq
import PyProof.SetRoads
import PyProof.FactsAll.subtypes_4
import PySem.Challenge.RW_wormyard_k49_pieces_in_a_lane
set_option compiler.extract_closed false
set_option Elab.async false
set_option linter.all false
set_option maxRecDepth 100000
set_option maxHeartbeats 4000000
open PySem.W (Frag keepIn findIn fnOf codeIn nsIn mg_of isFn kitOne hasDictIn mg_none_of plainGet plainOver makesIn)
open List (all_cons all_eq_true all_map any_cons append_assoc append_nil contains_cons eq_of_mem_replicate filterMap_cons filter_append filter_congr filter_cons_of_neg filter_cons_of_pos getD_eq_getElem?_getD getElem_mem length_append length_cons length_filter_le length_map length_nil length_range length_range' length_replicate length_set length_singleton length_take length_take_le lookup_cons map_append map_cons map_map map_nil map_set mem_append mem_append_left mem_append_right mem_cons mem_cons_of_mem mem_cons_self mem_filter mem_flatMap mem_map mem_of_getElem? mem_of_head? mem_of_mem_take mem_range mem_reverse mem_singleton nodup_append nodup_cons nodup_nil not_mem_nil of_mem_zip pairwise_cons pairwise_iff_getElem pairwise_lt_range range_succ size_toArray sum_cons take_length take_succ)
open Nat (le_of_eq le_of_lt le_succ le_trans lt_irrefl lt_of_le_of_lt lt_of_lt_of_le lt_or_ge lt_succ_of_lt lt_succ_self lt_trans ne_of_gt ne_of_lt not_lt_zero pow_le_pow_right testBit_lt_two_pow zero_le)
open Int (emod_lt_of_pos emod_nonneg toNat_natCast zero_add)
open PySem.F (args_tuple_add_2 entry_dict_get entry_tuple_add plainAttrs_list slot_dict_get slot_list_extend slot_list_index slot_tuple_add type_list_extend)
open PySem.Heap (lt_size size_push)
noncomputable section
namespace L2
theorem HC {α:Type}{n:Nat}{l:List α}(h:l.length=n + 1):∃ a t,l=a :: t/\t.length=n:=by
 cases l with
 | nil=>cases h
 | cons a t=>exact⟨a,t,rfl,Nat.succ.inj h⟩
open PySem PySem.Spec PyProof.Rows
abbrev bY:=Sum Int Str
noncomputable def j5:bY->Value->Bool
 | .inl k,v=>Value.isInt k v
 | .inr x,v=>Value.isStrOf x v
noncomputable def Pu (w:World):bY->Int
 | .inl k=>hashInt k
 | .inr x=>hashStr w x
theorem bq:∀ {k:bY}{v:Value},j5 k v=true->(∃ i t,k=Sum.inl i/\v=Value.int i t)∨(∃ x t,k=Sum.inr x/\v=Value.str x t)
 | .inl i,v,h=>by
  obtain⟨t,e⟩:=Value.isInt_shape (k:=i) (v:=v) h
  exact .inl ⟨i,t,rfl,e⟩
 | .inr x,v,h=>by
  obtain⟨t,e⟩:=Value.isStrOf_shape (x:=x) (v:=v) h
  exact .inr ⟨x,t,rfl,e⟩
theorem qV (i:Int)(t:Tok):j5 (.inl i) (.int i t)=true:=by simp[j5,Value.isInt]
theorem qU (x:Str)(t:Tok):j5 (.inr x) (.str x t)=true:=by simp[j5,Value.isStrOf]
theorem yX (a b:Int):decide ((Sum.inl a:bY)=Sum.inl b)=(a == b):=by
 by_cases e:a=b
 ·subst e;simp
 ·have h:¬ (Sum.inl a:bY)=Sum.inl b:=fun q=>e (Sum.inl.inj q)
  rw[decide_eq_false h]
  exact(beq_eq_false_iff_ne.mpr e).symm
theorem yT (a b:Str):decide ((Sum.inr a:bY)=Sum.inr b)=decide (a=b):=by
 by_cases e:a=b
 ·subst e;simp
 ·have h:¬ (Sum.inr a:bY)=Sum.inr b:=fun q=>e (Sum.inr.inj q)
  rw[decide_eq_false h,decide_eq_false e]
theorem yW (a:Int)(b:Str):decide ((Sum.inl a:bY)=Sum.inr b)=false:=decide_eq_false (fun q=>nomatch q)
theorem yU (a:Str)(b:Int):decide ((Sum.inr a:bY)=Sum.inl b)=false:=decide_eq_false (fun q=>nomatch q)
noncomputable def aU (prog:Program)(w:World):PySem.KeyKind prog w bY where
 is:=j5
 hash:=Pu w
 inj:=fun v a b ha hb=>by
  rcases bq ha with ⟨i,t,rfl,rfl⟩ | ⟨x,t,rfl,rfl⟩
  ·rcases bq hb with ⟨j,u,rfl,e⟩ | ⟨y,u,rfl,e⟩
   ·injection e with e1 _;rw[e1]
   ·exact nomatch e
  ·rcases bq hb with ⟨j,u,rfl,e⟩ | ⟨y,u,rfl,e⟩
   ·exact nomatch e
   ·injection e with e1 _;rw[e1]
 byValue:=fun k v h=>by
  rcases bq h with ⟨i,t,rfl,rfl⟩ | ⟨x,t,rfl,rfl⟩<;>rfl
 pyHash:=fun hv h=>by
  rcases bq hv with ⟨i,t,rfl,rfl⟩ | ⟨x,t,rfl,rfl⟩
  ·exact wpAny_pyHash_int h
  ·exact wpAny_pyHash_str h
 eqBool:=fun hu hv h=>by
  rcases bq hu with ⟨i,t,rfl,rfl⟩ | ⟨x,t,rfl,rfl⟩
  ·rcases bq hv with ⟨j,u,rfl,rfl⟩ | ⟨y,u,rfl,rfl⟩
   ·rw[yX]at h;exact wpAny_eqBool_int h
   ·rw[yW]at h;exact SeqAt.EqAt.int_str i t y u _ _ _ _ h
  ·rcases bq hv with ⟨j,u,rfl,rfl⟩ | ⟨y,u,rfl,rfl⟩
   ·rw[yU]at h;exact SeqAt.EqAt.str_int x t j u _ _ _ _ h
   ·rw[yT]at h;exact wpAny_eqBool_str h
 «strs»:=fun k x t v h=>by
  rcases bq h with ⟨i,u,rfl,e⟩ | ⟨y,u,rfl,e⟩
  ·exact nomatch e
  ·injection e with e1 _
   subst e1
   cases v<;>rfl
theorem mB (prog:Program)(w:World)(i:Int)(t:Tok):(aU prog w).is (.inl i) (.int i t)=true:=qV i t
theorem m9 (prog:Program)(w:World)(x:Str)(t:Tok):(aU prog w).is (.inr x) (.str x t)=true:=qU x t
end L2
namespace L2
open PySem PySem.Spec PyProof.Rows
inductive V where
 | zT | bl (b:Bool) | int (i:Int) | str (x:Str) | DE (b:Array UInt8) | HD (b:UInt64) | ref (a:Addr) | ty (n:String)
 deriving DecidableEq
noncomputable def RelV:V->Value->Prop
 | .zT,u=>u=Value.none
 | .bl b,u=>u=Value.bool b
 | .int i,u=>∃ t,u=Value.int i t
 | .str x,u=>∃ t,u=Value.str x t
 | .DE b,u=>∃ t,u=Value.bytes b t
 | .HD b,u=>∃ t,u=Value.float b t
 | .ref a,u=>u=Value.ref a
 | .ty n,u=>u=Value.type n
abbrev Vals:List V->List Value->Prop:=Paired RelV
theorem Vals.length {xs:List V}{us:List Value}(r:Vals xs us):xs.length=us.length:=Paired.length r
theorem Vals.get:∀ {xs:List V}{us:List Value}{i:Nat}{x:V},Vals xs us->xs[i]? = some x->∃ u,us[i]? = some u/\RelV x u
 | _,_,_,_, .nil,e=>by simp at e
 | _,_,0,_, .cons r _,e=>by simp at e;subst e;exact⟨_,rfl,r⟩
 | _,_,i + 1,x, .cons _ t,e=>by
  obtain⟨u,h1,h2⟩:=Vals.get (i:=i) (x:=x) t (by simpa using e)
  exact⟨u,by simpa using h1,h2⟩
theorem Vals.set {x:V}{u:Value}(r:RelV x u):∀ {xs:List V}{us:List Value}(i:Nat),Vals xs us->Vals (xs.set i x) (us.set i u)
 | _,_,_, .nil => .nil
 | _,_,0, .cons _ t => .cons r t
 | _,_,i + 1, .cons q t => .cons q (Vals.set r i t)
theorem Vals.append:∀ {xs ys:List V}{us ws:List Value},Vals xs us->Vals ys ws->Vals (xs ++ ys) (us ++ ws)
 | _,_,_,_, .nil,s=>s
 | _,_,_,_, .cons r t,s => .cons r (Vals.append t s)
theorem Vals.take:∀ {xs:List V}{us:List Value}(n:Nat),Vals xs us->Vals (xs.take n) (us.take n)
 | _,_,0,_ => .nil
 | _,_,_ + 1, .nil => .nil
 | _,_,n + 1, .cons r t => .cons r (Vals.take n t)
theorem Vals.drop:∀ {xs:List V}{us:List Value}(n:Nat),Vals xs us->Vals (xs.drop n) (us.drop n)
 | _,_,0,r=>r
 | _,_,_ + 1, .nil => .nil
 | _,_,n + 1, .cons _ t=>Vals.drop n t
noncomputable def Av:Option V->Option Value->Prop
 | some v,some u=>RelV v u
 | none,none=>True
 | _,_=>False
noncomputable def KV {κ:Type}:List (κ × V)->List (κ × Value)->Prop:=Paired fun (p:κ × V)(q:κ × Value)=>p.1=q.1/\RelV p.2 q.2
noncomputable def kV:bY->V
 | .inl i => .int i
 | .inr x => .str x
inductive HO where
  | lst (xs:List V)
  | tup (xs:List V)
  | dK (kvs:List (bY × V)) | dT (kvs:List (List bY × V))
  | set (S:Int->Bool) (n:Nat)
  | ins (C dx:Addr) (fs:List (Str × V))
  | own (x:Addr)
  | xd (fs:List (Str × V))
  | met (f x:Addr)
  | NM (lo hi:Int)
  | Bx (o:Obj) (u:HO)
  | FV (ps:Array Value)
  | ext (φ:Heap->Prop)
abbrev Hp:=Addr->Option HO
noncomputable def upd (H:Hp)(a:Addr)(o:HO):Hp:=fun b=>if b=a then some o else H b
theorem ac {H:Hp}{a:Addr}{o:HO}:upd H a o a=some o:=by unfold upd;rw[if_pos rfl]
theorem af {H:Hp}{a b:Addr}{o:HO}(h:b ≠ a):upd H a o b=H b:=by unfold upd;rw[if_neg h]
theorem aX {H:Hp}{a b:Addr}{o u:HO}(h:H a=some o)(h':H b=some u)(d:o ≠ u):a ≠ b:=by
 intro e;subst e;rw[h]at h';exact d (Option.some.inj h')
theorem ag {H:Hp}{a b:Addr}{o:HO}(h:H a=some o)(h':H b=none):a ≠ b:=by
 intro e;subst e;rw[h]at h';cases h'
noncomputable def AJ (h:Heap)(a:Addr)(items:Array Value):Prop:=∃ o,h.get? a=some o/\(o.cls = .type "tuple"/\∃ n,o.data = .seq items n)/\o.dict=none
theorem AJ.isTup {h:Heap}{a:Addr}{items:Array Value}:AJ h a items->IsTup h a items:=fun zH=>by obtain⟨o,e,c,_⟩:=zH;exact⟨o,e,c⟩
theorem AJ.new (h:Heap)(items:Array Value):AJ (h.push { cls := .type "tuple",data := .seq items }) h.objs.size items:=⟨_,Heap.get?_push_size _ rfl,⟨rfl,_,rfl⟩,rfl⟩
section
variable (P:Program)(w:World)
noncomputable def zV (H:Hp)(h:Heap)(a:Addr):HO->Prop
 | .lst xs=>xs.length <= sizeLine/\∃ (zI:List Value)(n:Nat),Vals xs zI/\h.get? a=some { cls := .type "list",data := .seq zI.toArray n }
 | .tup xs=>xs.length <= sizeLine/\∃ zI:List Value,Vals xs zI/\AJ h a zI.toArray
 | .dK kvs=>kvs.length <= sizeLine/\(a == sysModules)=false/\∃ vs,KV kvs vs/\h.DictOf (aU P w) a vs
 | .dT kvs=>kvs.length <= sizeLine/\(a == sysModules)=false/\∃ xs:List (List bY × Addr × Value),
   Paired (fun (p:List bY × V)(q:List bY × Addr × Value)=>p.1=q.1/\H q.2.1=some (.tup (p.1.map kV))/\RelV p.2 q.2.2) kvs xs /\
   ∃ o es ep,h.get? a=some o/\o.ExactDict/\o.data = .dict es ep/\es.toList=xs.map (entryOfKey (tupleKind (aU P w)))/\(xs.map (·.1)).Nodup
 | .set S n=>h.SetOf (intKind P w) a S n
 | .ins C dx fs=>H dx=some (.own a)/\fs.length <= 1000/\dx ≠ a/\h.get? a=some (PySem.W.instObj C dx) /\
   ∃ mA,h.Ns1 dx mA/\(∀ f,Av (fs.lookup f) (mA f))/\PySem.Within mA (fs.map (·.1))
 | .own _=>∃ o,h.get? a=some o
 | .xd fs=>∃ mA,h.Ns1 a mA/\∀ f,Av (fs.lookup f) (mA f)
 | .NM lo hi=>∃ t u v,h.get? a=some { cls := .type "range",data := .fields #[.int lo t, .int hi u, .int 1 v] }
 | .Bx o u=>h.get? a=some o/\zV H h a u
 | .FV ps=>h.get? a=some { cls := .none,data := .fields ps }
 | .met f x=>h.get? a=some (PySem.W.methodObj (.ref f) (.ref x))
 | .ext φ=>φ h/\(∃ o,h.get? a=some o)/\∀ h1 h2:Heap,φ h1->(∀ o,h1.get? a=some o->h2.get? a=some o)->φ h2
noncomputable def AH (H:Hp)(h:Heap):Prop:=∀ a o,H a=some o->zV P w H h a o
end
section
variable {P:Program}{w:World}{H H':Hp}{h h':Heap}{a:Addr}{o:HO}
theorem zV.lt (x:zV P w H h a o):a < h.objs.size:=by
 cases o with
 | lst xs=>obtain⟨_,_,_,_,e⟩:=x;exact lt_size e
 | tup xs=>obtain⟨_,_,_,p⟩:=x;exact p.isTup.lt
 | dK kvs=>obtain⟨_,_,_,_,o,_,_,e,_⟩:=x;exact lt_size e
 | dT kvs=>obtain⟨_,_,_,_,o,_,_,e,_⟩:=x;exact lt_size e
 | set S n=>obtain⟨o,_,_,_,e,_⟩:=x;exact lt_size e
 | ins C dx fs=>obtain⟨_,_,_,e,_⟩:=x;exact lt_size e
 | own y=>obtain⟨_,e⟩:=x;exact lt_size e
 | xd fs=>obtain⟨_,⟨_,_,_,e,_⟩,_⟩:=x;exact lt_size e
 | NM lo hi=>obtain⟨_,_,_,e⟩:=x;exact lt_size e
 | Bx ob u=>obtain⟨e,_⟩:=x;exact lt_size e
 | FV ps=>exact lt_size (show h.get? a=some _ from x)
 | met f y=>exact lt_size (show h.get? a=some _ from x)
 | ext φ=>obtain⟨_,⟨_,e⟩,_⟩:=x;exact lt_size e
theorem Paired.HE {α β:Type}{F G:α->β->Prop}:∀ {l₁:List α}{l₂:List β},Paired F l₁ l₂->(∀ a b,F a b->G a b)->Paired G l₁ l₂
 | _,_, .nil,_ => .nil
 | _,_, .cons r t,f => .cons (f _ _ r) (Paired.HE t f)
theorem zV.B3 (x:zV P w H h a o)(k:∀ b u,(b=a∨H b=some (.own a))->h.get? b=some u->h'.get? b=some u)
  (ho:∀ b,H b=some (.own a)->H' b=some (.own a)) (ht:∀ b xs,H b=some (.tup xs)->H' b=some (.tup xs)):zV P w H' h' a o:=by
 induction o with
 | lst xs=>obtain⟨z,zI,n,r,e⟩:=x;exact⟨z,zI,n,r,k _ _ (.inl rfl) e⟩
 | tup xs=>obtain⟨z,zI,r,ob,e,c⟩:=x;exact⟨z,zI,r,ob,k _ _ (.inl rfl) e,c⟩
 | dK kvs=>obtain⟨z,y,vs,r,ob,es,ep,e,c⟩:=x;exact⟨z,y,vs,r,ob,es,ep,k _ _ (.inl rfl) e,c⟩
 | dT kvs =>
  obtain⟨z,y,xs,r,ob,es,ep,e,c⟩:=x
  exact⟨z,y,xs,Paired.HE r fun p q z=>⟨z.1,ht _ _ z.2.1,z.2.2⟩,ob,es,ep,k _ _ (.inl rfl) e,c⟩
 | set S n=>obtain⟨ob,es,ep,t,e,c⟩:=x;exact⟨ob,es,ep,t,k _ _ (.inl rfl) e,c⟩
 | ins C dx fs =>
  obtain⟨d,z,ne,e,mA,⟨od,es,ep,e2,c⟩,r⟩:=x
  exact⟨ho _ d,z,ne,k _ _ (.inl rfl) e,mA,⟨od,es,ep,k _ _ (.inr d) e2,c⟩,r⟩
 | own y=>obtain⟨ob,e⟩:=x;exact⟨ob,k _ _ (.inl rfl) e⟩
 | xd fs=>obtain⟨mA,⟨od,es,ep,e,c⟩,r⟩:=x;exact⟨mA,⟨od,es,ep,k _ _ (.inl rfl) e,c⟩,r⟩
 | NM lo hi=>obtain⟨t,u,v,e⟩:=x;exact⟨t,u,v,k _ _ (.inl rfl) e⟩
 | Bx ob u ih=>obtain⟨e,q⟩:=x;exact⟨k _ _ (.inl rfl) e,ih q⟩
 | FV ps =>
  have e:h.get? a=some { cls := .none,data := .fields ps }:=x
  show h'.get? a=some { cls := .none,data := .fields ps }
  exact k a _ (.inl rfl) e
 | met f y =>
  have e:h.get? a=some (PySem.W.methodObj (.ref f) (.ref y)):=x
  show h'.get? a=some (PySem.W.methodObj (.ref f) (.ref y))
  exact k a _ (.inl rfl) e
 | ext φ=>obtain⟨p,⟨o,e⟩,st⟩:=x;exact⟨st _ _ p fun o q=>k _ _ (.inl rfl) q,⟨o,k _ _ (.inl rfl) e⟩,st⟩
theorem AH.lt (x:AH P w H h)(e:H a=some o):a < h.objs.size:=(x a o e).lt
theorem AH.fresh (x:AH P w H h)(e:h.objs.size <= a):H a=none:=by
 cases q:H a with
 | none=>rfl
 | some u=>exact absurd (lt_of_lt_of_le (x.lt q) e) (lt_irrefl _)
theorem AH.kept (x:AH P w H h)(k:∀ b u,h.get? b=some u->h'.get? b=some u):AH P w H h':=fun a o e =>
 (x a o e).B3 (fun b u _ q=>k b u q) (fun _ q=>q) fun _ _ q=>q
theorem AH.laid (x:AH P w H h)(k:∀ b u,h.get? b=some u->h'.get? b=some u)(hp:h.objs.size <= a)(new:zV P w (upd H a o) h' a o):AH P w (upd H a o) h':=fun b u e=>by
 have hn:=x.fresh hp
 by_cases hb:b=a
 ·subst hb;rw[ac]at e;cases e;exact new
 ·rw[af hb]at e
  exact(x b u e).B3 (fun c v _ q=>k c v q) (fun c q=>by rw[af (ag q hn)];exact q) fun c xs q=>by rw[af (ag q hn)];exact q
end
noncomputable def Rd (H:Hp)(a:Addr)(u:HO):Prop:=H a=some u∨∃ o,H a=some (.Bx o u)
theorem Rd.ok {P:Program}{w:World}{H:Hp}{h:Heap}{a:Addr}{u:HO}(r:Rd H a u)(x:AH P w H h):zV P w H h a u:=by
 rcases r with r | ⟨o,r⟩
 ·exact x a u r
 ·obtain⟨_,q⟩:=x a _ r
  exact q
noncomputable def JF:Option HO->Prop
 | some (.lst _)=>True
 | some (.dK _)=>True
 | some (.dT _)=>True
 | some (.set _ _)=>True
 | some (.ins _ _ _)=>True
 | some (.ext _)=>True
 | _=>False
section
variable {P:Program}{w:World}{H:Hp}{h h':Heap}{x e:Addr}{o':HO}
theorem AH.write (ok:AH P w H h)(mu:JF (H x))(he:e=x∨H e=some (.own x))(k:∀ b u,b ≠ e->h.get? b=some u->h'.get? b=some u)(Jb:∃ u,h'.get? e=some u)
  (new:zV P w (upd H x o') h' x o'):AH P w (upd H x o') h':=fun b u q=>by
 have JG:∀ c y,H c=some (.own y)->c ≠ x:=fun c y r z=>by subst z;rw[r]at mu;exact mu
 have Pw:∀ c xs,H c=some (.tup xs)->c ≠ x:=fun c xs r z=>by subst z;rw[r]at mu;exact mu
 by_cases hb:b=x
 ·subst hb;rw[ac]at q;cases q;exact new
 ·rw[af hb]at q
  by_cases BQ:b=e
  ·have q':H b=some (.own x):=by
    rcases he with z | z
    ·exact absurd (BQ.trans z) hb
    ·rw[BQ];exact z
   rw[q]at q';cases q'
   obtain⟨v,hv⟩:=Jb
   exact⟨v,by rw[BQ];exact hv⟩
  ·refine(ok b u q).B3 (fun c v hc r=>k c v ?_ r) (fun c r=>by rw[af (JG c b r)];exact r) fun c xs r=>by rw[af (Pw c xs r)];exact r
   rcases hc with rfl | hc
   ·exact BQ
   ·rintro rfl
    rcases he with z | z
    ·exact JG c b hc z
    ·rw[hc]at z;cases z;exact hb rfl
end
structure Un (fs ex:List Addr)(H H':Hp)(h h':Heap):Prop where
 keep:∀ b o,h.get? b=some o->H b=none->b ∉ fs->b ∉ ex->h'.get? b=some o
 slot:∀ b o,h.get? b=some o->H b=none->b ∈ fs->b ∉ ex->∃ sl,h'.get? b=some { o with slots:=sl }
 free:∀ b o,h.get? b=some o->H b=none->b ∉ ex->H' b=none
 there:∀ b o,h.get? b=some o->b ∉ ex->∃ o',h'.get? b=some o'
 BG:∀ b xs,H b=some (.tup xs)->H' b=some (.tup xs)
 B4:∀ b o u,H b=some (.Bx o u)->H' b=some (.Bx o u)
 BH:∀ b ps,H b=some (.FV ps)->∃ more,H' b=some (.FV (ps ++ more))
section
variable {fs An ex Jc:List Addr}{H H1 H2:Hp}{h h1 h2 h':Heap}{a x e:Addr}{o:HO}
theorem Un.any (u:Un fs ex H H1 h h1){b:Addr}{ob:Obj}(q:h.get? b=some ob)(n:H b=none)(hx:b ∉ ex):∃ sl,h1.get? b=some { ob with slots:=sl }:=by
 by_cases hb:b ∈ fs
 ·exact u.slot b ob q n hb hx
 ·exact⟨ob.slots,u.keep b ob q n hb hx⟩
theorem Un.kept (k:∀ b u,h.get? b=some u->h'.get? b=some u):Un fs ex H H h h' :=
 ⟨fun b ob q _ _ _=>k b ob q,fun b ob q _ _ _=>⟨ob.slots,k b ob q⟩,fun _ _ _ n _=>n,fun b ob q _=>⟨ob,k b ob q⟩,fun _ _ q=>q,fun _ _ _ q=>q,fun _ ps q=>⟨#[],by rw[q];simp⟩⟩
theorem Un.refl:Un fs ex H H h h:=Un.kept fun _ _ q=>q
theorem Un.laid (k:∀ b u,h.get? b=some u->h'.get? b=some u)(hp:h.objs.size <= a)(hn:H a=none):Un fs ex H (upd H a o) h h' where
 keep:=fun b u q _ _ _=>k b u q
 slot:=fun b u q _ _ _=>⟨u.slots,k b u q⟩
 free:=fun b u q n _=>by rw[af (ne_of_lt (lt_of_lt_of_le (lt_size q) hp))];exact n
 there:=fun b u q _=>⟨u,k b u q⟩
 BG:=fun b xs q=>by rw[af (ag q hn)];exact q
 B4:=fun b u xs q=>by rw[af (ag q hn)];exact q
 BH:=fun b ps q=>⟨#[],by rw[af (ag q hn),q];simp⟩
theorem Un.write (mu:JF (H x))(he:e=x∨H e=some (.own x))(k:∀ b u,b ≠ e->h.get? b=some u->h'.get? b=some u)(Jb:∃ u,h'.get? e=some u):Un fs ex H (upd H x o) h h':=by
 have hx:∀ b,H b=none->b ≠ x:=fun b n z=>by subst z;rw[n]at mu;exact mu
 have hb:∀ b,H b=none->b ≠ e:=fun b n z=>by
  subst z
  rcases he with r | r
  ·exact hx b n r
  ·rw[n]at r;cases r
 have hm:∀ b u,H b=some u->¬ JF (some u)->b ≠ x:=fun b u q nm z=>by subst z;rw[q]at mu;exact nm mu
 refine⟨fun b u q n _ _=>k b u (hb b n) q,fun b u q n _ _=>⟨u.slots,k b u (hb b n) q⟩,fun b u q n _=>by rw[af (hx b n)];exact n,fun b u q _=>?_,
  fun b xs q=>by rw[af (hm b _ q fun z=>z)];exact q,fun b u xs q=>by rw[af (hm b _ q fun z=>z)];exact q,fun b ps q=>⟨#[],by rw[af (hm b _ q fun z=>z),q];simp⟩⟩
 by_cases BQ:b=e
 ·subst BQ;exact Jb
 ·exact⟨u,k b u BQ q⟩
end
noncomputable def NN (h:Heap)(H:Hp):List Addr:=(List.range h.objs.size).filter fun a=>(H a).isSome
noncomputable def lr (h:Heap)(H:Hp):Heap:=PySem.W.hideAll h (NN h H)
theorem qY (h:Heap)(H:Hp):(lr h H).objs.size=h.objs.size:=PySem.W.hideAll_size _ _
theorem uz {h:Heap}{H:Hp}{b:Addr}{o:Obj}(e:h.get? b=some o)(n:H b=none):(lr h H).get? b=some o :=
 PySem.W.hideAll_get _ e fun hm=>by
  have q:(H b).isSome=true:=(mem_filter.mp hm).2
  rw[n]at q;simp at q
theorem wk {h:Heap}{H:Hp}{b:Addr}{o:Obj}(e:(lr h H).get? b=some o):h.get? b=some o/\H b=none:=by
 have e':h.get? b=some o:=PySem.W.of_hideAll (NN h H) e
 refine⟨e',?_⟩
 cases q:H b with
 | none=>rfl
 | some x =>
  have hm:b ∈ NN h H:=mem_filter.mpr ⟨mem_range.mpr (lt_size e'),by simp[q]⟩
  have z:(lr h H).get? b=none:=PySem.W.hideAll_none (NN h H) hm
  rw[z]at e;cases e
end L2
namespace L2
open PySem PySem.Spec PyProof.Rows
structure Mod (K:Frag)(mg:Str->Option Value)(base:Heap):Prop where
 Em:K.In base
 glob:base.Ns mainGlobals mg
 blt:∃ mb,base.Ns builtinsNs mb/\∀ x:Str,x ≠ "__name__"->mb x=bootBuiltins x
 nolimit:base.NoLimit
structure Cx where
 prog:Program
 w:World
 K:Frag
 mg:Str->Option Value
 base:Heap
 A:Around
 N:List Str
 s₀:Shared
 H₀:Hp
 env:Env
 outer:List Env
 stack:List Env
 ex:List Addr
 fn:Str->Bool
 calm:Bool
 pn:List (Addr × Obj)
 xe:Value->Shared->Prop
noncomputable def ly (l:List Env):List Addr:=l.filterMap (·.frame)
abbrev Cx.fs (X:Cx):List Addr:=ly X.outer
noncomputable def NO (sc:Scope)(x:Str):Prop:=sc.names.lookup x=some .local∨sc.names.lookup x=some .cell∨sc.names.lookup x=some .free
noncomputable def Loc (sc:Scope)(x:Str):Prop:=sc.names.lookup x=some .local∨sc.names.lookup x=some .cell
noncomputable def Look (env:Env)(h:Heap)(m:Str->Option Value)(x:Str)(u:Value):Prop :=
 (env.kindOf x=some .local/\m x=some u)∨((env.kindOf x=some .cell∨env.kindOf x=some .free)/\∃ c,env.cells.lookup x=some c/\h.IsCell c (some u))
structure Cx.Ok (X:Cx):Prop where
 mod:Mod X.K X.mg X.base
 kind:X.env.scope.kind = .function
 glob:X.env.globals=mainGlobals
 blt:X.env.builtins=builtinsNs
 above:X.s₀.heap.objs.size <= X.env.locals
 inj:∀ x y c,X.env.cells.lookup x=some c->X.env.cells.lookup y=some c->x=y
 has:∀ x,(X.env.kindOf x=some .cell∨X.env.kindOf x=some .free)->∃ c,X.env.cells.lookup x=some c
 JH:∀ x c,X.fn x=true->X.env.cells.lookup x=some c->X.s₀.heap.objs.size <= c
 hd:X.calm=true->X.A.handled=none
 frames:X.A.frames=some X.stack
 NP:X.stack=X.outer∨(X.stack=X.env :: X.outer/\X.env.frame=some X.env.locals)
 Vb:∀ b ∈ X.ex,b ≠ X.env.locals/\∀ x c,X.env.cells.lookup x=some c->c ≠ b
 bs:∀ b o,X.base.get? b=some o->X.s₀.heap.get? b=some o/\X.H₀ b=none
 Fq:X.base.objs.size <= X.s₀.heap.objs.size
 E3:∀ b o,X.base.get? b=some o->b ∉ X.ex
 Ft:∀ b ∈ X.ex,b ∉ X.fs
 B5:X.s₀.heap.FunFrames X.base X.outer
 HF:∀ b ∈ X.fs,X.H₀ b=none
structure Inv (X:Cx)(pins:List (Addr × Obj))(σ:List (Option V))(H:Hp)(s:Shared):Prop where
 ok:X.Ok
 os:s.os=X.s₀.os
 bare:AllBare s.gens
 base:Un X.fs X.ex X.H₀ H X.s₀.heap s.heap
 loc:∃ m,s.heap.Ns X.env.locals m/\∀ (i:Nat)(x:Str)(v:V),X.N[i]? = some x->σ[i]? = some (some v)->NO X.env.scope x->∃ u,RelV v u/\Look X.env s.heap m x u
 cell:∀ x c,X.env.cells.lookup x=some c->∃ v,s.heap.IsCell c v
 free:H X.env.locals=none
 As:∀ x c,X.env.cells.lookup x=some c->H c=none
 pin:∀ p ∈ X.pn ++ pins,s.heap.get? p.1=some p.2/\H p.1=none/\p.1 ≠ X.env.locals/\p.1 ∉ X.fs/\∀ v,p.2.data ≠ .cell v
 zL:AH X.prog X.w H s.heap
 len:σ.length=X.N.length
section
variable {X:Cx}{pins:List (Addr × Obj)}{σ:List (Option V)}{H H':Hp}{s:Shared}{h':Heap}
theorem Cx.Ok.Px (ok:X.Ok){b:Addr}{o:Obj}(e:X.base.get? b=some o):b ∉ X.fs:=fun hb=>by
 have:=(ok.B5.mem hb).1
 rw[e]at this;cases this
theorem Inv.bs (I:Inv X pins σ H s):∀ b o,X.base.get? b=some o->s.heap.get? b=some o/\H b=none:=fun b o e =>
 ⟨I.base.keep b o (I.ok.bs b o e).1 (I.ok.bs b o e).2 (I.ok.Px e) (I.ok.E3 b o e),I.base.free b o (I.ok.bs b o e).1 (I.ok.bs b o e).2 (I.ok.E3 b o e)⟩
theorem Inv.bk (I:Inv X pins σ H s):∀ b o,X.base.get? b=some o->s.heap.get? b=some o:=fun b o e=>(I.bs b o e).1
theorem Inv.mod (I:Inv X pins σ H s):Mod X.K X.mg X.base:=I.ok.mod
theorem Inv.AF (I:Inv X pins σ H s):X.K.In s.heap:=I.ok.mod.Em.keeps I.bk
theorem Inv.lt (I:Inv X pins σ H s):X.env.locals < s.heap.objs.size:=let ⟨_,hn,_⟩:=I.loc;hn.lt
theorem Inv.sz (I:Inv X pins σ H s):X.s₀.heap.objs.size <= s.heap.objs.size:=le_trans I.ok.above (le_of_lt I.lt)
theorem Inv.Py (I:Inv X pins σ H s){a:Addr}(h:s.heap.objs.size <= a):a ∉ X.fs:=fun hb=>by
 obtain⟨_,o,ho,_⟩:=I.ok.B5.mem hb
 exact absurd (lt_of_lt_of_le (lt_size ho) (le_trans I.sz h)) (lt_irrefl _)
theorem Inv.En (I:Inv X pins σ H s):∀ x c,X.env.cells.lookup x=some c->c ≠ X.env.locals:=fun x c e z=>by
 obtain⟨v,o,ho,hd⟩:=I.cell x c e
 obtain⟨m,⟨o',es,ep,Fu,HG,_⟩,_⟩:=I.loc
 rw[z,Fu]at ho;cases ho;rw[HG]at hd;cases hd
theorem Inv.B5 (I:Inv X pins σ H s):s.heap.FunFrames X.base X.outer:=by
 have all:∀ (l:List Env),(∀ b ∈ ly l,b ∈ X.fs)->X.s₀.heap.FunFrames X.base l->s.heap.FunFrames X.base l:=by
  intro l
  induction l with
  | nil=>intro _ _;trivial
  | cons env r ih =>
   intro hs hl
   obtain⟨hk,⟨L,o,hf,hn,ho,hd⟩,hr⟩:=hl
   have hL:L ∈ X.fs:=hs L (by unfold ly;rw[filterMap_cons,hf];exact mem_cons_self)
   obtain⟨sl,e⟩:=I.base.slot L o ho (I.ok.HF L hL) hL fun z=>I.ok.Ft L z hL
   exact⟨hk,⟨L,_,hf,hn,e,hd⟩,ih (fun b hb=>hs b (by unfold ly;rw[filterMap_cons,hf];exact mem_cons_of_mem _ hb)) hr⟩
 exact all X.outer (fun _ hb=>hb) I.ok.B5
theorem Inv.stack (I:Inv X pins σ H s):s.heap.FunFrames X.base X.stack:=by
 rcases I.ok.NP with e | ⟨e,hf⟩
 ·rw[e];exact I.B5
 ·rw[e]
  obtain⟨m,hn,_⟩:=I.loc
  refine .cons (by rw[I.ok.kind];decide) hf hn ?_ I.B5
  exact Heap.get?_none_of_le (le_trans I.ok.Fq I.ok.above)
theorem Inv.Br (I:Inv X pins σ H s):∀ b ∈ ly X.stack,b ∈ X.env.locals :: X.fs:=fun b hb=>by
 rcases I.ok.NP with e | ⟨e,hf⟩
 ·rw[e]at hb;exact mem_cons_of_mem _ hb
 ·rw[e]at hb
  unfold ly at hb
  rw[filterMap_cons,hf]at hb
  exact hb
theorem Inv.Cu (I:Inv X pins σ H s):∀ b ∈ ly X.stack,H b=none:=fun b hb=>by
 rcases mem_cons.mp (I.Br b hb) with e | hb
 ·rw[e];exact I.free
 ·obtain⟨_,o,ho,_⟩:=I.ok.B5.mem hb
  exact I.base.free b o ho (I.ok.HF b hb) fun z=>I.ok.Ft b z hb
theorem Inv.step {g':Array GenState}{t':Nat}{d':Drawn}{ch:List Addr}(I:Inv X pins σ H s)
  (BR:∀ b ∈ ch,(b ∈ X.ex∨X.s₀.heap.objs.size <= b)/\b ≠ X.env.locals/\(∀ x c,X.env.cells.lookup x=some c->c ≠ b)/\∀ p ∈ X.pn ++ pins,p.1 ≠ b)
  (keep:∀ b o,b ≠ X.env.locals->b ∉ X.fs->b ∉ ch->s.heap.get? b=some o->H b=none->h'.get? b=some o)
  (slot:∀ b o,b ≠ X.env.locals->b ∈ X.fs->b ∉ ch->s.heap.get? b=some o->H b=none->∃ sl,h'.get? b=some { o with slots:=sl }) (free:∀ b o,b ∉ ch->s.heap.get? b=some o->H b=none->H' b=none)
  (there:∀ b o,b ∉ ch->s.heap.get? b=some o->∃ o',h'.get? b=some o')
  (BG:∀ b xs,H b=some (.tup xs)->H' b=some (.tup xs)) (B4:∀ b o u,H b=some (.Bx o u)->H' b=some (.Bx o u)) (BH:∀ b ps,H b=some (.FV ps)->∃ more,H' b=some (.FV (ps ++ more)))
  (ns:∀ m,s.heap.Ns X.env.locals m->h'.Ns X.env.locals m) (zL:AH X.prog X.w H' h') (hg:AllBare g') :
  Inv X pins σ H' { s with heap:=h',gens:=g',drawn:=d',toks:=t' }:=by
 have Vc:∀ b o,X.s₀.heap.get? b=some o->b ≠ X.env.locals:=fun b o e=>ne_of_lt (lt_of_lt_of_le (lt_size e) I.ok.above)
 have NQ:∀ b o,X.s₀.heap.get? b=some o->b ∉ X.ex->b ∉ ch:=fun b o e hx hb=>by
  rcases (BR b hb).1 with z | z
  ·exact hx z
  ·exact absurd (lt_of_lt_of_le (lt_size e) z) (lt_irrefl _)
 have cellK:∀ x c,X.env.cells.lookup x=some c->∀ v,s.heap.IsCell c v->h'.IsCell c v:=fun x c e v ⟨o,ho,hd⟩=>by
  have JI:c ∉ ch:=fun z=>(BR c z).2.2.1 x c e rfl
  by_cases hc:c ∈ X.fs
  ·obtain⟨sl,q⟩:=slot c o (I.En x c e) hc JI ho (I.As x c e)
   exact⟨_,q,hd⟩
  ·exact⟨o,keep c o (I.En x c e) hc JI ho (I.As x c e),hd⟩
 refine⟨I.ok,I.os,hg,⟨fun b o e n hb hx=>?_,fun b o e n hb hx=>?_,fun b o e n hx=>?_,fun b o e hx=>?_,fun b xs e=>BG b xs (I.base.BG b xs e),fun b o xs e=>B4 b o xs (I.base.B4 b o xs e),fun b ps e=>?_⟩,?_,fun x c e=>?_,?_,fun x c e=>?_,fun p hp=>?_,zL,I.len⟩
 ·exact keep b o (Vc b o e) hb (NQ b o e hx) (I.base.keep b o e n hb hx) (I.base.free b o e n hx)
 ·obtain⟨sl,e1⟩:=I.base.slot b o e n hb hx
  obtain⟨sl',e2⟩:=slot b _ (Vc b o e) hb (NQ b o e hx) e1 (I.base.free b o e n hx)
  exact⟨sl',e2⟩
 ·obtain⟨o',e1⟩:=I.base.there b o e hx
  exact free b o' (NQ b o e hx) e1 (I.base.free b o e n hx)
 ·obtain⟨o',e1⟩:=I.base.there b o e hx
  exact there b o' (NQ b o e hx) e1
 ·obtain⟨m1,e1⟩:=I.base.BH b ps e
  obtain⟨m2,e2⟩:=BH b _ e1
  exact⟨m1 ++ m2,by rw[e2,Array.append_assoc]⟩
 ·obtain⟨m,hn,hl⟩:=I.loc
  refine⟨m,ns m hn,fun i x v e1 e2 e3=>?_⟩
  obtain⟨u,r,l⟩:=hl i x v e1 e2 e3
  refine⟨u,r,?_⟩
  rcases l with l | ⟨k,c,e,z⟩
  ·exact .inl l
  ·exact .inr ⟨k,c,e,cellK x c e _ z⟩
 ·obtain⟨v,z⟩:=I.cell x c e
  exact⟨v,cellK x c e v z⟩
 ·obtain⟨m,⟨o,_,_,ho,_⟩,_⟩:=I.loc
  exact free _ o (fun z=>(BR _ z).2.1 rfl) ho I.free
 ·obtain⟨v,o,ho,hd⟩:=I.cell x c e
  exact free c o (fun z=>(BR c z).2.2.1 x c e rfl) ho (I.As x c e)
 ·obtain⟨e,n,ne,nf,d⟩:=I.pin p hp
  have JI:p.1 ∉ ch:=fun z=>(BR p.1 z).2.2.2 p hp rfl
  exact⟨keep p.1 p.2 ne nf JI e n,free p.1 p.2 JI e n,ne,nf,d⟩
theorem Inv.un {t':Nat}(I:Inv X pins σ H s)(u:Un X.fs [] H H' s.heap h')(zL:AH X.prog X.w H' h'):Inv X pins σ H' { s with heap:=h',toks:=t' }:=by
 obtain⟨m,⟨o,es,ep,ho,r⟩,_⟩:=id I.loc
 obtain⟨sl,hL⟩:=u.any ho I.free (by simp)
 exact I.step (g':=s.gens) (d':=s.drawn) (ch:=[]) (fun _ z=>nomatch z) (fun b o _ hb _ e n=>u.keep b o e n hb (by simp)) (fun b o _ hb _ e n=>u.slot b o e n hb (by simp)) (fun b o _ e n=>u.free b o e n (by simp)) (fun b o _ e=>u.there b o e (by simp)) u.BG u.B4 u.BH (fun m' hm=>by
  obtain⟨o',FW,Pz,Fu,r'⟩:=hm
  rw[ho]at Fu;cases Fu
  exact⟨_,FW,Pz,hL,r'⟩) zL I.bare
theorem Inv.call {g':Array GenState}{t':Nat}{d':Drawn}{ch:List Addr}(I:Inv X pins σ H s)(u:Un (ly X.stack) ch H H' s.heap h')(zL:AH X.prog X.w H' h')(hg:AllBare g')
  (BR:∀ b ∈ ch,(b ∈ X.ex∨X.s₀.heap.objs.size <= b)/\b ≠ X.env.locals/\(∀ x c,X.env.cells.lookup x=some c->c ≠ b)/\∀ p ∈ X.pn ++ pins,p.1 ≠ b) :
  Inv X pins σ H' { s with heap:=h',gens:=g',drawn:=d',toks:=t' }:=by
 obtain⟨m,⟨o,es,ep,ho,r⟩,_⟩:=id I.loc
 obtain⟨sl,hL⟩:=u.any ho I.free fun z=>(BR _ z).2.1 rfl
 exact I.step (ch:=ch) BR (fun b o hL hb hc e n=>u.keep b o e n (fun z=>(mem_cons.mp (I.Br b z)).elim hL hb) hc) (fun b o _ _ hc e n=>u.any e n hc) (fun b o hc e n=>u.free b o e n hc) (fun b o hc e=>u.there b o e hc) u.BG u.B4 u.BH (fun m' hm=>by
  obtain⟨o',FW,Pz,Fu,r'⟩:=hm
  rw[ho]at Fu;cases Fu
  exact⟨_,FW,Pz,hL,r'⟩) zL hg
theorem Inv.turned {t':Nat}{it:Addr}(I:Inv X pins σ H s)(k:∀ b o,b ≠ it->s.heap.get? b=some o->h'.get? b=some o)(hn:H it=none)(hL:it ≠ X.env.locals)
  (h1:it ∈ X.ex∨X.s₀.heap.objs.size <= it) (h2:∀ x c,X.env.cells.lookup x=some c->c ≠ it) (h3:∀ p ∈ X.pn ++ pins,p.1 ≠ it):Inv X pins σ H { s with heap:=h',toks:=t' }:=by
 have Vd:∀ b u,H b=some u->b ≠ it:=fun b u e z=>by rw[z,hn]at e;cases e
 refine I.step (g':=s.gens) (d':=s.drawn) (ch:=[it]) (fun b hb=>?_) (fun b o _ _ hc e _=>k b o (fun z=>hc (by simp[z])) e) (fun b o _ _ hc e _=>⟨o.slots,k b o (fun z=>hc (by simp[z])) e⟩) (fun _ _ _ _ n=>n)
  (fun b o hc e=>⟨o,k b o (fun z=>hc (by simp[z])) e⟩) (fun _ _ e=>e) (fun _ _ _ e=>e) (fun b ps e=>⟨#[],by rw[e];simp⟩) (fun m hm=>?_) (fun b u e=>?_) I.bare
 ·have e:b=it:=by simpa using hb
  subst e
  exact⟨h1,hL,h2,h3⟩
 ·obtain⟨o,es,ep,ho,r⟩:=hm
  exact⟨o,es,ep,k _ o (Ne.symm hL) ho,r⟩
 ·refine(I.zL b u e).B3 (fun c v hc q=>k c v ?_ q) (fun _ q=>q) fun _ _ q=>q
  rcases hc with z | z
  ·rw[z];exact Vd b u e
  ·exact Vd c _ z
theorem Inv.tok (I:Inv X pins σ H s)(t:Nat):Inv X pins σ H { s with toks:=t }:=I.un (h':=s.heap) (t':=t) Un.refl I.zL
theorem Inv.kept {t':Nat}(I:Inv X pins σ H s)(k:∀ b u,s.heap.get? b=some u->h'.get? b=some u):Inv X pins σ H { s with heap:=h',toks:=t' }:=I.un (Un.kept k) (I.zL.kept k)
theorem Inv.laid {a:Addr}{o:HO}{t':Nat}(I:Inv X pins σ H s)(k:∀ b u,s.heap.get? b=some u->h'.get? b=some u)(hp:s.heap.objs.size <= a)(new:zV X.prog X.w (upd H a o) h' a o) :
  Inv X pins σ (upd H a o) { s with heap:=h',toks:=t' }:=I.un (Un.laid k hp (I.zL.fresh hp)) (I.zL.laid k hp new)
theorem Inv.write {x e:Addr}{o:HO}{t':Nat}(I:Inv X pins σ H s)(mu:JF (H x))(he:e=x∨H e=some (.own x))(k:∀ b u,b ≠ e->s.heap.get? b=some u->h'.get? b=some u)(Jb:∃ u,h'.get? e=some u)
  (new:zV X.prog X.w (upd H x o) h' x o):Inv X pins σ (upd H x o) { s with heap:=h',toks:=t' }:=I.un (Un.write mu he k Jb) (I.zL.write mu he k Jb new)
theorem Inv.AQ {CD:List (Addr × Obj)}(I:Inv X pins σ H s)(h:∀ p ∈ CD,s.heap.get? p.1=some p.2/\H p.1=none/\p.1 ≠ X.env.locals/\p.1 ∉ X.fs/\∀ v,p.2.data ≠ .cell v):Inv X CD σ H s :=
 ⟨I.ok,I.os,I.bare,I.base,I.loc,I.cell,I.free,I.As,fun p hp=>(mem_append.mp hp).elim (fun z=>I.pin p (mem_append_left _ z)) (h p),I.zL,I.len⟩
theorem c5 {N:List Str}(hN:N.Nodup){i j:Nat}{x:Str}(a:N[i]? = some x)(b:N[j]? = some x):i=j:=by
 obtain⟨h1,e1⟩:=List.getElem?_eq_some_iff.mp a
 obtain⟨h2,e2⟩:=List.getElem?_eq_some_iff.mp b
 exact(List.getElem_inj hN).mp (e1.trans e2.symm)
theorem jV {M:Model}{A:Around}{E:Value->Shared->Prop}{i:Nat}{x:Str}{v:V}{u:Value}{Q:Unit->Shared->Prop}(I:Inv X pins σ H s)(hN:X.N.Nodup)(hi:X.N[i]? = some x)(hx:Loc X.env.scope x)(r:RelV v u)
  (h:∀ s',Inv X pins (σ.set i (some v)) H s'->(∃ a,Heap.SameBut a s.heap s'.heap/\(a=X.env.locals∨X.env.cells.lookup x=some a))->Q () s') (hf:X.fn x=true∨X.env.scope.names.lookup x=some .local:=by first | exact .inl rfl | exact .inr rfl | assumption):wpAny M A (storeName X.env x u) Q E s:=by
 obtain⟨m,hn,hl⟩:=id I.loc
 have P0:(X.env.scope.kind == .class || (X.env.scope.kind == .module && X.env.locals != X.env.globals))=false:=by rw[I.ok.kind];rfl
 have JK:i < σ.length:=by rw[I.len];exact(List.getElem?_eq_some_iff.mp hi).1
 have En:=I.En
 have tracked:∀ {a:Addr}{h':Heap},(∃ o,s.heap.get? a=some o/\H a=none)->Heap.SameBut a s.heap h'->AH X.prog X.w H h':=fun {a h'} ha hs b ob e=>by
  obtain⟨_,_,FX⟩:=ha
  refine(I.zL b ob e).B3 (fun c w' hc q=>(hs.2 c ?_).trans q) (fun _ q=>q) fun _ _ q=>q
  rintro rfl
  rcases hc with rfl | hc
  ·rw[FX]at e;cases e
  ·rw[FX]at hc;cases hc
 rcases hx with hk | hk
 ·refine wpAny_storeName_local hk hn (fun h' BV hs=>?_) P0
  obtain⟨oL,_,_,hoL,_⟩:=id hn
  refine h _ ⟨I.ok,I.os,I.bare,⟨fun b o e n hb hx=>?_,fun b o e n hb hx=>?_,I.base.free,fun b o e hx=>?_,I.base.BG,I.base.B4,I.base.BH⟩,⟨_,BV,fun j y v' e1 e2 e3=>?_⟩,fun y c e=>?_,I.free,I.As,fun p hp=>?_,tracked ⟨oL,hoL,I.free⟩ hs,by simpa using I.len⟩ ⟨_,hs, .inl rfl⟩
  ·exact(hs.2 b (ne_of_lt (lt_of_lt_of_le (lt_size e) I.ok.above))).trans (I.base.keep b o e n hb hx)
  ·obtain⟨sl,e1⟩:=I.base.slot b o e n hb hx
   exact⟨sl,(hs.2 b (ne_of_lt (lt_of_lt_of_le (lt_size e) I.ok.above))).trans e1⟩
  ·obtain⟨o',e1⟩:=I.base.there b o e hx
   exact⟨o',(hs.2 b (ne_of_lt (lt_of_lt_of_le (lt_size e) I.ok.above))).trans e1⟩
  ·by_cases hj:j=i
   ·subst hj
    rw[hi]at e1;cases e1
    rw[List.getElem?_set_self JK]at e2
    cases e2
    exact⟨u,r, .inl ⟨hk,by simp⟩⟩
   ·rw[List.getElem?_set_ne (Ne.symm hj)]at e2
    obtain⟨u',r',q⟩:=hl j y v' e1 e2 e3
    refine⟨u',r',?_⟩
    rcases q with ⟨k,e⟩ | ⟨k,c,e,z⟩
    ·refine .inl ⟨k,?_⟩
     have:y ≠ x:=fun e=>hj (c5 hN e1 (e ▸ hi))
     simp[this,e]
    ·exact .inr ⟨k,c,e,z.sameBut hs (En y c e)⟩
  ·obtain⟨w',z⟩:=I.cell y c e
   exact⟨w',z.sameBut hs (En y c e)⟩
  ·obtain⟨e,n,ne,nf,d⟩:=I.pin p hp
   exact⟨(hs.2 p.1 ne).trans e,n,ne,nf,d⟩
 ·have P4:X.fn x=true:=by
   rcases hf with z | z
   ·exact z
   ·rw[z]at hk;cases hk
  obtain⟨c,hc⟩:=I.ok.has x (.inl hk)
  obtain⟨w',z⟩:=I.cell x c hc
  refine wpAny_storeName_cell I.ok.kind hk hc z (fun h' Jd hs=>?_)
  obtain⟨oc,Ve,P5⟩:=id z
  refine h { s with heap:=h' } ⟨I.ok,I.os,I.bare,⟨fun b o e n hb hx=>?_,fun b o e n hb hx=>?_,I.base.free,fun b o e hx=>?_,I.base.BG,I.base.B4,I.base.BH⟩,⟨m,hn.sameBut hs (Ne.symm (En x c hc)),fun j y v' e1 e2 e3=>?_⟩,fun y c' e=>?_,I.free,I.As,fun p hp=>?_,tracked ⟨oc,Ve,I.As x c hc⟩ hs,by simpa using I.len⟩ ⟨c,hs, .inr hc⟩
  ·exact(hs.2 b (ne_of_lt (lt_of_lt_of_le (lt_size e) (I.ok.JH x c P4 hc)))).trans (I.base.keep b o e n hb hx)
  ·obtain⟨sl,e1⟩:=I.base.slot b o e n hb hx
   exact⟨sl,(hs.2 b (ne_of_lt (lt_of_lt_of_le (lt_size e) (I.ok.JH x c P4 hc)))).trans e1⟩
  ·obtain⟨o',e1⟩:=I.base.there b o e hx
   exact⟨o',(hs.2 b (ne_of_lt (lt_of_lt_of_le (lt_size e) (I.ok.JH x c P4 hc)))).trans e1⟩
  ·by_cases hj:j=i
   ·subst hj
    rw[hi]at e1;cases e1
    rw[List.getElem?_set_self JK]at e2
    cases e2
    exact⟨u,r, .inr ⟨.inl hk,c,hc,Jd⟩⟩
   ·rw[List.getElem?_set_ne (Ne.symm hj)]at e2
    obtain⟨u',r',q⟩:=hl j y v' e1 e2 e3
    refine⟨u',r',?_⟩
    rcases q with q | ⟨k,c',e,z'⟩
    ·exact .inl q
    ·refine .inr ⟨k,c',e,z'.sameBut hs ?_⟩
     rintro rfl
     exact hj (c5 hN e1 (I.ok.inj _ _ _ e hc ▸ hi))
  ·by_cases NR:c' = c
   ·subst NR;exact⟨_,Jd⟩
   ·obtain⟨w2,z2⟩:=I.cell y c' e
    exact⟨w2,z2.sameBut hs NR⟩
  ·obtain⟨e,n,ne,nf,d⟩:=I.pin p hp
   refine⟨(hs.2 p.1 ?_).trans e,n,ne,nf,d⟩
   intro q
   rw[q,Ve]at e
   have q':oc=p.2:=Option.some.inj e
   exact d w' (by rw[← q'];exact P5)
theorem jg {M:Model}{A:Around}{E:Value->Shared->Prop}{i:Nat}{x:Str}{v:V}{u:Value}{Q:Unit->Shared->Prop}(I:Inv X pins σ H s)(hN:X.N.Nodup)(hi:X.N[i]? = some x)(hx:Loc X.env.scope x)(r:RelV v u)
  (h:∀ s',Inv X pins (σ.set i (some v)) H s'->Q () s') (hf:X.fn x=true∨X.env.scope.names.lookup x=some .local:=by first | exact .inl rfl | exact .inr rfl | assumption):wpAny M A (storeName X.env x u) Q E s :=
 jV I hN hi hx r (fun s' I' _=>h s' I') hf
theorem Inv.FY {s':Shared}{ch:List Addr}(I:Inv X pins σ H s)(ho:s'.os=s.os)(u:Un (ly X.stack) ch H H' s.heap s'.heap)(zL:AH X.prog X.w H' s'.heap)(hg:AllBare s'.gens)
  (BR:∀ b ∈ ch,(b ∈ X.ex∨X.s₀.heap.objs.size <= b)/\b ≠ X.env.locals/\(∀ x c,X.env.cells.lookup x=some c->c ≠ b)/\∀ p ∈ X.pn ++ pins,p.1 ≠ b):Inv X pins σ H' s':=by
 obtain⟨h',g',d',t',o'⟩:=s'
 have e:o' = s.os:=ho
 subst e
 exact I.call (g':=g') (t':=t') (d':=d') u zL hg BR
end
abbrev XK:=Value->Option Addr->Hp->Prop
abbrev St:=List (Option V)
abbrev VK:=V->Hp->Prop
abbrev TE:=St->Hp->VK->Prop
abbrev TT:=St->Hp->(Bool->Hp->Prop)->Prop
abbrev TA:=St->Hp->(List V->Hp->Prop)->Prop
structure jR where
 nx:St->Hp->Prop
 rt:VK
 bk:St->Hp->Prop:=fun _ _=>False
 ct:St->Hp->Prop:=fun _ _=>False
abbrev TS:=jR->St->Hp->Prop
noncomputable def EP (X:Cx)(pins:List (Addr × Obj))(σ:St)(Q:VK)(u:Value)(s':Shared):Prop:=∃ v H',Inv X pins σ H' s'/\RelV v u/\Q v H'
noncomputable def TP (X:Cx)(pins:List (Addr × Obj))(σ:St)(Q:Bool->Hp->Prop)(b:Bool)(s':Shared):Prop:=∃ H',Inv X pins σ H' s'/\Q b H'
noncomputable def AP (X:Cx)(pins:List (Addr × Obj))(σ:St)(Q:List V->Hp->Prop)(us:List Value)(s':Shared):Prop:=∃ vs H',Inv X pins σ H' s'/\Vals vs us/\Q vs H'
noncomputable def SP (X:Cx)(pins:List (Addr × Obj))(D:jR)(f:Flow)(s':Shared):Prop :=
 match f with
 | .next=>∃ σ' H',Inv X pins σ' H' s'/\D.nx σ' H'
 | .brk=>∃ σ' H',Inv X pins σ' H' s'/\D.bk σ' H'
 | .cont=>∃ σ' H',Inv X pins σ' H' s'/\D.ct σ' H'
 | .ret u=>∃ v σ' H',Inv X pins σ' H' s'/\RelV v u/\D.rt v H'
noncomputable def PE (X:Cx)(e:Expr)(t:TE):Prop :=
 ∀ (pins:List (Addr × Obj))(s:Shared)(σ:St)(H:Hp)(Q:VK),Inv X pins σ H s->t σ H Q->wpAny (model X.prog X.w) X.A (eval e X.env) (EP X pins σ Q) X.xe s
noncomputable def PT (X:Cx)(e:Expr)(t:TT):Prop :=
 ∀ (pins:List (Addr × Obj))(s:Shared)(σ:St)(H:Hp)(Q:Bool->Hp->Prop),Inv X pins σ H s->t σ H Q->wpAny (model X.prog X.w) X.A (isTrue e X.env (eval e X.env)) (TP X pins σ Q) X.xe s
noncomputable def PW (X:Cx)(e:Expr)(t:TT):Prop :=
 ∀ (whole:Sem Value)(pins:List (Addr × Obj))(s:Shared)(σ:St)(H:Hp)(Q:Bool->Hp->Prop),Inv X pins σ H s->t σ H Q->wpAny (model X.prog X.w) X.A (isTrue e X.env whole) (TP X pins σ Q) X.xe s
theorem PW.pt {X:Cx}{e:Expr}{t:TT}(h:PW X e t):PT X e t:=h _
noncomputable def PA (X:Cx)(es:List Expr)(t:TA):Prop :=
 ∀ (pos:Pos)(pins:List (Addr × Obj))(s:Shared)(σ:St)(H:Hp)(Q:List V->Hp->Prop),Inv X pins σ H s->t σ H Q->wpAny (model X.prog X.w) X.A (spliced (backTo pos (starEach es X.env))) (AP X pins σ Q) X.xe s
noncomputable def PS (X:Cx)(st:Stmt)(t:TS):Prop :=
 ∀ (pins:List (Addr × Obj))(s:Shared)(σ:St)(H:Hp)(D:jR),Inv X pins σ H s->t D σ H->wpAny (model X.prog X.w) X.A (exec st X.env) (SP X pins D) X.xe s
noncomputable def Dn (X:Cx)(st:List Stmt)(t:TS):Prop :=
 ∀ (pins:List (Addr × Obj))(s:Shared)(σ:St)(H:Hp)(D:jR),Inv X pins σ H s->t D σ H->wpAny (model X.prog X.w) X.A (execs st X.env) (SP X pins D) X.xe s
theorem aT {α:Type}{t:Sem α}{Q Q':α->Shared->Prop}{M:Model}{A:Around}{E:Value->Shared->Prop}{s:Shared}(h:wpAny M A t Q E s)(hQ:∀ a s,Q a s->Q' a s):wpAny M A t Q' E s:=wpAny_mono h hQ fun _ _ x=>x
end L2
namespace L2
open PySem PySem.Spec PyProof.Rows
section
variable {X:Cx}
noncomputable def qt (i:Nat):TE:=fun σ H Q=>∃ v,σ[i]? = some (some v)/\Q v H
noncomputable def tC (v:V):TE:=fun _ H Q=>Q v H
theorem yo {i:Nat}{x:Str}{pos:Pos}(hN:X.N[i]? = some x)(hv:NO X.env.scope x)(hd:(x == ("__debug__":Str))=false:=by decide)(Dp:(x == ("__classdict__":Str))=false:=by decide):PE X (.Name x pos) (qt i):=by
 intro pins s σ H Q I h
 obtain⟨v,e,h⟩:=h
 obtain⟨m,hn,hl⟩:=I.loc
 obtain⟨u,r,l⟩:=hl i x v hN e hv
 have fin:EP X pins σ Q u s:=⟨v,H,I,r,h⟩
 rcases l with ⟨hk,hm⟩ | ⟨hk,c,hc,Ce⟩
 ·exact wpAny_Name (wpAny_loadName_local I.ok.kind hk hn hm fin) hd
 ·rcases hk with hk | hk
  ·exact wpAny_Name (wpAny_loadName_cell I.ok.kind hk hc Ce fin) hd
  ·exact wpAny_Name (wpAny_loadName_free I.ok.kind hk hc Ce fin Dp) hd
theorem aj {i j pos}:PE X (.Constant (.int i) j pos) (tC (.int i)):=fun _ _ _ H _ I h=>wpAny_Constant_int ⟨.int i,H,I.tok _,⟨_,rfl⟩,h⟩
theorem ge {b j pos}:PE X (.Constant (.bool b) j pos) (tC (.bl b)):=fun _ _ _ H _ I h=>Constant_bool ⟨.bl b,H,I,rfl,h⟩
theorem bV {j pos}:PE X (.Constant .none j pos) (tC .zT):=fun _ _ _ H _ I h=>Constant_none ⟨.zT,H,I,rfl,h⟩
theorem bv {x j pos}:PE X (.Constant (.str x) j pos) (tC (.str x)):=fun _ _ _ H _ I h=>Calls.Constant_str ⟨.str x,H,I.tok _,⟨_,rfl⟩,h⟩
noncomputable def Gl (X:Cx)(x:Str):Prop:=X.env.kindOf x=some .globalImplicit
theorem ie {E:Value->Shared->Prop}{pins:List (Addr × Obj)}{s:Shared}{σ:St}{H:Hp}{x:Str}{u:Value}{pos:Pos}{Q:Value->Shared->Prop}(I:Inv X pins σ H s)(hg:Gl X x)(hm:X.mg x=some u)(h:Q u s)
  (hd:(x == ("__debug__":Str))=false:=by decide):wpAny (model X.prog X.w) X.A (eval (.Name x pos) X.env) Q E s :=
 Calls.Name_function_global I.ok.kind hg (Calls.loadGlobal_global (by rw[I.ok.glob];exact I.mod.glob.keeps I.bk) hm h) hd
theorem fJ {E:Value->Shared->Prop}{pins:List (Addr × Obj)}{s:Shared}{σ:St}{H:Hp}{x:Str}{u:Value}{pos:Pos}{Q:Value->Shared->Prop}(I:Inv X pins σ H s)(hg:Gl X x)(hm:X.mg x=none)(hv:bootBuiltins x=some u)(h:Q u s)
  (hn:x ≠ "__name__":=by decide) (hd:(x == ("__debug__":Str))=false:=by decide):wpAny (model X.prog X.w) X.A (eval (.Name x pos) X.env) Q E s:=by
 obtain⟨mb,h1,h2⟩:=I.mod.blt
 exact Calls.Name_function_global I.ok.kind hg (Calls.loadGlobal_builtin (by rw[I.ok.glob];exact I.mod.glob.keeps I.bk) hm (by rw[I.ok.blt];exact h1.keeps I.bk) ((h2 x hn).trans hv) h) hd
theorem eK {x:Str}{v:V}{u:Value}{pos:Pos}(hg:Gl X x)(hm:X.mg x=some u)(r:RelV v u)(hd:(x == ("__debug__":Str))=false:=by decide):PE X (.Name x pos) (tC v) :=
 fun _ _ _ H _ I h=>ie I hg hm ⟨v,H,I,r,h⟩ hd
theorem fQ {x:Str}{v:V}{u:Value}{pos:Pos}(hg:Gl X x)(hm:X.mg x=none)(hv:bootBuiltins x=some u)(r:RelV v u)(hn:x ≠ "__name__":=by decide)(hd:(x == ("__debug__":Str))=false:=by decide):PE X (.Name x pos) (tC v) :=
 fun _ _ _ H _ I h=>fJ I hg hm hv ⟨v,H,I,r,h⟩ hn hd
variable {a b:Expr}{ta tb:TE}{pos:Pos}
noncomputable def PC (X:Cx)(op:CmpOp)(a b:Expr)(t:TE):Prop :=
 ∀ (pins:List (Addr × Obj))(s:Shared)(σ:St)(H:Hp)(Q:VK),Inv X pins σ H s->t σ H Q ->
  wpAny (model X.prog X.w) X.A (eval a X.env) (fun v s₁=>wpAny (model X.prog X.w) X.A (eval b X.env) (fun u s₂=>wpAny (model X.prog X.w) X.A (compareOp op v u) (EP X pins σ Q) X.xe s₂) X.xe s₁) X.xe s
noncomputable def tB (t:TE):TT:=fun σ H Q=>t σ H fun x H1=>∃ c,x = .bl c/\Q c H1
theorem tq {op:CmpOp}{t:TE}(h:PC X op a b t)(h1:behindInMarks op b=false:=by first | exact JL _ (by decide) (by decide) | rfl):PT X (.Compare a [op] [b] pos) (tB t):=by
 intro pins s σ H Q I hw
 refine wpAny_isTrue_Compare1 (aT (h pins s σ H _ I hw) fun v s1 h1=>aT h1 fun u s2 h2=>aT h2 fun c s3 zH=>?_) h1
 obtain⟨x,H1,I1,r1,q1⟩:=zH
 obtain⟨d,rfl,q⟩:=q1
 cases r1
 exact wpAny_truthy_bool ⟨H1,I1,q⟩
theorem bu {e:Expr}{t:TE}(h:PE X e t)(he:∀ whole,isTrue e X.env whole=(do let v ← whole;standAt e.pos;holding [v] (truthy v)):=by intro _;rfl):PT X e (tB t):=by
 intro pins s σ H Q I hw
 refine isTrue_plain (aT (h pins s σ H _ I hw) fun v s1 zH=>?_) (he _)
 obtain⟨x,H1,I1,r1,q1⟩:=zH
 obtain⟨d,rfl,q⟩:=q1
 cases r1
 exact wpAny_truthy_bool ⟨H1,I1,q⟩
variable {tA NS:TT}{rest:List Expr}
noncomputable def P6 (t u:TT):TT:=fun σ H Q=>t σ H fun c H1=>if c=true then u σ H1 Q else Q false H1
noncomputable def tOr (t u:TT):TT:=fun σ H Q=>t σ H fun c H1=>if c=true then Q true H1 else u σ H1 Q
noncomputable def P7 (t:TT):TT:=fun σ H Q=>t σ H fun c H1=>Q (!c) H1
theorem dG (ha:PT X a tA):PW X (.BoolOp .And [a] pos) tA:=by
 intro wh pins s σ H Q I h
 refine isTrue_and (aT (ha pins s σ H Q I h) fun c s1 e=>?_)
 cases c with
 | true=>exact isTrue_and_nil e
 | false=>exact e
theorem dL (ha:PT X a tA):PW X (.BoolOp .Or [a] pos) tA:=by
 intro wh pins s σ H Q I h
 refine isTrue_or (aT (ha pins s σ H Q I h) fun c s1 e=>?_)
 cases c with
 | false=>exact isTrue_or_nil e
 | true=>exact e
theorem eI (ha:PT X a tA)(hb:PW X (.BoolOp .And (b :: rest) pos) NS):PW X (.BoolOp .And (a :: b :: rest) pos) (P6 tA NS):=by
 intro wh pins s σ H Q I h
 refine isTrue_and (aT (ha pins s σ H _ I h) fun c s1 zH=>?_)
 obtain⟨H1,I1,q1⟩:=zH
 cases c with
 | true=>exact hb wh pins s1 σ H1 Q I1 q1
 | false=>exact⟨H1,I1,q1⟩
theorem eR (ha:PT X a tA)(hb:PW X (.BoolOp .Or (b :: rest) pos) NS):PW X (.BoolOp .Or (a :: b :: rest) pos) (tOr tA NS):=by
 intro wh pins s σ H Q I h
 refine isTrue_or (aT (ha pins s σ H _ I h) fun c s1 zH=>?_)
 obtain⟨H1,I1,q1⟩:=zH
 cases c with
 | true=>exact⟨H1,I1,q1⟩
 | false=>exact hb wh pins s1 σ H1 Q I1 q1
theorem bE (ha:PT X a tA):PT X (.UnaryOp .Not a pos) (P7 tA):=by
 intro pins s σ H Q I h
 exact isTrue_not (ha pins s σ H (fun c H1=>Q (!c) H1) I h)
noncomputable def JM (ta tb:TE):TE:=fun σ H Q=>ta σ H fun x H1=>∃ c,x = .bl c/\if c=true then tb σ H1 Q else Q (.bl false) H1
noncomputable def P8 (ta tb:TE):TE:=fun σ H Q=>ta σ H fun x H1=>∃ c,x = .bl c/\if c=true then Q (.bl true) H1 else tb σ H1 Q
noncomputable def JN (ta:TE):TE:=fun σ H Q=>ta σ H fun x H1=>∃ c,x = .bl c/\Q (.bl (!c)) H1
theorem c7 {op} {t:TE} (h:PE X a t):PE X (.BoolOp op [a] pos) t:=fun pins s σ H Q I hw=>BoolOp_one (h pins s σ H Q I hw)
theorem c8 (ha:PE X a ta)(hb:PE X (.BoolOp .And (b :: rest) pos) tb):PE X (.BoolOp .And (a :: b :: rest) pos) (JM ta tb):=by
 intro pins s σ H Q I h
 refine BoolOp_and (aT (ha pins s σ H _ I h) fun v s1 zH=>?_)
 obtain⟨x,H1,I1,r1,q1⟩:=zH
 obtain⟨c,rfl,q1⟩:=q1
 cases r1
 refine wpAny_truthy_bool ?_
 cases c with
 | true=>exact hb pins s1 σ H1 Q I1 q1
 | false=>exact⟨.bl false,H1,I1,rfl,q1⟩
theorem JO (ha:PE X a ta)(hb:PE X (.BoolOp .Or (b :: rest) pos) tb):PE X (.BoolOp .Or (a :: b :: rest) pos) (P8 ta tb):=by
 intro pins s σ H Q I h
 refine BoolOp_or (aT (ha pins s σ H _ I h) fun v s1 zH=>?_)
 obtain⟨x,H1,I1,r1,q1⟩:=zH
 obtain⟨c,rfl,q1⟩:=q1
 cases r1
 refine wpAny_truthy_bool ?_
 cases c with
 | false=>exact hb pins s1 σ H1 Q I1 q1
 | true=>exact⟨.bl true,H1,I1,rfl,q1⟩
theorem tE (ha:PE X a ta):PE X (.UnaryOp .Not a pos) (JN ta):=by
 intro pins s σ H Q I h
 refine UnaryOp_ (aT (ha pins s σ H _ I h) fun v s1 zH=>?_)
 obtain⟨x,H1,I1,r1,q1⟩:=zH
 obtain⟨c,rfl,q1⟩:=q1
 cases r1
 exact not_of (wpAny_truthy_bool ⟨.bl (!c),H1,I1,rfl,q1⟩)
noncomputable def tIf (t:TT)(ta tb:TE):TE:=fun σ H Q=>t σ H fun c H1=>if c=true then ta σ H1 Q else tb σ H1 Q
theorem dj {c:Expr}(hc:PT X c tA)(ha:PE X a ta)(hb:PE X b tb):PE X (.IfExp c a b pos) (tIf tA ta tb):=by
 intro pins s σ H Q I h
 refine wpAny_IfExp (aT (hc pins s σ H _ I h) fun d s1 zH=>?_)
 obtain⟨H1,I1,q1⟩:=zH
 cases d with
 | true=>exact ha pins s1 σ H1 Q I1 q1
 | false=>exact hb pins s1 σ H1 Q I1 q1
end
end L2
namespace L2
open PySem PySem.Spec PyProof.Rows
noncomputable def zJ (K:Frag)(H:Hp)(a:Addr)(xs:List V):Prop :=
 Rd H a (.lst xs) ∨
  ∃ (o:Obj)(zI:Array Value)(n:Nat),K.lookup a=some o/\o.cls = .type "list"/\o.dict=none/\o.data = .seq zI n/\zI.size <= sizeLine/\Vals xs zI.toList
noncomputable def zM (K:Frag)(H:Hp)(a:Addr)(xs:List V):Prop :=
 Rd H a (.tup xs) ∨
  ∃ (o:Obj)(zI:Array Value)(n:Nat),K.lookup a=some o/\o.cls = .type "tuple"/\o.data = .seq zI n/\zI.size <= sizeLine/\Vals xs zI.toList
noncomputable def P9:Value->Option V
 | .none=>some .zT
 | .bool b=>some (.bl b)
 | .int i _=>some (.int i)
 | .str x _=>some (.str x)
 | .bytes b _=>some (.DE b)
 | .float b _=>some (.HD b)
 | .ref a=>some (.ref a)
 | .type n=>some (.ty n)
 | _=>none
theorem RelV.abs {x:V}{u:Value}(r:RelV x u):P9 u=some x:=by
 cases x with
 | zT=>cases r;rfl
 | bl _=>cases r;rfl
 | int _=>obtain⟨t,rfl⟩:=r;rfl
 | str _=>obtain⟨t,rfl⟩:=r;rfl
 | DE _=>obtain⟨t,rfl⟩:=r;rfl
 | HD _=>obtain⟨t,rfl⟩:=r;rfl
 | ref _=>cases r;rfl
 | ty _=>cases r;rfl
theorem RelV.inj {x y:V}{u:Value}(r:RelV x u)(q:RelV y u):x=y:=Option.some.inj (r.abs.symm.trans q.abs)
theorem Vals.inj:∀ {xs ys:List V}{us:List Value},Vals xs us->Vals ys us->xs=ys
 | _,_,_, .nil, .nil=>rfl
 | _,_,_, .cons r t, .cons r' t'=>by rw[r.inj r',Vals.inj t t']
section
variable {X:Cx}{pins:List (Addr × Obj)}{σ:St}{H:Hp}{s:Shared}{a:Addr}{xs ys:List V}
theorem zJ.of {K:Frag}(h:H a=some (.lst xs)):zJ K H a xs := .inl (.inl h)
theorem zM.of {K:Frag}(h:H a=some (.tup xs)):zM K H a xs := .inl (.inl h)
theorem Inv.list (I:Inv X pins σ H s)(h:zJ X.K H a xs):∃ zI:List Value,Vals xs zI/\PlainL s.heap a zI.toArray/\xs.length <= sizeLine:=by
 rcases h with h | ⟨o,zI,n,hk,hc,hd,hs,hz,r⟩
 ·obtain⟨z,zI,n,r,e⟩:=h.ok I.zL
  exact⟨zI,r,⟨_,n,e,rfl,rfl,rfl⟩,z⟩
 ·refine⟨zI.toList,r,⟨o,n,I.AF a o hk,hc,hd,by simpa using hs⟩,?_⟩
  have e:=r.length
  simp only[Array.length_toList]at e
  omega
theorem Inv.tuple (I:Inv X pins σ H s)(h:zM X.K H a xs):∃ zI:List Value,Vals xs zI/\IsTup s.heap a zI.toArray/\xs.length <= sizeLine:=by
 rcases h with h | ⟨o,zI,n,hk,hc,hs,hz,r⟩
 ·obtain⟨z,zI,r,p⟩:=h.ok I.zL
  exact⟨zI,r,p.isTup,z⟩
 ·refine⟨zI.toList,r,⟨o,I.AF a o hk,hc,n,by simpa using hs⟩,?_⟩
  have e:=r.length
  simp only[Array.length_toList]at e
  omega
theorem Inv.BI (I:Inv X pins σ H s)(h:zJ X.K H a xs)(h':zJ X.K H a ys):xs=ys:=by
 obtain⟨zI,r,⟨o,n,e,_,_,d⟩,_⟩:=I.list h
 obtain⟨its',r',⟨o',n',e',_,_,d'⟩,_⟩:=I.list h'
 rw[e]at e';cases e'
 rw[d]at d'
 injection d' with d1 _
 have:zI=its':=by simpa using congrArg Array.toList d1
 subst this
 exact r.inj r'
theorem Inv.Cf (I:Inv X pins σ H s)(h:zM X.K H a xs)(h':zM X.K H a ys):xs=ys:=by
 obtain⟨zI,r,⟨o,e,_,n,d⟩,_⟩:=I.tuple h
 obtain⟨its',r',⟨o',e',_,n',d'⟩,_⟩:=I.tuple h'
 rw[e]at e';cases e'
 rw[d]at d'
 injection d' with d1 _
 have:zI=its':=by simpa using congrArg Array.toList d1
 subst this
 exact r.inj r'
end
abbrev Cx.BW (X:Cx)(E:Value->Shared->Prop):Cx:={ X with xe:=E }
abbrev Cx.NU (X:Cx):Cx:=X.BW fun _ _=>False
theorem Cx.Ok.BW {X:Cx}(ok:X.Ok)(E:Value->Shared->Prop):(X.BW E).Ok :=
 ⟨ok.mod,ok.kind,ok.glob,ok.blt,ok.above,ok.inj,ok.has,ok.JH,ok.hd,ok.frames,ok.NP,ok.Vb,ok.bs,ok.Fq,ok.E3,ok.Ft,ok.B5,ok.HF⟩
theorem Cx.Ok.AK {X:Cx}{E:Value->Shared->Prop}(ok:(X.BW E).Ok):X.Ok :=
 ⟨ok.mod,ok.kind,ok.glob,ok.blt,ok.above,ok.inj,ok.has,ok.JH,ok.hd,ok.frames,ok.NP,ok.Vb,ok.bs,ok.Fq,ok.E3,ok.Ft,ok.B5,ok.HF⟩
section
variable {X:Cx}{pins:List (Addr × Obj)}{σ:St}{H:Hp}{s:Shared}{E:Value->Shared->Prop}
theorem Inv.BW (I:Inv X pins σ H s)(E:Value->Shared->Prop):Inv (X.BW E) pins σ H s:=⟨I.ok.BW E,I.os,I.bare,I.base,I.loc,I.cell,I.free,I.As,I.pin,I.zL,I.len⟩
theorem Inv.AK (I:Inv (X.BW E) pins σ H s):Inv X pins σ H s:=⟨I.ok.AK,I.os,I.bare,I.base,I.loc,I.cell,I.free,I.As,I.pin,I.zL,I.len⟩
theorem SP.AK {D:jR}{f:Flow}{s':Shared}(h:SP (X.BW E) pins D f s'):SP X pins D f s':=by
 cases f with
 | next=>obtain⟨σ',H',I,q⟩:=h;exact⟨σ',H',I.AK,q⟩
 | brk=>obtain⟨σ',H',I,q⟩:=h;exact⟨σ',H',I.AK,q⟩
 | cont=>obtain⟨σ',H',I,q⟩:=h;exact⟨σ',H',I.AK,q⟩
 | ret u=>obtain⟨v,σ',H',I,r,q⟩:=h;exact⟨v,σ',H',I.AK,r,q⟩
theorem Dn.NU {st:List Stmt}{t:TS}(h:Dn X.NU st t):Dn X st t:=fun pins s σ H D I hw =>
 wpAny_mono (h pins s σ H D (I.BW _) hw) (fun _ _ q=>q.AK) fun _ _ z=>False.elim z
end
section
variable {X:Cx}{st:Stmt}{rest:List Stmt}{t u:TS}{e:Expr}{te:TE}{pos:Pos}
noncomputable def JP:TS:=fun D σ H=>D.nx σ H
noncomputable def PB (t u:TS):TS:=fun D σ H=>t { D with nx:=u D } σ H
theorem aA:Dn X [] JP:=fun _ _ σ H _ I h=>wpAny_execs_nil ⟨σ,H,I,h⟩
theorem ae (h1:PS X st t)(h2:Dn X rest u):Dn X (st :: rest) (PB t u):=by
 intro pins s σ H D I h
 refine wpAny_execs_cons (aT (h1 pins s σ H { D with nx:=u D } I h) fun f s1 q=>?_)
 cases f with
 | next =>
  obtain⟨σ',H',I',q⟩:=q
  exact h2 pins s1 σ' H' D I' q
 | ret v=>exact q
 | brk=>exact q
 | cont=>exact q
theorem ah (h1:PS X st t):Dn X [st] t:=by
 intro pins s σ H D I h
 refine wpAny_execs_cons (aT (h1 pins s σ H D I h) fun f s1 q=>?_)
 cases f with
 | next=>exact wpAny_execs_nil q
 | ret v=>exact q
 | brk=>exact q
 | cont=>exact q
theorem Inv.quiet {pins:List (Addr × Obj)}{σ:St}{H:Hp}{s:Shared}(I:Inv X pins σ H s):interactive X.env=false:=by simp[interactive,I.ok.kind]
noncomputable def JQ (te:TE):TS:=fun D σ H=>te σ H fun _ H1=>D.nx σ H1
theorem aS (he:PE X e te)(hs:swapsWith e none pos.line X.env=pure false:=by rfl):PS X (.Expr e pos) (JQ te):=by
 intro pins s σ H D I h
 exact wpAny_Expr_any (aT (he pins s σ H _ I h) fun v s1 zH=>by obtain⟨x,H1,I1,r1,q1⟩:=zH;exact⟨σ,H1,I1,q1⟩) I.quiet hs
noncomputable def PD (te:TE):TS:=fun D σ H=>te σ H D.rt
theorem ar (he:PE X e te):PS X (.Return (some e) pos) (PD te):=by
 intro pins s σ H D I h
 exact wpAny_Return_some (aT (he pins s σ H _ I h) fun v s1 zH=>by obtain⟨x,H1,I1,r1,q1⟩:=zH;exact⟨x,σ,H1,I1,r1,q1⟩)
noncomputable def PF (c:TT)(t u:TS):TS:=fun D σ H=>c σ H fun b H1=>if b=true then t D σ H1 else u D σ H1
theorem aL {c:Expr}{a b:List Stmt}{tc:TT}(hc:PT X c tc)(ha:Dn X a t)(hb:Dn X b u):PS X (.If c a b pos) (PF tc t u):=by
 intro pins s σ H D I h
 refine wpAny_If (aT (hc pins s σ H _ I h) fun d s1 zH=>?_)
 obtain⟨H1,I1,q1⟩:=zH
 cases d with
 | true=>exact ha pins s1 σ H1 D I1 q1
 | false=>exact hb pins s1 σ H1 D I1 q1
end
abbrev TG:=V->St->Hp->(St->Hp->Prop)->Prop
abbrev zx:=List V->St->Hp->(St->Hp->Prop)->Prop
noncomputable def PG (X:Cx)(target:Expr)(t:TG):Prop :=
 ∀ (pins:List (Addr × Obj))(s:Shared)(σ:St)(H:Hp)(v:V)(u:Value)(Q:St->Hp->Prop),Inv X pins σ H s->RelV v u->t v σ H Q ->
  wpAny (model X.prog X.w) X.A (assign target X.env u) (fun _ s'=>∃ σ' H',Inv X pins σ' H' s'/\Q σ' H') X.xe s
noncomputable def NV (X:Cx)(ts:List Expr)(t:zx):Prop :=
 ∀ (pins:List (Addr × Obj))(s:Shared)(σ:St)(H:Hp)(vs:List V)(us:List Value)(Q:St->Hp->Prop),Inv X pins σ H s->Vals vs us->t vs σ H Q ->
  wpAny (model X.prog X.w) X.A (assignInOrder ((assignEach ts X.env).map (·.2)) us) (fun _ s'=>∃ σ' H',Inv X pins σ' H' s'/\Q σ' H') X.xe s
abbrev zw:=V->V->V->Hp->(Hp->Prop)->Prop
noncomputable def JR (X:Cx)(t:zw):Prop :=
 ∀ (pins:List (Addr × Obj))(s:Shared)(σ:St)(H:Hp)(o i v:V)(ov iv u:Value)(Q:Hp->Prop),Inv X pins σ H s->RelV o ov->RelV i iv->RelV v u->t o i v H Q ->
  wpAny (model X.prog X.w) X.A (setItem ov iv u) (fun _ s'=>∃ H',Inv X pins σ H' s'/\Q H') X.xe s
abbrev NW:=V->V->Hp->VK->Prop
noncomputable def Vf (X:Cx)(op:Operator)(t:NW):Prop :=
 ∀ (pins:List (Addr × Obj))(s:Shared)(σ:St)(H:Hp)(x y:V)(v u:Value)(Q:VK),Inv X pins σ H s->RelV x v->RelV y u->t x y H Q ->
  wpAny (model X.prog X.w) X.A (inplaceOp op v u) (EP X pins σ Q) X.xe s
section
variable {X:Cx}{pos:Pos}
noncomputable def cI (i:Nat):TG:=fun v σ H Q=>Q (σ.set i (some v)) H
theorem au {i:Nat}{x:Str}(hN:X.N.Nodup)(hi:X.N[i]? = some x)(hx:Loc X.env.scope x)(hf:X.fn x=true∨X.env.scope.names.lookup x=some .local:=by first | exact .inl rfl | exact .inr rfl | assumption):PG X (.Name x pos) (cI i):=by
 intro pins s σ H v u Q I r h
 exact wpAny_assign_Name (jg I hN hi hx r (fun s' I'=>⟨_,H,I',h⟩) hf)
noncomputable def PH:zx:=fun vs σ H Q=>vs=[]/\Q σ H
noncomputable def JS (t:TG)(u:zx):zx:=fun vs σ H Q=>∃ v r,vs=v :: r/\t v σ H fun σ' H'=>u r σ' H' Q
theorem cy:NV X [] PH:=by
 intro pins s σ H vs us Q I r h
 obtain⟨e,h⟩:=h
 subst e
 cases r
 exact assignInOrder_nil ⟨σ,H,I,h⟩
theorem aN {e:Expr}{es:List Expr}{t:TG}{u:zx}(h1:PG X e t)(h2:NV X es u)
  (hs:(assignEach (e :: es) X.env).map (·.2)=assign e X.env :: (assignEach es X.env).map (·.2):=by rfl):NV X (e :: es) (JS t u):=by
 intro pins s σ H vs us Q I r h
 obtain⟨v,vr,e1,h⟩:=h
 subst e1
 cases r with
 | cons r rr =>
  rw[hs]
  refine assignInOrder_cons (aT (h1 pins s σ H _ _ _ I r h) fun _ s1 zH=>?_)
  obtain⟨σ1,H1,I1,q1⟩:=zH
  exact h2 pins s1 σ1 H1 _ _ Q I1 rr q1
noncomputable def u8 (K:Frag)(n:Nat)(t:zx):TG:=fun v σ H Q=>∃ a xs,v = .ref a/\zM K H a xs/\xs.length=n/\t xs σ H Q
theorem dM {es:List Expr}{k:Nat}{t:zx}{n:Nat}(hc:X.calm=true)(h:NV X es t)
  (hn:(assignEach es X.env).length=n:=by rfl) (C8:(assignEach es X.env).findIdx? (·.1)=none:=by rfl):PG X (.Tuple es k pos) (u8 X.K n t):=by
 intro pins s σ H v u Q I r hw
 obtain⟨a,xs,e1,hq,hl,hw⟩:=hw
 subst e1
 cases r
 obtain⟨zI,rv,ht,hz⟩:=I.tuple hq
 refine assign_Tuple_tuple (I.ok.hd hc) ht (by simp[hn,← hl,rv.length]) C8 fun h' hx=>?_
 have I1:Inv X pins σ H { s with heap:=h' }:=I.kept (t':=s.toks) fun b o e=>hx b o (ne_of_lt (lt_size e)) e
 exact h pins _ σ H xs _ Q I1 (by simpa using rv) hw
noncomputable def PJ (to ti:TE)(t:zw):TG:=fun v σ H Q=>to σ H fun o H1=>ti σ H1 fun i H2=>t o i v H2 fun H3=>Q σ H3
theorem ou {o i:Expr}{to ti:TE}{t:zw}(ho:PE X o to)(hi:PE X i ti)(hs:JR X t)
  (ha:∀ v,assign (.Subscript o i pos) X.env v=(do
   let ov ← holding [v] (eval o X.env)
   let iv ← holding [v,ov] (eval i X.env)
   standAt pos
   holding [v,ov,iv] (setItem ov iv v)
   release [v,ov,iv] []):=by intro _;rfl):PG X (.Subscript o i pos) (PJ to ti t):=by
 intro pins s σ H v u Q I r h
 rw[ha]
 refine wpAny_bind (wpAny_holding (aT (ho pins s σ H _ I h) fun ov s1 zH=>?_))
 obtain⟨x,H1,I1,r1,q1⟩:=zH
 refine wpAny_bind (wpAny_holding (aT (hi pins s1 σ H1 _ I1 q1) fun iv s2 zH=>?_))
 obtain⟨y,H2,I2,r2,q2⟩:=zH
 refine wpAny_bind (wpAny_standAt (wpAny_bind (wpAny_holding (aT (hs pins s2 σ H2 x y v ov iv u _ I2 r1 r2 r q2) fun _ s3 zH=>?_))))
 obtain⟨H3,I3,q3⟩:=zH
 exact wpAny_release ⟨σ,H3,I3,q3⟩
noncomputable def xH (te:TE)(g:TG):TS:=fun D σ H=>te σ H fun x H1=>g x σ H1 D.nx
theorem gE {tg e:Expr}{te:TE}{g:TG}(he:PE X e te)(hg:PG X tg g)(hs:swapsWithSole [tg] e pos.line X.env=pure false:=by rfl)(hw:swappedStores [tg] e X.env=pure none:=by rfl)
  (h1:(assignEach [tg] X.env).map (·.2)=[assign tg X.env]:=by rfl):PS X (.Assign [tg] e pos) (xH te g):=by
 intro pins s σ H D I h
 refine wpAny_Assign_stores (aT (he pins s σ H _ I h) fun v s1 zH=>?_) hs hw
 obtain⟨x,H1,I1,r1,q1⟩:=zH
 rw[h1]
 exact aT (hg pins s1 σ H1 x v _ I1 r1 q1) fun _ s2 q=>q
theorem ay {i:Nat}{x:Str}{e:Expr}{te:TE}{pos':Pos}(hN:X.N.Nodup)(hi:X.N[i]? = some x)(hx:Loc X.env.scope x)(he:PE X e te)(hs:swapsWith e (some (.Name x pos')) pos.line X.env=pure false:=by rfl)(hf:X.fn x=true∨X.env.scope.names.lookup x=some .local:=by first | exact .inl rfl | exact .inr rfl | assumption) :
  PS X (.Assign [.Name x pos'] e pos) (xH te (cI i)):=by
 intro pins s σ H D I h
 refine wpAny_Assign_Name (aT (he pins s σ H _ I h) fun v s1 zH=>?_) hs
 obtain⟨y,H1,I1,r1,q1⟩:=zH
 exact jg I1 hN hi hx r1 (fun s2 I2=>⟨_,H1,I2,q1⟩) hf
noncomputable def PK (i:Nat)(te:TE)(ti:NW):TS:=fun D σ H=>∃ x,σ[i]? = some (some x)/\te σ H fun y H1=>ti x y H1 fun z H2=>D.nx (σ.set i (some z)) H2
theorem ym {i:Nat}{x:Str}{e:Expr}{te:TE}{op:Operator}{ti:NW}{pos':Pos}(hN:X.N.Nodup)(hi:X.N[i]? = some x)(hx:Loc X.env.scope x)(he:PE X e te)(ho:Vf X op ti)(hf:X.fn x=true∨X.env.scope.names.lookup x=some .local:=by first | exact .inl rfl | exact .inr rfl | assumption) :
  PS X (.AugAssign (.Name x pos') op e pos) (PK i te ti):=by
 intro pins s σ H D I h
 obtain⟨v,e1,h⟩:=h
 obtain⟨m,hn,hl⟩:=I.loc
 have vis:NO X.env.scope x:=by rcases hx with k | k;exact .inl k;exact .inr (.inl k)
 obtain⟨u,r,l⟩:=hl i x v hi e1 vis
 refine wpAny_AugAssign_Name ?_
 have go:wpAny (model X.prog X.w) X.A (eval e X.env) (fun w s₂=>wpAny (model X.prog X.w) X.A (inplaceOp op u w) (fun r s₃=>wpAny (model X.prog X.w) X.A (storeName X.env x r) (fun _=>SP X pins D .next) X.xe s₃) X.xe s₂) X.xe s:=by
  refine aT (he pins s σ H _ I h) fun w s1 zH=>?_
  obtain⟨y,H1,I1,r1,q1⟩:=zH
  refine aT (ho pins s1 σ H1 v y u w _ I1 r r1 q1) fun z s2 zH=>?_
  obtain⟨zv,H2,I2,r2,q2⟩:=zH
  exact jg I2 hN hi hx r2 (fun s3 I3=>⟨_,H2,I3,q2⟩) hf
 rcases l with ⟨hk,hm⟩ | ⟨hk,c,hc,Ce⟩
 ·exact wpAny_loadName_local I.ok.kind hk hn hm go
 ·rcases hk with hk | hk
  ·exact wpAny_loadName_cell I.ok.kind hk hc Ce go
  ·rcases hx with k | k
   ·have:X.env.scope.names.lookup x=some .free:=hk
    rw[k]at this;cases this
   ·have:X.env.scope.names.lookup x=some .free:=hk
    rw[k]at this;cases this
noncomputable def ipI (f:Int->Int->Int):NW:=fun x y H Q=>∃ i j,x = .int i/\y = .int j/\Q (.int (f i j)) H
theorem za:Vf X .Add (ipI fun i j=>i + j):=by
 intro pins s σ H x y v u Q I r1 r2 h
 obtain⟨i,j,e1,e2,q⟩:=h
 subst e1;subst e2
 obtain⟨t,rfl⟩:=r1
 obtain⟨t',rfl⟩:=r2
 exact iadd_int ⟨.int _,H,I.tok _,⟨_,rfl⟩,q⟩
end
section
variable {X:Cx}{pos:Pos}
noncomputable def x8 (c:TT)(tb:TS):TS:=fun D σ H=>∃ W:Nat->St->Hp->Prop,(∃ m,W m σ H)/\∀ m σ H,W m σ H ->
 c σ H fun b H1=>if b=true then ∃ N:St->Hp->Prop,(∀ σ' H',N σ' H'->∃ m',m' < m/\W m' σ' H')/\tb { D with nx:=N,ct:=N,bk:=D.nx } σ H1 else D.nx σ H1
theorem tu {c:Expr}{body:List Stmt}{tc:TT}{tb:TS}(hp:PassesOwn (model X.prog X.w) X.A X.env X.xe)(hc:PT X c tc)(hb:Dn X body tb):PS X (.While c body [] pos) (x8 tc tb):=by
 intro pins s σ H D I h
 obtain⟨W,⟨m0,w0⟩,turn⟩:=h
 refine wpAny_While (codeAny_whileLoop (fun n s'=>∃ σ' H',Inv X pins σ' H' s'/\W n σ' H') ?_ m0 ⟨σ,H,I,w0⟩)
 rintro n s1 ⟨σ1,H1,I1,w1⟩
 refine wpAny_passesOwn hp (aT (hc pins s1 σ1 H1 _ I1 (turn n σ1 H1 w1)) fun b s2 zH=>?_)
 obtain⟨H2,I2,q2⟩:=zH
 cases b with
 | true =>
  obtain⟨N,hN,q2⟩:=q2
  rw[if_pos rfl]
  refine wpAny_passesOwn hp (aT (hb pins s2 σ1 H2 _ I2 q2) fun f s3 q3=>?_)
  cases f with
  | next =>
   obtain⟨σ3,H3,I3,n3⟩:=q3
   obtain⟨m',hm,w3⟩:=hN σ3 H3 n3
   exact⟨m',hm,σ3,H3,I3,w3⟩
  | cont =>
   obtain⟨σ3,H3,I3,n3⟩:=q3
   obtain⟨m',hm,w3⟩:=hN σ3 H3 n3
   exact⟨m',hm,σ3,H3,I3,w3⟩
  | brk=>exact q3
  | ret v=>exact q3
 | false =>
  rw[if_neg Bool.false_ne_true]
  exact wpAny_execs_nil ⟨σ1,H2,I2,q2⟩
end
structure It where
 go:Nat->Hp->Prop
 E4:Nat->Hp->V->Hp->Prop
 stop:Nat->Hp->Prop
noncomputable def fY (X:Cx)(pins:List (Addr × Obj))(H:Hp)(b:Addr):Prop :=
 H b=none/\b ≠ X.env.locals/\b ∉ X.fs/\(b ∈ X.ex∨X.s₀.heap.objs.size <= b)/\(∀ x c,X.env.cells.lookup x=some c->c ≠ b)/\∀ p ∈ X.pn ++ pins,p.1 ≠ b
theorem Inv.Dq {X:Cx}{pins:List (Addr × Obj)}{σ:St}{H H':Hp}{s:Shared}{b:Addr}(I:Inv X pins σ H s)(hb:s.heap.objs.size <= b)(hn:H' b=none):fY X pins H' b:=by
 refine⟨hn,ne_of_gt (lt_of_lt_of_le I.lt hb),I.Py hb, .inr (le_trans I.sz hb),fun x c e z=>?_,fun p hp z=>?_⟩
 ·obtain⟨v,q⟩:=I.cell x c e
  exact absurd (lt_of_lt_of_le q.lt (by rw[z];exact hb)) (lt_irrefl _)
 ·exact absurd (lt_of_lt_of_le (lt_size (I.pin p hp).1) (by rw[z];exact hb)) (lt_irrefl _)
structure lB (P:Program)(w:World)(K:Frag)(tg:Expr)(J:It)(fp:List Addr)(it:Addr)(tn:Nat->Heap->Prop):Prop where
 mem:it ∈ fp
 obj:∀ i h,tn i h->∀ b ∈ fp,∃ o,h.get? b=some o/\∀ v,o.data ≠ .cell v
 keep:∀ i h h',tn i h->(∀ b ∈ fp,∀ o,h.get? b=some o->h'.get? b=some o)->tn i h'
 item:∀ (X:Cx),X.prog=P->X.w=w->X.K=K->X.calm=true->∀ (i:Nat)(pins:List (Addr × Obj))(s:Shared)(σ:St)(H:Hp)(E:Value->Shared->Prop),Inv X pins σ H s->(∀ b ∈ fp,fY X pins H b)->tn i s.heap->J.go i H ->
  wpAny (model P w) X.A (pyNext (.ref it)) (fun r s1=>∃ u,r=some u /\
   wpAny (model P w) X.A (letOwnedTupleGo tg (.ref it) u) (fun _ s2=>∃ x H',Inv X pins σ H' s2/\RelV x u/\J.E4 i H x H'/\tn (i + 1) s2.heap/\∀ b ∈ fp,H' b=none) E s1) E s
 done:∀ (X:Cx),X.prog=P->X.w=w->X.K=K->X.calm=true->∀ (i:Nat)(pins:List (Addr × Obj))(s:Shared)(σ:St)(H:Hp)(E:Value->Shared->Prop),Inv X pins σ H s->(∀ b ∈ fp,fY X pins H b)->tn i s.heap->J.stop i H ->
  wpAny (model P w) X.A (pyNext (.ref it)) (fun r s1=>r=none/\Inv X pins σ H s1) E s
 self:∀ (A:Around)(i:Nat)(s:Shared)(Q:Value->Shared->Prop)(E:Value->Shared->Prop),tn i s.heap->Q (.ref it) s->wpAny (model P w) A (pyIter (.ref it)) Q E s
abbrev TI:=St->Hp->(It->Hp->Prop)->Prop
noncomputable def Vg (X:Cx)(pins:List (Addr × Obj))(σ:St)(tg:Expr)(R:It->Hp->Prop)(NX:Value)(s2:Shared):Prop :=
 ∃ (it:Addr)(fp:List Addr)(tn:Nat->Heap->Prop)(J:It)(H':Hp),NX = .ref it/\Inv X pins σ H' s2/\lB X.prog X.w X.K tg J fp it tn/\tn 0 s2.heap/\(∀ b ∈ fp,fY X pins H' b)/\R J H'
noncomputable def PI (X:Cx)(tg iter:Expr)(wi:TI):Prop :=
 ∀ (pins:List (Addr × Obj))(s:Shared)(σ:St)(H:Hp)(R:It->Hp->Prop),Inv X pins σ H s->wi σ H R ->
  wpAny (model X.prog X.w) X.A (eval iter X.env) (fun v s1=>wpAny (model X.prog X.w) X.A (pyIter v) (Vg X pins σ tg R) X.xe s1) X.xe s
theorem mO {M:Model}{A:Around}{E:Value->Shared->Prop}{s:Shared}{tg:Expr}{it:Addr}{u:Value}{o:Obj}{n:String}{vs:Array Value}{Q:Unit->Shared->Prop}(ho:s.heap.get? it=some o)(hc:o.cls = .type n)(hd:o.data = .fields vs)
  (hn:["enumerate", "zip", "dict_itemiterator", "dict_reverseitemiterator", "odict_iterator", "itertools.zip_longest", "itertools.pairwise"].contains n=false) (hQ:Q () s):wpAny M A (letOwnedTupleGo tg (.ref it) u) Q E s:=by
 unfold letOwnedTupleGo
 cases tg<;>first
  | exact wpAny_pure hQ
  | (cases u<;>first
    | exact wpAny_pure hQ
    | (refine wpAny_bind (wpAny_load ho ?_)
       rw[hc,hd]
       show wpAny M A (if (["enumerate", "zip", "dict_itemiterator", "dict_reverseitemiterator", "odict_iterator", "itertools.zip_longest", "itertools.pairwise"].contains n && vs[0]? == some (rawInt _))=true then _ else _) Q E s
       rw[if_neg (by intro h;rw[hn,Bool.false_and]at h;cases h)]
       exact wpAny_pure hQ))
noncomputable def vd (K:Frag)(a:Addr):It :=
 ⟨fun i H=>∃ xs x,zJ K H a xs/\xs[i]? = some x,fun i H x H'=>H' = H/\∀ xs,zJ K H a xs->xs[i]? = some x,fun i H=>∃ xs,zJ K H a xs/\xs.length <= i⟩
noncomputable def NY (K:Frag)(a:Addr):It :=
 ⟨fun i H=>∃ xs x,zM K H a xs/\xs[i]? = some x,fun i H x H'=>H' = H/\∀ xs,zM K H a xs->xs[i]? = some x,fun i H=>∃ xs,zM K H a xs/\xs.length <= i⟩
noncomputable def vc (lo:Int)(n:Nat):It:=⟨fun i _=>i < n,fun i H x H'=>H' = H/\x = .int (lo + i),fun i _=>n <= i⟩
theorem qk {P:Program}{w:World}{K:Frag}{tg:Expr}(a it:Addr):lB P w K tg (vd K a) [it] it (fun i h=>h.IsListIter it a i) where
 mem:=by simp
 obj:=fun i h st b hb=>by
  have e:b=it:=by simpa using hb
  subst e
  obtain⟨o,e,c,d⟩:=st
  exact⟨o,e,fun v z=>by rw[d]at z;cases z⟩
 keep:=fun i h h' st k=>st.at fun o e=>k it (by simp) o e
 item:=by
  intro X hP hw hK hc i pins s σ H E I hf st hg
  subst hP hw hK
  obtain⟨xs,x,hq,hx⟩:=hg
  obtain⟨zI,rv,p,hz⟩:=I.list hq
  obtain⟨u,hu,ru⟩:=rv.get hx
  obtain⟨f0,f1,f2,f3,f4,f5⟩:=hf it (by simp)
  refine wpAny_pyNext_list_item st p.isList (x:=u) (by simpa using hu) fun h' De sb=>?_
  have I1:Inv X pins σ H { s with heap:=h' }:=I.turned (t':=s.toks) (fun b o hb e=>(sb.2 b hb).trans e) f0 f1 f3 f4 f5
  obtain⟨o,e,c,d⟩:=id De
  exact⟨u,rfl,mO (s:={ s with heap:=h' }) e c d (by decide) ⟨x,H,I1,ru,⟨rfl,fun ys hy=>by rw[I.BI hy hq];exact hx⟩,De,fun b hb=>(hf b hb).1⟩⟩
 done:=by
  intro X hP hw hK hc i pins s σ H E I hf st hg
  subst hP hw hK
  obtain⟨xs,hq,hx⟩:=hg
  obtain⟨zI,rv,p,hz⟩:=I.list hq
  obtain⟨f0,f1,f2,f3,f4,f5⟩:=hf it (by simp)
  have hl:=rv.length
  exact wpAny_pyNext_list_end (I.ok.hd hc) st p.isList (by simp;omega) fun h' eb=>⟨rfl,I.turned (t':=s.toks) (fun b o hb e=>eb b o hb e) f0 f1 f3 f4 f5⟩
 self:=fun _ _ _ _ _ st h=>wpAny_pyIter_listiter st h
theorem nA {P:Program}{w:World}{K:Frag}{tg:Expr}(a it:Addr):lB P w K tg (NY K a) [it] it (fun i h=>h.IsTupleIter it a i) where
 mem:=by simp
 obj:=fun i h st b hb=>by
  have e:b=it:=by simpa using hb
  subst e
  obtain⟨o,e,c,d⟩:=st
  exact⟨o,e,fun v z=>by rw[d]at z;cases z⟩
 keep:=fun i h h' st k=>st.at fun o e=>k it (by simp) o e
 item:=by
  intro X hP hw hK hc i pins s σ H E I hf st hg
  subst hP hw hK
  obtain⟨xs,x,hq,hx⟩:=hg
  obtain⟨zI,rv,p,hz⟩:=I.tuple hq
  obtain⟨u,hu,ru⟩:=rv.get hx
  obtain⟨f0,f1,f2,f3,f4,f5⟩:=hf it (by simp)
  refine wpAny_pyNext_tuple_item st (show s.heap.IsTuple a zI.toArray from p) (x:=u) (by simpa using hu) fun h' De sb=>?_
  have I1:Inv X pins σ H { s with heap:=h' }:=I.turned (t':=s.toks) (fun b o hb e=>(sb.2 b hb).trans e) f0 f1 f3 f4 f5
  obtain⟨o,e,c,d⟩:=id De
  exact⟨u,rfl,mO (s:={ s with heap:=h' }) e c d (by decide) ⟨x,H,I1,ru,⟨rfl,fun ys hy=>by rw[I.Cf hy hq];exact hx⟩,De,fun b hb=>(hf b hb).1⟩⟩
 done:=by
  intro X hP hw hK hc i pins s σ H E I hf st hg
  subst hP hw hK
  obtain⟨xs,hq,hx⟩:=hg
  obtain⟨zI,rv,p,hz⟩:=I.tuple hq
  obtain⟨f0,f1,f2,f3,f4,f5⟩:=hf it (by simp)
  have hl:=rv.length
  exact wpAny_pyNext_tuple_end (I.ok.hd hc) st (show s.heap.IsTuple a zI.toArray from p) (by simp;omega) fun h' eb=>⟨rfl,I.turned (t':=s.toks) (fun b o hb e=>eb b o hb e) f0 f1 f3 f4 f5⟩
 self:=fun _ _ _ _ _ st h=>wpAny_pyIter_tupleiter st h
theorem nB {P:Program}{w:World}{K:Frag}{tg:Expr}(it:Addr)(lo:Int)(n:Nat):lB P w K tg (vc lo n) [it] it (fun i h=>IsRangeIter h it (lo + (i:Nat) * 1) ((n:Int) - (i:Nat)) 1) where
 mem:=by simp
 obj:=fun i h st b hb=>by
  have e:b=it:=by simpa using hb
  subst e
  exact⟨_,st,fun v z=>by
   have z':Data.fields _=Data.cell v:=z
   cases z'⟩
 keep:=fun i h h' st k=>k it (by simp) _ st
 item:=by
  intro X hP hw hK hc i pins s σ H E I hf st hg
  subst hP hw hK
  obtain⟨f0,f1,f2,f3,f4,f5⟩:=hf it (by simp)
  have W:=Walks.range (prog:=X.prog) (w:=X.w) (I.ok.hd hc) it lo 1 n
  refine W.item i s _ _ hg st fun v h' tk hv De kk=>?_
  obtain⟨t,rfl⟩:=hv
  have I1:Inv X pins σ H { s with heap:=h',toks:=tk }:=I.turned (fun b o hb e=>kk b o (by simpa using hb) e) f0 f1 f3 f4 f5
  refine⟨_,rfl,mO (s:={ s with heap:=h',toks:=tk }) (n := "range_iterator") De rfl rfl (by decide) ⟨.int (lo + i),H,I1,⟨t,?_⟩,⟨rfl,rfl⟩,De,fun b hb=>(hf b hb).1⟩⟩
  rw[Int.mul_one]
 done:=by
  intro X hP hw hK hc i pins s σ H E I hf st hg
  subst hP hw hK
  obtain⟨f0,f1,f2,f3,f4,f5⟩:=hf it (by simp)
  exact wpAny_pyNext_range_end (I.ok.hd hc) st (by have:n <= i:=hg;omega) fun h' eb=>⟨rfl,I.turned (t':=s.toks) (fun b o hb e=>eb b o hb e) f0 f1 f3 f4 f5⟩
 self:=fun _ _ _ _ _ st h=>wpAny_pyIter_rangeiter st h
end L2
namespace L2
open PySem PySem.Spec PyProof.Rows
section
variable {X:Cx}{tg:Expr}
noncomputable def JT (K:Frag)(tl:TE):TI:=fun σ H R=>tl σ H fun x H1=>∃ a,x = .ref a/\(∃ xs,zJ K H1 a xs)/\R (vd K a) H1
noncomputable def PL (K:Frag)(tl:TE):TI:=fun σ H R=>tl σ H fun x H1=>∃ a,x = .ref a/\(∃ xs,zM K H1 a xs)/\R (NY K a) H1
theorem bN {l:Expr}{tl:TE}(hl:PE X l tl):PI X tg l (JT X.K tl):=by
 intro pins s σ H R I h
 refine aT (hl pins s σ H _ I h) fun v s1 zH=>?_
 obtain⟨x,H1,I1,r1,q1⟩:=zH
 obtain⟨a,e,⟨xs,hq⟩,q⟩:=q1
 subst e
 cases r1
 obtain⟨zI,rv,p,hz⟩:=I1.list hq
 refine wpAny_pyIter_list p.isList ?_
 refine⟨s1.heap.objs.size,[s1.heap.objs.size],_,_,H1,rfl,I1.kept (t':=s1.toks) fun b o e=>Heap.get?_push_of_some _ e,qk a _,⟨_,Heap.get?_push_size _ rfl,rfl,rfl⟩,fun b hb=>?_,q⟩
 have e:b=s1.heap.objs.size:=by simpa using hb
 subst e
 exact I1.Dq (Nat.le_refl _) (I1.zL.fresh (Nat.le_refl _))
theorem lf {l:Expr}{tl:TE}(hl:PE X l tl):PI X tg l (PL X.K tl):=by
 intro pins s σ H R I h
 refine aT (hl pins s σ H _ I h) fun v s1 zH=>?_
 obtain⟨x,H1,I1,r1,q1⟩:=zH
 obtain⟨a,e,⟨xs,hq⟩,q⟩:=q1
 subst e
 cases r1
 obtain⟨zI,rv,p,hz⟩:=I1.tuple hq
 refine wpAny_pyIter_tuple (show s1.heap.IsTuple a zI.toArray from p) ?_
 refine⟨s1.heap.objs.size,[s1.heap.objs.size],_,_,H1,rfl,I1.kept (t':=s1.toks) fun b o e=>Heap.get?_push_of_some _ e,nA a _,⟨_,Heap.get?_push_size _ rfl,rfl,rfl⟩,fun b hb=>?_,q⟩
 have e:b=s1.heap.objs.size:=by simpa using hb
 subst e
 exact I1.Dq (Nat.le_refl _) (I1.zL.fresh (Nat.le_refl _))
theorem lV {pins:List (Addr × Obj)}{σ:St}{H:Hp}{s:Shared}{R:It->Hp->Prop}{E:Value->Shared->Prop}{lo hi:Int}{t u v:Tok}{tk:Nat}(I:Inv X pins σ H s)(h1:-(2 ^ 62) <= lo)(h2:lo < 2 ^ 62)(h3:-(2 ^ 62) <= hi)(h4:hi < 2 ^ 62)
  (q:R (vc lo (hi - lo).toNat) H):wpAny (model X.prog X.w) X.A (pyIter (.ref s.heap.objs.size)) (Vg X pins σ tg R) E { s with heap:=s.heap.push { cls := .type "range",data := .fields #[.int lo t, .int hi u, .int 1 v] },toks:=tk }:=by
 refine wpAny_pyIter_range (IsRange.new ..) (small_one h1 h2 h3 h4) ?_
 have I1:Inv X pins σ H { s with heap:=s.heap.push { cls := .type "range",data := .fields #[.int lo t, .int hi u, .int 1 v] },toks:=tk }:=I.kept fun b o e=>Heap.get?_push_of_some _ e
 refine⟨(s.heap.push { cls := .type "range",data := .fields #[.int lo t, .int hi u, .int 1 v] }).objs.size,[(s.heap.push { cls := .type "range",data := .fields #[.int lo t, .int hi u, .int 1 v] }).objs.size],_,_,H,rfl,
  I1.kept (t':=tk) fun b o e=>Heap.get?_push_of_some _ e,nB _ lo (hi - lo).toNat,?_,fun b hb=>?_,q⟩
 ·have e1:lo + ((0:Nat):Int) * 1=lo:=by simp
  have e2:(((hi - lo).toNat:Nat):Int) - ((0:Nat):Int)=Builtin.Range.rangeSize lo hi 1:=by rw[rangeSize_one];split<;>omega
  show IsRangeIter _ _ (lo + ((0:Nat):Int) * 1) ((((hi - lo).toNat:Nat):Int) - ((0:Nat):Int)) 1
  rw[e1,e2]
  exact Heap.get?_push_size _ rfl
 ·have e:b=(s.heap.push { cls := .type "range",data := .fields #[.int lo t, .int hi u, .int 1 v] }).objs.size:=by simpa using hb
  subst e
  exact I1.Dq (Nat.le_refl _) (I1.zL.fresh (Nat.le_refl _))
noncomputable def JU (ta:TA):TI:=fun σ H R=>ta σ H fun vs H1=>∃ j:Int,vs=[.int j]/\-(2 ^ 62) <= j/\j < 2 ^ 62/\R (vc 0 j.toNat) H1
noncomputable def JV (ta:TA):TI:=fun σ H R=>ta σ H fun vs H1=>∃ i j:Int,vs=[.int i, .int j]/\(-(2 ^ 62) <= i/\i < 2 ^ 62/\-(2 ^ 62) <= j/\j < 2 ^ 62)/\R (vc i (j - i).toNat) H1
theorem aM {a:Expr}{ta:TA}{p pos:Pos}(hg:Gl X "range")(hm:X.mg "range" = none)(ha:PA X [a] ta)(hs:starEach [a] X.env=[(false,eval a X.env)]:=by rfl):PI X tg (.Call (.Name "range" p) [a] [] pos) (JU ta):=by
 intro pins s σ H R I h
 refine Call_ (fJ I hg hm boot_range (PyProof.Rows.callWith_type1 (aT (ha pos pins s σ H _ I h) fun us s1 zH=>?_) hs rfl))
 obtain⟨vs,H1,I1,r1,q1⟩:=zH
 obtain⟨j,e,q1,q2,q⟩:=q1
 subst e
 cases r1 with
 | cons r rr =>
  cases rr
  obtain⟨t,rfl⟩:=r
  exact call_range_1 (lV I1 (by omega) (by omega) q1 q2 (by simpa using q))
theorem jX {a b:Expr}{ta:TA}{p pos:Pos}(hg:Gl X "range")(hm:X.mg "range" = none)(ha:PA X [a,b] ta)(hs:starEach [a,b] X.env=[(false,eval a X.env),(false,eval b X.env)]:=by rfl)(DF:starEach [b] X.env=[(false,eval b X.env)]:=by rfl) :
  PI X tg (.Call (.Name "range" p) [a,b] [] pos) (JV ta):=by
 intro pins s σ H R I h
 refine Call_ (fJ I hg hm boot_range (PyProof.Rows.callWith_type1 (aT (ha pos pins s σ H _ I h) fun us s1 zH=>?_) (by rw[hs,DF]) (by rw[DF];rfl)))
 obtain⟨vs,H1,I1,r1,q1⟩:=zH
 obtain⟨i,j,e,⟨q1,q2,q3,q4⟩,q⟩:=q1
 subst e
 cases r1 with
 | cons r rr =>
  cases rr with
  | cons r' rr =>
   cases rr
   obtain⟨t,rfl⟩:=r
   obtain⟨t',rfl⟩:=r'
   exact call_range_2 (lV I1 q1 q2 q3 q4 q)
noncomputable def PN (wi:TI)(g:TG)(tb:TS):TS:=fun D σ H=>wi σ H fun J H1=>∃ W:Nat->Nat->St->Hp->Prop,(∃ m,W 0 m σ H1)/\∀ i m σ H,W i m σ H ->
 (J.stop i H/\D.nx σ H)∨(J.go i H/\∃ N:St->Hp->Prop,(∀ σ' H',N σ' H'->∃ m',m' < m/\W (i + 1) m' σ' H')/\∀ x H',J.E4 i H x H'->g x σ H' fun σ2 H2=>tb { D with nx:=N,ct:=N,bk:=D.nx } σ2 H2)
noncomputable def eJ (fp:List Addr)(h:Heap):List (Addr × Obj):=fp.filterMap fun b=>(h.get? b).map fun o=>(b,o)
theorem eL {fp:List Addr}{h:Heap}{b:Addr}{o:Obj}(hb:b ∈ fp)(e:h.get? b=some o):(b,o) ∈ eJ fp h:=List.mem_filterMap.mpr ⟨b,hb,by rw[e];rfl⟩
theorem ke {fp:List Addr}{h:Heap}{p:Addr × Obj}(hp:p ∈ eJ fp h):p.1 ∈ fp/\h.get? p.1=some p.2:=by
 obtain⟨b,hb,e⟩:=List.mem_filterMap.mp hp
 cases q:h.get? b with
 | none=>rw[q]at e;cases e
 | some o =>
  rw[q]at e
  have e':(b,o)=p:=Option.some.inj e
  subst e'
  exact⟨hb,q⟩
theorem Inv.pinned {pins:List (Addr × Obj)}{σ:St}{H:Hp}{s:Shared}{fp:List Addr}(I:Inv X pins σ H s)(hf:∀ b ∈ fp,fY X pins H b)(ho:∀ b ∈ fp,∃ o,s.heap.get? b=some o/\∀ v,o.data ≠ .cell v):Inv X (pins ++ eJ fp s.heap) σ H s :=
 I.AQ fun p hp=>(mem_append.mp hp).elim (fun z=>I.pin p (mem_append_right _ z)) fun z=>by
  obtain⟨hb,e⟩:=ke z
  obtain⟨f0,f1,f2,_⟩:=hf p.1 hb
  obtain⟨o,e',d⟩:=ho p.1 hb
  rw[e]at e';cases e'
  exact⟨e,f0,f1,f2,d⟩
theorem Inv.Bf {pins pl:List (Addr × Obj)}{σ:St}{H:Hp}{s:Shared}(I:Inv X (pins ++ pl) σ H s):Inv X pins σ H s:=I.AQ fun p hp=>I.pin p (mem_append_right _ (mem_append_left _ hp))
theorem b5 {iter:Expr}{body:List Stmt}{wi:TI}{g:TG}{tb:TS}{pos:Pos}(hp:PassesOwn (model X.prog X.w) X.A X.env X.xe)(hc:X.calm=true)(hi:PI X tg iter wi)(hg:PG X tg g)(hb:Dn X body tb)
  (hs:∀ x,foldedSetIterable iter X.env x=pure x:=by intro _;rfl):PS X (.For tg iter body [] pos) (PN wi g tb):=by
 intro pins s σ H D I h
 refine wpAny_For (aT (hi pins s σ H _ I h) fun v s1 h1=>aT h1 fun NX s2 h2=>?_) hs
 obtain⟨it,fp,tn,J,H2,e,I2,T,JW,f2,W,⟨m0,w0⟩,turn⟩:=h2
 subst e
 have stat:∀ {H':Hp},(∀ b ∈ fp,H' b=none)->∀ b ∈ fp,fY X pins H' b:=fun hn b hb=>⟨hn b hb,(f2 b hb).2⟩
 refine codeAny_forLoop_any (fun n s'=>∃ i σ' H',Inv X pins σ' H' s'/\tn i s'.heap/\(∀ b ∈ fp,H' b=none)/\W i n σ' H') ?_ m0 ⟨0,σ,H2,I2,JW,fun b hb=>(f2 b hb).1,w0⟩
 rintro n s3 ⟨i,σ3,H3,I3,Vh,Vi,w3⟩
 rcases turn i n σ3 H3 w3 with ⟨stop,qn⟩ | ⟨go,N,hN,step⟩
 ·refine wpAny_passesOwn hp (aT (T.done X rfl rfl rfl hc i pins s3 σ3 H3 X.xe I3 (stat Vi) Vh stop) fun r s4 zH=>?_)
  obtain⟨hr,I4⟩:=zH
  subst hr
  exact wpAny_execs_nil ⟨σ3,H3,I4,qn⟩
 ·refine wpAny_passesOwn hp (aT (T.item X rfl rfl rfl hc i pins s3 σ3 H3 X.xe I3 (stat Vi) Vh go) fun r s4 zH=>?_)
  obtain⟨u,hr,h4⟩:=zH
  subst hr
  refine wpAny_passesOwn hp (aT h4 fun _ s5 zH=>?_)
  obtain⟨x,H5,I5,r5,y5,Je,NZ⟩:=zH
  have I5':=I5.pinned (stat NZ) (T.obj _ _ Je)
  refine wpAny_passesOwn hp (aT (hg _ s5 σ3 H5 x u _ I5' r5 (step x H5 y5)) fun _ s6 zH=>?_)
  obtain⟨σ6,H6,I6,q6⟩:=zH
  refine wpAny_passesOwn hp (aT (hb _ s6 σ6 H6 _ I6 q6) fun f s7 q7=>?_)
  have again:∀ {σ7:St}{H7:Hp},Inv X (pins ++ eJ fp s5.heap) σ7 H7 s7->N σ7 H7->∃ m,m < n/\∃ i σ' H',Inv X pins σ' H' s7/\tn i s7.heap/\(∀ b ∈ fp,H' b=none)/\W i m σ' H':=fun {σ7 H7} I7 n7=>by
   obtain⟨m',hm,w7⟩:=hN σ7 H7 n7
   refine⟨m',hm,i + 1,σ7,H7,I7.Bf,T.keep _ _ _ Je fun b hb o e=>(I7.pin (b,o) (mem_append_right _ (mem_append_right _ (eL hb e)))).1,fun b hb=>?_,w7⟩
   obtain⟨o,e,d⟩:=T.obj _ _ Je b hb
   exact(I7.pin (b,o) (mem_append_right _ (mem_append_right _ (eL hb e)))).2.1
  cases f with
  | next=>obtain⟨σ7,H7,I7,n7⟩:=q7;exact again I7 n7
  | cont=>obtain⟨σ7,H7,I7,n7⟩:=q7;exact again I7 n7
  | brk=>obtain⟨σ7,H7,I7,q7⟩:=q7;exact⟨σ7,H7,I7.Bf,q7⟩
  | ret v=>obtain⟨x7,σ7,H7,I7,r7,q7⟩:=q7;exact⟨x7,σ7,H7,I7.Bf,r7,q7⟩
end
theorem jD {K:Frag}{a:Addr}{xs:List V}{g:TG}{tb:TS}{D:jR}{σ:St}{H:Hp}(Pv:Nat->St->Hp->Prop)(h0:Pv 0 σ H)(hl:∀ i σ H,i <= xs.length->Pv i σ H->zJ K H a xs)
  (hs:∀ i x σ H,xs[i]? = some x->Pv i σ H->g x σ H fun σ2 H2=>tb { D with nx:=Pv (i + 1),ct:=Pv (i + 1),bk:=D.nx } σ2 H2) (hd:∀ σ H,Pv xs.length σ H->D.nx σ H) :
  ∃ W:Nat->Nat->St->Hp->Prop,(∃ m,W 0 m σ H)/\∀ i m σ H,W i m σ H ->
   ((vd K a).stop i H/\D.nx σ H)∨((vd K a).go i H/\∃ N:St->Hp->Prop,(∀ σ' H',N σ' H'->∃ m',m' < m/\W (i + 1) m' σ' H')/\∀ x H',(vd K a).E4 i H x H'->g x σ H' fun σ2 H2=>tb { D with nx:=N,ct:=N,bk:=D.nx } σ2 H2):=by
 refine⟨fun i m σ H=>m=xs.length - i/\i <= xs.length/\Pv i σ H,⟨xs.length,by simp,zero_le _,h0⟩,?_⟩
 rintro i m σ H ⟨rfl,hi,p⟩
 have q:=hl i σ H hi p
 by_cases Ae:i < xs.length
 ·refine .inr ⟨⟨xs,xs[i],q,by simp[Ae]⟩,Pv (i + 1),fun σ' H' p'=>⟨xs.length - (i + 1),by omega,rfl,Ae,p'⟩,fun x H' y=>?_⟩
  obtain⟨e,y⟩:=y
  subst e
  exact hs i x σ _ (y xs q) p
 ·have e:i=xs.length:=by omega
  subst e
  exact .inl ⟨⟨xs,q,Nat.le_refl _⟩,hd σ H p⟩
theorem aW {lo:Int}{n:Nat}{g:TG}{tb:TS}{D:jR}{σ:St}{H:Hp}(Pv:Nat->St->Hp->Prop)(h0:Pv 0 σ H)
  (hs:∀ i σ H,i < n->Pv i σ H->g (.int (lo + i)) σ H fun σ2 H2=>tb { D with nx:=Pv (i + 1),ct:=Pv (i + 1),bk:=D.nx } σ2 H2) (hd:∀ σ H,Pv n σ H->D.nx σ H) :
  ∃ W:Nat->Nat->St->Hp->Prop,(∃ m,W 0 m σ H)/\∀ i m σ H,W i m σ H ->
   ((vc lo n).stop i H/\D.nx σ H)∨((vc lo n).go i H/\∃ N:St->Hp->Prop,(∀ σ' H',N σ' H'->∃ m',m' < m/\W (i + 1) m' σ' H')/\∀ x H',(vc lo n).E4 i H x H'->g x σ H' fun σ2 H2=>tb { D with nx:=N,ct:=N,bk:=D.nx } σ2 H2):=by
 refine⟨fun i m σ H=>m=n - i/\i <= n/\Pv i σ H,⟨n,by simp,zero_le _,h0⟩,?_⟩
 rintro i m σ H ⟨rfl,hi,p⟩
 by_cases Ae:i < n
 ·refine .inr ⟨Ae,Pv (i + 1),fun σ' H' p'=>⟨n - (i + 1),by omega,rfl,Ae,p'⟩,fun x H' y=>?_⟩
  obtain⟨e,y⟩:=y
  subst e y
  exact hs i σ _ Ae p
 ·have e:i=n:=by omega
  subst e
  exact .inl ⟨Nat.le_refl _,hd σ H p⟩
end L2
namespace L2
open PySem PySem.Spec PyProof.Rows
abbrev R2:=V->V->Hp->VK->Prop
noncomputable def eU (X:Cx)(f:Value->Value->Sem Value)(r:R2):Prop :=
 ∀ (pins:List (Addr × Obj))(s:Shared)(σ:St)(H:Hp)(x y:V)(v u:Value)(Q:VK),Inv X pins σ H s->RelV x v->RelV y u->r x y H Q ->
  wpAny (model X.prog X.w) X.A (f v u) (EP X pins σ Q) X.xe s
noncomputable def c6 (X:Cx)(f:Value)(r:List V->Hp->VK->Prop):Prop :=
 ∀ (pins:List (Addr × Obj))(s:Shared)(σ:St)(H:Hp)(xs:List V)(us:List Value)(Q:VK),Inv X pins σ H s->Vals xs us->r xs H Q ->
  wpAny (model X.prog X.w) X.A (call f us) (EP X pins σ Q) X.xe s
noncomputable def PQ (X:Cx)(r:V->Hp->(Bool->Hp->Prop)->Prop):Prop :=
 ∀ (pins:List (Addr × Obj))(s:Shared)(σ:St)(H:Hp)(x:V)(v:Value)(Q:Bool->Hp->Prop),Inv X pins σ H s->RelV x v->r x H Q ->
  wpAny (model X.prog X.w) X.A (truthy v) (TP X pins σ Q) X.xe s
noncomputable def Oa (r:R2)(ta tb:TE):TE:=fun σ H Q=>ta σ H fun x H1=>tb σ H1 fun y H2=>r x y H2 Q
noncomputable def rI (C:Int->Int->Prop)(g:Int->Int->V):R2:=fun x y H Q=>∃ i j,x = .int i/\y = .int j/\C i j/\Q (g i j) H
noncomputable def rC (g:Int->Int->V):R2:=fun x y H Q=>∃ i j,x = .int i/\y = .int j/\Q (g i j) H
section
variable {X:Cx}{a b c:Expr}{ta tb tc:TE}{pos:Pos}
theorem zo (ha:PE X a ta)(hb:PE X b tb){pins:List (Addr × Obj)}{s:Shared}{σ:St}{H:Hp}{R:V->V->Hp->Prop}(I:Inv X pins σ H s)
  (h:ta σ H fun x H1=>tb σ H1 fun y H2=>R x y H2) {Q:Value->Shared->Prop} {f:Value->Value->Sem Value}
  (hf:∀ v u s2 x y H2,Inv X pins σ H2 s2->RelV x v->RelV y u->R x y H2->wpAny (model X.prog X.w) X.A (f v u) Q X.xe s2) :
  wpAny (model X.prog X.w) X.A (eval a X.env) (fun v s₁=>wpAny (model X.prog X.w) X.A (eval b X.env) (fun u s₂=>wpAny (model X.prog X.w) X.A (f v u) Q X.xe s₂) X.xe s₁) X.xe s:=by
 refine aT (ha pins s σ H _ I h) fun v s1 zH=>?_
 obtain⟨x,H1,I1,r1,q1⟩:=zH
 refine aT (hb pins s1 σ H1 _ I1 q1) fun u s2 zH=>?_
 obtain⟨y,H2,I2,r2,q2⟩:=zH
 exact hf v u s2 x y H2 I2 r1 r2 q2
theorem aE {op:Operator}{r:R2}(ho:eU X (binaryOp op) r)(ha:PE X a ta)(hb:PE X b tb):PE X (.BinOp a op b pos) (Oa r ta tb):=by
 intro pins s σ H Q I h
 exact wpAny_BinOp (zo ha hb I h fun v u s2 x y H2 I2 rx ry q=>ho pins s2 σ H2 x y v u Q I2 rx ry q)
theorem Jf {f:Value->Value->Sem Value}{C:Int->Int->Prop}{g:Int->Int->Int}
  (rule:∀ (i j:Int)(t u:Tok)(s:Shared)(Q:Value->Shared->Prop)(E:Value->Shared->Prop),C i j->Q (.int (g i j) s.toks) { s with toks:=s.toks + 1 }->wpAny (model X.prog X.w) X.A (f (.int i t) (.int j u)) Q E s) :
  eU X f (rI C fun i j => .int (g i j)):=by
 intro pins s σ H x y v u Q I rx ry h
 obtain⟨i,j,rfl,rfl,hc,q⟩:=h
 obtain⟨t,rfl⟩:=rx
 obtain⟨t',rfl⟩:=ry
 exact rule i j t t' s _ _ hc ⟨.int (g i j),H,I.tok _,⟨_,rfl⟩,q⟩
theorem qI {f:Value->Value->Sem Value}{g:Int->Int->Int}
  (rule:∀ (i j:Int)(t u:Tok)(s:Shared)(Q:Value->Shared->Prop)(E:Value->Shared->Prop),Q (.int (g i j) s.toks) { s with toks:=s.toks + 1 }->wpAny (model X.prog X.w) X.A (f (.int i t) (.int j u)) Q E s) :
  eU X f (rC fun i j => .int (g i j)):=by
 intro pins s σ H x y v u Q I rx ry h
 obtain⟨i,j,rfl,rfl,q⟩:=h
 obtain⟨t,rfl⟩:=rx
 obtain⟨t',rfl⟩:=ry
 exact rule i j t t' s _ _ ⟨.int (g i j),H,I.tok _,⟨_,rfl⟩,q⟩
theorem vK {f:Value->Value->Sem Value}{g:Int->Int->Bool}
  (rule:∀ (i j:Int)(t u:Tok)(s:Shared)(Q:Value->Shared->Prop)(E:Value->Shared->Prop),Q (.bool (g i j)) s->wpAny (model X.prog X.w) X.A (f (.int i t) (.int j u)) Q E s) :
  eU X f (rC fun i j => .bl (g i j)):=by
 intro pins s σ H x y v u Q I rx ry h
 obtain⟨i,j,rfl,rfl,q⟩:=h
 obtain⟨t,rfl⟩:=rx
 obtain⟨t',rfl⟩:=ry
 exact rule i j t t' s _ _ ⟨.bl (g i j),H,I,rfl,q⟩
noncomputable def PR (i j:Int):Prop:=0 < j/\j < 1073741824
noncomputable def JX (i j:Int):Prop:=0 <= j/\j <= 1000000/\i.natAbs < 2 ^ 64
noncomputable def HH (i j:Int):Prop:=(-(2 ^ 64) < i/\i < 2 ^ 64)∨(-(2 ^ 64) < j/\j < 2 ^ 64)
theorem HH.ok {i j:Int}(h:HH i j):IntMulOk i j:=by
 rcases h with ⟨h1,h2⟩ | ⟨h1,h2⟩
 ·exact .of_left (intBits_le_64 h1 h2)
 ·exact .of_right (intBits_le_64 h1 h2)
theorem n9 (k:Nat):(0:Int) <= 2 ^ k:=by
 rw[two_pow_cast]
 exact Int.natCast_nonneg _
theorem bB:eU X (binaryOp .Add) (rC fun i j => .int (i + j)):=qI fun _ _ _ _ _ _ _ q=>add_int q
theorem dq:eU X (binaryOp .Sub) (rC fun i j => .int (i - j)):=qI fun _ _ _ _ _ _ _ q=>sub_int q
theorem jx:eU X (binaryOp .Mult) (rI HH fun i j => .int (i * j)):=Jf fun _ _ _ _ _ _ _ hc q=>mul_int q hc.ok
theorem dJ:eU X (binaryOp .FloorDiv) (rI PR fun i j => .int (i / j)):=Jf fun i j _ _ _ _ _ hc q=>by
 have h1:(0:Int) < j:=hc.1
 have h2:j < 1073741824:=hc.2
 exact floordiv_int (by omega) (by rw[Int.fdiv_eq_ediv_of_nonneg i (by omega)];exact q) (.inl (PyProof.noPylong_small (by omega)))
theorem bR:eU X (binaryOp .Mod) (rI (fun _ j=>0 < j) fun i j => .int (i % j)):=Jf fun i j _ _ _ _ _ hc q=>by
 have h1:(0:Int) < j:=hc
 exact mod_int' (by omega) (by rw[Int.fmod_eq_emod_of_nonneg i (by omega)];exact q)
theorem yy:eU X (binaryOp .Pow) (rI JX fun i j => .int (i ^ j.toNat)):=Jf fun _ _ _ _ _ _ _ hc q=>pow_int_small hc.1 hc.2.1 hc.2.2 q
theorem yw:eU X (binaryOp .LShift) (rI JX fun i j => .int (i * 2 ^ j.toNat)):=Jf fun _ _ _ _ _ _ _ hc q=>lshift_int_small hc.1 hc.2.1 hc.2.2 q
theorem tI:eU X (binaryOp .RShift) (rI (fun _ j=>0 <= j) fun i j => .int (i / 2 ^ j.toNat)):=Jf fun i j _ _ _ _ _ hc q =>
 rshift_int hc (by rw[Int.fdiv_eq_ediv_of_nonneg i (n9 _)];exact q)
theorem tL:eU X (binaryOp .BitAnd) (rC fun i j => .int (Builtin.bitAnd i j)):=qI fun _ _ _ _ _ _ _ q=>and_int q
theorem JY:eU X (binaryOp .BitOr) (rC fun i j => .int (Builtin.bitOr i j)):=qI fun _ _ _ _ _ _ _ q=>or_int q
theorem lq:eU X (inplaceOp .Add) (rC fun i j => .int (i + j)):=qI fun _ _ _ _ _ _ _ q=>iadd_int q
theorem pZ:eU X (inplaceOp .Sub) (rC fun i j => .int (i - j)):=qI fun _ _ _ _ _ _ _ q=>isub_int q
end
noncomputable def xK:V->V->Bool
 | .zT, .zT=>true | .zT, .int _=>true | .int _, .zT=>true | .zT, .bl _=>true | .bl _, .zT=>true | .zT, .str _=>true | .str _, .zT=>true
 | .int _, .int _=>true | .bl _, .bl _=>true | .str _, .str _=>true | .DE _, .DE _=>true
 | .int _, .str _=>true | .str _, .int _=>true | .bl _, .str _=>true | .str _, .bl _=>true
 | _,_=>false
noncomputable def rEq:R2:=fun x y H Q=>xK x y=true/\Q (.bl (decide (x=y))) H
noncomputable def rNe:R2:=fun x y H Q=>xK x y=true/\Q (.bl (!decide (x=y))) H
theorem qc {i j:Int}:decide (V.int i=V.int j)=(i == j):=by
 rw[Bool.eq_iff_iff]
 simp
theorem uM {i j:Bool}:decide (V.bl i=V.bl j)=(i == j):=by
 rw[Bool.eq_iff_iff]
 simp
theorem qb {i j:Str}:decide (V.str i=V.str j)=(i == j):=by
 rw[Bool.eq_iff_iff]
 simp
theorem qd {i j:Array UInt8}:decide (V.DE i=V.DE j)=(i.toList == j.toList):=by
 rw[Bool.eq_iff_iff]
 cases i
 cases j
 simp
section
variable {X:Cx}{a b c:Expr}{ta tb tc:TE}{pos:Pos}
theorem aR {pins:List (Addr × Obj)}{σ:St}{H:Hp}{s:Shared}{Q:VK}{k k':Bool}(I:Inv X pins σ H s)(q:Q (.bl k) H)(e:k=k'):EP X pins σ Q (.bool k') s:=by
 subst e
 exact⟨.bl k,H,I,rfl,q⟩
theorem aZ:eU X (compareOp .Eq) rEq:=by
 intro pins s σ H x y v u Q I rx ry h
 obtain⟨hs,q⟩:=h
 cases x with
 | zT =>
  cases rx
  cases y with
  | zT=>cases ry;exact PySem.EqNone.eq_none_none (aR I q (by simp))
  | bl j=>cases ry;exact PySem.EqNone.eq_none_bool (aR I q (by simp))
  | int j=>obtain⟨t',rfl⟩:=ry;exact PySem.EqNone.eq_none_int (aR I q (by simp))
  | str j=>obtain⟨t',rfl⟩:=ry;exact PySem.EqNone.eq_none_str (aR I q (by simp))
  | _=>exact absurd (show false=true from hs) Bool.false_ne_true
 | bl i =>
  cases rx
  cases y with
  | zT=>cases ry;exact PySem.EqNone.eq_bool_none (aR I q (by simp))
  | bl j=>cases ry;exact eq_bool (aR I q uM)
  | str j=>obtain⟨t',rfl⟩:=ry;exact PySem.EqMixed.eq_bool_str (aR I q (by simp))
  | _=>exact absurd (show false=true from hs) Bool.false_ne_true
 | int i =>
  obtain⟨t,rfl⟩:=rx
  cases y with
  | zT=>cases ry;exact PySem.EqNone.eq_int_none (aR I q (by simp))
  | int j=>obtain⟨t',rfl⟩:=ry;exact eq_int (aR I q qc)
  | str j=>obtain⟨t',rfl⟩:=ry;exact PySem.EqMixed.eq_int_str (aR I q (by simp))
  | _=>exact absurd (show false=true from hs) Bool.false_ne_true
 | str i =>
  obtain⟨t,rfl⟩:=rx
  cases y with
  | zT=>cases ry;exact PySem.EqNone.eq_str_none (aR I q (by simp))
  | bl j=>cases ry;exact PySem.EqMixed.eq_str_bool (aR I q (by simp))
  | int j=>obtain⟨t',rfl⟩:=ry;exact PySem.EqMixed.eq_str_int (aR I q (by simp))
  | str j=>obtain⟨t',rfl⟩:=ry;exact eq_str (aR I q qb)
  | _=>exact absurd (show false=true from hs) Bool.false_ne_true
 | DE i =>
  obtain⟨t,rfl⟩:=rx
  cases y with
  | DE j=>obtain⟨t',rfl⟩:=ry;exact PySem.W.eq_bytes (aR I q qd)
  | _=>exact absurd (show false=true from hs) Bool.false_ne_true
 | _=>cases y<;>exact absurd (show false=true from hs) Bool.false_ne_true
theorem gZ:eU X (compareOp .NotEq) rNe:=by
 intro pins s σ H x y v u Q I rx ry h
 obtain⟨hs,q⟩:=h
 cases x with
 | zT =>
  cases rx
  cases y with
  | zT=>cases ry;exact PySem.EqNone.ne_none_none (aR I q (by simp))
  | bl j=>cases ry;exact PySem.EqNone.ne_none_bool (aR I q (by simp))
  | int j=>obtain⟨t',rfl⟩:=ry;exact PySem.EqNone.ne_none_int (aR I q (by simp))
  | str j=>obtain⟨t',rfl⟩:=ry;exact PySem.EqNone.ne_none_str (aR I q (by simp))
  | _=>exact absurd (show false=true from hs) Bool.false_ne_true
 | bl i =>
  cases rx
  cases y with
  | zT=>cases ry;exact PySem.EqNone.ne_bool_none (aR I q (by simp))
  | bl j=>cases ry;exact ne_bool (aR I q (congrArg not uM))
  | str j=>obtain⟨t',rfl⟩:=ry;exact PySem.EqMixed.ne_bool_str (aR I q (by simp))
  | _=>exact absurd (show false=true from hs) Bool.false_ne_true
 | int i =>
  obtain⟨t,rfl⟩:=rx
  cases y with
  | zT=>cases ry;exact PySem.EqNone.ne_int_none (aR I q (by simp))
  | int j=>obtain⟨t',rfl⟩:=ry;exact ne_int (aR I q (congrArg not qc))
  | str j=>obtain⟨t',rfl⟩:=ry;exact PySem.EqMixed.ne_int_str (aR I q (by simp))
  | _=>exact absurd (show false=true from hs) Bool.false_ne_true
 | str i =>
  obtain⟨t,rfl⟩:=rx
  cases y with
  | zT=>cases ry;exact PySem.EqNone.ne_str_none (aR I q (by simp))
  | bl j=>cases ry;exact PySem.EqMixed.ne_str_bool (aR I q (by simp))
  | int j=>obtain⟨t',rfl⟩:=ry;exact PySem.EqMixed.ne_str_int (aR I q (by simp))
  | str j=>obtain⟨t',rfl⟩:=ry;exact ne_str (aR I q (congrArg not qb))
  | _=>exact absurd (show false=true from hs) Bool.false_ne_true
 | DE i =>
  obtain⟨t,rfl⟩:=rx
  cases y with
  | DE j=>obtain⟨t',rfl⟩:=ry;exact PySem.W.ne_bytes (aR I q (congrArg not qd))
  | _=>exact absurd (show false=true from hs) Bool.false_ne_true
 | _=>cases y<;>exact absurd (show false=true from hs) Bool.false_ne_true
theorem hU:eU X (compareOp .Lt) (rC fun i j => .bl (decide (i < j))):=vK fun _ _ _ _ _ _ _ q=>lt_int q
theorem pI:eU X (compareOp .LtE) (rC fun i j => .bl (decide (i <= j))):=vK fun _ _ _ _ _ _ _ q=>le_int q
theorem pJ:eU X (compareOp .Gt) (rC fun i j => .bl (decide (j < i))):=vK fun _ _ _ _ _ _ _ q=>gt_int q
theorem xo:eU X (compareOp .GtE) (rC fun i j => .bl (decide (j <= i))):=vK fun _ _ _ _ _ _ _ q=>ge_int q
theorem jy:eU X (compareOp .Is) (fun x y H Q=>y = .zT/\Q (.bl (decide (x = .zT))) H):=by
 intro pins s σ H x y v u Q I rx ry h
 obtain⟨rfl,q⟩:=h
 cases ry
 refine is_none_gen (aR I q ?_)
 cases x<;>first
  | (cases rx;rfl)
  | (obtain⟨t,rfl⟩:=rx;rfl)
theorem vG:eU X (compareOp .IsNot) (fun x y H Q=>y = .zT/\Q (.bl (!decide (x = .zT))) H):=by
 intro pins s σ H x y v u Q I rx ry h
 obtain⟨rfl,q⟩:=h
 cases ry
 refine isnot_none_gen (aR I q ?_)
 cases x<;>first
  | (cases rx;rfl)
  | (obtain⟨t,rfl⟩:=rx;rfl)
theorem av (b:Expr){op:CmpOp}(h:op ≠ .In:=by decide)(h2:op ≠ .NotIn:=by decide):behindInMarks op b=false:=by
 have e1:(op == CmpOp.In)=false:=by cases op<;>first | rfl | exact absurd rfl h
 have e2:(op == CmpOp.NotIn)=false:=by cases op<;>first | rfl | exact absurd rfl h2
 cases b<;>simp[behindInMarks,e1,e2]
theorem bO {op:CmpOp}{r:R2}(ho:eU X (compareOp op) r)(ha:PE X a ta)(hb:PE X b tb)(hm:behindInMarks op b=false):PE X (.Compare a [op] [b] pos) (Oa r ta tb):=by
 intro pins s σ H Q I h
 exact wpAny_Compare1 (zo ha hb I h fun v u s2 x y H2 I2 rx ry q=>ho pins s2 σ H2 x y v u Q I2 rx ry q) hm
noncomputable def JZ (t:TE):TT:=fun σ H Q=>t σ H fun x H'=>∃ k,x = .bl k/\Q k H'
theorem ap {op:CmpOp}{r:R2}(ho:eU X (compareOp op) r)(ha:PE X a ta)(hb:PE X b tb)(hm:behindInMarks op b=false):PT X (.Compare a [op] [b] pos) (JZ (Oa r ta tb)):=by
 intro pins s σ H Q I h
 refine wpAny_isTrue_Compare1 (aT (ha pins s σ H _ I h) fun v s1 ⟨x,H1,I1,r1,q1⟩=>aT (hb pins s1 σ H1 _ I1 q1) fun u s2 ⟨y,H2,I2,r2,q2⟩ =>
  aT (ho pins s2 σ H2 x y v u _ I2 r1 r2 q2) fun c s3 ⟨z,H3,I3,r3,k,e,q3⟩=>?_) hm
 subst e
 cases r3
 exact wpAny_truthy_bool ⟨H3,I3,q3⟩
noncomputable def xF (r r':R2)(ta tb tc:TE):TE:=fun σ H Q=>ta σ H fun x H1=>tb σ H1 fun y H2=>r x y H2 fun z H3=>∃ k,z = .bl k /\
 (if k=true then tc σ H3 fun w' H4=>r' y w' H4 Q else Q (.bl false) H3)
theorem mq {op PU:CmpOp}{r r':R2}(ho:eU X (compareOp op) r)(Fu:eU X (compareOp PU) r')(ha:PE X a ta)(hb:PE X b tb)(hc:PE X c tc)
  (hm:lastMarks [op,PU] [b,c]=false:=by with_unfolding_all rfl):PE X (.Compare a [op,PU] [b,c] pos) (xF r r' ta tb tc):=by
 intro pins s σ H Q I h
 refine Compare_chain (aT (ha pins s σ H _ I h) fun v s1 ⟨x,H1,I1,r1,q1⟩=>chain_link (aT (hb pins s1 σ H1 _ I1 q1) fun u s2 ⟨y,H2,I2,r2,q2⟩ =>
  aT (ho pins s2 σ H2 x y v u _ I2 r1 r2 q2) fun d s3 ⟨z,H3,I3,r3,k,e,q3⟩=>?_)) hm
 subst e
 cases r3
 refine wpAny_truthy_bool ?_
 cases k with
 | false=>exact ite_ff ⟨.bl false,H3,I3,rfl,q3⟩
 | true=>exact ite_tt (chain_last (aT (hc pins s3 σ H3 _ I3 q3) fun w' s4 zH=>by obtain⟨z',H4,I4,r4,q4⟩:=zH;exact Fu pins s4 σ H4 y z' u w' Q I4 r2 r4 q4))
noncomputable def Ka (K:Frag)(x:V)(H:Hp)(k:Bool):Prop :=
 match x with
 | .zT=>k=false
 | .bl b=>k=b
 | .int i=>k=(i != 0)
 | .str y=>y.length <= sizeLine/\k=((y.length:Int) != 0)
 | .DE y=>y.size <= sizeLine/\k=((y.size:Int) != 0)
 | .ref p=>(∃ xs,zJ K H p xs/\k = !xs.isEmpty)∨(∃ xs,zM K H p xs/\k = !xs.isEmpty)∨∃ kvs,H p=some (.dK kvs)/\k = !kvs.isEmpty
 | _=>False
theorem oH {κ:Type} {kvs:List (κ × V)} {vs:List (κ × Value)} (r:KV kvs vs):(!vs.isEmpty) = !kvs.isEmpty:=by
 cases r<;>rfl
theorem j7 {xs:List V}{zI:List Value}(r:Vals xs zI):(!zI.toArray.isEmpty) = !xs.isEmpty:=by
 cases r<;>simp
theorem j3:(sizeLine:Nat) < 2 ^ 63:=by rw[sizeLine_eq];decide
theorem xx:PQ X (fun x H Q=>∃ k,Ka X.K x H k/\Q k H):=by
 intro pins s σ H x v Q I rx h
 obtain⟨k,e,q⟩:=h
 have hl:=j3
 have hs:sizeLine=16777216:=sizeLine_eq
 cases x with
 | zT =>
  cases rx
  have e':k=false:=e
  subst e'
  exact truthy_none ⟨H,I,q⟩
 | bl b =>
  cases rx
  have e':k=b:=e
  subst e'
  exact wpAny_truthy_bool ⟨H,I,q⟩
 | int i =>
  obtain⟨t,rfl⟩:=rx
  have e':k=(i != 0):=e
  subst e'
  exact PySem.P.truthy_int ⟨H,I,q⟩
 | str y =>
  obtain⟨t,rfl⟩:=rx
  obtain⟨hy,e'⟩:y.length <= sizeLine/\k=((y.length:Int) != 0):=e
  subst e'
  exact PySem.P.truthy_str (by omega) ⟨H,I.tok _,q⟩
 | DE y =>
  obtain⟨t,rfl⟩:=rx
  obtain⟨hy,e'⟩:y.size <= sizeLine/\k=((y.size:Int) != 0):=e
  subst e'
  exact PySem.W.truthy_bytes (by omega) ⟨H,I.tok _,q⟩
 | ref p =>
  cases rx
  have e':(∃ xs,zJ X.K H p xs/\k = !xs.isEmpty)∨(∃ xs,zM X.K H p xs/\k = !xs.isEmpty)∨∃ kvs,H p=some (.dK kvs)/\k = !kvs.isEmpty:=e
  rcases e' with ⟨xs,hx,e'⟩ | ⟨xs,hx,e'⟩ | ⟨kvs,hx,e'⟩
  ·subst e'
   obtain⟨zI,r,pl,hz⟩:=I.list hx
   have hlen:=r.length
   exact wpAny_truthy_list pl.isList (by simp only[size_toArray];omega) ⟨H,I.tok _,by rw[j7 r];exact q⟩
  ·subst e'
   obtain⟨zI,r,pl,hz⟩:=I.tuple hx
   have hlen:=r.length
   exact truthy_tuple pl (by simp only[size_toArray];omega) ⟨H,I.tok _,by rw[j7 r];exact q⟩
  ·subst e'
   obtain⟨hz,hS,vs,r,m⟩:kvs.length <= sizeLine/\(p == sysModules)=false/\∃ vs,KV kvs vs/\s.heap.DictOf (aU X.prog X.w) p vs:=I.zL p _ hx
   have hlen:kvs.length=vs.length:=Paired.length r
   exact wpAny_truthy_dict hS m (by omega) ⟨H,I.tok _,by rw[oH r];exact q⟩
 | _=>exact(show False from e).elim
theorem jv (ha:PE X a ta)(he:∀ whole,isTrue a X.env whole=(do let v ← whole;standAt a.pos;holding [v] (truthy v))) :
  PT X a (fun σ H Q=>ta σ H fun x H'=>∃ k,Ka X.K x H' k/\Q k H'):=by
 intro pins s σ H Q I h
 exact isTrue_plain (aT (ha pins s σ H _ I h) fun v s1 zH=>by obtain⟨x,H1,I1,r1,q1⟩:=zH;exact xx pins s1 σ H1 x v Q I1 r1 q1) (he _)
theorem iZ {x:V}{us:List Value}(r:Vals [x] us):∃ u,us=[u]/\RelV x u:=by
 cases r with
 | cons r1 r2=>cases r2;exact⟨_,rfl,r1⟩
theorem vals2 {x y:V}{us:List Value}(r:Vals [x,y] us):∃ u w',us=[u,w']/\RelV x u/\RelV y w':=by
 cases r with
 | cons r1 r2 =>
  cases r2 with
  | cons r3 r4=>cases r4;exact⟨_,_,rfl,r1,r3⟩
theorem uR:c6 X (.builtin "abs") (fun xs H Q=>∃ i,xs=[.int i]/\Q (.int (if i < 0 then -i else i)) H):=by
 intro pins s σ H xs us Q I r h
 obtain⟨i,rfl,q⟩:=h
 obtain⟨u,rfl,t,rfl⟩:=iZ r
 exact call_abs_int fun u tk=>⟨.int (if i < 0 then -i else i),H,I.tok _,⟨_,rfl⟩,q⟩
theorem r9 (hc:X.calm=true):c6 X (.builtin "min") (fun xs H Q=>∃ i j,xs=[.int i, .int j]/\Q (.int (if j < i then j else i)) H):=by
 intro pins s σ H xs us Q I r h
 obtain⟨i,j,rfl,q⟩:=h
 obtain⟨u,w',rfl,⟨t,rfl⟩,⟨t',rfl⟩⟩:=vals2 r
 refine min_two_ints (I.ok.hd hc) fun h' tk k=>⟨_,H,I.kept k,?_,q⟩
 by_cases hj:j < i
 ·rw[if_pos hj,if_pos hj];exact⟨_,rfl⟩
 ·rw[if_neg hj,if_neg hj];exact⟨_,rfl⟩
end
end L2
namespace L2
open PySem PySem.Spec PyProof.Rows
structure Dr (h:Heap)(x dx C:Addr)(mA:Str->Option Value):Prop where
 obj:h.get? x=some (PySem.W.instObj C dx)
 ns:h.Ns1 dx mA
 ne:dx ≠ x
theorem qS {h:Heap}{dx:Addr}{mA:Str->Option Value}(n:h.Ns1 dx mA):∃ od,h.get? dx=some od/\∀ name,PySem.W.lookIn name od=some (mA name):=by
 obtain⟨o,es,ep,ho,hd,hk,_,hm⟩:=n
 refine⟨o,ho,fun name=>?_⟩
 have e:=hm name
 unfold nsFind findBy at e
 rw[← Array.find?_toList]at e
 unfold PySem.W.lookIn
 rw[hd]
 dsimp only
 split
 ·rename_i y q
  rw[q]at e
  exact congrArg some e
 ·rename_i q
  rw[q]at e
  have a:es.toList.any (·.refKey)=false:=by
   rw[List.any_eq_false]
   intro y hy
   obtain⟨z,t,PV⟩:=hk y (Array.mem_toList_iff.mp hy)
   simp[DictEntry.refKey,PV]
  have a':¬ es.toList.any (·.refKey)=true:=by rw[a];exact Bool.false_ne_true
  rw[if_neg a']
  exact congrArg some e
theorem Dr.look {h:Heap}{x dx C:Addr}{mA:Str->Option Value}(I:Dr h x dx C mA):∃ od,PySem.W.InstAt h x (PySem.W.instObj C dx) C (some od)/\∀ name,PySem.W.lookIn name od=some (mA name) :=
 let ⟨od,ho,hl⟩:=qS I.ns
 ⟨od,⟨I.obj,rfl,rfl,ho⟩,hl⟩
section
variable {prog:Program}{w:World}{A:Around}{E:Value->Shared->Prop}{s:Shared}{K:Frag}{x dx C f:Addr}{mA:Str->Option Value}{name:Str}{v:Value}
theorem wC {expr:Bool}{Q:Value->Shared->Prop}(X:K.In s.heap)(I:Dr s.heap x dx C mA)(hg:plainGet K C name=true)(hh:hasDictIn K C=true)
  (ha:findIn K (.ref C) name=some none) (hv:mA name=some v) (Jg:PySem.W.handedIn v=true) (h:Q v { s with toks:=s.toks + 1 }) :
  wpAny (model prog w) A (getAttr (.ref x) name expr) Q E s:=by
 obtain⟨od,J,hl⟩:=I.look
 exact PySem.W.get_value X J (PySem.W.plainGet_of hg).1 (PySem.W.findObj_own hh ha rfl (by rw[hl,hv])) Jg h
theorem u7 {pl:Sem Bool}{Q:Value × List Value->Shared->Prop}(X:K.In s.heap)(I:Dr s.heap x dx C mA)(hg:plainGet K C name=true)
  (hf:findIn K (.ref C) name=some (some (.ref f))) (ht:isFn K (.ref f)=true) (hv:mA name=none) (h:Q (.ref f,[.ref x]) s) :
  wpAny (model prog w) A (getMethod (.ref x) name pl) Q E s:=by
 obtain⟨od,J,hl⟩:=I.look
 exact PySem.W.method_fn X J (PySem.W.plainGet_of hg).1 (PySem.W.plainGet_of hg).2 hf (beq_iff_eq.mp ht) (by show(PySem.W.lookIn name od).map (·.isSome)=some false;rw[hl,hv];rfl) h
theorem vn {ns:List Str}{Q:Unit->Shared->Prop}(X:K.In s.heap)(I:Dr s.heap x dx C mA)
  (hs:findIn K (.ref C) "__setattr__" = some (some (.builtin "object.__setattr__"))) (hp:plainOver K C=true) (ht:PySem.W.takerIn K C name=some none) (hh:hasDictIn K C=true)
  (hw:PySem.Within mA ns) (hsz:ns.length <= sizeLine)
  (h:∀ h',Dr h' x dx C (fun y=>if y=name then some v else mA y)->Heap.SameBut dx s.heap h'->Q () { s with heap:=h',toks:=s.toks + 2 }) :
  wpAny (model prog w) A (setAttr (.ref x) name v) Q E s:=by
 obtain⟨od,J,hl⟩:=I.look
 refine PySem.W.set_plain X J hs (PySem.W.osa_open (s:={ s with toks:=s.toks + 1 }) (r:=none) X J hp ht fun b=>?_)
 obtain⟨cd,hc,HG⟩:=PySem.W.any_some hh
 have hx:s.heap.get? x=some ⟨.ref C,some dx, .plain,#[]⟩:=I.obj
 refine wpAny_bind (wpAny_pure (wpAny_bind (wpAny_bind (wpAny_loadPart hx (wpAny_bind (PySem.W.Looks.here (s:={ s with toks:=s.toks + 1 }) (PySem.W.looks_clsIn X hc) ?_))))))
 rw[HG]
 refine wpAny_pure (a:=some dx) (wpAny_bind (wpAny_pure (wpAny_bind ?_)))
 refine wpAny_nsSet1 (s:={ s with toks:=s.toks + 1 }) I.ns fun h' Dt DF=>?_
 obtain⟨oD,Vj,Vk,Kb,Kc,Kd⟩:=Dt.count (PySem.Within.cons name v hw)
 refine wpAny_bind (wpAny_lookBehind Kb (by rw[Kc];exact pastItsLine_dict (le_trans Kd (by rw[length_cons];omega))) ?_)
 exact wpAny_pure (h _ ⟨(DF.2 _ (Ne.symm I.ne)).trans I.obj,Dt,I.ne⟩ DF)
theorem ut {R:Result->Shared->Prop}{vs:List Value}{kw:List (Str × Value)}(X:K.In s.heap)(hm:makesIn K C=true)
  (hi:findIn K (.ref C) "__init__" = some (some (.ref f))) (hf:PySem.W.typeIn K (.ref f)=some (.type "function"))
  (h:codeAny (model prog w) (A.under (.builtin "type.__call__" ⟨.ref C :: vs,kw⟩)) (.call (.ref f) ⟨.ref (s.heap.objs.size + 1) :: vs,kw⟩) (PySem.W.InitBack (s.heap.objs.size + 1) R)
   { s with heap:=(s.heap.push PySem.W.emptyDict).push (PySem.W.instObj C s.heap.objs.size) }) :
  codeAny (model prog w) A (.call (.ref C) ⟨vs,kw⟩) R s:=by
 obtain⟨hh,g,d,t,os⟩:=s
 exact PySem.W.make_core (PySem.W.makes_of X hm) (PySem.W.looks_findIn X hi) (fun self=>PySem.W.bind_fn X self hf) (.inl rfl) h
end
noncomputable def aK (f:Str)(v:V):List (Str × V)->List (Str × V)
 | []=>[(f,v)]
 | (g,x) :: r=>if g=f then (g,v) :: r else (g,x) :: aK f v r
theorem fG (f g:Str)(v:V):∀ fs:List (Str × V),(aK f v fs).lookup g=if g=f then some v else fs.lookup g
 | []=>by
  show List.lookup g [(f,v)]=_
  by_cases h:g=f
  ·have hb:(g == f)=true:=beq_iff_eq.mpr h
   simp only[List.lookup,hb,if_pos h]
  ·have hb:(g == f)=false:=beq_eq_false_iff_ne.mpr h
   simp only[List.lookup,hb,if_neg h]
 | (k,x) :: r=>by
  have ih:=fG f g v r
  rw[show aK f v ((k,x) :: r)=(if k=f then (k,v) :: r else (k,x) :: aK f v r) from rfl]
  by_cases hk:k=f
  ·rw[if_pos hk]
   by_cases h:g=k
   ·have hb:(g == k)=true:=beq_iff_eq.mpr h
    simp only[List.lookup,hb,if_pos (h.trans hk)]
   ·have hb:(g == k)=false:=beq_eq_false_iff_ne.mpr h
    simp only[List.lookup,hb,if_neg (fun e:g=f=>h (e.trans hk.symm))]
  ·rw[if_neg hk]
   by_cases h:g=k
   ·have hb:(g == k)=true:=beq_iff_eq.mpr h
    simp only[List.lookup,hb,if_neg (fun e:g=f=>hk (h.symm.trans e))]
   ·have hb:(g == k)=false:=beq_eq_false_iff_ne.mpr h
    simp only[List.lookup,hb]
    exact ih
theorem i6 (f:Str)(v:V):∀ fs:List (Str × V),f ∈ (aK f v fs).map (·.1)/\∀ g,g ∈ fs.map (·.1)->g ∈ (aK f v fs).map (·.1)
 | []=>⟨by simp[aK],fun g h=>by simp at h⟩
 | (k,x) :: r=>by
  obtain⟨i1,i2⟩:=i6 f v r
  rw[show aK f v ((k,x) :: r)=(if k=f then (k,v) :: r else (k,x) :: aK f v r) from rfl]
  by_cases hk:k=f
  ·rw[if_pos hk]
   subst hk
   exact⟨by simp,fun g h=>by simpa using h⟩
  ·rw[if_neg hk]
   refine⟨?_,fun g h=>?_⟩
   ·rw[map_cons]
    exact mem_cons_of_mem _ i1
   ·rw[map_cons]at h ⊢
    rcases mem_cons.mp h with e | e
    ·exact mem_cons.mpr (.inl e)
    ·exact mem_cons_of_mem _ (i2 g e)
theorem iC (f:Str)(v:V):∀ fs:List (Str × V),(aK f v fs).length <= fs.length + 1
 | []=>by simp[aK]
 | (k,x) :: r=>by
  have ih:=iC f v r
  rw[show aK f v ((k,x) :: r)=(if k=f then (k,v) :: r else (k,x) :: aK f v r) from rfl]
  by_cases hk:k=f
  ·rw[if_pos hk,length_cons,length_cons];omega
  ·rw[if_neg hk,length_cons,length_cons];omega
theorem Av.some_of {v:V}{o:Option Value}(r:Av (some v) o):∃ u,o=some u/\RelV v u:=by
 cases o with
 | none=>exact(show False from r).elim
 | some u=>exact⟨u,rfl,r⟩
theorem Av.none_of {o:Option Value}(r:Av none o):o=none:=by
 cases o with
 | none=>rfl
 | some u=>exact(show False from r).elim
theorem rc {v:V}{u:Value}(r:RelV v u):PySem.W.handedIn u=true:=by
 cases v with
 | zT=>cases (show u=Value.none from r);rfl
 | bl b=>cases (show u=Value.bool b from r);rfl
 | int i=>obtain⟨t,e⟩:=(show ∃ t,u=Value.int i t from r);cases e;rfl
 | str x=>obtain⟨t,e⟩:=(show ∃ t,u=Value.str x t from r);cases e;rfl
 | DE b=>obtain⟨t,e⟩:=(show ∃ t,u=Value.bytes b t from r);cases e;rfl
 | HD b=>obtain⟨t,e⟩:=(show ∃ t,u=Value.float b t from r);cases e;rfl
 | ref a=>cases (show u=Value.ref a from r);rfl
 | ty n=>cases (show u=Value.type n from r);rfl
section
variable {P:Program}{w:World}{H H':Hp}{h h':Heap}{a C dx:Addr}{fs An:List (Str × V)}
theorem iV (zL:AH P w H h)(e:H a=some (.ins C dx fs)):∃ mA,Dr h a dx C mA/\(∀ f,Av (fs.lookup f) (mA f))/\PySem.Within mA (fs.map (·.1))/\fs.length <= 1000/\H dx=some (.own a):=by
 obtain⟨d,z,ne,ob,mA,n,r,q⟩:=(show zV P w H h a (.ins C dx fs) from zL a _ e)
 exact⟨mA,⟨ob,n,ne⟩,r,q,z,d⟩
end
structure Cg (K:Frag)(C:Addr):Prop where
 pg:plainGet K C Str.empty=true
 hd:hasDictIn K C=true
 po:plainOver K C=true
 sa:findIn K (.ref C) "__setattr__" = some (some (.builtin "object.__setattr__"))
theorem Cg.get {K:Frag}{C:Addr}(c:Cg K C)(f:Str):plainGet K C f=true:=c.pg
noncomputable def zP (K:Frag)(C:Addr)(f:Str):Prop:=findIn K (.ref C) f=some none
theorem zP.Ke {K:Frag}{C:Addr}{f:Str}(n:zP K C f):PySem.W.takerIn K C f=some none:=by
 unfold PySem.W.takerIn
 rw[show findIn K (.ref C) f=some none from n]
 rfl
structure bD (K:Frag)(C:Addr)(m:Str)(f:Addr):Prop where
 at_:findIn K (.ref C) m=some (some (.ref f))
 fn:isFn K (.ref f)=true
 kp:keepIn K (.ref f)=true
section
variable {X:Cx}{pins:List (Addr × Obj)}{σ:St}{H:Hp}{s:Shared}{a C dx:Addr}{fs:List (Str × V)}{f:Str}{v:V}{A:Around}{E:Value->Shared->Prop}
theorem jA {b:Bool}{Q:Value->Shared->Prop}(I:Inv X pins σ H s)(e:H a=some (.ins C dx fs))(c:Cg X.K C)(n:zP X.K C f)(l:fs.lookup f=some v)
  (h:∀ u s',Inv X pins σ H s'->RelV v u->Q u s'):wpAny (model X.prog X.w) A (getAttr (.ref a) f b) Q E s:=by
 obtain⟨mA,O,r,_,_,_⟩:=iV I.zL e
 obtain⟨u,hu,ru⟩:=Av.some_of (v:=v) (o:=mA f) (by rw[← l];exact r f)
 exact wC I.AF O (c.get f) c.hd n hu (rc ru) (h u _ (I.tok _) ru)
theorem j9 {m:Str}{g:Addr}{pl:Sem Bool}{Q:Value × List Value->Shared->Prop}(I:Inv X pins σ H s)(e:H a=some (.ins C dx fs))(c:Cg X.K C)(k:bD X.K C m g)(l:fs.lookup m=none)
  (h:Q (.ref g,[.ref a]) s):wpAny (model X.prog X.w) A (getMethod (.ref a) m pl) Q E s:=by
 obtain⟨mA,O,r,_,_,_⟩:=iV I.zL e
 have hn:mA m=none:=Av.none_of (by rw[← l];exact r m)
 exact u7 I.AF O (c.get m) k.at_ k.fn hn h
theorem jk {y:V}{u:Value}{Q:Unit->Shared->Prop}(I:Inv X pins σ H s)(e:H a=some (.ins C dx fs))(c:Cg X.K C)(n:zP X.K C f)(hl:fs.length < 1000)(ry:RelV y u)
  (h:∀ s',Inv X pins σ (upd H a (.ins C dx (aK f y fs))) s'->Q () s'):wpAny (model X.prog X.w) A (setAttr (.ref a) f u) Q E s:=by
 obtain⟨mA,O,r,wi,_,ho⟩:=iV I.zL e
 have hz:(fs.map (·.1)).length <= sizeLine:=by rw[length_map,sizeLine_eq];omega
 refine vn I.AF O c.sa c.po n.Ke c.hd wi hz fun h' O' sb=>h _ ?_
 have hd:∃ o,h'.get? dx=some o:=let ⟨o,_,_,e',_⟩:=O'.ns; ⟨o,e'⟩
 refine I.write (x:=a) (e:=dx) (by rw[e];exact True.intro) (.inr ho) (fun b q hb z=>(sb.2 b hb).trans z) hd ?_
 refine⟨by rw[af O.ne];exact ho,?_,O.ne,O'.obj,_,O'.ns,fun g=>?_,fun g hg=>?_⟩
 ·have:=iC f y fs;omega
 ·show Av ((aK f y fs).lookup g) (if g=f then some u else mA g)
  rw[fG]
  by_cases q:g=f
  ·rw[if_pos q,if_pos q];exact ry
  ·rw[if_neg q,if_neg q];exact r g
 ·by_cases q:g=f
  ·rw[q];exact(i6 f y fs).1
  ·refine(i6 f y fs).2 g (wi g fun z=>hg ?_)
   show(if g=f then some u else mA g)=none
   rw[if_neg q];exact z
theorem Inv.made (I:Inv X pins σ H s):Inv X pins σ (upd (upd H s.heap.objs.size (.own (s.heap.objs.size + 1))) (s.heap.objs.size + 1) (.ins C s.heap.objs.size []))
  { s with heap:=(s.heap.push PySem.W.emptyDict).push (PySem.W.instObj C s.heap.objs.size) }:=by
 have e1:(s.heap.push PySem.W.emptyDict).get? s.heap.objs.size=some PySem.W.emptyDict:=Heap.get?_push_size s.heap rfl
 have e2:((s.heap.push PySem.W.emptyDict).push (PySem.W.instObj C s.heap.objs.size)).get? (s.heap.objs.size + 1)=some (PySem.W.instObj C s.heap.objs.size):=by
  have:=Heap.get?_push_size (s.heap.push PySem.W.emptyDict) (o:=PySem.W.instObj C s.heap.objs.size) rfl
  rwa [size_push]at this
 have e3:(s.heap.push PySem.W.emptyDict).Ns s.heap.objs.size (fun _=>none):=⟨PySem.W.emptyDict,#[],_,e1,rfl,(fun e he=>absurd he (by simp)),fun _=>rfl⟩
 have I1:=I.laid (a:=s.heap.objs.size) (o := .own (s.heap.objs.size + 1)) (h':=s.heap.push PySem.W.emptyDict) (t':=s.toks) (fun b u q=>Heap.get?_push_of_some _ q) (Nat.le_refl _) ⟨_,e1⟩
 refine I1.laid (a:=s.heap.objs.size + 1) (o := .ins C s.heap.objs.size []) (t':=s.toks) (fun b u q=>Heap.get?_push_of_some _ q) (le_of_eq (size_push _ _)) ?_
 have ne:s.heap.objs.size ≠ s.heap.objs.size + 1:=ne_of_lt (lt_succ_self _)
 refine⟨by rw[af ne,ac],zero_le _,ne,e2,fun _=>none,(Heap.Ns1.of_empty e3).at fun o q=>Heap.get?_push_of_some _ q,fun _=>True.intro,fun y hy=>absurd rfl hy⟩
theorem wM {prog:Program}{w:World}{env:Env}{e:Expr}{f:Str}{pos:Pos}{s:Shared}{Q:Value->Shared->Prop}(hb:attributeBase e f env (eval e env)=eval e env)
  (h:wpAny (model prog w) A (eval e env) (fun o s₁=>wpAny (model prog w) A (getAttr o f true) Q E s₁) E s):wpAny (model prog w) A (eval (.Attribute e f pos) env) Q E s :=
 Attribute_any_ h (by rw[arm_eval_Attribute,hb])
end
noncomputable def rN (K:Frag)(ta:TE)(f:Str):TE:=fun σ H Q=>ta σ H fun x H1=>∃ a C dx fs v,x = .ref a/\H1 a=some (.ins C dx fs)/\Cg K C/\zP K C f/\fs.lookup f=some v/\Q v H1
noncomputable def PY (K:Frag)(ta tv:TE)(f:Str):TS:=fun D σ H=>tv σ H fun y H1=>ta σ H1 fun x H2=>∃ a C dx fs,x = .ref a/\H2 a=some (.ins C dx fs)/\Cg K C/\zP K C f/\fs.length < 1000 /\
 D.nx σ (upd H2 a (.ins C dx (aK f y fs)))
noncomputable def PZ (X:Cx)(op:Operator)(rd:V->V->Hp->VK->Prop):Prop :=
 ∀ (pins:List (Addr × Obj))(s:Shared)(σ:St)(H:Hp)(x y:V)(u v:Value)(Q:VK),Inv X pins σ H s->RelV x u->RelV y v->rd x y H Q->wpAny (model X.prog X.w) X.A (inplaceOp op u v) (EP X pins σ Q) X.xe s
noncomputable def vy (K:Frag)(ta tv:TE)(rd:V->V->Hp->VK->Prop)(f:Str):TS:=fun D σ H=>ta σ H fun x H1=>∃ a C dx fs v,x = .ref a/\H1 a=some (.ins C dx fs)/\Cg K C/\zP K C f/\fs.lookup f=some v /\
 tv σ H1 fun y H2=>rd v y H2 fun z H3=>∃ DU An,H3 a=some (.ins C DU An)/\An.length < 1000/\D.nx σ (upd H3 a (.ins C DU (aK f z An)))
section
variable {X:Cx}{o e value:Expr}{f:Str}{pos pos' DV:Pos}{ta tv:TE}
theorem al (he:PE X e ta)(hb:attributeBase e f X.env (eval e X.env)=eval e X.env):PE X (.Attribute e f pos) (rN X.K ta f):=by
 intro pins s σ H Q I h
 refine wM hb (aT (he pins s σ H _ I h) fun u s1 zH=>?_)
 obtain⟨x,H1,I1,rx,a,C,dx,fs,v,ex,ea,c,n,l,q⟩:=zH
 subst ex
 obtain rfl:u=Value.ref a:=rx
 exact jA I1 ea c n l fun u' s2 I2 ru=>⟨v,H1,I2,ru,q⟩
theorem aV (ha:PE X o ta)(hv:PE X value tv)(hs:swapsWith value (some (.Attribute o f pos')) pos.line X.env=pure false):PS X (.Assign [.Attribute o f pos'] value pos) (PY X.K ta tv f):=by
 intro pins s σ H D I h
 refine plainObj_wpAny_Assign_Attribute (aT (hv pins s σ H _ I h) fun u s1 ⟨y,H1,I1,ry,q⟩=>aT (ha pins s1 σ H1 _ I1 q) fun ov s2 zH=>?_) hs
 obtain⟨x,H2,I2,rx,a,C,dx,fs,ex,ea,c,n,l,q2⟩:=zH
 subst ex
 obtain rfl:ov=Value.ref a:=rx
 exact jk I2 ea c n l ry fun s3 I3=>⟨σ,_,I3,q2⟩
theorem dY {op:Operator}{rd:V->V->Hp->VK->Prop}(ha:PE X o ta)(hv:PE X value tv)(CF:PZ X op rd):PS X (.AugAssign (.Attribute o f DV) op value pos) (vy X.K ta tv rd f):=by
 intro pins s σ H D I h
 refine wpAny_AugAssign_AttributeAny (aT (ha pins s σ H _ I h) fun ov s1 zH=>?_)
 obtain⟨x,H1,I1,rx,a,C,dx,fs,v,ex,ea,c,n,l,q⟩:=zH
 subst ex
 obtain rfl:ov=Value.ref a:=rx
 refine jA I1 ea c n l fun u s2 I2 ru=>aT (hv pins s2 σ H1 _ I2 q) fun w3 s3 ⟨y,H2,I3,ry,q3⟩=>aT (CF pins s3 σ H2 v y u w3 _ I3 ru ry q3) fun w4 s4 zH=>?_
 obtain⟨z,H3,I4,rz,DU,An,ea',l',q4⟩:=zH
 exact jk I4 ea' c n l' rz fun s5 I5=>⟨σ,_,I5,q4⟩
end
section
variable {X:Cx}{pins:List (Addr × Obj)}{σ:St}{H:Hp}{s:Shared}{A:Around}{E:Value->Shared->Prop}{Q:Value->Shared->Prop}{c:Value}{b:Bool}
inductive i9 (K:Frag)(H:Hp):V->Value->Prop where
 | zT:i9 K H .zT (.type "NoneType")
 | bl (x:Bool):i9 K H (.bl x) (.type "bool")
 | int (i:Int):i9 K H (.int i) (.type "int")
 | str (x:Str):i9 K H (.str x) (.type "str")
 | HD (x:UInt64):i9 K H (.HD x) (.type "float")
 | lst {a:Addr} {xs:List V} (e:H a=some (.lst xs)):i9 K H (.ref a) (.type "list")
 | Bx {a:Addr} {o:Obj} {xs:List V} (e:H a=some (.Bx o (.lst xs))):i9 K H (.ref a) (.type "list")
 | tup {a:Addr} {xs:List V} (e:H a=some (.tup xs)):i9 K H (.ref a) (.type "tuple")
 | dK {a:Addr} {kvs:List (bY × V)} (e:H a=some (.dK kvs)):i9 K H (.ref a) (.type "dict")
 | dT {a:Addr} {kvs:List (List bY × V)} (e:H a=some (.dT kvs)):i9 K H (.ref a) (.type "dict")
 | ins {a C dx:Addr} {fs:List (Str × V)} (e:H a=some (.ins C dx fs)) (cl:Cg K C) (ha:findIn K (.ref C) "__class__" = some (some (.builtin "object.__class__")))
   (hn:PySem.W.specialIn K (.builtin "object.__class__") "__get__" = some (some (.builtin "getset_descriptor.__get__"))) (Vl:PySem.W.takesIn K (.builtin "object.__class__")=some true)
   (hm:PySem.W.mroIn K C (.type "object")=some true):i9 K H (.ref a) (.ref C)
theorem qW {x:V}{u t:Value}(I:Inv X pins σ H s)(rx:RelV x u)(ty:i9 X.K H x t)(e:kitOne X.K t c=some b)(h:∀ tk,Q (.bool b) { s with toks:=tk }) :
  wpAny (model X.prog X.w) A (call (.builtin "isinstance") [u,c]) Q E s:=by
 cases ty with
 | zT=>cases (show u=Value.none from rx);exact PySem.W.kia_one PySem.W.kitx_none I.AF True.intro e (fun z=>nomatch z) h
 | bl y=>cases (show u=Value.bool y from rx);exact PySem.W.kia_one PySem.W.kitx_bool I.AF True.intro e (fun z=>nomatch z) h
 | int i=>obtain⟨t,q⟩:=(show ∃ t,u=Value.int i t from rx);cases q;exact PySem.W.kia_one PySem.W.kitx_int I.AF True.intro e (fun z=>nomatch z) h
 | str y=>obtain⟨t,q⟩:=(show ∃ t,u=Value.str y t from rx);cases q;exact PySem.W.kia_one PySem.W.kitx_str I.AF True.intro e (fun z=>nomatch z) h
 | HD y=>obtain⟨t,q⟩:=(show ∃ t,u=Value.float y t from rx);cases q;exact PySem.W.kia_one PySem.W.kitx_float I.AF True.intro e (fun z=>nomatch z) h
 | @lst a xs ea =>
  cases (show u=Value.ref a from rx)
  obtain⟨_,_,n,_,h1⟩:=(show zV X.prog X.w H s.heap a (.lst xs) from I.zL a _ ea)
  exact PySem.W.kia_one PySem.W.kitx_list I.AF ⟨_,h1,rfl⟩ e (fun z=>nomatch z) h
 | @Bx a ob xs ea =>
  cases (show u=Value.ref a from rx)
  obtain⟨_,_,_,n,_,h1⟩:=(show zV X.prog X.w H s.heap a (.Bx ob (.lst xs)) from I.zL a _ ea)
  exact PySem.W.kia_one PySem.W.kitx_list I.AF ⟨_,h1,rfl⟩ e (fun z=>nomatch z) h
 | @tup a xs ea =>
  cases (show u=Value.ref a from rx)
  obtain⟨_,_,_,p⟩:=(show zV X.prog X.w H s.heap a (.tup xs) from I.zL a _ ea)
  obtain⟨o,h1,⟨h2,_⟩,_⟩:=p
  exact PySem.W.kia_one PySem.W.kitx_tuple I.AF ⟨o,h1,h2⟩ e (fun z=>nomatch z) h
 | @dK a kvs ea =>
  cases (show u=Value.ref a from rx)
  obtain⟨_,_,vs,_,p⟩:=(show zV X.prog X.w H s.heap a (.dK kvs) from I.zL a _ ea)
  obtain⟨o,es,ep,h1,h2,_⟩:=p
  exact PySem.W.kia_one PySem.W.kitx_dict I.AF ⟨o,h1,h2.1⟩ e (fun z=>nomatch z) h
 | @dT a kvs ea =>
  cases (show u=Value.ref a from rx)
  obtain⟨_,_,xs,_,o,es,ep,h1,h2,_⟩:=(show zV X.prog X.w H s.heap a (.dT kvs) from I.zL a _ ea)
  exact PySem.W.kia_one PySem.W.kitx_dict I.AF ⟨o,h1,h2.1⟩ e (fun z=>nomatch z) h
 | @ins a C dx fs ea cl ha hn Vl hm =>
  cases (show u=Value.ref a from rx)
  obtain⟨mA,O,_⟩:=iV I.zL ea
  obtain⟨od,J,_⟩:=O.look
  exact PySem.W.kia_one (PySem.W.kitx_own (cl.get _) cl.hd ha hn Vl hm) I.AF J e (fun z=>nomatch z) h
end
end L2
namespace L2
open PySem PySem.Spec PyProof.Rows
structure zN (k:Nat)(A:Around):Prop where
 hd:A.handled=none
 dp:A.depth + 3 * k + 5 < recursionLimit
 un:A.units + 16 * k + 200 < cLine
theorem zN.mono {j k:Nat}{A:Around}(r:zN k A)(h:j <= k):zN j A:=⟨r.hd,by have:=r.dp;omega,by have:=r.un;omega⟩
theorem zN.deeper {k:Nat}{A:Around}(r:zN (k + 1) A)(env:Env):zN k (A.deeper env) :=
 ⟨r.hd,by have:=r.dp;show A.depth + 1 + 3 * k + 5 < _;omega,by have:=r.un;show A.units + 3 + 16 * k + 200 < _;omega⟩
theorem oA {A:Around}{C:Addr}{us:List Value}{kw:List (Str × Value)}:(A.under (.builtin "type.__call__" ⟨.ref C :: us,kw⟩)).depth=A.depth + 1:=by
 first | rfl | simp[Around.under,Code.weight,Code.isCreation,Code.isGuard,Code.isCaller,Code.frames,Code.isFrame,guardIds]
theorem o0 {A:Around}{C:Addr}{us:List Value}{kw:List (Str × Value)}:(A.under (.builtin "type.__call__" ⟨.ref C :: us,kw⟩)).units=A.units + 1:=by
 first | rfl | simp[Around.under,Code.cUnits,Code.frames,Code.isFrame]
theorem zN.make {k:Nat}{A:Around}(r:zN (k + 1) A)(C:Addr)(us:List Value)(kw:List (Str × Value)):zN k (A.under (.builtin "type.__call__" ⟨.ref C :: us,kw⟩)) :=
 ⟨r.hd,by have:=r.dp;rw[oA];omega,by have:=r.un;rw[o0];omega⟩
theorem zN.depth {k:Nat}{A:Around}(r:zN k A):A.depth < recursionLimit:=by have:=r.dp;omega
theorem zN.units {k:Nat}{A:Around}(r:zN k A):A.units + 64 < cLine:=by have:=r.un;omega
noncomputable def Kf:TA:=fun _ H Q=>Q [] H
noncomputable def Kg (ta:TE)(tr:TA):TA:=fun σ H Q=>ta σ H fun x H1=>tr σ H1 fun xs H2=>Q (x :: xs) H2
section
variable {X:Cx}{e:Expr}{es:List Expr}{te:TE}{t:TA}{pos:Pos}
theorem ad:PA X [] Kf:=fun _ _ _ _ H Q I h=>Calls.spliced_nil ⟨[],H,I, .nil,h⟩
theorem aa (ha:PE X e te)(hr:PA X es t)(hs:starEach (e :: es) X.env=(false,eval e X.env) :: starEach es X.env:=by rfl):PA X (e :: es) (Kg te t):=by
 intro pos pins s σ H Q I h
 rw[hs]
 show wpAny _ _ (spliced ((false,eval e X.env) :: backTo pos (starEach es X.env))) _ _ s
 refine Calls.spliced_cons (aT (ha pins s σ H _ I h) fun u s1 zH=>?_)
 obtain⟨x,H1,I1,r1,q1⟩:=zH
 exact aT (hr pos pins s1 σ H1 _ I1 q1) fun us s2 zH=>by obtain⟨xs,H2,I2,r2,q2⟩:=zH;exact⟨x :: xs,H2,I2, .cons r1 r2,q2⟩
noncomputable def Qa (t:TA):TE:=fun σ H Q=>t σ H fun xs H1=>xs.length <= sizeLine/\∀ p,H1 p=none->Q (.ref p) (upd H1 p (.tup xs))
noncomputable def Qb (t:TA):TE:=fun σ H Q=>t σ H fun xs H1=>xs.length <= sizeLine/\∀ p,H1 p=none->Q (.ref p) (upd H1 p (.lst xs))
theorem bH {x1} (h:PA X es t):PE X (.Tuple es x1 pos) (Qa t):=by
 intro pins s σ H Q I hq
 refine wpAny_Tuple_spliced (aT (h pos pins s σ H _ I hq) fun us s1 ⟨xs,H1,I1,r,z,q⟩=>⟨by rw[← r.length];exact z,?_⟩)
 have hf:H1 s1.heap.objs.size=none:=I1.zL.fresh (Nat.le_refl _)
 refine⟨.ref s1.heap.objs.size,upd H1 s1.heap.objs.size (.tup xs),I1.laid (t':=s1.toks) (fun b u e=>Heap.get?_push_of_some _ e) (Nat.le_refl _) ?_,rfl,q _ hf⟩
 exact⟨z,us,r,⟨_,Heap.get?_push_size _ rfl,⟨rfl,_,rfl⟩,rfl⟩⟩
theorem aO (h:PA X es t):PE X (.List es pos) (Qb t):=by
 intro pins s σ H Q I hq
 refine wpAny_List_spliced (aT (h pos pins s σ H _ I hq) fun us s1 ⟨xs,H1,I1,r,z,q⟩=>⟨by rw[← r.length];exact z,?_⟩)
 have hf:H1 s1.heap.objs.size=none:=I1.zL.fresh (Nat.le_refl _)
 refine⟨.ref s1.heap.objs.size,upd H1 s1.heap.objs.size (.lst xs),I1.laid (t':=s1.toks) (fun b u e=>Heap.get?_push_of_some _ e) (Nat.le_refl _) ?_,rfl,q _ hf⟩
 exact⟨z,us,0,r,Heap.get?_push_size _ rfl⟩
end
abbrev Sp:=List V->Hp->VK->XK->Prop
abbrev oX:=List Env->Hp->Shared->XK->Value->Shared->Prop
structure Du (P:Program)(w:World)(K:Frag)(mg:Str->Option Value)(base:Heap)(A:Around)(outer:List Env)(s:Shared)(H:Hp):Prop where
 frames:A.frames=some outer
 mod:Mod K mg base
 bs:∀ b o,base.get? b=some o->s.heap.get? b=some o/\H b=none
 Fq:base.objs.size <= s.heap.objs.size
 B5:s.heap.FunFrames base outer
 HF:∀ b ∈ ly outer,H b=none
 zL:AH P w H s.heap
 bare:AllBare s.gens
noncomputable def CE (outer:List Env)(P:Program)(w:World)(H:Hp)(s:Shared)(Q:VK)(u:Value)(s':Shared):Prop :=
 ∃ v H',s'.os=s.os/\AllBare s'.gens/\Un (ly outer) [] H H' s.heap s'.heap/\AH P w H' s'.heap/\RelV v u/\Q v H'
noncomputable def CR (CX:oX)(outer:List Env)(P:Program)(w:World)(H:Hp)(s:Shared)(Q:VK)(E:XK)(r:Result)(s':Shared):Prop :=
 match r with
 | .ok (.ret u)=>CE outer P w H s Q u s'
 | .ok _=>False
 | .error e=>CX outer H s E e s'
structure zE (P:Program)(w:World)(K:Frag)(mg:Str->Option Value)(base:Heap)(CX:oX)(k:Nat)(f:Addr)(fd:FuncData)(ps:List Str)(sp:Sp):Prop where
 len:∀ vs H Q E,sp vs H Q E->vs.length=ps.length
 run:∀ (A:Around)(outer:List Env)(s:Shared)(H:Hp)(args:Args)(us:List Value)(vs:List V)(Q:VK)(E:XK),zN k A->Du P w K mg base A outer s H->BindsTo s fd args (ps.zip us)->Vals vs us->sp vs H Q E ->
  codeAny (model P w) A (.call (.ref f) args) (CR CX outer P w H s Q E) s
theorem zE.imp {P:Program}{w:World}{K:Frag}{mg:Str->Option Value}{base:Heap}{CX:oX}{k:Nat}{f:Addr}{fd:FuncData}{ps:List Str}{sp Vm:Sp}(F:zE P w K mg base CX k f fd ps sp)
  (h:∀ vs H Q E,Vm vs H Q E->sp vs H Q E):zE P w K mg base CX k f fd ps Vm :=
 ⟨fun vs H Q E q=>F.len vs H Q E (h _ _ _ _ q),fun A outer s H args us vs Q E hr he hb hv hs=>F.run A outer s H args us vs Q E hr he hb hv (h _ _ _ _ hs)⟩
theorem Du.make {P:Program}{w:World}{K:Frag}{mg:Str->Option Value}{base:Heap}{A:Around}{outer:List Env}{s:Shared}{H:Hp}(e:Du P w K mg base A outer s H)(C:Addr)(us:List Value)(kw:List (Str × Value)) :
  Du P w K mg base (A.under (.builtin "type.__call__" ⟨.ref C :: us,kw⟩)) outer s H:=⟨by first | exact e.frames | (simpa [Around.under,Code.envs,Code.isFrame,pushEnvs] using e.frames),e.mod,e.bs,e.Fq,e.B5,e.HF,e.zL,e.bare⟩
section
variable {X:Cx}{pins:List (Addr × Obj)}{σ:St}{H:Hp}{s s':Shared}
theorem Inv.HI (I:Inv X pins σ H s):Du X.prog X.w X.K X.mg X.base X.A X.stack s H :=
 ⟨I.ok.frames,I.ok.mod,I.bs,le_trans I.ok.Fq I.sz,I.stack,I.Cu,I.zL,I.bare⟩
theorem Inv.after {Q:VK}{u:Value}(I:Inv X pins σ H s)(h:CE X.stack X.prog X.w H s Q u s'):EP X pins σ Q u s':=by
 obtain⟨v,H',os,bare,un,zL,r,q⟩:=h
 obtain⟨hh,g,d,t,os'⟩:=s'
 obtain rfl:os' = s.os:=os
 exact⟨v,H',I.call (h':=hh) (g':=g) (d':=d) (t':=t) (ch:=[]) un zL bare (fun b z=>absurd z (by simp)),r,q⟩
end
noncomputable def Kh (sp:Sp)(AV:List V)(E:XK)(t:TA):TE:=fun σ H Q=>t σ H fun vs H1=>sp (vs ++ AV) H1 Q E
noncomputable def wW (C:Addr)(m:Str)(sp:Sp)(AV:List V)(E:XK)(ta:TE)(t:TA):TE:=fun σ H Q=>ta σ H fun x H1=>∃ a dx fs,x = .ref a/\H1 a=some (.ins C dx fs)/\fs.lookup m=none /\
 t σ H1 fun vs H2=>sp (x :: (vs ++ AV)) H2 Q E
noncomputable def Ki (C:Addr)(sp:Sp)(AV:List V)(E:XK)(t:TA):TE:=fun σ H Q=>t σ H fun vs H1=>∀ x dx,H1 x=none->H1 dx=none->dx ≠ x ->
 sp (.ref x :: (vs ++ AV)) (upd (upd H1 dx (.own x)) x (.ins C dx [])) (fun v H2=>v = .zT/\Q (.ref x) H2) E
noncomputable def Binds (K:Frag)(fd:FuncData)(ps:List Str)(ds:List Value):Prop :=
 ∀ (s:Shared)(us:List Value),K.In s.heap->(us ++ ds).length=ps.length->BindsTo s fd ⟨us,[]⟩ (ps.zip (us ++ ds))
theorem Binds.all {K:Frag}{fd:FuncData}{ps:List Str}(h:∀ us:List Value,us.length=ps.length->bindArgs fd ⟨us,[]⟩ = pure (ps.zip us)):Binds K fd ps []:=fun s us _ hl=>by
 rw[append_nil]at hl ⊢
 exact .of_eq (h us hl)
noncomputable def dR (CX:oX)(X:Cx)(E:XK):Prop:=∀ (pins:List (Addr × Obj))(σ:St)(H:Hp)(s:Shared)(e:Value)(s':Shared),Inv X pins σ H s->CX X.stack H s E e s'->X.xe e s'
section
variable {X:Cx}{CX:oX}{k:Nat}{f C:Addr}{fd:FuncData}{ps:List Str}{sp:Sp}{AV:List V}{ds:List Value}{E:XK}{x m:Str}{p pos apos:Pos}{e o:Expr}{es:List Expr}{ta:TE}{t:TA}
theorem kY {pins:List (Addr × Obj)}{σ:St}{H:Hp}{s:Shared}{Q:VK}{us:List Value}{vs:List V}(F:zE X.prog X.w X.K X.mg X.base CX k f fd ps sp)(hr:zN k X.A)(hb:Binds X.K fd ps ds)(hd:Vals AV ds)(hx:dR CX X E)
  (I:Inv X pins σ H s) (r:Vals vs us) (h:sp (vs ++ AV) H Q E):wpAny (model X.prog X.w) X.A (call (.ref f) us) (EP X pins σ Q) X.xe s:=by
 have r2:Vals (vs ++ AV) (us ++ ds):=r.append hd
 have hl:(us ++ ds).length=ps.length:=by rw[← r2.length];exact F.len _ _ _ _ h
 refine wpAny_call (codeAny_mono (F.run X.A X.stack s H ⟨us,[]⟩ (us ++ ds) (vs ++ AV) Q E hr I.HI (hb s us I.AF hl) r2 h) fun r s' hq=>?_)
 cases r with
 | error e=>exact hx pins σ H s e s' I hq
 | ok fl =>
  cases fl with
  | ret u=>exact I.after hq
  | next=>exact False.elim hq
  | brk=>exact False.elim hq
  | cont=>exact False.elim hq
theorem az (F:zE X.prog X.w X.K X.mg X.base CX k f fd ps sp)(hr:zN k X.A)(hg:Gl X x)(hm:X.mg x=some (.ref f))(hk:keepIn X.K (.ref f)=true)(hb:Binds X.K fd ps ds)(hd:Vals AV ds)(hx:dR CX X E)
  (ha:PA X (e :: es) t) (E5:(x == ("__debug__":Str))=false:=by decide) (he:starEach (e :: es) X.env=(false,eval e X.env) :: starEach es X.env:=by rfl) (Bl:(backTo pos (starEach es X.env)).any (·.1)=false:=by rfl) :
  PE X (.Call (.Name x p) (e :: es) [] pos) (Kh sp AV E t):=by
 intro pins s σ H Q I h
 refine wpAny_Call_Name_kw (ie I hg hm ?_ E5)
 refine PySem.W.callWith_K (h₀:=X.base) I.ok.mod.Em hk (aT (ha pos pins s σ H _ I h) fun us s1 ⟨vs,H1,I1,r,q⟩=>⟨I1.AF,?_⟩) he Bl
 exact kY F hr hb hd hx I1 r q
theorem aC {pl:Sem Bool}(he:PE X o ta)(c:Cg X.K C)(hm:bD X.K C m f)(F:zE X.prog X.w X.K X.mg X.base CX k f fd ps sp)(hr:zN k X.A)(hb:Binds X.K fd ps ds)(hd:Vals AV ds)(hx:dR CX X E)(ha:PA X (e :: es) t)
  (C8:starEach (e :: es) X.env=(false,eval e X.env) :: starEach es X.env:=by rfl) (Bl:(backTo pos (starEach es X.env)).any (·.1)=false:=by rfl)
  (ht:eval (.Call (.Attribute o m apos) (e :: es) [] pos) X.env=(do
   let ov ← eval o X.env
   standAt apos.atName
   let (f,first) ← holding [ov] (getMethod ov m pl)
   callWith pos f first (backTo pos (starEach (e :: es) X.env)) (backToKw pos (keywordEach [] X.env))):=by rfl) :
  PE X (.Call (.Attribute o m apos) (e :: es) [] pos) (wW C m sp AV E ta t):=by
 intro pins s σ H Q I h
 refine PySem.W.methodCall_KW (pl:=pl) (aT (he pins s σ H _ I h) fun u s1 zH=>?_) ht
 obtain⟨x,H1,I1,rx,a,dx,fs,ex,ea,l,q⟩:=zH
 subst ex
 obtain rfl:u=Value.ref a:=rx
 refine j9 I1 ea c hm l ?_
 refine PySem.W.callWith_K (first:=[.ref a]) (h₀:=X.base) I.ok.mod.Em hm.kp (aT (ha pos pins s1 σ H1 _ I1 q) fun us s2 ⟨vs,H2,I2,r,q2⟩=>⟨I2.AF,?_⟩) C8 Bl
 exact kY (us := .ref a :: us) (vs := .ref a :: vs) F hr hb hd hx I2 (.cons rfl r) q2
theorem cb {pl:Sem Bool}(he:PE X o ta)(c:Cg X.K C)(hm:bD X.K C m f)(F:zE X.prog X.w X.K X.mg X.base CX k f fd ps sp)(hr:zN k X.A)(hb:Binds X.K fd ps ds)(hd:Vals AV ds)(hx:dR CX X E)
  (ht:eval (.Call (.Attribute o m apos) [] [] pos) X.env=(do
   let ov ← eval o X.env
   standAt apos.atName
   let (f,first) ← holding [ov] (getMethod ov m pl)
   callWith pos f first (backTo pos (starEach [] X.env)) (backToKw pos (keywordEach [] X.env))):=by rfl) :
  PE X (.Call (.Attribute o m apos) [] [] pos) (wW C m sp AV E ta Kf):=by
 intro pins s σ H Q I h
 refine PySem.W.methodCall_KW (pl:=pl) (aT (he pins s σ H _ I h) fun u s1 zH=>?_) ht
 obtain⟨x,H1,I1,rx,a,dx,fs,ex,ea,l,q⟩:=zH
 subst ex
 obtain rfl:u=Value.ref a:=rx
 refine j9 I1 ea c hm l ?_
 exact PySem.W.callWith_K0 (first:=[.ref a]) I1.AF hm.kp (kY (us:=[.ref a]) (vs:=[.ref a]) F hr hb hd hx I1 (.cons rfl .nil) q)
structure Mk (K:Frag)(C f:Addr):Prop where
 makes:makesIn K C=true
 init:findIn K (.ref C) "__init__" = some (some (.ref f))
 fn:isFn K (.ref f)=true
 kp:keepIn K (.ref C)=true
theorem sW {pins:List (Addr × Obj)}{σ:St}{H:Hp}{s:Shared}{Q:VK}{us:List Value}{vs:List V}(M:Mk X.K C f)(F:zE X.prog X.w X.K X.mg X.base CX k f fd ps sp)(hr:zN (k + 1) X.A)(hb:Binds X.K fd ps ds)(hd:Vals AV ds)
  (hx:dR CX X E) (I:Inv X pins σ H s) (r:Vals vs us)
  (h:∀ x dx,H x=none->H dx=none->dx ≠ x->sp (.ref x :: (vs ++ AV)) (upd (upd H dx (.own x)) x (.ins C dx [])) (fun v H2=>v = .zT/\Q (.ref x) H2) E) :
  wpAny (model X.prog X.w) X.A (call (.ref C) us) (EP X pins σ Q) X.xe s:=by
 have hq:=h (s.heap.objs.size + 1) s.heap.objs.size (I.zL.fresh (le_succ _)) (I.zL.fresh (Nat.le_refl _)) (ne_of_lt (lt_succ_self _))
 have I2:=Inv.made (C:=C) I
 have r2:Vals (V.ref (s.heap.objs.size + 1) :: (vs ++ AV)) (Value.ref (s.heap.objs.size + 1) :: (us ++ ds)) := .cons rfl (r.append hd)
 have hl:(Value.ref (s.heap.objs.size + 1) :: us ++ ds).length=ps.length:=by
  have e:=r2.length
  rw[F.len _ _ _ _ hq]at e
  exact e.symm
 refine wpAny_call (ut (f:=f) I.AF M.makes M.init (beq_iff_eq.mp M.fn) (codeAny_mono (F.run _ X.stack _ _ ⟨Value.ref (s.heap.objs.size + 1) :: us,[]⟩ (Value.ref (s.heap.objs.size + 1) :: (us ++ ds)) _ _ E (hr.make C us [])
  (I2.HI.make C us []) (hb _ (Value.ref (s.heap.objs.size + 1) :: us) I2.AF hl) r2 hq) fun r s' Cv=>?_))
 cases r with
 | error e=>exact hx pins σ _ _ e s' I2 Cv
 | ok fl =>
  cases fl with
  | ret u =>
   obtain⟨v,H',I3,rv,ev,q3⟩:=I2.after Cv
   subst ev
   exact⟨rv,⟨V.ref (s.heap.objs.size + 1),H',I3,rfl,q3⟩⟩
  | next=>exact False.elim Cv
  | brk=>exact False.elim Cv
  | cont=>exact False.elim Cv
theorem dI (M:Mk X.K C f)(F:zE X.prog X.w X.K X.mg X.base CX k f fd ps sp)(hr:zN (k + 1) X.A)(hg:Gl X x)(hm:X.mg x=some (.ref C))(hb:Binds X.K fd ps ds)(hd:Vals AV ds)(hx:dR CX X E)
  (ha:PA X (e :: es) t) (E5:(x == ("__debug__":Str))=false:=by decide) (he:starEach (e :: es) X.env=(false,eval e X.env) :: starEach es X.env:=by rfl) (Bl:(backTo pos (starEach es X.env)).any (·.1)=false:=by rfl) :
  PE X (.Call (.Name x p) (e :: es) [] pos) (Ki C sp AV E t):=by
 intro pins s σ H Q I h
 refine wpAny_Call_Name_kw (ie I hg hm ?_ E5)
 refine PySem.W.callWith_K (h₀:=X.base) I.ok.mod.Em M.kp (aT (ha pos pins s σ H _ I h) fun us s1 ⟨vs,H1,I1,r,q⟩=>⟨I1.AF,?_⟩) he Bl
 exact sW M F hr hb hd hx I1 r q
end
section
variable {X:Cx}{CX:oX}{k:Nat}{f C:Addr}{fd:FuncData}{ps ks:List Str}{sp:Sp}{E:XK}{x m:Str}{p pos apos kpos:Pos}{e o:Expr}{es:List Expr}{kws:List Keyword}{te ta:TE}{t tk:TA}{nm:Option Str}
variable {g:List Value->List Value->List Value}{gV:List V->List V->List V}
end
structure am (N P:List Str)(sc:Scope):Prop where
 kind:sc.kind = .function
 co:sc.isCoroutine=false
 gen:sc.isGenerator=false
 nd:N.Nodup
 pre:N.take P.length=P
 par:∀ x ∈ P,sc.names.lookup x=some .local∨sc.names.lookup x=some .cell
 HJ:∀ y ∈ sc.names,y.2 ≠ .free
theorem kH {kindOf:Str->Option NameKind}{x:Str}:∀ {binds:List (Str × Value)}{m:Str->Option Value},(∀ v,(x,v) ∉ binds)->bindL kindOf binds m x=m x
 | [],_,_=>rfl
 | (n,v) :: r,m,h=>by
  unfold bindL
  rw[kH fun w hw=>h w (mem_cons_of_mem _ hw)]
  split
  ·have:x ≠ n:=by rintro rfl;exact h v mem_cons_self
   simp[this]
  ·rfl
theorem kJ {kindOf:Str->Option NameKind}{x:Str}:∀ {binds:List (Str × Value)}{m:Str->Option Value},(∀ v,(x,v) ∉ binds)->bindC kindOf binds m x=m x
 | [],_,_=>rfl
 | (n,v) :: r,m,h=>by
  unfold bindC
  rw[kJ fun w hw=>h w (mem_cons_of_mem _ hw)]
  split
  ·rfl
  ·have:x ≠ n:=by rintro rfl;exact h v mem_cons_self
   simp[this]
theorem kI {kindOf:Str->Option NameKind}{x:Str}{v:Value}:∀ {P:List Str}{vs:List Value}{i:Nat}{m:Str->Option Value},P.Nodup->P[i]? = some x->vs[i]? = some v->kindOf x=some .local ->
  bindL kindOf (P.zip vs) m x=some v
 | [],_,_,_,_,h,_,_=>by simp at h
 | _ :: _,[],_,_,_,_,h,_=>by simp at h
 | p :: P,w :: vs,0,m,nd,h1,h2,hk=>by
  simp at h1 h2;subst h1;subst h2
  show bindL kindOf ((p,w) :: P.zip vs) m p=_
  unfold bindL
  rw[kH fun v hv=>(nodup_cons.mp nd).1 (of_mem_zip hv).1,if_pos hk]
  simp
 | p :: P,w :: vs,i + 1,m,nd,h1,h2,hk=>by
  show bindL kindOf ((p,w) :: P.zip vs) m x=_
  unfold bindL
  exact kI (i:=i) (nodup_cons.mp nd).2 (by simpa using h1) (by simpa using h2) hk
theorem kK {kindOf:Str->Option NameKind}{x:Str}{v:Value}:∀ {P:List Str}{vs:List Value}{i:Nat}{m:Str->Option Value},P.Nodup->P[i]? = some x->vs[i]? = some v->kindOf x ≠ some .local ->
  bindC kindOf (P.zip vs) m x=some v
 | [],_,_,_,_,h,_,_=>by simp at h
 | _ :: _,[],_,_,_,_,h,_=>by simp at h
 | p :: P,w :: vs,0,m,nd,h1,h2,hk=>by
  simp at h1 h2;subst h1;subst h2
  show bindC kindOf ((p,w) :: P.zip vs) m p=_
  unfold bindC
  rw[kJ fun v hv=>(nodup_cons.mp nd).1 (of_mem_zip hv).1,if_neg hk]
  simp
 | p :: P,w :: vs,i + 1,m,nd,h1,h2,hk=>by
  show bindC kindOf ((p,w) :: P.zip vs) m x=_
  unfold bindC
  exact kK (i:=i) (nodup_cons.mp nd).2 (by simpa using h1) (by simpa using h2) hk
noncomputable def start (N:List Str)(vs:List V):St:=vs.map some ++ List.replicate (N.length - vs.length) none
noncomputable def iI (CX:oX)(P:Program)(w:World)(K:Frag)(mg:Str->Option Value)(base:Heap)(N:List Str)(qual:Str)(scope:Scope)(f:Addr)(cd:Value)(A:Around)(outer:List Env)(s:Shared)(H:Hp)(E:XK):Cx where
 prog:=P
 w:=w
 K:=K
 mg:=mg
 base:=base
 A:=A.deeper (envOfC qual scope s.heap.objs.size f cd)
 N:=N
 s₀:=s
 H₀:=H
 env:=envOfC qual scope s.heap.objs.size f cd
 outer:=outer
 stack:=envOfC qual scope s.heap.objs.size f cd :: outer
 ex:=[]
 calm:=true
 fn:=fun _=>true
 pn:=[]
 xe:=fun e s'=>wpAny (model P w) (A.deeper (envOfC qual scope s.heap.objs.size f cd)) (leaving (envOfC qual scope s.heap.objs.size f cd) e) (fun _ HK=>CX outer H s E e HK) (fun e' HK=>CX outer H s E e' HK) s'
theorem ng {sc:Scope}{n:Nat}{x:Str}(h:sc.names.lookup x=some .cell):∃ c,(cellsFrom n sc.names []).lookup x=some c:=by
 have q:=PySem.W.cellsFrom_some sc.names n [] (.inl h)
 exact Option.isSome_iff_exists.mp q
theorem qX {CX:oX}{P:Program}{w:World}{K:Frag}{mg:Str->Option Value}{base:Heap}{N ps:List Str}{qual:Str}{scope:Scope}{f:Addr}{cd:Value}{A:Around}{outer:List Env}{s s1:Shared}{H:Hp}{E:XK}{us:List Value}{vs:List V}
  (S:am N ps scope) (hd:A.handled=none) (e0:Du P w K mg base A outer s H) (hl:vs.length=ps.length) (r:Vals vs us)
  (x:InCallC s s.heap.objs.size (bindL (envOfC qual scope s.heap.objs.size f cd).kindOf (ps.zip us) fun _=>none) (cellsFrom (s.heap.objs.size + 1) scope.names []) (bindC (envOfC qual scope s.heap.objs.size f cd).kindOf (ps.zip us) fun _=>none) s1) :
  Inv (iI CX P w K mg base N qual scope f cd A outer s H E) [] (start N vs) H s1:=by
 have Bl:ps.length <= N.length:=by have:=congrArg List.length S.pre;rw[length_take]at this;omega
 obtain⟨h1,tk,rfl,hk⟩:=x.done
 have Kj:∀ b:Addr,b ∉ (iI CX P w K mg base N qual scope f cd A outer s H E).ex:=fun b z=>absurd (show b ∈ ([]:List Addr) from z) (by simp)
 refine⟨⟨e0.mod,S.kind,rfl,rfl,Nat.le_refl _,fun y z c h1 h2=>?_,fun y hy=>?_,fun y c _ h=>?_,fun _=>hd,Around.frames_deeper e0.frames, .inr ⟨rfl,rfl⟩,fun b z=>absurd z (Kj b),e0.bs,e0.Fq,fun b _ _=>Kj b,fun b z=>absurd z (Kj b),e0.B5,e0.HF⟩,
  rfl,e0.bare,Un.kept hk,⟨_,x.toInCall.ns,fun i y v h1 h2 h3=>?_⟩,fun y c h=>⟨_,x.cell y c h⟩,e0.zL.fresh (Nat.le_refl _),fun y c h=>?_,fun p hp=>absurd (show p ∈ ([]:List (Addr × Obj)) from hp) (by simp),e0.zL.kept hk,?_⟩
 ·exact name_of_addr x.apart (PySem.mem_of_lookup h1) (PySem.mem_of_lookup h2)
 ·have hy:scope.names.lookup y=some .cell∨scope.names.lookup y=some .free:=hy
  rcases hy with hy | hy
  ·exact ng hy
  ·exact absurd rfl (S.HJ _ (PySem.mem_of_lookup hy))
 ·exact le_of_lt (x.above y c (PySem.mem_of_lookup h))
 ·have hi:i < vs.length:=by
   unfold start at h2
   by_cases hi:i < vs.length
   ·exact hi
   ·rw[List.getElem?_append_right (by simpa using hi)]at h2
    rw[List.getElem?_replicate]at h2
    split at h2<;>cases h2
  have ha:vs[i]? = some v:=by
   unfold start at h2
   rw[List.getElem?_append_left (by simpa using hi),List.getElem?_map]at h2
   cases e:vs[i]? with
   | none=>rw[e]at h2;cases h2
   | some a=>rw[e]at h2;cases h2;rfl
  obtain⟨u,hu,rv⟩:=r.get ha
  have hp:ps[i]? = some y:=by
   rw[← S.pre,List.getElem?_take_of_lt (by omega)];exact h1
  have Vn:ps.Nodup:=by rw[← S.pre];exact S.nd.sublist (List.take_sublist _ _)
  refine⟨u,rv,?_⟩
  rcases S.par y (mem_of_getElem? hp) with k | k
  ·exact .inl ⟨k,kI Vn hp hu k⟩
  ·obtain⟨c,e⟩:=ng (n:=s.heap.objs.size + 1) k
   refine .inr ⟨.inl k,c,e,?_⟩
   have q:=x.cell y c e
   rw[kK Vn hp hu (by show scope.names.lookup y ≠ _;rw[k];decide)]at q
   exact q
 ·exact e0.zL.fresh (le_of_lt (x.above y c (PySem.mem_of_lookup h)))
 ·unfold start
  show _=N.length
  rw[length_append,length_map,length_replicate]
  omega
theorem uA {CX:oX}{P:Program}{w:World}{K:Frag}{mg:Str->Option Value}{base:Heap}{k:Nat}{f:Addr}{name qual:Str}{params:Arguments}{body:List Stmt}{scope:Scope}{dV kV doc pm cdv ct oc:Value}{an od:Option Addr}
  {Dv:Array (Option Value)} {N ps:List Str} {sp:Sp} (lk:K.lookup f=some ⟨oc,od, .func (fnOf name qual params body scope dV kV doc pm an cdv ct),Dv⟩) (Dp:codeIn K cdv qual=true) (S:am N ps scope)
  (len:∀ vs H Q E,sp vs H Q E->vs.length=ps.length)
  (BJ:∀ (A:Around)(outer:List Env)(s:Shared)(H:Hp)(vs:List V)(Q:VK)(E:XK),zN k (A.deeper (envOfC qual scope s.heap.objs.size f cdv))->sp vs H Q E ->
   ∃ t,Dn (iI CX P w K mg base N qual scope f cdv A outer s H E) body t/\t { nx:=fun _ H'=>Q .zT H',rt:=Q } (start N vs) H) :
  zE P w K mg base CX (k + 1) f (fnOf name qual params body scope dV kV doc pm an cdv ct) ps sp:=by
 refine⟨len,fun A outer s H args us vs Q E hr e0 hb r Eo=>?_⟩
 have hl:=len _ _ _ _ Eo
 have KX:K.In s.heap:=e0.mod.Em.keeps fun b o e=>(e0.bs b o e).1
 have lim:s.heap.NoLimit:=e0.mod.nolimit.keeps fun b o e=>(e0.bs b o e).1
 have Kk:∀ y ∈ ps.zip us,scope.names.lookup y.1=some .local∨(scope.names.lookup y.1=some .cell/\((cellsFrom (s.heap.objs.size + 1) scope.names []).lookup y.1).isSome=true):=fun⟨n,v⟩ hy=>by
  rcases S.par n (of_mem_zip hy).1 with q | q
  ·exact .inl q
  ·exact .inr ⟨q,PySem.W.cellsFrom_some _ _ _ (.inl q)⟩
 refine codeAny_call_function hr.depth (KX _ _ lk) rfl S.co S.gen rfl (PySem.W.codeRec_of KX Dp) (hb _ _ _ _ ?_)
 refine wpAny_newFunctionEnv_cells S.kind Kk fun env he s1 x=>?_
 subst he
 refine⟨lim.keeps x.toInCall.keep,codeAny_func ?_⟩
 obtain⟨t,ht,hq⟩:=BJ A outer s H vs Q E (hr.deeper _) Eo
 have I:Inv (iI CX P w K mg base N qual scope f cdv A outer s H E) [] (start N vs) H s1:=qX S hr.hd e0 hl r x
 refine wpAny_mono (ht [] s1 (start N vs) H _ I hq) (fun fl s' hs=>?_) fun e s' hs=>hs
 have fin:∀ {σ':St}{H':Hp}{v:V}{u:Value},Inv (iI CX P w K mg base N qual scope f cdv A outer s H E) [] σ' H' s'->RelV v u->Q v H'->CE outer P w H s Q u s' :=
  fun {σ' H' v u} J rv q=>⟨v,H',J.os,J.bare,J.base,J.zL,rv,q⟩
 cases fl with
 | ret u =>
  obtain⟨v,σ',H',J,rv,q⟩:=hs
  exact fin J rv q
 | next =>
  obtain⟨σ',H',J,q⟩:=hs
  exact fin (v:=V.zT) (u:=Value.none) J rfl q
 | brk =>
  obtain⟨_,_,_,q⟩:=hs
  exact False.elim q
 | cont =>
  obtain⟨_,_,_,q⟩:=hs
  exact False.elim q
end L2
namespace L2
open PySem PySem.Spec PyProof.Rows
section
variable {X:Cx}{x:Str}{p pos:Pos}{e:Expr}{es:List Expr}{t:TA}{id T:String}{r:List V->Hp->VK->Prop}
noncomputable def Vo (r:List V->Hp->VK->Prop)(t:TA):TE:=fun σ H Q=>t σ H fun vs H1=>r vs H1 Q
theorem ax (hc:c6 X (.builtin id) r)(hg:Gl X x)(hm:X.mg x=none)(hv:bootBuiltins x=some (.builtin id))(ha:PA X (e :: es) t)(hn:x ≠ "__name__":=by decide)(E5:(x == ("__debug__":Str))=false:=by decide)
  (he:starEach (e :: es) X.env=(false,eval e X.env) :: starEach es X.env:=by rfl) (Bl:(backTo pos (starEach es X.env)).any (·.1)=false:=by rfl):PE X (.Call (.Name x p) (e :: es) [] pos) (Vo r t):=by
 intro pins s σ H Q I h
 refine wpAny_Call_Name_kw (fJ I hg hm hv ?_ hn E5)
 exact PyProof.Rows.callWith_builtin1 (aT (ha pos pins s σ H _ I h) fun us s1 zH=>by obtain⟨vs,H1,I1,r1,q1⟩:=zH;exact hc pins s1 σ H1 vs us Q I1 r1 q1) he Bl
theorem bF (hc:c6 X (.type T) r)(hg:Gl X x)(hm:X.mg x=none)(hv:bootBuiltins x=some (.type T))(ha:PA X (e :: es) t)(hn:x ≠ "__name__":=by decide)(E5:(x == ("__debug__":Str))=false:=by decide)
  (he:starEach (e :: es) X.env=(false,eval e X.env) :: starEach es X.env:=by rfl) (Bl:(backTo pos (starEach es X.env)).any (·.1)=false:=by rfl):PE X (.Call (.Name x p) (e :: es) [] pos) (Vo r t):=by
 intro pins s σ H Q I h
 refine wpAny_Call_Name_kw (fJ I hg hm hv ?_ hn E5)
 exact PyProof.Rows.callWith_type1 (aT (ha pos pins s σ H _ I h) fun us s1 zH=>by obtain⟨vs,H1,I1,r1,q1⟩:=zH;exact hc pins s1 σ H1 vs us Q I1 r1 q1) he Bl
end
end L2
namespace HT
open PySem PyProof.Rows
section
open PySem.SeqAt
open PySem.AutoSeq1 (wpAny_loadPart')
open PySem.MeetsSeq PySem.MeetsSeq2 PySem.MeetsSeq3
end
section
variable {prog:Program}{w:World}{A:Around}{E:Value->Shared->Prop}{s:Shared}
theorem Fv {t b:Addr}{vs ws:List Value}{Q:Value->Shared->Prop}(ht:IsTup s.heap t vs.toArray)(hb:IsTup s.heap b ws.toArray)(hv:vs ≠ [])
  (h1:ws=[]->Q (.ref t) s) (h2:ws ≠ []->Q (.ref s.heap.objs.size) { s with heap:=s.heap.push { cls := .type "tuple",data := .seq (vs ++ ws).toArray } })
  (hsz:vs.length + ws.length <= sizeLine):wpAny (model prog w) A (binaryOp .Add (.ref t) (.ref b)) Q E s:=by
 obtain⟨⟨cls,dd,data,sl⟩,ho,hc,n,hd⟩:=id ht
 obtain⟨⟨Qc,Ob,data2,Jh⟩,Bs,CG,n2,hd2⟩:=id hb
 simp only at hc hd CG hd2
 subst hc hd CG hd2
 have e:vs.toArray ++ ws.toArray=(vs ++ ws).toArray:=by simp
 by_cases hw:ws=[]
 ·exact concat_meets ⟨_,ho,rfl⟩ ⟨_,Bs,rfl⟩ noFill_tuple_add seq_tuple_add slot_tuple_add entry_tuple_add (args_tuple_add_2 _ _)
   (tuple_addW1 t b vs.toArray ws.toArray n n2 dd Ob sl Jh (by simpa using hv) (by simp[hw])) ⟨ho,Bs,h1 hw⟩
 ·refine concat_meets ⟨_,ho,rfl⟩ ⟨_,Bs,rfl⟩ noFill_tuple_add seq_tuple_add slot_tuple_add entry_tuple_add (args_tuple_add_2 _ _)
   (tuple_addW2 t b vs.toArray ws.toArray n n2 dd Ob sl Jh (by simpa using hv) (by simpa using hw) (by rw[size_toArray,size_toArray];exact hsz)) ⟨ho,Bs,?_⟩
  rw[e]
  exact h2 hw
noncomputable def Ci (n d:Nat):Option Int->Nat
 | none=>d
 | some v=>if v < 0 then (v + (n:Int)).toNat else min v.toNat n
theorem Cw (n d k:Nat):Ci n d (some (k:Int))=min k n:=by
 show(if (k:Int) < 0 then ((k:Int) + (n:Int)).toNat else min (k:Int).toNat n)=min k n
 rw[if_neg (by omega),toNat_natCast]
end
end HT
namespace L2
open PySem PySem.Spec PyProof.Rows
abbrev TO:=St->Hp->(Option Int->Hp->Prop)->Prop
noncomputable def PO (X:Cx)(e:Option Expr)(t:TO):Prop :=
 ∀ (pins:List (Addr × Obj))(s:Shared)(σ:St)(H:Hp)(Q:Option Int->Hp->Prop),Inv X pins σ H s->t σ H Q ->
  wpAny (model X.prog X.w) X.A (evalPart e X.env) (fun u s'=>∃ o H',Inv X pins σ H' s'/\IsPart u o/\Q o H') X.xe s
noncomputable def vh:TO:=fun _ H Q=>Q none H
noncomputable def Kl (t:TE):TO:=fun σ H Q=>t σ H fun x H1=>∃ i,x = .int i/\Q (some i) H1
theorem j8 {ns:List Int}:∀ {us:List Value},Vals (ns.map V.int) us->IntsAre us ns:=by
 induction ns with
 | nil=>intro us r;rw[map_nil]at r;cases r;exact .nil
 | cons n ns ih =>
  intro us r
  rw[map_cons]at r
  cases r with
  | cons r1 r2 =>
   obtain⟨t,e⟩:=r1
   subst e
   exact .cons n t (ih r2)
section
variable {X:Cx}{e:Expr}{te:TE}{lo hi:Option Expr}{tl th:TO}{pos p2:Pos}
theorem vB:PO X none vh:=by
 intro pins s σ H Q I h
 rw[evalPart_none]
 exact wpAny_pure ⟨none,H,I, .none,h⟩
theorem ld (h:PE X e te):PO X (some e) (Kl te):=by
 intro pins s σ H Q I hw
 rw[evalPart_some]
 refine aT (h pins s σ H _ I hw) fun u s1 zH=>?_
 obtain⟨x,H1,I1,r1,q1⟩:=zH
 obtain⟨i,rfl,q⟩:=q1
 obtain⟨t,rfl⟩:=r1
 exact⟨some i,H1,I1, .int i t,q⟩
noncomputable def Vp (X:Cx)(r:V->Option Int->Option Int->Hp->VK->Prop):Prop :=
 ∀ (pins:List (Addr × Obj))(s:Shared)(σ:St)(H:Hp)(x:V)(v vl vu:Value)(lo hi:Option Int)(sl:Addr)(Q:VK),Inv X pins σ H s->RelV x v->s.heap.IsSliceOf sl vl vu .none->IsPart vl lo->IsPart vu hi->r x lo hi H Q ->
  ∃ T id,typeLookup (.type T) "__getitem__" = pure (some (.builtin id))/\s.TypeIs v T/\wpAny (model X.prog X.w) X.A (getItem v (.ref sl)) (EP X pins σ Q) X.xe s
noncomputable def tSl (r:V->Option Int->Option Int->Hp->VK->Prop)(te:TE)(tl th:TO):TE:=fun σ H Q=>te σ H fun x H1=>tl σ H1 fun l H2=>th σ H2 fun u H3=>r x l u H3 Q
theorem lY {r:V->Option Int->Option Int->Hp->VK->Prop}(hr:Vp X r)(he:PE X e te)(hl:PO X lo tl)(hu:PO X hi th):PE X (.Subscript e (.Slice lo hi none p2) pos) (tSl r te tl th):=by
 intro pins s σ H Q I h
 refine Subscript_ (aT (he pins s σ H _ I h) fun v s1 zH=>?_)
 obtain⟨x,H1,I1,r1,q1⟩:=zH
 refine wpAny_Slice (aT (hl pins s1 σ H1 _ I1 q1) fun vl s2 ⟨l,H2,I2,pl,q2⟩=>aT (hu pins s2 σ H2 _ I2 q2) fun vu s3 zH=>?_)
 obtain⟨u,H3,I3,pu,q3⟩:=zH
 rw[evalPart_none]
 refine wpAny_pure ?_
 have I4:Inv X pins σ H3 { s3 with heap:=s3.heap.push { cls := .type "slice",data := .fields #[vl,vu, .none] } }:=I3.kept (t':=s3.toks) fun b ob q=>Heap.get?_push_of_some _ q
 obtain⟨T,id,hT,ht,hg⟩:=hr pins { s3 with heap:=s3.heap.push { cls := .type "slice",data := .fields #[vl,vu, .none] } } σ H3 x v vl vu l u s3.heap.objs.size Q I4 r1 (Heap.IsSliceOf.new ..) pl pu q3
 show wpAny (model X.prog X.w) X.A (subscriptTail e (.Slice lo hi none p2) v (.ref s3.heap.objs.size)) (EP X pins σ Q) X.xe { s3 with heap:=s3.heap.push { cls := .type "slice",data := .fields #[vl,vu, .none] } }
 exact tail_any (ops:=[.ref s3.heap.objs.size,v]) ht hT hg (by with_unfolding_all rfl)
noncomputable def l9 (xs:List V)(lo hi:Option Int):List V:=(xs.drop (HT.Ci xs.length 0 lo)).take (HT.Ci xs.length xs.length hi - HT.Ci xs.length 0 lo)
theorem mW (xs:List V)(lo hi:Option Int):(l9 xs lo hi).length <= xs.length:=by
 unfold l9
 rw[length_take,List.length_drop]
 omega
noncomputable def Km (K:Frag):R2:=fun x y H Q=>∃ a b xs ys,x = .ref a/\y = .ref b/\zM K H a xs/\zM K H b ys/\xs ≠ []/\xs.length + ys.length <= sizeLine /\
 (ys=[]->Q (.ref a) H)/\(ys ≠ []->∀ p,H p=none->Q (.ref p) (upd H p (.tup (xs ++ ys))))
theorem Vals.BE {xs:List V}{us:List Value}(r:Vals xs us):us=[]↔xs=[]:=by
 cases r with
 | nil=>simp
 | cons _ _=>simp
theorem vH:eU X (binaryOp .Add) (Km X.K):=by
 intro pins s σ H x y v u Q I rx ry h
 obtain⟨a,b,xs,ys,rfl,rfl,ha,hb,hx,hz,q1,q2⟩:=h
 cases rx
 cases ry
 obtain⟨zI,r1,p1,_⟩:=I.tuple ha
 obtain⟨BX,r2,p2,_⟩:=I.tuple hb
 refine HT.Fv p1 p2 (fun z=>hx (r1.BE.mp z)) (fun z=>⟨.ref a,H,I,rfl,q1 (r2.BE.mp z)⟩) (fun z=>?_) (by rw[← r1.length,← r2.length];exact hz)
 refine⟨.ref s.heap.objs.size,_,I.laid (t':=s.toks) (o := .tup (xs ++ ys)) (fun b ob q=>Heap.get?_push_of_some _ q) (Nat.le_refl _) ?_,rfl,q2 (fun w=>z (r2.BE.mpr w)) _ (I.zL.fresh (Nat.le_refl _))⟩
 exact⟨by rw[length_append];exact hz,_,r1.append r2,AJ.new _ _⟩
end
end L2
namespace L2
open PySem PySem.Spec PyProof.Rows
noncomputable def w8 (n:Nat)(i:Int):Option Nat:=if 0 <= i then (if i < n then some i.toNat else none) else if -(n:Int) <= i then some (i + n).toNat else none
noncomputable def Ji {α:Type}(xs:List α)(i:Int):Option α:=(w8 xs.length i).bind fun j=>xs[j]?
theorem pW {n:Nat}{i:Int}{j:Nat}(h:w8 n i=some j):seqIndex? i n=some j/\j < n/\-(n:Int) <= i/\i < n:=by
 unfold w8 at h
 by_cases h0:0 <= i
 ·rw[if_pos h0]at h
  by_cases h1:i < n
  ·rw[if_pos h1]at h
   have e:i.toNat=j:=Option.some.inj h
   exact⟨by rw[seqIndex_of h0 h1,e],by omega,by omega,h1⟩
  ·rw[if_neg h1]at h;cases h
 ·rw[if_neg h0]at h
  by_cases h1:-(n:Int) <= i
  ·rw[if_pos h1]at h
   have e:(i + n).toNat=j:=Option.some.inj h
   exact⟨by rw[seqIndex_neg (by omega) h1,e],by omega,h1,by omega⟩
  ·rw[if_neg h1]at h;cases h
theorem qg {α:Type}{xs:List α}{i:Int}{v:α}(h:Ji xs i=some v):∃ j,seqIndex? i xs.length=some j/\xs[j]? = some v/\j < xs.length/\-(xs.length:Int) <= i/\i < xs.length:=by
 unfold Ji at h
 cases e:w8 xs.length i with
 | none=>rw[e]at h;cases h
 | some j =>
  rw[e]at h
  obtain⟨h1,h2,h3,h4⟩:=pW e
  exact⟨j,h1,h,h2,h3,h4⟩
theorem ak {α:Type}{xs:List α}{j:Nat}{v:α}(h:xs[j]? = some v):Ji xs (j:Int)=some v:=by
 have hj:j < xs.length:=(List.getElem?_eq_some_iff.mp h).1
 have e:w8 xs.length (j:Int)=some j:=by
  unfold w8
  rw[if_pos (by omega),if_pos (by omega)];simp
 unfold Ji;rw[e];exact h
noncomputable def wQ (b:Expr):Prop:=∀ o i,subscripted b false o i=operate [o,i] (getItem o i)
noncomputable def n0 (X:Cx)(r:R2):Prop :=
 ∀ (value slice:Expr)(pins:List (Addr × Obj))(s:Shared)(σ:St)(H:Hp)(x y:V)(v u:Value)(Q:VK),Inv X pins σ H s->RelV x v->RelV y u->r x y H Q ->
  subscripted slice false v u=operate [v,u] (getItem v u)->wpAny (model X.prog X.w) X.A (subscriptTail value slice v u) (EP X pins σ Q) X.xe s
noncomputable def Oc (X:Cx)(id:String)(r:V->List V->Hp->VK->Prop):Prop :=
 ∀ (pins:List (Addr × Obj))(s:Shared)(σ:St)(H:Hp)(x:V)(xs:List V)(v:Value)(us:List Value)(Q:VK),Inv X pins σ H s->RelV x v->Vals xs us->r x xs H Q ->
  wpAny (model X.prog X.w) X.A (call (.builtin id) (v :: us)) (EP X pins σ Q) X.xe s
section
variable {X:Cx}{a b:Expr}{ta tb:TE}{pos:Pos}
theorem aw {r:R2}(hr:n0 X r)(ha:PE X a ta)(hb:PE X b tb)(hs:wQ b):PE X (.Subscript a b pos) (Oa r ta tb):=by
 intro pins s σ H Q I h
 exact Subscript_ (zo ha hb I h fun v u s2 x y H2 I2 rx ry q=>hr a b pins s2 σ H2 x y v u Q I2 rx ry q (hs _ _))
noncomputable def qB (K:Frag):R2:=fun x y H Q=>∃ p xs i v,x = .ref p/\y = .int i/\zJ K H p xs/\Ji xs i=some v/\Q v H
noncomputable def jO (K:Frag):R2:=fun x y H Q=>∃ p xs i v,x = .ref p/\y = .int i/\zM K H p xs/\Ji xs i=some v/\Q v H
theorem aI:n0 X (qB X.K):=by
 intro value slice pins s σ H x y v u Q I rx ry h hs
 obtain⟨p,xs,i,z,rfl,rfl,hq,he,q⟩:=h
 cases rx
 obtain⟨t,rfl⟩:=ry
 obtain⟨zI,r,pl,hz⟩:=I.list hq
 obtain⟨j,h1,h2,h3,h4,h5⟩:=qg he
 obtain⟨w,ew,CH⟩:=r.get h2
 have hl:=r.length
 have hn:=j3
 have fin:EP X pins σ Q w s:=⟨z,H,I,CH,q⟩
 by_cases h0:0 <= i
 ·have hj:i.toNat=j:=by
   rw[seqIndex_of h0 h5]at h1
   exact Option.some.inj h1
  exact item_listR pl.isList h0 (by omega) (by rw[hj];simpa using ew) fin hs
 ·have hj:(i + (zI.toArray.size:Int)).toNat=j:=by
   rw[seqIndex_neg (by omega) h4]at h1
   rw[size_toArray,← hl]
   exact Option.some.inj h1
  exact subscriptTail_builtinR (x:=w) pl.isList.typeIs slot_list_getitem.lookup
   (wpAny_getItem_list_neg (Q:=fun r s'=>r=w/\EP X pins σ Q r s') pl.isList (by omega) (by rw[size_toArray]<;>omega) (by omega) (by rw[hj];simpa using ew) ⟨rfl,fin⟩) hs
theorem aB:n0 X (jO X.K):=by
 intro value slice pins s σ H x y v u Q I rx ry h hs
 obtain⟨p,xs,i,z,rfl,rfl,hq,he,q⟩:=h
 cases rx
 obtain⟨t,rfl⟩:=ry
 obtain⟨zI,r,pl,hz⟩:=I.tuple hq
 obtain⟨j,h1,h2,h3,h4,h5⟩:=qg he
 obtain⟨w,ew,CH⟩:=r.get h2
 have hl:=r.length
 have hn:=j3
 have fin:EP X pins σ Q w s:=⟨z,H,I,CH,q⟩
 exact subscriptTail_builtinR (x:=w) pl.typeIs slot_tuple_getitem.lookup
  (getItem_tuple (j:=j) (Q:=fun r s'=>r=w/\EP X pins σ Q r s') pl (by omega) (by omega) (by rw[size_toArray,← hl];exact h1) (by simpa using ew) ⟨rfl,fin⟩) hs
theorem oz (zI:List Value)(n j:Nat)(u:Value):Obj.mapSeq (·.setIfInBounds j u) { cls := .type "list",data := .seq zI.toArray n } = { cls := .type "list",data := .seq (zI.set j u).toArray n }:=by
 simp[Obj.mapSeq]
theorem Inv.lst {pins:List (Addr × Obj)}{σ:St}{H:Hp}{s:Shared}{p:Addr}{xs:List V}(I:Inv X pins σ H s)(h:H p=some (.lst xs)) :
  ∃ (zI:List Value)(n:Nat),Vals xs zI/\s.heap.get? p=some { cls := .type "list",data := .seq zI.toArray n }/\xs.length <= sizeLine:=by
 obtain⟨z,zI,n,r,e⟩:=I.zL p _ h
 exact⟨zI,n,r,e,z⟩
theorem Inv.HL {pins:List (Addr × Obj)}{σ:St}{H:Hp}{s:Shared}{p:Addr}{xs ys:List V}{zI its':List Value}{n n':Nat}{f:Obj->Obj}(I:Inv X pins σ H s)(h:H p=some (.lst xs))
  (ho:s.heap.get? p=some { cls := .type "list",data := .seq zI.toArray n }) (hf:f { cls := .type "list",data := .seq zI.toArray n } = { cls := .type "list",data := .seq its'.toArray n' }) (r:Vals ys its') (hz:ys.length <= sizeLine) (t:Nat) :
  Inv X pins σ (upd H p (.lst ys)) { s with heap:=s.heap.update p f,toks:=t }:=by
 have e:(s.heap.update p f).get? p=some { cls := .type "list",data := .seq its'.toArray n' }:=by
  rw[Heap.get?_update_self f ho (by rw[hf]<;>rfl),hf]
 refine I.write (x:=p) (e:=p) (by rw[h];trivial) (.inl rfl) (fun b u hb q=>(Heap.get?_update_other _ _ (Ne.symm hb)).trans q) ⟨_,e⟩ ?_
 exact⟨hz,its',n',r,e⟩
noncomputable def tf:V->V->V->Hp->(Hp->Prop)->Prop:=fun o i v H Q=>∃ p xs k j,o = .ref p/\i = .int k/\H p=some (.lst xs)/\w8 xs.length k=some j/\Q (upd H p (.lst (xs.set j v)))
theorem jm:JR X tf:=by
 intro pins s σ H o i v ov iv u Q I ro ri rv h
 obtain⟨p,xs,k,j,rfl,rfl,hp,hj,q⟩:=h
 cases ro
 obtain⟨t,rfl⟩:=ri
 obtain⟨zI,n,r,ho,hz⟩:=I.lst hp
 obtain⟨h1,h2,h3,h4⟩:=pW hj
 have hl:=r.length
 have hn:=j3
 have I':Inv X pins σ (upd H p (.lst (xs.set j v))) { s with heap:=s.heap.update p (Obj.mapSeq (·.setIfInBounds j u)) } :=
  I.HL hp ho (oz zI n j u) (r.set rv j) (by rw[length_set];exact hz) s.toks
 by_cases h0:0 <= k
 ·have hk:k.toNat=j:=by
   rw[seqIndex_of h0 h4]at h1
   exact Option.some.inj h1
  exact PySem.W.ki_setAt ho h0 (by omega) (by rw[size_toArray,← hl];exact h4) (by rw[hk];exact⟨_,I',q⟩)
 ·have hk:(k + (zI.toArray.size:Int)).toNat=j:=by
   rw[seqIndex_neg (by omega) h3]at h1
   rw[size_toArray,← hl]
   exact Option.some.inj h1
  exact PySem.W.ki_setBack ho (by omega) (by rw[size_toArray,← hl];exact h3) (by omega) (by rw[hk];exact⟨_,I',q⟩)
theorem kS (lo hi:Option Int)(n:Nat):(sliceBounds lo hi none n).1=((HT.Ci n 0 lo:Nat):Int)/\(sliceBounds lo hi none n).2.1=((HT.Ci n n hi:Nat):Int)/\(sliceBounds lo hi none n).2.2=1:=by
 refine⟨?_,?_,rfl⟩
 ·cases lo with
  | none=>simp[sliceBounds,HT.Ci]
  | some i =>
   simp only[sliceBounds,HT.Ci,Option.getD_none,show (1:Int) > 0 by decide,if_true]
   by_cases h:i < 0
   ·simp only[h,if_true]<;>omega
   ·simp only[h,if_false]<;>omega
 ·cases hi with
  | none=>simp[sliceBounds,HT.Ci]
  | some i =>
   simp only[sliceBounds,HT.Ci,Option.getD_none,show (1:Int) > 0 by decide,if_true]
   by_cases h:i < 0
   ·simp only[h,if_true]<;>omega
   ·simp only[h,if_false]<;>omega
theorem jN (zI:List Value)(lo hi:Option Int):slicePick zI.toArray lo hi none=((zI.drop (HT.Ci zI.length 0 lo)).take (HT.Ci zI.length zI.length hi - HT.Ci zI.length 0 lo)).toArray:=by
 obtain⟨h1,h2,h3⟩:=kS lo hi zI.toArray.size
 unfold slicePick
 rw[h1,h2,h3]
 simp only[sliceRange_one,pick_run,size_toArray]<;>rfl
noncomputable def Qd (K:Frag):V->Option Int->Option Int->Hp->VK->Prop:=fun x lo hi H Q=>∃ a xs,x = .ref a/\zJ K H a xs/\∀ p,H p=none->Q (.ref p) (upd H p (.lst (l9 xs lo hi)))
theorem p9:Vp X (Qd X.K):=by
 intro pins s σ H x v vl vu lo hi sl Q I rx hs pl pu h
 obtain⟨a,xs,rfl,hx,q⟩:=h
 cases rx
 obtain⟨zI,r,ht,hz⟩:=I.list hx
 have hlen:=r.length
 refine⟨"list",_,slot_list_getitem.lookup,ht.isList.typeIs,?_⟩
 refine wpAny_getItem_list_slice ht.isList hs pl pu .none (by simp) ?_ (by rw[size_toArray]<;>omega)
 rw[jN,← hlen]
 refine⟨.ref s.heap.objs.size,_,I.laid (t':=s.toks) (o := .lst (l9 xs lo hi)) (fun b ob q=>Heap.get?_push_of_some _ q) (Nat.le_refl _) ?_,rfl,q _ (I.zL.fresh (Nat.le_refl _))⟩
 exact⟨le_trans (mW xs lo hi) hz,_,0,(r.drop (HT.Ci xs.length 0 lo)).take (HT.Ci xs.length xs.length hi - HT.Ci xs.length 0 lo),Heap.get?_push_size _ rfl⟩
noncomputable def ik:V->Bool
 | .zT=>true
 | .bl _=>true
 | .int _=>true
 | .str _=>true
 | _=>false
noncomputable def xr:V->V->Bool
 | .zT, .zT=>true
 | .bl a, .bl b=>a == b
 | .bl a, .int b=>(if a then 1 else 0) == b
 | .int a, .bl b=>a == (if b then 1 else 0)
 | .int a, .int b=>a == b
 | .str a, .str b=>a == b
 | _,_=>false
theorem zg {A:Around}{s:Shared}{y x:V}{u v:Value}(ry:RelV y u)(rx:RelV x v)(fy:ik y=true)(fx:ik x=true):SeqAt.EqAt A s u v (xr y x):=by
 cases y with
 | zT =>
  cases ry
  cases x with
  | zT=>cases rx;exact SeqAt.EqAt.same _
  | bl b=>cases rx;exact SeqAt.EqAt.none_bool b
  | int b=>obtain⟨t,rfl⟩:=rx;exact SeqAt.EqAt.none_int b t
  | str b=>obtain⟨t,rfl⟩:=rx;exact SeqAt.EqAt.none_str b t
  | _=>exact absurd (show false=true from fx) Bool.false_ne_true
 | bl a =>
  cases ry
  cases x with
  | zT=>cases rx;exact SeqAt.EqAt.bool_none a
  | bl b=>cases rx;exact SeqAt.EqAt.bool_bool a b
  | int b=>obtain⟨t,rfl⟩:=rx;exact SeqAt.EqAt.bool_int a b t
  | str b=>obtain⟨t,rfl⟩:=rx;exact SeqAt.EqAt.bool_str a b t
  | _=>exact absurd (show false=true from fx) Bool.false_ne_true
 | int a =>
  obtain⟨t',rfl⟩:=ry
  cases x with
  | zT=>cases rx;exact SeqAt.EqAt.int_none a t'
  | bl b=>cases rx;exact SeqAt.EqAt.int_bool a t' b
  | int b=>obtain⟨t,rfl⟩:=rx;exact SeqAt.EqAt.int_int a t' b t
  | str b=>obtain⟨t,rfl⟩:=rx;exact SeqAt.EqAt.int_str a t' b t
  | _=>exact absurd (show false=true from fx) Bool.false_ne_true
 | str a =>
  obtain⟨t',rfl⟩:=ry
  cases x with
  | zT=>cases rx;exact SeqAt.EqAt.str_none a t'
  | bl b=>cases rx;exact SeqAt.EqAt.str_bool a t' b
  | int b=>obtain⟨t,rfl⟩:=rx;exact SeqAt.EqAt.str_int a t' b t
  | str b=>obtain⟨t,rfl⟩:=rx;exact SeqAt.EqAt.str_str a t' b t
  | _=>exact absurd (show false=true from fx) Bool.false_ne_true
 | _=>exact absurd (show false=true from fy) Bool.false_ne_true
noncomputable def oN (x:V)(u:Value):Bool:=match u with
 | .none=>xr .zT x
 | .bool b=>xr (.bl b) x
 | .int i _=>xr (.int i) x
 | .str z _=>xr (.str z) x
 | _=>false
theorem uB {x y:V}{u:Value}(r:RelV y u)(f:ik y=true):oN x u=xr y x:=by
 cases y with
 | zT=>cases r;rfl
 | bl b=>cases r;rfl
 | int i=>obtain⟨t,rfl⟩:=r;rfl
 | str z=>obtain⟨t,rfl⟩:=r;rfl
 | _=>exact absurd (show false=true from f) Bool.false_ne_true
theorem io {x:V}:∀ {xs:List V}{us:List Value},Vals xs us->xs.all ik=true->us.any (oN x)=xs.any fun y=>xr y x
 | _,_, .nil,_=>rfl
 | y :: xs,u :: us, .cons r t,f=>by
  rw[all_cons,Bool.and_eq_true]at f
  rw[any_cons,any_cons,uB r f.1,io t f.2]
theorem fF {A:Around}{s:Shared}{x:V}{v:Value}(rx:RelV x v)(fx:ik x=true):∀ {xs:List V}{us:List Value},Vals xs us->xs.all ik=true->∀ u ∈ us,SeqAt.EqAt A s u v (oN x u)
 | _,_, .nil,_=>fun u hu=>by cases hu
 | y :: xs,u :: us, .cons r t,f=>fun u' hu=>by
  rw[all_cons,Bool.and_eq_true]at f
  rcases mem_cons.mp hu with rfl | hu
  ·rw[uB r f.1];exact zg r rx f.1 fx
  ·exact fF rx fx t f.2 u' hu
noncomputable def va (x:V)(xs:List V):Bool:=xs.any fun y=>xr y x
noncomputable def Qe (K:Frag)(neg:Bool):R2:=fun x y H Q=>∃ p xs,y = .ref p/\(zJ K H p xs∨zM K H p xs)/\ik x=true/\xs.all ik=true/\Q (.bl (if neg then !va x xs else va x xs)) H
theorem jY:eU X (compareOp .In) (Qe X.K false):=by
 intro pins s σ H x y v u Q I rx ry h
 obtain⟨p,xs,rfl,hq,fx,fs,q⟩:=h
 cases ry
 rcases hq with hq | hq
 ·obtain⟨zI,r,pl,hz⟩:=I.list hq
  refine SeqAt.in_listAt (oN x) pl.isList (fun w hw=>fF rx fx r fs w (by simpa using hw)) ⟨.bl _,H,I,rfl,?_⟩
  rw[show zI.toArray.any (oN x)=zI.any (oN x) by simp,io r fs]
  exact q
 ·obtain⟨zI,r,pl,hz⟩:=I.tuple hq
  refine SeqAt.in_tupleAt (oN x) pl (fun w hw=>fF rx fx r fs w (by simpa using hw)) ⟨.bl _,H,I,rfl,?_⟩
  rw[show zI.toArray.any (oN x)=zI.any (oN x) by simp,io r fs]
  exact q
theorem ll:eU X (compareOp .NotIn) (Qe X.K true):=by
 intro pins s σ H x y v u Q I rx ry h
 obtain⟨p,xs,rfl,hq,fx,fs,q⟩:=h
 cases ry
 rcases hq with hq | hq
 ·obtain⟨zI,r,pl,hz⟩:=I.list hq
  refine SeqAt.notIn_listAt (oN x) pl.isList (fun w hw=>fF rx fx r fs w (by simpa using hw)) ⟨.bl _,H,I,rfl,?_⟩
  rw[show zI.toArray.any (oN x)=zI.any (oN x) by simp,io r fs]
  exact q
 ·obtain⟨zI,r,pl,hz⟩:=I.tuple hq
  refine SeqAt.notIn_tupleAt (oN x) pl (fun w hw=>fF rx fx r fs w (by simpa using hw)) ⟨.bl _,H,I,rfl,?_⟩
  rw[show zI.toArray.any (oN x)=zI.any (oN x) by simp,io r fs]
  exact q
theorem ao:c6 X (.builtin "len") (fun xs H Q=>∃ p ys,xs=[.ref p]/\(zJ X.K H p ys∨zM X.K H p ys)/\Q (.int ys.length) H):=by
 intro pins s σ H xs us Q I r h
 obtain⟨p,ys,rfl,hq,q⟩:=h
 obtain⟨u,rfl,rx⟩:=iZ r
 cases rx
 have hn:=j3
 rcases hq with hq | hq
 ·obtain⟨zI,r',pl,hz⟩:=I.list hq
  have hlen:=r'.length
  exact Calls.call_len_list pl.isList (by simp only[size_toArray]<;>omega) ⟨.int ys.length,H,I.tok _,⟨s.toks + 1,by rw[size_toArray,hlen]⟩,q⟩
 ·obtain⟨zI,r',pl,hz⟩:=I.tuple hq
  have hlen:=r'.length
  exact len_tuple pl (by simp only[size_toArray]<;>omega) ⟨.int ys.length,H,I.tok _,⟨s.toks + 1,by rw[size_toArray,hlen]⟩,q⟩
theorem cp:c6 X (.type "list") (fun xs H Q=>∃ p ys,xs=[.ref p]/\(zJ X.K H p ys∨zM X.K H p ys)/\∀ l,H l=none->Q (.ref l) (upd H l (.lst ys))):=by
 intro pins s σ H xs us Q I r h
 obtain⟨p,ys,rfl,hq,q⟩:=h
 obtain⟨u,rfl,rx⟩:=iZ r
 cases rx
 have fin:∀ (zI:List Value),Vals ys zI->ys.length <= sizeLine->∀ (h':Heap)(c':Nat),(∀ b o',s.heap.get? b=some o'->h'.get? b=some o') ->
   h'.get? s.heap.objs.size=some { cls := .type "list",dict:=none,data := .seq zI.toArray c',slots:=#[] }->EP X pins σ Q (.ref s.heap.objs.size) { s with heap:=h' }:=fun zI r' hz h' c' kp e =>
  ⟨.ref s.heap.objs.size,_,I.laid (t':=s.toks) kp (Nat.le_refl _) (show zV X.prog X.w _ h' _ (.lst ys) from ⟨hz,zI,c',r',e⟩),rfl,q _ (I.zL.fresh (Nat.le_refl _))⟩
 rcases hq with hq | hq
 ·obtain⟨zI,r',pl,hz⟩:=I.list hq
  have hlen:=r'.length
  obtain⟨o,ho,hc,n,hd⟩:=pl.isList
  exact call_list_seq p (.inl rfl) ho hc hd (fun h' c' kp e=>fin zI r' hz h' c' kp e) (by simp only[size_toArray]<;>omega)
 ·obtain⟨zI,r',pl,hz⟩:=I.tuple hq
  have hlen:=r'.length
  obtain⟨o,ho,hc,n,hd⟩:=pl
  exact call_list_seq p (.inr rfl) ho hc hd (fun h' c' kp e=>fin zI r' hz h' c' kp e) (by simp only[size_toArray]<;>omega)
theorem dQ:c6 X (.type "tuple") (fun xs H Q=>∃ p ys,xs=[.ref p]/\((zJ X.K H p ys/\∀ l,H l=none->Q (.ref l) (upd H l (.tup ys)))∨(zM X.K H p ys/\Q (.ref p) H))):=by
 intro pins s σ H xs us Q I r h
 obtain⟨p,ys,rfl,h⟩:=h
 obtain⟨u,rfl,rx⟩:=iZ r
 cases rx
 rcases h with ⟨hq,q⟩ | ⟨hq,q⟩
 ·obtain⟨zI,r',pl,hz⟩:=I.list hq
  have hlen:=r'.length
  refine call_tuple_list pl.isList (fun h' kp=>?_) (by simp only[size_toArray]<;>omega)
  have I1:Inv X pins σ H { s with heap:=h' }:=I.kept (t':=s.toks) kp
  have I2:Inv X pins σ (upd H h'.objs.size (.tup ys)) { s with heap:=h'.push { cls := .type "tuple",data := .seq zI.toArray } } :=
   I1.laid (t':=s.toks) (fun b o e=>Heap.get?_push_of_some _ e) (Nat.le_refl _) (show zV X.prog X.w _ _ _ (.tup ys) from ⟨hz,zI,r',AJ.new _ _⟩)
  exact⟨.ref h'.objs.size,_,I2,rfl,q _ (I1.zL.fresh (Nat.le_refl _))⟩
 ·obtain⟨zI,r',pl,hz⟩:=I.tuple hq
  exact call_tuple_same pl ⟨.ref p,H,I,rfl,q⟩
noncomputable def Qf (K:Frag)(T:String)(x:V)(H:Hp):Prop:=match x with
 | .str _=>T = "str"
 | .int _=>T = "int"
 | .ref p=>(T = "list"/\∃ xs,zJ K H p xs)∨(T = "tuple"/\∃ o,K.lookup p=some o/\o.cls = .type "tuple"/\o.dict=none) ∨
   (T = "dict"/\((∃ kvs,H p=some (.dK kvs))∨∃ kvs,H p=some (.dT kvs)))∨(T = "set"/\∃ S n,H p=some (.set S n))
 | _=>False
theorem rJ {pins:List (Addr × Obj)}{σ:St}{H:Hp}{s:Shared}{T:String}{x:V}{v:Value}(I:Inv X pins σ H s)(r:RelV x v)(ty:Qf X.K T x H) :
  s.TypeIs v T/\∀ a,v = .ref a->∃ ob,s.heap.get? a=some ob/\ob.dict=none:=by
 cases x with
 | str z =>
  obtain⟨t,rfl⟩:=r
  cases (show T = "str" from ty)
  exact⟨typeIs_str s z t,fun _ e=>nomatch e⟩
 | int i =>
  obtain⟨t,rfl⟩:=r
  cases (show T = "int" from ty)
  exact⟨typeIs_int s i t,fun _ e=>nomatch e⟩
 | ref p =>
  cases r
  rcases ty with ⟨rfl,xs,hq⟩ | ⟨rfl,o,hk,hc,hd⟩ | ⟨rfl,hk⟩ | ⟨rfl,S,n,hk⟩
  ·obtain⟨zI,_,pl,_⟩:=I.list hq
   refine⟨pl.isList.typeIs,fun a e=>?_⟩
   cases e
   obtain⟨o,n,e,c,hd,_⟩:=pl
   exact⟨o,e,hd⟩
  ·refine⟨⟨o,I.AF p o hk,hc⟩,fun a e=>?_⟩
   cases e
   exact⟨o,I.AF _ o hk,hd⟩
  ·have z:∃ o,s.heap.get? p=some o/\o.ExactDict:=by
    rcases hk with ⟨kvs,hk⟩ | ⟨kvs,hk⟩
    ·obtain⟨_,_,_,_,o,_,_,e,ex,_⟩:=I.zL p _ hk
     exact⟨o,e,ex⟩
    ·obtain⟨_,_,_,_,o,_,_,e,ex,_⟩:=I.zL p _ hk
     exact⟨o,e,ex⟩
   obtain⟨o,e,ex⟩:=z
   refine⟨⟨o,e,ex.1⟩,fun a e2=>?_⟩
   cases e2
   exact⟨o,e,ex.2.1⟩
  ·obtain⟨o,_,_,_,e,ex,_⟩:=I.zL p _ hk
   refine⟨⟨o,e,ex.1⟩,fun a e2=>?_⟩
   cases e2
   exact⟨o,e,ex.2.1⟩
 | _=>exact False.elim ty
noncomputable def Qg (K:Frag)(T:String)(r:V->List V->Hp->VK->Prop)(to:TE):TE:=fun σ H Q=>to σ H fun x H1=>Qf K T x H1/\r x [] H1 Q
noncomputable def tBM (K:Frag)(T:String)(r:V->List V->Hp->VK->Prop)(to:TE)(t:TA):TE:=fun σ H Q=>to σ H fun x H1=>Qf K T x H1/\t σ H1 fun xs H2=>r x xs H2 Q
variable {o e:Expr}{es:List Expr}{to:TE}{t:TA}{name:Str}{apos Aq:Pos}{T id:String}{r:V->List V->Hp->VK->Prop}
theorem yp (pa:PlainAttrs T)(slot:Slot T name id)(Qh:typeOf (.builtin id)=pure (.type "method_descriptor"))(hm:Oc X id r)(ho:PE X o to)
  (CI:attributeBase o name X.env (eval o X.env)=eval o X.env:=by rfl) (E6:(apos.endLine == Aq.line)=true:=by rfl):PE X (.Call (.Attribute o name apos) [] [] Aq) (Qg X.K T r to):=by
 intro pins s σ H Q I h
 refine wpAny_Call_method0_late CI E6 (aT (ho pins s σ H _ I h) fun v s1 zH=>?_)
 obtain⟨x,H1,I1,r1,ty,q1⟩:=zH
 obtain⟨h1,h2⟩:=rJ I1 r1 ty
 exact⟨T,id,pa,slot,Qh,h1,h2,Calls.callWith_builtin rfl (PySem.evalArgs_none (hm pins s1 σ H1 x [] v [] Q I1 r1 .nil q1))⟩
theorem cr (pa:PlainAttrs T)(slot:Slot T name id)(Qh:typeOf (.builtin id)=pure (.type "method_descriptor"))(hm:Oc X id r)(ho:PE X o to)(ha:PA X (e :: es) t)
  (CI:attributeBase o name X.env (eval o X.env)=eval o X.env:=by rfl)
  (Dy:((backTo Aq (starEach (e :: es) X.env)).all (fun x=>!x.1) && (backToKw Aq (keywordEach [] X.env)).all (fun x=>x.1.isSome)
   && decide ((e :: es).length + ([]:List Keyword).length + (if ([]:List Keyword).isEmpty then 0 else 1) < 30))=true:=by rfl)
  (E6:(apos.endLine == Aq.line)=true:=by rfl) (hs:starEach (e :: es) X.env=(false,eval e X.env) :: starEach es X.env:=by rfl) (HM:(backTo Aq (starEach es X.env)).any (·.1)=false:=by rfl) :
  PE X (.Call (.Attribute o name apos) (e :: es) [] Aq) (tBM X.K T r to t):=by
 intro pins s σ H Q I h
 refine wpAny_Call_method_late CI Dy E6 rfl (aT (ho pins s σ H _ I h) fun v s1 zH=>?_)
 obtain⟨x,H1,I1,r1,ty,q1⟩:=zH
 obtain⟨h1,h2⟩:=rJ I1 r1 ty
 refine⟨T,id,pa,slot,Qh,h1,h2,?_⟩
 have hA:=ha Aq pins s1 σ H1 _ I1 q1
 rw[hs]at hA ⊢
 refine Calls.callWith_builtin (by show(false || (backTo Aq (starEach es X.env)).any (·.1))=false;rw[HM]<;>rfl) (Calls.evalArgs_plain ?_)
 exact aT hA fun us s2 zH=>by obtain⟨vs,H2,I2,r2,q2⟩:=zH;exact hm pins s2 σ H2 x vs v us Q I2 r1 r2 q2
end
end L2
namespace L2
open PySem PySem.Spec PyProof.Rows
noncomputable def Qi (X:Cx)(id:String)(r:V->List V->Hp->VK->Prop):Prop :=
 ∀ (pins:List (Addr × Obj))(s:Shared)(σ:St)(H:Hp)(x:V)(xs:List V)(v:Value)(us:List Value)(Q:VK),Inv X pins σ H s->RelV x v->Vals xs us->r x xs H Q ->
  wpAny (model X.prog X.w) X.A (call (.builtin id) (v :: us)) (EP X pins σ Q) X.xe s
theorem Vals.one:∀ {x:V}{us:List Value},Vals [x] us->∃ u,us=[u]/\RelV x u:=by
 intro x us h
 cases h with
 | cons r t=>cases t;exact⟨_,rfl,r⟩
theorem Vals.eraseIdx:∀ {xs:List V}{us:List Value}(i:Nat),Vals xs us->Vals (xs.eraseIdx i) (us.eraseIdx i)
 | _,_,_, .nil => .nil
 | _,_,0, .cons _ t=>t
 | _,_,i + 1, .cons r t => .cons r (Vals.eraseIdx i t)
theorem kz {α:Type}:∀ (l:List α)(i:Nat),(l.eraseIdx i).length <= l.length
 | [],_=>Nat.le_refl _
 | _ :: _,0=>le_succ _
 | _ :: r,i + 1=>Nat.succ_le_succ (kz r i)
section
variable {X:Cx}{pins:List (Addr × Obj)}{σ:St}{H:Hp}{s:Shared}{l b:Addr}{xs ys zs:List V}
theorem Inv.HN {zI its':List Value}{n:Nat}{f:Array Value->Array Value}{t':Nat}(I:Inv X pins σ H s)(hH:H l=some (.lst xs))
  (e:s.heap.get? l=some { cls := .type "list",data := .seq zI.toArray n }) (hf:f zI.toArray=its'.toArray) (hv:Vals ys its') (hz:ys.length <= sizeLine) :
  Inv X pins σ (upd H l (.lst ys)) { s with heap:=s.heap.update l (Obj.mapSeq f),toks:=t' }:=by
 have q:=PySem.IsL.update e f
 rw[hf]at q
 refine I.write (x:=l) (e:=l) (by rw[hH];exact trivial) (.inl rfl) (fun b' u hb hu=>(Heap.get?_update_other s.heap (Obj.mapSeq f) (Ne.symm hb)).trans hu) ⟨_,q⟩ ?_
 exact⟨hz,its',_,hv,q⟩
theorem Inv.Qj {zI:List Value}{t':Nat}(I:Inv X pins σ H s)(hv:Vals ys zI)(hz:ys.length <= sizeLine) :
  Inv X pins σ (upd H s.heap.objs.size (.lst ys)) { s with heap:=s.heap.push { cls := .type "list",data := .seq zI.toArray },toks:=t' } :=
 I.laid (fun _ _ q=>Heap.get?_push_of_some _ q) (Nat.le_refl _) ⟨hz,zI,0,hv,Heap.get?_push_size _ rfl⟩
theorem Inv.fresh (I:Inv X pins σ H s):H s.heap.objs.size=none:=I.zL.fresh (Nat.le_refl _)
theorem Inv.Dz (I:Inv X pins σ H s)(hH:H l=some (.lst xs)):xs.length <= sizeLine/\∃ (zI:List Value)(n:Nat),Vals xs zI/\xs.length=zI.length/\s.heap.get? l=some { cls := .type "list",data := .seq zI.toArray n }:=by
 obtain⟨z,zI,n,r,e⟩:=I.zL l _ hH
 exact⟨z,zI,n,r,r.length,e⟩
theorem ue {n:Nat}(h:n <= sizeLine):Builtin.List.listTooLong n=false:=by
 unfold Builtin.List.listTooLong
 exact decide_eq_false (by omega)
end
section
variable {X:Cx}
noncomputable def v8:V->List V->Hp->VK->Prop:=fun x vs H Q=>∃ l xs y,x = .ref l/\vs=[y]/\H l=some (.lst xs)/\xs.length < sizeLine/\Q .zT (upd H l (.lst (xs ++ [y])))
theorem bG:Qi X "list.append" v8:=by
 intro pins s σ H x vs v us Q I rx rv h
 obtain⟨l,xs,y,rfl,rfl,hH,hz,q⟩:=h
 cases rx
 obtain⟨u,rfl,ru⟩:=rv.one
 obtain⟨z,zI,n,r,hl,e⟩:=I.Dz hH
 refine call_meets F.slot_list_append ⟨_,e,rfl⟩ F.entry_list_append (F.args_list_append_2 _ _) (PySem.list_append l zI.toArray n u (by rw[size_toArray];omega)) ⟨e,?_⟩
 refine⟨.zT,_,I.HN (its':=zI ++ [u]) hH e (by simp) (r.append (.cons ru .nil)) ?_,rfl,q⟩
 rw[length_append,length_singleton]
 omega
noncomputable def v7:V->List V->Hp->VK->Prop:=fun x vs H Q=>∃ l b xs zs,x = .ref l/\vs=[.ref b]/\H l=some (.lst xs)/\H b=some (.lst zs)/\xs.length + zs.length <= sizeLine/\Q .zT (upd H l (.lst (xs ++ zs)))
theorem fT:Qi X "list.extend" v7:=by
 intro pins s σ H x vs v us Q I rx rv h
 obtain⟨l,b,xs,zs,rfl,rfl,hH,hB,hz,q⟩:=h
 cases rx
 obtain⟨u,rfl,ru⟩:=rv.one
 cases ru
 obtain⟨z,zI,n,r,hl,e⟩:=I.Dz hH
 obtain⟨z2,BX,n2,r2,Fw,e2⟩:=I.Dz hB
 have hsz:zI.toArray.size + BX.toArray.size <= sizeLine:=by rw[size_toArray,size_toArray];omega
 have Kn:¬ (!zI.toArray.isEmpty && Builtin.List.listTooLong (zI.toArray.size + BX.toArray.size))=true:=by
  rw[ue hsz,Bool.and_false]
  exact Bool.false_ne_true
 refine call_meets F.slot_list_extend ⟨_,e,rfl⟩ F.entry_list_extend (F.args_list_extend_2 _ _)
  (AutoSeq1.list_extend_list_list_0 l zI.toArray n b BX.toArray n2 Kn (by rw[size_toArray];omega) (by omega)) ⟨e,e2,?_⟩
 refine⟨.zT,_,I.HN (its':=zI ++ BX) hH e (by simp) (r.append r2) ?_,rfl,q⟩
 rw[length_append]
 omega
noncomputable def yj:V->List V->Hp->VK->Prop:=fun x vs H Q=>∃ l xs i k y,x = .ref l/\vs=[.int i]/\H l=some (.lst xs)/\-(2 ^ 63) <= i/\i < 2 ^ 63/\seqIndex? i xs.length=some k/\xs[k]? = some y/\Q y (upd H l (.lst (xs.eraseIdx k)))
theorem ul:Qi X "list.pop" yj:=by
 intro pins s σ H x vs v us Q I rx rv h
 obtain⟨l,xs,i,k,y,rfl,rfl,hH,h1,h2,hk,hy,q⟩:=h
 cases rx
 obtain⟨u,rfl,ru⟩:=rv.one
 obtain⟨t,rfl⟩:=ru
 obtain⟨z,zI,n,r,hl,e⟩:=I.Dz hH
 obtain⟨w,hw,CH⟩:=r.get hy
 refine call_meets F.slot_list_pop ⟨_,e,rfl⟩ F.entry_list_pop (F.args_list_pop_2 _ _)
  (MeetsSeq.list_pop_at l zI.toArray n i t k w (fitsIndex_both h1 h2) (by rw[size_toArray,← hl];exact hk) (by rw[← Array.getElem?_toList];exact hw) (by rw[size_toArray];omega)) ⟨e,?_⟩
 refine⟨y,_,I.HN (its':=zI.eraseIdx k) hH e ?_ (r.eraseIdx k) ?_,CH,q⟩
 ·show zI.toArray.eraseIdxIfInBounds k=(zI.eraseIdx k).toArray
  rw[List.eraseIdxIfInBounds_toArray]
 ·have:=kz xs k
  omega
noncomputable def Qk:R2:=fun x y H Q=>∃ l b xs zs,x = .ref l/\y = .ref b/\H l=some (.lst xs)/\H b=some (.lst zs)/\xs.length + zs.length <= sizeLine/\∀ p,H p=none->Q (.ref p) (upd H p (.lst (xs ++ zs)))
theorem tK:eU X (binaryOp .Add) Qk:=by
 intro pins s σ H x y v u Q I rx ry h
 obtain⟨l,b,xs,zs,rfl,rfl,hH,hB,hz,q⟩:=h
 cases rx
 cases ry
 obtain⟨z,zI,n,r,hl,e⟩:=I.Dz hH
 obtain⟨z2,BX,n2,r2,Fw,e2⟩:=I.Dz hB
 refine PySem.P.add_list e e2 ?_ (by rw[size_toArray,size_toArray];omega)
 have ea:zI.toArray ++ BX.toArray=(zI ++ BX).toArray:=by simp
 rw[ea]
 exact⟨.ref _,_,I.Qj (t':=s.toks) (r.append r2) (by rw[length_append];omega),rfl,q _ I.fresh⟩
end
section
variable {prog:Program}{w:World}{A:Around}{E:Value->Shared->Prop}{s:Shared}
set_option maxRecDepth 100000 in
end
section
variable {X:Cx}
end
end L2
namespace Vq
open PySem PySem.W PySem.Calls PyProof.Rows
theorem iH {P:Params}{h:Heap}:∀ (ns:List Int)(vs:List Value),WellAll P h vs (ns.map WData.int)->IntsAre vs ns:=by
 intro ns
 induction ns with
 | nil =>
  intro vs w
  rw[map_nil]at w
  cases w
  exact .nil
 | cons n ns ih =>
  intro vs w
  rw[map_cons]at w
  cases w with
  | cons a b =>
   cases a
   exact .cons _ _ (ih _ b)
theorem qz {l:OpenLaw}{n:Nat}(hn:l.most=some n){P:Params}{h:Heap}{args:List WData}{vals:List Value}
  (Fx:l.row.toRowW.claim.pre args=true) (DW:WellAll P h vals args) :
  ∃ a vs ns,vals=[Value.ref a]/\args=[WData.list (ns.map WData.int)]/\h.get? a=some { cls := .type "list",data := .seq vs.toArray }/\IntsAre vs ns/\ns.length <= n:=by
 have hsh:WShape.hasAll [] args [.list .int]=true:=(pre_splitW Fx).1
 have hc:l.pre.holds [] { args:=args } = true:=(pre_splitW Fx).2
 obtain⟨d,r,rfl,h1,h2⟩:=hasAllW_cons hsh
 obtain rfl:=hasAllW_nil h2
 obtain⟨xs,rfl,h3⟩:=hasW_list h1
 obtain⟨ns,rfl⟩:=items_int h3
 have hlen:ns.length <= n:=by
  unfold OpenLaw.pre at hc
  have h4:(WTm.not (.lt (.lit (.int (n:Int))) (.len (.arg 0)))).holds [] { args:=[.list (ns.map .int)] } = true:=by
   have h4:=(holds_andW hc).1
   rw[hn]at h4
   exact h4
  have h5:=condW_of h4 (w_not (w_lt w_lit (w_len_list (w_arg rfl))))
  rw[length_map]at h5
  refine Nat.le_of_not_lt fun q=>?_
  have q':(n:Int) < ((ns.length:Nat):Int):=by omega
  first
   | (rw[decide_eq_true q']at h5;exact absurd h5 (by decide))
   | (simp at h5;omega)
 cases DW with
 | cons w1 w2 =>
  cases w2
  cases w1 with
  | list ho AZ=>exact⟨_,_,ns,rfl,rfl,ho,iH ns _ AZ,hlen⟩
theorem qD (l:OpenLaw)(args:List WData):l.row.toRowW.claim.post args (.bool true) args=true :=
 postW_of (r:=l.row.toRowW) (X:=(true == true))
  (show WShape.has [] (.bool true) .bool=true by first | rfl | decide | simp[WShape.has,WShape.arms,WShape.armsAll])
  (show(WTm.eq .res (.lit (.bool true))).value [] { args:=args,res:=some (.bool true),after:=args } = some (.bool (true == true)) from w_eq_bool (w_res rfl) w_lit) rfl
theorem CJ {l:OpenLaw}{n:Nat}{q:Program}{loose:List Str}{XP:(Str->Option Value)->Heap->Prop}{YP:World->Heap->Prop}{d:DefRec}
  (hn:l.most=some n) (Ko:d.params.defaults=[])
  (call:∀ (w:World)(s₀ s₁:Shared)(mg mb:Str->Option Value)(fa:Addr)(o:Obj)(pm cd doc:Value)(a:Addr)(vs:List Value)(ns:List Int),
   Ground q loose [] XP w s₀ mg mb s₁.heap->YP w s₁.heap ->
   s₁.heap.get? fa=some o->o.data = .func (docDef d.name d.params d.body d.scope pm cd doc)->s₁.heap.CodeRec cd d.name->mg d.name=some (.ref fa) ->
   s₁.heap.get? a=some { cls := .type "list",data := .seq vs.toArray }->IntsAre vs ns->ns.length <= n->s₁.gens = #[] ->
   codeAny (model l.prog w) callerA (.call (.ref fa) ⟨[.ref a],[]⟩) (fun r s'=>r = .ok (.ret (.bool true))/\OldK s₁.heap s'.heap/\s'.os=s₁.os/\AllBare s'.gens) s₁) :
  WalkO q loose XP YP l.row.toRowW d [] (fun f vs=>PySem.call f vs):=by
 intro w s₀ s₁ mg mb G Y fa o pm cd doc dV kV ho hd Dp hD hmg hg args vals as Fx hlay hrd DW hlo
 obtain rfl:dV = .none:=Dflts.none hD Ko
 obtain rfl:kV = .none:=Dflts.noKw hD
 obtain⟨a,vs,ns,rfl,rfl,HP,hints,hlen⟩:=qz hn Fx DW
 refine enter_call (codeAny_mono (call w s₀ s₁ mg mb fa o pm cd doc a vs ns G Y ho (fd_plain hd) Dp hmg HP hints hlen hg) fun r s' hq=>?_)
 obtain⟨rfl,h2,h3,h4⟩:=hq
 exact⟨.inl ⟨.bool true, .bool true,[],rfl,fun _=>rfl, .bool true,qD l _,fun _=>⟨List.Pairwise.nil,fun _ hm=>(nomatch hm)⟩⟩,h2,h3,h4⟩
section
variable {prog:Program}{w:World}{A:Around}{E:Value->Shared->Prop}{s:Shared}{K:Frag}
end
end Vq
namespace L2
open PySem PySem.Spec PyProof.Rows
theorem jT:∀ {vs:List Value}{ns:List Int},IntsAre vs ns->Vals (ns.map V.int) vs
 | _,_, .nil => .nil
 | _,_, .cons n t h => .cons ⟨t,rfl⟩ (jT h)
noncomputable def zy (H:Hp):Prop:=∀ b,H b=none∨∃ o xs,H b=some (.Bx o (.lst xs))
theorem uv {P:Program}{w:World}{K:Frag}{mg mb:Str->Option Value}{CX:oX}{k:Nat}{fa a:Addr}{fd:FuncData}{x:Str}{sp:Sp}{s₁:Shared}{vs:List Value}{ns:List Int}
  (KX:K.In s₁.heap) (HQ:s₁.heap.Ns mainGlobals mg) (hb:s₁.heap.Ns builtinsNs mb) (Ql:∀ x:Str,x ≠ "__name__"->mb x=bootBuiltins x) (Qm:s₁.heap.NoLimit) (hg:s₁.gens = #[])
  (ha:s₁.heap.get? a=some { cls := .type "list",data := .seq vs.toArray }) (hi:IntsAre vs ns) (hl:ns.length <= sizeLine) (hr:zN k callerA)
  (F:∀ base:Heap,K.In base->base.Ns mainGlobals mg->zE P w K mg base CX k fa fd [x] sp) (Kp:∀ (s:Shared)(u:Value),BindsTo s fd ⟨[u],[]⟩ [(x,u)])
  (Eo:∀ H:Hp,zy H->zJ K H a (ns.map V.int)->sp [.ref a] H (fun v _=>v = .bl true) fun _ _ _=>False)
  (Qn:∀ H e s',CX [] H s₁ (fun _ _ _=>False) e s'->False) :
  codeAny (model P w) callerA (.call (.ref fa) ⟨[.ref a],[]⟩) (fun r s'=>r = .ok (.ret (.bool true))/\OldK s₁.heap s'.heap/\s'.os=s₁.os/\AllBare s'.gens) s₁:=by
 have rv:=jT hi
 have Qo:=hi.length
 have core:∀ H:Hp,zy H->zJ K H a (ns.map V.int)->AH P w H s₁.heap->(∀ b,H b ≠ none->b=a)->(H a ≠ none->K.lookup a=none) ->
   codeAny (model P w) callerA (.call (.ref fa) ⟨[.ref a],[]⟩) (fun r s'=>r = .ok (.ret (.bool true))/\OldK s₁.heap s'.heap/\s'.os=s₁.os/\AllBare s'.gens) s₁:=by
  intro H hO hS zL hA hK
  have base_of:∀ {b:Addr}{o:Obj},s₁.heap.get? b=some o->H b=none->(lr s₁.heap H).get? b=some o:=fun e n=>uz e n
  have Kj:∀ {b:Addr}{o:Obj}{es:Array DictEntry}{ep:Nat},s₁.heap.get? b=some o->o.data = .dict es ep->H b=none:=fun {b o es ep} e d=>by
   cases q:H b with
   | none=>rfl
   | some u =>
    have e':b=a:=hA b (by rw[q];simp)
    subst e'
    rw[ha]at e;cases e
    have d':Data.seq vs.toArray _=Data.dict es ep:=d
    cases d'
  have Od:∀ {b:Addr}{m:Str->Option Value},s₁.heap.Ns b m->(lr s₁.heap H).Ns b m:=fun {b m} ⟨o,es,ep,e,d,r⟩=>⟨o,es,ep,base_of e (Kj e d),d,r⟩
  have Vr:K.In (lr s₁.heap H):=fun b o e=>base_of (KX b o e) (by
   cases q:H b with
   | none=>rfl
   | some u =>
    have e':b=a:=hA b (by rw[q];simp)
    subst e'
    rw[hK (by rw[q];simp)]at e;cases e)
  have hM:Mod K mg (lr s₁.heap H):=⟨Vr,Od HQ,⟨mb,Od hb,Ql⟩,let ⟨mc,h1,h2⟩:=Qm; ⟨mc,Od h1,h2⟩⟩
  have e0:Du P w K mg (lr s₁.heap H) callerA [] s₁ H:=⟨rfl,hM,fun b o e=>wk e,le_of_eq (qY _ _),trivial,fun b hb=>absurd (show b ∈ ([]:List Addr) from hb) (by simp),zL, .of_eq hg⟩
  refine codeAny_mono ((F _ Vr (Od HQ)).run callerA [] s₁ H ⟨[.ref a],[]⟩ [.ref a] [.ref a] _ _ hr e0 (Kp s₁ (.ref a)) (.cons rfl .nil) (Eo H hO hS)) fun r s' h=>?_
  cases r with
  | error e=>exact(Qn H e s' h).elim
  | ok fl =>
   cases fl with
   | next=>exact False.elim h
   | brk=>exact False.elim h
   | cont=>exact False.elim h
   | ret u =>
    obtain⟨v,H',os,bare,un,Qp,r',q⟩:=h
    have q':v = .bl true:=q
    subst q'
    obtain rfl:u=Value.bool true:=r'
    refine⟨rfl,OldK.of_keep fun b o e=>?_,os,bare⟩
    cases q:H b with
    | none=>exact un.keep b o e q (by intro z;exact absurd (show b ∈ ([]:List Addr) from z) (by simp)) (by simp)
    | some u =>
     rcases hO b with z | ⟨ob,xs,z⟩
     ·rw[q]at z;cases z
     ·have z2:=un.B4 b ob _ z
      obtain⟨e1,_⟩:=zL b _ z
      obtain⟨e2,_⟩:=Qp b _ z2
      rw[e]at e1;cases e1
      exact e2
 cases hk:K.lookup a with
 | some o =>
  have e:=KX a o hk
  rw[ha]at e
  cases e
  refine core (fun _=>none) (fun _ => .inl rfl) (.inr ⟨_,vs.toArray,_,hk,rfl,rfl,rfl,by rw[size_toArray,Qo];exact hl,by simpa using rv⟩) (fun b u z=>by have z':(none:Option HO)=some u:=z;cases z') (fun b z=>absurd rfl z) fun z=>absurd rfl z
 | none =>
  refine core (fun b=>if b=a then some (.Bx { cls := .type "list",data := .seq vs.toArray } (.lst (ns.map V.int))) else none) (fun b=>?_) (.inl (.inr ⟨{ cls := .type "list",data := .seq vs.toArray },if_pos rfl⟩)) (fun b u z=>?_) (fun b z=>?_) fun _=>hk
  ·by_cases hb:b=a
   ·exact .inr ⟨_,_,if_pos hb⟩
   ·exact .inl (if_neg hb)
  ·by_cases hb:b=a
   ·have z':=(if_pos hb).symm.trans z
    cases z'
    subst hb
    exact⟨ha,by rw[length_map];exact hl,vs,_,rv,ha⟩
   ·have z':=(if_neg hb).symm.trans z
    cases z'
  ·by_cases hb:b=a
   ·exact hb
   ·exact absurd (if_neg hb) z
end L2
namespace L2
open PySem PySem.Spec PyProof.Rows
theorem Fy {l:PySem.W.OpenLaw}{n k:Nat}{q:Program}{loose:List Str}{XP:(Str->Option Value)->Heap->Prop}{YP:World->Heap->Prop}{d:DefRec}{K:Params->Frag}{CX:World->oX}{sp:World->Sp}{x:Str}
  (hn:l.most=some n) (Dt:n <= sizeLine) (Ko:d.params.defaults=[]) (hr:zN k callerA)
  (hY:∀ (w:World)(h:Heap),YP w h->(K w.params).In h)
  (F:∀ (w:World)(mg:Str->Option Value)(fa:Addr)(h:Heap),(K w.params).In h->h.Ns mainGlobals mg->mg d.name=some (.ref fa) ->
   ∃ fd:FuncData,(∀ (s:Shared)(u:Value),BindsTo s fd ⟨[u],[]⟩ [(x,u)]) /\
    ∀ base:Heap,(K w.params).In base->base.Ns mainGlobals mg->zE l.prog w (K w.params) mg base (CX w) k fa fd [x] (sp w))
  (Eo:∀ (w:World)(H:Hp)(a:Addr)(ns:List Int),ns.length <= n->zy H->zJ (K w.params) H a (ns.map V.int)->sp w [.ref a] H (fun v _=>v = .bl true) fun _ _ _=>False)
  (Qn:∀ (w:World)(H:Hp)(s:Shared)(e:Value)(s':Shared),CX w [] H s (fun _ _ _=>False) e s'->False) :
  PySem.W.WalkO q loose XP YP l.row.toRowW d [] (fun f vs=>PySem.call f vs):=by
 refine Vq.CJ hn Ko fun w s₀ s₁ mg mb fa o pm cd doc a vs ns G Y ho hd Dp hmg HP hints hlen hg=>?_
 have KX:=hY w _ Y
 obtain⟨fd,hb,hF⟩:=F w mg fa _ KX G.T.g hmg
 exact uv KX G.T.g G.T.b G.T.builtins G.T.nolimit hg HP hints (le_trans hlen Dt) hr hF hb (fun H hO hS=>Eo w H a ns hlen hO hS) fun H e s'=>Qn w H s₁ e s'
end L2
namespace L2
open PySem PySem.Spec PyProof.Rows
noncomputable def aF (s:Stmt)(j:Nat):Stmt:=match s with
 | .ClassDef _ _ _ body _ _ _ _ _ _ _=>body.getD j (.Pass ⟨0,0,0,0⟩)
 | _ => .Pass ⟨0,0,0,0⟩
noncomputable def bI (s:Stmt):Arguments:=match s with
 | .FunctionDef _ a _ _ _ _ _ _ _ _=>a
 | _=>{ posonlyargs:=[],args:=[],vararg:=none,kwonlyargs:=[],kw_defaults:=[],kwarg:=none,defaults:=[] }
noncomputable def aJ (s:Stmt):List Stmt:=match s with
 | .FunctionDef _ _ b _ _ _ _ _ _ _=>b
 | _=>[]
noncomputable def ai (s:Stmt):Scope:=match s with
 | .FunctionDef _ _ _ _ _ _ sc _ _ _=>sc
 | _=>{ kind := .function,names:=[],isGenerator:=false,isCoroutine:=false }
abbrev aG:oX:=fun _ _ _ _ _ _=>False
abbrev E0:XK:=fun _ _ _=>False
theorem aq {X:Cx}:dR aG X E0:=fun _ _ _ _ _ _ _ h=>h.elim
structure Ab (K:Frag)(x qual:Str)(st:Stmt)(f:Addr)(fd:FuncData):Prop where
 ex:∃ (oc:Value)(od:Option Addr)(kV doc pm:Value)(an:Option Addr)(cdv ct:Value)(Dv:Array (Option Value)),
  fd=fnOf x qual (bI st) (aJ st) (ai st) .none kV doc pm an cdv ct/\K.lookup f=some ⟨oc,od, .func fd,Dv⟩/\codeIn K cdv qual=true
 kp:keepIn K (.ref f)=true
section
variable {P:Program}{w:World}{K:Frag}{mg:Str->Option Value}{base:Heap}
theorem Ab.ok {x qual:Str}{st:Stmt}{f:Addr}{fd:FuncData}{N ps:List Str}{k:Nat}{sp:Sp}(F:Ab K x qual st f fd)(S:am N ps (ai st))(len:∀ vs H Q E,sp vs H Q E->vs.length=ps.length)
  (BJ:∀ (cdv:Value)(A:Around)(outer:List Env)(s:Shared)(H:Hp)(vs:List V)(Q:VK)(E:XK),zN k (A.deeper (envOfC qual (ai st) s.heap.objs.size f cdv))->sp vs H Q E ->
   ∃ t,Dn (iI aG P w K mg base N qual (ai st) f cdv A outer s H E).NU (aJ st) t/\t { nx:=fun _ H'=>Q .zT H',rt:=Q } (start N vs) H):zE P w K mg base aG (k + 1) f fd ps sp:=by
 obtain⟨oc,od,kV,doc,pm,an,cdv,ct,Dv,rfl,lk,Dp⟩:=F.ex
 refine uA lk Dp S len fun A outer s H vs Q E hr Eo=>?_
 obtain⟨t,h,q⟩:=BJ cdv A outer s H vs Q E hr Eo
 exact⟨t,h.NU,q⟩
theorem Ab.binds {x qual:Str}{st:Stmt}{f:Addr}{fd:FuncData}{ps:List Str}(F:Ab K x qual st f fd)
  (h:∀ (kV doc pm:Value)(an:Option Addr)(cdv ct:Value)(us:List Value),us.length=ps.length->bindArgs (fnOf x qual (bI st) (aJ st) (ai st) .none kV doc pm an cdv ct) ⟨us,[]⟩ = pure (ps.zip us)):Binds K fd ps []:=by
 obtain⟨oc,od,kV,doc,pm,an,cdv,ct,Dv,rfl,lk,Dp⟩:=F.ex
 exact .all (h kV doc pm an cdv ct)
theorem jB {x qual:Str}{st:Stmt}{f:Addr}{oc:Value}{od an:Option Addr}{Dv:Array (Option Value)}{kV doc pm cdv ct:Value}(l:K.lookup f=some ⟨oc,od, .func (fnOf x qual (bI st) (aJ st) (ai st) .none kV doc pm an cdv ct),Dv⟩)
  (c:codeIn K cdv qual=true) (k:keepIn K (.ref f)=true):Ab K x qual st f (fnOf x qual (bI st) (aJ st) (ai st) .none kV doc pm an cdv ct):=⟨⟨oc,od,kV,doc,pm,an,cdv,ct,Dv,rfl,l,c⟩,k⟩
end
theorem k9 {A:Around}{k:Nat}(hr:zN k A):A.units + 1 < cLine:=lt_of_le_of_lt (Nat.add_le_add_left (by decide:1 <= 64) _) hr.units
section
variable {X:Cx}
theorem pv (i:Nat){x:Str}{pos:Pos}(hN:X.N[i]? = some x:=by rfl)(hv:NO X.env.scope x:=by first | exact Or.inl rfl | exact Or.inr (Or.inl rfl) | exact Or.inr (Or.inr rfl))(hd:(x == ("__debug__":Str))=false:=by decide)
  (Dp:(x == ("__classdict__":Str))=false:=by decide):PE X (.Name x pos) (qt i):=yo hN hv hd Dp
end
theorem aD {A B:Prop}(h:B):if false=true then A else B:=by
 rw[if_neg Bool.false_ne_true]
 exact h
theorem aH {A B:Prop}(h:A):if true=true then A else B:=by
 rw[if_pos rfl]
 exact h
theorem Qq {c A B:Prop} [Decidable c] (h1:c->A) (h2:¬ c->B):if c then A else B:=by
 by_cases h:c
 ·rw[if_pos h]
  exact h1 h
 ·rw[if_neg h]
  exact h2 h
noncomputable def zD (H H':Hp):Prop:=∀ b o,H b=some o->H' b=some o
theorem zD.refl (H:Hp):zD H H:=fun _ _ h=>h
theorem zD.trans {H H1 H2:Hp}(a:zD H H1)(b:zD H1 H2):zD H H2:=fun c o h=>b c o (a c o h)
theorem zD.free {H H':Hp}(e:zD H H'){l:Addr}(h:H' l=Option.none):H l=Option.none:=by
 cases q:H l with
 | none=>rfl
 | some o =>
  rw[e l o q]at h
  cases h
theorem zD.seq {K:Frag}{H H':Hp}{a:Addr}{xs:List V}(e:zD H H')(h:zJ K H a xs):zJ K H' a xs:=by
 rcases h with (h | ⟨o,h⟩) | h
 ·exact .inl (.inl (e _ _ h))
 ·exact .inl (.inr ⟨o,e _ _ h⟩)
 ·exact .inr h
end L2
namespace Yd
open PySem
noncomputable def oW (a:Array Nat):Prop:=∀ i j:Nat,i < j->j < a.size->a.getD i 0 < a.getD j 0
theorem mP {a:Array Nat}{i d e:Nat}(h:i < a.size):a.getD i d=a.getD i e:=by
 simp[Array.getD,h]
theorem uT {xs:Array Nat}{j:Nat}(hr:oW xs):∀ (fuel lo hi:Nat),hi - lo <= fuel->lo <= hi->hi <= xs.size ->
  (∀ i,i < lo->xs.getD i 0 < j)->(∀ i,hi <= i->i < xs.size->j <= xs.getD i 0) ->
  (SetTable.below.go xs j fuel lo hi <= xs.size/\(∀ i,i < SetTable.below.go xs j fuel lo hi->xs.getD i 0 < j) /\
   (∀ i,SetTable.below.go xs j fuel lo hi <= i->i < xs.size->j <= xs.getD i 0)):=by
 intro fuel
 induction fuel with
 | zero =>
  intro lo hi hf hle hs h1 h2
  have e:lo=hi:=by omega
  subst e
  exact⟨hs,h1,h2⟩
 | succ f ih =>
  intro lo hi hf hle hs h1 h2
  unfold SetTable.below.go
  by_cases Ae:lo < hi
  ·rw[if_pos Ae]
   simp only[]
   have Vs:(lo + hi) / 2 < hi:=by omega
   have hm0:lo <= (lo + hi) / 2:=by omega
   have FZ:(lo + hi) / 2 < xs.size:=by omega
   by_cases hc:xs.getD ((lo + hi) / 2) j < j
   ·rw[if_pos hc]
    refine ih _ _ (by omega) (by omega) hs (fun i Kq=>?_) h2
    rw[mP FZ (e:=0)]at hc
    by_cases e:i=(lo + hi) / 2
    ·rw[e];exact hc
    ·exact lt_trans (hr i _ (by omega) FZ) hc
   ·rw[if_neg hc]
    refine ih _ _ (by omega) hm0 (by omega) h1 (fun i Kq hi2=>?_)
    rw[mP FZ (e:=0)]at hc
    by_cases e:i=(lo + hi) / 2
    ·rw[e];omega
    ·have:=hr _ i (show(lo + hi) / 2 < i by omega) hi2
     omega
  ·rw[if_neg Ae]
   have e:lo=hi:=by omega
   subst e
   exact⟨hs,h1,h2⟩
theorem uS {xs:Array Nat}(hr:oW xs)(j:Nat):SetTable.below xs j <= xs.size/\(∀ i,i < SetTable.below xs j->xs.getD i 0 < j) /\
  (∀ i,SetTable.below xs j <= i->i < xs.size->j <= xs.getD i 0) :=
 uT hr xs.size 0 xs.size (by omega) (zero_le _) (Nat.le_refl _) (fun i h=>absurd h (not_lt_zero _)) (fun i h1 h2=>by omega)
theorem gj {α:Type}(xs:Array α)(p:Nat)(x:α)(hp:p <= xs.size):(SetTable.insertAt xs p x).size=xs.size + 1:=by
 unfold SetTable.insertAt
 simp only[Array.size_append,Array.size_push,Array.size_extract]
 omega
theorem ig (xs:Array Nat)(p x:Nat)(hp:p <= xs.size)(i:Nat)(hi:i < xs.size + 1) :
  (SetTable.insertAt xs p x).getD i 0=if i < p then xs.getD i 0 else if i=p then x else xs.getD (i - 1) 0:=by
 have hs:=gj xs p x hp
 have e1:((xs.extract 0 p).push x).size=p + 1:=by simp only[Array.size_push,Array.size_extract];omega
 unfold SetTable.insertAt
 simp only[Array.getD_eq_getD_getElem?]
 by_cases h1:i < p
 ·rw[if_pos h1,Array.getElem?_append_left (by omega),Array.getElem?_push_lt (by simp only[Array.size_extract];omega)]
  simp only[Array.getElem_extract,Nat.zero_add]
  rw[Array.getElem?_eq_getElem (by omega)]
 ·rw[if_neg h1]
  by_cases h2:i=p
  ·rw[if_pos h2,Array.getElem?_append_left (by omega)]
   have e2:(xs.extract 0 p).size=i:=by simp only[Array.size_extract];omega
   rw[← e2,Array.getElem?_push_size]
   rfl
  ·rw[if_neg h2,Array.getElem?_append_right (by omega),e1,Array.getElem?_extract]
   rw[if_pos (by omega)]
   have e3:p + (i - (p + 1))=i - 1:=by omega
   rw[e3]
theorem lU {xs:Array Nat}(hr:oW xs){j:Nat}(hn:xs[SetTable.below xs j]? ≠ some j):oW (SetTable.insertAt xs (SetTable.below xs j) j):=by
 obtain⟨h0,h1,h2⟩:=uS hr j
 intro a b Ep hb
 rw[gj _ _ _ h0]at hb
 rw[ig _ _ _ h0 a (by omega),ig _ _ _ h0 b hb]
 have BV:∀ i,SetTable.below xs j <= i->i < xs.size->j < xs.getD i 0:=fun i q1 q2=>by
  have hge:=h2 i q1 q2
  by_cases e:i=SetTable.below xs j
  ·have:xs.getD i 0 ≠ j:=fun z=>hn (by
    rw[← e,Array.getElem?_eq_getElem q2]
    rw[Array.getD_eq_getD_getElem?,Array.getElem?_eq_getElem q2]at z
    exact congrArg some z)
   omega
  ·have Ae:SetTable.below xs j < i:=by omega
   have:=hr _ i Ae q2
   have:=h2 _ (Nat.le_refl _) (lt_trans Ae q2)
   omega
 generalize SetTable.below xs j=p at h0 h1 h2 hn BV
 by_cases c1:a < p
 ·rw[if_pos c1]
  by_cases c2:b < p
  ·rw[if_pos c2];exact hr a b Ep (by omega)
  ·rw[if_neg c2]
   by_cases c3:b=p
   ·rw[if_pos c3];exact h1 a c1
   ·rw[if_neg c3];exact hr a (b - 1) (by omega) (by omega)
 ·rw[if_neg c1]
  have c2:¬ b < p:=by omega
  have c3:¬ b=p:=by omega
  rw[if_neg c2,if_neg c3]
  by_cases c4:a=p
  ·rw[if_pos c4];exact BV (b - 1) (by omega) (by omega)
  ·rw[if_neg c4];exact hr (a - 1) (b - 1) (by omega) (by omega)
structure eA (L:Bool)(t:SetTable):Prop where
 led:t.led=L
 Qr:t.dummies = #[]
 rise:oW t.place
theorem qo (L:Bool)(f m:Nat):eA L (SetTable.fresh f m L):=⟨rfl,rfl,fun i j _ h=>absurd (show j < 0 from h) (not_lt_zero _)⟩
theorem ot (n:Nat):oW (Array.range n):=by
 intro i j Jj hj
 have Fz:j < n:=by simpa using hj
 simp only[Array.getD_eq_getD_getElem?]
 rw[Array.getElem?_eq_getElem (by simp;omega),Array.getElem?_eq_getElem (by simpa using hj)]
 simp only[Array.getElem_range,Option.getD_some]
 exact Jj
theorem dF {L:Bool}{t:SetTable}(h:eA L t)(n:Nat):eA L (t.standIn n):=⟨h.led,rfl,ot n⟩
theorem xy {L:Bool}{t:SetTable}(h:eA L t)(n:Nat):eA L (t.orStandIn n):=by
 unfold SetTable.orStandIn
 split
 ·exact h
 ·exact dF h n
theorem mK (j:Nat):SetTable.has #[] j=false:=by simp[SetTable.has]
theorem nR {t:SetTable}(hd:t.dummies = #[])(j:Nat):t.slot j = .empty∨∃ i,t.slot j = .live i:=by
 unfold SetTable.slot
 simp only[]
 split
 ·exact .inr ⟨_,rfl⟩
 ·rw[hd,mK]
  exact .inl rfl
theorem qw {t:SetTable}{j:Nat}(h:t.slot j = .empty):t.place[SetTable.below t.place j]? ≠ some j:=by
 unfold SetTable.slot at h
 simp only[]at h
 intro z
 rw[if_pos (by rw[z];exact beq_self_eq_true _)]at h
 cases h
theorem t8 {t:SetTable}(hd:t.dummies = #[])(ha:Nat->Int)(h:Int):∀ (fuel:Nat)(p:SetTable.Probe)(j:Nat)(d:Option Nat),p.dummy=none ->
  SetTable.probe.go t ha h fuel p=some (.empty j d)->d=none/\t.slot j = .empty:=by
 intro fuel
 induction fuel with
 | zero=>intro p j d _ e;cases e
 | succ f ih =>
  intro p j d hp e
  unfold SetTable.probe.go at e
  have adv:∀ q:SetTable.Probe,q.dummy=none->(t.advance q).dummy=none:=fun q hq=>by
   unfold SetTable.advance
   split
   ·exact hq
   ·exact hq
  rcases nR hd p.j with hs | ⟨i,hs⟩
  ·rw[hs]at e
   simp only[Option.some.injEq,SetTable.Met.empty.injEq]at e
   obtain⟨rfl,rfl⟩:=e
   exact⟨hp,hs⟩
  ·rw[hs]at e
   simp only[]at e
   split at e
   ·cases e
   ·exact ih _ j d (adv p hp) e
theorem nI {L:Bool}{t:SetTable}(ht:eA L t)(es:Array (Int × Value))(h:Int)(x:Value):eA L (layNew t es h x).2.1:=by
 unfold layNew
 cases e:t.freeSlot h with
 | none=>exact dF ht _
 | some r =>
  obtain⟨slot,wd⟩:=r
  simp only[]
  refine xy ?_ _
  unfold SetTable.freeSlot at e
  split at e
  ·rename_i j dm hp
   obtain⟨rfl,hs⟩:=t8 ht.Qr _ _ _ _ _ _ rfl hp
   simp only[Option.getD_none,Option.isSome_none,Option.some.injEq,Prod.mk.injEq]at e
   obtain⟨rfl,rfl⟩:=e
   refine⟨ht.led,?_,lU ht.rise (qw hs)⟩
   show(if SetTable.has t.dummies j then SetTable.eraseAt t.dummies (SetTable.below t.dummies j) else t.dummies) = #[]
   rw[ht.Qr,mK]
   rfl
  ·cases e
theorem q5 (f:Nat->Option Nat):∀ n,oW ((((List.range n).filterMap fun j=>(f j).map (j,·)).map (·.1)).toArray):=by
 intro n
 have key:(((List.range n).filterMap fun j=>(f j).map (j,·)).map (·.1)).Pairwise (· < ·):=by
  have hp:(List.range n).Pairwise (· < ·):=pairwise_lt_range
  rw[List.pairwise_map]
  refine List.Pairwise.filterMap (R:=(· < ·)) _ (fun a a' Ae b hb b' Bd=>?_) hp
  cases e:f a with
  | none=>rw[e]at hb;cases hb
  | some u =>
   rw[e]at hb
   cases e':f a' with
   | none=>rw[e']at Bd;cases Bd
   | some u' =>
    rw[e']at Bd
    simp only[Option.map_some,Option.some.injEq]at hb Bd
    subst hb
    subst Bd
    exact Ae
 intro i j Jj hj
 have Fz:j < (((List.range n).filterMap fun j=>(f j).map (j,·)).map (·.1)).length:=by simpa using hj
 have:=(pairwise_iff_getElem.mp key) i j (by omega) Fz Jj
 simp only[Array.getD_eq_getD_getElem?,List.getElem?_toArray]
 rw[List.getElem?_eq_getElem (by omega),List.getElem?_eq_getElem Fz]
 simpa using this
theorem kN {L:Bool}{t:SetTable}(ht:eA L t)(es:Array (Int × Value))(n:Nat):eA L (relayAll t es n).2.1:=by
 unfold relayAll
 cases e:t.relaid (es.map (·.1)) n with
 | none=>exact dF ht _
 | some r =>
  obtain⟨t',order⟩:=r
  simp only[]
  split
  ·unfold SetTable.relaid SetTable.laid at e
   cases e2:SetTable.layClean (SetTable.sizeAbove n - 1) (es.map (·.1)) with
   | none=>rw[e2]at e;cases e
   | some owner =>
    rw[e2]at e
    simp only[Option.bind_eq_bind,Option.bind_some,pure,Option.some.injEq,Prod.mk.injEq]at e
    obtain⟨rfl,_⟩:=e
    exact⟨ht.led,rfl,q5 (fun j=>owner.getD j none) _⟩
  ·exact dF ht _
noncomputable def m7:Value->Int
 | .int i _=>i
 | _=>0
noncomputable def numsOf (l:List (Int × Value)):List Int:=l.map fun e=>m7 e.2
theorem m6 {k:Int}{v:Value}(h:Value.isInt k v=true):m7 v=k:=by
 obtain⟨t,rfl⟩:=Value.isInt_shape h
 rfl
section
variable {prog:Program}{w:World}{A:Around}{E:Value->Shared->Prop}{s:Shared}
noncomputable def BY (prog:Program)(w:World)(h:Heap)(a:Addr)(L:Bool)(pre:List Int):Prop :=
 ∃ es ep t,h.get? a=some { cls := .type "set",data := .set es ep t }/\ElemsOf (intKind prog w) es.toList/\es.size <= pre.length/\t.fits es.size=true/\eA L t/\(numsOf es.toList).Nodup/\∀ k,k ∈ numsOf es.toList↔k ∈ pre
theorem yY {l:List (Int × Value)}(h:ElemsOf (intKind prog w) l){e:Int × Value}(he:e ∈ l){k:Int}:(intKind prog w).is k e.2=decide (m7 e.2=k):=by
 obtain⟨⟨k',Gj,_⟩,_⟩:=h e he
 have e1:=m6 Gj
 rw[KeyKind.is_eq_decide Gj k,e1]
 by_cases q:k=k'
 ·rw[decide_eq_true q,decide_eq_true q.symm]
 ·rw[decide_eq_false q,decide_eq_false fun z=>q z.symm]
theorem rP {h:Heap}{a:Addr}{es:Array (Int × Value)}{ep:Nat}{t:SetTable}(FW:Array (Int × Value))(t':SetTable)(ho:h.get? a=some { cls := .type "set",data := .set es ep t }) :
  (h.update a (Obj.putSet FW t')).get? a=some { cls := .type "set",data := .set FW (ep + 1) t' } :=
 Heap.get?_update_self (Obj.putSet FW t') ho rfl
theorem sE {a:Addr}{L:Bool}{pre:List Int}{k:Int}{tk:Tok}{Q:Bool->Shared->Prop}(hS:BY prog w s.heap a L pre)(Vt:pre.length + 1 < scanBound)
  (h:∀ b h',Heap.SameBut a s.heap h'->BY prog w h' a L (pre ++ [k])->Q b { s with heap:=h' }):wpAny (model prog w) A (setAddHashed a (.int k tk) (hashInt k)) Q E s:=by
 obtain⟨es,ep,t,ho,DG,hsz,hf,ht,Jk,CK⟩:=hS
 have hb:es.size < scanBound:=by omega
 unfold setAddHashed setAddHashedIn
 refine wpAny_holding (wpAny_bind (wpAny_setState_of ho rfl hf ?_))
 dsimp only
 rw[byScan_of (knd:=intKind prog w) (x := .int k tk) rfl hb DG]
 simp only[↓reduceIte]
 unfold setAddByScan
 refine wpAny_bind (wpAny_bind (wpAny_rule (wpAny_bind (wpAny_setScan_of (knd:=intKind prog w) (k:=k) (intKind_is _ _ _ _) ho rfl hf DG ?_))))
 cases hr:List.findIdx? (fun e=>(intKind prog w).is k e.2) es.toList with
 | some j =>
  dsimp only
  obtain⟨hj,hpj,_⟩:=List.findIdx?_eq_some_iff_getElem.mp hr
  refine wpAny_pure (wpAny_pure ?_)
  have hk:k ∈ numsOf es.toList:=mem_map.mpr ⟨es.toList[j],getElem_mem hj,m6 hpj⟩
  refine h false s.heap (Heap.SameBut.refl a s.heap) ⟨es,ep,t,ho,DG,by rw[length_append];omega,hf,ht,Jk,fun n=>?_⟩
  rw[CK n,mem_append,mem_singleton]
  exact⟨.inl,fun z=>z.elim id fun e=>e ▸ (CK k).mp hk⟩
 | none =>
  dsimp only
  have hk:¬ k ∈ numsOf es.toList:=fun z=>by
   obtain⟨e,he,hn⟩:=mem_map.mp z
   have q:=List.findIdx?_eq_none_iff.mp hr e he
   rw[yY DG he,decide_eq_true hn]at q
   exact Bool.noConfusion q
  have Cj:=layNew_perm t es (hashInt k) (.int k tk)
  have CL:=layNew_fits t es (hashInt k) (.int k tk)
  have E7:=nI ht es (hashInt k) (.int k tk)
  generalize layNew t es (hashInt k) (.int k tk)=lay at Cj CL E7 ⊢
  obtain⟨Bm,t1,wd,gave⟩:=lay
  dsimp only at Cj CL E7 ⊢
  rw[Array.toList_push]at Cj
  have Kr:ElemsOf (intKind prog w) Bm.toList:=(DG.push (k:=k) (x := .int k tk) (intKind_is _ _ _ _) rfl).perm Cj
  have Ks:(numsOf Bm.toList).Perm (numsOf es.toList ++ [k]):=by
   have:=Cj.map fun e:Int × Value=>m7 e.2
   rwa [map_append]at this
  have hs1:Bm.size=es.size + 1:=by rw[← Array.length_toList,Cj.length_eq,length_append,Array.length_toList];rfl
  have Gq:(numsOf Bm.toList).Nodup:=Ks.nodup_iff.mpr (nodup_append.mpr ⟨Jk,by simp,fun x hx y hy=>by
   have e:y=k:=by simpa using hy
   intro z
   rw[e]at z
   exact hk (z ▸ hx)⟩)
  have Kt:∀ n,n ∈ numsOf Bm.toList↔n ∈ pre ++ [k]:=fun n=>by
   rw[Ks.mem_iff,mem_append,mem_append,CK n]
  have le1:Bm.size <= (pre ++ [k]).length:=by rw[length_append,length_singleton];omega
  have tail:∀ (g:Bool->Sem Unit),(∀ (b:Bool)(s1:Shared)(Q':Unit->Shared->Prop),Q' () s1->wpAny (model prog w) A (g b) Q' E s1)->∀ (t2:SetTable),t2.fits Bm.size=true->eA L t2 ->
    ∀ (R:Option Bool->Shared->Prop),(∀ h',Heap.SameBut a s.heap h'->BY prog w h' a L (pre ++ [k])->R (some true) { s with heap:=h' })->wpAny (model prog w) A (do
     storeSet a Bm t2
     if (!wd && t2.tooFull)=true then do
       g (relayAll t2 Bm (SetTable.grown Bm.size)).2.2
       storeSet a (relayAll t2 Bm (SetTable.grown Bm.size)).1 (relayAll t2 Bm (SetTable.grown Bm.size)).2.1
       pure (some true)
      else pure (some true)) R E s:=fun g gw t2 hf2 Er R hR=>by
   refine wpAny_bind (wpAny_storeSet_of ho rfl ?_ (fits_of_scanBound (by omega)))
   have BZ:=rP Bm t2 ho
   split
   ·refine wpAny_bind (gw _ _ _ ?_)
    have hp:=relayAll_perm t2 Bm (SetTable.grown Bm.size)
    have CM:=relayAll_fits t2 Bm (SetTable.grown Bm.size)
    have Qs:=kN Er Bm (SetTable.grown Bm.size)
    generalize relayAll t2 Bm (SetTable.grown Bm.size)=R at hp CM Qs ⊢
    obtain⟨Oe,t3,g3⟩:=R
    dsimp only at hp CM Qs ⊢
    have DF:Oe.size=Bm.size:=by rw[← Array.length_toList,hp.length_eq,Array.length_toList]
    have Dt:(numsOf Oe.toList).Perm (numsOf Bm.toList):=hp.map fun e:Int × Value=>m7 e.2
    refine wpAny_bind (wpAny_storeSet_of BZ rfl ?_ (fits_of_scanBound (by omega)))
    refine wpAny_pure (hR _ ((Heap.SameBut.update s.heap a (Obj.putSet Bm t2)).trans (Heap.SameBut.update _ a _)) ?_)
    exact⟨Oe,ep + 1 + 1,t3,rP Oe t3 BZ,Kr.perm hp,by omega,CM,Qs,Dt.nodup_iff.mpr Gq,fun n=>by rw[Dt.mem_iff,Kt n]⟩
   ·refine wpAny_pure (hR _ (Heap.SameBut.update s.heap a (Obj.putSet Bm t2)) ?_)
    exact⟨Bm,ep + 1,t2,BZ,Kr,le1,hf2,Er,Gq,Kt⟩
  have gw:∀ (b:Bool)(s1:Shared)(Q':Unit->Shared->Prop),Q' () s1->wpAny (model prog w) A (match b with | true=>rule "set.scan.the-table-gave-way" | false=>pure ()) Q' E s1:=fun b s1 Q' hq=>by
   cases b
   ·exact wpAny_pure hq
   ·exact wpAny_rule hq
  refine wpAny_bind (gw _ _ _ ?_)
  have off:∀ {t2:SetTable},eA L t2->eA L { t2 with plain:=false }:=fun z=>⟨z.led,z.Qr,z.rise⟩
  split
  ·refine wpAny_bind ?_
   rw[hashByValue_scannable 8 (show(Value.int k tk).scannable=true from rfl)]
   refine wpAny_pure ?_
   refine tail _ gw _ ?_ ?_ _ fun h' Df F0=>wpAny_pure (h true h' Df F0)
   ·split
    ·exact CL
    ·exact SetTable.fits_plain_off CL
   ·split
    ·exact E7
    ·exact off E7
  ·refine wpAny_bind (wpAny_pure ?_)
   simp only[↓reduceIte]
   exact tail _ gw _ CL E7 _ fun h' Df F0=>wpAny_pure (h true h' Df F0)
end
end Yd
namespace Yd
open PySem PyProof.Rows
section
variable {prog:Program}{w:World}{A:Around}{E:Value->Shared->Prop}{s:Shared}
theorem lH {I l a:Addr}{L:Bool}{items:Array Value}{ns:List Int}(hh:A.in1.handled=none)(Af:l ≠ I)(Qt:a ≠ I)(Qu:a ≠ l)(hi:IntsAre items.toList ns)(hb:ns.length + 1 < scanBound){R:Result->Shared->Prop} :
  ∀ (k i:Nat)(s:Shared),items.size - i=k->i <= items.size->s.heap.IsListIter I l i->s.heap.IsList l items->BY prog w s.heap a L (ns.take i) ->
   (∀ h' tk,(∀ b o,b ≠ a->b ≠ I->s.heap.get? b=some o->h'.get? b=some o)->BY prog w h' a L ns->R (.ok (.ret .none)) { s with heap:=h',toks:=tk }) ->
   codeAny (model prog w) A (.builtin "set.update.loop" ⟨[.ref a, .ref I],[]⟩) R s:=by
 have hlen:items.size=ns.length:=by rw[← hi.length,Array.length_toList]
 intro k
 induction k with
 | zero =>
  intro i s hk hle hit hl hS hR
  refine codeAny_builtin F.entry_set_update_loop ?_
  rw[Around.under_plainId F.plain_set_update_loop _]
  show wpAny _ A.in1 (pyNext (.ref I) >>= _) _ _ s
  have F1:i=ns.length:=by omega
  refine wpAny_bind (wpAny_pyNext_list_end hh hit hl (by simp;omega) fun h' he=>?_)
  show wpAny _ A.in1 (ret Value.none) _ _ _
  refine wpAny_pure (hR h' s.toks (fun b o _ hb e=>he b o hb e) ?_)
  rw[F1,take_length]at hS
  obtain⟨es,ep,t,ho,r⟩:=hS
  exact⟨es,ep,t,he a _ Qt ho,r⟩
 | succ k ih =>
  intro i s hk hle hit hl hS hR
  have Ae:i < items.size:=by omega
  refine codeAny_builtin F.entry_set_update_loop ?_
  rw[Around.under_plainId F.plain_set_update_loop _]
  show wpAny _ A.in1 (pyNext (.ref I) >>= _) _ _ s
  refine wpAny_bind (wpAny_pyNext_list_item hit hl (x:=items[i]) (by simp[Ae]) fun h1 Qv Df=>?_)
  obtain⟨t,hv⟩:=IntsAre.int_at hi i items[i] (by simp[Ae])
  rw[hv]
  show wpAny _ A.in1 (holding [Value.int (ns.getD i 0) t] (setAdd a (.int (ns.getD i 0) t)) >>= _) _ _ _
  refine wpAny_bind (wpAny_holding ?_)
  unfold setAdd
  refine wpAny_holding (wpAny_bind ((intKind prog w).pyHash (k:=ns.getD i 0) (intKind_is _ _ _ _) ?_))
  have Gu:BY prog w h1 a L (ns.take i):=by
   obtain⟨es,ep,t,ho,r⟩:=hS
   exact⟨es,ep,t,(Df.2 a Qt).trans ho,r⟩
  refine sE (s:={ s with heap:=h1,toks:=s.toks + 1 }) Gu (by rw[length_take];omega) fun b h2 HR CN=>?_
  refine wpAny_pure ⟨plainId_quiet F.plain_set_update_loop _,ih (i + 1) _ (by omega) Ae (Qv.at fun o e=>(HR.2 I (Ne.symm Qt)).trans e) ((hl.extBut Df.extBut Af).at fun o e=>(HR.2 l (Ne.symm Qu)).trans e) ?_ fun h' tk kp F0=>?_⟩
  ·have e:ns.take (i + 1)=ns.take i ++ [ns.getD i 0]:=by
    rw[take_succ,getD_eq_getElem?_getD,List.getElem?_eq_getElem (by omega)]
    rfl
   rw[e]
   exact CN
  ·exact hR h' tk (fun b o n1 n2 e=>kp b o n1 n2 ((HR.2 b n1).trans ((Df.2 b n2).trans e))) F0
theorem vm (a:Value){Q:Value->Shared->Prop}
  (h:Q (.ref s.heap.objs.size) { s with heap:=s.heap.push { cls := .type "set",dict:=none,data := .set #[] 0 (.fresh 0 0 (!w.params.followText "set-order")) } }) :
  codeAny (model prog w) A (.call (.builtin "set.__new__") ⟨[.type "set",a],[]⟩) (wants Q E) s:=by
 refine codeAny_of_tree ?_
 show wpAny _ A.in1 (do
  checkBuiltinCall "set.__new__" ⟨[.type "set",a],[]⟩
  again (.builtin "set.__new__" ⟨[.type "set",a],[]⟩)) _ _ s
 refine wpAny_bind (wpAny_of_eq (F.newCall_set_1 a) (wpAny_pure ⟨plainId_quiet F.plain_set_new _,codeAny_builtin F.entry_set_new ?_⟩))
 rw[Around.under_plainId F.plain_set_new _]
 unfold Builtin.«set.__new__» Builtin.Frozenset.newClass
 have F2:=sub_set_self
 obtain⟨hp,g,d,tk,os⟩:=s
 dsimp only
 wp_walk
 refine wpAny_askSetting (wpAny_pure ?_)
 dsimp only
 simp only[newObj]
 exact wpAny_bind (wpAny_alloc (wpAny_pure (wpAny_pure h)))
theorem DX {l:Addr}{items:Array Value}{ns:List Int}{Q:Value->Shared->Prop}(hh:A.handled=none)(hl:s.heap.IsList l items)(hi:IntsAre items.toList ns)(hb:ns.length + 1 < scanBound)
  (h:∀ (h':Heap)(tk:Nat),BY prog w h' s.heap.objs.size (!w.params.followText "set-order") ns->(∀ b o,s.heap.get? b=some o->h'.get? b=some o)->Q (.ref s.heap.objs.size) { s with heap:=h',toks:=tk }) :
  wpAny (model prog w) A (call (.type "set") [.ref l]) Q E s:=by
 obtain⟨c,tl,hmro⟩:=F.called_set.mro
 have Ck:=F.called_set.made
 have F2:=F.called_set.sub
 refine wpAny_call (codeAny_of_tree ?_)
 show wpAny _ _ (callAny (.type "set") _) _ _ _
 refine wpAny_pure ⟨Code.quiet_builtin _ (by decide +kernel),codeAny_builtin F.entry_type_call ?_⟩
 rw[Around.under_plain (weight_type_call_type "set" [.ref l] []) rfl]
 have h1:=F.called_set.notType
 have h2:=F.called_set.canCreate
 have hct:=F.typeCall_set_1 (.ref l)
 repeat (any_goals (first | assumption | wp_step))
 refine codeAny_mono (vm (.ref l) (E:=E) (Q:=fun obj s1=>obj = .ref s.heap.objs.size/\s1 = { s with heap:=s.heap.push { cls := .type "set",dict:=none,data := .set #[] 0 (.fresh 0 0 (!w.params.followText "set-order")) } }) ⟨rfl,rfl⟩) fun r s1 hr=>?_
 cases r with
 | error e=>exact hr
 | ok fl =>
  cases fl with
  | ret obj =>
   obtain⟨rfl,rfl⟩:=hr
   generalize hH:s.heap.push { cls := .type "set",dict:=none,data := .set #[] 0 (.fresh 0 0 (!w.params.followText "set-order")) } = H1
   have hS:H1.get? s.heap.objs.size=some { cls := .type "set",data := .set #[] 0 (.fresh 0 0 (!w.params.followText "set-order")) }:=hH ▸ Heap.get?_push_size _ rfl
   have hT:Shared.TypeIs { s with heap:=H1 } (.ref s.heap.objs.size) "set":=⟨_,hS,rfl⟩
   have Cm:=F.called_set.init.lookup
   have hbi:=F.called_set.init.bind (.ref s.heap.objs.size)
   have Vu:∀ b o,s.heap.get? b=some o->H1.get? b=some o:=fun b o e=>hH ▸ Heap.get?_push_of_some _ e
   repeat (any_goals (first | assumption | wp_step))
   refine codeAny_mono (codeAny_call_builtin (R:=wants (fun r s2=>r = .none/\∃ h' tk,s2 = { s with heap:=h',toks:=tk }/\BY prog w h' s.heap.objs.size (!w.params.followText "set-order") ns /\
     (∀ b o,s.heap.get? b=some o->h'.get? b=some o)) E) F.called_set.init.plain F.entry_set_init (check_set_init_1 hT ?_)) fun r2 s2 AB=>?_
   ·have HS:H1.IsList l items:=hl.at fun o e=>Vu l o e
    obtain⟨ol,Gv,Dg,nl,Gz⟩:=id HS
    have Vv:l < s.heap.objs.size:=by obtain⟨o,e,_⟩:=hl;exact lt_size e
    obtain⟨ocls,Vw,Vx,Qw⟩:=ol
    simp only at Dg Gz
    subst Dg;subst Gz
    have hsls:=F.sub_list_set
    have hslf:=F.sub_list_frozenset
    have Af:(Value.type "list" == Value.type "dict")=false:=by decide
    unfold Builtin.«set.__init__» noKeywords Builtin.Frozenset.updateFrom
    generalize hPI:pyIter=PI
    wp_walk
    subst hPI
    refine wpAny_pyIter_list HS (wpAny_bind (wpAny_runValue ?_))
    have HU:H1.objs.size=s.heap.objs.size + 1:=by rw[← hH,size_push]
    have n1:l ≠ H1.objs.size:=by rw[HU];exact ne_of_lt (lt_succ_of_lt Vv)
    have n2:s.heap.objs.size ≠ H1.objs.size:=by rw[HU];exact ne_of_lt (lt_succ_self _)
    refine lH (I:=H1.objs.size) (l:=l) (a:=s.heap.objs.size) (L:=!w.params.followText "set-order") (by simp[hh]) n1 n2 (ne_of_gt Vv) hi hb (items.size - 0) 0 _ rfl (zero_le _) ⟨_,Heap.get?_push_size _ rfl,rfl,rfl⟩ (HS.push _) ?_ fun h' tk kp F0=>?_
    ·rw[List.take_zero]
     exact⟨#[],0,_,Heap.get?_push_of_some _ hS,fun e he=>by simp at he,Nat.le_refl _,by rfl,qo _ 0 0,by simp[numsOf],fun k=>by simp[numsOf]⟩
    ·show wpAny _ _ _ _ _ _
     refine wpAny_pure ?_
     show wpAny _ _ (ret Value.none) _ _ _
     refine wpAny_pure ⟨rfl,h',tk,rfl,F0,fun b o e=>?_⟩
     have:=lt_size e
     exact kp b o (ne_of_lt this) (by rw[HU];exact ne_of_lt (lt_succ_of_lt this)) (Heap.get?_push_of_some _ (Vu b o e))
   ·cases r2 with
    | error e=>exact AB
    | ok fl2 =>
     cases fl2 with
     | ret r =>
      obtain⟨rfl,h',tk,rfl,F0,Gj⟩:=AB
      repeat (any_goals (first | assumption | wp_step))
      exact h _ _ F0 Gj
     | _=>exact AB.elim
  | _=>exact hr.elim
end
end Yd
namespace Yd
open PySem PyProof.Rows
section
variable {prog:Program}{w:World}{M:Model}{A:Around}{E:Value->Shared->Prop}{s:Shared}
end
section
variable {prog:Program}{w:World}{A:Around}{E:Value->Shared->Prop}{s:Shared}{it a:Addr}{es:Array (Int × Value)}{ep:Nat}{t:SetTable}{ord:List Value}{i:Nat}
end
end Yd
namespace Yd
open PySem PyProof.Rows
section
variable {prog:Program}{w:World}{A:Around}{E:Value->Shared->Prop}{s:Shared}{it a D:Addr}{es:Array (Int × Value)}{ep:Nat}{t:SetTable}{ord:List Value}{i:Nat}
end
end Yd
namespace Yd
open PySem
theorem oR (a b:Nat):Builtin.bitAnd (a:Int) (b:Int)=((a &&& b:Nat):Int):=by
 unfold Builtin.bitAnd
 simp
theorem cX (x:Int):Builtin.bitNot x = -x - 1:=by
 unfold Builtin.bitNot
 omega
theorem DY (a b:Nat):Builtin.bitOr (a:Int) (b:Int)=((a ||| b:Nat):Int):=by
 unfold Builtin.bitOr
 have h1:Builtin.bitNot (a:Int) = -(a:Int) - 1:=cX _
 have h2:Builtin.bitNot (b:Int) = -(b:Int) - 1:=cX _
 unfold Builtin.bitAnd
 rw[h1,h2]
 have e1:decide (0 <= -(a:Int) - 1)=false:=decide_eq_false (by omega)
 have e2:decide (0 <= -(b:Int) - 1)=false:=decide_eq_false (by omega)
 rw[e1,e2]
 simp only[]
 have e3:Builtin.bitNot (-(a:Int) - 1)=a:=by rw[cX];omega
 have e4:Builtin.bitNot (-(b:Int) - 1)=b:=by rw[cX];omega
 rw[e3,e4]
 simp only[toNat_natCast]
 rw[cX,cX]
 omega
noncomputable def Ai:List Nat->Nat->Nat
 | [],s=>s
 | n :: r,s=>Ai r (s ||| 2 ^ n)
theorem AL (k:Nat):∀ (l:List Nat)(s:Nat),(Ai l s).testBit k=(s.testBit k || decide (k ∈ l))
 | [],s=>by simp[Ai]
 | n :: r,s=>by
  unfold Ai
  rw[AL k r]
  rw[Nat.testBit_or,Nat.testBit_two_pow]
  by_cases h:n=k
  ·subst h;simp
  ·have:¬ k=n:=fun z=>h z.symm
   simp[h,this]
theorem E8 (l r:List Nat)(s:Nat):Ai (l ++ r) s=Ai r (Ai l s):=by
 induction l generalizing s with
 | nil=>rfl
 | cons n t ih=>exact ih _
noncomputable def jQ (l:List Nat):Nat->Nat
 | 0=>0
 | n + 1=>if n ∈ l then jQ l n + 2 ^ n else jQ l n
theorem Cy (l:List Nat):∀ n,jQ l n < 2 ^ n
 | 0=>by simp[jQ]
 | n + 1=>by
  have:=Cy l n
  unfold jQ
  rw[Nat.pow_succ]
  split<;>omega
theorem mS (l:List Nat)(k:Nat):∀ n,(jQ l n).testBit k=decide (k < n/\k ∈ l)
 | 0=>by simp[jQ]
 | n + 1=>by
  have ih:=mS l k n
  have Ae:=Cy l n
  unfold jQ
  by_cases hn:n ∈ l
  ·rw[if_pos hn,Nat.add_comm]
   rcases Nat.lt_trichotomy k n with h | h | h
   ·rw[Nat.testBit_two_pow_add_gt h,ih]
    simp[h,lt_succ_of_lt h]
   ·subst h
    rw[Nat.testBit_two_pow_add_eq,testBit_lt_two_pow Ae]
    simp[hn]
   ·have hb:2 ^ n + jQ l n < 2 ^ k:=by
     have:2 ^ (n + 1) <= 2 ^ k:=pow_le_pow_right (by decide) h
     rw[Nat.pow_succ]at this
     omega
    rw[testBit_lt_two_pow hb]
    have:¬ k < n + 1:=by omega
    simp[this]
  ·rw[if_neg hn,ih]
   by_cases h:k=n
   ·subst h;simp[hn]
   ·have:k < n↔k < n + 1:=by omega
    simp[this]
theorem F3 {l:List Nat}{n:Nat}(h:∀ k ∈ l,k < n):jQ l n=Ai l 0:=by
 apply Nat.eq_of_testBit_eq
 intro k
 rw[mS,AL]
 by_cases hk:k ∈ l
 ·simp[hk,h k hk]
 ·simp[hk]
noncomputable def D1 (m b:Nat):List Nat:=(List.range b).filter fun k=>m.testBit k
theorem CO {m b k:Nat}(h:m < 2 ^ b):k ∈ D1 m b↔m.testBit k=true:=by
 unfold D1
 rw[mem_filter,mem_range]
 constructor
 ·exact fun z=>z.2
 ·intro z
  refine⟨?_,z⟩
  by_cases hk:k < b
  ·exact hk
  ·have:m < 2 ^ k:=lt_of_lt_of_le h (pow_le_pow_right (by decide) (by omega))
   rw[testBit_lt_two_pow this]at z
   cases z
theorem DZ (m b:Nat):(D1 m b).Pairwise (· < ·):=List.Pairwise.filter _ pairwise_lt_range
theorem CP:∀ {l r:List Int},l.Pairwise (· < ·)->r.Pairwise (· < ·)->(∀ k,k ∈ l↔k ∈ r)->l=r
 | [],[],_,_,_=>rfl
 | [],y :: r,_,_,h=>by
  have:=(h y).mpr mem_cons_self
  cases this
 | x :: l,[],_,_,h=>by
  have:=(h x).mp mem_cons_self
  cases this
 | x :: l,y :: r,hl,hr,h=>by
  obtain⟨hx,Ea⟩:=pairwise_cons.mp hl
  obtain⟨hy,G0⟩:=pairwise_cons.mp hr
  have e:x=y:=by
   rcases mem_cons.mp ((h x).mp mem_cons_self) with z | z
   ·exact z
   ·rcases mem_cons.mp ((h y).mpr mem_cons_self) with z' | z'
    ·exact z'.symm
    ·have:=hx y z'
     have:=hy x z
     omega
  subst e
  congr 1
  refine CP Ea G0 fun k=>?_
  constructor
  ·intro z
   rcases mem_cons.mp ((h k).mp (mem_cons_of_mem _ z)) with q | q
   ·have:=hx k z;omega
   ·exact q
  ·intro z
   rcases mem_cons.mp ((h k).mpr (mem_cons_of_mem _ z)) with q | q
   ·have:=hy k z;omega
   ·exact q
theorem DH (m:Nat):m < 2 ^ (Builtin.Int.intBits (m:Int)):=by
 unfold Builtin.Int.intBits
 by_cases h:m=0
 ·subst h;simp
 ·have e:((m:Int) == 0)=false:=by simp[h]
  rw[e]
  simp only[Bool.false_eq_true,if_false,Int.natAbs_natCast]
  exact Nat.lt_log2_self
theorem bits_le {m b:Nat}(h:m < 2 ^ b):Builtin.Int.intBits (m:Int) <= b:=by
 unfold Builtin.Int.intBits
 by_cases h0:m=0
 ·subst h0;simp
 ·have e:((m:Int) == 0)=false:=by simp[h0]
  rw[e]
  simp only[Bool.false_eq_true,if_false,Int.natAbs_natCast]
  have:=(Nat.log2_lt h0).mpr h
  omega
theorem DI (m k:Nat):decide (Builtin.bitAnd ((m:Int) / 2 ^ k) 1=1)=m.testBit k:=by
 have e:((m:Int) / 2 ^ k)=((m / 2 ^ k:Nat):Int):=by
  rw[Int.natCast_ediv,Int.natCast_pow]
  rfl
 rw[e,show (1:Int)=((1:Nat):Int) from rfl,oR,Nat.testBit_eq_decide_div_mod_eq]
 rw[Nat.and_one_is_mod]
 congr 1
 exact propext ⟨fun z=>by exact_mod_cast z,fun z=>by exact_mod_cast z⟩
end Yd
namespace L2
open PySem PySem.Spec PyProof.Rows
noncomputable def bX (cells:List (Str × Addr)):List (Str × NameKind)->List (Str × Addr)->List (Str × Addr)
 | [],acc=>acc
 | (n,k) :: r,acc=>if k == .free then bX cells r ((n,(cells.lookup n).getD 0) :: acc) else bX cells r acc
theorem gm {scope:Scope}{env:Env}(h:∀ y ∈ scope.names,y.2 = .free->∃ c,env.cells.lookup y.1=some c) :
  closureFor scope env=pure (bX env.cells scope.names []):=by
 unfold closureFor
 have key:∀ (names:List (Str × NameKind))(acc:List (Str × Addr)),(∀ y ∈ names,y.2 = .free->∃ c,env.cells.lookup y.1=some c) ->
   (forIn names acc fun (x:Str × NameKind)(cs:List (Str × Addr))=>(match x with
    | (name,kind)=>if (kind == NameKind.free)=true then do
      let c ← cellOf env name
      pure (ForInStep.yield ((name,c) :: cs))
     else pure (ForInStep.yield cs):Sem (ForInStep (List (Str × Addr)))))=(pure (bX env.cells names acc):Sem (List (Str × Addr))):=by
  intro names
  induction names with
  | nil=>intro acc _;rfl
  | cons y r ih =>
   intro acc hy
   obtain⟨n,k⟩:=y
   rw[List.forIn_cons]
   by_cases hk:(k == NameKind.free)=true
   ·obtain⟨c,hc⟩:=hy (n,k) mem_cons_self (by simpa using hk)
    have e1:cellOf env n=pure c:=by
     unfold cellOf
     simp only[]at hc
     rw[hc]
    simp only[hk,if_true,e1,pure_bind]
    rw[ih _ fun z hz=>hy z (mem_cons_of_mem _ hz)]
    unfold bX
    simp only[]at hc
    rw[if_pos hk,hc]
    conv=>rhs;unfold bX
    rfl
   ·simp only[hk,Bool.false_eq_true,if_false,pure_bind]
    rw[ih _ fun z hz=>hy z (mem_cons_of_mem _ hz)]
    conv=>rhs;unfold bX
    rw[if_neg hk]
 exact(congrArg (fun (m:Sem (List (Str × Addr)))=>m >>= fun z=>pure z) (key scope.names [] h)).trans (pure_bind _ _)
theorem dP {cells:List (Str × Addr)}{x:Str}{c:Addr}:∀ (names:List (Str × NameKind))(acc:List (Str × Addr)),(∀ y ∈ names,y.2 = .free->∃ c,cells.lookup y.1=some c) ->
  (∀ c,acc.lookup x=some c->cells.lookup x=some c)->(bX cells names acc).lookup x=some c->cells.lookup x=some c
 | [],acc,_,ha,e=>ha c e
 | (n,k) :: r,acc,hn,ha,e=>by
  unfold bX at e
  have hr:=fun z hz=>hn z (mem_cons_of_mem _ hz)
  split at e
  ·rename_i hk
   refine dP r _ hr (fun c' e'=>?_) e
   rw[lookup_cons]at e'
   split at e'
   ·rename_i hx
    have C9:x=n:=by simpa using hx
    subst C9
    obtain⟨c0,AI⟩:=hn (x,k) mem_cons_self (by simpa using hk)
    simp only[]at AI
    rw[AI]at e' ⊢
    exact e'
   ·exact ha c' e'
  ·exact dP r acc hr ha e
theorem eO {cells:List (Str × Addr)}{x:Str}:∀ (names:List (Str × NameKind))(acc:List (Str × Addr)),((x,NameKind.free) ∈ names∨∃ c,acc.lookup x=some c) ->
  ∃ c,(bX cells names acc).lookup x=some c
 | [],acc,h=>by
  rcases h with h | h
  ·cases h
  ·exact h
 | (n,k) :: r,acc,h=>by
  unfold bX
  split
  ·rename_i hk
   refine eO r _ ?_
   rcases h with h | ⟨c,h⟩
   ·rcases mem_cons.mp h with h | h
    ·refine .inr ⟨(cells.lookup n).getD 0,?_⟩
     injection h with h1 h2
     rw[lookup_cons,h1]
     simp
    ·exact .inl h
   ·refine .inr ?_
    rw[lookup_cons]
    split
    ·exact⟨_,rfl⟩
    ·exact⟨c,h⟩
  ·rename_i hk
   refine eO r _ ?_
   rcases h with h | h
   ·rcases mem_cons.mp h with h | h
    ·injection h with h1 h2
     subst h2
     exact absurd rfl hk
    ·exact .inl h
   ·exact .inr h
theorem gY {env:Env}{x:Str}:∀ {names:List (Str × NameKind)},names.lookup x=some .free ->
  (names.map fun (n,k)=>if (k == NameKind.free && env.scope.kind == .function && env.kindOf n == some .cell) then (n,NameKind.cell) else (n,k)).lookup x=some .cell ∨
  (names.map fun (n,k)=>if (k == NameKind.free && env.scope.kind == .function && env.kindOf n == some .cell) then (n,NameKind.cell) else (n,k)).lookup x=some .free
 | [],h=>by simp at h
 | (n,k) :: r,h=>by
  have ih:=@gY env x r
  rw[map_cons]
  cases hx:x == n with
  | true =>
   rw[lookup_cons,hx]at h
   cases h
   simp only[]
   split
   ·left;rw[lookup_cons,hx]
   ·right;rw[lookup_cons,hx]
  | false =>
   rw[lookup_cons,hx]at h
   simp only[]
   split
   ·rw[lookup_cons,hx];exact ih h
   ·rw[lookup_cons,hx];exact ih h
theorem fj {env:Env}{x:Str}{k:NameKind}(hk:k = .cell∨k = .free):∀ {names:List (Str × NameKind)},(∀ y ∈ names,y.2 ≠ .cell) ->
  (names.map fun (n,k)=>if (k == NameKind.free && env.scope.kind == .function && env.kindOf n == some .cell) then (n,NameKind.cell) else (n,k)).lookup x=some k->(x,NameKind.free) ∈ names
 | [],_,h=>by simp at h
 | (n,k') :: r,hc,h=>by
  have ih:=@fj env x k hk r fun y hy=>hc y (mem_cons_of_mem _ hy)
  rw[map_cons]at h
  simp only[]at h
  cases hx:x == n with
  | true =>
   have e:x=n:=by simpa using hx
   subst e
   split at h
   ·rename_i q
    have q':k' = .free:=by
     have:=(Bool.and_eq_true _ _ ▸ q:_/\_).1
     have:=(Bool.and_eq_true _ _ ▸ this:_/\_).1
     simpa using this
    rw[q']
    exact mem_cons_self
   ·rw[lookup_cons,hx]at h
    have e2:k' = k:=Option.some.inj h
    rcases hk with z | z
    ·exact absurd (e2.trans z) (hc (x,k') mem_cons_self)
    ·rw[e2,z];exact mem_cons_self
  | false =>
   split at h
   ·rw[lookup_cons,hx]at h;exact mem_cons_of_mem _ (ih h)
   ·rw[lookup_cons,hx]at h;exact mem_cons_of_mem _ (ih h)
section
variable {prog:Program}{w:World}{A:Around}{R:Result->Shared->Prop}{s:Shared}
abbrev kO (ifs:List Expr)(env:Env):Sem Bool :=
 forIn ifs true fun c r=>if r=true then do let ok ← isTrue c env (eval c env);pure (ForInStep.yield ok) else pure (ForInStep.yield r)
theorem nc {elt tg iter:Expr}{ifs:List Expr}{scope:Scope}{pos:Pos}{it acc:Value}{env:Env}(I:Nat->Shared->Prop)
  (turn:∀ n s,I n s->wpAny (model prog w) A (pyNext it) (fun r s1=>match r with
   | none=>R (.ok .next) s1
   | some v=>wpAny (model prog w) A (letOwnedTupleGo tg it v) (fun _ s2=>wpAny (model prog w) A (assign tg env v) (fun _ s3 =>
     wpAny (model prog w) A (kO ifs env) (fun ok s4 =>
      if ok=true then wpAny (model prog w) A (eval elt env) (fun x s5 =>
       wpAny (model prog w) A (call (.builtin "list.append") [acc,x]) (fun _ s6=>∃ m,m < n/\I m s6) (fun _ _=>False) s5) (fun _ _=>False) s4
      else ∃ m,m < n/\I m s4) (fun _ _=>False) s3) (fun _ _=>False) s2) (fun _ _=>False) s1) (fun _ _=>False) s)
  (n:Nat) (h:I n s):codeAny (model prog w) A (.compLoop (.ListComp elt [⟨tg,iter,ifs,0⟩] scope pos) 0 it acc env) R s:=by
 refine codeAny_loop rfl I (fun n s hI=>?_) n h
 have no:∀ {E':Value->Shared->Prop}(e:Value)(s':Shared),False->E' e s':=fun _ _ z=>z.elim
 show wpAny _ A (Sem.onRaise (compTurn (.ListComp elt [⟨tg,iter,ifs,0⟩] scope pos) 0 it acc env) fun x=>do
  noteFrame x env
  theTreesLotGoes x) _ _ s
 refine wpAny_noted ?_
 rw[compTurn_list]
 refine wpAny_bind (wpAny_standAt (wpAny_bind (wpAny_mono (turn n s hI) (fun r s1 h1=>?_) no)))
 cases r with
 | none=>exact wpAny_pure h1
 | some v =>
  refine wpAny_bind (wpAny_mono h1 (fun _ s2 h2=>?_) no)
  refine wpAny_bind (wpAny_mono h2 (fun _ s3 h3=>?_) no)
  refine wpAny_bind (wpAny_mono h3 (fun ok s4 h4=>?_) no)
  cases ok with
  | false=>exact wpAny_pure ⟨rfl,h4⟩
  | true =>
   refine wpAny_bind (wpAny_bind (wpAny_mono h4 (fun x s5 h5=>?_) no))
   exact wpAny_bind (wpAny_mono h5 (fun _ s6 h6=>wpAny_pure (wpAny_pure ⟨rfl,h6⟩)) no)
end
noncomputable def Ku (X:Cx)(ifs:List Expr)(t:TT):Prop :=
 ∀ (pins:List (Addr × Obj))(s:Shared)(σ:St)(H:Hp)(Q:Bool->Hp->Prop),Inv X pins σ H s->t σ H Q->wpAny (model X.prog X.w) X.A (kO ifs X.env) (TP X pins σ Q) X.xe s
noncomputable def qr:TT:=fun _ H Q=>Q true H
theorem dH {X:Cx}:Ku X [] qr:=fun _ _ _ H _ I h=>wpAny_pure ⟨H,I,h⟩
theorem bM {X:Cx}{c:Expr}{t:TT}(h:PT X c t):Ku X [c] t:=fun pins s σ H Q I hw=>by
 simp only[kO,List.forIn_cons,List.forIn_nil,if_true]
 exact wpAny_bind (wpAny_bind (aT (h pins s σ H Q I hw) fun b s' hb=>wpAny_pure (wpAny_pure hb)))
structure AS (N:List Str)(sc scope:Scope)(capN:List Str)(cap:List Nat):Prop where
 kind:scope.kind = .function
 D3:∀ y ∈ scope.names,y.2 ≠ .cell
 loc:∀ y ∈ scope.names,y.2 = .local->scope.names.lookup y.1=some .local
 free:∀ y ∈ scope.names,y.2 = .free->sc.names.lookup y.1=some .cell∨sc.names.lookup y.1=some .free
 len:cap.length=capN.length
 cap:∀ p ∈ capN.zip cap,scope.names.lookup p.1=some .free/\N[p.2]? = some p.1
abbrev bT (X:Cx)(scope:Scope)(N:List Str)(C:Addr)(s:Shared)(H:Hp)(fp:List Addr):Cx :=
 { X with N:=N,s₀:=s,H₀:=H,env:=compEnvC scope (bX X.env.cells scope.names []) C X.env,outer:=X.stack,stack:=X.stack,ex:=fp,fn:=fun _=>false,pn:=[],xe:=fun _ _=>False }
noncomputable def i8 (n:Nat)(cap:List Nat)(σ:St):St:=List.replicate n none ++ cap.map fun j=>(σ[j]?).join
theorem nk (n:Nat)(cap:List Nat)(σ:St):(i8 n cap σ).length=n + cap.length:=by simp[i8]
section
variable {X:Cx}{pins:List (Addr × Obj)}{σ:St}{H:Hp}{s:Shared}{scope:Scope}{own capN:List Str}{cap:List Nat}{fp:List Addr}
theorem AS.HV (B:AS X.N X.env.scope scope capN cap)(ok:X.Ok):∀ y ∈ scope.names,y.2 = .free->∃ c,X.env.cells.lookup y.1=some c:=fun y hy hf=>ok.has y.1 (B.free y hy hf)
theorem AS.cell (B:AS X.N X.env.scope scope capN cap)(ok:X.Ok){x:Str}{c:Addr}(h:(bX X.env.cells scope.names []).lookup x=some c):X.env.cells.lookup x=some c :=
 dP scope.names [] (B.HV ok) (fun _ e=>by cases e) h
theorem AS.locs (I:Inv X pins σ H s)(B:AS X.N X.env.scope scope capN cap){h':Heap}(k:∀ x c v,X.env.cells.lookup x=some c->s.heap.IsCell c v->h'.IsCell c v)(C:Addr)(m0:Str->Option Value) :
  ∀ (i:Nat)(x:Str)(v:V),(own ++ capN)[i]? = some x->(i8 own.length cap σ)[i]? = some (some v)->∃ u,RelV v u/\Look (compEnvC scope (bX X.env.cells scope.names []) C X.env) h' m0 x u:=by
 intro i x v e1 e2
 have hi:own.length <= i:=by
  by_cases q:own.length <= i
  ·exact q
  ·unfold i8 at e2
   rw[List.getElem?_append_left (by simp;omega),List.getElem?_replicate,if_pos (by omega)]at e2
   cases e2
 have e1':capN[i - own.length]? = some x:=by
  rwa [List.getElem?_append_right hi]at e1
 unfold i8 at e2
 rw[List.getElem?_append_right (by simpa using hi),length_replicate,List.getElem?_map]at e2
 cases ej:cap[i - own.length]? with
 | none=>rw[ej]at e2;cases e2
 | some j =>
  rw[ej]at e2
  have Og:(σ[j]?).join=some v:=Option.some.inj e2
  have e3':σ[j]? = some (some v):=by
   cases q:σ[j]? with
   | none=>rw[q]at Og;cases Og
   | some u=>rw[q]at Og;exact congrArg some Og
  have hz:(x,j) ∈ capN.zip cap:=by
   refine List.mem_iff_getElem?.mpr ⟨i - own.length,?_⟩
   rw[List.getElem?_zip_eq_some]
   exact⟨e1',ej⟩
  obtain⟨c1,c2⟩:=B.cap (x,j) hz
  have Vy:(x,NameKind.free) ∈ scope.names:=PySem.mem_of_lookup c1
  have hX:=B.free _ Vy rfl
  obtain⟨m,hm,hl⟩:=I.loc
  obtain⟨u,ru,lk⟩:=hl j x v c2 e3' (hX.elim (fun z => .inr (.inl z)) fun z => .inr (.inr z))
  refine⟨u,ru, .inr ⟨gY c1,?_⟩⟩
  rcases lk with ⟨q,_⟩ | ⟨_,c,ec,ic⟩
  ·have q':X.env.scope.names.lookup x=some .local:=q
   rcases hX with z | z
   ·rw[z]at q';cases q'
   ·rw[z]at q';cases q'
  ·obtain⟨c',Vz⟩:=eO (cells:=X.env.cells) (x:=x) scope.names [] (.inl Vy)
   have:=B.cell I.ok Vz
   rw[ec]at this
   cases this
   exact⟨c,Vz,k x c _ ec ic⟩
theorem Inv.blk {h4:Heap}{tk:Nat}{m0:Str->Option Value}{C:Addr}(I:Inv X pins σ H s)(B:AS X.N X.env.scope scope capN cap)(hC:s.heap.objs.size <= C)(k:∀ b o,s.heap.get? b=some o->h4.get? b=some o)
  (hn:h4.Ns C m0) (hf:∀ b ∈ fp,fY X pins H b) (Ae:∀ b ∈ fp,b < s.heap.objs.size) :
  Inv (bT X scope (own ++ capN) C s H fp) [] (i8 own.length cap σ) H { s with heap:=h4,toks:=tk }:=by
 have Qx:∀ b ∈ fp,b ∉ ly X.stack:=fun b hb z=>by
  obtain⟨_,f1,f2,_⟩:=hf b hb
  rcases mem_cons.mp (I.Br b z) with e | e
  ·exact f1 e
  ·exact f2 e
 have hinv:∀ x,((relabel scope X.env).names.lookup x=some .cell∨(relabel scope X.env).names.lookup x=some .free)->(x,NameKind.free) ∈ scope.names:=fun x hx=>by
  rcases hx with q | q
  ·exact fj (.inl rfl) B.D3 q
  ·exact fj (.inr rfl) B.D3 q
 refine⟨⟨I.ok.mod,B.kind,I.ok.glob,I.ok.blt,hC,fun x y c h1 h2=>I.ok.inj x y c (B.cell I.ok h1) (B.cell I.ok h2),fun x hx=>eO scope.names [] (.inl (hinv x hx)),fun _ _ z=>absurd z Bool.false_ne_true,I.ok.hd,I.ok.frames, .inl rfl,
  fun b hb=>⟨ne_of_lt (lt_of_lt_of_le (Ae b hb) hC),fun x c e=>(hf b hb).2.2.2.2.1 x c (B.cell I.ok e)⟩,I.bs,le_trans I.ok.Fq I.sz,fun b o e hb=>?_,fun b hb=>Qx b hb,I.stack,I.Cu⟩,
  rfl,I.bare,Un.kept k,⟨m0,hn,fun i x v e1 e2 _=>B.locs I (fun _ _ _ _ q=>q.keeps k) C m0 i x v e1 e2⟩,fun x c e=>?_,I.zL.fresh hC,fun x c e=>I.As x c (B.cell I.ok e),fun p hp=>absurd (show p ∈ ([]:List (Addr × Obj)) from hp) (by simp),I.zL.kept k,?_⟩
 ·rcases (hf b hb).2.2.2.1 with z | z
  ·exact I.ok.E3 b o e z
  ·exact absurd (lt_of_lt_of_le (lt_size e) (le_trans I.ok.Fq z)) (lt_irrefl _)
 ·obtain⟨v,q⟩:=I.cell x c (B.cell I.ok e)
  exact⟨v,q.keeps k⟩
 ·show(i8 own.length cap σ).length=(own ++ capN).length
  rw[nk,length_append,B.len]
theorem Inv.reset {CD:List (Addr × Obj)}{σ':St}{H':Hp}{s':Shared}{C:Addr}(I:Inv X pins σ H s)(B:AS X.N X.env.scope scope capN cap)(hf:∀ b ∈ fp,fY X pins H b)(J:Inv (bT X scope (own ++ capN) C s H fp) CD σ' H' s') :
  Inv (bT X scope (own ++ capN) C s H fp) CD (i8 own.length cap σ) H' s':=by
 obtain⟨m,hn,_⟩:=J.loc
 refine⟨J.ok,J.os,J.bare,J.base,⟨m,hn,fun i x v e1 e2 _=>?_⟩,J.cell,J.free,J.As,J.pin,J.zL,?_⟩
 ·refine B.locs I (fun y c v' ec ic=>?_) C m i x v e1 e2
  obtain⟨o,ho,hd⟩:=ic
  have hx:c ∉ fp:=fun z=>(hf c z).2.2.2.2.1 y c ec rfl
  obtain⟨sl,e⟩:=J.base.any ho (I.As y c ec) hx
  exact⟨_,e,hd⟩
 ·show(i8 own.length cap σ).length=(own ++ capN).length
  rw[nk,length_append,B.len]
theorem Inv.adopt {D:Addr}{o:HO}(I:Inv X pins σ H s)(hn:H D=none)(h0:X.s₀.heap.objs.size <= D)(hL:D ≠ X.env.locals)(hc:∀ x c,X.env.cells.lookup x=some c->c ≠ D)(hp:∀ p ∈ X.pn ++ pins,p.1 ≠ D)
  (new:zV X.prog X.w (upd H D o) s.heap D o):Inv X pins σ (upd H D o) s:=by
 have ne:∀ b u,H b=some u->b ≠ D:=fun b u e=>ag e hn
 refine⟨I.ok,I.os,I.bare,⟨I.base.keep,I.base.slot,fun b ob e n hx=>?_,I.base.there,fun b xs e=>?_,fun b ob u e=>?_,fun b ps e=>?_⟩,I.loc,I.cell,?_,fun x c e=>?_,fun p B6=>?_,fun b u e=>?_,I.len⟩
 ·rw[af (ne_of_lt (lt_of_lt_of_le (lt_size e) h0))]
  exact I.base.free b ob e n hx
 ·have q:=I.base.BG b xs e
  rw[af (ne b _ q)];exact q
 ·have q:=I.base.B4 b ob u e
  rw[af (ne b _ q)];exact q
 ·obtain⟨more,q⟩:=I.base.BH b ps e
  exact⟨more,by rw[af (ne b _ q)];exact q⟩
 ·rw[af (Ne.symm hL)];exact I.free
 ·rw[af (hc x c e)];exact I.As x c e
 ·obtain⟨e,n,r⟩:=I.pin p B6
  exact⟨e,by rw[af (hp p B6)];exact n,r⟩
 ·by_cases hb:b=D
  ·subst hb;rw[ac]at e;cases e;exact new
  ·rw[af hb]at e
   exact(I.zL b u e).B3 (fun _ _ _ q=>q) (fun c q=>by rw[af (ne c _ q)];exact q) fun c xs q=>by rw[af (ne c _ q)];exact q
end
noncomputable def eB (J:It)(g:TG)(tt:TT)(te:TE)(σ0:St)(Q:VK)(H1:Hp):Prop:=∃ W:Nat->Nat->List V->Hp->Prop,(∃ m,W 0 m [] H1)/\∀ i m acc H,W i m acc H ->
 acc.length < sizeLine/\((J.stop i H/\∀ D,H D=none->Q (.ref D) (upd H D (.lst acc)))∨(J.go i H/\∃ N:List V->Hp->Prop,(∀ Aw H',N Aw H'->∃ m',m' < m/\W (i + 1) m' Aw H') /\
  ∀ x H',J.E4 i H x H'->g x σ0 H' fun σ2 H2=>tt σ2 H2 fun b H3=>if b=true then te σ2 H3 fun y H4=>N (acc ++ [y]) H4 else N acc H3))
noncomputable def wX (wi:TI)(g:TG)(tt:TT)(te:TE)(n:Nat)(cap:List Nat):TE:=fun σ H Q=>wi σ H fun J H1=>eB J g tt te (i8 n cap σ) Q H1
section
variable {X:Cx}{tg iter elt:Expr}{ifs:List Expr}{scope:Scope}{pos:Pos}{wi:TI}{g:TG}{tt:TT}{te:TE}{own capN:List Str}{cap:List Nat}
abbrev lm (zI:List Value)(k:Nat):Obj:={ cls := .type "list",data := .seq zI.toArray k }
theorem mX {pins:List (Addr × Obj)}{s:Shared}{σ:St}{H:Hp}{Q:VK}{it:Addr}{fp:List Addr}{tn:Nat->Heap->Prop}{J:It}(B:AS X.N X.env.scope scope capN cap)(hc:X.calm=true)
  (hb:∀ (C:Addr)(s:Shared)(H:Hp)(fp:List Addr),PG (bT X scope (own ++ capN) C s H fp) tg g/\Ku (bT X scope (own ++ capN) C s H fp) ifs tt/\PE (bT X scope (own ++ capN) C s H fp) elt te)
  (I:Inv X pins σ H s) (T:lB X.prog X.w X.K tg J fp it tn) (st:tn 0 s.heap) (hf:∀ b ∈ fp,fY X pins H b) {W:Nat->Nat->List V->Hp->Prop} {m0:Nat} (w0:W 0 m0 [] H)
  (turn:∀ i m acc H,W i m acc H->acc.length < sizeLine/\((J.stop i H/\∀ D,H D=none->Q (.ref D) (upd H D (.lst acc)))∨(J.go i H/\∃ N:List V->Hp->Prop,(∀ Aw H',N Aw H'->∃ m',m' < m/\W (i + 1) m' Aw H') /\
   ∀ x H',J.E4 i H x H'->g x (i8 own.length cap σ) H' fun σ2 H2=>tt σ2 H2 fun b H3=>if b=true then te σ2 H3 fun y H4=>N (acc ++ [y]) H4 else N acc H3)))
  {RR:Value->Addr->Result->Shared->Prop}
  (fin:∀ (D C:Addr)(H':Hp)(s':Shared),Q (.ref D) H'->Inv X pins σ H' s'->(∃ m,s'.heap.Ns C m)->H' C=none->C ≠ X.env.locals->X.s₀.heap.objs.size <= C->(∀ x c,X.env.cells.lookup x=some c->c ≠ C)->(∀ p ∈ X.pn ++ pins,p.1 ≠ C) ->
   RR (.ref D) C (.ok .next) s') :
  wpAny (model X.prog X.w) X.A (newList []) (fun acc s3=>wpAny (model X.prog X.w) X.A (newFunctionEnv scope X.env.globals (bX X.env.cells scope.names []) [] X.env.qual none .none (some X.env)) (fun Kv s4 =>
   codeAny (model X.prog X.w) X.A (.compStart (.ListComp elt [⟨tg,iter,ifs,0⟩] scope pos) 0 (.ref it) acc { Kv with scope:=relabel scope X.env }) (RR acc Kv.locals) s4) X.xe s3) X.xe s:=by
 refine wpAny_newObj_type (wpAny_newFunctionEnv B.D3 (by intro y hy;simp at hy) (fun h1 HQ Df=>?_) B.kind)
 dsimp only at HQ Df ⊢
 generalize E9:s.heap.push { cls := .type "list",dict:=none,data := .seq ([]:List Value).toArray } = H2 at HQ Df ⊢
 have hCs:H2.objs.size=s.heap.objs.size + 1:=by rw[← E9,size_push]
 have D4:s.heap.objs.size <= H2.objs.size:=by omega
 have F4:∀ b ∈ fp,b < s.heap.objs.size:=fun b hb=>by
  obtain⟨o,e,_⟩:=T.obj 0 s.heap st b hb
  exact lt_size e
 have old:∀ b o,s.heap.get? b=some o->h1.get? b=some o:=fun b o e =>
  Df.extBut b o (ne_of_lt (lt_of_lt_of_le (lt_size e) D4)) (Heap.get?_push_of_some _ (E9 ▸ Heap.get?_push_of_some _ e))
 have Oh:s.heap.objs.size ≠ H2.objs.size:=by omega
 have Qy:h1.get? s.heap.objs.size=some (lm [] 0):=Df.extBut _ _ Oh (Heap.get?_push_of_some _ (E9 ▸ Heap.get?_push_size _ rfl))
 have I4:Inv (bT X scope (own ++ capN) H2.objs.size s H fp) [] (i8 own.length cap σ) H { s with heap:=h1,toks:=s.toks + ([]:List (Str × Value)).length }:=I.blk (own:=own) B D4 old HQ hf F4
 have Qx:∀ b ∈ fp,b ∉ ly X.stack:=fun b hb z=>by
  obtain⟨_,f1,f2,_⟩:=hf b hb
  rcases mem_cons.mp (I.Br b z) with e | e
  ·exact f1 e
  ·exact f2 e
 have F5:∀ b ∈ ly X.stack,b < s.heap.objs.size:=fun b hb=>by
  obtain⟨_,o,ho,_⟩:=I.stack.mem hb
  exact lt_size ho
 have D5:∀ x c,X.env.cells.lookup x=some c->c < s.heap.objs.size:=fun x c e=>by
  obtain⟨v,q⟩:=I.cell x c e
  exact q.lt
 have G5:∀ (H':Hp)(h':Heap)(zI:List Value)(k:Nat),H' s.heap.objs.size=none->h'.get? s.heap.objs.size=some (lm zI k) ->
   ∀ p ∈ [(s.heap.objs.size,lm zI k)],h'.get? p.1=some p.2/\H' p.1=none/\p.1 ≠ (bT X scope (own ++ capN) H2.objs.size s H fp).env.locals/\p.1 ∉ (bT X scope (own ++ capN) H2.objs.size s H fp).fs/\∀ v,p.2.data ≠ .cell v:=fun H' h' zI k hn he p hp=>by
  have e:p=(s.heap.objs.size,lm zI k):=by simpa using hp
  subst e
  exact⟨he,hn,Oh,fun z=>absurd (F5 _ z) (lt_irrefl _),fun v z=>by cases z⟩
 have stat:∀ (H':Hp)(zI:List Value)(k:Nat),(∀ b ∈ fp,H' b=none)->∀ b ∈ fp,fY (bT X scope (own ++ capN) H2.objs.size s H fp) [(s.heap.objs.size,lm zI k)] H' b:=fun H' zI k hn b hb =>
  ⟨hn b hb,ne_of_lt (lt_of_lt_of_le (F4 b hb) D4),Qx b hb, .inl hb,fun x c e=>(hf b hb).2.2.2.2.1 x c (B.cell I.ok e),fun p hp=>by
   have e:p=(s.heap.objs.size,lm zI k):=by simpa using hp
   subst e
   exact ne_of_gt (F4 b hb)⟩
 have loop:∀ s3:Shared,s3 = { s with heap:=h1,toks:=s.toks + ([]:List (Str × Value)).length } ->
   codeAny (model X.prog X.w) X.A (.compLoop (.ListComp elt [⟨tg,iter,ifs,0⟩] scope pos) 0 (.ref it) (.ref s.heap.objs.size) (compEnvC scope (bX X.env.cells scope.names []) H2.objs.size X.env))
    (RR (.ref s.heap.objs.size) H2.objs.size) s3:=by
  rintro s3 rfl
  refine nc (fun n s'=>∃ i acc zI k H',Inv (bT X scope (own ++ capN) H2.objs.size s H fp) [(s.heap.objs.size,lm zI k)] (i8 own.length cap σ) H' s'/\tn i s'.heap/\(∀ b ∈ fp,H' b=none)/\Vals acc zI/\W i n acc H') ?_ m0
   ⟨0,[],[],0,H,I4.AQ (G5 _ _ _ _ (I.zL.fresh (Nat.le_refl _)) Qy),T.keep 0 s.heap h1 st fun b _ o e=>old b o e,fun b hb=>(hf b hb).1, .nil,w0⟩
  rintro n s5 ⟨i,acc,zI,k,H5,I5,Je,NZ,rv,w5⟩
  obtain⟨hsz,Kw⟩:=turn i n acc H5 w5
  obtain⟨hgt,EY,hte⟩:=hb H2.objs.size s H fp
  rcases Kw with ⟨stop,q⟩ | ⟨go,N,hN,step⟩
  ·refine aT (T.done (bT X scope (own ++ capN) H2.objs.size s H fp) rfl rfl rfl hc i _ s5 _ H5 _ I5 (stat H5 zI k NZ) Je stop) fun r s6 zH=>?_
   obtain⟨hr,I6⟩:=zH
   subst hr
   obtain⟨hD,Kx,_⟩:=I6.pin (s.heap.objs.size,lm zI k) (by simp)
   have J1:Inv X pins σ H5 s6:=I.FY (s':=s6) (ch:=fp) I6.os I6.base I6.zL I6.bare fun b hb=>by
    obtain⟨_,f1,_,f3,f4,f5⟩:=hf b hb
    exact⟨f3,f1,f4,f5⟩
   have J2:Inv X pins σ (upd H5 s.heap.objs.size (.lst acc)) s6:=J1.adopt Kx I.sz (ne_of_gt I.lt) (fun x c e=>ne_of_lt (D5 x c e)) (fun p hp=>ne_of_lt (lt_size (I.pin p hp).1)) ⟨le_of_lt hsz,zI,k,rv,hD⟩
   obtain⟨mC,Ky,_⟩:=I6.loc
   refine fin _ _ _ s6 (q _ Kx) J2 ⟨mC,Ky⟩ (by rw[af (Ne.symm Oh)];exact I6.free) (ne_of_gt (lt_of_lt_of_le I.lt D4)) (le_trans I.sz D4) (fun x c e=>ne_of_lt (lt_of_lt_of_le (D5 x c e) D4)) fun p hp =>
    ne_of_lt (lt_of_lt_of_le (lt_size (I.pin p hp).1) D4)
  ·refine aT (T.item (bT X scope (own ++ capN) H2.objs.size s H fp) rfl rfl rfl hc i _ s5 _ H5 _ I5 (stat H5 zI k NZ) Je go) fun r s6 zH=>?_
   obtain⟨u,hr,h6⟩:=zH
   subst hr
   refine aT h6 fun _ s7 zH=>?_
   obtain⟨x,H7,I7,r7,y7,Qz,fr7⟩:=zH
   have I7':=I7.pinned (stat H7 zI k fr7) (T.obj _ _ Qz)
   refine aT (hgt _ s7 _ H7 x u _ I7' r7 (step x H7 y7)) fun _ s8 zH=>?_
   obtain⟨σ8,H8,I8,q8⟩:=zH
   refine aT (EY _ s8 σ8 H8 _ I8 q8) fun b s9 zH=>?_
   obtain⟨H9,I9,q9⟩:=zH
   have V0:∀ {H':Hp}{s':Shared}{σ':St},Inv (bT X scope (own ++ capN) H2.objs.size s H fp) (eJ fp s7.heap) σ' H' s'->tn (i + 1) s'.heap/\∀ b ∈ fp,H' b=none:=fun {H' s' σ'} K=>by
    refine⟨T.keep _ _ _ Qz fun b hb o e=>(K.pin (b,o) (eL hb e)).1,fun b hb=>?_⟩
    obtain⟨o,e,_⟩:=T.obj _ _ Qz b hb
    exact(K.pin (b,o) (eL hb e)).2.1
   cases b with
   | false =>
    rw[if_neg Bool.false_ne_true]
    obtain⟨m',hm,w9⟩:=hN acc H9 (by simpa using q9)
    have K9:Inv (bT X scope (own ++ capN) H2.objs.size s H fp) (eJ fp s7.heap) σ8 H9 s9:=I9.AQ fun p hp=>I9.pin p (mem_append_right _ (mem_append_right _ hp))
    obtain⟨t9,f9⟩:=V0 K9
    exact⟨m',hm,i + 1,acc,zI,k,H9,I.reset B hf I9.Bf,t9,f9,rv,w9⟩
   | true =>
    rw[if_pos rfl]
    have q9':te σ8 H9 fun y H4=>N (acc ++ [y]) H4:=by simpa using q9
    refine aT (hte _ s9 σ8 H9 _ I9 q9') fun yv Q0 zH=>?_
    obtain⟨y,F6,Q2,r10,q10⟩:=zH
    obtain⟨hD,Kx,_⟩:=Q2.pin (s.heap.objs.size,lm zI k) (by simp)
    have hlen:=rv.length
    refine wpAny_list_append_plain ⟨k,hD⟩ (fun h' Bl HW=>?_) (by rw[size_toArray];omega)
    obtain⟨k',hD'⟩:=Bl
    obtain⟨m',hm,w10⟩:=hN (acc ++ [y]) F6 q10
    have K10:Inv (bT X scope (own ++ capN) H2.objs.size s H fp) (eJ fp s7.heap) σ8 F6 Q0:=Q2.AQ fun p hp=>Q2.pin p (mem_append_right _ (mem_append_right _ hp))
    have V1:Inv (bT X scope (own ++ capN) H2.objs.size s H fp) (eJ fp s7.heap) σ8 F6 { Q0 with heap:=h' }:=K10.turned (t':=Q0.toks) (it:=s.heap.objs.size) (fun b o hb e=>(HW.2 b hb).trans e) Kx Oh (.inr (Nat.le_refl _))
     (fun x c e=>ne_of_lt (D5 x c (B.cell I.ok e))) fun p hp=>by
      obtain⟨hb,_⟩:=ke (show p ∈ eJ fp s7.heap from hp)
      exact ne_of_lt (F4 p.1 hb)
    obtain⟨t11,Oi⟩:=V0 V1
    refine⟨m',hm,i + 1,acc ++ [y],zI ++ [yv],k',F6,?_,t11,Oi,rv.append (.cons r10 .nil),w10⟩
    refine I.reset B hf (V1.AQ (G5 _ _ _ _ Kx ?_))
    show h'.get? s.heap.objs.size=some { cls := .type "list",data := .seq (zI ++ [yv]).toArray k' }
    rw[show(zI ++ [yv]).toArray=zI.toArray.push yv by simp]
    exact hD'
 exact codeAny_compStart_list (loop _ rfl) (T.self X.A 0 _ _ _ (T.keep 0 s.heap h1 st fun b _ o e=>old b o e) (loop _ rfl))
theorem bA (B:AS X.N X.env.scope scope capN cap)(hc:X.calm=true)(hi:PI X tg iter wi)
  (hb:∀ (C:Addr)(s:Shared)(H:Hp)(fp:List Addr),PG (bT X scope (own ++ capN) C s H fp) tg g/\Ku (bT X scope (own ++ capN) C s H fp) ifs tt/\PE (bT X scope (own ++ capN) C s H fp) elt te)
  (hs:∀ x,foldedSetIterable iter X.env x=pure x:=by intro _;rfl):PE X (.ListComp elt [⟨tg,iter,ifs,0⟩] scope pos) (wX wi g tt te own.length cap):=by
 intro pins s σ H Q I h
 rw[eval_ListComp]
 refine wpAny_comprehension_free (use:=none) rfl hs (gm (B.HV I.ok)) B.kind B.loc (aT (hi pins s σ H _ I h) fun v s1 h1=>aT h1 fun NX s2 h2=>?_)
 obtain⟨it,fp,tn,J,H2,e,I2,T,JW,f2,W,⟨m0,w0⟩,turn⟩:=h2
 subst e
 refine mX (own:=own) B hc hb I2 T JW f2 w0 turn (RR:=fun acc C=>compPost (model X.prog X.w) X.A X.xe none (EP X pins σ Q) acc C) fun D C H' s' q J2 ⟨mC,Ky⟩ fC n1 n2 n3 n4=>?_
 refine⟨mC,Ky,fun h' Df=>⟨.ref D,H',?_,rfl,q⟩⟩
 exact J2.turned (t':=s'.toks) (it:=C) (fun b o hb e=>(Df.2 b hb).trans e) fC n1 (.inr n2) n3 n4
theorem cY {i:Nat}{x:Str}{px:Pos}{Kz:Pos}(B:AS X.N X.env.scope scope capN cap)(hc:X.calm=true)(hN:X.N.Nodup)(hx:X.N[i]? = some x)(hl:X.env.scope.names.lookup x=some .local)(hi:PI X tg iter wi)
  (hb:∀ (C:Addr)(s:Shared)(H:Hp)(fp:List Addr),PG (bT X scope (own ++ capN) C s H fp) tg g/\Ku (bT X scope (own ++ capN) C s H fp) ifs tt/\PE (bT X scope (own ++ capN) C s H fp) elt te)
  (hsw:swapsWith (.ListComp elt [⟨tg,iter,ifs,0⟩] scope pos) (some (.Name x px)) Kz.line X.env=pure true:=by rfl)
  (hs:∀ x,foldedSetIterable iter X.env x=pure x:=by intro _;rfl):PS X (.Assign [.Name x px] (.ListComp elt [⟨tg,iter,ifs,0⟩] scope pos) Kz) (xH (wX wi g tt te own.length cap) (cI i)):=by
 intro pins s σ H D0 I h
 rw[exec_Assign_Name_used _ _ _ _ hsw]
 refine wpAny_bind (wpAny_standAt (wpAny_bind ?_))
 show wpAny _ X.A (do
  let _ ← comprehension (.ListComp elt [⟨tg,iter,ifs,0⟩] scope pos) scope X.env _ (newList []) false (eval iter X.env) (some (assign (.Name x px) X.env))) _ _ s
 refine wpAny_bind (wpAny_mono (wpAny_comprehension_free (use:=some (assign (.Name x px) X.env)) (Q:=fun _ s'=>SP X pins D0 .next s') rfl hs (gm (B.HV I.ok)) B.kind B.loc
  (aT (hi pins s σ H _ I h) fun v s1 h1=>aT h1 fun NX s2 h2=>?_)) (fun _ s' hq=>wpAny_pure (wpAny_pure hq)) fun _ _ e=>e)
 obtain⟨it,fp,tn,J,H2,e,I2,T,JW,f2,W,⟨m0,w0⟩,turn⟩:=h2
 subst e
 refine mX (own:=own) (Q:=fun x H1=>cI i x σ H1 D0.nx) B hc hb I2 T JW f2 w0 turn (RR:=fun acc C=>compPost (model X.prog X.w) X.A X.xe (some (assign (.Name x px) X.env)) (fun _ s'=>SP X pins D0 .next s') acc C) fun D C H' s' q J2 ⟨mC,Ky⟩ fC n1 n2 n3 n4=>?_
 show wpAny _ X.A (assign (.Name x px) X.env (.ref D)) _ _ s'
 refine wpAny_assign_Name (jV J2 hN hx (.inl hl) (show RelV (.ref D) (.ref D) from rfl) (fun HK J3 zH=>?_) (.inr hl))
 obtain⟨a,Df,ha⟩:=zH
 have hCa:C ≠ a:=by
  rcases ha with z | z
  ·rw[z];exact n1
  ·exact(n3 x a z).symm
 refine⟨mC,Ky.sameBut Df hCa,fun h' HW=>⟨_,H',?_,q⟩⟩
 exact J3.turned (t':=HK.toks) (it:=C) (fun b o hb e=>(HW.2 b hb).trans e) fC n1 (.inr n2) n3 n4
end
end L2
namespace L2
open PySem PySem.Spec PyProof.Rows
mutual
inductive jS (K:Frag)(H:Hp):V->PyData->Prop
 | zT:jS K H .zT .none
 | bl (b:Bool):jS K H (.bl b) (.bool b)
 | int (i:Int):jS K H (.int i) (.int i)
 | str (x:Str):jS K H (.str x) (.str x)
 | lst {a:Addr} {xs:List V} {ds:List PyData}:zJ K H a xs->iK K H xs ds->jS K H (.ref a) (.list ds)
 | tup {a:Addr} {xs:List V} {ds:List PyData}:zM K H a xs->iK K H xs ds->jS K H (.ref a) (.tuple ds)
inductive iK (K:Frag)(H:Hp):List V->List PyData->Prop
 | nil:iK K H [] []
 | cons {x:V} {d:PyData} {xs:List V} {ds:List PyData}:jS K H x d->iK K H xs ds->iK K H (x :: xs) (d :: ds)
end
section
variable {X:Cx}{pins:List (Addr × Obj)}{σ:St}{H:Hp}{s:Shared}
mutual
theorem Inv.den (I:Inv X pins σ H s):∀ {x:V}{d:PyData}{u:Value},jS X.K H x d->RelV x u->∃ as,Reads s.heap u d as
 | _,_,_, .zT,r=>by cases r;exact⟨_, .none⟩
 | _,_,_, .bl b,r=>by cases r;exact⟨_, .bool b⟩
 | _,_,_, .int i,r=>by obtain⟨t,rfl⟩:=r;exact⟨_, .int i t⟩
 | _,_,_, .str x,r=>by obtain⟨t,rfl⟩:=r;exact⟨_, .str x t⟩
 | _,_,_, .lst hq hd,r=>by
  cases r
  obtain⟨zI,rv,⟨o,n,e,hc,_,Q3⟩,_⟩:=I.list hq
  obtain⟨as,q⟩:=I.HX hd rv
  exact⟨_, .list e hc Q3 (by simpa using q)⟩
 | _,_,_, .tup hq hd,r=>by
  cases r
  obtain⟨zI,rv,⟨o,e,hc,n,Q3⟩,_⟩:=I.tuple hq
  obtain⟨as,q⟩:=I.HX hd rv
  exact⟨_, .tuple e hc Q3 (by simpa using q)⟩
theorem Inv.HX (I:Inv X pins σ H s):∀ {xs:List V}{ds:List PyData}{us:List Value},iK X.K H xs ds->Vals xs us->∃ as,ReadsAll s.heap us ds as
 | _,_,_, .nil, .nil=>⟨_, .nil⟩
 | _,_,_, .cons hd hr, .cons r rr=>by
  obtain⟨as,q⟩:=I.den hd r
  obtain⟨bs,q'⟩:=I.HX hr rr
  exact⟨_, .cons q q'⟩
end
noncomputable def K0 (K:Frag):R2:=fun x y H Q=>∃ da db,jS K H x da/\jS K H y db/\SeqAt.shaped da=true/\SeqAt.shaped db=true/\Q (.bl (PyData.eqv da db)) H
noncomputable def yk (K:Frag):R2:=fun x y H Q=>∃ da db,jS K H x da/\jS K H y db/\SeqAt.shaped da=true/\SeqAt.shaped db=true/\Q (.bl (!PyData.eqv da db)) H
end
section
variable {X:Cx}
theorem tJ (hu:X.A.units + 64 < cLine):eU X (compareOp .Eq) (K0 X.K):=by
 intro pins s σ H x y v u Q I rx ry h
 obtain⟨da,db,h1,h2,h3,h4,q⟩:=h
 obtain⟨as,r1⟩:=I.den h1 rx
 obtain⟨bs,r2⟩:=I.den h2 ry
 exact SeqAt.compareEq_shaped r1 r2 h3 h4 hu ⟨.bl _,H,I,rfl,q⟩
theorem gF (hu:X.A.units + 64 < cLine):eU X (compareOp .NotEq) (yk X.K):=by
 intro pins s σ H x y v u Q I rx ry h
 obtain⟨da,db,h1,h2,h3,h4,q⟩:=h
 obtain⟨as,r1⟩:=I.den h1 rx
 obtain⟨bs,r2⟩:=I.den h2 ry
 exact SeqAt.compareNe_shaped r1 r2 h3 h4 hu ⟨.bl _,H,I,rfl,q⟩
theorem kF {K:Frag}{H:Hp}:∀ ns:List Int,iK K H (ns.map V.int) (ns.map PyData.int)
 | [] => .nil
 | n :: r => .cons (.int n) (kF r)
theorem mU {K:Frag}{H:Hp}{a:Addr}{ns:List Int}(h:zJ K H a (ns.map V.int)):jS K H (.ref a) (.list (ns.map PyData.int)) := .lst h (kF ns)
noncomputable def Q4 (K:Frag):R2:=fun x y H Q=>∃ (p q:Addr)(ns ms:List Int),x = .ref p/\y = .ref q/\zJ K H p (ns.map V.int)/\zJ K H q (ms.map V.int)/\Q (.bl (!decide (ns=ms))) H
theorem yz (hu:X.A.units + 64 < cLine):eU X (compareOp .NotEq) (Q4 X.K):=by
 intro pins s σ H x y v u Q I rx ry h
 obtain⟨p,q,ns,ms,rfl,rfl,h1,h2,q⟩:=h
 refine gF hu pins s σ H _ _ v u Q I rx ry ⟨_,_,mU h1,mU h2,PySem.W.shaped_ints ns,PySem.W.shaped_ints ms,?_⟩
 simp only[PyData.eqv,PySem.W.ked_eqvAll]
 exact q
noncomputable def Q5 (K:Frag):List V->Hp->VK->Prop:=fun xs H Q =>
 (∃ i,xs=[.int i, .ty "int"]/\Q (.bl true) H)∨(∃ i,xs=[.int i, .ty "bool"]/\Q (.bl false) H)∨(∃ p ys,xs=[.ref p, .ty "list"]/\zJ K H p ys/\Q (.bl true) H)∨(∃ p ys,xs=[.ref p, .ty "tuple"]/\zM K H p ys/\Q (.bl true) H)
theorem nj:c6 X (.builtin "isinstance") (Q5 X.K):=by
 intro pins s σ H xs us Q I r h
 rcases h with ⟨i,rfl,q⟩ | ⟨i,rfl,q⟩ | ⟨p,ys,rfl,hq,q⟩ | ⟨p,ys,rfl,hq,q⟩
 ·cases r with
  | cons r1 r2 =>
   cases r2 with
   | cons r2 r3 =>
    cases r3
    obtain⟨t,rfl⟩:=r1
    cases r2
    exact IsiPair.int_int ⟨.bl true,H,I,rfl,q⟩
 ·cases r with
  | cons r1 r2 =>
   cases r2 with
   | cons r2 r3 =>
    cases r3
    obtain⟨t,rfl⟩:=r1
    cases r2
    exact IsiPair.int_bool ⟨.bl false,H,I.tok _,rfl,q⟩
 ·cases r with
  | cons r1 r2 =>
   cases r2 with
   | cons r2 r3 =>
    cases r3
    cases r1
    cases r2
    obtain⟨zI,rv,⟨o,n,e,hc,_⟩,_⟩:=I.list hq
    exact IsiPair.list_list e hc ⟨.bl true,H,I,rfl,q⟩
 ·cases r with
  | cons r1 r2 =>
   cases r2 with
   | cons r2 r3 =>
    cases r3
    cases r1
    cases r2
    obtain⟨zI,rv,⟨o,e,hc,_⟩,_⟩:=I.tuple hq
    exact IsiPair.tuple_tuple e hc ⟨.bl true,H,I,rfl,q⟩
theorem wm:Oc X "int.bit_length" (fun x xs H Q=>∃ i,x = .int i/\xs=[]/\Q (.int (Builtin.Int.intBits i:Nat)) H):=by
 intro pins s σ H x xs v us Q I rx rv h
 obtain⟨i,rfl,rfl,q⟩:=h
 obtain⟨t,rfl⟩:=rx
 cases rv
 exact call_int_bit_length ⟨.int _,H,I.tok _,⟨_,rfl⟩,q⟩
theorem Inv.same {pins:List (Addr × Obj)}{σ:St}{H:Hp}{s s':Shared}(I:Inv X pins σ H s)(k:∀ b o,s.heap.get? b=some o->s'.heap.get? b=some o)(g:s'.gens=s.gens)(ho:s'.os=s.os):Inv X pins σ H s':=by
 obtain⟨hh,gg,dd,tt,oo⟩:=s'
 simp only at k g ho
 subst g
 subst ho
 have J:Inv X pins σ H { s with heap:=hh,toks:=tt }:=I.kept k
 exact⟨J.ok,J.os,J.bare,J.base,J.loc,J.cell,J.free,J.As,J.pin,J.zL,J.len⟩
theorem jJ (hc:X.calm=true):c6 X (.builtin "all") (fun xs H Q=>∃ (p:Addr)(bs:List Bool),xs=[.ref p]/\zJ X.K H p (bs.map V.bl)/\Q (.bl (bs.all id)) H):=by
 intro pins s σ H xs us Q I r h
 obtain⟨p,bs,rfl,hq,q⟩:=h
 obtain⟨u,rfl,rx⟩:=iZ r
 cases rx
 obtain⟨zI,rv,pl,hz⟩:=I.list hq
 have hlen:=rv.length
 rw[length_map]at hlen
 have Ae:p < s.heap.objs.size:=by obtain⟨o,n,e,_⟩:=pl;exact lt_size e
 have V2:∀ (i:Nat)(v:Value),zI.toArray[i]? = some v->v=Value.bool (bs.getD i false):=fun i v hv=>by
  have Jg:zI[i]? = some v:=by simpa using hv
  have hi:i < bs.length:=by rw[hlen];exact(List.getElem?_eq_some_iff.mp Jg).1
  obtain⟨u,hu,ru⟩:=rv.get (i:=i) (x := .bl bs[i]) (by simp[hi])
  rw[Jg]at hu
  cases hu
  rw[getD_eq_getElem?_getD,List.getElem?_eq_getElem hi]
  exact ru
 have hh1:X.A.in1.handled=none:=I.ok.hd hc
 refine call_all_walkS (wpAny_pyIter_list pl.isList ⟨s.heap.objs.size,[s.heap.objs.size,p],[s.heap.objs.size],fun a b=>b=a,zI.toArray.size,fun i v=>zI.toArray[i]? = some v,_,fun i=>bs.getD i false,rfl,
  (Walks.list hh1 _ p (ne_of_lt Ae) zI.toArray).toS,⟨⟨_,Heap.get?_push_size _ rfl,rfl,rfl⟩,pl.isList.push _⟩,fun i v s1 Q1 E1 hv hq1=>?_,fun s' hm=>?_⟩)
 ·rw[V2 i v hv]
  exact wpAny_truthy_bool hq1
 ·have I1:Inv X pins σ H { s with heap:=s.heap.push { cls := .type "list_iterator",data := .fields #[.ref p, .int 0 0] } }:=I.kept (t':=s.toks) fun b o e=>Heap.get?_push_of_some _ e
  refine⟨.bl _,H,I.same (fun b o e=>hm.heap b o (fun hb=>?_) (Heap.get?_push_of_some _ e)) hm.gens hm.os,rfl,?_⟩
  ·have Bd:b=s.heap.objs.size:=by simpa using hb
   exact absurd (lt_size e) (by rw[Bd];exact lt_irrefl _)
  ·have e:((List.range zI.toArray.size).all fun i=>bs.getD i false)=bs.all id:=by
    rw[size_toArray,← hlen]
    clear V2 hlen hq rv q
    have:(List.range bs.length).map (fun i=>bs.getD i false)=bs:=by
     apply List.ext_getElem
     ·simp
     ·intro i h1 h2
      simp[h2]
    conv=>rhs;rw[← this]
    rw[all_map]
    rfl
   rw[e]
   exact q
noncomputable def kW (P:Program)(w:World)(p:Addr)(ns:List Int):HO := .ext fun h=>Yd.BY P w h p (!w.params.followText "set-order") ns
theorem vo {P:Program}{w:World}{H:Hp}{h:Heap}{p:Addr}{ns:List Int}(x:Yd.BY P w h p (!w.params.followText "set-order") ns):zV P w H h p (kW P w p ns):=by
 obtain⟨es,ep,t,ho,r⟩:=id x
 exact⟨x,⟨_,ho⟩,fun h1 h2 ⟨es,ep,t,ho,r⟩ k=>⟨es,ep,t,k _ ho,r⟩⟩
theorem uQ (hc:X.calm=true):c6 X (.type "set") (fun xs H Q=>∃ (p:Addr)(ns:List Int),xs=[.ref p]/\zJ X.K H p (ns.map V.int)/\ns.length < 64/\∀ q,H q=none->Q (.ref q) (upd H q (kW X.prog X.w q ns))):=by
 intro pins s σ H xs us Q I r h
 obtain⟨p,ns,rfl,hq,hl,q⟩:=h
 obtain⟨u,rfl,rx⟩:=iZ r
 cases rx
 obtain⟨zI,rv,pl,hz⟩:=I.list hq
 refine Yd.DX (I.ok.hd hc) pl.isList (by simpa using j8 rv) (by unfold scanBound;omega) fun h' tk hS kp=>?_
 exact⟨.ref s.heap.objs.size,_,I.laid kp (Nat.le_refl _) (vo hS),rfl,q _ (I.zL.fresh (Nat.le_refl _))⟩
end
end L2
namespace L2
open PySem PySem.Spec PyProof.Rows
theorem jG {o:Obj}{vs:Array Value}(hd:o.data = .fields vs)(f:Array Value->Array Value):(Obj.mapFields f o).dict=o.dict:=by
 obtain⟨c,d,dt,sl⟩:=o
 cases dt<;>rfl
noncomputable def F7 (h:Heap)(e:Addr)(cls:Value)(dd:Option Addr)(ch:List Addr):Prop :=
 ∃ oe vs,h.get? e=some oe/\oe.cls=cls/\oe.dict=dd/\oe.data = .fields vs /\
  ((vs[1]? = some .none/\ch=[e])∨∃ T oT ts,vs[1]? = some (.ref T)/\T ≠ e/\h.get? T=some oT/\oT.data = .fields ts/\ts[3]? = some .none/\ch=[e,T])
theorem F7.rec {h:Heap}{e:Addr}{cls:Value}{dd:Option Addr}{ch:List Addr}(x:F7 h e cls dd ch):∀ b ∈ ch,∃ o vs,h.get? b=some o/\o.data = .fields vs:=by
 obtain⟨oe,vs,he,_,_,hd,h1 | ⟨T,oT,ts,_,_,hT,Jl,_,rfl⟩⟩:=x
 ·obtain⟨_,rfl⟩:=h1
  intro b hb
  simp only[mem_singleton]at hb
  subst hb
  exact⟨oe,vs,he,hd⟩
 ·intro b hb
  simp only[mem_cons,not_mem_nil,or_false]at hb
  rcases hb with rfl | rfl
  ·exact⟨oe,vs,he,hd⟩
  ·exact⟨oT,ts,hT,Jl⟩
structure qi (fs ch:List Addr)(h h':Heap):Prop where
 keep:∀ b o,h.get? b=some o->b ∉ ch->b ∉ fs->h'.get? b=some o
 slot:∀ b o,h.get? b=some o->b ∉ ch->∃ sl,h'.get? b=some { o with slots:=sl }
 there:∀ b o,h.get? b=some o->∃ o',h'.get? b=some o'
section
variable {M:Model}{A:Around}{E:Value->Shared->Prop}{s:Shared}
theorem ki {base:Heap}{env:Env}{outer:List Env}{L e:Addr}{oe:Obj}{vs:Array Value}{head:Value}{hadNext:Bool}{Q:Unit->Shared->Prop}
  (CM:A.frames=some (env :: outer)) (hl:s.heap.FunFrames base (env :: outer)) (hf:env.frame=some L)
  (he:s.heap.get? e=some oe) (hd:oe.data = .fields vs) (hsz:1 < vs.size)
  (h:∀ h',F7 h' e oe.cls oe.dict [e,s.heap.objs.size]->qi (ly (env :: outer)) [e] s.heap h'->Q () { s with heap:=h' }) :
  wpAny M A (do let a ← frameOf env;let pl ← entryPlaceOf L hadNext;let b ← EntryCells.newEntry head a .none (rawInt L) .none pl;setField (.ref e) 1 b) (fun _ s'=>wpAny M A (setFlight (.ref e) none) Q E s') E s:=by
 have Q6:e ∉ (env :: outer).filterMap (·.frame):=fun hm=>by
  obtain⟨_,o,ho,K1⟩:=hl.mem hm
  rw[he]at ho;injection ho with ho;subst ho;exact K1 vs hd
 refine wpAny_bind (wpAny_frameOf_fun CM hl hf fun h₁ CQ=>?_)
 refine wpAny_bind (wpAny_entryPlaceOf fun pl Bl=>?_)
 unfold EntryCells.newEntry newFields
 refine wpAny_bind (wpAny_newObj_type ?_ (Bl.sizeOk5 _ _ _ _ _))
 have G6:h₁.get? e=some oe:=(CQ.2.1 e Q6).trans he
 have G7:=Heap.get?_push_of_some (h:=h₁) { cls := .type "traceback",dict:=none,data := .fields ([head, .ref L, .none,rawInt L, .none] ++ (if pl.isEmpty then List.replicate 6 Value.none else pl)).toArray } G6
 refine wpAny_setField G7 hd hsz ?_
 have EZ:h₁.objs.size ≠ e:=ne_of_gt (lt_size G6)
 have EA:=Obj.data_mapFields hd (·.setIfInBounds 1 (Value.ref h₁.objs.size))
 have EB:=Heap.get?_update_self (Obj.mapFields (·.setIfInBounds 1 (Value.ref h₁.objs.size))) G7 (Obj.isFreed_of_fields EA)
 have G8:=(Heap.get?_update_other (h₁.push { cls := .type "traceback",dict:=none,data := .fields ([head, .ref L, .none,rawInt L, .none] ++ (if pl.isEmpty then List.replicate 6 Value.none else pl)).toArray })
  (Obj.mapFields (·.setIfInBounds 1 (Value.ref h₁.objs.size))) (Ne.symm EZ)).trans (Heap.get?_push_size h₁ rfl)
 unfold setFlight
 refine wpAny_bind (wpAny_field EB EA (x := .ref h₁.objs.size) (by simp[hsz]) ?_)
 rw[if_pos (show(Value.ref h₁.objs.size != Value.none)=true from by simp)]
 refine wpAny_setField G8 rfl (by simp only[size_toArray,length_append,length_cons,length_nil]<;>omega) (h _ ?_ ?_)
 ·refine⟨_,_,?_,Obj.cls_mapFields _ _,jG hd _,EA, .inr ⟨h₁.objs.size,_,_,by simp[hsz],EZ,Heap.get?_update_self _ G8 (Obj.isFreed_of_fields (Obj.data_mapFields rfl _)),Obj.data_mapFields rfl _,by first | (simp;done) | (rcases Bl with rfl | ⟨_,_,_,_,_,_,_,rfl⟩<;>simp),by rw[CQ.1]⟩⟩
  rw[Heap.get?_update_other _ _ EZ];exact EB
 ·have keep:∀ b o,b ≠ e->h₁.get? b=some o ->
    (((h₁.push { cls := .type "traceback",dict:=none,data := .fields ([head, .ref L, .none,rawInt L, .none] ++ (if pl.isEmpty then List.replicate 6 Value.none else pl)).toArray }).update e (Obj.mapFields (·.setIfInBounds 1 (Value.ref h₁.objs.size)))).update h₁.objs.size
     (Obj.mapFields (·.setIfInBounds 3 ((none:Option Addr).elim Value.none fun f=>rawInt f)))).get? b=some o:=fun b o BQ hb=>by
   have Oj:h₁.objs.size ≠ b:=ne_of_gt (lt_size hb)
   rw[Heap.get?_update_other _ _ Oj,Heap.get?_update_other _ _ (Ne.symm BQ)]
   exact Heap.get?_push_of_some _ hb
  refine⟨fun b o hb hc Q7=>keep b o (by simpa using hc) ((CQ.2.1 b Q7).trans hb),fun b o hb hc=>?_,fun b o hb=>?_⟩
  ·obtain⟨sl,hs⟩:=CQ.2.2 b o hb
   exact⟨sl,keep b _ (by simpa using hc) hs⟩
  ·by_cases BQ:b=e
   ·subst BQ
    exact⟨_,by rw[Heap.get?_update_other _ _ EZ];exact EB⟩
   ·obtain⟨sl,hs⟩:=CQ.2.2 b o hb
    exact⟨_,keep b _ BQ hs⟩
theorem qO {base:Heap}{env:Env}{outer:List Env}{L e:Addr}{cls:Value}{dd:Option Addr}{ch:List Addr}{Q:Unit->Shared->Prop}
  (CM:A.frames=some (env :: outer)) (hl:s.heap.FunFrames base (env :: outer)) (hf:env.frame=some L) (x:F7 s.heap e cls dd ch)
  (h:∀ h' HY,F7 h' e cls dd HY->qi (ly (env :: outer)) ch s.heap h'->(∀ b ∈ HY,b ∈ ch∨s.heap.objs.size <= b)->Q () { s with heap:=h' }) :
  wpAny M A (noteFrame (.ref e) env) (fun _ s'=>wpAny M A (setFlight (.ref e) none) Q E s') E s:=by
 obtain⟨oe,vs,he,rfl,rfl,hd,⟨h1,rfl⟩ | ⟨T,oT,ts,h1,EZ,hT,Jl,h3,rfl⟩⟩:=x
 ·unfold noteFrame
  simp only[hf]
  refine wpAny_bind (wpAny_field he hd h1 ?_)
  rw[if_neg (by decide)]
  refine ki CM hl hf he hd (Array.getElem?_eq_some_iff.mp h1).1 fun h' f m=>h h' _ f m fun b hb=>?_
  simp only[mem_cons,not_mem_nil,or_false]at hb
  rcases hb with rfl | rfl
  ·exact .inl (by simp)
  ·exact .inr (Nat.le_refl _)
 ·unfold noteFrame
  simp only[hf]
  refine wpAny_bind (wpAny_field he hd h1 ?_)
  rw[if_pos (show(Value.ref T != Value.none)=true from by simp)]
  refine wpAny_bind (wpAny_field hT Jl h3 ?_)
  rw[if_neg (show ¬ ((Value.none == rawInt L)=true) from by simp[rawInt])]
  refine wpAny_bind (wpAny_setField hT Jl (Array.getElem?_eq_some_iff.mp h3).1 ?_)
  have other:∀ b,b ≠ T->(s.heap.update T (Obj.mapFields (·.setIfInBounds 3 Value.none))).get? b=s.heap.get? b:=fun b hb=>Heap.get?_update_other _ _ (Ne.symm hb)
  have K2:=Heap.get?_update_self (Obj.mapFields (·.setIfInBounds 3 Value.none)) hT (Obj.isFreed_of_fields (Obj.data_mapFields Jl _))
  have noRecord:∀ b o,s.heap.get? b=some o->(∀ vs,o.data ≠ .fields vs)->b ≠ T:=fun b o hb K1 q=>by
   rw[q,hT]at hb;injection hb with hb;subst hb;exact K1 ts Jl
  have K3:(s.heap.update T (Obj.mapFields (·.setIfInBounds 3 Value.none))).objs.size=s.heap.objs.size:=Heap.size_after_update _ _ _
  refine ki (s:={ s with heap:=s.heap.update T (Obj.mapFields (·.setIfInBounds 3 Value.none)) }) CM (hl.of_keeps fun b o hb K1=>⟨o,(other b (noRecord b o hb K1)).trans hb,rfl⟩) hf ((other e (Ne.symm EZ)).trans he) hd (Array.getElem?_eq_some_iff.mp h1).1
   fun h' f m=>h h' _ f ⟨fun b o hb hc Q7=>?_,fun b o hb hc=>?_,fun b o hb=>?_⟩ fun b hb=>?_
  ·simp only[mem_cons,not_mem_nil,or_false,not_or]at hc
   exact m.keep b o ((other b hc.2).trans hb) (by simpa using hc.1) Q7
  ·simp only[mem_cons,not_mem_nil,or_false,not_or]at hc
   exact m.slot b o ((other b hc.2).trans hb) (by simpa using hc.1)
  ·by_cases Oj:b=T
   ·subst Oj
    exact m.there b _ K2
   ·exact m.there b o ((other b Oj).trans hb)
  ·simp only[mem_cons,not_mem_nil,or_false]at hb
   rcases hb with rfl | rfl
   ·exact .inl (by simp)
   ·exact .inr (le_of_eq K3.symm)
theorem oC {base:Heap}{env:Env}{outer:List Env}{L e:Addr}{cls:Value}{dd:Option Addr}{ch:List Addr}{Q:Unit->Shared->Prop}
  (CM:A.frames=some (env :: outer)) (hl:s.heap.FunFrames base (env :: outer)) (hf:env.frame=some L) (x:F7 s.heap e cls dd ch)
  (h:∀ h' HY,F7 h' e cls dd HY->qi (ly (env :: outer)) ch s.heap h'->(∀ b ∈ HY,b ∈ ch∨s.heap.objs.size <= b)->Q () { s with heap:=h' }) :
  wpAny M A (leaving env (.ref e)) Q E s:=by
 unfold leaving
 exact wpAny_bind (qO CM hl hf x h)
end
section
variable {X:Cx}{pins:List (Addr × Obj)}{σ:St}{H:Hp}{s:Shared}
theorem Inv.F8 {h':Heap}{ch:List Addr}(I:Inv X pins σ H s)(m:qi (ly X.stack) ch s.heap h')
  (BR:∀ b ∈ ch,X.s₀.heap.get? b=none/\H b=none/\(∀ p ∈ X.pn ++ pins,p.1 ≠ b)/\∃ o vs,s.heap.get? b=some o/\o.data = .fields vs) :
  Inv X pins σ H { s with heap:=h' }:=by
 have K4:∀ b o,s.heap.get? b=some o->(∀ vs,o.data ≠ .fields vs)->b ∉ ch:=fun b o hb hn hc=>by
  obtain⟨_,_,_,o',vs,Bd,hd⟩:=BR b hc
  rw[hb]at Bd;cases Bd
  exact hn vs hd
 have cellK:∀ c v,s.heap.IsCell c v->h'.IsCell c v:=fun c v ⟨o,ho,hd⟩=>by
  obtain⟨sl,e⟩:=m.slot c o ho (K4 c o ho fun vs q=>by rw[hd]at q;cases q)
  exact⟨_,e,hd⟩
 refine⟨I.ok,I.os,I.bare,⟨fun b o e n hf hx=>?_,fun b o e n hf hx=>?_,I.base.free,fun b o e hx=>?_,I.base.BG,I.base.B4,I.base.BH⟩,?_,fun x c hc=>?_,I.free,I.As,fun p hp=>?_,fun b u e=>?_,I.len⟩
 ·have e1:=I.base.keep b o e n hf hx
  refine m.keep b o e1 (fun hc=>?_) fun hs=>?_
  ·rw[(BR b hc).1]at e;cases e
  ·rcases mem_cons.mp (I.Br b hs) with z | z
   ·rw[z]at e
    exact absurd (lt_size e) (Nat.not_lt.mpr I.ok.above)
   ·exact hf z
 ·obtain⟨sl,e1⟩:=I.base.slot b o e n hf hx
  obtain⟨Jh,e2⟩:=m.slot b _ e1 fun hc=>by rw[(BR b hc).1]at e;cases e
  exact⟨Jh,e2⟩
 ·obtain⟨o',e1⟩:=I.base.there b o e hx
  exact m.there b o' e1
 ·obtain⟨mm,⟨o,es,ep,ho,hd,r⟩,hl⟩:=I.loc
  obtain⟨sl,e⟩:=m.slot _ o ho (K4 _ o ho fun vs q=>by rw[hd]at q;cases q)
  refine⟨mm,⟨_,es,ep,e,hd,r⟩,fun i x v h1 h2 h3=>?_⟩
  obtain⟨u,ru,lk⟩:=hl i x v h1 h2 h3
  refine⟨u,ru,?_⟩
  rcases lk with ⟨a,b⟩ | ⟨a,c,hc,Ce⟩
  ·exact .inl ⟨a,b⟩
  ·exact .inr ⟨a,c,hc,cellK c _ Ce⟩
 ·obtain⟨v,hv⟩:=I.cell x c hc
  exact⟨v,cellK c v hv⟩
 ·obtain⟨a,b,c,d,e⟩:=I.pin p hp
  refine⟨m.keep _ _ a (fun hc=>(BR _ hc).2.2.1 p hp rfl) fun hs=>?_,b,c,d,e⟩
  rcases mem_cons.mp (I.Br _ hs) with z | z
  ·exact c z
  ·exact d z
 ·refine(I.zL b u e).B3 (fun c v hc q=>m.keep c v q (fun z=>?_) fun z=>?_) (fun _ q=>q) fun _ _ q=>q
  ·have n:=(BR c z).2.1
   rcases hc with rfl | hc
   ·rw[e]at n;cases n
   ·rw[hc]at n;cases n
  ·have n:=I.Cu c z
   rcases hc with rfl | hc
   ·rw[e]at n;cases n
   ·rw[hc]at n;cases n
noncomputable def eP (P:Program)(w:World):oX:=fun outer H s E ev s'=>∃ e cls dd ch H',ev = .ref e/\s'.os=s.os/\AllBare s'.gens/\Un (ly outer) [] H H' s.heap s'.heap/\AH P w H' s'.heap /\
 F7 s'.heap e cls dd ch/\(∀ b ∈ ch,s.heap.get? b=none/\H' b=none)/\E cls dd H'
noncomputable def XP (X:Cx)(pins:List (Addr × Obj))(σ:St)(E:XK)(ev:Value)(s':Shared):Prop:=∃ e cls dd ch H',ev = .ref e/\Inv X pins σ H' s'/\F7 s'.heap e cls dd ch /\
 (∀ b ∈ ch,X.s₀.heap.get? b=none/\H' b=none/\∀ p ∈ X.pn ++ pins,p.1 ≠ b)/\E cls dd H'
theorem Inv.EC (I:Inv X pins σ H s)(hex:X.ex=[]){b:Addr}(hb:s.heap.get? b=none):X.s₀.heap.get? b=none:=by
 cases q:X.s₀.heap.get? b with
 | none=>rfl
 | some o =>
  obtain⟨o',e⟩:=I.base.there b o q (by rw[hex];simp)
  rw[e]at hb;cases hb
theorem XP.K5 {E:XK}{ev:Value}{s':Shared}(I:Inv X pins σ H s)(hex:X.ex=[])(x:eP X.prog X.w X.stack H s E ev s'):XP X pins σ E ev s':=by
 obtain⟨e,cls,dd,ch,H',rfl,os,bare,un,zL,Ol,new,q⟩:=x
 refine⟨e,cls,dd,ch,H',rfl,I.FY (ch:=[]) os un zL bare (fun b z=>absurd z (by simp)),Ol,fun b hb=>⟨I.EC hex (new b hb).1,(new b hb).2,fun p hp z=>?_⟩,q⟩
 have:=(I.pin p hp).1
 rw[z,(new b hb).1]at this
 cases this
noncomputable def By (X:Cx)(E:XK):Prop:=∀ (pins:List (Addr × Obj))(σ:St)(ev:Value)(s':Shared),XP X pins σ E ev s'->X.xe ev s'
theorem By.passes {E:XK}(h:By X E)(hex:X.ex=[]):dR (eP X.prog X.w) X E:=fun pins σ H s ev s' I x=>h pins σ ev s' (XP.K5 I hex x)
theorem aP {P:Program}{w:World}{K:Frag}{mg:Str->Option Value}{base:Heap}{N:List Str}{qual:Str}{scope:Scope}{f:Addr}{cd:Value}{A:Around}{outer:List Env}{s:Shared}{H:Hp}{E:XK} :
  By (iI (eP P w) P w K mg base N qual scope f cd A outer s H E) E:=by
 intro pins σ ev s' x
 obtain⟨e,cls,dd,ch,H',rfl,I,Ol,BR,q⟩:=x
 refine oC (base:=base) (outer:=outer) I.ok.frames I.stack rfl Ol fun h' HY Q8 m new=>?_
 have I':=I.F8 m fun b hb=>⟨(BR b hb).1,(BR b hb).2.1,(BR b hb).2.2,Ol.rec b hb⟩
 refine⟨e,cls,dd,HY,H',rfl,I'.os,I'.bare,I'.base,I'.zL,Q8,fun b hb=>?_,q⟩
 rcases new b hb with z | z
 ·exact⟨(BR b z).1,(BR b z).2.1⟩
 ·exact⟨Heap.get?_none_of_le (le_trans I.sz z),I.zL.fresh z⟩
theorem pG {P:Program}{w:World}{K:Frag}{mg:Str->Option Value}{base:Heap}{N:List Str}{qual:Str}{scope:Scope}{f:Addr}{cd:Value}{A:Around}{outer:List Env}{s:Shared}{H:Hp}{E:XK} :
  PassesOwn (model P w) (iI (eP P w) P w K mg base N qual scope f cd A outer s H E).A (iI (eP P w) P w K mg base N qual scope f cd A outer s H E).env (iI (eP P w) P w K mg base N qual scope f cd A outer s H E).xe :=
 PassesOwn.leaving (Q₁:=fun e HK=>eP P w outer H s E e HK)
end
end L2
namespace L2
open PySem PySem.Spec PyProof.Rows
noncomputable def dX:List Value:=[.type "ValueError", .type "Exception", .type "BaseException", .type "object"]
noncomputable def lz:List Value->Bool
 | []=>false
 | .ref _ :: r=>lz r
 | l=>l == dX
theorem ju (self:Value):∀ {l:List Value},lz l=true->refuseLoop self "__setattr__" l=pure ()
 | .ref c :: r,e=>by rw[refuseLoop_ref];exact ju self e
 | .type a :: r,e=>by
  have e':(Value.type a :: r)=dX:=beq_iff_eq.mp e
  rw[e'];exact PySem.F.store_ValueError.passes self
 | .none :: r,e=>by have:=beq_iff_eq.mp (show(_ == dX)=true from e);cases this
 | .bool _ :: r,e=>by have:=beq_iff_eq.mp (show(_ == dX)=true from e);cases this
 | .int _ _ :: r,e=>by have:=beq_iff_eq.mp (show(_ == dX)=true from e);cases this
 | .float _ _ :: r,e=>by have:=beq_iff_eq.mp (show(_ == dX)=true from e);cases this
 | .str _ _ :: r,e=>by have:=beq_iff_eq.mp (show(_ == dX)=true from e);cases this
 | .bytes _ _ :: r,e=>by have:=beq_iff_eq.mp (show(_ == dX)=true from e);cases this
 | .builtin _ :: r,e=>by have:=beq_iff_eq.mp (show(_ == dX)=true from e);cases this
theorem jE:∀ {l:List Value},lz l=true->l.contains (.type "object")=true/\l.contains (.type "BaseException")=true/\l.isEmpty=false
 | .ref c :: r,e=>by
  obtain⟨a,b,_⟩:=jE (l:=r) e
  exact⟨by rw[contains_cons,a,Bool.or_true],by rw[contains_cons,b,Bool.or_true],rfl⟩
 | .type a :: r,e=>by
  have e':(Value.type a :: r)=dX:=beq_iff_eq.mp e
  rw[e'];exact⟨by decide,by decide,rfl⟩
 | .none :: r,e=>by have:=beq_iff_eq.mp (show(_ == dX)=true from e);cases this
 | .bool _ :: r,e=>by have:=beq_iff_eq.mp (show(_ == dX)=true from e);cases this
 | .int _ _ :: r,e=>by have:=beq_iff_eq.mp (show(_ == dX)=true from e);cases this
 | .float _ _ :: r,e=>by have:=beq_iff_eq.mp (show(_ == dX)=true from e);cases this
 | .str _ _ :: r,e=>by have:=beq_iff_eq.mp (show(_ == dX)=true from e);cases this
 | .bytes _ _ :: r,e=>by have:=beq_iff_eq.mp (show(_ == dX)=true from e);cases this
 | .builtin _ :: r,e=>by have:=beq_iff_eq.mp (show(_ == dX)=true from e);cases this
noncomputable def i7 (K:Frag)(C:Addr):Bool:=(PySem.W.clsIn K C).any fun cd=>lz cd.mro
structure gJ (K:Frag)(C:Addr):Prop where
 mro:i7 K C=true
 hd:hasDictIn K C=true
 sa:findIn K (.ref C) "__setattr__" = some (some (.builtin "object.__setattr__"))
 ga:findIn K (.ref C) "__getattribute__" = some (some (.builtin "BaseException.__getattribute__"))
 gn:findIn K (.ref C) "__getattr__" = some none
section
variable {prog:Program}{w:World}{A:Around}{E:Value->Shared->Prop}{s:Shared}{K:Frag}{x C:Addr}{ox:Obj}{name:Str}{v:Value}
open PySem.W in
theorem pH {R:Result->Shared->Prop}{od:Option Obj}{tk:Tok}(X:K.In s.heap)(I:PySem.W.InstAt s.heap x ox C od)(hp:i7 K C=true)(ht:findIn K (.ref C) name=some none)
  (h:∀ b,wpAny (model prog w) A.in1 (Builtin.ObjectAttr.storeInOwnDict (.ref x) (.ref C) (.str name tk) name v b)
   (fun fin s'=>match fin with | .done f=>R (.ok f) s' | .again c'=>c'.quiet=true/\codeAny (model prog w) A c' R s') (fun e s'=>R (.error e) s') s) :
  codeAny (model prog w) A (.call (.builtin "object.__setattr__") ⟨[.ref x, .str name tk,v],[]⟩) R s:=by
 have SF:=PySem.F.store_object
 obtain⟨cd,hc,ho⟩:=any_some hp
 obtain⟨h1,h2,ne⟩:=jE ho
 have sub:Looks (model prog w) s.heap (isInstance (.ref x) (.type "object")) true:=I.type.andThen (looks_mroIn X (by unfold mroIn;rw[hc,Option.bind_some,if_neg (by rw[ne];decide),h1]))
 refine codeAny_call_builtin SF.slot.plain SF.entry (@check_slot (model prog w) _ _ s "object.__setattr__" "object" "__setattr__" (.ref x) [.str name tk,v] [] _ SF.kind SF.split sub (SF.args (.ref x) (.str name tk) v) ?_)
 have hm:Looks (model prog w) s.heap (mroOf (.ref C)) cd.mro:=(looks_clsIn X hc).andThen .now
 have L3:Looks (model prog w) s.heap (Builtin.ObjectAttr.storeTaker? none) none := .now
 rw[osa_eq,refuse_eq]
 refine wpAny_bind (wpAny_bind (I.type.here (wpAny_bind (hm.here ?_))))
 rw[ju _ ho]
 refine wpAny_pure (wpAny_bind (I.type.here (wpAny_bind ((looks_findIn X ht).here (wpAny_bind (L3.here ?_))))))
 exact h _
theorem lL {vs:Array Value}{Q:Unit->Shared->Prop}(X:K.In s.heap)(hx:s.heap.get? x=some ⟨.ref C,none, .fields vs,#[]⟩)(c:gJ K C)(ht:findIn K (.ref C) name=some none)
  (h:∀ h' t',h'.get? x=some ⟨.ref C,some s.heap.objs.size, .fields vs,#[]⟩->h'.Ns1 s.heap.objs.size (fun y=>if y=name then some v else none) ->
   (∀ b o,b ≠ x->s.heap.get? b=some o->h'.get? b=some o)->Q () { s with heap:=h',toks:=t' }) :
  wpAny (model prog w) A (setAttr (.ref x) name v) Q E s:=by
 have I:PySem.W.InstAt s.heap x ⟨.ref C,none, .fields vs,#[]⟩ C none:=⟨hx,rfl,rfl,True.intro⟩
 refine PySem.W.set_plain X I c.sa (pH (s:={ s with toks:=s.toks + 1 }) X I c.mro ht fun b=>?_)
 obtain⟨cd,hc,HG⟩:=PySem.W.any_some c.hd
 obtain⟨hp,g,d,t,os⟩:=s
 dsimp only at X hx h I ⊢
 refine wpAny_bind (wpAny_pure (wpAny_bind (wpAny_bind (wpAny_loadPart hx (wpAny_bind (PySem.W.Looks.here (s:=⟨hp,g,d,t + 1,os⟩) (PySem.W.looks_clsIn X hc) ?_))))))
 rw[HG]
 have G9:(hp.push { cls := .type "dict",data := .dict #[] }).get? x=some ⟨.ref C,none, .fields vs,#[]⟩:=Heap.get?_push_of_some _ hx
 have V3:x ≠ hp.objs.size:=ne_of_lt (lt_size hx)
 rw[if_neg (by decide)]
 dsimp only
 rw[if_neg (by simp[typeHasDict])]
 refine wpAny_bind (wpAny_alloc' ?_)
 refine wpAny_bind (wpAny_update' G9 ?_)
 refine wpAny_pure ?_
 have hgd:((hp.push { cls := .type "dict",data := .dict #[] }).update x fun o=>{ cls:=o.cls,dict:=some hp.objs.size,data:=o.data,slots:=o.slots }).get? hp.objs.size
   = some { cls := .type "dict",data := .dict #[] } :=
  (Heap.get?_update_ne _ _ _ _ V3.symm).trans (Heap.get?_push_at rfl rfl)
 have Jk:((hp.push { cls := .type "dict",data := .dict #[] }).update x fun o=>{ cls:=o.cls,dict:=some hp.objs.size,data:=o.data,slots:=o.slots }).Ns hp.objs.size (fun _=>none) :=
  ⟨_,#[],_,hgd,rfl,fun e he=>absurd he (by simp),fun _=>rfl⟩
 show wpAny _ _ (Builtin.ObjectAttr.storeInDict hp.objs.size (.str name t) name v) _ _ _
 unfold Builtin.ObjectAttr.storeInDict Builtin.ObjectAttr.newKeyGuard
 refine wpAny_bind (wpAny_pure (wpAny_bind (wpAny_nsSet1 (Heap.Ns1.of_empty Jk) fun h' BV hs=>?_)))
 obtain⟨oD,Vj,Vk,Kb,Kc,Kd⟩:=BV.count (Within.cons name v Within.nil)
 refine wpAny_bind (wpAny_lookBehind Kb (by rw[Kc];exact pastItsLine_dict (le_trans Kd (by rw[length_cons,length_nil,sizeLine_eq];omega))) ?_)
 refine wpAny_pure (h h' _ ?_ BV fun b o hbx hb=>?_)
 ·exact(hs.2 x V3).trans (Heap.get?_update_self _ G9 rfl)
 ·exact(hs.2 b (ne_of_lt (lt_size hb))).trans ((Heap.get?_update_ne _ _ _ _ hbx).trans (Heap.get?_push_of_some _ hb))
open PySem.W in
end
end L2
namespace PySem
section
variable {prog:Program}{w:World}{A:Around}{E:Value->Shared->Prop}{h:Heap}{g:Array GenState}{d:Drawn}{t:Nat}{os:OsState}
variable {nm q:Str}{C N:Addr}{bs bm Om:List Value}{Bh:Bool}{sn:List Str}{sub:List Value}{ab:Bool}{col:Option Bool}{dd:Option Addr}{k0 k1 k2 k3 k5:Option Value}{B newId ED:String}
theorem gK (F:ExcBaseFacts B newId ED Om)(T:OwnTail h Om bm){mN:Str->Option Value}{rest:List Value}{fI:Addr}{oI:Obj}{Q:Fin->Shared->Prop}
  (hC:h.get? C=some (excClassObj nm q C N bs bm Bh sn sub ab col dd k0 k1 k2 k3 k5 newId)) (hn:h.Ns N mN) (hi:mN "__init__" = some (.ref fI))
  (Q9:h.get? fI=some oI) (QA:oI.cls = .type "function")
  (hq:wpAny (model prog w) A (call (.ref fI) (.ref (h.objs.size + 1) :: rest)) (fun r s'=>r = .none/\Q (.done (.ret (.ref (h.objs.size + 1)))) s') E
   ⟨(h.push { cls := .type "tuple",data := .seq rest.toArray }).push { cls := .ref C,data := .fields #[.ref h.objs.size, .none, .none, .none, .bool false, .none] },g,d,t,os⟩) (hrest:rest.length <= sizeLine:=by size_fits) :
  wpAny (model prog w) A (Builtin.«type.__call__» ⟨.ref C :: rest,[]⟩) Q E ⟨h,g,d,t,os⟩:=by
 repeat (first | with_reducible refine wpAny_loadPart_at hC ?_ | with_reducible refine wpAny_madeBy_exc hC ?_ | wp_step)
 refine codeAny_call_builtin_code (Code.quiet_builtin _ F.quiet) (wpAny_check_new_subT F T hC ?_)
 refine codeAny_exc_new_subT F T hC ?_ hrest
 show wpAny _ _ _ _ _ _
 have GA:=Heap.get?_push_of_some { cls := .ref C,data := .fields #[.ref h.objs.size, .none, .none, .none, .bool false, .none] }
  (Heap.get?_push_of_some { cls := .type "tuple",data := .seq rest.toArray } hC)
 have HZ:=Heap.get?_push_of_some { cls := .ref C,data := .fields #[.ref h.objs.size, .none, .none, .none, .bool false, .none] }
  (Heap.get?_push_of_some { cls := .type "tuple",data := .seq rest.toArray } Q9)
 have K6:((h.push { cls := .type "tuple",data := .seq rest.toArray }).push { cls := .ref C,data := .fields #[.ref h.objs.size, .none, .none, .none, .bool false, .none] }).Ns N mN :=
  let ⟨o,es,ep,e,r⟩:=hn; ⟨o,es,ep,Heap.get?_push_of_some _ (Heap.get?_push_of_some _ e),r⟩
 have Ib:((h.push { cls := .type "tuple",data := .seq rest.toArray }).push
   { cls := .ref C,data := .fields #[.ref h.objs.size, .none, .none, .none, .bool false, .none] }).get? (h.objs.size + 1)=some
   { cls := .ref C,data := .fields #[.ref h.objs.size, .none, .none, .none, .bool false, .none] }:=by heap_get
 have hcC:(Value.ref C :: bm).contains (.ref C)=true:=by simp
 have T₁:=T.keeps (h':=(h.push { cls := .type "tuple",data := .seq rest.toArray }).push { cls := .ref C,data := .fields #[.ref h.objs.size, .none, .none, .none, .bool false, .none] })
  fun b o e=>Heap.get?_push_of_some _ (Heap.get?_push_of_some _ e)
 unfold isInstance
 repeat (first | with_reducible refine wpAny_loadPart_at Ib ?_ | (with_reducible refine wpAny_isSubtype_exc GA ?_;rw[hcC]) | wp_step)
 show wpAny _ _ (typeLookup (.ref C) _) _ _ _
 refine wpAny_typeLookup_tail GA K6 T₁ F.mroIs F.init.lookup ?_
 rw[hi]
 refine wpAny_holding (wpAny_bind ?_)
 unfold bindSpecial
 refine wpAny_bind (wpAny_typeOf (T := "function") ⟨_,HZ,QA⟩ ?_)
 rw[if_pos (by decide)]
 refine wpAny_pure (wpAny_bind (wpAny_mono hq (fun r s' hr=>?_) fun _ _ x=>x))
 obtain⟨rfl,hQ⟩:=hr
 wp_walk
 exact hQ
theorem kL (F:ExcBaseFacts B newId ED Om)(T:OwnTail h Om bm){mN:Str->Option Value}{rest:List Value}{fI:Addr}{oI:Obj}{Q:Value->Shared->Prop}
  (hC:h.get? C=some (excClassObj nm q C N bs bm Bh sn sub ab col dd k0 k1 k2 k3 k5 newId)) (hn:h.Ns N mN) (hi:mN "__init__" = some (.ref fI))
  (Q9:h.get? fI=some oI) (QA:oI.cls = .type "function")
  (hq:wpAny (model prog w) (A.under (.builtin "type.__call__" ⟨.ref C :: rest,[]⟩)) (call (.ref fI) (.ref (h.objs.size + 1) :: rest)) (fun r s'=>r = .none/\Q (.ref (h.objs.size + 1)) s') E
   ⟨(h.push { cls := .type "tuple",data := .seq rest.toArray }).push { cls := .ref C,data := .fields #[.ref h.objs.size, .none, .none, .none, .bool false, .none] },g,d,t,os⟩) (hrest:rest.length <= sizeLine:=by size_fits) :
  wpAny (model prog w) A (call (.ref C) rest) Q E ⟨h,g,d,t,os⟩:=by
 have f1:=tc_lookup
 have f2:=tc_bind (.ref C)
 have hT:(⟨h,g,d,t,os⟩:Shared).TypeIs (.ref C) "type":=⟨_,hC,rfl⟩
 refine wpAny_call (codeAny_of_tree ?_)
 show wpAny _ _ (callAny (.ref C) _) _ _ _
 repeat (any_goals (first | assumption | with_reducible refine wpAny_loadPart_at hC ?_ | wp_step))
 refine⟨rfl,?_⟩
 refine codeAny_call_builtin_at (Code.quiet_builtin _ (by decide +kernel)) entry_typeCall (wpAny_check_type_call_sub hC (gK (hrest:=hrest) F T hC hn hi Q9 QA ?_))
 exact hq
end
section
variable {M:Model}{A:Around}{E:Value->Shared->Prop}{env:Env}
variable {nm q:Str}{C N:Addr}{bs bm:List Value}{Bh:Bool}{sn:List Str}{sub:List Value}{ab:Bool}{col:Option Bool}{dd:Option Addr}{k0 k1 k2 k3 k5:Option Value}{newId:String}
theorem gL {s:Shared}{x:Sem Value}{Q:Flow->Shared->Prop}(hh:A.handled=none)
  (h:wpAny M A x (fun v s₁=>∃ e t de nm q N bs bm Bh sn sub ab col dd k0 k1 k2 k3 k5 newId,v = .ref e/\bm.contains (.type "BaseException")=true/\s₁.heap.get? C=some (excClassObj nm q C N bs bm Bh sn sub ab col dd k0 k1 k2 k3 k5 newId) /\
   s₁.heap.get? e=some { cls := .ref C,dict:=de,data := .fields #[.ref t, .none, .none, .none, .bool false, .none] }/\E (.ref e) s₁) E s) :
  wpAny M A (raiseStmt env (some x) none) Q E s:=by
 unfold raiseStmt
 refine wpAny_bind (wpAny_mono h (fun v s₁ h₁=>?_) fun _ _ x=>x)
 obtain⟨e,t,de,nm,q,N,bs,bm,Bh,sn,sub,ab,col,dd,k0,k1,k2,k3,k5,newId,rfl,CI,hC,he,hE⟩:=h₁
 have hcB:(Value.ref C :: bm).contains (.type "BaseException")=true:=by rw[contains_cons,CI,Bool.or_true]
 obtain⟨hp,g,d,tk,os⟩:=s₁
 repeat (first | with_reducible refine wpAny_loadPart_at he ?_ | with_reducible refine wpAny_loadPart_at hC ?_ | (with_reducible refine wpAny_isSubtype_exc hC ?_;rw[hcB]) | wp_step)
 exact wpAny_raiseNew_none hh hE
end
end PySem
namespace L2
open PySem PySem.Spec PyProof.Rows
noncomputable def bz (K:Frag)(C:Addr)(init:Option Value):Bool:=match K.lookup C with
 | some ⟨.type "type",_, .cls cd,sl⟩=>(match cd.mro,sl.toList with
  | .ref C' :: bm,[_,_,_,_,some (.builtin n),_]=>C' == C && n == "ValueError.__new__" && !cd.hasDel && PySem.W.tailIn K dX bm && PySem.W.nsOkIn K cd.ns && nsIn K cd.ns "__init__" == some init
  | _,_=>false)
 | _=>false
theorem iw {K:Frag}{h:Heap}{N:Addr}{x:Str}{v:Value}(X:K.In h)(e:PySem.W.nsOkIn K N=true)(q:nsIn K N x=some (some v)):h.nsMap N x=some v:=by
 have G:h.Ns N (h.nsMap N) := .of_isNs (PySem.W.isNs_of_in X e)
 generalize h.nsMap N=m at G ⊢
 obtain⟨o,es,ep,ho,hd,_,hf⟩:=G
 unfold nsIn at q
 split at q
 ·rename_i c d FW n' sl z
  have:=X _ _ z
  rw[ho]at this
  cases this
  cases hd
  split at q
  ·rename_i en he
   cases q
   rw[← hf]
   unfold nsFind findBy
   rw[← Array.find?_toList,he]
   rfl
  ·split at q<;>cases q
 ·cases q
theorem l4 {K:Frag}{h:Heap}{C:Addr}{init:Option Value}(X:K.In h)(q:bz K C init=true):∃ bm N nm qn bs Bh sn sub ab col dd k0 k1 k2 k3 k5 mN,
  h.get? C=some (excClassObj nm qn C N bs bm Bh sn sub ab col dd k0 k1 k2 k3 k5 "ValueError.__new__")/\h.Ns N mN/\mN "__init__" = init/\OwnTail h dX bm:=by
 unfold bz at q
 split at q
 ·rename_i dd cd sl ho
  split at q
  ·rename_i C' bm k0 k1 k2 k3 n k5 hm hs
   simp only[Bool.and_eq_true,beq_iff_eq,Bool.not_eq_true']at q
   obtain⟨⟨⟨⟨⟨rfl,rfl⟩,K7⟩,ht⟩,zL⟩,GC⟩:=q
   obtain⟨nm,bs,mro,ns,qn,hd,sn,sub,ab,col,uL⟩:=cd
   dsimp only at hm K7 zL GC
   subst hm K7
   have Ic:sl = #[k0,k1,k2,k3,some (.builtin "ValueError.__new__"),k5]:=by
    obtain⟨l⟩:=sl
    simp only at hs
    rw[hs]
   subst Ic
   refine⟨bm,ns,nm,qn,bs,hd,sn,sub,ab,col,dd,k0,k1,k2,k3,k5,_,X _ _ ho, .of_isNs (PySem.W.isNs_of_in X zL),?_,PySem.W.tail_of_in X ht⟩
   cases init with
   | none=>exact PySem.W.nsMap_none_of_in X zL GC
   | some v=>exact iw X zL GC
  ·cases q
 ·cases q
theorem qj {h:Heap}{bm:List Value}(T:OwnTail h dX bm):bm.contains (.type "BaseException")=true:=T.hasType (by decide)
noncomputable def dD (C t:Addr)(dd:Option Addr):Obj:={ cls := .ref C,dict:=dd,data := .fields #[.ref t, .none, .none, .none, .bool false, .none] }
abbrev TX:=St->Hp->(Option Addr->Hp->Prop)->Prop
noncomputable def PX (X:Cx)(e:Expr)(C:Addr)(t:TX):Prop :=
 ∀ (pins:List (Addr × Obj))(s:Shared)(σ:St)(H:Hp)(R:Option Addr->Hp->Prop),Inv X pins σ H s->t σ H R->wpAny (model X.prog X.w) X.A (eval e X.env)
  (fun u s'=>∃ ea dd tt H',u = .ref ea/\Inv X pins σ H' s'/\s'.heap.get? ea=some (dD C tt dd)/\X.s₀.heap.get? ea=none/\H' ea=none/\(∀ p ∈ X.pn ++ pins,p.1 ≠ ea)/\R dd H') X.xe s
theorem AH.at {P:Program}{w:World}{H:Hp}{h:Heap}{a:Addr}{o:HO}(x:AH P w H h)(e:H a=some o):∃ ob,h.get? a=some ob:=by
 have q:=x a o e
 have all:∀ o,zV P w H h a o->∃ ob,h.get? a=some ob:=by
  intro o
  induction o with
  | lst xs=>intro ⟨_,zI,n,_,e⟩;exact⟨_,e⟩
  | tup xs=>intro ⟨_,zI,_,ob,e,_⟩;exact⟨_,e⟩
  | dK kvs=>intro ⟨_,_,vs,_,q⟩;obtain⟨o,es,ep,e,_⟩:=q;exact⟨_,e⟩
  | dT kvs=>intro ⟨_,_,xs,_,o,es,ep,e,_⟩;exact⟨_,e⟩
  | set S n=>intro q;obtain⟨o,_,_,_,e,_⟩:=q;exact⟨_,e⟩
  | ins C dx fs=>intro ⟨_,_,_,e,_⟩;exact⟨_,e⟩
  | own x=>intro ⟨o,e⟩;exact⟨_,e⟩
  | xd fs=>intro ⟨mA,⟨o,es,ep,e,_⟩,_⟩;exact⟨_,e⟩
  | NM lo hi=>intro ⟨_,_,_,e⟩;exact⟨_,e⟩
  | Bx o u ih=>intro ⟨e,_⟩;exact⟨_,e⟩
  | FV ps=>intro e;exact⟨_,e⟩
  | met f x=>intro e;exact⟨_,e⟩
  | ext φ=>intro ⟨_,e,_⟩;exact e
 exact all o q
theorem AH.none_of {P:Program}{w:World}{H:Hp}{h:Heap}{a:Addr}(x:AH P w H h)(e:h.get? a=none):H a=none:=by
 cases q:H a with
 | none=>rfl
 | some o =>
  obtain⟨ob,z⟩:=x.at q
  rw[e]at z;cases z
noncomputable def uL (H:Hp)(a:Addr):Hp:=fun b=>if b=a then none else H b
theorem mV {H:Hp}{a:Addr}:uL H a a=none:=if_pos rfl
theorem dO {H:Hp}{a b:Addr}(h:b ≠ a):uL H a b=H b:=if_neg h
theorem Inv.drop {X:Cx}{pins:List (Addr × Obj)}{σ:St}{H:Hp}{s:Shared}{a:Addr} {φ:Heap->Prop} (I:Inv X pins σ H s) (e:H a=some (.ext φ)):Inv X pins σ (uL H a) s:=by
 have nx:∀ b u,H b=some u->(∀ φ,u ≠ .ext φ)->b ≠ a:=fun b u q n z=>by rw[z,e]at q;cases q;exact n φ rfl
 have nn:∀ b,H b=none->uL H a b=none:=fun b q=>by unfold uL;split<;>first | rfl | exact q
 refine⟨I.ok,I.os,I.bare,⟨I.base.keep,I.base.slot,fun b o h1 h2 h3=>nn b (I.base.free b o h1 h2 h3),I.base.there,fun b xs q=>?_,fun b o u q=>?_,fun b ps q=>?_⟩,I.loc,I.cell,nn _ I.free,fun x c h=>nn _ (I.As x c h),fun p hp=>?_,fun b u q=>?_,I.len⟩
 ·have z:=I.base.BG b xs q
  rw[dO (nx b _ z fun φ h=>by cases h)];exact z
 ·have z:=I.base.B4 b o u q
  rw[dO (nx b _ z fun φ h=>by cases h)];exact z
 ·obtain⟨more,z⟩:=I.base.BH b ps q
  exact⟨more,by rw[dO (nx b _ z fun φ h=>by cases h)];exact z⟩
 ·obtain⟨h1,h2,h3⟩:=I.pin p hp
  exact⟨h1,nn _ h2,h3⟩
 ·have hb:b ≠ a:=fun z=>by rw[z,mV]at q;cases q
  rw[dO hb]at q
  refine(I.zL b u q).B3 (fun c v _ z=>z) (fun c z=>?_) fun c xs z=>?_
  ·rw[dO (nx c _ z fun φ h=>by cases h)];exact z
  ·rw[dO (nx c _ z fun φ h=>by cases h)];exact z
section
variable {X:Cx}{C f:Addr}{x:Str}{p pos apos:Pos}{e:Expr}{es:List Expr}{t:TA}
noncomputable def xz (t:TA):TX:=fun σ H R=>t σ H fun vs H1=>vs.length <= sizeLine/\R none H1
theorem ca (hq:bz X.K C none=true)(kp:keepIn X.K (.ref C)=true)(hex:X.ex=[])(hg:Gl X x)(hm:X.mg x=some (.ref C))(ha:PA X (e :: es) t)
  (E5:(x == ("__debug__":Str))=false:=by decide) (he:starEach (e :: es) X.env=(false,eval e X.env) :: starEach es X.env:=by rfl) (Bl:(backTo pos (starEach es X.env)).any (·.1)=false:=by rfl) :
  PX X (.Call (.Name x p) (e :: es) [] pos) C (xz t):=by
 intro pins s σ H R I h
 refine wpAny_Call_Name_kw (ie I hg hm ?_ E5)
 refine PySem.W.callWith_K (h₀:=X.base) I.ok.mod.Em kp (aT (ha pos pins s σ H _ I h) fun us s1 ⟨vs,H1,I1,r,hl,q⟩=>⟨I1.AF,?_⟩) he Bl
 obtain⟨bm,N,nm,qn,bs,Bh,sn,sub,ab,col,dd,k0,k1,k2,k3,k5,mN,hC,hn,GC,T⟩:=l4 I1.AF hq
 obtain⟨hp,g,d,tk,os⟩:=s1
 refine wpAny_call_exc_subT (hrest:=by show us.length <= _;rw[← r.length];exact hl) PySem.F.excBase_ValueError T hC hn GC fun h' ea Ck=>?_
 obtain⟨tt,ht,_,_⟩:=Ck.there
 refine⟨ea,none,tt,H1,rfl,I1.kept (t':=tk) Ck.keeps,ht,I1.EC hex Ck.new,I1.zL.none_of Ck.new,fun p hp z=>?_,q⟩
 have:=(I1.pin p hp).1
 rw[z]at this
 have h2:=Ck.new
 rw[this]at h2
 cases h2
noncomputable def bK (e C t:Addr)(dd:Option Addr):HO := .ext fun h=>h.get? e=some (dD C t dd)
theorem jF {P:Program}{w:World}{H:Hp}{h:Heap}{e C t:Addr}{dd:Option Addr}(q:h.get? e=some (dD C t dd)):zV P w H h e (bK e C t dd) :=
 ⟨q,⟨_,q⟩,fun h1 h2 a b=>b _ a⟩
noncomputable def x5 (C:Addr)(sp:Sp)(t:TA):TX:=fun σ H R=>t σ H fun vs H1=>vs.length <= sizeLine/\∀ e tt,H1 e=none->sp (.ref e :: vs) (upd H1 e (bK e C tt none)) (fun v H2=>v = .zT/\∃ dd,H2 e=some (bK e C tt dd)/\R dd (uL H2 e)) E0
theorem iP {k:Nat}{fd:FuncData}{ps:List Str}{sp:Sp}(hq:bz X.K C (some (.ref f))=true)(hf:isFn X.K (.ref f)=true)(kp:keepIn X.K (.ref C)=true)(F:zE X.prog X.w X.K X.mg X.base aG k f fd ps sp)(hr:zN (k + 1) X.A)(hb:Binds X.K fd ps [])
  (hg:Gl X x) (hm:X.mg x=some (.ref C)) (ha:PA X (e :: es) t)
  (E5:(x == ("__debug__":Str))=false:=by decide) (he:starEach (e :: es) X.env=(false,eval e X.env) :: starEach es X.env:=by rfl) (Bl:(backTo pos (starEach es X.env)).any (·.1)=false:=by rfl) :
  PX X (.Call (.Name x p) (e :: es) [] pos) C (x5 C sp t):=by
 intro pins s σ H R I h
 refine wpAny_Call_Name_kw (ie I hg hm ?_ E5)
 refine PySem.W.callWith_K (h₀:=X.base) I.ok.mod.Em kp (aT (ha pos pins s σ H _ I h) fun us s1 ⟨vs,H1,I1,r,hl,q⟩=>⟨I1.AF,?_⟩) he Bl
 obtain⟨bm,N,nm,qn,bs,Bh,sn,sub,ab,col,dd,k0,k1,k2,k3,k5,mN,hC,hn,GC,T⟩:=l4 I1.AF hq
 obtain⟨oI,V4,hcI⟩:∃ oI,s1.heap.get? f=some oI/\oI.cls = .type "function":=by
  have z:=beq_iff_eq.mp hf
  obtain⟨o,ho,z⟩:=Option.map_eq_some_iff.mp (show(X.K.lookup f).map (·.cls)=some (.type "function") from z)
  exact⟨o,I1.AF _ _ ho,z⟩
 obtain⟨hp,g,d,tk,os⟩:=s1
 dsimp only at hC hn T V4
 refine kL (hrest:=by show us.length <= _;rw[← r.length];exact hl) PySem.F.excBase_ValueError T hC hn GC V4 hcI ?_
 have nE:hp.objs.size <= hp.objs.size + 1:=le_succ _
 have V5:=q (hp.objs.size + 1) hp.objs.size (I1.zL.fresh nE)
 have Ib:((hp.push { cls := .type "tuple",data := .seq us.toArray }).push (dD C hp.objs.size none)).get? (hp.objs.size + 1)=some (dD C hp.objs.size none):=by
  have:=Heap.get?_push_size (hp.push { cls := .type "tuple",data := .seq us.toArray }) (o:=dD C hp.objs.size none) rfl
  rwa [size_push]at this
 have I2:Inv X pins σ (upd H1 (hp.objs.size + 1) (bK (hp.objs.size + 1) C hp.objs.size none)) ⟨(hp.push { cls := .type "tuple",data := .seq us.toArray }).push (dD C hp.objs.size none),g,d,tk,os⟩ :=
  I1.laid (t':=tk) (fun b u z=>Heap.get?_push_of_some _ (Heap.get?_push_of_some _ z)) nE (jF Ib)
 have r2:Vals (V.ref (hp.objs.size + 1) :: vs) (Value.ref (hp.objs.size + 1) :: us) := .cons rfl r
 have Fw:(Value.ref (hp.objs.size + 1) :: us ++ []).length=ps.length:=by
  have e:=r2.length
  rw[F.len _ _ _ _ V5]at e
  rw[append_nil];exact e.symm
 have K8:=hb ⟨(hp.push { cls := .type "tuple",data := .seq us.toArray }).push (dD C hp.objs.size none),g,d,tk,os⟩ (Value.ref (hp.objs.size + 1) :: us) I2.AF Fw
 rw[append_nil]at K8
 refine wpAny_call (codeAny_mono (F.run _ X.stack _ _ ⟨Value.ref (hp.objs.size + 1) :: us,[]⟩ (Value.ref (hp.objs.size + 1) :: us) _ _ E0 (hr.make C us []) (I2.HI.make C us []) K8 r2 V5) fun rr s' Cv=>?_)
 cases rr with
 | error e=>exact Cv.elim
 | ok fl =>
  cases fl with
  | ret u =>
   obtain⟨v,H',I3,rv,ev,de,Dh,q3⟩:=I2.after Cv
   subst ev
   refine⟨rv,hp.objs.size + 1,de,hp.objs.size,uL H' (hp.objs.size + 1),rfl,I3.drop Dh,(I3.zL _ _ Dh).1,Heap.get?_none_of_le (le_trans I1.sz nE),mV,fun p B6 z=>?_,q3⟩
   have:=lt_size (I1.pin p B6).1
   rw[z]at this
   exact absurd this (Nat.not_lt.mpr nE)
  | next=>exact False.elim Cv
  | brk=>exact False.elim Cv
  | cont=>exact False.elim Cv
noncomputable def x9 (C:Addr)(E:XK)(t:TX):TS:=fun _ σ H=>t σ H fun dd H1=>E (.ref C) dd H1
theorem b9 {E:XK}{tx:TX}{init:Option Value}(hc:X.calm=true)(hq:bz X.K C init=true)(hx:By X E)(h:PX X e C tx):PS X (.Raise (some e) none pos) (x9 C E tx):=by
 intro pins s σ H D I hw
 rw[arm_exec_Raise]
 have key:wpAny (model X.prog X.w) X.A (eval e X.env) (fun v s₁=>∃ ea t de nm q N bs bm Bh sn sub ab col dd k0 k1 k2 k3 k5 newId,v = .ref ea/\bm.contains (.type "BaseException")=true/\s₁.heap.get? C=some (excClassObj nm q C N bs bm Bh sn sub ab col dd k0 k1 k2 k3 k5 newId) /\
   s₁.heap.get? ea=some { cls := .ref C,dict:=de,data := .fields #[.ref t, .none, .none, .none, .bool false, .none] }/\X.xe (.ref ea) s₁) X.xe s:=by
  refine aT (h pins s σ H _ I hw) fun u s1 zH=>?_
  obtain⟨ea,dd,tt,H',eu,I1,ho,hn,hh,hp,q⟩:=zH
  obtain⟨bm,N,nm,qn,bs,Bh,sn,sub,ab,col,ddc,k0,k1,k2,k3,k5,mN,hC,HQ,GC,T⟩:=l4 I1.AF hq
  refine⟨ea,tt,dd,nm,qn,N,bs,bm,Bh,sn,sub,ab,col,ddc,k0,k1,k2,k3,k5,_,eu,qj T,hC,ho,hx pins σ _ _ ⟨ea, .ref C,dd,[ea],H',rfl,I1,⟨_,_,ho,rfl,rfl,rfl, .inl ⟨rfl,rfl⟩⟩,fun b hb=>?_,q⟩⟩
  simp only[mem_singleton]at hb
  subst hb
  exact⟨hn,hh,hp⟩
 first
  | refine wpAny_bind (wpAny_standAt (gL (C:=C) (I.ok.hd hc) (wpAny_bind (wpAny_mono key (fun v s₃ h₃=>wpAny_bind (wpAny_standAt (wpAny_pure h₃))) fun _ _ x=>x))))
  | (simp only[evalOpt,Option.map];refine wpAny_bind (wpAny_standAt (gL (C:=C) (I.ok.hd hc) (wpAny_bind (wpAny_mono key (fun v s₃ h₃=>wpAny_bind (wpAny_standAt (wpAny_pure h₃))) fun _ _ x=>x)))))
end
end L2
namespace L2
open PySem PySem.Spec PyProof.Rows
section
variable {prog:Program}{w:World}{A:Around}{E:Value->Shared->Prop}{s:Shared}{K:Frag}{x C:Addr}{ox:Obj}{od:Option Obj}{name:Str}{v:Value}
open PySem.W in
open PySem.W in
end
section
variable {X:Cx}{pins:List (Addr × Obj)}{σ:St}{H:Hp}{s:Shared}{ea:Addr}{oe:Obj}
end
end L2
namespace L2
open PySem PySem.Spec PyProof.Rows
noncomputable def KA (K:Frag)(ta tv:TE)(f:Str):TS:=fun D σ H=>tv σ H fun y H1=>ta σ H1 fun x H2=>∃ a C tt,x = .ref a/\H2 a=some (bK a C tt none)/\gJ K C/\findIn K (.ref C) f=some none /\
 ∀ d,H2 d=none->D.nx σ (upd (upd H2 d (.xd [(f,y)])) a (bK a C tt (some d)))
section
variable {X:Cx}{o e value:Expr}{f:Str}{pos pos':Pos}{ta tv:TE}
theorem lc (ha:PE X o ta)(hv:PE X value tv)(hs:swapsWith value (some (.Attribute o f pos')) pos.line X.env=pure false):PS X (.Assign [.Attribute o f pos'] value pos) (KA X.K ta tv f):=by
 intro pins s σ H D I h
 refine plainObj_wpAny_Assign_Attribute (aT (hv pins s σ H _ I h) fun u s1 ⟨y,H1,I1,ry,q⟩=>aT (ha pins s1 σ H1 _ I1 q) fun ov s2 zH=>?_) hs
 obtain⟨x,H2,I2,rx,a,C,tt,ex,ea,c,n,q2⟩:=zH
 subst ex
 obtain rfl:ov=Value.ref a:=rx
 have ho:s2.heap.get? a=some (dD C tt none):=(I2.zL a _ ea).1
 have Ae:a < s2.heap.objs.size:=lt_size ho
 refine lL I2.AF ho c n fun h' t' C9 BV hk=>⟨σ,_,?_,q2 s2.heap.objs.size (I2.zL.fresh (Nat.le_refl _))⟩
 obtain⟨od,es,ep,Et,r⟩:=id BV
 have CM:od.isFreed=false:=(Heap.get?_some_iff.mp Et).2
 have CS:(s2.heap.push od).get? s2.heap.objs.size=some od:=Heap.get?_push_size s2.heap CM
 have I3:=I2.laid (a:=s2.heap.objs.size) (o := .xd [(f,y)]) (h':=s2.heap.push od) (t':=s2.toks) (fun b u z=>Heap.get?_push_of_some _ z) (Nat.le_refl _)
  ⟨_,BV.at (fun o z=>by rw[Et]at z;cases z;exact CS),fun g=>by
   by_cases hg:g=f
   ·have hb:(g == f)=true:=beq_iff_eq.mpr hg
    simp only[List.lookup,hb,if_pos hg]
    exact ry
   ·have hb:(g == f)=false:=beq_eq_false_iff_ne.mpr hg
    simp only[List.lookup,hb,if_neg hg]
    trivial⟩
 have Af:a ≠ s2.heap.objs.size:=ne_of_lt Ae
 refine I3.write (x:=a) (e:=a) (h':=h') (t':=t') (by rw[af Af,ea];exact True.intro) (.inl rfl) (fun b u hb z=>?_) ⟨_,C9⟩ (jF C9)
 by_cases KC:b=s2.heap.objs.size
 ·subst KC
  have z':(s2.heap.push od).get? s2.heap.objs.size=some u:=z
  rw[CS]at z'
  cases z'
  exact Et
 ·have z':s2.heap.get? b=some u:=by
   have z0:(s2.heap.push od).get? b=some u:=z
   exact(Heap.get?_push_cases z0).elim (fun w=>absurd w.1 KC) fun w=>w
  exact hk b u hb z'
end
section
variable {P:Program}{w:World}{K:Frag}{mg:Str->Option Value}{base:Heap}
theorem Ab.Fb {x qual:Str}{st:Stmt}{f:Addr}{fd:FuncData}{N ps:List Str}{k:Nat}{sp:Sp}(F:Ab K x qual st f fd)(S:am N ps (ai st))(len:∀ vs H Q E,sp vs H Q E->vs.length=ps.length)
  (BJ:∀ (cdv:Value)(A:Around)(outer:List Env)(s:Shared)(H:Hp)(vs:List V)(Q:VK)(E:XK),zN k (A.deeper (envOfC qual (ai st) s.heap.objs.size f cdv))->sp vs H Q E ->
   ∃ t,Dn (iI (eP P w) P w K mg base N qual (ai st) f cdv A outer s H E) (aJ st) t/\t { nx:=fun _ H'=>Q .zT H',rt:=Q } (start N vs) H):zE P w K mg base (eP P w) (k + 1) f fd ps sp:=by
 obtain⟨oc,od,kV,doc,pm,an,cdv,ct,Dv,rfl,lk,Dp⟩:=F.ex
 exact uA lk Dp S len fun A outer s H vs Q E hr Eo=>BJ cdv A outer s H vs Q E hr Eo
end
theorem ir {P:Program}{w:World}{X:Cx}:dR (eP P w) X E0:=fun _ _ _ _ _ _ _ zH=>by obtain⟨_,_,_,_,_,_,_,_,_,_,_,_,h⟩:=zH;exact h.elim
section
variable {X:Cx}{k:Nat}{f C:Addr}{fd:FuncData}{ps:List Str}{sp:Sp}{AV:List V}{ds:List Value}{x m:Str}{p pos apos:Pos}{e o:Expr}{es:List Expr}{ta:TE}{t:TA}
end
section
variable {X:Cx}{e:Expr}{t:St->Hp->VK->XK->Prop}{pos DV:Pos}{n:Str}{i:Nat}
end
section
variable {M:Model}{A:Around}{E:Value->Shared->Prop}{s:Shared}
end
end L2
namespace PySem
open Sem (wp)
open AutoSeq1 (wpAny_loadPart')
theorem eC (l:Addr)(items:Array Value)(n:Nat)(QB:Option Addr)(sl:Array (Option Value)) :
  Meets (Builtin.«enumerate.__new__» ⟨[.type "enumerate", .ref l],[]⟩) (fun _ R s=>s.heap.get? l=some { cls := .type "tuple",dict:=QB,data := .seq items n,slots:=sl } /\
   R (.ok (.ret (.ref (s.heap.push { cls := .type "tuple_iterator",data := .fields #[.ref l, .int 0 0] }).objs.size)))
    { s with heap:=(s.heap.push { cls := .type "tuple_iterator",data := .fields #[.ref l, .int 0 0] }).push { cls := .type "enumerate",data := .fields #[.none, .bool false, .ref s.heap.objs.size,rawInt 0, .none, .none] } }) :=
 .of_wp fun prog w A R s h=>by
  obtain⟨hp,g,d,tk,os⟩:=s;obtain⟨hl,h⟩:=h
  have F2:=sub_enumerate
  have hL:Heap.IsTuple (Shared.heap ⟨hp,g,d,tk,os⟩) l items:=⟨_,hl,rfl,n,rfl⟩
  wp_walk using wpAny_loadPart' hl
  refine wpAny_stack_any fun st=>wpAny_pure ?_
  split
  ·rename_i c _ _ _ _ _
   cases (c == Value.type "enumerate")
   ·wp_walk using wpAny_loadPart' hl,wpAny_pyIter_tuple hL
    exact⟨_,rfl,h⟩
   ·wp_walk using wpAny_loadPart' hl,wpAny_pyIter_tuple hL
    exact⟨_,rfl,h⟩
  ·wp_walk using wpAny_loadPart' hl,wpAny_pyIter_tuple hL
   exact⟨_,rfl,h⟩
section
variable {prog:Program}{w:World}{A:Around}{E:Value->Shared->Prop}{s:Shared}
theorem eD {l:Addr}{items:Array Value}{Q:Value->Shared->Prop}(hL:s.heap.IsTuple l items)
  (h:∀ h',IsEnum h' (s.heap.objs.size + 1) s.heap.objs.size 0 .none->h'.IsTupleIter s.heap.objs.size l 0->h'.objs.size=s.heap.objs.size + 2 ->
   (∀ b o,s.heap.get? b=some o->h'.get? b=some o)->Q (.ref (s.heap.objs.size + 1)) { s with heap:=h' }) :
  wpAny (model prog w) A (call (.type "enumerate") [.ref l]) Q E s:=by
 obtain⟨⟨c,QB,dt,sl⟩,hl,hc,n,hd⟩:=hL
 replace hc:c = .type "tuple":=hc
 replace hd:dt = .seq items n:=hd
 subst hc hd
 refine callType_new F.called_enumerate (by decide) (F.typeCall_enumerate_1 _) (F.newCall_enumerate_1 _) (fun obj=>F.args_object_init_2 obj _) F.entry_enumerate_new
  (eC l items n QB sl) ⟨hl,?_⟩
 have hz:(s.heap.push { cls := .type "tuple_iterator",data := .fields #[.ref l, .int 0 0] }).objs.size=s.heap.objs.size + 1:=size_push ..
 show _/\_
 rw[hz]
 have he:IsEnum ((s.heap.push { cls := .type "tuple_iterator",data := .fields #[.ref l, .int 0 0] }).push
   { cls := .type "enumerate",data := .fields #[.none, .bool false, .ref s.heap.objs.size,rawInt 0, .none, .none] }) (s.heap.objs.size + 1) s.heap.objs.size 0 .none:=by
  have:=Heap.get?_push_size (s.heap.push { cls := .type "tuple_iterator",data := .fields #[.ref l, .int 0 0] })
   (o:={ cls := .type "enumerate",data := .fields #[.none, .bool false, .ref s.heap.objs.size,rawInt 0, .none, .none] }) rfl
  rw[hz]at this;exact this
 refine⟨⟨_,he,rfl⟩,h _ he ⟨_,Heap.get?_push_of_some _ (Heap.get?_push_size _ rfl),rfl,rfl⟩ (by rw[size_push,hz]) fun b o x=>Heap.get?_push_of_some _ (Heap.get?_push_of_some _ x)⟩
theorem fX {it l:Addr}{i:Nat} {items} {x:Value} {Q:Value->Shared->Prop} (hit:s.heap.IsTupleIter it l i)
  (hl:s.heap.IsTuple l items) (hx:items[i]? = some x)
  (hQ:∀ h',h'.IsTupleIter it l (i + 1)->Heap.SameBut it s.heap h'->Q x { s with heap:=h' }) :
  wpAny (model prog w) A (Builtin.SmallTypes.nextOf (.ref it)) Q E s:=by
 obtain⟨o,ho,hc,hd⟩:=id hit
 obtain⟨ol,Gv,_,nl,Gz⟩:=hl
 unfold Builtin.SmallTypes.nextOf
 refine wpAny_bind (wpAny_callSpecial?_slot (name:=Str.ofString "__next__") hit.typeIs F.slot_tuple_iterator_next
  (wpAny_call_entry F.slot_tuple_iterator_next hit.typeIs F.entry_tuple_iterator_next ?_ (F.args_tuple_iterator_next_1 _)))
 show wpAny _ _ (field (.ref it) 0 >>= _) _ _ s
 refine wpAny_bind (wpAny_field ho hd (x := .ref l) rfl ?_)
 show wpAny _ _ (if (Value.ref l == Value.none)=true then _ else _) _ _ s
 rw[if_neg (show ¬ ((Value.ref l == Value.none)=true) from Bool.false_ne_true)]
 show wpAny _ _ (field (.ref it) 1 >>= _) _ _ s
 refine wpAny_bind (wpAny_field ho hd (x := .int i 0) rfl ?_)
 show wpAny _ _ (seqItems? (.ref l) >>= _) _ _ s
 refine wpAny_bind (wpAny_seqItems Gv Gz ?_)
 simp only[toNat_natCast,hx]
 refine wpAny_bind (wpAny_setField ho hd (by simp) (wpAny_pure ⟨x,rfl,wpAny_pure (hQ _ ?_ (Heap.SameBut.update ..))⟩))
 exact⟨_,Heap.get?_update_self _ ho (Obj.isFreed_of_fields (Obj.data_mapFields hd _)),(Obj.cls_mapFields ..).trans hc,by
  rw[Obj.data_mapFields hd];simp[rawInt]⟩
theorem gs {it l:Addr}{i:Nat} {items} {Q:Value->Shared->Prop} (hh:A.handled=none)
  (hit:s.heap.IsTupleIter it l i) (hl:s.heap.IsTuple l items) (hx:items[i]? = none)
  (hE:∀ h' e,Heap.ExtBut it s.heap h'->(∃ o,h'.get? e=some o/\o.cls = .type "StopIteration")->E (.ref e) { s with heap:=h' }) :
  wpAny (model prog w) A (Builtin.SmallTypes.nextOf (.ref it)) Q E s:=by
 obtain⟨o,ho,hc,hd⟩:=id hit
 obtain⟨ol,Gv,_,nl,Gz⟩:=hl
 unfold Builtin.SmallTypes.nextOf
 refine wpAny_bind (wpAny_callSpecial?_slot (name:=Str.ofString "__next__") hit.typeIs F.slot_tuple_iterator_next
  (wpAny_call_entry F.slot_tuple_iterator_next hit.typeIs F.entry_tuple_iterator_next ?_ (F.args_tuple_iterator_next_1 _)))
 show wpAny _ _ (field (.ref it) 0 >>= _) _ _ s
 refine wpAny_bind (wpAny_field ho hd (x := .ref l) rfl ?_)
 show wpAny _ _ (if (Value.ref l == Value.none)=true then _ else _) _ _ s
 rw[if_neg (show ¬ ((Value.ref l == Value.none)=true) from Bool.false_ne_true)]
 show wpAny _ _ (field (.ref it) 1 >>= _) _ _ s
 refine wpAny_bind (wpAny_field ho hd (x := .int i 0) rfl ?_)
 show wpAny _ _ (seqItems? (.ref l) >>= _) _ _ s
 refine wpAny_bind (wpAny_seqItems Gv Gz ?_)
 simp only[toNat_natCast,hx]
 refine wpAny_bind (wpAny_rule (wpAny_bind (wpAny_setField ho hd (by simp) ?_)))
 show wpAny _ _ (newExc (.type "StopIteration") [] >>= _) _ _ _
 refine wpAny_bind ?_
 simp only[newExc,newTuple]
 refine wpAny_bind (wpAny_newObj_type ?_ (by size_fits))
 refine wpAny_bind (m:=firstArgMember _ _) (wpAny_of_eq (a:=Value.none) (by first | rfl | (simp only[firstArgMember];rfl)) ?_)
 refine wpAny_newObj_type ?_ (by size_fits)
 simp only[raiseNew]
 refine wpAny_bind (wpAny_handled ?_)
 first | rw[show A.in1.handled=none from hh] | rw[hh]
 refine wpAny_bind (wpAny_pure (wpAny_throw ?_))
 exact hE _ _ (((Heap.SameBut.update ..).extBut.push _).push _) ⟨_,Heap.get?_push_size _ rfl,rfl⟩
end
theorem fZ {prog:Program}{w:World}{A:Around}(hh:A.handled=none)(it l:Addr)(Af:l ≠ it)(items:Array Value) :
  Draws prog w A it [it,l] items.size (fun i v=>items[i]? = some v) (fun i h=>h.IsTupleIter it l i/\h.IsTuple l items) where
 live:=fun _ _ st=>let ⟨o,ho,_⟩:=st.1; ⟨o,ho⟩
 frame:=fun _ _ _ st hk=>⟨st.1.at fun o e=>hk it (by simp) o e,let ⟨o,ho,r⟩:=st.2; ⟨o,hk l (by simp) o ho,r⟩⟩
 item:=fun i s Q E hi st hQ=>by
  refine fX st.1 st.2 (x:=items[i]) (by simp[hi]) fun h' QC Jm=>?_
  exact hQ _ h' s.toks (by simp[hi]) ⟨QC,let ⟨o,ho,r⟩:=st.2; ⟨o,Jm.extBut l o Af ho,r⟩⟩ Jm
 done:=fun s Q E st hE=>gs hh st.1 st.2 (by simp) hE
end PySem
namespace L2
open PySem PySem.Spec PyProof.Rows
section
variable {X:Cx}{pins:List (Addr × Obj)}{σ:St}{H:Hp}{s:Shared}
theorem Inv.Ie {h':Heap}{t':Nat}{a b p:Addr}{xs:List V}{us:List Value}(I:Inv X pins σ H s)(fa:fY X pins H a)(fb:fY X pins H b)(hp:s.heap.objs.size <= p)
  (k:∀ c o,c ≠ a->c ≠ b->s.heap.get? c=some o->h'.get? c=some o) (ka:∃ o,h'.get? a=some o) (kb:∃ o,h'.get? b=some o) (hl:xs.length <= sizeLine) (r:Vals xs us) (ht:AJ h' p us.toArray) :
  Inv X pins σ (upd H p (.tup xs)) { s with heap:=h',toks:=t' }:=by
 have hf:H p=none:=I.zL.fresh hp
 have nt:∀ c u,H c=some u->c ≠ p:=fun c u q z=>by rw[z,hf]at q;cases q
 have lt:∀ c o,s.heap.get? c=some o->c ≠ p:=fun c o q=>ne_of_lt (lt_of_lt_of_le (lt_size q) hp)
 have ne:∀ c,c ∉ [a,b]->c ≠ a/\c ≠ b:=fun c hc=>by simpa using hc
 refine I.call (g':=s.gens) (d':=s.drawn) (ch:=[a,b]) ⟨fun c o e n h1 h2=>k c o (ne c h2).1 (ne c h2).2 e,fun c o e n h1 h2=>⟨o.slots,k c o (ne c h2).1 (ne c h2).2 e⟩,fun c o e n h2=>by rw[af (lt c o e)];exact n,
  fun c o e h2=>⟨o,k c o (ne c h2).1 (ne c h2).2 e⟩,fun c ys q=>by rw[af (nt c _ q)];exact q,fun c o u q=>by rw[af (nt c _ q)];exact q,fun c ps q=>⟨#[],by rw[af (nt c _ q),q];simp⟩⟩ (fun c u q=>?_) I.bare fun c hc=>?_
 ·by_cases hc:c=p
  ·subst hc
   rw[ac]at q
   cases q
   exact⟨hl,us,r,ht⟩
  ·rw[af hc]at q
   refine(I.zL c u q).B3 (fun d v hd z=>?_) (fun d z=>by rw[af (nt d _ z)];exact z) fun d ys z=>by rw[af (nt d _ z)];exact z
   have nd:∀ e,H e=none->d ≠ e:=fun e he w=>by
    rcases hd with rfl | hd
    ·rw[w,he]at q;cases q
    ·rw[w,he]at hd;cases hd
   exact k d v (nd a fa.1) (nd b fb.1) z
 ·have Jd:c=a∨c=b:=by simpa using hc
  rcases Jd with rfl | rfl
  ·obtain⟨_,f1,_,f3,f4,f5⟩:=fa;exact⟨f3,f1,f4,f5⟩
  ·obtain⟨_,f1,_,f3,f4,f5⟩:=fb;exact⟨f3,f1,f4,f5⟩
theorem Inv.DJ {h':Heap}{t':Nat}{a b:Addr}(I:Inv X pins σ H s)(fa:fY X pins H a)(fb:fY X pins H b)
  (k:∀ c o,c ≠ a->c ≠ b->s.heap.get? c=some o->h'.get? c=some o):Inv X pins σ H { s with heap:=h',toks:=t' }:=by
 have ne:∀ c,c ∉ [a,b]->c ≠ a/\c ≠ b:=fun c hc=>by simpa using hc
 refine I.call (g':=s.gens) (d':=s.drawn) (ch:=[a,b]) ⟨fun c o e n h1 h2=>k c o (ne c h2).1 (ne c h2).2 e,fun c o e n h1 h2=>⟨o.slots,k c o (ne c h2).1 (ne c h2).2 e⟩,fun c o e n h2=>n,
  fun c o e h2=>⟨o,k c o (ne c h2).1 (ne c h2).2 e⟩,fun c ys q=>q,fun c o u q=>q,fun c ps q=>⟨#[],by rw[q];simp⟩⟩ (fun c u q=>?_) I.bare fun c hc=>?_
 ·refine(I.zL c u q).B3 (fun d v hd z=>?_) (fun d z=>z) fun d ys z=>z
  have nd:∀ e,H e=none->d ≠ e:=fun e he w=>by
   rcases hd with rfl | hd
   ·rw[w,he]at q;cases q
   ·rw[w,he]at hd;cases hd
  exact k d v (nd a fa.1) (nd b fb.1) z
 ·have Jd:c=a∨c=b:=by simpa using hc
  rcases Jd with rfl | rfl
  ·obtain⟨_,f1,_,f3,f4,f5⟩:=fa;exact⟨f3,f1,f4,f5⟩
  ·obtain⟨_,f1,_,f3,f4,f5⟩:=fb;exact⟨f3,f1,f4,f5⟩
theorem kB {e it:Addr}{fp:List Addr}{n i:Nat}{P:Nat->Value->Prop}{Sx:Nat->Heap->Prop}{old:Value}{xs:List V}{E:Value->Shared->Prop}{elts:List Expr}{kk:Nat}{pos:Pos}
  (D:Draws X.prog X.w X.A.in1 it fp n P Sx) (I:Inv X pins σ H s) (he:IsEnum s.heap e it i old) (C8:Sx i s.heap) (Ae:i < n) (Af:e ≠ it) (V6:e ∉ fp) (fe:fY X pins H e) (fi:fY X pins H it)
  (hP:∀ v,P i v->∃ x,xs[i]? = some x/\RelV x v) :
  wpAny (model X.prog X.w) X.A (pyNext (.ref e)) (fun r s1=>∃ u,r=some u/\wpAny (model X.prog X.w) X.A (letOwnedTupleGo (.Tuple elts kk pos) (.ref e) u) (fun _ s2=>∃ p x,xs[i]? = some x/\H p=none/\u = .ref p /\
   Inv X pins σ (upd H p (.tup [.int i,x])) s2/\(∃ old,IsEnum s2.heap e it ((i + 1:Nat):Int) old)/\Sx (i + 1) s2.heap/\p ≠ e/\p ≠ it) E s1) E s:=by
 refine wpAny_pyNext_enum_itemD D he C8 Ae Af V6 fun x h' tk hx ho Jm hT hsz hk=>⟨_,rfl,?_⟩
 refine wpAny_letOwnedTupleGo_enum ho fun h2 Fc DF=>?_
 obtain⟨y,hy,ry⟩:=hP x hx
 have V7:e < s.heap.objs.size:=lt_size he
 have hie:it < s.heap.objs.size:=by obtain⟨_,z⟩:=D.live _ _ C8;exact lt_size z
 have KD:Sx (i + 1) h2:=D.frame _ _ _ Jm fun b hb o z=>(DF.2 b fun q=>V6 (q ▸ hb)).trans z
 refine⟨s.heap.objs.size,y,hy,I.zL.fresh (Nat.le_refl _),rfl,?_,⟨x,by simpa using Fc⟩,KD,ne_of_gt V7,ne_of_gt hie⟩
 refine Inv.Ie (s:=s) (h':=h2) (t':=tk + 1) I fe fi (Nat.le_refl _) (fun c o h1 h2' z=>(DF.2 c h1).trans (hk c o h1 h2' z)) ⟨_,Fc⟩ (let ⟨o,z⟩:=D.live _ _ KD; ⟨o,z⟩) (by show 2 <= sizeLine;decide) (us:=[.int i tk,x]) (.cons ⟨tk,rfl⟩ (.cons ry .nil)) ?_
 exact⟨_,(DF.2 _ (ne_of_gt V7)).trans hT,⟨rfl,_,rfl⟩,rfl⟩
end
noncomputable def zA (sq:Hp->List V->Prop):It :=
 ⟨fun i H=>∃ xs x,sq H xs/\xs[i]? = some x,fun i H v H'=>∃ p,H p=none/\v = .ref p/\∀ xs,sq H xs->∃ x,xs[i]? = some x/\H' = upd H p (.tup [.int i,x]),fun i H=>∃ xs,sq H xs/\xs.length=i⟩
theorem nG {P:Program}{w:World}{K:Frag}{elts:List Expr}{kk:Nat}{pos:Pos}(a e it:Addr)(Af:e ≠ it):lB P w K (.Tuple elts kk pos) (zA fun H=>zJ K H a) [e,it] e (fun i h=>(∃ old,IsEnum h e it (i:Int) old)/\h.IsListIter it a i) where
 mem:=by simp
 obj:=fun i h st b hb=>by
  obtain⟨⟨old,he⟩,o,ho,c,d⟩:=st
  have Bd:b=e∨b=it:=by simpa using hb
  rcases Bd with rfl | rfl
  ·exact⟨_,he,fun v z=>by have z':Data.fields _=Data.cell v:=z;cases z'⟩
  ·exact⟨o,ho,fun v z=>by rw[d]at z;cases z⟩
 keep:=fun i h h' st k=>by
  obtain⟨⟨old,he⟩,hi⟩:=st
  exact⟨⟨old,k e (by simp) _ he⟩,hi.at fun o z=>k it (by simp) o z⟩
 item:=by
  intro X hP hw hK hc i pins s σ H E I hf st hg
  subst hP hw hK
  obtain⟨xs,x,hq,hx⟩:=hg
  obtain⟨zI,rv,p,hz⟩:=I.list hq
  obtain⟨⟨old,he⟩,hi⟩:=st
  have hl:i < zI.toArray.size:=by
   have:=(List.getElem?_eq_some_iff.mp hx).1
   have l2:=rv.length
   simp;omega
  have QD:e ≠ a:=by
   rintro rfl
   obtain⟨o,ho,Dg,_⟩:=p.isList
   rw[he]at ho;cases ho
   injection Dg with z;exact absurd z (by decide)
  have Ig:a ≠ it:=by
   rintro rfl
   obtain⟨o,ho,Dg,_⟩:=p.isList
   obtain⟨o2,Bs,CG,_⟩:=hi
   rw[ho]at Bs;cases Bs;rw[Dg]at CG
   injection CG with z;exact absurd z (by decide)
  refine aT (kB (xs:=xs) (Draws.list (A:=X.A.in1) (I.ok.hd hc) it a Ig zI.toArray) I he ⟨hi,p.isList⟩ hl Af (by simp only[mem_cons,not_mem_nil,or_false,not_or];exact⟨Af,QD⟩) (hf e (by simp)) (hf it (by simp)) fun v hv=>?_) fun r s1 ⟨u,hr,h1⟩=>⟨u,hr,aT h1 fun _ s2 ⟨q,y,hy,QE,hu,I2,Fc,DF,n1,n2⟩=>?_⟩
  ·obtain⟨u,hu,ru⟩:=rv.get hx
   have e1:zI[i]? = some v:=by simpa using hv
   rw[hu]at e1;cases e1
   exact⟨x,hx,ru⟩
  ·refine⟨.ref q,_,I2,hu,⟨q,QE,rfl,fun zs Oo=>⟨y,by rw[I.BI Oo hq];exact hy,rfl⟩⟩,⟨Fc,DF.1⟩,fun b hb=>?_⟩
   have Bd:b=e∨b=it:=by simpa using hb
   rcases Bd with rfl | rfl
   ·rw[af (Ne.symm n1)];exact(hf b (by simp)).1
   ·rw[af (Ne.symm n2)];exact(hf b (by simp)).1
 done:=by
  intro X hP hw hK hc i pins s σ H E I hf st hg
  subst hP hw hK
  obtain⟨xs,hq,hx⟩:=hg
  obtain⟨zI,rv,p,hz⟩:=I.list hq
  obtain⟨⟨old,he⟩,hi⟩:=st
  have hl:i=zI.toArray.size:=by have l2:=rv.length;simp;omega
  have Ig:a ≠ it:=by
   rintro rfl
   obtain⟨o,ho,Dg,_⟩:=p.isList
   obtain⟨o2,Bs,CG,_⟩:=hi
   rw[ho]at Bs;cases Bs;rw[Dg]at CG
   injection CG with z;exact absurd z (by decide)
  refine wpAny_pyNext_enum_endD (Draws.list (A:=X.A.in1) (I.ok.hd hc) it a Ig zI.toArray) he (by rw[← hl];exact⟨hi,p.isList⟩) fun h' C9=>⟨rfl,?_⟩
  exact I.DJ (t':=s.toks) (hf e (by simp)) (hf it (by simp)) fun c o h1 h2 z=>C9 c o h2 z
 self:=fun _ _ _ _ _ st h=>by
  obtain⟨⟨old,he⟩,_⟩:=st
  exact wpAny_pyIter_enum he h
theorem nD {P:Program}{w:World}{K:Frag}{elts:List Expr}{kk:Nat}{pos:Pos}(a e it:Addr)(Af:e ≠ it):lB P w K (.Tuple elts kk pos) (zA fun H=>zM K H a) [e,it] e (fun i h=>(∃ old,IsEnum h e it (i:Int) old)/\h.IsTupleIter it a i) where
 mem:=by simp
 obj:=fun i h st b hb=>by
  obtain⟨⟨old,he⟩,o,ho,c,d⟩:=st
  have Bd:b=e∨b=it:=by simpa using hb
  rcases Bd with rfl | rfl
  ·exact⟨_,he,fun v z=>by have z':Data.fields _=Data.cell v:=z;cases z'⟩
  ·exact⟨o,ho,fun v z=>by rw[d]at z;cases z⟩
 keep:=fun i h h' st k=>by
  obtain⟨⟨old,he⟩,hi⟩:=st
  exact⟨⟨old,k e (by simp) _ he⟩,hi.at fun o z=>k it (by simp) o z⟩
 item:=by
  intro X hP hw hK hc i pins s σ H E I hf st hg
  subst hP hw hK
  obtain⟨xs,x,hq,hx⟩:=hg
  obtain⟨zI,rv,p,hz⟩:=I.tuple hq
  have pt:s.heap.IsTuple a zI.toArray:=p
  obtain⟨⟨old,he⟩,hi⟩:=st
  have hl:i < zI.toArray.size:=by
   have:=(List.getElem?_eq_some_iff.mp hx).1
   have l2:=rv.length
   simp;omega
  have QD:e ≠ a:=by
   rintro rfl
   obtain⟨o,ho,Dg,_⟩:=pt
   rw[he]at ho;cases ho
   injection Dg with z;exact absurd z (by decide)
  have Ig:a ≠ it:=by
   rintro rfl
   obtain⟨o,ho,Dg,_⟩:=pt
   obtain⟨o2,Bs,CG,_⟩:=hi
   rw[ho]at Bs;cases Bs;rw[Dg]at CG
   injection CG with z;exact absurd z (by decide)
  refine aT (kB (xs:=xs) (fZ (A:=X.A.in1) (I.ok.hd hc) it a Ig zI.toArray) I he ⟨hi,pt⟩ hl Af (by simp only[mem_cons,not_mem_nil,or_false,not_or];exact⟨Af,QD⟩) (hf e (by simp)) (hf it (by simp)) fun v hv=>?_) fun r s1 ⟨u,hr,h1⟩=>⟨u,hr,aT h1 fun _ s2 ⟨q,y,hy,QE,hu,I2,Fc,DF,n1,n2⟩=>?_⟩
  ·obtain⟨u,hu,ru⟩:=rv.get hx
   have e1:zI[i]? = some v:=by simpa using hv
   rw[hu]at e1;cases e1
   exact⟨x,hx,ru⟩
  ·refine⟨.ref q,_,I2,hu,⟨q,QE,rfl,fun zs Oo=>⟨y,by rw[I.Cf Oo hq];exact hy,rfl⟩⟩,⟨Fc,DF.1⟩,fun b hb=>?_⟩
   have Bd:b=e∨b=it:=by simpa using hb
   rcases Bd with rfl | rfl
   ·rw[af (Ne.symm n1)];exact(hf b (by simp)).1
   ·rw[af (Ne.symm n2)];exact(hf b (by simp)).1
 done:=by
  intro X hP hw hK hc i pins s σ H E I hf st hg
  subst hP hw hK
  obtain⟨xs,hq,hx⟩:=hg
  obtain⟨zI,rv,p,hz⟩:=I.tuple hq
  have pt:s.heap.IsTuple a zI.toArray:=p
  obtain⟨⟨old,he⟩,hi⟩:=st
  have hl:i=zI.toArray.size:=by have l2:=rv.length;simp;omega
  have Ig:a ≠ it:=by
   rintro rfl
   obtain⟨o,ho,Dg,_⟩:=pt
   obtain⟨o2,Bs,CG,_⟩:=hi
   rw[ho]at Bs;cases Bs;rw[Dg]at CG
   injection CG with z;exact absurd z (by decide)
  refine wpAny_pyNext_enum_endD (fZ (A:=X.A.in1) (I.ok.hd hc) it a Ig zI.toArray) he (by rw[← hl];exact⟨hi,pt⟩) fun h' C9=>⟨rfl,?_⟩
  exact I.DJ (t':=s.toks) (hf e (by simp)) (hf it (by simp)) fun c o h1 h2 z=>C9 c o h2 z
 self:=fun _ _ _ _ _ st h=>by
  obtain⟨⟨old,he⟩,_⟩:=st
  exact wpAny_pyIter_enum he h
section
variable {X:Cx}{elts:List Expr}{kk:Nat}{DV p pos:Pos}{a:Expr}{ta:TE}
noncomputable def QF (K:Frag)(t:TA):TI:=fun σ H R=>t σ H fun vs H1=>∃ a,vs=[.ref a]/\(∃ xs,zJ K H1 a xs)/\R (zA fun H=>zJ K H a) H1
noncomputable def QG (K:Frag)(t:TA):TI:=fun σ H R=>t σ H fun vs H1=>∃ a,vs=[.ref a]/\(∃ xs,zM K H1 a xs)/\R (zA fun H=>zM K H a) H1
theorem lX {t:TA}(hg:Gl X "enumerate")(hm:X.mg "enumerate" = none)(ha:PA X [a] t)(hs:starEach [a] X.env=[(false,eval a X.env)]:=by rfl):PI X (.Tuple elts kk DV) (.Call (.Name "enumerate" p) [a] [] pos) (QF X.K t):=by
 intro pins s σ H R I h
 refine Call_ (fJ I hg hm boot_enumerate (PyProof.Rows.callWith_type1 (aT (ha pos pins s σ H _ I h) fun us s1 zH=>?_) hs rfl))
 obtain⟨vs,H1,I1,r1,q1⟩:=zH
 obtain⟨l,e,⟨xs,hq⟩,q⟩:=q1
 subst e
 cases r1 with
 | cons r rr =>
  cases rr
  cases r
  obtain⟨zI,rv,pp,hz⟩:=I1.list hq
  refine call_enumerate_list pp.isList fun h' he hit hsz hk=>?_
  have I2:Inv X pins σ H1 { s1 with heap:=h' }:=I1.kept (t':=s1.toks) hk
  refine wpAny_pyIter_enum (s:={ s1 with heap:=h' }) he ?_
  refine⟨_,_,_,_,H1,rfl,I2,nG l _ s1.heap.objs.size (Nat.succ_ne_self _),⟨⟨_,he⟩,hit⟩,fun b hb=>?_,q⟩
  have Bd:b=s1.heap.objs.size + 1∨b=s1.heap.objs.size:=by simpa using hb
  have hle:s1.heap.objs.size <= b:=by
   rcases Bd with e | e
   ·rw[e];exact le_succ _
   ·rw[e];exact Nat.le_refl _
  exact I1.Dq hle (I1.zL.fresh hle)
theorem lW {t:TA}(hg:Gl X "enumerate")(hm:X.mg "enumerate" = none)(ha:PA X [a] t)(hs:starEach [a] X.env=[(false,eval a X.env)]:=by rfl):PI X (.Tuple elts kk DV) (.Call (.Name "enumerate" p) [a] [] pos) (QG X.K t):=by
 intro pins s σ H R I h
 refine Call_ (fJ I hg hm boot_enumerate (PyProof.Rows.callWith_type1 (aT (ha pos pins s σ H _ I h) fun us s1 zH=>?_) hs rfl))
 obtain⟨vs,H1,I1,r1,q1⟩:=zH
 obtain⟨l,e,⟨xs,hq⟩,q⟩:=q1
 subst e
 cases r1 with
 | cons r rr =>
  cases rr
  cases r
  obtain⟨zI,rv,pp,hz⟩:=I1.tuple hq
  refine eD (show s1.heap.IsTuple l zI.toArray from pp) fun h' he hit hsz hk=>?_
  have I2:Inv X pins σ H1 { s1 with heap:=h' }:=I1.kept (t':=s1.toks) hk
  refine wpAny_pyIter_enum (s:={ s1 with heap:=h' }) he ?_
  refine⟨_,_,_,_,H1,rfl,I2,nD l _ s1.heap.objs.size (Nat.succ_ne_self _),⟨⟨_,he⟩,hit⟩,fun b hb=>?_,q⟩
  have Bd:b=s1.heap.objs.size + 1∨b=s1.heap.objs.size:=by simpa using hb
  have hle:s1.heap.objs.size <= b:=by
   rcases Bd with e | e
   ·rw[e];exact le_succ _
   ·rw[e];exact Nat.le_refl _
  exact I1.Dq hle (I1.zL.fresh hle)
end
theorem mQ {sq:Hp->List V->Prop}{xs:List V}{g:TG}{tb:TS}{D:jR}{σ:St}{H:Hp}(Pv:Nat->St->Hp->Prop)(h0:Pv 0 σ H)(hl:∀ i σ H,i <= xs.length->Pv i σ H->sq H xs)
  (hs:∀ i x p σ H,xs[i]? = some x->Pv i σ H->H p=none->g (.ref p) σ (upd H p (.tup [.int i,x])) fun σ2 H2=>tb { D with nx:=Pv (i + 1),ct:=Pv (i + 1),bk:=D.nx } σ2 H2) (hd:∀ σ H,Pv xs.length σ H->D.nx σ H) :
  ∃ W:Nat->Nat->St->Hp->Prop,(∃ m,W 0 m σ H)/\∀ i m σ H,W i m σ H ->
   ((zA sq).stop i H/\D.nx σ H)∨((zA sq).go i H/\∃ N:St->Hp->Prop,(∀ σ' H',N σ' H'->∃ m',m' < m/\W (i + 1) m' σ' H')/\∀ x H',(zA sq).E4 i H x H'->g x σ H' fun σ2 H2=>tb { D with nx:=N,ct:=N,bk:=D.nx } σ2 H2):=by
 refine⟨fun i m σ H=>m=xs.length - i/\i <= xs.length/\Pv i σ H,⟨xs.length,by simp,zero_le _,h0⟩,?_⟩
 rintro i m σ H ⟨rfl,hi,p⟩
 have q:=hl i σ H hi p
 by_cases Ae:i < xs.length
 ·refine .inr ⟨⟨xs,xs[i],q,by simp[Ae]⟩,Pv (i + 1),fun σ' H' p'=>⟨xs.length - (i + 1),by omega,rfl,Ae,p'⟩,fun x H' y=>?_⟩
  obtain⟨pp,hn,rfl,hx⟩:=y
  obtain⟨x',C9,e⟩:=hx xs q
  subst e
  exact hs i x' pp σ H C9 p hn
 ·have e:i=xs.length:=by omega
  subst e
  exact .inl ⟨⟨xs,q,rfl⟩,hd σ H p⟩
end L2
namespace L2
open PySem PySem.Spec PyProof.Rows
noncomputable def BK (d:PyData)(m:Nat):Prop:=d.canLay0=true/\d.depth <= m
theorem BK.shaped {d:PyData}{m:Nat}(h:BK d m)(hm:m <= 64):SeqAt.shaped d=true:=by
 unfold SeqAt.shaped
 rw[h.1,decide_eq_true (le_trans h.2 hm)];rfl
theorem cK (i:Int):BK (.int i) 0:=⟨by simp[PyData.canLay0],by simp[PyData.depth]⟩
theorem kU {m:Nat}:∀ {ds:List PyData},(∀ d ∈ ds,BK d m)->PyData.canLayAll0 ds=true/\PyData.depthAll ds <= m
 | [],_=>⟨by simp[PyData.canLayAll0],by simp[PyData.depthAll]⟩
 | d :: r,h=>by
  obtain⟨a,b⟩:=kU (ds:=r) fun z hz=>h z (mem_cons_of_mem _ hz)
  obtain⟨c,e⟩:=h d mem_cons_self
  exact⟨by simp[PyData.canLayAll0,c,a],by simp only[PyData.depthAll];omega⟩
theorem eZ {m:Nat}{ds:List PyData}(h:∀ d ∈ ds,BK d m):BK (.list ds) (m + 1):=by
 obtain⟨a,b⟩:=kU h
 exact⟨by simp[PyData.canLay0,a],by simp only[PyData.depth];omega⟩
theorem ip {m:Nat}{ds:List PyData}(h:∀ d ∈ ds,BK d m):BK (.tuple ds) (m + 1):=by
 obtain⟨a,b⟩:=kU h
 exact⟨by simp[PyData.canLay0,a],by simp only[PyData.depth];omega⟩
theorem neS {K:Frag}{x y:V}{H:Hp}{Q:VK}{d:PyData}(h1:jS K H x d)(h2:jS K H y d)(s:BK d 64)(q:Q (.bl false) H):yk K x y H Q :=
 ⟨d,d,h1,h2,s.shaped (Nat.le_refl _),s.shaped (Nat.le_refl _),by rw[SeqAt.eqv_refl d s.1];exact q⟩
theorem BK.le {d:PyData}{m n:Nat}(h:BK d m)(l:m <= n):BK d n:=⟨h.1,le_trans h.2 l⟩
end L2
namespace L2
open PySem
theorem mY {n:Nat}{lo:Int}{g:TG}{tt:TT}{te:TE}{σ0:St}{H:Hp}{Q:VK}(p:Nat->Bool)(f:Nat->V)(hn:n < sizeLine)
  (hs:∀ (i:Nat)(acc:List V)(N:List V->Hp->Prop),i < n->N (if p i then acc ++ [f i] else acc) H->g (.int (lo + i)) σ0 H fun σ2 H2=>tt σ2 H2 fun b H3=>if b=true then te σ2 H3 fun y H4=>N (acc ++ [y]) H4 else N acc H3)
  (hq:∀ D,H D=none->Q (.ref D) (upd H D (.lst (((List.range n).filter p).map f)))) :
  eB (vc lo n) g tt te σ0 Q H:=by
 refine⟨fun i m acc H'=>m=n - i/\i <= n/\H' = H/\acc=((List.range i).filter p).map f,⟨n,by simp,zero_le _,rfl,rfl⟩,?_⟩
 rintro i m acc H' ⟨rfl,hi,rfl,rfl⟩
 have hl:(((List.range i).filter p).map f).length < sizeLine:=by
  rw[length_map]
  have:=length_filter_le p (List.range i)
  rw[length_range]at this
  omega
 refine⟨hl,?_⟩
 by_cases Ae:i < n
 ·refine .inr ⟨Ae,fun Aw H2=>H2=H'/\Aw = ((List.range (i + 1)).filter p).map f,fun Aw H2 zH=>by obtain⟨h1,h2⟩:=zH;exact⟨n - (i + 1),by omega,rfl,Ae,h1,h2⟩,fun x H2 y=>?_⟩
  obtain⟨e,y⟩:=y
  subst e y
  refine hs i _ (fun Aw H3=>H3=H2/\Aw = ((List.range (i + 1)).filter p).map f) Ae ⟨rfl,?_⟩
  rw[range_succ,filter_append]
  cases hp:p i with
  | true=>simp[hp]
  | false=>simp[hp]
 ·have e:i=n:=by omega
  subst e
  exact .inl ⟨Nat.le_refl _,hq⟩
theorem fM {K:Frag}{a:Addr}{xs:List V}{g:TG}{tt:TT}{te:TE}{σ0:St}{H:Hp}{Q:VK}(p:V->Bool)(f:V->V)(hn:xs.length < sizeLine)(ha:zJ K H a xs)
  (hs:∀ (x:V)(acc:List V)(N:List V->Hp->Prop),x ∈ xs->N (if p x then acc ++ [f x] else acc) H->g x σ0 H fun σ2 H2=>tt σ2 H2 fun b H3=>if b=true then te σ2 H3 fun y H4=>N (acc ++ [y]) H4 else N acc H3)
  (hq:∀ D,H D=none->Q (.ref D) (upd H D (.lst ((xs.filter p).map f)))) :
  eB (vd K a) g tt te σ0 Q H:=by
 refine⟨fun i m acc H'=>m=xs.length - i/\i <= xs.length/\H' = H/\acc=((xs.take i).filter p).map f,⟨xs.length,by simp,zero_le _,rfl,rfl⟩,?_⟩
 rintro i m acc H' ⟨rfl,hi,rfl,rfl⟩
 have hl:(((xs.take i).filter p).map f).length < sizeLine:=by
  rw[length_map]
  have h1:=length_filter_le p (xs.take i)
  have h2:=length_take_le i xs
  omega
 refine⟨hl,?_⟩
 by_cases Ae:i < xs.length
 ·refine .inr ⟨⟨xs,xs[i],ha,by simp[Ae]⟩,fun Aw H2=>H2=H'/\Aw = ((xs.take (i + 1)).filter p).map f,fun Aw H2 zH=>by obtain⟨h1,h2⟩:=zH;exact⟨xs.length - (i + 1),by omega,rfl,Ae,h1,h2⟩,fun x H2 y=>?_⟩
  obtain⟨e,y⟩:=y
  subst e
  have hx:=y xs ha
  refine hs x _ (fun Aw H3=>H3=H2/\Aw = ((xs.take (i + 1)).filter p).map f) (mem_of_getElem? hx) ⟨rfl,?_⟩
  rw[take_succ,hx,filter_append]
  cases hp:p x with
  | true=>simp[hp]
  | false=>simp[hp]
 ·have e:i=xs.length:=by omega
  subst e
  rw[take_length]
  exact .inl ⟨⟨xs,ha,Nat.le_refl _⟩,hq⟩
theorem iW (k:Int):∀ ns:List Int,va (.int k) (ns.map V.int)=decide (k ∈ ns)
 | []=>by simp[va]
 | n :: r=>by
  have ih:=iW k r
  unfold va at ih ⊢
  rw[map_cons,any_cons,ih]
  show((n == k) || decide (k ∈ r))=decide (k ∈ n :: r)
  by_cases h:k=n
  ·subst h;simp
  ·have h':¬ n=k:=fun z=>h z.symm
   simp[h,h']
theorem fU:∀ ns:List Int,(ns.map V.int).all ik=true
 | []=>rfl
 | n :: r=>by rw[map_cons,all_cons,fU r];rfl
end L2
namespace L2
open PySem PySem.Spec PyProof.Rows
section
open PySem.W
variable {prog:Program}{w:World}{A:Around}{E:Value->Shared->Prop}{s:Shared}{K:Frag}{x C:Addr}{name:Str}{v:Value}
theorem sC {d:Addr}{vs:Array Value}{mA:Str->Option Value}{ns:List Str}{Q:Unit->Shared->Prop}(X:K.In s.heap)(hx:s.heap.get? x=some ⟨.ref C,some d, .fields vs,#[]⟩)(hn:s.heap.Ns1 d mA)(hw:PySem.Within mA ns)(hl:ns.length < sizeLine)(c:gJ K C)(ht:findIn K (.ref C) name=some none)
  (h:∀ h' t',h'.Ns1 d (fun y=>if y=name then some v else mA y)->(∀ b,b ≠ d->h'.get? b=s.heap.get? b)->Q () { s with heap:=h',toks:=t' }) :
  wpAny (model prog w) A (setAttr (.ref x) name v) Q E s:=by
 obtain⟨od,es,ep,Et,hr⟩:=id hn
 have I:PySem.W.InstAt s.heap x ⟨.ref C,some d, .fields vs,#[]⟩ C (some od):=⟨hx,rfl,rfl,Et⟩
 refine PySem.W.set_plain X I c.sa (pH (s:={ s with toks:=s.toks + 1 }) X I c.mro ht fun b=>?_)
 obtain⟨cd,hc,HG⟩:=PySem.W.any_some c.hd
 obtain⟨hp,g,dr,t,os⟩:=s
 dsimp only at X hx h I hn Et ⊢
 refine wpAny_bind (wpAny_pure (wpAny_bind (wpAny_bind (wpAny_loadPart hx (wpAny_bind (PySem.W.Looks.here (s:=⟨hp,g,dr,t + 1,os⟩) (PySem.W.looks_clsIn X hc) ?_))))))
 rw[HG]
 rw[if_neg (by decide)]
 dsimp only
 refine wpAny_pure ?_
 show wpAny _ _ (Builtin.ObjectAttr.storeInDict d (.str name t) name v) _ _ _
 unfold Builtin.ObjectAttr.storeInDict Builtin.ObjectAttr.newKeyGuard
 refine wpAny_bind (wpAny_pure (wpAny_bind (wpAny_nsSet1 hn fun h' BV hs=>?_)))
 obtain⟨oD,Vj,Vk,Kb,Kc,Kd⟩:=BV.count (Within.cons name v hw)
 refine wpAny_bind (wpAny_lookBehind Kb (by rw[Kc];exact pastItsLine_dict (le_trans Kd (by rw[length_cons];omega))) ?_)
 exact wpAny_pure (h h' _ BV fun b hb=>hs.2 b hb)
end
noncomputable def KG (d:Addr)(fs:List (Str × V)):Heap->Prop:=fun h=>∃ mA,h.Ns1 d mA/\∀ f,Av (fs.lookup f) (mA f)
theorem xt {P:Program}{w:World}{H:Hp}{h:Heap}{d:Addr}{fs:List (Str × V)}(x:KG d fs h):zV P w H h d (.ext (KG d fs)):=by
 refine⟨x,?_,fun h1 h2 ⟨mA,⟨od,es,ep,e,c⟩,r⟩ k=>⟨mA,⟨od,es,ep,k _ e,c⟩,r⟩⟩
 obtain⟨mA,⟨od,es,ep,e,c⟩,r⟩:=x
 exact⟨od,e⟩
noncomputable def yh (K:Frag)(ta tv:TE)(f:Str):TS:=fun D σ H=>tv σ H fun y H1=>ta σ H1 fun x H2=>∃ a C tt,x = .ref a/\H2 a=some (bK a C tt none)/\gJ K C/\findIn K (.ref C) f=some none /\
 ∀ d,H2 d=none->D.nx σ (upd (upd H2 d (.ext (KG d [(f,y)]))) a (bK a C tt (some d)))
noncomputable def yg (K:Frag)(ta tv:TE)(f:Str):TS:=fun D σ H=>tv σ H fun y H1=>ta σ H1 fun x H2=>∃ a C tt d fs,x = .ref a/\H2 a=some (bK a C tt (some d))/\H2 d=some (.ext (KG d fs))/\fs.length < 1000/\gJ K C/\findIn K (.ref C) f=some none /\
 D.nx σ (upd H2 d (.xd (aK f y fs)))
section
variable {X:Cx}{o e value:Expr}{f:Str}{pos pos':Pos}{ta tv:TE}
theorem t7 (ha:PE X o ta)(hv:PE X value tv)(hs:swapsWith value (some (.Attribute o f pos')) pos.line X.env=pure false):PS X (.Assign [.Attribute o f pos'] value pos) (yh X.K ta tv f):=by
 intro pins s σ H D I h
 refine plainObj_wpAny_Assign_Attribute (aT (hv pins s σ H _ I h) fun u s1 ⟨y,H1,I1,ry,q⟩=>aT (ha pins s1 σ H1 _ I1 q) fun ov s2 zH=>?_) hs
 obtain⟨x,H2,I2,rx,a,C,tt,ex,ea,c,n,q2⟩:=zH
 subst ex
 obtain rfl:ov=Value.ref a:=rx
 have ho:s2.heap.get? a=some (dD C tt none):=(I2.zL a _ ea).1
 have Ae:a < s2.heap.objs.size:=lt_size ho
 refine lL I2.AF ho c n fun h' t' C9 BV hk=>⟨σ,_,?_,q2 s2.heap.objs.size (I2.zL.fresh (Nat.le_refl _))⟩
 obtain⟨od,es,ep,Et,r⟩:=id BV
 have CM:od.isFreed=false:=(Heap.get?_some_iff.mp Et).2
 have CS:(s2.heap.push od).get? s2.heap.objs.size=some od:=Heap.get?_push_size s2.heap CM
 have I3:=I2.laid (a:=s2.heap.objs.size) (o := .ext (KG s2.heap.objs.size [(f,y)])) (h':=s2.heap.push od) (t':=s2.toks) (fun b u z=>Heap.get?_push_of_some _ z) (Nat.le_refl _)
  (xt ⟨_,BV.at (fun o z=>by rw[Et]at z;cases z;exact CS),fun g=>by
   by_cases hg:g=f
   ·have hb:(g == f)=true:=beq_iff_eq.mpr hg
    simp only[List.lookup,hb,if_pos hg]
    exact ry
   ·have hb:(g == f)=false:=beq_eq_false_iff_ne.mpr hg
    simp only[List.lookup,hb,if_neg hg]
    trivial⟩)
 have Af:a ≠ s2.heap.objs.size:=ne_of_lt Ae
 refine I3.write (x:=a) (e:=a) (h':=h') (t':=t') (by rw[af Af,ea];exact True.intro) (.inl rfl) (fun b u hb z=>?_) ⟨_,C9⟩ (jF C9)
 by_cases KC:b=s2.heap.objs.size
 ·subst KC
  have z':(s2.heap.push od).get? s2.heap.objs.size=some u:=z
  rw[CS]at z'
  cases z'
  exact Et
 ·have z':s2.heap.get? b=some u:=by
   have z0:(s2.heap.push od).get? b=some u:=z
   exact(Heap.get?_push_cases z0).elim (fun w=>absurd w.1 KC) fun w=>w
  exact hk b u hb z'
theorem tw (ha:PE X o ta)(hv:PE X value tv)(hs:swapsWith value (some (.Attribute o f pos')) pos.line X.env=pure false):PS X (.Assign [.Attribute o f pos'] value pos) (yg X.K ta tv f):=by
 intro pins s σ H D I h
 refine plainObj_wpAny_Assign_Attribute (aT (hv pins s σ H _ I h) fun u s1 ⟨y,H1,I1,ry,q⟩=>aT (ha pins s1 σ H1 _ I1 q) fun ov s2 zH=>?_) hs
 obtain⟨x,H2,I2,rx,a,C,tt,d,fs,ex,ea,ed,hfl,c,n,q2⟩:=zH
 subst ex
 obtain rfl:ov=Value.ref a:=rx
 have ho:s2.heap.get? a=some (dD C tt (some d)):=(I2.zL a _ ea).1
 obtain⟨⟨mA,hn,hr⟩,_⟩:=I2.zL d _ ed
 have hw:PySem.Within mA (fs.map (·.1)):=fun g hg=>by
  have r:=hr g
  cases hl:fs.lookup g with
  | none=>rw[hl]at r;cases hm:mA g with
   | none=>exact absurd hm hg
   | some z=>rw[hm]at r;exact r.elim
  | some z =>
   have:∀ {l:List (Str × V)},l.lookup g=some z->g ∈ l.map (·.1):=by
    intro l
    induction l with
    | nil=>intro h;cases h
    | cons p l ih =>
     intro h
     rw[map_cons,mem_cons]
     by_cases e:g=p.1
     ·exact .inl e
     ·have hb:(g == p.1)=false:=beq_eq_false_iff_ne.mpr e
      obtain⟨p1,p2⟩:=p
      simp only[List.lookup,hb]at h
      exact .inr (ih h)
   exact this hl
 refine sC I2.AF ho hn hw (by rw[length_map,sizeLine_eq];omega) c n fun h' t' BV hk=>⟨σ,_,?_,q2⟩
 refine I2.write (x:=d) (e:=d) (h':=h') (t':=t') (by rw[ed];exact True.intro) (.inl rfl) (fun b u hb z=>?_) ?_ ⟨_,BV,fun g=>?_⟩
 ·exact(hk b hb).trans z
 ·obtain⟨od,_,_,Et,_⟩:=BV
  exact⟨od,Et⟩
 ·rw[fG]
  by_cases e:g=f
  ·rw[if_pos e];simp only[if_pos e];exact ry
  ·rw[if_neg e];simp only[if_neg e];exact hr g
end
end L2
namespace L2
open PySem
noncomputable def pY:Option Int->Value->Bool
 | none,v=>v == .none
 | some k,v=>Value.isInt k v
noncomputable def vF:Option Int->Int
 | none=>4238894112
 | some k=>hashInt k
theorem bS {k:Option Int}{v:Value}(h:pY k v=true):(k=none/\v = .none)∨∃ i t,k=some i/\v = .int i t:=by
 cases k with
 | none=>exact .inl ⟨rfl,eq_of_beq h⟩
 | some i=>obtain⟨t,e⟩:=Value.isInt_shape h;exact .inr ⟨i,t,rfl,e⟩
section
variable {prog:Program}{w:World}{A:Around}{E:Value->Shared->Prop}{s:Shared}
theorem qZ {Q:Int->Shared->Prop}(h:Q 4238894112 { s with toks:=s.toks + 1 }):wpAny (model prog w) A (pyHash .none) Q E s:=by
 have hT:s.TypeIs .none "NoneType":=rfl
 unfold pyHash
 have hv:[Value.none].any Value.onHeap=false:=rfl
 refine wpAny_bind ?_
 rw[cRoomFor,if_neg (by rw[hv];exact Bool.false_ne_true)];refine wpAny_pure ?_
 refine wpAny_bind (wpAny_specialOf hT F.slot_NoneType_hash.lookup ?_)
 show wpAny _ _ (if (some (Value.builtin "NoneType.__hash__") == some Value.none)=true then _ else _) Q E s
 rw[if_neg (by rw[beq_builtin_none];exact Bool.false_ne_true)]
 refine wpAny_bind (wpAny_specialOf hT F.slot_NoneType_hash.lookup ?_)
 show wpAny _ _ (callSpecialIfBoundUnlessNone? .none "__hash__" _ >>= _) Q E s
 refine wpAny_bind (wpAny_callSpecialIfBoundUnlessNone?_slot hT F.slot_NoneType_hash (wpAny_call_entry F.slot_NoneType_hash hT F.entry_NoneType_hash
  (show wpAny _ _ (do ret (← mkInt 4238894112)) _ _ s from wpAny_ret_mkInt ?_) (F.args_NoneType_hash_1 _)))
 exact wpAny_pure h
theorem zf {a b:Option Int}{u v:Value}{Q:Bool->Shared->Prop}(hu:pY a u=true)(hv:pY b v=true)(h:Q (decide (a=b)) s):wpAny (model prog w) A (PySem.eqBool u v) Q E s:=by
 rcases bS hu with ⟨rfl,rfl⟩ | ⟨i,t,rfl,rfl⟩<;>rcases bS hv with ⟨rfl,rfl⟩ | ⟨j,t',rfl,rfl⟩
 ·unfold eqBool
  refine wpAny_holding ?_
  refine wpAny_ite_split (fun _=>wpAny_bind (wpAny_rule (wpAny_pure (by simpa using h)))) (fun n=>absurd rfl n)
 ·exact PySem.SeqAt.EqAt.none_int j t' prog w E Q (by simpa using h)
 ·exact PySem.SeqAt.EqAt.int_none i t prog w E Q (by simpa using h)
 ·refine wpAny_eqBool_int ?_
  have e:(i == j)=decide (some i=some j):=by
   by_cases q:i=j
   ·simp[q]
   ·simp[q]
  rw[e];exact h
end
noncomputable def fR (prog:Program)(w:World):KeyKind prog w (Option Int) where
 is:=pY
 hash:=vF
 inj:=fun v a b ha hb=>by
  rcases bS ha with ⟨rfl,rfl⟩ | ⟨i,t,rfl,rfl⟩<;>rcases bS hb with ⟨rfl,e⟩ | ⟨j,t',rfl,e⟩
  ·rfl
  ·cases e
  ·cases e
  ·cases e;rfl
 byValue:=fun k v h=>by
  rcases bS h with ⟨_,rfl⟩ | ⟨i,t,_,rfl⟩<;>rfl
 pyHash:=fun {A E s k v Q} hv h=>by
  rcases bS hv with ⟨rfl,rfl⟩ | ⟨i,t,rfl,rfl⟩
  ·exact qZ h
  ·exact wpAny_pyHash_int h
 eqBool:=fun hu hv h=>zf hu hv h
 «strs»:=fun k x t v h=>by
  rcases bS h with ⟨_,e⟩ | ⟨i,t,_,e⟩<;>cases e
end L2
namespace L2
open PySem PySem.Spec PyProof.Rows
abbrev gp:=List (Option Int)
noncomputable def rD:Option Int->V
 | none => .zT
 | some i => .int i
abbrev dS:=gp × Addr × V
abbrev jL (p:dS)(q:gp × Addr × Value):Prop:=p.1=q.1/\p.2.1=q.2.1/\RelV p.2.2 q.2.2
noncomputable def zC (P:Program)(w:World)(a:Addr)(kvs:List dS):Heap->Prop:=fun h=>kvs.length <= sizeLine/\(a == sysModules)=false/\∃ xs,Paired jL kvs xs /\
 ∃ o es ep,h.get? a=some o/\o.ExactDict/\o.data = .dict es ep/\es.toList=xs.map (entryOfKey (tupleKind (fR P w)))/\(xs.map (·.1)).Nodup
noncomputable def jM (P:Program)(w:World)(a:Addr)(kvs:List dS):HO := .ext (zC P w a kvs)
noncomputable def Au (P:Program)(w:World)(H:Hp)(a:Addr)(kvs:List dS):Prop:=H a=some (jM P w a kvs)/\∀ x ∈ kvs,H x.2.1=some (.tup (x.1.map rD))
theorem Au.same {P:Program}{w:World}{H H':Hp}{a:Addr}{kvs:List dS}(h:Au P w H a kvs)(s:zD H H'):Au P w H' a kvs:=⟨s _ _ h.1,fun x hx=>s _ _ (h.2 x hx)⟩
noncomputable def bZ (kvs:List dS)(k:gp):Option V:=(kvs.find? fun x=>decide (x.1=k)).map (·.2.2)
noncomputable def qC (k:gp)(v:V)(x:dS):dS:=if x.1=k then (x.1,x.2.1,v) else x
noncomputable def fu (kvs:List dS)(k:gp)(b:Addr)(v:V):List dS:=if (bZ kvs k).isSome then kvs.map (qC k v) else kvs ++ [(k,b,v)]
theorem jd {k:gp}:bZ [] k=none:=rfl
theorem ce {x:dS}{kvs:List dS}{k:gp}:bZ (x :: kvs) k=if x.1=k then some x.2.2 else bZ kvs k:=by
 unfold bZ
 rw[List.find?_cons]
 by_cases h:x.1=k
 ·rw[decide_eq_true h,if_pos h];rfl
 ·rw[decide_eq_false h,if_neg h]
theorem rH {kvs:List dS}{k k':gp}{v:V}:bZ (kvs.map (qC k v)) k' = if k' = k then (bZ kvs k).map (fun _=>v) else bZ kvs k':=by
 induction kvs with
 | nil=>rw[map_nil,jd,jd];split<;>rfl
 | cons x kvs ih =>
  rw[map_cons,ce,ih,ce,ce]
  unfold qC
  by_cases h:x.1=k<;>by_cases h':k' = k
  ·have:x.1=k':=h.trans h'.symm
   simp[h,h']
  ·have:¬ x.1=k':=fun z=>h' (z.symm.trans h)
   rw[if_pos h,if_neg h',if_neg this,if_neg this,if_neg h']
  ·subst h'
   simp[h]
  ·simp[h,h']
theorem lG {kvs:List dS}{k k':gp}{b:Addr}{v:V}(h:bZ kvs k=none):bZ (kvs ++ [(k,b,v)]) k' = if k' = k then some v else bZ kvs k':=by
 induction kvs with
 | nil =>
  rw[List.nil_append,ce,jd]
  by_cases e:k' = k
  ·rw[if_pos e,if_pos e.symm]
  ·rw[if_neg e,if_neg (Ne.symm e)]
 | cons x kvs ih =>
  rw[ce]at h
  by_cases hx:x.1=k
  ·rw[if_pos hx]at h;cases h
  ·rw[if_neg hx]at h
   rw[List.cons_append,ce,ih h,ce]
   by_cases e:k' = k
   ·subst e;rw[if_neg hx,if_pos rfl,if_pos rfl]
   ·rw[if_neg e,if_neg e]
theorem gP {kvs:List dS}{k k':gp}{b:Addr}{v:V}:bZ (fu kvs k b v) k' = if k' = k then some v else bZ kvs k':=by
 unfold fu
 cases h:bZ kvs k with
 | none=>rw[if_neg (by simp)];exact lG h
 | some u =>
  rw[if_pos (by simp),rH,h];rfl
theorem fq {kvs:List dS}{k:gp}{b:Addr}{v:V}:(fu kvs k b v).length <= kvs.length + 1:=by
 unfold fu
 split
 ·rw[length_map];omega
 ·rw[length_append];exact Nat.le_refl _
theorem jW {kvs:List dS}{k:gp}{b:Addr}{v:V}{F:gp->Addr->Prop}(h:∀ x ∈ kvs,F x.1 x.2.1)(hk:F k b):∀ x ∈ fu kvs k b v,F x.1 x.2.1:=by
 intro x hx
 unfold fu at hx
 split at hx
 ·obtain⟨y,hy,rfl⟩:=mem_map.mp hx
  unfold qC
  split
  ·exact h y hy
  ·exact h y hy
 ·rcases mem_append.mp hx with q | q
  ·exact h x q
  ·rw[mem_singleton.mp q];exact hk
theorem l7 {kvs:List dS}{xs:List (gp × Addr × Value)}(r:Paired jL kvs xs)(k:gp):Av (bZ kvs k) ((atKey xs k).map (·.2)):=by
 induction r with
 | nil=>exact True.intro
 | @cons p q _ _ h1 _ ih =>
  rw[ce]
  unfold atKey at ih ⊢
  rw[List.find?_cons]
  by_cases e:p.1=k
  ·rw[if_pos e,decide_eq_true (h1.1.symm.trans e)];exact h1.2.2
  ·rw[if_neg e,decide_eq_false (fun z=>e (h1.1.trans z))];exact ih
theorem iA {o:Option V}{u:Option Value}(r:Av o u):o.isSome=u.isSome:=by
 cases o<;>cases u<;>first | rfl | exact r.elim
theorem qA {o:Option V}{u:Option Value}{d:V}{r:Value}(h:Av o u)(hd:RelV d r):RelV (o.getD d) (u.getD r):=by
 cases o<;>cases u<;>first | exact hd | exact h | exact h.elim
theorem wF {kvs:List dS}{xs:List (gp × Addr × Value)}{k:gp}{v:V}{u:Value}(r:Paired jL kvs xs)(hv:RelV v u):Paired jL (kvs.map (qC k v)) (xs.map (putAt k u)):=by
 induction r with
 | nil=>exact .nil
 | @cons p q _ _ h1 _ ih =>
  refine .cons ?_ ih
  unfold qC putAt
  by_cases e:p.1=k
  ·rw[if_pos e,if_pos (h1.1.symm.trans e)];exact⟨h1.1,h1.2.1,hv⟩
  ·rw[if_neg e,if_neg (fun z=>e (h1.1.trans z))];exact h1
theorem uD {kvs:List dS}{xs:List (gp × Addr × Value)}{p:dS}{q:gp × Addr × Value}(r:Paired jL kvs xs)(h:jL p q):Paired jL (kvs ++ [p]) (xs ++ [q]):=by
 induction r with
 | nil=>exact .cons h .nil
 | cons h1 _ ih=>exact .cons h1 ih
theorem wE {kvs:List dS}{xs:List (gp × Addr × Value)}{k:gp}{b:Addr}{v:V}{u:Value}(r:Paired jL kvs xs)(hv:RelV v u):Paired jL (fu kvs k b v) (storedH xs k b u):=by
 have h:=iA (l7 r k)
 rw[Option.isSome_map]at h
 unfold fu storedH
 rw[h]
 split
 ·exact wF r hv
 ·exact uD r ⟨rfl,rfl,hv⟩
section
variable {P:Program}{w:World}{H:Hp}{h:Heap}{a b:Addr}{kvs:List dS}{k:gp}
theorem iu:∀ {k:gp}{us:List Value},Vals (k.map rD) us->ItemsAre (fR P w) k us
 | [],_, .nil => .nil
 | none :: _,_, .cons r t => .cons (by have e:_=Value.none:=r;subst e;rfl) (iu t)
 | some i :: _,_, .cons r t => .cons (by obtain⟨tk,e⟩:=(show ∃ t,_=Value.int i t from r);subst e;exact beq_self_eq_true i) (iu t)
theorem iR (ok:AH P w H h)(e:H b=some (.tup (k.map rD))):(tupleKind (fR P w)).is h k b:=by
 obtain⟨_,zI,r,o,ho,⟨hc,n,hd⟩,_⟩:=ok _ _ e
 exact⟨o,zI.toArray,n,ho,hc,hd,iu r⟩
theorem iX (ok:AH P w H h)(e:Au P w H a kvs):kvs.length <= sizeLine/\(a == sysModules)=false/\∃ xs,Paired jL kvs xs/\h.DictOfH (tupleKind (fR P w)) a xs:=by
 obtain⟨e,ek⟩:=e
 obtain⟨⟨z,hs,xs,r,o,es,ep,h1,h2,h3,h4,h5⟩,_⟩:=ok _ _ e
 refine⟨z,hs,xs,r,o,es,ep,h1,h2,h3,h4,?_,h5⟩
 have all:∀ {kvs:List dS}{xs:List (gp × Addr × Value)},Paired jL kvs xs->(∀ x ∈ kvs,H x.2.1=some (.tup (x.1.map rD)))->∀ x ∈ xs,(tupleKind (fR P w)).is h x.1 x.2.1:=by
  intro kvs xs r
  induction r with
  | nil=>intro _ x hx;cases hx
  | @cons p q _ _ h1 _ ih =>
   intro hk x hx
   rcases mem_cons.mp hx with rfl | hx
   ·have:=hk p mem_cons_self
    rw[h1.1,h1.2.1]at this
    exact iR ok this
   ·exact ih (fun y hy=>hk y (mem_cons_of_mem _ hy)) x hx
 exact all r ek
theorem kE (h1 h2:Heap)(p:zC P w a kvs h1)(st:∀ o,h1.get? a=some o->h2.get? a=some o):zC P w a kvs h2:=by
 obtain⟨z,hs,xs,r,o,es,ep,q,c⟩:=p
 exact⟨z,hs,xs,r,o,es,ep,st _ q,c⟩
theorem uI (hb:sysModules < h.objs.size):zV P w H (h.push { cls := .type "dict",data := .dict #[] }) h.objs.size (jM P w h.objs.size []) :=
 ⟨⟨zero_le _,beq_eq_false_iff_ne.mpr (Ne.symm (ne_of_lt hb)),[], .nil,_,#[],0,Heap.get?_push_size _ rfl,⟨rfl,rfl,rfl⟩,rfl,rfl,nodup_nil⟩,⟨_,Heap.get?_push_size _ rfl⟩,fun _ _=>kE _ _⟩
end
noncomputable def wR (P:Program)(w:World)(H:Hp)(a:Addr)(y:V)(r:Option V):Prop:=∃ kvs k b,Au P w H a kvs/\y = .ref b/\H b=some (.tup (k.map rD))/\r=bZ kvs k
section
variable {X:Cx}{pins:List (Addr × Obj)}{σ:St}{H:Hp}{s:Shared}{a b:Addr}{y v d:V}{u r:Value}{o:Option V}{A:Around}{E:Value->Shared->Prop}
theorem zq (I:Inv X pins σ H s):sysModules < s.heap.objs.size :=
 lt_trans (by decide) (show mainGlobals < s.heap.objs.size from (I.mod.glob.keeps I.bk).lt)
theorem QH {Q:Value->Shared->Prop}(hu:A.units + 1 < cLine)(I:Inv X pins σ H s)(g:wR X.prog X.w H a y o)(ry:RelV y u)(h:∀ s',Inv X pins σ H s'->Q (.bool o.isSome) s') :
  wpAny (model X.prog X.w) A (compareOp .In u (.ref a)) Q E s:=by
 obtain⟨kvs,k,b,e,rfl,eb,rfl⟩:=g
 cases (show u=Value.ref b from ry)
 obtain⟨_,hd,xs,rel,dd⟩:=iX I.zL e
 refine wpAny_in_heap (tupleKind_room_in1 hu) (iR I.zL eb) hd dd ?_
 have q:=iA (l7 rel k)
 rw[Option.isSome_map]at q
 rw[← q]
 exact h _ (I.tok _)
theorem yO {Q:Value->Shared->Prop}(hu:A.units + 1 < cLine)(I:Inv X pins σ H s)(g:wR X.prog X.w H a y o)(ry:RelV y u)(rd:RelV d r)(h:∀ w' s',Inv X pins σ H s'->RelV (o.getD d) w'->Q w' s') :
  wpAny (model X.prog X.w) A (call (.builtin "dict.get") [.ref a,u,r]) Q E s:=by
 obtain⟨kvs,k,b,e,rfl,eb,rfl⟩:=g
 cases (show u=Value.ref b from ry)
 obtain⟨_,hd,xs,rel,dd⟩:=iX I.zL e
 exact call_meetsIn slot_dict_get dd.typeIs entry_dict_get (PySem.F.args_dict_get_3 _ _ _) (meetsH_dict_get_default (tupleKind (fR X.prog X.w)) a b hd r)
  ⟨tupleKind_room_in1 hu,k,xs,iR I.zL eb,dd,h _ _ (I.tok _) (qA (l7 rel k) rd)⟩
theorem KH {kvs:List dS}{k:gp}{Q:Unit->Shared->Prop}(hu:A.units + 1 < cLine)(I:Inv X pins σ H s)(e:Au X.prog X.w H a kvs)(eb:H b=some (.tup (k.map rD)))(hl:kvs.length < sizeLine)(rv:RelV v r)
  (h:∀ s',Inv X pins σ (upd H a (jM X.prog X.w a (fu kvs k b v))) s'->Q () s'):wpAny (model X.prog X.w) A (setItem (.ref a) (.ref b) r) Q E s:=by
 obtain⟨z,hd,xs,rel,dd⟩:=iX I.zL e
 have hz:xs.length <= sizeLine:=by rw[← Paired.length rel];exact z
 have Ea:(fu kvs k b v).length <= sizeLine:=le_trans fq hl
 refine wpAny_setItem_heap (hsz:=hz) (tupleKind_room_in1 hu) (iR I.zL eb) dd fun h' F9 hs=>h _ ?_
 obtain⟨q,es,ep,hq,h2,h3,h4,_,h5⟩:=F9
 exact I.write (x:=a) (e:=a) (by rw[e.1];exact True.intro) (.inl rfl) (fun c q hc z=>(hs.2 c hc).trans z) ⟨q,hq⟩
  ⟨⟨Ea,hd,_,wE rel rv,q,es,ep,hq,h2,h3,h4,h5⟩,⟨q,hq⟩,fun _ _=>kE _ _⟩
theorem rg {kvs:List dS}(I:Inv X pins σ H s)(e:Au X.prog X.w H a kvs):s.TypeIs (.ref a) "dict"/\∀ b,Value.ref a = .ref b->∃ ob,s.heap.get? b=some ob/\ob.dict=none:=by
 obtain⟨_,_,xs,_,dd⟩:=iX I.zL e
 refine⟨dd.typeIs,fun b q=>?_⟩
 cases q
 obtain⟨ob,_,_,h1,h2,_⟩:=dd
 exact⟨ob,h1,h2.2.1⟩
end
noncomputable def rM (P:Program)(w:World):TE:=fun _ H Q=>∀ p,H p=none->Q (.ref p) (upd H p (jM P w p []))
noncomputable def QI (P:Program)(w:World)(ty td:TE):TE:=fun σ H Q=>ty σ H fun y H1=>td σ H1 fun x H2=>∃ a o,x = .ref a/\wR P w H2 a y o/\Q (.bl o.isSome) H2
noncomputable def KI (P:Program)(w:World)(td ty tv:TE):TS:=fun D σ H=>tv σ H fun v H1=>td σ H1 fun x H2=>ty σ H2 fun y H3=>∃ a kvs k b,x = .ref a/\Au P w H3 a kvs/\y = .ref b/\H3 b=some (.tup (k.map rD))/\kvs.length < sizeLine/\D.nx σ (upd H3 a (jM P w a (fu kvs k b v)))
noncomputable def xC (P:Program)(w:World)(td:TE)(t:TA):TE:=fun σ H Q=>td σ H fun x H1=>∃ a kvs,x = .ref a/\Au P w H1 a kvs/\t σ H1 fun xs H2=>∃ y z o,xs=[y,z]/\wR P w H2 a y o/\Q (o.getD z) H2
section
variable {X:Cx}{o i e f value:Expr}{pos pos' apos Aq:Pos}{td ty tv tx:TE}
theorem pE:PE X (.Dict [] [] pos) (rM X.prog X.w):=fun pins s σ H Q I h =>
 wpAny_Dict_empty ⟨.ref s.heap.objs.size,_,I.laid (a:=s.heap.objs.size) (o:=jM X.prog X.w s.heap.objs.size []) (t':=s.toks) (fun _ _ q=>Heap.get?_push_of_some _ q) (Nat.le_refl _) (uI (zq I)),rfl,h _ (I.zL.fresh (Nat.le_refl _))⟩
theorem yq (hu:X.A.units + 1 < cLine)(hi:PE X i ty)(ho:PE X o td):PC X .In i o (QI X.prog X.w ty td):=by
 intro pins s σ H Q I h
 refine aT (hi pins s σ H _ I h) fun iv s1 ⟨y,H1,I1,ry,q1⟩=>aT (ho pins s1 σ H1 _ I1 q1) fun u s2 zH=>?_
 obtain⟨x,H2,I2,rx,a,ov,ex,g,q2⟩:=zH
 subst ex
 obtain rfl:u=Value.ref a:=rx
 exact QH hu I2 g ry fun s3 I3=>⟨.bl ov.isSome,H2,I3,rfl,q2⟩
theorem pD (hu:X.A.units + 1 < cLine)(ho:PE X o td)(hi:PE X i ty)(hv:PE X value tv)(hs:swapsWith value (some (.Subscript o i pos')) pos.line X.env=pure false) :
  PS X (.Assign [.Subscript o i pos'] value pos) (KI X.prog X.w td ty tv):=by
 intro pins s σ H D I h
 refine wpAny_Assign_Subscript (aT (hv pins s σ H _ I h) fun r s1 ⟨v,H1,I1,rv,q1⟩=>aT (ho pins s1 σ H1 _ I1 q1) fun u s2 ⟨x,H2,I2,rx,q2⟩=>aT (hi pins s2 σ H2 _ I2 q2) fun iv s3 zH=>?_) hs
 obtain⟨y,H3,I3,ry,a,kvs,k,b,ex,e,ey,eb,hl,q3⟩:=zH
 subst ex ey
 obtain rfl:u=Value.ref a:=rx
 obtain rfl:iv=Value.ref b:=ry
 exact KH hu I3 e eb hl rv fun s4 I4=>⟨σ,_,I4,q3⟩
theorem lZ {es:List Expr}{t:TA}(hu:X.A.units + 1 < cLine)(ho:PE X o td)(ha:PA X (e :: es) t)
  (h1:attributeBase o "get" X.env (eval o X.env)=eval o X.env:=by rfl)
  (h2:((backTo Aq (starEach (e :: es) X.env)).all (fun x=>!x.1) && (backToKw Aq (keywordEach [] X.env)).all (fun x=>x.1.isSome) && decide ((e :: es).length + ([]:List Keyword).length + (if ([]:List Keyword).isEmpty then 0 else 1) < 30))=true:=by rfl)
  (h3:(apos.endLine == Aq.line)=true:=by rfl) (h4:starEach (e :: es) X.env=(false,eval e X.env) :: starEach es X.env:=by rfl) (h5:(backTo Aq (starEach es X.env)).any (·.1)=false:=by rfl) :
  PE X (.Call (.Attribute o "get" apos) (e :: es) [] Aq) (xC X.prog X.w td t):=by
 intro pins s σ H Q I h
 refine wpAny_Call_method_late h1 h2 h3 rfl (aT (ho pins s σ H _ I h) fun v s1 zH=>?_)
 obtain⟨x,H1,I1,r1,a,kvs,ex,e1,q1⟩:=zH
 subst ex
 obtain rfl:v=Value.ref a:=r1
 obtain⟨t1,t2⟩:=rg I1 e1
 refine⟨"dict", "dict.get",PySem.F.plainAttrs_dict,slot_dict_get,PySem.F.type_dict_get,t1,t2,?_⟩
 have hA:=ha Aq pins s1 σ H1 _ I1 q1
 rw[h4]at hA ⊢
 refine Calls.callWith_builtin (by show(false || (backTo Aq (starEach es X.env)).any (·.1))=false;rw[h5]<;>rfl) (Calls.evalArgs_plain ?_)
 refine aT hA fun us s2 zH=>?_
 obtain⟨vs,H2,I2,r2,y,z,ov,evs,g,q2⟩:=zH
 subst evs
 cases r2 with
 | cons ry r2=>cases r2 with
  | cons rz r2=>cases r2 with
   | nil=>exact yO hu I2 g ry rz fun w' s4 I4 CH=>⟨_,H2,I4,CH,q2⟩
end
end L2
namespace L2
open PySem PySem.Spec PyProof.Rows
structure uZ (K:Frag)(C:Addr)(m:Str)(f:Addr):Prop where
 reads:PySem.W.readsIn K C (.type "type")=true
 found:PySem.W.findCls K (.ref C) (.type "type") m=some (.val (.ref f))
 spec:PySem.W.specialIn K (.ref C) "__getattribute__" = some (some (.builtin "type.__getattribute__"))
 kp:keepIn K (.ref f)=true
noncomputable def xG (C:Addr)(sp:Sp)(AV:List V)(E:XK)(ta:TE)(t:TA):TE:=fun σ H Q=>ta σ H fun x H1=>x = .ref C/\t σ H1 fun vs H2=>sp (vs ++ AV) H2 Q E
section
variable {X:Cx}{CX:oX}{k:Nat}{f C:Addr}{fd:FuncData}{ps:List Str}{sp:Sp}{AV:List V}{ds:List Value}{E:XK}{x m:Str}{p pos apos:Pos}{e o:Expr}{es:List Expr}{ta:TE}{t:TA}
theorem mj {pl:Sem Bool}(he:PE X o ta)(hm:uZ X.K C m f)(F:zE X.prog X.w X.K X.mg X.base CX k f fd ps sp)(hr:zN k X.A)(hb:Binds X.K fd ps ds)(hd:Vals AV ds)(hx:dR CX X E)(ha:PA X (e :: es) t)
  (h1:starEach (e :: es) X.env=(false,eval e X.env) :: starEach es X.env:=by rfl) (h2:(backTo pos (starEach es X.env)).any (·.1)=false:=by rfl)
  (ht:eval (.Call (.Attribute o m apos) (e :: es) [] pos) X.env=(do
   let ov ← eval o X.env
   standAt apos.atName
   let (f,first) ← holding [ov] (getMethod ov m pl)
   callWith pos f first (backTo pos (starEach (e :: es) X.env)) (backToKw pos (keywordEach [] X.env))):=by rfl) :
  PE X (.Call (.Attribute o m apos) (e :: es) [] pos) (xG C sp AV E ta t):=by
 intro pins s σ H Q I h
 refine PySem.W.methodCall_KW (pl:=pl) (aT (he pins s σ H _ I h) fun u s1 zH=>?_) ht
 obtain⟨x,H1,I1,rx,ex,q⟩:=zH
 subst ex
 obtain rfl:u=Value.ref C:=rx
 refine PySem.W.method_cls I1.AF hm.spec (PySem.W.cls_value I1.AF hm.reads hm.found rfl ?_)
 refine PySem.W.callWith_K (first:=[]) (h₀:=X.base) I.ok.mod.Em hm.kp (aT (ha pos pins _ σ H1 _ (I1.tok _) q) fun us s2 ⟨vs,H2,I2,r,q2⟩=>⟨I2.AF,?_⟩) h1 h2
 exact kY F hr hb hd hx I2 r q2
end
section
variable {X:Cx}
end
end L2
namespace L2
open PySem PySem.Spec PyProof.Rows
noncomputable def KJ (K:Frag)(a:Addr)(n:Nat):It :=
 ⟨fun i H=>∃ xs x,zJ K H a xs/\xs.length=n/\i < n/\xs[n - 1 - i]? = some x,fun i H x H'=>H' = H/\∀ xs,zJ K H a xs->xs[n - 1 - i]? = some x,fun i _=>i=n⟩
theorem rK {P:Program}{w:World}{K:Frag}{tg:Expr}(a it:Addr)(n:Nat):lB P w K tg (KJ K a n) [it] it (fun i h=>PySem.Heap.IsRevIter h it a ((n:Int) - 1 - (i:Nat))) where
 mem:=by simp
 obj:=fun i h st b hb=>by
  have e:b=it:=by simpa using hb
  subst e
  obtain⟨o,e,c,d⟩:=st
  exact⟨o,e,fun v z=>by rw[d]at z;cases z⟩
 keep:=fun i h h' st k=>st.at fun o e=>k it (by simp) o e
 item:=by
  intro X hP hw hK hc i pins s σ H E I hf st hg
  subst hP hw hK
  obtain⟨xs,x,hq,hn,hi,hx⟩:=hg
  obtain⟨zI,rv,p,hz⟩:=I.list hq
  obtain⟨u,hu,ru⟩:=rv.get hx
  obtain⟨f0,f1,f2,f3,f4,f5⟩:=hf it (by simp)
  have e1:(n:Int) - 1 - (i:Nat)=((n - 1 - i:Nat):Int):=by omega
  have e2:((n - 1 - i:Nat):Int) - 1=(n:Int) - 1 - ((i + 1:Nat):Int):=by omega
  have st:PySem.Heap.IsRevIter s.heap it a ((n:Int) - 1 - (i:Nat)):=st
  rw[e1]at st
  refine wpAny_pyNext_rev_item st p.isList (x:=u) (by simpa using hu) fun h' De sb=>?_
  rw[e2]at De
  have I1:Inv X pins σ H { s with heap:=h' }:=I.turned (t':=s.toks) (fun b o hb e=>(sb.2 b hb).trans e) f0 f1 f3 f4 f5
  obtain⟨o,e,c,d⟩:=id De
  exact⟨u,rfl,mO (s:={ s with heap:=h' }) e c d (by decide) ⟨x,H,I1,ru,⟨rfl,fun ys hy=>by rw[I.BI hy hq];exact hx⟩,De,fun b hb=>(hf b hb).1⟩⟩
 done:=by
  intro X hP hw hK hc i pins s σ H E I hf st hg
  subst hP hw hK
  have hg:i=n:=hg
  subst hg
  obtain⟨f0,f1,f2,f3,f4,f5⟩:=hf it (by simp)
  have st:PySem.Heap.IsRevIter s.heap it a ((i:Int) - 1 - (i:Nat)):=st
  rw[show (i:Int) - 1 - (i:Nat) = -1 by omega]at st
  exact wpAny_pyNext_rev_end (I.ok.hd hc) st fun h' eb=>⟨rfl,I.turned (t':=s.toks) (fun b o hb e=>eb b o hb e) f0 f1 f3 f4 f5⟩
 self:=fun _ _ _ _ _ st h=>wpAny_pyIter_revIter st h
section
variable {X:Cx}{tg:Expr}
noncomputable def QJ (K:Frag)(ta:TA):TI:=fun σ H R=>ta σ H fun vs H1=>∃ a xs,vs=[.ref a]/\zJ K H1 a xs/\R (KJ K a xs.length) H1
theorem yn {a:Expr}{ta:TA}{p pos:Pos}(hg:Gl X "reversed")(hm:X.mg "reversed" = none)(ha:PA X [a] ta)(hs:starEach [a] X.env=[(false,eval a X.env)]:=by rfl):PI X tg (.Call (.Name "reversed" p) [a] [] pos) (QJ X.K ta):=by
 intro pins s σ H R I h
 refine Call_ (fJ I hg hm (show bootBuiltins "reversed" = some (.type "reversed") by decide +kernel) (PyProof.Rows.callWith_type1 (aT (ha pos pins s σ H _ I h) fun us s1 zH=>?_) hs rfl))
 obtain⟨vs,H1,I1,r1,q1⟩:=zH
 obtain⟨l,xs,e,hq,q⟩:=q1
 subst e
 cases r1 with
 | cons r rr =>
  cases rr
  cases r
  obtain⟨zI,rv,pl,hz⟩:=I1.list hq
  have hl:zI.toArray.size=xs.length:=by rw[size_toArray];exact rv.length.symm
  refine call_reversed_list pl.isList ?_
  rw[hl]
  have st:PySem.Heap.IsRevIter (s1.heap.push (revObj l ((xs.length:Int) - 1))) s1.heap.objs.size l ((xs.length:Int) - 1 - ((0:Nat):Int)):=⟨_,Heap.get?_push_size _ rfl,rfl,by simp[revObj]⟩
  refine wpAny_pyIter_revIter (s:={ s1 with heap:=s1.heap.push (revObj l ((xs.length:Int) - 1)) }) st ?_
  refine⟨s1.heap.objs.size,[s1.heap.objs.size],_,_,H1,rfl,I1.kept (t':=s1.toks) fun b o e=>Heap.get?_push_of_some _ e,rK l _ xs.length,st,fun b hb=>?_,q⟩
  have e:b=s1.heap.objs.size:=by simpa using hb
  subst e
  exact I1.Dq (Nat.le_refl _) (I1.zL.fresh (Nat.le_refl _))
noncomputable def QK:V->List V->Hp->VK->Prop:=fun x vs H Q=>∃ (l:Addr)(ns:List Int)(k:Int),x = .ref l/\vs=[.int k]/\H l=some (.lst (ns.map V.int))/\k ∈ ns/\ns.length <= 100000/\Q (.int (ns.idxOf k:Nat)) H
theorem kq:Oc X "list.index" QK:=by
 intro pins s σ H x vs v us Q I rx rv h
 obtain⟨l,ns,k,rfl,rfl,hH,hk,hlen,q⟩:=h
 cases rx
 obtain⟨u,rfl,ru⟩:=rv.one
 obtain⟨t,rfl⟩:=ru
 obtain⟨z,zI,n,r,hl,e⟩:=I.Dz hH
 have hi:IntsAre zI.toArray.toList ns:=j8 r
 have CT:zI.length=ns.length:=by rw[← r.length,length_map]
 have hj:ns.idxOf k < ns.length:=List.idxOf_lt_length_of_mem hk
 have at_:∀ m (hm:m < zI.toArray.size),∃ t,zI.toArray[m]=Value.int (ns[m]'(by simpa [CT] using hm)) t:=fun m hm=>by
  have Fe:m < zI.length:=by simpa using hm
  have hv:(ns.map V.int)[m]? = some (V.int (ns[m]'(by omega))):=by simp[show m < ns.length by omega]
  obtain⟨w',hw,CH⟩:=r.get hv
  obtain⟨t',rfl⟩:=CH
  refine⟨t',?_⟩
  have:zI[m]? = some zI[m]:=List.getElem?_eq_getElem Fe
  rw[this]at hw
  simpa using Option.some.inj hw
 let e':Value->Bool:=fun y=>Value.isInt k y
 refine call_meets slot_list_index ⟨_,e,rfl⟩ PySem.F.entry_list_index (PySem.F.args_list_index_2 _ _)
  (SeqAt.list_indexAt l zI.toArray n none #[] (.int k t) e' (ns.idxOf k) (by simpa [CT] using hj) (by omega) ?_ ?_) ⟨e,fun y hy=>?_,?_⟩
 ·obtain⟨t',et⟩:=at_ (ns.idxOf k) (by simpa [CT] using hj)
  show Value.isInt k (zI.toArray[ns.idxOf k]'(by simpa [CT] using hj))=true
  rw[et,List.getElem_idxOf]
  simp[Value.isInt]
 ·intro m hm hmj
  obtain⟨t',et⟩:=at_ m hm
  show Value.isInt k zI.toArray[m]=false
  rw[et]
  have Af:ns[m]'(by simpa [CT] using hm) ≠ k:=fun z=>by
   have:=List.not_of_lt_findIdx (p:=fun x=>x == k) (xs:=ns) (i:=m) hmj
   rw[z]at this
   simp at this
  simp only[Value.isInt,beq_eq_false_iff_ne,ne_eq]
  first | exact Af | exact fun z=>Af z.symm
 ·have hm:y ∈ zI:=by simpa using hy
  obtain⟨m,Fe,em⟩:=List.getElem_of_mem hm
  obtain⟨t',et⟩:=at_ m (by simpa using Fe)
  have ey:y=Value.int (ns[m]'(by omega)) t':=by rw[← em];simpa using et
  subst ey
  intro prog w E Q' hQ'
  refine wpAny_eqBool_int ?_
  have:(ns[m]'(by omega) == k)=Value.isInt k (Value.int (ns[m]'(by omega)) t'):=by simp[Value.isInt,Bool.beq_comm]
  rw[this]
  exact hQ'
 ·exact⟨.int (ns.idxOf k:Nat),H,I.tok _,⟨_,rfl⟩,q⟩
noncomputable def KL (K:Frag):List V->Hp->VK->Prop:=fun xs H Q=>∃ (v:V)(t:Value)(c:String)(b:Bool),xs=[v, .ty c]/\i9 K H v t/\kitOne K t (.type c)=some b/\Q (.bl b) H
theorem il:c6 X (.builtin "isinstance") (KL X.K):=by
 intro pins s σ H xs us Q I r h
 obtain⟨v,t,c,b,rfl,ty,hk,q⟩:=h
 cases r with
 | cons r1 r2=>cases r2 with
  | cons r2 r3 =>
   cases r3
   cases r2
   exact qW I r1 ty hk fun tk=>⟨.bl b,H,I.tok _,rfl,q⟩
end
end L2
namespace L2
open PySem PySem.Spec PyProof.Rows
section
variable {κ:Type} [DecidableEq κ]
noncomputable def gN (kvs:List (κ × V))(k:κ):Option V:=(kvs.find? fun kv=>decide (kv.1=k)).map (·.2)
noncomputable def cS (kvs:List (κ × V))(k:κ)(v:V):List (κ × V) :=
 if (kvs.any fun kv=>decide (kv.1=k))=true then kvs.map (fun kv=>if kv.1=k then (kv.1,v) else kv) else kvs ++ [(k,v)]
theorem ja {p:κ × V}{r:List (κ × V)}{k:κ}(e:p.1=k):gN (p :: r) k=some p.2:=by simp[gN,List.find?_cons,e]
theorem jb {p:κ × V}{r:List (κ × V)}{k:κ}(e:¬ p.1=k):gN (p :: r) k=gN r k:=by simp[gN,List.find?_cons,e]
theorem jc (k:κ):∀ kvs:List (κ × V),(kvs.any fun kv=>decide (kv.1=k))=(gN kvs k).isSome
 | []=>rfl
 | p :: r=>by
  rw[any_cons]
  by_cases e:p.1=k
  ·simp only[ja e,decide_eq_true e,Bool.true_or,Option.isSome_some]
  ·rw[jb e,decide_eq_false e,Bool.false_or];exact jc k r
theorem fH (kvs:List (κ × V))(k:κ)(v:V):(cS kvs k v).length <= kvs.length + 1:=by
 unfold cS
 split
 ·rw[length_map];omega
 ·rw[length_append,length_cons,length_nil];omega
theorem tj {kvs:List (κ × V)}{k:κ}(v:V)(h:gN kvs k=none):cS kvs k v=kvs ++ [(k,v)]:=by
 unfold cS
 rw[jc,h]
 exact if_neg (by decide)
theorem Av.Bt {o:Option V}{u:Option Value}(r:Av o u):o.isSome=u.isSome:=by
 cases o with
 | none=>cases u with
  | none=>rfl
  | some _=>exact(show False from r).elim
 | some _=>cases u with
  | none=>exact(show False from r).elim
  | some _=>rfl
theorem Av.getD {o:Option V}{u:Option Value}{d:V}{d':Value}(r:Av o u)(rd:RelV d d'):RelV (o.getD d) (u.getD d'):=by
 cases o with
 | none=>cases u with
  | none=>exact rd
  | some _=>exact(show False from r).elim
 | some _=>cases u with
  | none=>exact(show False from r).elim
  | some _=>exact r
theorem KV.val {kvs:List (κ × V)}{vs:List (κ × Value)}(r:KV kvs vs)(k:κ):Av (gN kvs k) (valueAt vs k):=by
 unfold KV at r
 induction r with
 | nil=>exact True.intro
 | @cons p q ps qs h t ih =>
  obtain⟨h1,h2⟩:=h
  by_cases e:p.1=k
  ·have e':q.1=k:=h1.symm.trans e
   have b:valueAt (q :: qs) k=some q.2:=by simp[valueAt,List.find?_cons,e']
   rw[ja e,b];exact h2
  ·have e':¬ q.1=k:=fun z=>e (h1.trans z)
   have b:valueAt (q :: qs) k=valueAt qs k:=by simp[valueAt,List.find?_cons,e']
   rw[jb e,b];exact ih
theorem KV.any {kvs:List (κ × V)}{vs:List (κ × Value)}(r:KV kvs vs)(k:κ):(kvs.any fun kv=>decide (kv.1=k))=vs.any fun kv=>decide (kv.1=k):=by
 unfold KV at r
 induction r with
 | nil=>rfl
 | cons h t ih=>rw[any_cons,any_cons,ih,h.1]
theorem KV.Ih {kvs:List (κ × V)}{vs:List (κ × Value)}(r:KV kvs vs)(k:κ){y:V}{u:Value}(ry:RelV y u) :
  KV (kvs.map fun kv=>if kv.1=k then (kv.1,y) else kv) (vs.map fun kv=>if kv.1=k then (kv.1,u) else kv):=by
 unfold KV at r ⊢
 induction r with
 | nil=>exact .nil
 | @cons p q ps qs h t ih =>
  rw[map_cons,map_cons]
  refine .cons ?_ ih
  obtain⟨h1,h2⟩:=h
  by_cases e:p.1=k
  ·rw[if_pos e,if_pos (h1.symm.trans e)];exact⟨h1,ry⟩
  ·rw[if_neg e,if_neg (fun z=>e (h1.trans z))];exact⟨h1,h2⟩
theorem KV.put {kvs:List (κ × V)}{vs:List (κ × Value)}(r:KV kvs vs)(k:κ){y:V}{u:Value}(ry:RelV y u):KV (cS kvs k y) (stored vs k u):=by
 unfold cS stored
 rw[r.any k]
 by_cases e:(vs.any fun kv=>decide (kv.1=k))=true
 ·rw[if_pos e,if_pos e];exact r.Ih k ry
 ·rw[if_neg e,if_neg e];exact Paired.snoc r ⟨rfl,ry⟩
theorem KV.keys {kvs:List (κ × V)}{vs:List (κ × Value)}(r:KV kvs vs):kvs.map (·.1)=vs.map (·.1):=by
 unfold KV at r
 induction r with
 | nil=>rfl
 | cons h t ih=>rw[map_cons,map_cons,ih,h.1]
theorem KV.length {kvs:List (κ × V)}{vs:List (κ × Value)}(r:KV kvs vs):kvs.length=vs.length:=Paired.length r
end
theorem k4 {P:Program}{w:World}{k:bY}{u:Value}(r:RelV (kV k) u):(aU P w).is k u=true:=by
 cases k with
 | inl i=>obtain⟨t,e⟩:=(show ∃ t,u=Value.int i t from r);subst e;exact mB P w i t
 | inr x=>obtain⟨t,e⟩:=(show ∃ t,u=Value.str x t from r);subst e;exact m9 P w x t
theorem k7 {P:Program}{w:World}:∀ {ks:List bY}{us:List Value},Vals (ks.map kV) us->ItemsAre (aU P w) ks us
 | [],_,r=>by rw[map_nil]at r;cases r;exact .nil
 | k :: ks,_,r=>by
  rw[map_cons]at r
  cases r with
  | cons h t=>exact .cons (k4 h) (k7 t)
abbrev KT (H:Hp):List (List bY × V)->List (List bY × Addr × Value)->Prop:=Paired fun p q=>p.1=q.1/\H q.2.1=some (.tup (p.1.map kV))/\RelV p.2 q.2.2
theorem KT.val {H:Hp}{kvs:List (List bY × V)}{xs:List (List bY × Addr × Value)}(r:KT H kvs xs)(k:List bY):Av (gN kvs k) ((atKey xs k).map (·.2)):=by
 induction r with
 | nil=>exact True.intro
 | @cons p q ps qs h t ih =>
  obtain⟨h1,_,h2⟩:=h
  by_cases e:p.1=k
  ·have e':q.1=k:=h1.symm.trans e
   have b:atKey (q :: qs) k=some q.2:=by simp[atKey,List.find?_cons,e']
   rw[ja e,b];exact h2
  ·have e':¬ q.1=k:=fun z=>e (h1.trans z)
   have b:atKey (q :: qs) k=atKey qs k:=by simp[atKey,List.find?_cons,e']
   rw[jb e,b];exact ih
theorem KT.Ih {H:Hp}{kvs:List (List bY × V)}{xs:List (List bY × Addr × Value)}(r:KT H kvs xs)(k:List bY){y:V}{u:Value}(ry:RelV y u) :
  KT H (kvs.map fun kv=>if kv.1=k then (kv.1,y) else kv) (xs.map (putAt k u)):=by
 induction r with
 | nil=>exact .nil
 | @cons p q ps qs h t ih =>
  rw[map_cons,map_cons]
  refine .cons ?_ ih
  obtain⟨h1,h2,h3⟩:=h
  unfold putAt
  by_cases e:p.1=k
  ·rw[if_pos e,if_pos (h1.symm.trans e)];exact⟨h1,h2,ry⟩
  ·rw[if_neg e,if_neg (fun z=>e (h1.trans z))];exact⟨h1,h2,h3⟩
theorem KT.put {H:Hp}{kvs:List (List bY × V)}{xs:List (List bY × Addr × Value)}(r:KT H kvs xs)(k:List bY){b:Addr}{y:V}{u:Value}(hb:H b=some (.tup (k.map kV)))(ry:RelV y u) :
  KT H (cS kvs k y) (storedH xs k b u):=by
 have e:(kvs.any fun kv=>decide (kv.1=k))=(atKey xs k).isSome:=by
  rw[jc,(r.val k).Bt,Option.isSome_map]
 unfold cS storedH
 rw[e]
 by_cases q:(atKey xs k).isSome=true
 ·rw[if_pos q,if_pos q];exact r.Ih k ry
 ·rw[if_neg q,if_neg q];exact Paired.snoc r ⟨rfl,hb,ry⟩
theorem KT.keeps {H H':Hp}{kvs:List (List bY × V)}{xs:List (List bY × Addr × Value)}(r:KT H kvs xs)(ht:∀ b ys,H b=some (.tup ys)->H' b=some (.tup ys)):KT H' kvs xs :=
 Paired.HE r fun _ _ z=>⟨z.1,ht _ _ z.2.1,z.2.2⟩
section
variable {P:Program}{w:World}{H:Hp}{h:Heap}{a:Addr}
theorem xn {u:HO}(ok:AH P w H h)(e:Rd H a u):zV P w H h a u:=e.ok ok
theorem kD {kvs:List (bY × V)}(ok:AH P w H h)(e:Rd H a (.dK kvs)):kvs.length <= sizeLine/\(a == sysModules)=false/\∃ vs,KV kvs vs/\h.DictOf (aU P w) a vs :=
 show zV P w H h a (.dK kvs) from xn ok e
theorem uF {kvs:List (bY × V)}(ok:AH P w H h)(e:H a=some (.dK kvs)):kvs.length <= sizeLine/\(a == sysModules)=false/\∃ vs,KV kvs vs/\h.DictOf (aU P w) a vs:=kD ok (.inl e)
theorem j4 {ks:List bY}(ok:AH P w H h)(e:H a=some (.tup (ks.map kV))):(tupleKind (aU P w)).is h ks a:=by
 obtain⟨_,zI,r,o,h1,⟨h2,n,h3⟩,_⟩:=(show zV P w H h a (.tup (ks.map kV)) from ok a _ e)
 exact⟨o,zI.toArray,n,h1,h2,h3,by simpa using k7 r⟩
theorem kC {kvs:List (List bY × V)}(ok:AH P w H h)(e:Rd H a (.dT kvs)):kvs.length <= sizeLine/\(a == sysModules)=false /\
  ∃ xs,KT H kvs xs/\h.DictOfH (tupleKind (aU P w)) a xs:=by
 obtain⟨z,y,xs,r,o,es,ep,h1,h2,h3,h4,h5⟩:=(show zV P w H h a (.dT kvs) from xn ok e)
 refine⟨z,y,xs,r,o,es,ep,h1,h2,h3,h4,fun x hx=>?_,h5⟩
 have all:∀ {l:List (List bY × V)}{m:List (List bY × Addr × Value)},KT H l m->∀ x ∈ m,(tupleKind (aU P w)).is h x.1 x.2.1:=by
  intro l m q
  induction q with
  | nil=>intro x hx;exact nomatch hx
  | @cons p q ps qs hq t ih =>
   intro x hx
   rcases mem_cons.mp hx with e | hx
   ·subst e
    exact j4 ok (by rw[← hq.1];exact hq.2.1)
   ·exact ih x hx
 exact all r x hx
theorem KN {kvs:List (List bY × V)}(ok:AH P w H h)(e:H a=some (.dT kvs)):kvs.length <= sizeLine/\(a == sysModules)=false /\
  ∃ xs,KT H kvs xs/\h.DictOfH (tupleKind (aU P w)) a xs:=kC ok (.inl e)
end
noncomputable def B7 (H:Hp)(a:Addr)(y:V)(r:Option V):Prop :=
 (∃ kvs k,Rd H a (.dK kvs)/\y=kV k/\r=gN kvs k)∨∃ kvs k b,Rd H a (.dT kvs)/\y = .ref b/\H b=some (.tup (k.map kV))/\r=gN kvs k
noncomputable def EE (H:Hp)(a:Addr)(y v:V)(H':Hp):Prop :=
 (∃ kvs k,H a=some (.dK kvs)/\y=kV k/\kvs.length < sizeLine/\H' = upd H a (.dK (cS kvs k v))) ∨
 ∃ kvs k b,H a=some (.dT kvs)/\y = .ref b/\H b=some (.tup (k.map kV))/\kvs.length < sizeLine/\H' = upd H a (.dT (cS kvs k v))
theorem B7.k {H:Hp}{a:Addr}{kvs:List (bY × V)}{k:bY}(e:H a=some (.dK kvs)):B7 H a (kV k) (gN kvs k) := .inl ⟨kvs,k, .inl e,rfl,rfl⟩
theorem EE.k {H:Hp}{a:Addr}{kvs:List (bY × V)}{k:bY}{v:V}(e:H a=some (.dK kvs))(hl:kvs.length < sizeLine):EE H a (kV k) v (upd H a (.dK (cS kvs k v))) := .inl ⟨kvs,k,e,rfl,hl,rfl⟩
section
variable {X:Cx}{pins:List (Addr × Obj)}{σ:St}{H:Hp}{s:Shared}{a:Addr}{y v:V}{u r:Value}{o:Option V}{A:Around}{E:Value->Shared->Prop}
theorem Inv.big (I:Inv X pins σ H s):sysModules < s.heap.objs.size:=by
 have h:mainGlobals < s.heap.objs.size:=(I.mod.glob.keeps I.bk).lt
 exact lt_trans (by decide) h
theorem rj {Q:Value->Shared->Prop}(hu:A.units + 1 < cLine)(I:Inv X pins σ H s)(g:B7 H a y (some v))(ry:RelV y u)(h:∀ w' s',Inv X pins σ H s'->RelV v w'->Q w' s') :
  wpAny (model X.prog X.w) A (getItem (.ref a) u) Q E s:=by
 rcases g with ⟨kvs,k,e,ey,l⟩ | ⟨kvs,k,b,e,ey,eb,l⟩
 ·subst ey
  obtain⟨z,hd,vs,rel,dd⟩:=kD I.zL e
  obtain⟨w',hw,CH⟩:=Av.some_of (v:=v) (o:=valueAt vs k) (by rw[l];exact rel.val k)
  exact wpAny_getItem_of (k4 ry) dd.mapOf hw (h w' _ (I.tok _) CH)
 ·subst ey
  cases (show u=Value.ref b from ry)
  obtain⟨z,hd,xs,rel,dd⟩:=kC I.zL e
  obtain⟨w',hw,CH⟩:=Av.some_of (v:=v) (o:=(atKey xs k).map (·.2)) (by rw[l];exact rel.val k)
  obtain⟨p,hp,GF⟩:=Option.map_eq_some_iff.mp hw
  refine wpAny_getItem_heap (tupleKind_room_in1 hu) (j4 I.zL eb) dd hp ?_
  rw[GF]
  exact h w' _ (I.tok _) CH
theorem wI {Q:Value->Shared->Prop}(hu:A.units + 1 < cLine)(I:Inv X pins σ H s)(g:B7 H a y o)(ry:RelV y u)(h:∀ s',Inv X pins σ H s'->Q (.bool (!o.isSome)) s') :
  wpAny (model X.prog X.w) A (compareOp .NotIn u (.ref a)) Q E s:=by
 rcases g with ⟨kvs,k,e,ey,l⟩ | ⟨kvs,k,b,e,ey,eb,l⟩
 ·subst ey
  obtain⟨z,hd,vs,rel,dd⟩:=kD I.zL e
  refine wpAny_notIn_of (k4 ry) hd dd.mapOf ?_
  rw[← (rel.val k).Bt,← l]
  exact h _ (I.tok _)
 ·subst ey
  cases (show u=Value.ref b from ry)
  obtain⟨z,hd,xs,rel,dd⟩:=kC I.zL e
  refine wpAny_notIn_heap (tupleKind_room_in1 hu) (j4 I.zL eb) hd dd ?_
  have q:=(rel.val k).Bt
  rw[Option.isSome_map]at q
  rw[← q,← l]
  exact h _ (I.tok _)
theorem l8 {h':Heap}{t':Nat}{ob:HO}(I:Inv X pins σ H s)(mu:JF (H a))(hs:Heap.SameBut a s.heap h')(he:∃ q,h'.get? a=some q)(new:zV X.prog X.w (upd H a ob) h' a ob) :
  Inv X pins σ (upd H a ob) { s with heap:=h',toks:=t' } :=
 I.write (x:=a) (e:=a) mu (.inl rfl) (fun b q hb z=>(hs.2 b hb).trans z) he new
theorem uG {P:Program}{w:World}{H':Hp}{h':Heap}{kvs:List (bY × V)}{vs:List (bY × Value)}(z:kvs.length <= sizeLine)(hd:(a == sysModules)=false)(rel:KV kvs vs)(dd:h'.DictOf (aU P w) a vs) :
  zV P w H' h' a (.dK kvs):=⟨z,hd,vs,rel,dd⟩
theorem rh {H':Hp}{Q:Unit->Shared->Prop}(hu:A.units + 1 < cLine)(I:Inv X pins σ H s)(g:EE H a y v H')(ry:RelV y u)(rv:RelV v r)(h:∀ s',Inv X pins σ H' s'->Q () s') :
  wpAny (model X.prog X.w) A (setItem (.ref a) u r) Q E s:=by
 rcases g with ⟨kvs,k,e,ey,l,eH⟩ | ⟨kvs,k,b,e,ey,eb,l,eH⟩
 ·subst ey eH
  obtain⟨z,hd,vs,rel,dd⟩:=uF I.zL e
  have hz:vs.length <= sizeLine:=by rw[← rel.length];exact z
  have hl:(cS kvs k v).length <= sizeLine:=by have:=fH kvs k v;omega
  refine wpAny_setItem_pairs (hsz:=hz) (k4 ry) dd fun h' F9 hs=>h _ ?_
  have he:∃ q,h'.get? a=some q:=let ⟨q,_,_,hq,_⟩:=F9; ⟨q,hq⟩
  exact l8 I (by rw[e];exact True.intro) hs he (uG hl hd (rel.put k rv) F9)
 ·subst ey eH
  cases (show u=Value.ref b from ry)
  obtain⟨z,hd,xs,rel,dd⟩:=KN I.zL e
  have hz:xs.length <= sizeLine:=by rw[← Paired.length rel];exact z
  have hl:(cS kvs k v).length <= sizeLine:=by have:=fH kvs k v;omega
  refine wpAny_setItem_heap (hsz:=hz) (tupleKind_room_in1 hu) (j4 I.zL eb) dd fun h' F9 hs=>h _ ?_
  obtain⟨q,es,ep,hq,h2,h3,h4,_,h5⟩:=F9
  refine l8 I (by rw[e];exact True.intro) hs ⟨q,hq⟩ ⟨hl,hd,_,(rel.put k eb rv).keeps fun c ys ec=>?_,q,es,ep,hq,h2,h3,h4,h5⟩
  rw[af (aX ec e (fun z=>nomatch z))]
  exact ec
end
section
variable {X:Cx}{pins:List (Addr × Obj)}{σ:St}{H:Hp}{s:Shared}{a:Addr}{kvs:List (bY × V)}{k:bY}{u:Value}{A:Around}{E:Value->Shared->Prop}
end
noncomputable def KO (i:Expr):Prop:=∀ ov iv,subscripted i false ov iv=operate [ov,iv] (getItem ov iv)
theorem vj {prog:Program}{w:World}{A:Around}{E:Value->Shared->Prop}{s:Shared}{env:Env}{value slice:Expr}{pos:Pos}{T id:String}{Q:Value->Shared->Prop}
  (hl:typeLookup (.type T) "__getitem__" = pure (some (.builtin id))) (hs:KO slice)
  (h:wpAny (model prog w) A (eval value env) (fun o s₁=>wpAny (model prog w) A (eval slice env) (fun i s₂=>s₂.TypeIs o T/\wpAny (model prog w) A (getItem o i) Q E s₂) E s₁) E s) :
  wpAny (model prog w) A (eval (.Subscript value slice pos) env) Q E s:=by
 refine Subscript_ (wpAny_mono h (fun o s₁ h₁=>wpAny_mono h₁ (fun i s₂ h₂=>?_) fun _ _ x=>x) fun _ _ x=>x)
 obtain⟨hT,h₂⟩:=h₂
 unfold subscriptTail
 refine wpAny_bind ?_
 rw[getitemInPython_of_ne hT.not_modules]
 refine wpAny_bind (wpAny_specialOf hT hl ?_)
 have fin:wpAny (model prog w) A (subscripted slice false o i) (fun r s₃=>wpAny (model prog w) A (letTemporaryGo value o r >>= fun _=>pure r) Q E s₃) E s₂:=by
  rw[hs o i]
  exact wpAny_operating (wpAny_mono h₂ (fun r s₃ h₃=>wpAny_bind (wpAny_letTemporaryGo (wpAny_pure h₃))) fun _ _ x=>x)
 first
  | exact wpAny_pure (wpAny_bind fin)
  | exact wpAny_bind (wpAny_pure (wpAny_bind fin))
  | exact wpAny_bind fin
theorem mT {X:Cx}{pins:List (Addr × Obj)}{σ:St}{H:Hp}{s:Shared}{a:Addr}{y:V}{o:Option V}(I:Inv X pins σ H s)(g:B7 H a y o):s.TypeIs (.ref a) "dict":=by
 rcases g with ⟨kvs,k,e,_,_⟩ | ⟨kvs,k,b,e,_,_,_⟩
 ·obtain⟨_,_,vs,_,dd⟩:=kD I.zL e
  exact dd.typeIs
 ·obtain⟨_,_,xs,_,dd⟩:=kC I.zL e
  exact dd.typeIs
noncomputable def KP (td ty:TE):TE:=fun σ H Q=>td σ H fun x H1=>ty σ H1 fun y H2=>∃ a v,x = .ref a/\B7 H2 a y (some v)/\Q v H2
noncomputable def vi (ty td:TE):TE:=fun σ H Q=>ty σ H fun y H1=>td σ H1 fun x H2=>∃ a o,x = .ref a/\B7 H2 a y o/\Q (.bl (!o.isSome)) H2
noncomputable def KQ (td ty tv:TE):TS:=fun D σ H=>tv σ H fun v H1=>td σ H1 fun x H2=>ty σ H2 fun y H3=>∃ a H4,x = .ref a/\EE H3 a y v H4/\D.nx σ H4
section
variable {X:Cx}{o i e value:Expr}{pos pos' DV:Pos}{td ty tv:TE}
theorem pF (hu:X.A.units + 1 < cLine)(ho:PE X o td)(hi:PE X i ty)(hs:KO i):PE X (.Subscript o i pos) (KP td ty):=by
 intro pins s σ H Q I h
 refine vj PySem.F.slot_dict_getitem.lookup hs (aT (ho pins s σ H _ I h) fun u s1 ⟨x,H1,I1,rx,q1⟩=>aT (hi pins s1 σ H1 _ I1 q1) fun iv s2 zH=>?_)
 obtain⟨y,H2,I2,ry,a,v,ex,g,q2⟩:=zH
 subst ex
 obtain rfl:u=Value.ref a:=rx
 exact⟨mT I2 g,rj hu I2 g ry fun w' s3 I3 CH=>⟨v,H2,I3,CH,q2⟩⟩
theorem qG (hu:X.A.units + 1 < cLine)(hi:PE X i ty)(ho:PE X o td):PC X .NotIn i o (vi ty td):=by
 intro pins s σ H Q I h
 refine aT (hi pins s σ H _ I h) fun iv s1 ⟨y,H1,I1,ry,q1⟩=>aT (ho pins s1 σ H1 _ I1 q1) fun u s2 zH=>?_
 obtain⟨x,H2,I2,rx,a,ov,ex,g,q2⟩:=zH
 subst ex
 obtain rfl:u=Value.ref a:=rx
 exact wI hu I2 g ry fun s3 I3=>⟨.bl (!ov.isSome),H2,I3,rfl,q2⟩
theorem v9 (hu:X.A.units + 1 < cLine)(ho:PE X o td)(hi:PE X i ty)(hv:PE X value tv)(hs:swapsWith value (some (.Subscript o i pos')) pos.line X.env=pure false) :
  PS X (.Assign [.Subscript o i pos'] value pos) (KQ td ty tv):=by
 intro pins s σ H D I h
 refine wpAny_Assign_Subscript (aT (hv pins s σ H _ I h) fun r s1 ⟨v,H1,I1,rv,q1⟩=>aT (ho pins s1 σ H1 _ I1 q1) fun u s2 ⟨x,H2,I2,rx,q2⟩=>aT (hi pins s2 σ H2 _ I2 q2) fun iv s3 zH=>?_) hs
 obtain⟨y,H3,I3,ry,a,H4,ex,g,q3⟩:=zH
 subst ex
 obtain rfl:u=Value.ref a:=rx
 exact rh hu I3 g ry rv fun s4 I4=>⟨σ,H4,I4,q3⟩
end
theorem uH {P:Program}{w:World}{H:Hp}(h:Heap)(hb:sysModules < h.objs.size):zV P w H (h.push { cls := .type "dict",data := .dict #[] }) h.objs.size (.dK []) :=
 ⟨zero_le _,beq_eq_false_iff_ne.mpr (Ne.symm (ne_of_lt hb)),[], .nil,Heap.DictOf.new h⟩
section
variable {X:Cx}{pos:Pos}
end
noncomputable def nJ:List (TE × TE)->St->Hp->(List (V × V)->Hp->Prop)->Prop
 | [],_,H,Q=>Q [] H
 | (tk,tv) :: r,σ,H,Q=>tk σ H fun x H1=>tv σ H1 fun y H2=>nJ r σ H2 fun ps H3=>Q ((x,y) :: ps) H3
abbrev VV:List (V × V)->List (Value × Value)->Prop:=Paired fun p q=>RelV p.1 q.1/\RelV p.2 q.2
noncomputable def Oq (X:Cx)(pos:Pos)(keys:List (Option Expr))(values:List Expr)(FA:List (TE × TE)):Prop :=
 ∀ (pins:List (Addr × Obj))(s:Shared)(σ:St)(H:Hp)(Q:List (V × V)->Hp->Prop),Inv X pins σ H s->nJ FA σ H Q ->
  wpAny (model X.prog X.w) X.A (evalPairs (pairTrees keys values X.env pos)) (fun vs s'=>∃ ps H',Inv X pins σ H' s'/\VV ps vs/\Q ps H') X.xe s
theorem vA {X:Cx}{pos:Pos}:Oq X pos [] [] []:=fun pins s σ H Q I h=>pairTrees_nil_walk ⟨[],H,I, .nil,h⟩
theorem tD {X:Cx}{pos:Pos}{k v:Expr}{ks:List (Option Expr)}{vs:List Expr}{tk tv:TE}{FA:List (TE × TE)}(hk:PE X k tk)(hv:PE X v tv)(hr:Oq X pos ks vs FA) :
  Oq X pos (some k :: ks) (v :: vs) ((tk,tv) :: FA):=fun pins s σ H Q I h =>
 pairTrees_cons_walk (aT (hk pins s σ H _ I h) fun u s1 ⟨x,H1,I1,rx,q1⟩=>aT (hv pins s1 σ H1 _ I1 q1) fun w2 s2 ⟨y,H2,I2,ry,q2⟩ =>
  aT (hr pins s2 σ H2 _ I2 q2) fun ws s3 zH=>by obtain⟨ps,H3,I3,rel,q3⟩:=zH;exact⟨(x,y) :: ps,H3,I3, .cons ⟨rx,ry⟩ rel,q3⟩)
noncomputable def fD (kvs more:List (bY × V)):List (bY × V):=more.foldl (fun acc kv=>cS acc kv.1 kv.2) kvs
theorem KV.merge:∀ {more:List (bY × V)}{rs:List (bY × Value)}{kvs:List (bY × V)}{vs:List (bY × Value)},KV more rs->KV kvs vs->KV (fD kvs more) (merged vs rs):=by
 intro more rs kvs vs r
 unfold KV at r
 induction r generalizing kvs vs with
 | nil=>intro q;exact q
 | @cons p q ps qs h t ih =>
  intro r0
  have e:KV (cS kvs p.1 p.2) (stored vs q.1 q.2):=by
   have:=r0.put p.1 h.2
   rw[← h.1];exact this
  exact ih e
theorem gi:∀ (more kvs:List (bY × V)),(fD kvs more).length <= kvs.length + more.length
 | [],kvs=>by show kvs.length <= kvs.length + 0;omega
 | p :: r,kvs=>by
  have h1:=gi r (cS kvs p.1 p.2)
  have h2:=fH kvs p.1 p.2
  show(fD (cS kvs p.1 p.2) r).length <= _
  rw[length_cons];omega
theorem jH {P:Program}{w:World}:∀ {kvs:List (bY × V)}{ws:List (Value × Value)},VV (kvs.map fun kv=>(kV kv.1,kv.2)) ws->∃ rs,Carries (aU P w) ws rs/\KV kvs rs
 | [],_,r=>by rw[map_nil]at r;cases r;exact⟨[],True.intro, .nil⟩
 | p :: kvs,_,r=>by
  rw[map_cons]at r
  cases r with
  | @cons a b as bs h t =>
   obtain⟨rs,c,q⟩:=jH (P:=P) (w:=w) t
   obtain⟨b1,b2⟩:=b
   exact⟨(p.1,b2) :: rs,⟨k4 h.1,rfl,c⟩, .cons ⟨rfl,h.2⟩ q⟩
noncomputable def KR (FA:List (TE × TE)):TE:=fun σ H Q=>∀ p,H p=none->nJ FA σ (upd H p (.dK [])) fun ps H2=>H2 p=some (.dK [])/\∃ kvs:List (bY × V),ps=kvs.map (fun kv=>(kV kv.1,kv.2))/\kvs.length <= 15/\Q (.ref p) (upd H2 p (.dK (fD [] kvs)))
theorem vD {X:Cx}{pos:Pos}{keys:List (Option Expr)}{values:List Expr}{FA:List (TE × TE)}(h:Oq X pos keys values FA)(AZ:keys.all (·.isSome)=true)(hl:keys.length=values.length)(h0:keys ≠ [])
  (h15:keys.length <= 15):PE X (.Dict keys values pos) (KR FA):=by
 intro pins s σ H Q I q
 have hn:=I.zL.fresh (Nat.le_refl s.heap.objs.size)
 have I1:=I.laid (a:=s.heap.objs.size) (o := .dK []) (h':=s.heap.push { cls := .type "dict",data := .dict #[] }) (t':=s.toks) (fun _ _ q=>Heap.get?_push_of_some _ q) (Nat.le_refl _) (uH s.heap I.big)
 refine wpAny_Dict_walk (knd:=aU X.prog X.w) AZ hl h0 h15 (aT (h pins _ σ _ _ I1 (q _ hn)) fun ws s2 zH=>?_)
 obtain⟨ps,H2,I2,rel,e,kvs,ep,lk,q2⟩:=zH
 subst ep
 obtain⟨rs,c,rk⟩:=jH (P:=X.prog) (w:=X.w) rel
 obtain⟨z,hd,Eu,r0,dd⟩:=uF I2.zL e
 cases r0
 refine⟨rs,c,dd,fun h' F9 hs=>⟨.ref s.heap.objs.size,_,?_,rfl,q2⟩⟩
 have hz:(fD [] kvs).length <= sizeLine:=by
  have h1:=gi kvs []
  rw[length_nil]at h1
  rw[sizeLine_eq];omega
 have he:∃ q,h'.get? s.heap.objs.size=some q:=let ⟨q,_,_,hq,_⟩:=F9; ⟨q,hq⟩
 exact l8 I2 (by rw[e];exact True.intro) hs he (uG hz hd (rk.merge .nil) F9)
structure M1 (X:Cx)(o:Expr)(m:Str)(apos:Pos)(e:Expr)(Aq:Pos):Prop where
 base:attributeBase o m X.env (eval o X.env)=eval o X.env
 Az:((backTo Aq (starEach [e] X.env)).all (fun x=>!x.1) && (backToKw Aq (keywordEach [] X.env)).all (fun x=>x.1.isSome)
  && decide (([e]:List Expr).length + ([]:List Keyword).length + (if ([]:List Keyword).isEmpty then 0 else 1) < 30))=true
 line:(apos.endLine == Aq.line)=true
 trees:backTo Aq (starEach [e] X.env)=[(false,eval e X.env)]
noncomputable def V8 (H:Hp)(a:Addr):Prop:=(∃ kvs,Rd H a (.dK kvs))∨∃ kvs,Rd H a (.dT kvs)
theorem yZ {X:Cx}{pins:List (Addr × Obj)}{σ:St}{H:Hp}{s:Shared}{a:Addr}(I:Inv X pins σ H s)(d:V8 H a) :
  s.TypeIs (.ref a) "dict"/\(∀ b,Value.ref a = .ref b->∃ ob,s.heap.get? b=some ob/\ob.dict=none)/\(a == sysModules)=false:=by
 rcases d with ⟨kvs,e⟩ | ⟨kvs,e⟩
 ·obtain⟨_,hd,vs,_,dd⟩:=kD I.zL e
  refine⟨dd.typeIs,fun b q=>?_,hd⟩
  cases q
  obtain⟨ob,_,_,h1,h2,_⟩:=dd
  exact⟨ob,h1,h2.2.1⟩
 ·obtain⟨_,hd,xs,_,dd⟩:=kC I.zL e
  refine⟨dd.typeIs,fun b q=>?_,hd⟩
  cases q
  obtain⟨ob,_,_,h1,h2,_⟩:=dd
  exact⟨ob,h1,h2.2.1⟩
section
variable {X:Cx}{pins:List (Addr × Obj)}{σ:St}{H:Hp}{s:Shared}{a:Addr}{y d:V}{u r:Value}{o:Option V}{A:Around}{E:Value->Shared->Prop}
theorem zi {Q:Value->Shared->Prop}(hu:A.units + 1 < cLine)(I:Inv X pins σ H s)(g:B7 H a y o)(ry:RelV y u)(h:∀ w' s',Inv X pins σ H s'->RelV (o.getD .zT) w'->Q w' s') :
  wpAny (model X.prog X.w) A (call (.builtin "dict.get") [.ref a,u]) Q E s:=by
 rcases g with ⟨kvs,k,e,ey,l⟩ | ⟨kvs,k,b,e,ey,eb,l⟩
 ·subst ey
  obtain⟨z,hd,vs,rel,dd⟩:=kD I.zL e
  refine call_meetsIn slot_dict_get dd.typeIs entry_dict_get (PySem.F.args_dict_get_2 _ _) (meets_dict_get (aU X.prog X.w) a (k4 ry) hd) ⟨_,dd.mapOf,h _ _ (I.tok _) ?_⟩
  rw[l]
  exact(rel.val k).getD rfl
 ·subst ey
  cases (show u=Value.ref b from ry)
  obtain⟨z,hd,xs,rel,dd⟩:=kC I.zL e
  refine call_meetsIn slot_dict_get dd.typeIs entry_dict_get (PySem.F.args_dict_get_2 _ _) (meetsH_dict_get (tupleKind (aU X.prog X.w)) a b hd) ⟨tupleKind_room_in1 hu,k,xs,j4 I.zL eb,dd,h _ _ (I.tok _) ?_⟩
  rw[l]
  exact(rel.val k).getD rfl
end
noncomputable def xD (td ty:TE):TE:=fun σ H Q=>td σ H fun x H1=>∃ a,x = .ref a/\V8 H1 a/\ty σ H1 fun y H2=>∃ o,B7 H2 a y o/\Q (o.getD .zT) H2
section
variable {X:Cx}{o e f:Expr}{apos Aq:Pos}{td ty tx:TE}
theorem tF (hu:X.A.units + 1 < cLine)(ho:PE X o td)(he:PE X e ty)(m:M1 X o "get" apos e Aq):PE X (.Call (.Attribute o "get" apos) [e] [] Aq) (xD td ty):=by
 intro pins s σ H Q I h
 refine wpAny_Call_method m.base m.Az m.line PySem.F.plainAttrs_dict slot_dict_get PySem.F.type_dict_get (aT (ho pins s σ H _ I h) fun u s1 zH=>?_)
 obtain⟨x,H1,I1,rx,a,ex,d,q1⟩:=zH
 subst ex
 obtain rfl:u=Value.ref a:=rx
 obtain⟨t1,t2,_⟩:=yZ I1 d
 refine⟨t1,t2,?_⟩
 rw[m.trees]
 refine Calls.callWith_builtin rfl (Calls.evalArgs_plain (Calls.spliced_cons (aT (he pins s1 σ H1 _ I1 q1) fun iv s2 ⟨y,H2,I2,ry,ov,g,q2⟩=>Calls.spliced_nil ?_)))
 exact zi hu I2 g ry fun w' s3 I3 CH=>⟨_,H2,I3,CH,q2⟩
end
section
variable {X:Cx}{pins:List (Addr × Obj)}{σ:St}{H:Hp}{s:Shared}{a:Addr}{kvs:List (bY × V)}{A:Around}{E:Value->Shared->Prop}
end
section
variable {X:Cx}{pins:List (Addr × Obj)}{σ:St}{H:Hp}{s:Shared}{a:Addr}{y:V}{u:Value}{A:Around}{E:Value->Shared->Prop}
end
end L2
namespace L2
open PySem PySem.Spec PyProof.Rows
section
variable {X:Cx}
end
section
variable {κ:Type} [DecidableEq κ]
end
end L2
namespace L2
open PySem PySem.Spec PyProof.Rows
theorem wx {P:Program}{w:World}{k:bY}{u:Value}(h:(aU P w).is k u=true):RelV (kV k) u:=by
 rcases bq (show j5 k u=true from h) with ⟨i,t,rfl,rfl⟩ | ⟨x,t,rfl,rfl⟩
 ·exact⟨t,rfl⟩
 ·exact⟨t,rfl⟩
noncomputable def DcO (P:Program)(w:World)(o:Obj)(kvs:List (bY × V))(ep:Nat):Prop:=∃ vs es,KV kvs vs/\o.ExactDict/\o.data = .dict es ep/\KeysOf (aU P w) es/\Pairs (aU P w) es.toList vs/\(vs.map (·.1)).Nodup
noncomputable def KS (a:Addr)(o:Obj)(kvs:List (bY × V)):It :=
 ⟨fun i H=>H a=some (.Bx o (.dK kvs))/\i < kvs.length,fun i H x H'=>H' = H/\∃ k,(kvs.map (·.1))[i]? = some k/\x=kV k,fun i H=>H a=some (.Bx o (.dK kvs))/\i=kvs.length⟩
theorem Inv.GG {X:Cx}{pins:List (Addr × Obj)}{σ:St}{H:Hp}{s:Shared}{a:Addr}{o:Obj}{u:HO}(I:Inv X pins σ H s)(ha:H a=some (.Bx o u)):s.heap.get? a=some o:=(I.zL a _ ha).1
theorem qm {P:Program}{w:World}{K:Frag}{tg:Expr}(a it:Addr)(o:Obj)(kvs:List (bY × V))(ep:Nat)(hD:DcO P w o kvs ep):lB P w K tg (KS a o kvs) [it] it (fun i h=>h.IsKeyIter it a i kvs.length ep) where
 mem:=by simp
 obj:=fun i h st b hb=>by
  have e:b=it:=by simpa using hb
  subst e
  obtain⟨ob,e,c,d⟩:=st
  exact⟨ob,e,fun v z=>by rw[d]at z;cases z⟩
 keep:=fun i h h' st k=>by
  obtain⟨ob,e,c,d⟩:=st
  exact⟨ob,k it (by simp) ob e,c,d⟩
 item:=by
  intro X hP hw hK hc i pins s σ H E I hf st hg
  subst hP hw hK
  obtain⟨ha,hi⟩:=hg
  obtain⟨vs,es,rel,d1,d2,d3,d4,d5⟩:=hD
  obtain⟨f0,f1,f2,f3,f4,f5⟩:=hf it (by simp)
  have hl:=rel.length
  have hv:vs[i]? = some (vs[i]'(by omega)):=List.getElem?_eq_getElem (by omega)
  have st:s.heap.IsKeyIter it a i vs.length ep:=by rw[← hl];exact st
  refine wpAny_pyNext_dict_item (knd:=aU X.prog X.w) (k:=(vs[i]'(by omega)).1) (v:=(vs[i]'(by omega)).2) st ⟨o,es,I.GG ha,d1,d2,d3,d4,d5⟩ hv fun key h' hk De sb=>?_
  rw[← hl]at De
  have I1:Inv X pins σ H { s with heap:=h' }:=I.turned (t':=s.toks) (fun b o hb e=>(sb.2 b hb).trans e) f0 f1 f3 f4 f5
  obtain⟨ob,e,c,d⟩:=id De
  exact⟨key,rfl,mO (s:={ s with heap:=h' }) e c d (by decide) ⟨_,H,I1,wx hk,⟨rfl,_,by rw[rel.keys,List.getElem?_map,hv];rfl,rfl⟩,De,fun b hb=>(hf b hb).1⟩⟩
 done:=by
  intro X hP hw hK hc i pins s σ H E I hf st hg
  subst hP hw hK
  obtain⟨ha,rfl⟩:=hg
  obtain⟨vs,es,rel,d1,d2,d3,d4,d5⟩:=hD
  obtain⟨f0,f1,f2,f3,f4,f5⟩:=hf it (by simp)
  have hl:=rel.length
  have st:s.heap.IsKeyIter it a vs.length vs.length ep:=by rw[← hl];exact st
  exact wpAny_pyNext_dict_end (knd:=aU X.prog X.w) (I.ok.hd hc) st ⟨o,es,I.GG ha,d1,d2,d3,d4,d5⟩ (List.getElem?_eq_none (Nat.le_refl _)) fun h' eb=>⟨rfl,I.turned (t':=s.toks) (fun b o hb e=>eb b o hb e) f0 f1 f3 f4 f5⟩
 self:=fun _ _ _ _ _ st h=>wpAny_pyIter_keyiter st h
theorem pc:∀ {xs:List V}{us:List Value},xs.length=us.length->(∀ (i:Nat)(x:V)(u:Value),xs[i]? = some x->us[i]? = some u->RelV x u)->Vals xs us
 | [],[],_,_ => .nil
 | x :: xs,u :: us,hl,h => .cons (h 0 x u rfl rfl) (pc (by simpa using hl) fun i x u hx hu=>h (i + 1) x u hx hu)
section
variable {X:Cx}{tg:Expr}
noncomputable def KU (tl:TE):TI:=fun σ H R=>tl σ H fun x H1=>∃ a kvs,x = .ref a/\H1 a=some (.dK kvs)/\∀ o,R (KS a o kvs) (upd H1 a (.Bx o (.dK kvs)))
theorem vC {l:Expr}{tl:TE}(hl:PE X l tl):PI X tg l (KU tl):=by
 intro pins s σ H R I h
 refine aT (hl pins s σ H _ I h) fun v s1 zH=>?_
 obtain⟨x,H1,I1,r1,q1⟩:=zH
 obtain⟨a,kvs,e,ha,q⟩:=q1
 subst e
 cases r1
 obtain⟨z,hd,vs,rel,o,es,ep,eo,d1,d2,d3,d4,d5⟩:=uF I1.zL ha
 have I2:Inv X pins σ (upd H1 a (.Bx o (.dK kvs))) s1:=I1.write (x:=a) (e:=a) (h':=s1.heap) (t':=s1.toks) (by rw[ha];trivial) (.inl rfl) (fun b u _ q=>q) ⟨_,eo⟩ ⟨eo,z,hd,vs,rel,o,es,ep,eo,d1,d2,d3,d4,d5⟩
 refine wpAny_pyIter_dict (knd:=aU X.prog X.w) hd ⟨o,es,eo,d1,d2,d3,d4,d5⟩ ?_
 refine⟨s1.heap.objs.size,[s1.heap.objs.size],_,_,_,rfl,I2.kept (t':=s1.toks) fun b o e=>Heap.get?_push_of_some _ e,qm a _ o kvs ep ⟨vs,es,rel,d1,d2,d3,d4,d5⟩,⟨_,Heap.get?_push_size _ rfl,rfl,by rw[rel.length];rfl⟩,fun b hb=>?_,q o⟩
 have e:b=s1.heap.objs.size:=by simpa using hb
 subst e
 exact I2.Dq (Nat.le_refl _) (I2.zL.fresh (Nat.le_refl _))
theorem u9 {a:Addr}{o:Obj}{kvs:List (bY × V)}{g:TG}{tb:TS}{D:jR}{σ:St}{H:Hp}(Pv:Nat->St->Hp->Prop)(h0:Pv 0 σ H)(hl:∀ i σ H,i <= kvs.length->Pv i σ H->H a=some (.Bx o (.dK kvs)))
  (hs:∀ i k σ H,(kvs.map (·.1))[i]? = some k->Pv i σ H->g (kV k) σ H fun σ2 H2=>tb { D with nx:=Pv (i + 1),ct:=Pv (i + 1),bk:=D.nx } σ2 H2) (hd:∀ σ H,Pv kvs.length σ H->D.nx σ H) :
  ∃ W:Nat->Nat->St->Hp->Prop,(∃ m,W 0 m σ H)/\∀ i m σ H,W i m σ H ->
   ((KS a o kvs).stop i H/\D.nx σ H)∨((KS a o kvs).go i H/\∃ N:St->Hp->Prop,(∀ σ' H',N σ' H'->∃ m',m' < m/\W (i + 1) m' σ' H')/\∀ x H',(KS a o kvs).E4 i H x H'->g x σ H' fun σ2 H2=>tb { D with nx:=N,ct:=N,bk:=D.nx } σ2 H2):=by
 refine⟨fun i m σ H=>m=kvs.length - i/\i <= kvs.length/\Pv i σ H,⟨kvs.length,by simp,zero_le _,h0⟩,?_⟩
 rintro i m σ H ⟨rfl,hi,p⟩
 have q:=hl i σ H hi p
 by_cases Ae:i < kvs.length
 ·refine .inr ⟨⟨q,Ae⟩,Pv (i + 1),fun σ' H' p'=>⟨kvs.length - (i + 1),by omega,rfl,Ae,p'⟩,fun x H' y=>?_⟩
  obtain⟨e,k,hk,ex⟩:=y
  subst e ex
  exact hs i k σ _ hk p
 ·have e:i=kvs.length:=by omega
  subst e
  exact .inl ⟨⟨q,rfl⟩,hd σ H p⟩
end
end L2
namespace L2
open PySem PySem.Spec PyProof.Rows
section
variable {X:Cx}
end
end L2
namespace L2
open PySem PySem.Spec PyProof.Rows
noncomputable def oV (p:Addr)(i j:Int):HO := .ext fun h=>∃ t u v,IsRange h p i j 1 t u v
section
variable {X:Cx}
theorem r8:c6 X (.type "range") (fun xs H Q=>∃ i j:Int,xs=[.int i, .int j]/\∀ p,H p=none->Q (.ref p) (upd H p (oV p i j))):=by
 intro pins s σ H xs us Q I r h
 obtain⟨i,j,rfl,q⟩:=h
 cases r with
 | cons r1 r2 =>
 cases r2 with
 | cons ru r3 =>
 cases r3
 obtain⟨t,rfl⟩:=r1
 obtain⟨t',rfl⟩:=ru
 refine call_range_2 ⟨.ref s.heap.objs.size,_,I.laid (a:=s.heap.objs.size) (o:=oV s.heap.objs.size i j) (t':=s.toks + 1) (fun _ _ q=>Heap.get?_push_of_some _ q) (Nat.le_refl _) ?_,rfl,q _ (I.zL.fresh (Nat.le_refl _))⟩
 exact⟨⟨_,_,_,IsRange.new ..⟩,⟨_,Heap.get?_push_size _ rfl⟩,fun h1 h2 ⟨t,u,v,e⟩ st=>⟨t,u,v,st _ e⟩⟩
theorem jI (hc:X.calm=true):c6 X (.type "list") (fun xs H Q=>∃ (p:Addr)(x n:Nat),xs=[.ref p]/\H p=some (oV p (x:Int) ((x + n:Nat):Int))/\x + n <= 10000/\∀ l,H l=none->Q (.ref l) (upd H l (.lst ((List.range' x n).map fun k:Nat=>V.int (k:Int))))):=by
 intro pins s σ H xs us Q I r h
 obtain⟨p,x,n,rfl,hp,hn,q⟩:=h
 obtain⟨u,rfl,ru⟩:=r.one
 cases ru
 obtain⟨⟨t,u,v,hr⟩,_⟩:=I.zL _ _ hp
 refine call_list_range (n:=n) (I.ok.hd hc) hr (small_one (by omega) (by omega) (by omega) (by omega)) (by rw[rangeSize_one];split<;>omega) (by omega) fun h' tk acc c keep hl it=>?_
 have hv:Vals ((List.range' x n).map fun k:Nat=>V.int (k:Int)) acc.toList:=by
  refine pc (by rw[length_map,length_range'];exact it.1.symm) fun i y u hx hu=>?_
  obtain⟨tk,rfl⟩:=it.2 i u (by simpa using hu)
  have hi:i < n:=by
   have:=(List.getElem?_eq_some_iff.mp hx).1
   simpa using this
  rw[List.getElem?_map,List.getElem?_range' hi]at hx
  have hx:V.int ((x + 1 * i:Nat):Int)=y:=Option.some.inj hx
  subst hx
  exact⟨tk,by rw[Int.mul_one];congr 1;omega⟩
 refine⟨.ref _,_,I.laid (a:=s.heap.objs.size) (o := .lst ((List.range' x n).map fun k:Nat=>V.int (k:Int))) (t':=tk) (fun b q hq=>keep b q hq) (Nat.le_refl _) ⟨by rw[length_map,length_range',sizeLine_eq];omega,acc.toList,c,hv,by simpa using hl⟩,rfl,q _ (I.zL.fresh (Nat.le_refl _))⟩
end
theorem wD {K:Frag}{a:Addr}{xs:List V}{g:TG}{tb:TS}{D:jR}{σ:St}{H:Hp}(Pv:Nat->St->Hp->Prop)(h0:Pv 0 σ H)(hl:∀ i σ H,i <= xs.length->Pv i σ H->zJ K H a xs)
  (hs:∀ i x σ H,i < xs.length->xs[xs.length - 1 - i]? = some x->Pv i σ H->g x σ H fun σ2 H2=>tb { D with nx:=Pv (i + 1),ct:=Pv (i + 1),bk:=D.nx } σ2 H2) (hd:∀ σ H,Pv xs.length σ H->D.nx σ H) :
  ∃ W:Nat->Nat->St->Hp->Prop,(∃ m,W 0 m σ H)/\∀ i m σ H,W i m σ H ->
   ((KJ K a xs.length).stop i H/\D.nx σ H)∨((KJ K a xs.length).go i H/\∃ N:St->Hp->Prop,(∀ σ' H',N σ' H'->∃ m',m' < m/\W (i + 1) m' σ' H')/\∀ x H',(KJ K a xs.length).E4 i H x H'->g x σ H' fun σ2 H2=>tb { D with nx:=N,ct:=N,bk:=D.nx } σ2 H2):=by
 refine⟨fun i m σ H=>m=xs.length - i/\i <= xs.length/\Pv i σ H,⟨xs.length,by simp,zero_le _,h0⟩,?_⟩
 rintro i m σ H ⟨rfl,hi,p⟩
 have q:=hl i σ H hi p
 by_cases Ae:i < xs.length
 ·refine .inr ⟨⟨xs,xs[xs.length - 1 - i]'(by omega),q,rfl,Ae,List.getElem?_eq_getElem _⟩,Pv (i + 1),fun σ' H' p'=>⟨xs.length - (i + 1),by omega,rfl,Ae,p'⟩,fun x H' y=>?_⟩
  obtain⟨e,y⟩:=y
  subst e
  exact hs i x σ _ Ae (y xs q) p
 ·have e:i=xs.length:=by omega
  subst e
  exact .inl ⟨rfl,hd σ H p⟩
end L2
namespace Yd
open PySem PyProof.Rows
section
variable {prog:Program}{w:World}{A:Around}{E:Value->Shared->Prop}{s:Shared}
end
end Yd
namespace L2
open PySem PySem.Spec PyProof.Rows
section
variable {X:Cx}
theorem nh:c6 X (.builtin "len") (fun xs H Q=>∃ (p:Addr)(ns:List Int),xs=[.ref p]/\H p=some (kW X.prog X.w p ns)/\ns.Nodup/\ns.length < 64/\Q (.int ns.length) H):=by
 intro pins s σ H xs us Q I r h
 obtain⟨p,ns,rfl,hq,nd,hl,q⟩:=h
 obtain⟨u,rfl,rx⟩:=iZ r
 cases rx
 obtain⟨⟨es,ep,t,ho,_,hsz,hf,_,Jk,CK⟩,_⟩:=I.zL p _ hq
 have e:es.size=ns.length:=by
  have hp:(Yd.numsOf es.toList).Perm ns:=(List.perm_ext_iff_of_nodup Jk nd).mpr CK
  have:=hp.length_eq
  unfold Yd.numsOf at this
  rw[length_map,Array.length_toList]at this
  exact this
 refine call_len_set ho ⟨rfl,rfl,rfl⟩ rfl hf (by omega) ?_
 rw[e]
 exact⟨.int ns.length,H,I.tok _,⟨_,rfl⟩,q⟩
end
end L2
namespace L2
open PySem
section
variable {X:Cx}
noncomputable def KW (t:TS):TS:=fun D σ H=>∃ BL:St->Hp->Prop,t { D with nx:=BL } σ H/\∀ σ' H',BL σ' H'->D.nx σ' H'
theorem cU {st:Stmt}{t:TS}(h:PS X st t):PS X st (KW t):=fun pins s σ H D I ⟨BL,q,k⟩ =>
 aT (h pins s σ H _ I q) fun f s1 z=>by
  cases f with
  | next=>obtain⟨σ1,H1,I1,p⟩:=z;exact⟨σ1,H1,I1,k _ _ p⟩
  | brk=>exact z
  | cont=>exact z
  | ret u=>exact z
noncomputable def xB (t:TE):TE:=fun σ H Q=>∃ BL:V->Hp->Prop,t σ H BL/\∀ v H',BL v H'->Q v H'
theorem lg {e:Expr}{t:TE}(h:PE X e t):PE X e (xB t):=fun pins s σ H Q I ⟨BL,q,k⟩ =>
 aT (h pins s σ H _ I q) fun u s1 zH=>by obtain⟨v,H1,I1,r,p⟩:=zH;exact⟨v,H1,I1,r,k v H1 p⟩
noncomputable def xA (t:TT):TT:=fun σ H Q=>∃ BL:Bool->Hp->Prop,t σ H BL/\∀ b H',BL b H'->Q b H'
theorem fP {e:Expr}{t:TT}(h:PT X e t):PT X e (xA t):=fun pins s σ H Q I ⟨BL,q,k⟩ =>
 aT (h pins s σ H _ I q) fun b s1 zH=>by obtain⟨H1,I1,p⟩:=zH;exact⟨H1,I1,k b H1 p⟩
end
end L2
namespace L2
open PySem PySem.Spec PyProof.Rows
end L2
namespace L2
open PySem PySem.Spec PyProof.Rows
end L2
namespace L2
open PySem PySem.Spec PyProof.Rows
structure Eb (K:Frag)(x qual:Str)(st:Stmt)(f:Addr)(fd:FuncData):Prop where
 ex:∃ (oc:Value)(od:Option Addr)(dV kV doc pm:Value)(an:Option Addr)(cdv ct:Value)(Dv:Array (Option Value)),
  fd=fnOf x qual (bI st) (aJ st) (ai st) dV kV doc pm an cdv ct/\K.lookup f=some ⟨oc,od, .func fd,Dv⟩/\codeIn K cdv qual=true
 kp:keepIn K (.ref f)=true
section
variable {P:Program}{w:World}{K:Frag}{mg:Str->Option Value}{base:Heap}
theorem Eb.Fb {x qual:Str}{st:Stmt}{f:Addr}{fd:FuncData}{N ps:List Str}{k:Nat}{sp:Sp}(F:Eb K x qual st f fd)(S:am N ps (ai st))(len:∀ vs H Q E,sp vs H Q E->vs.length=ps.length)
  (BJ:∀ (cdv:Value)(A:Around)(outer:List Env)(s:Shared)(H:Hp)(vs:List V)(Q:VK)(E:XK),zN k (A.deeper (envOfC qual (ai st) s.heap.objs.size f cdv))->sp vs H Q E ->
   ∃ t,Dn (iI (eP P w) P w K mg base N qual (ai st) f cdv A outer s H E) (aJ st) t/\t { nx:=fun _ H'=>Q .zT H',rt:=Q } (start N vs) H):zE P w K mg base (eP P w) (k + 1) f fd ps sp:=by
 obtain⟨oc,od,dV,kV,doc,pm,an,cdv,ct,Dv,rfl,lk,Dp⟩:=F.ex
 exact uA lk Dp S len fun A outer s H vs Q E hr Eo=>BJ cdv A outer s H vs Q E hr Eo
end
end L2
namespace L2
open PySem PySem.Spec PyProof.Rows
noncomputable def v6 (K:Frag):R2:=fun x y H Q=>∃ (p:Addr)(vs:List V)(d:PyData)(ds:List PyData),y = .ref p/\jS K H x d/\zJ K H p vs/\iK K H vs ds/\BK d 8/\(∀ z ∈ ds,BK z 8)/\Q (.bl (!(ds.any fun y=>PyData.eqv y d))) H
theorem qH {X:Cx}(hu:X.A.units + 64 < cLine):eU X (compareOp .NotIn) (v6 X.K):=by
 intro pins s σ H x y v u Q I rx ry h
 obtain⟨p,vs,d,ds,rfl,h1,h2,h3,s1,s2,q⟩:=h
 obtain⟨as,r1⟩:=I.den (.lst h2 h3) ry
 obtain⟨bs,r2⟩:=I.den h1 rx
 refine SeqAt.notIn_list_reads r1 r2 (kU s2).1 s1.1 ?_ ⟨.bl _,H,I,rfl,q⟩
 have:=s1.2
 have:=Nat.min_le_right (PyData.depthAll ds) d.depth
 omega
noncomputable def KY (K:Frag):R2:=fun x y H Q=>∃ a b xs ys,x = .ref a/\y = .ref b/\zM K H a xs/\zM K H b ys/\ys ≠ []/\xs.length + ys.length <= sizeLine /\
 (xs=[]->Q (.ref b) H)/\(xs ≠ []->∀ p,H p=none->Q (.ref p) (upd H p (.tup (xs ++ ys))))
theorem vJ {X:Cx}:eU X (binaryOp .Add) (KY X.K):=by
 intro pins s σ H x y v u Q I rx ry h
 obtain⟨a,b,xs,ys,rfl,rfl,ha,hb,hy,hz,q1,q2⟩:=h
 by_cases hx:xs=[]
 ·cases rx
  cases ry
  obtain⟨zI,r1,p1,_⟩:=I.tuple ha
  obtain⟨BX,r2,p2,_⟩:=I.tuple hb
  have e1:zI=[]:=r1.BE.mpr hx
  obtain⟨⟨cls,dd,data,sl⟩,ho,hc,n,hd⟩:=id p1
  obtain⟨⟨Qc,Ob,data2,Jh⟩,Bs,CG,n2,hd2⟩:=id p2
  simp only at hc hd CG hd2
  subst hc hd CG hd2
  exact concat_meets ⟨_,ho,rfl⟩ ⟨_,Bs,rfl⟩ noFill_tuple_add seq_tuple_add slot_tuple_add entry_tuple_add (args_tuple_add_2 _ _)
   (tuple_addW0 a b zI.toArray BX.toArray n n2 dd Ob sl Jh (by simp[e1])) ⟨ho,Bs,⟨.ref b,H,I,rfl,q1 hx⟩⟩
 ·exact vH pins s σ H _ _ v u Q I rx ry ⟨a,b,xs,ys,rfl,rfl,ha,hb,hx,hz,fun z=>absurd z hy,fun _=>q2 hx⟩
end L2
namespace L2
open PySem
theorem bJ {J:It}{g:TG}{tt:TT}{te:TE}{σ0:St}{H:Hp}{Q:VK}(n:Nat)(hn:n < sizeLine)(W:Nat->List V->Hp->Prop)(h0:W 0 [] H)(hlen:∀ i acc H',W i acc H'->acc.length <= i)
  (turn:∀ i acc H',i < n->W i acc H'->J.go i H'/\∀ x H2,J.E4 i H' x H2->g x σ0 H2 fun σ2 H3=>tt σ2 H3 fun b H4=>if b=true then te σ2 H4 fun y H5=>W (i + 1) (acc ++ [y]) H5 else W (i + 1) acc H4)
  (stop:∀ acc H',W n acc H'->J.stop n H'/\∀ D,H' D=none->Q (.ref D) (upd H' D (.lst acc))):eB J g tt te σ0 Q H:=by
 refine⟨fun i m acc H'=>m=n - i/\i <= n/\W i acc H',⟨n,by simp,zero_le _,h0⟩,?_⟩
 rintro i m acc H' ⟨rfl,hi,w⟩
 refine⟨by have:=hlen i acc H' w;omega,?_⟩
 by_cases Ae:i < n
 ·obtain⟨go,q⟩:=turn i acc H' Ae w
  exact .inr ⟨go,fun Aw H2=>W (i + 1) Aw H2,fun Aw H2 w2=>⟨n - (i + 1),by omega,rfl,Ae,w2⟩,q⟩
 ·have e:i=n:=by omega
  subst e
  exact .inl (stop acc H' w)
theorem zD.new {H H':Hp}{a:Addr}{o:HO}(h:zD H H')(n:H' a=none):zD H (upd H' a o):=fun b u e=>by rw[af (ag (h _ _ e) n)];exact h _ _ e
end L2
namespace L2
open PySem
theorem Ad {N P:List Str}{sc:Scope}(a:sc.kind = .function:=by rfl)(b:sc.isCoroutine=false:=by rfl)(c:sc.isGenerator=false:=by rfl)(d:N.Nodup:=by decide +kernel)(e:N.take P.length=P:=by rfl)(f:∀ x ∈ P,sc.names.lookup x=some .local∨sc.names.lookup x=some .cell:=by decide +kernel)(g:∀ y ∈ sc.names,y.2 ≠ .free:=by decide +kernel):am N P sc:=⟨a,b,c,d,e,f,g⟩
theorem BS {N:List Str}{sc scope:Scope}{capN:List Str}{cap:List Nat}(a:scope.kind = .function:=by rfl)(b:∀ y ∈ scope.names,y.2 ≠ .cell:=by decide +kernel)(c:∀ y ∈ scope.names,y.2 = .local->scope.names.lookup y.1=some .local:=by decide +kernel)(d:∀ y ∈ scope.names,y.2 = .free->sc.names.lookup y.1=some .cell∨sc.names.lookup y.1=some .free:=by decide +kernel)(e:cap.length=capN.length:=by rfl)(f:∀ p ∈ capN.zip cap,scope.names.lookup p.1=some .free/\N[p.2]? = some p.1:=by decide +kernel):AS N sc scope capN cap:=⟨a,b,c,d,e,f⟩
end L2
namespace K49
open PySem L2
variable {P:Program}{w:World}{K:Frag}{mg:Str->Option Value}{base:Heap}
noncomputable def top (i:Nat):Stmt:=PySem.Challenge.pw_wormyard_k49_pieces_in_a_lane.main.body.getD i (.Pass ⟨0,0,0,0⟩)
abbrev Ot:Stmt:=aF (top 4) 0
abbrev Ov:Stmt:=aF (top 5) 0
abbrev Ow:Stmt:=aF (top 6) 0
abbrev vw:Stmt:=aF (top 11) 0
abbrev yd:Stmt:=aF (top 15) 0
abbrev sN:Stmt:=aF (top 15) 1
abbrev xX:Stmt:=aF (top 15) 2
abbrev oi:Stmt:=aF (top 15) 3
abbrev sJ:Stmt:=aF (top 15) 4
abbrev om:Stmt:=aF (top 15) 5
abbrev yc:Stmt:=aF (top 15) 6
abbrev yb:Stmt:=aF (top 15) 7
abbrev vx:Stmt:=top 17
abbrev sP:Stmt:=top 18
abbrev xW:Stmt:=top 19
abbrev gA:Stmt:=top 21
abbrev iN:Stmt:=top 22
abbrev xY:Stmt:=top 23
abbrev xS:Stmt:=top 27
abbrev lS:Stmt:=aF (top 28) 0
abbrev nU:Stmt:=aF (top 28) 1
abbrev yi:Stmt:=aF (top 28) 2
abbrev sM:Stmt:=aF (top 28) 3
abbrev lR:Stmt:=aF (top 28) 4
abbrev lT:Stmt:=top 30
abbrev QL:Stmt:=top 31
abbrev xU:Stmt:=aF (top 32) 0
abbrev sI:Stmt:=aF (top 33) 0
abbrev nS:Stmt:=aF (top 33) 1
abbrev gB:Stmt:=top 38
abbrev sF:Stmt:=top 39
abbrev lQ:Stmt:=top 40
abbrev sS:Stmt:=aF (top 41) 0
abbrev sR:Stmt:=aF (top 41) 1
abbrev iq:Stmt:=aF (top 42) 0
abbrev gU:Stmt:=aF (top 42) 1
abbrev nY:Stmt:=aF (top 42) 2
abbrev lP:Stmt:=aF (top 42) 3
abbrev lO:Stmt:=aF (top 42) 4
abbrev nX:Stmt:=aF (top 42) 5
abbrev kX:Stmt:=aF (top 42) 6
abbrev gS:Stmt:=aF (top 42) 7
abbrev sQ:Stmt:=aF (top 42) 8
abbrev QM:Stmt:=aF (top 42) 9
abbrev sU:Stmt:=aF (top 42) 10
abbrev oj:Stmt:=aF (top 42) 11
abbrev ye:Stmt:=aF (top 42) 12
abbrev sL:Stmt:=aF (top 42) 13
abbrev sK:Stmt:=aF (top 42) 14
abbrev og:Stmt:=aF (top 42) 16
abbrev sH:Stmt:=aF (top 42) 18
abbrev nZ:Stmt:=aF (top 42) 19
abbrev yf:Stmt:=top 44
abbrev KZ:Stmt:=top 45
abbrev sO:Stmt:=aF (top 46) 0
abbrev sG:Stmt:=aF (top 46) 1
abbrev sV:Stmt:=top 48
abbrev ya:Stmt:=top 49
abbrev oa:Stmt:=top 50
abbrev jp:Stmt:=top 51
abbrev sT:Stmt:=top 52
abbrev oq:Stmt:=top 53
abbrev gX:Stmt:=top 54
abbrev xV:Stmt:=top 56
abbrev oh:Stmt:=top 57
abbrev jo:Stmt:=top 58
abbrev jq:Stmt:=top 59
abbrev jr:Stmt:=top 60
structure eW (mg:Str->Option Value):Prop where
 Jn:mg "isinstance" = none
 int:mg "int" = none
 bool:mg "bool" = none
 len:mg "len" = none
 enum:mg "enumerate" = none
 tuple:mg "tuple" = none
 range:mg "range" = none
 list:mg "list" = none
 all:mg "all" = none
 abs:mg "abs" = none
 str:mg "str" = none
 min:mg "min" = none
 set:mg "set" = none
 rev:mg "reversed" = none
noncomputable def wU (H:Hp)(v:V)(p:Int × Int):Prop:=∃ t,v = .ref t/\H t=some (.tup [.int p.1, .int p.2])
abbrev zX (H:Hp):List V->List (Int × Int)->Prop:=Paired (wU H)
theorem zX.same {H H':Hp}(h:zD H H'):∀ {vs:List V}{ps:List (Int × Int)},zX H vs ps->zX H' vs ps:=fun zH=>by
 induction zH with
 | nil=>exact .nil
 | cons zz r ih=>obtain⟨t,e,q⟩:=zz;exact .cons ⟨t,e,h _ _ q⟩ ih
theorem zX.get {H:Hp}:∀ {vs:List V}{ps:List (Int × Int)}{i:Nat}{v:V},zX H vs ps->vs[i]? = some v->∃ p,ps[i]? = some p/\wU H v p:=by
 intro _ _ i _ zH
 induction zH generalizing i with
 | nil=>intro h;cases h
 | cons x r ih =>
  intro h
  cases i with
  | zero=>cases h;exact⟨_,rfl,x⟩
  | succ i=>exact ih (i:=i) h
theorem zX.FC {H:Hp}:∀ {vs:List V}{ps:List (Int × Int)}{i:Nat}{p:Int × Int},zX H vs ps->ps[i]? = some p->∃ v,vs[i]? = some v/\wU H v p:=by
 intro _ _ i _ zH
 induction zH generalizing i with
 | nil=>intro h;cases h
 | cons x r ih =>
  intro h
  cases i with
  | zero=>cases h;exact⟨_,rfl,x⟩
  | succ i=>exact ih (i:=i) h
theorem zX.snoc {H:Hp}{v:V}{p:Int × Int}(h:wU H v p):∀ {vs:List V}{ps:List (Int × Int)},zX H vs ps->zX H (vs ++ [v]) (ps ++ [p]):=fun zH=>by
 induction zH with
 | nil=>exact .cons h .nil
 | cons q r ih=>exact .cons q ih
noncomputable def jz (n:Int)(p:Int × Int):Bool:=decide (0 <= p.1/\p.1 <= n - 1) && (decide (0 <= p.2/\p.2 <= n - 1) && !decide (p.1=p.2))
noncomputable def kP:Sp:=fun vs H Q _=>∃ i:Int,vs=[.int i]/\Q (.bl true) H
noncomputable def jh:Sp:=fun vs H Q _=>∃ i a b:Int,vs=[.int i, .int a, .int b]/\Q (.bl (decide (a <= i/\i <= b))) H
noncomputable def rT:Sp:=fun vs H Q _=>∃ n a b:Int,vs=[.int n, .int a, .int b]/\Q (.bl (jz n (a,b))) H
theorem pB:am ["value"] ["value"] (ai gA):=L2.Ad
theorem mz {f:Addr}{fd:FuncData}(F:Ab K "is_whole" "is_whole" gA f fd)(T:eW mg):zE P w K mg base aG 1 f fd ["value"] kP:=by
 refine F.ok pB (fun vs H Q E h=>?_) (fun cdv A outer s H vs Q E hr h=>?_)
 ·obtain⟨m,rfl,_⟩:=h
  rfl
 ·obtain⟨i,rfl,q⟩:=h
  refine⟨_,ah (ar (c8 (ax nj rfl T.Jn PyProof.Rows.boot_isinstance (aa (pv 0) (aa (fQ (v := .ty "int") rfl T.int PySem.Pv.boot_int rfl) ad)))
   (c7 (tE (ax nj rfl T.Jn PyProof.Rows.boot_isinstance (aa (pv 0) (aa (fQ (v := .ty "bool") rfl T.bool PySem.Pv.boot_bool rfl) ad))))))),?_⟩
  refine⟨_,rfl, .inl ⟨i,rfl,true,rfl,?_⟩⟩
  refine aH ?_
  exact⟨_,rfl, .inr (.inl ⟨i,rfl,false,rfl,q⟩)⟩
theorem lM:am ["value", "least", "most"] ["value", "least", "most"] (ai iN):=L2.Ad
theorem qJ {f fh:Addr}{fd CA:FuncData}(F:Ab K "is_within" "is_within" iN f fd)(T:eW mg)(mh:mg "is_whole" = some (.ref fh))(Fh:Ab K "is_whole" "is_whole" gA fh CA)(bh:Binds K CA ["value"] []) :
  zE P w K mg base aG 2 f fd ["value", "least", "most"] jh:=by
 have G:zE P w K mg base aG 1 fh CA ["value"] kP:=mz Fh T
 refine F.ok lM (fun vs H Q E h=>?_) (fun cdv A outer s H vs Q E hr h=>?_)
 ·obtain⟨i,a,b,rfl,_⟩:=h
  rfl
 ·obtain⟨i,a,b,rfl,q⟩:=h
  refine⟨_,ah (ar (c8 (az G hr rfl mh Fh.kp bh .nil aq (aa (pv 0) ad)) (c7 (mq pI pI (pv 1) (pv 0) (pv 2))))),?_⟩
  refine⟨_,rfl,i,rfl,true,rfl,aH ?_⟩
  refine⟨_,rfl,_,rfl,_,_,rfl,rfl,_,rfl,?_⟩
  by_cases h1:a <= i
  ·rw[decide_eq_true h1]
   refine aH ⟨_,rfl,_,_,rfl,rfl,?_⟩
   show Q (V.bl (decide (i <= b))) H
   by_cases h2:i <= b
   ·rw[decide_eq_true h2];rw[decide_eq_true ⟨h1,h2⟩]at q;exact q
   ·rw[decide_eq_false h2];rw[decide_eq_false fun z=>h2 z.2]at q;exact q
  ·rw[decide_eq_false h1]
   refine aD ?_
   rw[decide_eq_false fun z=>h1 z.1]at q;exact q
theorem GH:am ["places", "one", "other", "last"] ["places", "one", "other"] (ai xS):=L2.Ad
theorem y2 {f fh:Addr}{fd CA:FuncData}(F:Ab K "are_two_places" "are_two_places" xS f fd)(mh:mg "is_within" = some (.ref fh))(kh:keepIn K (.ref fh)=true)(bh:Binds K CA ["value", "least", "most"] [])
  (G:zE P w K mg base aG 2 fh CA ["value", "least", "most"] jh) :
  zE P w K mg base aG 3 f fd ["places", "one", "other"] rT:=by
 refine F.ok GH (fun vs H Q E h=>?_) (fun cdv A outer s H vs Q E hr h=>?_)
 ·obtain⟨i,a,b,rfl,_⟩:=h
  rfl
 ·obtain⟨n,a,b,rfl,q⟩:=h
  refine⟨_,ae (ay (i:=3) GH.nd rfl (Or.inl rfl) (aE dq (pv 0) aj))
   (ah (ar (c8 (az G hr rfl mh kh bh .nil aq (aa (pv 1) (aa aj (aa (pv 3) ad))))
    (c8 (az G hr rfl mh kh bh .nil aq (aa (pv 2) (aa aj (aa (pv 3) ad)))) (c7 (bO gZ (pv 1) (pv 2) (av _))))))),?_⟩
  refine⟨_,rfl,_,_,rfl,rfl,?_⟩
  refine⟨_,rfl,_,rfl,a,0,n - 1,rfl,_,rfl,?_⟩
  unfold jz at q
  dsimp only at q
  by_cases h1:0 <= a/\a <= n - 1
  ·rw[decide_eq_true h1]at q ⊢
   rw[Bool.true_and]at q
   refine aH ⟨_,rfl,_,rfl,b,0,n - 1,rfl,_,rfl,?_⟩
   by_cases h2:0 <= b/\b <= n - 1
   ·rw[decide_eq_true h2]at q ⊢
    rw[Bool.true_and]at q
    refine aH ⟨_,rfl,_,rfl,rfl,?_⟩
    have e:decide (V.int a=V.int b)=decide (a=b):=by
     by_cases h:a=b
     ·rw[h];simp
     ·rw[decide_eq_false h,decide_eq_false fun z=>h (by injection z)]
    show Q (V.bl (!decide (V.int a=V.int b))) H
    rw[e];exact q
   ·rw[decide_eq_false h2]at q ⊢
    exact aD q
  ·rw[decide_eq_false h1]at q ⊢
   exact aD q
end K49
namespace L2
open PySem
theorem i3 {H1:Hp}{e d:Addr}{o o' x:HO}(he:H1 e=none)(hd:upd H1 e o d=none) :
  zD H1 (uL (upd (upd (upd H1 e o) d x) e o') e)/\(uL (upd (upd (upd H1 e o) d x) e o') e) d=some x/\(upd (upd (upd H1 e o) d x) e o') e=some o':=by
 have Dh:d ≠ e:=fun z=>by rw[z,ac]at hd;cases hd
 have V9:H1 d=none:=by rw[af Dh]at hd;exact hd
 refine⟨fun b u q=>?_,?_,ac⟩
 ·have BQ:b ≠ e:=ag q he
  have hbd:b ≠ d:=ag q V9
  rw[dO BQ,af BQ,af hbd,af BQ];exact q
 ·rw[dO Dh,af Dh,ac]
end L2
namespace K49
open PySem L2
variable {P:Program}{w:World}{K:Frag}{mg:Str->Option Value}{base:Heap}
inductive Due | places | many (k:Nat) | zY (k:Nat) | good
noncomputable def nv (n:Int)(ps:List (Int × Int)):Option Nat:=ps.findIdx? fun p=>!jz n p
noncomputable def fK (n:Int)(ps:List (Int × Int)):Due:=if decide (1 <= n/\n <= 12)=false then .places else if 40 < ps.length then .many ps.length else match nv n ps with | some k => .zY k | none => .good
structure Cs where
 np:Addr
 tm:Addr
 nr:Addr
 land:Addr
noncomputable def qu (K:Frag)(fld:Str):Sp:=fun vs H Q _=>∃ e C tt v,vs=[.ref e,v]/\H e=some (bK e C tt none)/\gJ K C/\findIn K (.ref C) fld=some none/\∀ d,H d=none->Q .zT (upd (upd H d (.xd [(fld,v)])) e (bK e C tt (some d)))
noncomputable def cx (H:Hp)(c:Cs)(x dx t:Addr)(n:Int)(zO:List V)(ps:List (Int × Int)):Prop:=H x=some (.ins c.land dx [("places", .int n),("lanes", .ref t)])/\H t=some (.tup zO)/\zX H zO ps
noncomputable def su (K:Frag)(c:Cs):Sp:=fun vs H Q E=>∃ x dx n p zK ps,vs=[.ref x, .int n, .ref p]/\H x=some (.ins c.land dx [])/\zJ K H p zK/\zX H zK ps/\zK.length <= 1000 /\
 (fK n ps = .places->∀ H',zD H H'->E (.ref c.np) none H') /\
 (∀ k,fK n ps = .many k->∀ H' d,zD H H'->H' d=some (.xd [("many", .int k)])->E (.ref c.tm) (some d) H') /\
 (∀ k,fK n ps = .zY k->∀ H' d,zD H H'->H' d=some (.xd [("lane", .int k)])->E (.ref c.nr) (some d) H') /\
 (fK n ps = .good->∀ H' t zO,(∀ b o,b ≠ x->H b=some o->H' b=some o)->cx H' c x dx t n zO ps->Q .zT H')
noncomputable def rL (s:Stmt):Scope:=match s with
 | .Assign _ (.Call _ [.ListComp _ _ sc _] _ _) _=>sc
 | _=>{ kind := .function,names:=[],isGenerator:=false,isCoroutine:=false }
noncomputable def jt (s:Stmt):Scope:=match aJ s with
 | .Return (some (.ListComp _ _ sc _)) _ :: _=>sc
 | _=>{ kind := .function,names:=[],isGenerator:=false,isCoroutine:=false }
abbrev NI:List Str:=["self", "places", "lanes", "lane", "pair"]
structure Exc (K:Frag)(mg:Str->Option Value)(c:Cs)(f1 f2:Addr)(d1 d2:FuncData):Prop where
 mnp:mg "NoPlaces" = some (.ref c.np)
 VA:bz K c.np none=true
 knp:keepIn K (.ref c.np)=true
 mtm:mg "TooMany" = some (.ref c.tm)
 VB:bz K c.tm (some (.ref f1))=true
 ktm:keepIn K (.ref c.tm)=true
 ctm:gJ K c.tm
 ntm:findIn K (.ref c.tm) "many" = some none
 itm:isFn K (.ref f1)=true
 Ftm:Ab K "__init__" "TooMany.__init__" Ot f1 d1
 btm:Binds K d1 ["self", "many"] []
 mnr:mg "NoRoad" = some (.ref c.nr)
 VC:bz K c.nr (some (.ref f2))=true
 knr:keepIn K (.ref c.nr)=true
 cnr:gJ K c.nr
 nnr:findIn K (.ref c.nr) "lane" = some none
 inr:isFn K (.ref f2)=true
 Fnr:Ab K "__init__" "NoRoad.__init__" Ov f2 d2
 bnr:Binds K d2 ["self", "lane"] []
structure lC (K:Frag)(c:Cs):Prop where
 cl:Cg K c.land
 np:zP K c.land "places"
 nl:zP K c.land "lanes"
theorem jK {n:Int}{ps:List (Int × Int)}(h:∀ p ∈ ps,jz n p=true):nv n ps=none:=by
 unfold nv
 rw[List.findIdx?_eq_none_iff]
 intro p hp
 rw[h p hp];rfl
theorem oU {n:Int}{ps:List (Int × Int)}{i:Nat}{p:Int × Int}(h:∀ q ∈ ps.take i,jz n q=true)(hi:ps[i]? = some p)(hb:jz n p=false):nv n ps=some i:=by
 unfold nv
 rw[List.findIdx?_eq_some_iff_getElem]
 obtain⟨Ae,e⟩:=List.getElem?_eq_some_iff.mp hi
 refine⟨Ae,by rw[e,hb];rfl,fun j hj=>?_⟩
 have hm:ps[j]'(lt_trans hj Ae) ∈ ps.take i:=List.mem_take_iff_getElem.mpr ⟨j,by omega,rfl⟩
 rw[h _ hm];simp
noncomputable def Off (x:Addr)(H H':Hp):Prop:=∀ b o,b ≠ x->H b=some o->H' b=some o
theorem Off.sq {K:Frag}{H H':Hp}{x p C dx:Addr}{fs:List (Str × V)}{xs:List V}(o:Off x H H')(hx:H x=some (.ins C dx fs))(h:zJ K H p xs):zJ K H' p xs:=by
 rcases h with (h | ⟨ob,h⟩) | h
 ·exact .inl (.inl (o _ _ (aX h hx (by intro z;cases z)) h))
 ·exact .inl (.inr ⟨ob,o _ _ (aX h hx (by intro z;cases z)) h⟩)
 ·exact .inr h
theorem Off.D6 {H H':Hp}{x C dx:Addr}{fs:List (Str × V)}(o:Off x H H')(hx:H x=some (.ins C dx fs)):∀ {vs:List V}{ps:List (Int × Int)},zX H vs ps->zX H' vs ps:=fun zH=>by
 induction zH with
 | nil=>exact .nil
 | cons zz r ih=>obtain⟨t,e,q⟩:=zz;exact .cons ⟨t,e,o _ _ (aX q hx (by intro z;cases z)) q⟩ ih
theorem Off.same {H H1 H2:Hp}{x:Addr}(a:Off x H H1)(b:zD H1 H2):Off x H H2:=fun c o n e=>b _ _ (a c o n e)
theorem QN:am ["self", "many"] ["self", "many"] (ai Ot):=L2.Ad
theorem QO:am ["self", "lane"] ["self", "lane"] (ai Ov):=L2.Ad
theorem La {f:Addr}{fd:FuncData}(F:Ab K "__init__" "TooMany.__init__" Ot f fd):zE P w K mg base aG 1 f fd ["self", "many"] (qu K "many"):=by
 refine F.ok QN (fun vs H Q E h=>?_) (fun cdv A outer s H vs Q E hr h=>?_)
 ·obtain⟨e,C,tt,v,rfl,_⟩:=h
  rfl
 ·obtain⟨e,C,tt,v,rfl,h1,h2,h3,q⟩:=h
  refine⟨_,ah (lc (pv 0) (pv 1) rfl),?_⟩
  exact⟨_,rfl,_,rfl,e,C,tt,rfl,h1,h2,h3,q⟩
theorem Lb {f:Addr}{fd:FuncData}(F:Ab K "__init__" "NoRoad.__init__" Ov f fd):zE P w K mg base aG 1 f fd ["self", "lane"] (qu K "lane"):=by
 refine F.ok QO (fun vs H Q E h=>?_) (fun cdv A outer s H vs Q E hr h=>?_)
 ·obtain⟨e,C,tt,v,rfl,_⟩:=h
  rfl
 ·obtain⟨e,C,tt,v,rfl,h1,h2,h3,q⟩:=h
  refine⟨_,ah (lc (pv 0) (pv 1) rfl),?_⟩
  exact⟨_,rfl,_,rfl,e,C,tt,rfl,h1,h2,h3,q⟩
theorem D7:am NI ["self", "places", "lanes"] (ai lS):=L2.Ad
theorem zm:AS NI (ai lS) (rL ((aJ lS).getD 4 (.Pass ⟨0,0,0,0⟩))) [] []:=L2.BS
theorem yP:(["pair"]:List Str).Nodup:=by decide +kernel
theorem we {c:Cs}{f fw ft f1 f2:Addr}{fd dw dt d1 d2:FuncData}{t1 t2:Tok}(F:Ab K "__init__" "Land.__init__" lS f fd)(T:eW mg)(L:lC K c)(X:Exc K mg c f1 f2 d1 d2)
  (mw:mg "is_within" = some (.ref fw)) (kw:keepIn K (.ref fw)=true) (bw:Binds K dw ["value", "least", "most"] []) (Gw:zE P w K mg base aG 2 fw dw ["value", "least", "most"] jh)
  (mt:mg "are_two_places" = some (.ref ft)) (kt:keepIn K (.ref ft)=true) (bt:Binds K dt ["places", "one", "other"] []) (Gt:zE P w K mg base aG 3 ft dt ["places", "one", "other"] rT)
  (mp:mg "MOST_PLACES" = some (.int 12 t1)) (ml:mg "MOST_LANES" = some (.int 40 t2)) :
  zE P w K mg base (eP P w) 4 f fd ["self", "places", "lanes"] (su K c):=by
 have Gm:zE P w K mg base aG 1 f1 d1 ["self", "many"] (qu K "many"):=La X.Ftm
 have Gr:zE P w K mg base aG 1 f2 d2 ["self", "lane"] (qu K "lane"):=Lb X.Fnr
 refine F.Fb D7 (fun vs H Q E h=>?_) (fun cdv A outer s H vs Q E hr h=>?_)
 ·obtain⟨x,dx,n,p,zK,ps,rfl,_⟩:=h
  rfl
 ·obtain⟨x,dx,n,p,zK,ps,rfl,hx,hp,hl,hlen,h1,h2,h3,h4⟩:=h
  have AB:zN 2 _:=hr.mono (by decide)
  refine⟨_,ae (aL (bE (bu (az Gw AB rfl mw kw bw .nil aq (aa (pv 1) (aa aj (aa (eK (v := .int 12) rfl mp ⟨_,rfl⟩) ad))))))
    (ah (b9 rfl X.VA aP (ca X.VA X.knp rfl rfl X.mnp (aa bv ad)))) aA)
   (ae (aL (ap pJ (ax ao rfl T.len PySem.boot_len (aa (pv 2) ad)) (eK (v := .int 40) rfl ml ⟨_,rfl⟩) (av _))
    (ah (b9 rfl X.VB aP (iP X.VB X.itm X.ktm Gm AB X.btm rfl X.mtm (aa (ax ao rfl T.len PySem.boot_len (aa (pv 2) ad)) ad)))) aA)
   (ae (b5 pG rfl (lX rfl T.enum (aa (pv 2) ad)) (dM rfl (aN (au (i:=3) D7.nd rfl (Or.inl rfl)) (aN (au (i:=4) D7.nd rfl (Or.inl rfl)) cy)))
    (ah (aL (bE (bu (az Gt hr rfl mt kt bt .nil aq (aa (pv 1) (aa (aw aB (pv 4) aj (fun _ _=>rfl)) (aa (aw aB (pv 4) aj (fun _ _=>rfl)) ad))))))
     (ah (b9 rfl X.VC aP (iP X.VC X.inr X.knr Gr AB X.bnr rfl X.mnr (aa (pv 3) ad)))) aA)))
   (ae (aV (pv 0) (pv 1) rfl)
   (ah (aV (pv 0) (bF dQ rfl T.tuple PySem.Pv.boot_tuple (aa (bA (own:=["pair"]) (capN:=[]) (cap:=[]) zm rfl (bN (pv 2))
    (fun C s' H' fp=>⟨au (i:=0) yP rfl (Or.inl rfl),dH,bH (aa (aw (show n0 _ (jO K) from aB) (pv 0) aj (fun _ _=>rfl)) (aa (aw (show n0 _ (jO K) from aB) (pv 0) aj (fun _ _=>rfl)) ad))⟩)) ad)) rfl))))),?_⟩
  refine⟨_,rfl,n,1,12,rfl,_,rfl,?_⟩
  by_cases hn:1 <= n/\n <= 12
  rotate_left
  ·rw[decide_eq_false hn]
   refine aH ⟨by show 1 <= sizeLine;decide,?_⟩
   exact h1 (by unfold fK;rw[if_pos (decide_eq_false hn)]) H (zD.refl H)
  rw[decide_eq_true hn]
  refine aD ?_
  have Di:zK.length=ps.length:=Paired.length hl
  refine⟨_,rfl,p,_,rfl, .inl hp,_,_,rfl,rfl,_,rfl,?_⟩
  by_cases hm:40 < ps.length
  ·rw[decide_eq_true (show (40:Int) < (zK.length:Nat) by omega)]
   refine aH ⟨_,rfl,p,_,rfl, .inl hp,by show 1 <= sizeLine;decide,fun e tt he=>⟨e,_,tt,_,rfl,ac,X.ctm,X.ntm,fun d hd=>⟨rfl,?_⟩⟩⟩
   obtain⟨m1,m2,m3⟩:=i3 (o:=bK e c.tm tt none) (o':=bK e c.tm tt (some d)) (x := .xd [("many", .int (zK.length:Nat))]) he hd
   refine⟨some d,m3,h2 ps.length ?_ _ d m1 (by rw[m2,Di])⟩
   unfold fK
   rw[decide_eq_true hn,if_neg (by decide),if_pos hm]
  rw[decide_eq_false (show ¬ (40:Int) < (zK.length:Nat) by omega)]
  refine aD ?_
  refine⟨_,rfl,p,rfl,⟨_,hp⟩,mQ (sq:=fun H=>zJ K H p) (xs:=zK) (fun i σ H2=>∃ a b:Option V,zD H H2/\σ=[some (.ref x),some (.int n),some (.ref p),a,b]/\∀ q ∈ ps.take i,jz n q=true)
   ⟨none,none,zD.refl H,rfl,fun q hq=>by simp at hq⟩ (fun i σ H2 _ zH=>by obtain⟨a,b,s2,_⟩:=zH;exact s2.seq hp) ?_ ?_⟩
  ·rintro i v q σ H2 hv ⟨a,b,s2,rfl,AZ⟩ hq
   obtain⟨pr,hpr,t,rfl,ht⟩:=zX.get hl hv
   have s3:zD H (upd H2 q (.tup [.int i, .ref t])):=s2.new hq
   refine⟨q,_,rfl,zM.of ac,rfl,_,_,rfl,_,_,rfl,rfl,?_⟩
   have EY:zM K (upd H2 q (.tup [.int i, .ref t])) t [.int pr.1, .int pr.2]:=zM.of (s3 _ _ ht)
   refine⟨_,rfl,_,rfl,t,_,0,_,rfl,rfl,EY,ak (j:=0) rfl,?_⟩
   refine⟨_,rfl,t,_,1,_,rfl,rfl,EY,ak (j:=1) rfl,n,pr.1,pr.2,rfl,_,rfl,?_⟩
   cases ho:jz n (pr.1,pr.2) with
   | true =>
    refine aD ⟨some (.int i),some (.ref t),s3,rfl,fun z hz=>?_⟩
    rw[take_succ,hpr]at hz
    rcases mem_append.mp hz with hz | hz
    ·exact AZ z hz
    ·have:z=pr:=by simpa using hz
     rw[this];exact ho
   | false =>
    refine aH ⟨_,rfl,by show 1 <= sizeLine;decide,fun e tt he=>⟨e,_,tt,_,rfl,ac,X.cnr,X.nnr,fun d hd=>⟨rfl,?_⟩⟩⟩
    obtain⟨m1,m2,m3⟩:=i3 (o:=bK e c.nr tt none) (o':=bK e c.nr tt (some d)) (x := .xd [("lane", .int i)]) he hd
    refine⟨some d,m3,h3 i ?_ _ d (s3.trans m1) m2⟩
    unfold fK
    rw[decide_eq_true hn,if_neg (by decide),if_neg hm,oU AZ hpr ho]
  ·rintro σ H2 ⟨a,b,s2,rfl,AZ⟩
   have Lc:fK n ps = .good:=by
    unfold fK
    rw[decide_eq_true hn,if_neg (by decide),if_neg hm,jK (fun z hz=>AZ z (by rw[Di,take_length];exact hz))]
   have Ff:=s2 _ _ hx
   refine⟨_,rfl,_,rfl,x,c.land,dx,_,rfl,Ff,L.cl,L.np,by show 0 < 1000;decide,?_⟩
   generalize VD:upd H2 x (.ins c.land dx (aK "places" (.int n) []))=H3
   have o3:Off x H H3:=fun b o hb e=>by rw[← VD,af hb];exact s2 _ _ e
   have x3:H3 x=some (.ins c.land dx [("places", .int n)]):=by rw[← VD,ac];rfl
   have l3:zX H3 zK ps:=o3.D6 hx hl
   have p3:zJ K H3 p zK:=o3.sq hx hp
   refine⟨_,rfl,p,rfl,⟨_,p3⟩,bJ zK.length (by rw[sizeLine_eq];omega) (fun i acc H4=>zD H3 H4/\acc.length=i/\zX H4 acc (ps.take i)) ⟨zD.refl _,rfl, .nil⟩ (fun i acc H4 h=>le_of_eq h.2.1) ?_ ?_⟩
   ·rintro i acc H4 hi ⟨s4,ha,hA⟩
    have q4:=s4.seq p3
    refine⟨⟨zK,zK[i],q4,by simp[hi]⟩,fun y H5 ⟨e5,hy⟩=>?_⟩
    subst e5
    have hy:=hy zK q4
    obtain⟨pr,hpr,t,rfl,ht⟩:=zX.get l3 hy
    have EY:zM K H5 t [.int pr.1, .int pr.2]:=zM.of (s4 _ _ ht)
    refine⟨_,rfl,t,_,0,_,rfl,rfl,EY,ak (j:=0) rfl,?_⟩
    refine⟨_,rfl,t,_,1,_,rfl,rfl,EY,ak (j:=1) rfl,by show 2 <= sizeLine;decide,fun r G0=>?_⟩
    refine⟨s4.new G0,by rw[length_append,ha];rfl,?_⟩
    rw[take_succ,hpr]
    exact zX.snoc ⟨r,rfl,ac⟩ (zX.same (zD.new (zD.refl _) G0) hA)
   ·rintro acc H4 ⟨s4,ha,hA⟩
    have q4:=s4.seq p3
    refine⟨⟨zK,q4,Nat.le_refl _⟩,fun D hD=>?_⟩
    have s5:zD H3 (upd H4 D (.lst acc)):=s4.new hD
    refine⟨D,acc,rfl, .inl ⟨zJ.of ac,fun t ht=>?_⟩⟩
    have s6:zD H3 (upd (upd H4 D (.lst acc)) t (.tup acc)):=s5.new ht
    have x6:=s6 _ _ x3
    refine⟨_,rfl,x,c.land,dx,_,rfl,x6,L.cl,L.nl,by show 1 < 1000;decide,?_⟩
    have htx:t ≠ x:=fun z=>by rw[z,s5 _ _ x3]at ht;cases ht
    refine h4 Lc _ t acc (fun b o hb e=>?_) ⟨by rw[ac];rfl,by rw[af htx,ac],?_⟩
    ·rw[af hb];exact s6 _ _ (o3 b o hb e)
    ·have hA':zX H4 acc ps:=by rw[Di,take_length]at hA;exact hA
     have x4:=s4 _ _ x3
     have hA6:zX (upd (upd H4 D (.lst acc)) t (.tup acc)) acc ps:=zX.same (zD.new (zD.new (zD.refl _) hD) ht) hA'
     exact Off.D6 (x:=x) (fun b o hb e=>by rw[af hb];exact e) x6 hA6
noncomputable def j6 (sel:Int × Int->Int)(ps:List (Int × Int))(pl:Int)(m:Nat):List V:=((List.range m).filter fun k=>decide (sel (ps.getD k (0,0))=pl)).map fun k:Nat=>V.int k
noncomputable def qv (c:Cs)(sel:Int × Int->Int):Sp:=fun vs H Q _=>∃ (x dx t:Addr)(n:Int)(zO:List V)(ps:List (Int × Int))(pl:Int),vs=[.ref x, .int pl]/\cx H c x dx t n zO ps/\ps.length <= 1000 /\
 ∀ H' D,zD H H'->H' D=none->Q (.ref D) (upd H' D (.lst (j6 sel ps pl ps.length)))
theorem mJ {sel:Int × Int->Int}{ps:List (Int × Int)}{pl:Int}{i:Nat}{pr:Int × Int}(h:ps[i]? = some pr):j6 sel ps pl (i + 1)=if decide (sel pr=pl) then j6 sel ps pl i ++ [V.int i] else j6 sel ps pl i:=by
 have e:ps.getD i (0,0)=pr:=by rw[getD_eq_getElem?_getD,h];rfl
 unfold j6
 rw[range_succ,filter_append]
 by_cases hs:sel pr=pl
 ·rw[if_pos (decide_eq_true hs),filter_cons_of_pos (by rw[e];exact decide_eq_true hs)];simp
 ·rw[if_neg (by rw[decide_eq_false hs];decide),filter_cons_of_neg (by rw[e,decide_eq_false hs];decide)];simp
theorem pV {sel:Int × Int->Int}{ps:List (Int × Int)}{pl:Int}{i:Nat}:(j6 sel ps pl i).length <= i:=by
 unfold j6
 rw[length_map]
 have:=length_filter_le (fun k=>decide (sel (ps.getD k (0,0))=pl)) (List.range i)
 rwa [length_range]at this
theorem Ld:am ["self", "place"] ["self", "place"] (ai sM):=L2.Ad
theorem Lf:AS ["self", "place"] (ai sM) (jt sM) ["place"] [1]:=L2.BS
theorem xP:am ["self", "place"] ["self", "place"] (ai lR):=L2.Ad
theorem zl:AS ["self", "place"] (ai lR) (jt lR) ["place"] [1]:=L2.BS
theorem pO:(["lane", "pair", "place"]:List Str).Nodup:=by decide +kernel
theorem gH (a b:Int):decide (V.int a=V.int b)=decide (a=b):=by
 by_cases h:a=b
 ·rw[h];simp
 ·rw[decide_eq_false h,decide_eq_false fun z=>h (by injection z)]
theorem tR {c:Cs}{f:Addr}{fd:FuncData}(F:Ab K "out_of" "Land.out_of" sM f fd)(T:eW mg)(L:lC K c):zE P w K mg base aG 1 f fd ["self", "place"] (qv c Prod.fst):=by
 refine F.ok Ld (fun vs H Q E h=>?_) (fun cdv A outer s H vs Q E hr h=>?_)
 ·obtain⟨x,dx,t,n,zO,ps,pl,rfl,_⟩:=h
  rfl
 ·obtain⟨x,dx,t,n,zO,ps,pl,rfl,⟨hx,ht,hl⟩,hlen,q⟩:=h
  refine⟨_,ah (ar (bA (own:=["lane", "pair"]) (capN:=["place"]) (cap:=[1]) Lf rfl (lW rfl T.enum (aa (al (pv 0) rfl) ad))
   (fun C s' H' fp=>⟨(show PG _ _ (u8 K 2 _) from dM rfl (aN (au (i:=0) pO rfl (Or.inl rfl)) (aN (au (i:=1) pO rfl (Or.inl rfl)) cy))),
    bM (ap aZ (aw (show n0 _ (jO K) from aB) (pv 1) aj (fun _ _=>rfl)) (pv 2) (av _)),pv 0⟩))),?_⟩
  have Di:zO.length=ps.length:=Paired.length hl
  refine⟨_,rfl,x,c.land,dx,_,_,rfl,hx,L.cl,L.nl,rfl,t,rfl,⟨_,zM.of ht⟩,bJ ps.length (by rw[sizeLine_eq];omega) (fun i acc H4=>zD H H4/\acc=j6 Prod.fst ps pl i) ⟨zD.refl _,rfl⟩ (fun i acc H4 h=>by rw[h.2];exact pV) ?_ ?_⟩
  ·rintro i acc H4 hi ⟨s4,rfl⟩
   have q4:zM K H4 t zO:=zM.of (s4 _ _ ht)
   refine⟨⟨zO,zO[i]'(by omega),q4,by simp[Di,hi]⟩,fun y H5 ⟨r,Cz,ey,h5⟩=>?_⟩
   obtain⟨v,hv,rfl⟩:=h5 zO q4
   subst ey
   obtain⟨pr,hpr,u,rfl,hu⟩:=zX.get hl hv
   have s5:zD H (upd H4 r (.tup [.int i, .ref u])):=s4.new Cz
   refine⟨r,_,rfl,zM.of ac,rfl,_,_,rfl,_,_,rfl,rfl,?_⟩
   refine⟨_,rfl,u,_,0,_,rfl,rfl,zM.of (s5 _ _ hu),ak (j:=0) rfl,_,rfl,rfl,_,rfl,?_⟩
   rw[gH,mJ hpr]
   cases hd:decide (pr.1=pl) with
   | true=>exact aH ⟨_,rfl,s5,by simp[hd]⟩
   | false=>exact aD ⟨s5,by simp[hd]⟩
  ·rintro acc H4 ⟨s4,rfl⟩
   exact⟨⟨zO,zM.of (s4 _ _ ht),Di⟩,fun D hD=>q H4 D s4 hD⟩
theorem pL {c:Cs}{f:Addr}{fd:FuncData}(F:Ab K "into" "Land.into" lR f fd)(T:eW mg)(L:lC K c):zE P w K mg base aG 1 f fd ["self", "place"] (qv c Prod.snd):=by
 refine F.ok xP (fun vs H Q E h=>?_) (fun cdv A outer s H vs Q E hr h=>?_)
 ·obtain⟨x,dx,t,n,zO,ps,pl,rfl,_⟩:=h
  rfl
 ·obtain⟨x,dx,t,n,zO,ps,pl,rfl,⟨hx,ht,hl⟩,hlen,q⟩:=h
  refine⟨_,ah (ar (bA (own:=["lane", "pair"]) (capN:=["place"]) (cap:=[1]) zl rfl (lW rfl T.enum (aa (al (pv 0) rfl) ad))
   (fun C s' H' fp=>⟨(show PG _ _ (u8 K 2 _) from dM rfl (aN (au (i:=0) pO rfl (Or.inl rfl)) (aN (au (i:=1) pO rfl (Or.inl rfl)) cy))),
    bM (ap aZ (aw (show n0 _ (jO K) from aB) (pv 1) aj (fun _ _=>rfl)) (pv 2) (av _)),pv 0⟩))),?_⟩
  have Di:zO.length=ps.length:=Paired.length hl
  refine⟨_,rfl,x,c.land,dx,_,_,rfl,hx,L.cl,L.nl,rfl,t,rfl,⟨_,zM.of ht⟩,bJ ps.length (by rw[sizeLine_eq];omega) (fun i acc H4=>zD H H4/\acc=j6 Prod.snd ps pl i) ⟨zD.refl _,rfl⟩ (fun i acc H4 h=>by rw[h.2];exact pV) ?_ ?_⟩
  ·rintro i acc H4 hi ⟨s4,rfl⟩
   have q4:zM K H4 t zO:=zM.of (s4 _ _ ht)
   refine⟨⟨zO,zO[i]'(by omega),q4,by simp[Di,hi]⟩,fun y H5 ⟨r,Cz,ey,h5⟩=>?_⟩
   obtain⟨v,hv,rfl⟩:=h5 zO q4
   subst ey
   obtain⟨pr,hpr,u,rfl,hu⟩:=zX.get hl hv
   have s5:zD H (upd H4 r (.tup [.int i, .ref u])):=s4.new Cz
   refine⟨r,_,rfl,zM.of ac,rfl,_,_,rfl,_,_,rfl,rfl,?_⟩
   refine⟨_,rfl,u,_,1,_,rfl,rfl,zM.of (s5 _ _ hu),ak (j:=1) rfl,_,rfl,rfl,_,rfl,?_⟩
   rw[gH,mJ hpr]
   cases hd:decide (pr.2=pl) with
   | true=>exact aH ⟨_,rfl,s5,by simp[hd]⟩
   | false=>exact aD ⟨s5,by simp[hd]⟩
  ·rintro acc H4 ⟨s4,rfl⟩
   exact⟨⟨zO,zM.of (s4 _ _ ht),Di⟩,fun D hD=>q H4 D s4 hD⟩
noncomputable def xm:Sp:=fun vs H Q _=>∃ m k:Nat,vs=[.int m, .int k]/\Q (.bl (m.testBit k)) H
noncomputable def wq (m:Nat):List V:=(Yd.D1 m (Builtin.Int.intBits (m:Int))).map fun k:Nat=>V.int k
noncomputable def si:Sp:=fun vs H Q _=>∃ m:Nat,vs=[.int m]/\m < 2 ^ 400/\∀ p,H p=none->Q (.ref p) (upd H p (.lst (wq m)))
noncomputable def rW (K:Frag):Sp:=fun vs H Q _=>∃ (a:Addr)(ks:List Nat),vs=[.ref a]/\zJ K H a (ks.map fun k:Nat=>V.int k)/\(∀ k ∈ ks,k <= 1000)/\Q (.int (Yd.Ai ks 0:Nat)) H
theorem Lg:am ["some", "number"] ["some", "number"] (ai vx):=L2.Ad
theorem yL {f:Addr}{fd:FuncData}(F:Ab K "has" "has" vx f fd):zE P w K mg base aG 1 f fd ["some", "number"] xm:=by
 refine F.ok Lg (fun vs H Q E h=>?_) (fun cdv A outer s H vs Q E hr h=>?_)
 ·obtain⟨m,k,rfl,_⟩:=h
  rfl
 ·obtain⟨m,k,rfl,q⟩:=h
  refine⟨_,ah (ar (c8 (bO xo (pv 1) aj (av _)) (c7 (bO aZ (aE tL (aE tI (pv 0) (pv 1)) aj) aj (av _))))),?_⟩
  refine⟨_,rfl,_,_,rfl,rfl,_,rfl,?_⟩
  rw[decide_eq_true (show (0:Int) <= (k:Int) by omega)]
  refine aH ?_
  refine⟨_,rfl,_,rfl,_,_,rfl,rfl,(show (0:Int) <= (k:Int) by omega),_,_,rfl,rfl,rfl,?_⟩
  have e:decide (V.int (Builtin.bitAnd ((m:Int) / 2 ^ (k:Int).toNat) 1)=V.int 1)=m.testBit k:=by
   rw[toNat_natCast,← Yd.DI m k]
   by_cases h:Builtin.bitAnd ((m:Int) / 2 ^ k) 1=1
   ·rw[h];simp
   ·rw[decide_eq_false h,decide_eq_false fun z=>h (by injection z)]
  rw[e]
  exact q
theorem ug {ks:List Nat}{i:Nat}{x:V}(h:(ks.map fun k:Nat=>V.int k)[i]? = some x):∃ k,ks[i]? = some k/\x=V.int k:=by
 rw[List.getElem?_map]at h
 cases e:ks[i]? with
 | none=>rw[e]at h;cases h
 | some k=>rw[e]at h;exact⟨k,rfl,(Option.some.inj h).symm⟩
theorem DK:am ["numbers", "some", "number"] ["numbers"] (ai xW):=L2.Ad
theorem y6 {f:Addr}{fd:FuncData}(F:Ab K "set_of" "set_of" xW f fd):zE P w K mg base aG 1 f fd ["numbers"] (rW K):=by
 refine F.ok DK (fun vs H Q E h=>?_) (fun cdv A outer s H vs Q E hr h=>?_)
 ·obtain⟨a,ks,rfl,_⟩:=h
  rfl
 ·obtain⟨a,ks,rfl,hS,hk,q⟩:=h
  refine⟨_,ae (ay (i:=1) DK.nd rfl (Or.inl rfl) aj)
   (ae (b5 PassesOwn.never rfl (bN (pv 0)) (au (i:=2) DK.nd rfl (Or.inl rfl))
    (ah (ay (i:=1) DK.nd rfl (Or.inl rfl) (aE JY (pv 1) (aE yw aj (pv 2))))))
   (ah (ar (pv 1)))),?_⟩
  refine⟨_,rfl,a,rfl,⟨_,hS⟩,jD (K:=K) (a:=a) (xs:=ks.map fun k:Nat=>V.int k) (fun i σ H2=>∃ v:Option V,H2=H/\σ=[some (.ref a),some (.int (Yd.Ai (ks.take i) 0:Nat)),v])
   ⟨none,rfl,rfl⟩ (fun i σ H2 _ zH=>by obtain⟨_,e,_⟩:=zH;rw[e];exact hS) ?_ ?_⟩
  ·rintro i x σ H2 hx ⟨v,rfl,rfl⟩
   obtain⟨k,ek,rfl⟩:=ug hx
   have Gj:=hk k (mem_of_getElem? ek)
   refine⟨_,rfl,_,rfl,_,_,rfl,rfl,⟨(show (0:Int) <= (k:Int) by omega),(show (k:Int) <= 1000000 by omega),(by decide)⟩,_,_,rfl,rfl,some (.int k),rfl,?_⟩
   have e:Builtin.bitOr ((Yd.Ai (ks.take i) 0:Nat):Int) (1 * 2 ^ (k:Int).toNat)=((Yd.Ai (ks.take (i + 1)) 0:Nat):Int):=by
    rw[take_succ,ek,toNat_natCast,Int.one_mul,show (2:Int) ^ k=((2 ^ k:Nat):Int) by rw[Int.natCast_pow];rfl,Yd.DY,Yd.E8]
    rfl
   show [some (V.ref a),some (V.int _),some (V.int k)]=_
   rw[e]
  ·rintro σ H2 ⟨v,rfl,rfl⟩
   refine⟨_,rfl,?_⟩
   rw[length_map,take_length]
   exact q
theorem Lh:am ["some"] ["some"] (ai sP):=L2.Ad
theorem Li:(["number", "some"]:List Str).Nodup:=by decide +kernel
theorem Lj:AS ["some"] (ai sP) (jt sP) ["some"] [0]:=L2.BS
theorem yC {f fh:Addr}{fd CA:FuncData}(F:Ab K "members" "members" sP f fd)(T:eW mg)(mh:mg "has" = some (.ref fh))(Fh:Ab K "has" "has" vx fh CA)(bh:Binds K CA ["some", "number"] []):zE P w K mg base aG 2 f fd ["some"] si:=by
 have G:zE P w K mg base aG 1 fh CA ["some", "number"] xm:=yL Fh
 refine F.ok Lh (fun vs H Q E h=>?_) (fun cdv A outer s H vs Q E hr h=>?_)
 ·obtain⟨m,rfl,_⟩:=h
  rfl
 ·obtain⟨m,rfl,hm,q⟩:=h
  refine⟨_,ah (ar (bA (own:=["number"]) (capN:=["some"]) (cap:=[0]) Lj rfl
   (aM rfl T.range (aa (yp PySem.F.plainAttrs_int PySem.F.slot_int_bit_length PySem.F.type_int_bit_length wm (pv 0)) ad))
   (fun C s' H' fp=>⟨au (i:=0) Li rfl (Or.inl rfl),bM (bu (az G hr rfl mh Fh.kp bh .nil aq (aa (pv 1) (aa (pv 0) ad)))),pv 0⟩))),?_⟩
  have hb:Builtin.Int.intBits (m:Int) <= 400:=Yd.bits_le hm
  refine⟨_,rfl,rfl,_,rfl,rfl,(Builtin.Int.intBits (m:Int):Nat),rfl,by omega,by omega,?_⟩
  rw[toNat_natCast]
  refine mY (fun k=>m.testBit k) (fun k=>V.int k) (by rw[sizeLine_eq];omega) (fun i acc N hi h=>?_) q
  refine⟨_,rfl,_,rfl,m,i,by simp,_,rfl,?_⟩
  cases e:m.testBit i with
  | true =>
   rw[e]at h
   refine aH ⟨_,rfl,?_⟩
   simpa using h
  | false =>
   rw[e]at h
   exact aD (by simpa using h)
noncomputable def iz (ks:List Nat):List Int:=ks.map fun k:Nat=>(k:Int)
theorem w6 (ks:List Nat):(iz ks).map V.int=ks.map fun k:Nat=>V.int k:=by rw[iz,map_map];rfl
theorem wo (m:Nat):wq m=(iz (Yd.D1 m (Builtin.Int.intBits (m:Int)))).map V.int:=by rw[w6];rfl
theorem wz {ks:List Nat}(h:ks.Pairwise (· < ·)):(iz ks).Pairwise (· < ·):=by
 unfold iz
 rw[List.pairwise_map]
 exact h.imp fun z=>by omega
theorem AN {ks:List Nat}{k:Int}:k ∈ iz ks↔∃ n ∈ ks,(n:Int)=k:=mem_map
theorem oy {ks:List Nat}{ms:List Int}(h1:ms.Pairwise (· < ·))(h2:∀ k,k ∈ ms↔k ∈ iz ks):iz (Yd.D1 (Yd.Ai ks 0) (Builtin.Int.intBits ((Yd.Ai ks 0:Nat):Int)))=ms:=by
 refine Yd.CP (wz (Yd.DZ _ _)) h1 fun k=>?_
 rw[h2 k,AN,AN]
 constructor
 ·rintro⟨n,hn,e⟩
  rw[Yd.CO (Yd.DH _),Yd.AL]at hn
  exact⟨n,by simpa using hn,e⟩
 ·rintro⟨n,hn,e⟩
  refine⟨n,?_,e⟩
  rw[Yd.CO (Yd.DH _),Yd.AL]
  simpa using hn
theorem sA {ks:List Nat}{b:Nat}(h:∀ k ∈ ks,k < b):Yd.Ai ks 0 < 2 ^ b:=by
 rw[← Yd.F3 h]
 exact Yd.Cy ks b
theorem qq {ks:List Nat}{k:Nat}:(Yd.Ai ks 0).testBit k=decide ((k:Int) ∈ iz ks):=by
 rw[Yd.AL,Nat.zero_testBit,Bool.false_or]
 congr 1
 refine propext ⟨fun h=>AN.mpr ⟨k,h,rfl⟩,fun h=>?_⟩
 obtain⟨n,hn,e⟩:=AN.mp h
 have:n=k:=by omega
 rw[← this]
 exact hn
structure Rw where
 p:Int
 g:Int
 c:Option Nat
 s:List Nat
noncomputable def aY (r:Rw):gp:=[some r.p,some r.g,r.c.map fun k:Nat=>(k:Int)]
noncomputable def eT (sel:Int × Int->Int)(ps:List (Int × Int))(pl:Int):List Nat:=(List.range ps.length).filter fun k=>decide (sel (ps.getD k (0,0))=pl)
noncomputable def fits (n:Int)(ps:List (Int × Int))(r:Rw):Bool :=
 jz n (r.p,r.g) && ((match r.c with | none=>true | some k=>decide (k ∈ eT Prod.snd ps r.p)) && r.s.all fun k=>decide (k ∈ eT Prod.fst ps r.p))
noncomputable def m5 (sel:Int × Int->Int)(ps:List (Int × Int))(pl:Int)(k:Nat):Bool:=decide (ps.length <= k) || !decide (sel (ps.getD k (0,0))=pl)
noncomputable def nu (n:Int)(ps:List (Int × Int))(ahead:List Rw)(r:Rw):Bool :=
 !jz n (r.p,r.g) || ((match r.c with | none=>false | some k=>m5 Prod.snd ps r.p k) || ((r.s.any fun k=>m5 Prod.fst ps r.p k) || ahead.any fun a=>decide (aY a=aY r)))
theorem pX {sel:Int × Int->Int}{ps:List (Int × Int)}{pl:Int}{k:Nat}:decide (k ∈ eT sel ps pl) = !m5 sel ps pl k:=by
 unfold eT m5
 by_cases h1:ps.length <= k
 ·rw[decide_eq_true h1,decide_eq_false]
  ·rfl
  ·intro z
   have:=mem_range.mp (mem_filter.mp z).1
   omega
 ·rw[decide_eq_false h1]
  by_cases h2:sel (ps.getD k (0,0))=pl
  ·rw[decide_eq_true h2,decide_eq_true]
   ·rfl
   ·exact mem_filter.mpr ⟨mem_range.mpr (by omega),decide_eq_true h2⟩
  ·rw[decide_eq_false h2,decide_eq_false]
   ·rfl
   ·intro z
    exact h2 (of_decide_eq_true (mem_filter.mp z).2)
theorem wP {l:List Nat}{f:Nat->Bool}:(l.all fun k=>!f k) = !(l.any f):=by
 induction l with
 | nil=>rfl
 | cons a l ih=>rw[all_cons,any_cons,ih,Bool.not_or]
theorem im (n:Int)(ps:List (Int × Int))(ahead:List Rw)(r:Rw):nu n ps ahead r=(!fits n ps r || ahead.any fun a=>decide (aY a=aY r)):=by
 unfold nu fits
 have e:(r.s.all fun k=>decide (k ∈ eT Prod.fst ps r.p)) = !(r.s.any fun k=>m5 Prod.fst ps r.p k):=by
  rw[← wP]
  congr 1
  funext k
  exact pX
 rw[e]
 cases hc:r.c with
 | none =>
  dsimp only
  cases jz n (r.p,r.g)<;>cases (r.s.any fun k=>m5 Prod.fst ps r.p k)<;>cases (ahead.any fun a=>decide (aY a=aY r))<;>rfl
 | some k =>
  dsimp only
  rw[pX]
  cases jz n (r.p,r.g)<;>cases (m5 Prod.snd ps r.p k)<;>cases (r.s.any fun k=>m5 Prod.fst ps r.p k)<;>cases (ahead.any fun a=>decide (aY a=aY r))<;>rfl
noncomputable def dC (n:Int)(ps:List (Int × Int))(rs:List Rw)(m:Nat):Option Nat:=(List.range m).find? fun k=>nu n ps (rs.take k) (rs.getD k ⟨0,0,none,[]⟩)
theorem gk {n:Int}{ps:List (Int × Int)}{rs:List Rw}:∀ {m:Nat},(∀ k,k < m->nu n ps (rs.take k) (rs.getD k ⟨0,0,none,[]⟩)=false)->dC n ps rs m=none:=by
 intro m h
 unfold dC
 rw[List.find?_eq_none]
 intro k hk
 rw[h k (mem_range.mp hk)]
 decide
theorem jP {n:Int}{ps:List (Int × Int)}{rs:List Rw}{m i:Nat}(hi:i < m)(h:∀ k,k < i->nu n ps (rs.take k) (rs.getD k ⟨0,0,none,[]⟩)=false)(hb:nu n ps (rs.take i) (rs.getD i ⟨0,0,none,[]⟩)=true):dC n ps rs m=some i:=by
 unfold dC
 rw[List.find?_range_eq_some]
 refine⟨hb,mem_range.mpr hi,fun j hj=>?_⟩
 rw[h j hj]
 rfl
noncomputable def dZ (rs:List Rw)(k:gp):Option Rw:=rs.reverse.find? fun r=>decide (aY r=k)
theorem oE {rs:List Rw}{r:Rw}{k:gp}:dZ (rs ++ [r]) k=if k=aY r then some r else dZ rs k:=by
 unfold dZ
 rw[List.reverse_append,List.reverse_singleton,List.singleton_append,List.find?_cons]
 by_cases h:aY r=k
 ·rw[decide_eq_true h,if_pos h.symm]
 ·rw[decide_eq_false h,if_neg (Ne.symm h)]
theorem lp {rs:List Rw}{k:gp}:(dZ rs k).isSome=rs.any fun r=>decide (aY r=k):=by
 unfold dZ
 rw[Bool.eq_iff_iff,List.find?_isSome,List.any_eq_true]
 exact⟨fun zH=>by obtain⟨x,hx,h⟩:=zH;exact⟨x,mem_reverse.mp hx,h⟩,fun zH=>by obtain⟨x,hx,h⟩:=zH;exact⟨x,mem_reverse.mpr hx,h⟩⟩
noncomputable def cV:Option Nat->V
 | none => .zT
 | some k => .int k
noncomputable def bQ (ks:List Nat):List V:=ks.map fun k:Nat=>V.int k
noncomputable def Ii (H:Hp)(t l:Addr)(r:Rw):Prop:=H t=some (.tup [.int r.p, .int r.g,cV r.c, .ref l])/\H l=some (.lst (bQ r.s))
noncomputable def Ij (H:Hp)(v:V)(r:Rw):Prop:=∃ t l,v = .ref t/\Ii H t l r
abbrev D8 (H:Hp):List V->List Rw->Prop:=Paired (Ij H)
theorem Ii.same {H H':Hp}{t l:Addr}{r:Rw}(h:zD H H')(x:Ii H t l r):Ii H' t l r:=⟨h _ _ x.1,h _ _ x.2⟩
theorem Ij.same {H H':Hp}{v:V}{r:Rw}(h:zD H H'):Ij H v r->Ij H' v r:=fun zH=>by obtain⟨t,l,e,x⟩:=zH;exact⟨t,l,e,x.same h⟩
theorem D8.imp {H H':Hp}(h:∀ v r,Ij H v r->Ij H' v r):∀ {vs:List V}{rs:List Rw},D8 H vs rs->D8 H' vs rs:=fun zH=>by
 induction zH with
 | nil=>exact .nil
 | cons x r ih=>exact .cons (h _ _ x) ih
theorem D8.same {H H':Hp}(h:zD H H'){vs:List V}{rs:List Rw}(x:D8 H vs rs):D8 H' vs rs:=D8.imp (fun _ _ z=>z.same h) x
theorem D8.get {H:Hp}:∀ {vs:List V}{rs:List Rw}{i:Nat}{v:V},D8 H vs rs->vs[i]? = some v->∃ r,rs[i]? = some r/\Ij H v r
 | _,_,_,_, .nil,e=>by simp at e
 | _,_,0,_, .cons x _,e=>by simp at e;subst e;exact⟨_,rfl,x⟩
 | _,_,i + 1,v, .cons _ t,e=>by
  obtain⟨r,h1,h2⟩:=D8.get (i:=i) (v:=v) t (by simpa using e)
  exact⟨r,by simpa using h1,h2⟩
theorem pU (r:Rw):(aY r).map rD=[.int r.p, .int r.g,cV r.c]:=by
 cases r with
 | mk p g c s=>cases c<;>rfl
theorem oG {sel:Int × Int->Int}{ps:List (Int × Int)}{pl:Int}:j6 sel ps pl ps.length=(iz (eT sel ps pl)).map V.int:=by rw[w6];rfl
theorem oF {k:Nat}{l:List Nat}:decide ((k:Int) ∈ iz l)=decide (k ∈ l):=by
 congr 1
 refine propext ⟨fun h=>?_,fun h=>AN.mpr ⟨k,h,rfl⟩⟩
 obtain⟨n,hn,e⟩:=AN.mp h
 have:n=k:=by omega
 rw[← this]
 exact hn
theorem qh (ks l:List Nat):((bQ ks).filter fun _=>true).map (fun v=>match v with | .int i=>V.bl (decide (i ∈ iz l)) | _ => .zT)=(ks.map fun k=>decide (k ∈ l)).map V.bl:=by
 rw[List.filter_eq_self.mpr (fun _ _=>rfl)]
 unfold bQ
 rw[map_map,map_map]
 refine List.map_congr_left fun k _=>?_
 show V.bl (decide ((k:Int) ∈ iz l))=V.bl (decide (k ∈ l))
 rw[oF]
theorem uU (ks:List Nat)(p:Nat->Bool):(ks.map p).all id=ks.all p:=by rw[all_map];rfl
noncomputable def xc (K:Frag):Sp:=fun vs H Q _=>∃ (i:Int)(p:Addr)(ns:List Int),vs=[.int i, .ref p]/\zJ K H p (ns.map V.int)/\Q (.bl (decide (i ∈ ns))) H
noncomputable def sy (c:Cs):Sp:=fun vs H Q _=>∃ (x dx lt t l:Addr)(n:Int)(zO:List V)(ps:List (Int × Int))(r:Rw),vs=[.ref x, .ref t]/\cx H c x dx lt n zO ps/\Ii H t l r/\ps.length <= 1000/\r.s.length <= 1000/\∀ H',zD H H'->Q (.bl (fits n ps r)) H'
structure Lk (K:Frag)(c:Cs)(f3 f4:Addr)(d3 d4:FuncData):Prop where
 m3:bD K c.land "out_of" f3
 m4:bD K c.land "into" f4
 b3:Binds K d3 ["self", "place"] []
 b4:Binds K d4 ["self", "place"] []
abbrev NF:List Str:=["land", "row", "place", "came", "begin_here"]
noncomputable def uV (s:Stmt):Scope:=match s with
 | .Return (some (.Call _ [.ListComp _ _ sc _] _ _)) _=>sc
 | _=>{ kind := .function,names:=[],isGenerator:=false,isCoroutine:=false }
theorem Ll:am ["value", "numbers"] ["value", "numbers"] (ai xY):=L2.Ad
theorem y9 {f fh:Addr}{fd CA:FuncData}(F:Ab K "is_one_of" "is_one_of" xY f fd)(T:eW mg)(mh:mg "is_whole" = some (.ref fh))(Fh:Ab K "is_whole" "is_whole" gA fh CA)(bh:Binds K CA ["value"] []) :
  zE P w K mg base aG 2 f fd ["value", "numbers"] (xc K):=by
 have G:zE P w K mg base aG 1 fh CA ["value"] kP:=mz Fh T
 refine F.ok Ll (fun vs H Q E h=>?_) (fun cdv A outer s H vs Q E hr h=>?_)
 ·obtain⟨i,p,ns,rfl,_⟩:=h
  rfl
 ·obtain⟨i,p,ns,rfl,hS,q⟩:=h
  refine⟨_,ah (ar (c8 (az G hr rfl mh Fh.kp bh .nil aq (aa (pv 0) ad)) (c7 (bO jY (pv 0) (pv 1) (by with_unfolding_all rfl))))),?_⟩
  refine⟨_,rfl,i,rfl,true,rfl,aH ?_⟩
  refine⟨_,rfl,_,rfl,p,_,rfl, .inl hS,rfl,fU _,?_⟩
  show Q (V.bl (va (V.int i) (ns.map V.int))) H
  rw[iW]
  exact q
theorem C0:am NF ["land", "row"] (ai lT):=L2.Ad
theorem zn:AS NF (ai lT) (uV ((aJ lT).getD 5 (.Pass ⟨0,0,0,0⟩))) ["begin_here"] [4]:=L2.BS
theorem yQ:(["lane", "begin_here"]:List Str).Nodup:=by decide +kernel
theorem wg {c:Cs}{f ft fo f3 f4:Addr}{fd dt d1 d3 d4:FuncData}(F:Ab K "row_fits" "row_fits" lT f fd)(T:eW mg)(L:lC K c)(M:Lk K c f3 f4 d3 d4)
  (mt:mg "are_two_places" = some (.ref ft)) (kt:keepIn K (.ref ft)=true) (bt:Binds K dt ["places", "one", "other"] []) (Gt:zE P w K mg base aG 3 ft dt ["places", "one", "other"] rT)
  (mo:mg "is_one_of" = some (.ref fo)) (ko:keepIn K (.ref fo)=true) (bo:Binds K d1 ["value", "numbers"] []) (Go:zE P w K mg base aG 2 fo d1 ["value", "numbers"] (xc K))
  (G3:zE P w K mg base aG 1 f3 d3 ["self", "place"] (qv c Prod.fst)) (G4:zE P w K mg base aG 1 f4 d4 ["self", "place"] (qv c Prod.snd)) :
  zE P w K mg base aG 4 f fd ["land", "row"] (sy c):=by
 refine F.ok C0 (fun vs H Q E h=>?_) (fun cdv A outer s H vs Q E hr h=>?_)
 ·obtain⟨x,dx,lt,t,l,n,zO,ps,r,rfl,_⟩:=h
  rfl
 ·obtain⟨x,dx,lt,t,l,n,zO,ps,r,rfl,hL,hR,hlen,Ic,q⟩:=h
  have Ax:zN 1 _:=hr.mono (by decide)
  have AB:zN 2 _:=hr.mono (by decide)
  refine⟨_,ae (ay (i:=2) C0.nd rfl (Or.inl rfl) (aw aB (pv 1) aj (fun _ _=>rfl)))
   (ae (ay (i:=3) C0.nd rfl (Or.inl rfl) (aw aB (pv 1) aj (fun _ _=>rfl)))
   (ae (aL (bE (bu (az Gt hr rfl mt kt bt .nil aq (aa (al (pv 0) rfl) (aa (pv 2) (aa (aw aB (pv 1) aj (fun _ _=>rfl)) ad)))))) (ah (ar ge)) aA)
   (ae (aL (PW.pt (eI (ap vG (pv 3) bV (av _)) (dG (bE (bu (az Go AB rfl mo ko bo .nil aq (aa (pv 3) (aa (aC (pv 0) L.cl M.m4 G4 Ax M.b4 .nil aq (aa (pv 2) ad)) ad)))))))) (ah (ar ge)) aA)
   (ae (ay (i:=4) C0.nd rfl (Or.inr rfl) (aC (pv 0) L.cl M.m3 G3 Ax M.b3 .nil aq (aa (pv 2) ad)))
   (ah (ar (ax (jJ rfl) rfl T.all PyProof.Rows.boot_all (aa (bA (own:=["lane"]) (capN:=["begin_here"]) (cap:=[4]) zn rfl (bN (aw aB (pv 1) aj (fun _ _=>rfl)))
    (fun C s' H' fp=>⟨au (i:=0) yQ rfl (Or.inl rfl),dH,az Go AB rfl mo ko bo .nil aq (aa (pv 0) (aa (pv 1) ad))⟩)) ad)))))))),?_⟩
  obtain⟨hT,hl⟩:=hR
  have QP:zM K H t [.int r.p, .int r.g,cV r.c, .ref l]:=zM.of hT
  refine⟨_,rfl,t,_,0,_,rfl,rfl,QP,ak (j:=0) rfl,?_⟩
  refine⟨_,rfl,t,_,2,_,rfl,rfl,QP,ak (j:=2) rfl,?_⟩
  refine⟨_,rfl,x,c.land,dx,_,_,rfl,hL.1,L.cl,L.np,rfl,_,rfl,_,rfl,t,_,1,_,rfl,rfl,QP,ak (j:=1) rfl,n,r.p,r.g,rfl,_,rfl,?_⟩
  cases ho:jz n (r.p,r.g) with
  | false =>
   have e:fits n ps r=false:=by unfold fits;rw[ho];rfl
   refine aH ?_
   have:=q H (zD.refl H)
   rw[e]at this
   exact this
  | true =>
   refine aD ?_
   cases hc:r.c with
   | none =>
    refine⟨_,rfl,rfl,_,rfl,aD (aD ?_)⟩
    have s1:=zD.refl H
    have e1:fits n ps r=r.s.all fun k=>decide (k ∈ eT Prod.fst ps r.p):=by unfold fits;rw[ho,hc];rfl
    refine⟨_,rfl,x,dx,_,rfl,s1 _ _ hL.1,rfl,_,rfl,x,dx,lt,n,zO,ps,r.p,rfl,⟨s1 _ _ hL.1,s1 _ _ hL.2.1,zX.same s1 hL.2.2⟩,hlen,fun H2 D2 s2 BU=>?_⟩
    have s3:=(s1.trans s2).new (o := .lst (j6 Prod.fst ps r.p ps.length)) BU
    have g2:(upd H2 D2 (.lst (j6 Prod.fst ps r.p ps.length))) D2=some (.lst (j6 Prod.fst ps r.p ps.length)):=ac
    generalize upd H2 D2 (.lst (j6 Prod.fst ps r.p ps.length))=H3 at s3 g2 ⊢
    refine⟨_,rfl,t,_,3,_,rfl,rfl,zM.of (s3 _ _ hT),ak (j:=3) rfl,l,rfl,⟨_,zJ.of (s3 _ _ hl)⟩,?_⟩
    refine fM (xs:=bQ r.s) (fun _=>true) (fun v=>match v with | .int i => .bl (decide (i ∈ iz (eT Prod.fst ps r.p))) | _ => .zT) (by rw[sizeLine_eq];simp only[bQ,length_map];omega) (zJ.of (s3 _ _ hl)) (fun y acc N hy h=>?_) (fun D hD=>?_)
    ·obtain⟨k',_,rfl⟩:=mem_map.mp hy
     exact⟨_,rfl,_,rfl,(k':Int),D2,iz (eT Prod.fst ps r.p),rfl,by rw[← oG];exact zJ.of g2,by simpa using h⟩
    ·rw[qh]
     refine⟨D,r.s.map fun k=>decide (k ∈ eT Prod.fst ps r.p),rfl,zJ.of ac,?_⟩
     have:=q _ (s3.new (o := .lst ((r.s.map fun k=>decide (k ∈ eT Prod.fst ps r.p)).map V.bl)) hD)
     rw[e1]at this
     rw[uU]
     exact this
   | some k =>
    refine⟨_,rfl,rfl,_,rfl,aH ?_⟩
    refine⟨_,rfl,_,rfl,x,dx,_,rfl,hL.1,rfl,_,rfl,x,dx,lt,n,zO,ps,r.p,rfl,hL,hlen,fun H' D s' hD=>?_⟩
    have s1:=s'.new (o := .lst (j6 Prod.snd ps r.p ps.length)) hD
    refine⟨(k:Int),D,iz (eT Prod.snd ps r.p),rfl,by rw[← oG];exact zJ.of ac,_,rfl,?_⟩
    rw[oF]
    cases hk:decide (k ∈ eT Prod.snd ps r.p) with
    | false =>
     refine aH ?_
     have e:fits n ps r=false:=by unfold fits;rw[ho,hc];dsimp only;rw[hk];rfl
     have:=q _ s1
     rw[e]at this
     exact this
    | true =>
     have e1:fits n ps r=r.s.all fun k=>decide (k ∈ eT Prod.fst ps r.p):=by unfold fits;rw[ho,hc];dsimp only;rw[hk];rfl
     refine aD ?_
     refine⟨_,rfl,x,dx,_,rfl,s1 _ _ hL.1,rfl,_,rfl,x,dx,lt,n,zO,ps,r.p,rfl,⟨s1 _ _ hL.1,s1 _ _ hL.2.1,zX.same s1 hL.2.2⟩,hlen,fun H2 D2 s2 BU=>?_⟩
     have s3:=(s1.trans s2).new (o := .lst (j6 Prod.fst ps r.p ps.length)) BU
     have g2:(upd H2 D2 (.lst (j6 Prod.fst ps r.p ps.length))) D2=some (.lst (j6 Prod.fst ps r.p ps.length)):=ac
     generalize upd H2 D2 (.lst (j6 Prod.fst ps r.p ps.length))=H3 at s3 g2 ⊢
     refine⟨_,rfl,t,_,3,_,rfl,rfl,zM.of (s3 _ _ hT),ak (j:=3) rfl,l,rfl,⟨_,zJ.of (s3 _ _ hl)⟩,?_⟩
     refine fM (xs:=bQ r.s) (fun _=>true) (fun v=>match v with | .int i => .bl (decide (i ∈ iz (eT Prod.fst ps r.p))) | _ => .zT) (by rw[sizeLine_eq];simp only[bQ,length_map];omega) (zJ.of (s3 _ _ hl)) (fun y acc N hy h=>?_) (fun D hD=>?_)
     ·obtain⟨k',_,rfl⟩:=mem_map.mp hy
      exact⟨_,rfl,_,rfl,(k':Int),D2,iz (eT Prod.fst ps r.p),rfl,by rw[← oG];exact zJ.of g2,by simpa using h⟩
     ·rw[qh]
      refine⟨D,r.s.map fun k=>decide (k ∈ eT Prod.fst ps r.p),rfl,zJ.of ac,?_⟩
      have:=q _ (s3.new (o := .lst ((r.s.map fun k=>decide (k ∈ eT Prod.fst ps r.p)).map V.bl)) hD)
      rw[e1]at this
      rw[uU]
      exact this
structure Ts where
 tab:Addr
 told:Addr
 ne:Addr
noncomputable def rV (K:Frag):Sp:=fun vs H Q _=>∃ (x C dx:Addr)(lv:V),vs=[.ref x,lv]/\H x=some (.ins C dx [])/\Cg K C/\zP K C "land"/\Q .zT (upd H x (.ins C dx [("land",lv)]))
noncomputable def sD (r:Rw):V := .int (Yd.Ai r.s 0:Nat)
noncomputable def rU (P:Program)(w:World)(K:Frag)(c:Cs)(ts:Ts):Sp:=fun vs H Q E=>∃ (x dx lx Ac lt p:Addr)(n:Int)(zO zS:List V)(ps:List (Int × Int))(rs:List Rw),
 vs=[.ref x, .ref lx, .ref p]/\H x=some (.ins ts.told dx [])/\cx H c lx Ac lt n zO ps/\zJ K H p zS/\D8 H zS rs/\zS.length <= 100000/\ps.length <= 1000/\(∀ r ∈ rs,(∀ k ∈ r.s,k <= 1000)/\r.s.length <= 1000) /\
 (∀ i,dC n ps rs rs.length=some i->∀ H' d,Off x H H'->H' d=some (.xd [("row", .int i)])->E (.ref ts.ne) (some d) H') /\
 (dC n ps rs rs.length=none->∀ H' de kvs,Off x H H'->H' x=some (.ins ts.told dx [("land", .ref lx),("entries", .ref de)])->Au P w H' de kvs->(∀ k,bZ kvs k=(dZ rs k).map sD)->Q .zT H')
noncomputable def pf (P:Program)(w:World)(ts:Ts):Sp:=fun vs H Q _=>∃ (x dx de:Addr)(lv:V)(kvs:List dS)(r:Rw)(m:Nat),vs=[.ref x, .int r.p, .int r.g,cV r.c]/\H x=some (.ins ts.told dx [("land",lv),("entries", .ref de)])/\Au P w H de kvs /\
 (bZ kvs (aY r)).getD (.int 0) = .int m/\m < 2 ^ 400/\∀ H' D,zD H H'->H' D=none->Q (.ref D) (upd H' D (.lst (wq m)))
structure QQ (K:Frag)(mg:Str->Option Value)(ts:Ts)(f1 f2:Addr)(d1 d2:FuncData):Prop where
 ct:Cg K ts.tab
 nt:zP K ts.tab "land"
 cd:Cg K ts.told
 Gq:zP K ts.told "land"
 Ox:zP K ts.told "entries"
 mt:mg "Table" = some (.ref ts.tab)
 cm:uZ K ts.tab "__init__" f1
 bt:Binds K d1 ["self", "land"] []
 mne:mg "NoEntry" = some (.ref ts.ne)
 VE:bz K ts.ne (some (.ref f2))=true
 kne:keepIn K (.ref ts.ne)=true
 En:gJ K ts.ne
 VF:findIn K (.ref ts.ne) "row" = some none
 ine:isFn K (.ref f2)=true
 Fne:Ab K "__init__" "NoEntry.__init__" Ow f2 d2
 bne:Binds K d2 ["self", "row"] []
abbrev NT:List Str:=["self", "land", "rows", "number", "row", "key"]
theorem Off.land {H H':Hp}{x C dx:Addr}(o:Off x H H')(hx:H x=some (.ins C dx [])){c:Cs}{lx Ac lt:Addr}{n:Int}{zO:List V}{ps:List (Int × Int)}(h:cx H c lx Ac lt n zO ps):cx H' c lx Ac lt n zO ps :=
 ⟨o _ _ (aX h.1 hx (by intro z;cases z)) h.1,o _ _ (aX h.2.1 hx (by intro z;cases z)) h.2.1,o.D6 hx h.2.2⟩
theorem QR:am ["self", "row"] ["self", "row"] (ai Ow):=L2.Ad
theorem Ln {f:Addr}{fd:FuncData}(F:Ab K "__init__" "NoEntry.__init__" Ow f fd):zE P w K mg base aG 1 f fd ["self", "row"] (qu K "row"):=by
 refine F.ok QR (fun vs H Q E h=>?_) (fun cdv A outer s H vs Q E hr h=>?_)
 ·obtain⟨e,C,tt,v,rfl,_⟩:=h
  rfl
 ·obtain⟨e,C,tt,v,rfl,h1,h2,h3,q⟩:=h
  refine⟨_,ah (lc (pv 0) (pv 1) rfl),?_⟩
  exact⟨_,rfl,_,rfl,e,C,tt,rfl,h1,h2,h3,q⟩
theorem Lo:am ["self", "land"] ["self", "land"] (ai xU):=L2.Ad
theorem y3 {f:Addr}{fd:FuncData}(F:Ab K "__init__" "Table.__init__" xU f fd):zE P w K mg base aG 1 f fd ["self", "land"] (rV K):=by
 refine F.ok Lo (fun vs H Q E h=>?_) (fun cdv A outer s H vs Q E hr h=>?_)
 ·obtain⟨x,C,dx,lv,rfl,_⟩:=h
  rfl
 ·obtain⟨x,C,dx,lv,rfl,hx,hc,hn,q⟩:=h
  refine⟨_,ah (aV (pv 0) (pv 1) rfl),?_⟩
  exact⟨_,rfl,_,rfl,x,C,dx,_,rfl,hx,hc,hn,by show 0 < 1000;decide,q⟩
theorem vp:am ["self", "place", "goal", "came"] ["self", "place", "goal", "came"] (ai nS):=L2.Ad
theorem tN {ts:Ts}{f fm f1 f2:Addr}{fd dm d1 d2:FuncData}(F:Ab K "ways" "Told.ways" nS f fd)(B:QQ K mg ts f1 f2 d1 d2)(mm:mg "members" = some (.ref fm))(km:keepIn K (.ref fm)=true)(bm:Binds K dm ["some"] [])
  (Gm:zE P w K mg base aG 2 fm dm ["some"] si):zE P w K mg base aG 3 f fd ["self", "place", "goal", "came"] (pf P w ts):=by
 refine F.ok vp (fun vs H Q E h=>?_) (fun cdv A outer s H vs Q E hr h=>?_)
 ·obtain⟨x,dx,de,lv,kvs,r,m,rfl,_⟩:=h
  rfl
 ·obtain⟨x,dx,de,lv,kvs,r,m,rfl,hx,hd,hv,hm,q⟩:=h
  have hu:=k9 hr
  refine⟨_,ah (ar (az Gm hr rfl mm km bm .nil aq (aa (lZ hu (al (pv 0) rfl) (aa (bH (aa (pv 1) (aa (pv 2) (aa (pv 3) ad)))) (aa aj ad))) ad))),?_⟩
  refine⟨_,rfl,x,ts.told,dx,_,_,rfl,hx,B.cd,B.Ox,rfl,de,kvs,rfl,hd,?_⟩
  refine⟨_,rfl,_,rfl,_,rfl,by show 3 <= sizeLine;decide,fun t ht=>?_⟩
  have s1:zD H (upd H t (.tup [.int r.p, .int r.g,cV r.c])):=(zD.refl H).new ht
  refine⟨_,_,bZ kvs (aY r),rfl,⟨kvs,aY r,t,hd.same s1,rfl,by rw[pU];exact ac,rfl⟩,?_⟩
  rw[hv]
  exact⟨m,rfl,hm,fun D hD=>q _ D s1 hD⟩
theorem C1:am NT ["self", "land", "rows"] (ai sI):=L2.Ad
theorem vO {c:Cs}{ts:Ts}{f ff fs f1 f2:Addr}{fd df ds d1 d2:FuncData}(F:Ab K "__init__" "Told.__init__" sI f fd)(T:eW mg)(B:QQ K mg ts f1 f2 d1 d2)(G1:zE P w K mg base aG 1 f1 d1 ["self", "land"] (rV K))
  (mf:mg "row_fits" = some (.ref ff)) (kf:keepIn K (.ref ff)=true) (bf:Binds K df ["land", "row"] []) (Gf:zE P w K mg base aG 4 ff df ["land", "row"] (sy c))
  (ms:mg "set_of" = some (.ref fs)) (ks:keepIn K (.ref fs)=true) (bs:Binds K ds ["numbers"] []) (Gs:zE P w K mg base aG 1 fs ds ["numbers"] (rW K)) :
  zE P w K mg base (eP P w) 5 f fd ["self", "land", "rows"] (rU P w K c ts):=by
 have Gn:zE P w K mg base aG 1 f2 d2 ["self", "row"] (qu K "row"):=Ln B.Fne
 refine F.Fb C1 (fun vs H Q E h=>?_) (fun cdv A outer s H vs Q E hr h=>?_)
 ·obtain⟨x,dx,lx,Ac,lt,p,n,zO,zS,ps,rs,rfl,_⟩:=h
  rfl
 ·obtain⟨x,dx,lx,Ac,lt,p,n,zO,zS,ps,rs,rfl,hx,hL,hp,hR,hlen,Di,VG,hE,hQ⟩:=h
  have Ax:zN 1 _:=hr.mono (by decide)
  have AB:zN 2 _:=hr.mono (by decide)
  have hu:=k9 hr
  refine⟨_,ae (aS (mj (eK (v := .ref ts.tab) rfl B.mt rfl) B.cm G1 Ax B.bt .nil aq (aa (pv 0) (aa (pv 1) ad))))
   (ae (aV (pv 0) (show PE _ _ (rM P w) from pE) rfl)
   (ah (b5 pG rfl (lX rfl T.enum (aa (pv 2) ad)) (dM rfl (aN (au (i:=3) C1.nd rfl (Or.inl rfl)) (aN (au (i:=4) C1.nd rfl (Or.inl rfl)) cy)))
    (ae (ay (i:=5) C1.nd rfl (Or.inl rfl) (bH (aa (aw aB (pv 4) aj (fun _ _=>rfl)) (aa (aw aB (pv 4) aj (fun _ _=>rfl)) (aa (aw aB (pv 4) aj (fun _ _=>rfl)) ad)))))
    (ae (aL (PW.pt (eR (bE (bu (az Gf hr rfl mf kf bf .nil aq (aa (pv 1) (aa (pv 4) ad))))) (dL (tq (yq hu (pv 5) (al (pv 0) rfl))))))
     (ah (b9 rfl B.VE aP (iP B.VE B.ine B.kne Gn AB B.bne rfl B.mne (aa (pv 3) ad)))) aA)
    (ah (pD hu (al (pv 0) rfl) (pv 5) (az Gs Ax rfl ms ks bs .nil aq (aa (aw aB (pv 4) aj (fun _ _=>rfl)) ad)) rfl))))))),?_⟩
  refine⟨rfl,_,rfl,_,rfl,x,ts.told,dx,_,rfl,hx,B.cd,B.Gq,?_⟩
  refine fun de Dh=>⟨_,rfl,x,ts.told,dx,[("land", .ref lx)],rfl,by rw[af (ag ac Dh)];exact ac,B.cd,B.Ox,by show 1 < 1000;decide,?_⟩
  have Fg:x ≠ de:=ag ac Dh
  have EF:H de=none:=by rw[af (Ne.symm Fg)]at Dh;exact Dh
  generalize E9:upd (upd (upd H x (.ins ts.told dx [("land", .ref lx)])) de (jM P w de [])) x (.ins ts.told dx (aK "entries" (.ref de) [("land", .ref lx)]))=H2
  have o2:Off x H H2:=fun b o hb e=>by rw[← E9,af hb,af (ag e EF),af hb];exact e
  have x2:H2 x=some (.ins ts.told dx [("land", .ref lx),("entries", .ref de)]):=by rw[← E9,ac];rfl
  have d2:Au P w H2 de []:=⟨by rw[← E9,af (Ne.symm Fg),ac],fun y hy=>by cases hy⟩
  have Lp:zS.length=rs.length:=Paired.length hR
  refine⟨_,rfl,p,rfl,⟨_,o2.sq hx hp⟩,mQ (sq:=fun H=>zJ K H p) (xs:=zS) (fun i σ H3=>∃ (a b k:Option V)(kvs:List dS),Off x H H3/\H3 x=some (.ins ts.told dx [("land", .ref lx),("entries", .ref de)])/\Au P w H3 de kvs/\kvs.length <= i /\
    (∀ k,bZ kvs k=(dZ (rs.take i) k).map sD)/\(∀ j,j < i->nu n ps (rs.take j) (rs.getD j ⟨0,0,none,[]⟩)=false)/\σ=[some (.ref x),some (.ref lx),some (.ref p),a,b,k])
   ⟨none,none,none,[],o2,x2,d2,Nat.le_refl _,fun k=>rfl,fun j hj=>absurd hj (not_lt_zero _),rfl⟩ (fun i σ H3 _ zH=>by obtain⟨_,_,_,_,o3,_⟩:=zH;exact o3.sq hx hp) ?_ ?_⟩
  ·rintro i v q σ H3 hv ⟨a,b,k,kvs,o3,x3,d3,l3,v3,g3,rfl⟩ hq
   obtain⟨r,hri,t,l,rfl,hT⟩:=D8.get hR hv
   have hi:i < rs.length:=(List.getElem?_eq_some_iff.mp hri).1
   have Oy:rs.getD i ⟨0,0,none,[]⟩ = r:=by rw[getD_eq_getElem?_getD,hri];rfl
   have Fi:Ii H3 t l r:=⟨o3 _ _ (aX hT.1 hx (by intro z;cases z)) hT.1,o3 _ _ (aX hT.2 hx (by intro z;cases z)) hT.2⟩
   have C2:=o3.land hx hL
   have s4:zD H3 (upd H3 q (.tup [.int i, .ref t])):=(zD.refl H3).new hq
   refine⟨q,_,rfl,zM.of ac,rfl,_,_,rfl,_,_,rfl,rfl,?_⟩
   generalize upd H3 q (.tup [.int i, .ref t])=H4 at s4 ⊢
   have QS:zM K H4 t [.int r.p, .int r.g,cV r.c, .ref l]:=zM.of (s4 _ _ Fi.1)
   refine⟨_,rfl,t,_,0,_,rfl,rfl,QS,ak (j:=0) rfl,_,rfl,t,_,1,_,rfl,rfl,QS,ak (j:=1) rfl,_,rfl,t,_,2,_,rfl,rfl,QS,ak (j:=2) rfl,by show 3 <= sizeLine;decide,fun kt QT=>?_⟩
   have s5:zD H3 (upd H4 kt (.tup [.int r.p, .int r.g,cV r.c])):=s4.new QT
   have k5:(upd H4 kt (.tup [.int r.p, .int r.g,cV r.c])) kt=some (.tup ((aY r).map rD)):=by rw[pU];exact ac
   generalize upd H4 kt (.tup [.int r.p, .int r.g,cV r.c])=H5 at s5 k5 ⊢
   refine⟨_,rfl,_,rfl,lx,Ac,lt,t,l,n,zO,ps,r,rfl,⟨s5 _ _ C2.1,s5 _ _ C2.2.1,zX.same s5 C2.2.2⟩,Fi.same s5,Di,(VG r (mem_of_getElem? hri)).2,fun H6 VH=>⟨_,rfl,?_⟩⟩
   have s6:=s5.trans VH
   have k6:=VH _ _ k5
   have x6:=s6 _ _ x3
   have d6:=d3.same s6
   have GI:nu n ps (rs.take i) r=true->∀ e tt,H6 e=none->∀ d,upd H6 e (bK e ts.ne tt none) d=none ->
     ∃ dd,(upd (upd (upd H6 e (bK e ts.ne tt none)) d (.xd [("row", .int i)])) e (bK e ts.ne tt (some d))) e=some (bK e ts.ne tt dd)/\E (.ref ts.ne) dd (uL (upd (upd (upd H6 e (bK e ts.ne tt none)) d (.xd [("row", .int i)])) e (bK e ts.ne tt (some d))) e):=by
    intro hb e tt he d hd
    obtain⟨m1,m2,m3⟩:=i3 (o:=bK e ts.ne tt none) (o':=bK e ts.ne tt (some d)) (x := .xd [("row", .int i)]) he hd
    exact⟨some d,m3,hE i (jP hi g3 (by rw[Oy];exact hb)) _ d (o3.same (s6.trans m1)) m2⟩
   cases hf:fits n ps r with
   | false =>
    refine aH (aH ⟨_,rfl,by show 1 <= sizeLine;decide,fun e tt he=>⟨e,_,tt,_,rfl,ac,B.En,B.VF,fun d hd=>⟨rfl,?_⟩⟩⟩)
    exact GI (by rw[im,hf];rfl) e tt he d hd
   | true =>
    refine aD ⟨_,rfl,_,rfl,x,ts.told,dx,_,_,rfl,x6,B.cd,B.Ox,rfl,de,_,rfl,⟨kvs,aY r,kt,d6,rfl,k6,rfl⟩,_,rfl,?_⟩
    have eS:(bZ kvs (aY r)).isSome=(rs.take i).any fun a=>decide (aY a=aY r):=by rw[v3,Option.isSome_map,lp]
    cases hS:(bZ kvs (aY r)).isSome with
    | true =>
     refine aH ⟨_,rfl,by show 1 <= sizeLine;decide,fun e tt he=>⟨e,_,tt,_,rfl,ac,B.En,B.VF,fun d hd=>⟨rfl,?_⟩⟩⟩
     exact GI (by rw[im,hf,← eS,hS];rfl) e tt he d hd
    | false =>
     refine aD ?_
     have VI:=Fi.same s6
     refine⟨_,rfl,t,_,3,_,rfl,rfl,zM.of VI.1,ak (j:=3) rfl,l,r.s,rfl,zJ.of VI.2,(VG r (mem_of_getElem? hri)).1,?_⟩
     refine⟨_,rfl,x,ts.told,dx,_,_,rfl,x6,B.cd,B.Ox,rfl,_,rfl,de,kvs,aY r,kt,rfl,d6,rfl,k6,by rw[sizeLine_eq];omega,?_⟩
     have hx6:x ≠ de:=Fg
     refine⟨_,_,_,fu kvs (aY r) kt (sD r),fun b' o hb e=>?_,?_,⟨ac,jW (F:=fun k a=>(upd H6 de (jM P w de (fu kvs (aY r) kt (sD r)))) a=some (.tup (k.map rD))) (fun y hy=>?_) ?_⟩,?_,fun k'=>?_,fun j hj=>?_,rfl⟩
     ·rw[af (ag e EF)];exact s6 _ _ (o3 _ _ hb e)
     ·rw[af Fg];exact x6
     ·rw[af (aX (d6.2 y hy) d6.1 (by intro z;cases z))];exact d6.2 y hy
     ·rw[af (aX k6 d6.1 (by intro z;cases z))];exact k6
     ·exact le_trans fq (Nat.succ_le_succ l3)
     ·rw[gP,take_succ,hri,Option.toList_some,oE,v3]
      by_cases hk:k' = aY r
      ·rw[if_pos hk,if_pos hk];rfl
      ·rw[if_neg hk,if_neg hk]
     ·rcases lt_or_ge j i with h | h
      ·exact g3 j h
      ·have:j=i:=by omega
       subst this
       rw[Oy,im,hf,← eS,hS];rfl
  ·rintro σ H3 ⟨a,b,k,kvs,o3,x3,d3,l3,v3,g3,rfl⟩
   rw[Lp]at g3 v3
   rw[take_length]at v3
   exact hQ (gk g3) H3 de kvs o3 x3 d3 v3
noncomputable def nV (ps:List Nat):List V:=ps.map fun q:Nat=>V.int (q:Int)
theorem dv (ps:List Nat):(nV ps).length=ps.length:=by simp[nV]
theorem j1 {ps:List Nat}{k q:Nat}(h:ps[k]? = some q):(nV ps)[k]? = some (V.int (q:Int)):=by simp[nV,h]
theorem uj (a b:List Nat):nV (a ++ b)=nV a ++ nV b:=by unfold nV;rw[map_append]
theorem uh {ps:List Nat}{v:V}(h:v ∈ nV ps):∃ q:Nat,q ∈ ps/\v = .int (q:Int):=by
 obtain⟨q,hq,e⟩:=mem_map.mp h
 exact⟨q,hq,e.symm⟩
noncomputable def nQ (c:Cs)(sel:Int × Int->Int):Sp:=fun vs H Q _=>∃ (x dx t:Addr)(n:Int)(zO:List V)(ps:List (Int × Int))(k:Nat)(pr:Int × Int),vs=[.ref x, .int k]/\cx H c x dx t n zO ps/\ps[k]? = some pr/\Q (.int (sel pr)) H
structure wV (K:Frag)(c:Cs)(f:Addr)(d:FuncData):Prop where
 m:bD K c.land "end_of" f
 b:Binds K d ["self", "lane"] []
theorem bP (a b:Int):decide (V.int a=V.int b)=decide (a=b):=by
 by_cases h:a=b
 ·rw[h];simp
 ·rw[decide_eq_false h,decide_eq_false fun z=>h (by injection z)]
theorem iU {n i:Nat}(h:i < n):w8 n (i:Int)=some i:=by
 unfold w8
 rw[if_pos (by omega),if_pos (by omega),toNat_natCast]
noncomputable def mN (m:Nat):List Nat:=Yd.D1 m (Builtin.Int.intBits (m:Int))
theorem ui:∀ {a b:List Nat},nV a=nV b->a=b
 | [],[],_=>rfl
 | [],_ :: _,h=>by cases h
 | _ :: _,[],h=>by cases h
 | x :: a,y :: b,h=>by
  unfold nV at h
  rw[map_cons,map_cons]at h
  injection h with h1 h2
  injection h1 with h1
  rw[ui (a:=a) (b:=b) h2,show x=y by omega]
theorem Lq:am ["self", "lane"] ["self", "lane"] (ai yi):=L2.Ad
theorem yM {c:Cs}{f:Addr}{fd:FuncData}(F:Ab K "end_of" "Land.end_of" yi f fd)(L:lC K c):zE P w K mg base aG 1 f fd ["self", "lane"] (nQ c Prod.snd):=by
 refine F.ok Lq (fun vs H Q E h=>?_) (fun cdv A outer s H vs Q E hr h=>?_)
 ·obtain⟨x,dx,t,n,zO,ps,k,pr,rfl,_⟩:=h
  rfl
 ·obtain⟨x,dx,t,n,zO,ps,k,pr,rfl,⟨hx,ht,hl⟩,hk,q⟩:=h
  refine⟨_,ah (ar (aw aB (aw aB (al (pv 0) rfl) (pv 1) (fun _ _=>rfl)) aj (fun _ _=>rfl))),?_⟩
  obtain⟨v,hv,u,rfl,hu⟩:=zX.FC hl hk
  refine⟨_,rfl,x,c.land,dx,_,_,rfl,hx,L.cl,L.nl,rfl,_,rfl,t,_,_,_,rfl,rfl,zM.of ht,ak hv,u,_,1,_,rfl,rfl,zM.of hu,ak (j:=1) rfl,q⟩
noncomputable def isI:V->Bool
 | .int _=>true
 | _=>false
noncomputable def jZ:V->Int->Int->Bool
 | .int i,a,b=>decide (a <= i/\i <= b)
 | _,_,_=>false
inductive rB:V->Prop
 | int (i:Int):rB (.int i)
 | bl (b:Bool):rB (.bl b)
 | zT:rB .zT
structure uX (K:Frag):Prop where
 ii:kitOne K (.type "int") (.type "int")=some true
 ib:kitOne K (.type "int") (.type "bool")=some false
 bi:kitOne K (.type "bool") (.type "int")=some true
 bb:kitOne K (.type "bool") (.type "bool")=some true
 ni:kitOne K (.type "NoneType") (.type "int")=some false
noncomputable def gQ:Sp:=fun vs H Q _=>∃ v,vs=[v]/\rB v/\Q (.bl (isI v)) H
noncomputable def fO:Sp:=fun vs H Q _=>∃ (v:V)(a b:Int),vs=[v, .int a, .int b]/\rB v/\Q (.bl (jZ v a b)) H
noncomputable def nP (K:Frag):Sp:=fun vs H Q _=>∃ (a:Addr)(ns:List Int)(k:Nat),vs=[.ref a, .int k]/\zJ K H a (ns.map V.int)/\∀ d,Q (.int d) H
noncomputable def lJ:Sp:=fun vs H Q _=>∃ (c:Int)(k:Nat),vs=[.int c, .int k]/\k <= 1000000/\∀ d:Int,0 <= d->Q (.int d) H
theorem zX.imp {H H':Hp}(h:∀ v p,wU H v p->wU H' v p):∀ {vs:List V}{ps:List (Int × Int)},zX H vs ps->zX H' vs ps:=fun zH=>by
 induction zH with
 | nil=>exact .nil
 | cons z r ih=>exact .cons (h _ _ z) ih
noncomputable def hV:Option Int->V
 | none => .zT
 | some z => .int z
abbrev Fs:=List (Str × V)
noncomputable def iD (r b:Int)(h:V)(pa:Addr):Fs:=[("rights", .int r),("returning", .int b),("holder",h),("pieces", .ref pa)]
structure zW (H:Hp)(C x dx pa:Addr)(r b:Int)(h:Option Int)(zU:List V)(qs:List (Int × Int)):Prop where
 ins:H x=some (.ins C dx (iD r b (hV h) pa))
 lst:H pa=some (.lst zU)
 AO:zX H zU qs
noncomputable def AW (x pa:Addr)(H H':Hp):Prop:=∀ a o,a ≠ x->a ≠ pa->H a=some o->H' a=some o
theorem AW.D6 {C x dx pa:Addr}{fs:Fs}{zU:List V}{H H':Hp}(h:AW x pa H H')(hx:H x=some (.ins C dx fs))(hp:H pa=some (.lst zU)){vs:List V}{qs:List (Int × Int)}:zX H vs qs->zX H' vs qs :=
 zX.imp fun _ _ zH=>by obtain⟨t,e,q⟩:=zH;exact⟨t,e,h _ _ (aX q hx (by intro z;cases z)) (aX q hp (by intro z;cases z)) q⟩
theorem zW.same {H H':Hp}{C x dx pa:Addr}{r b:Int}{h:Option Int}{zU:List V}{qs:List (Int × Int)}(L:zW H C x dx pa r b h zU qs)(s:zD H H'):zW H' C x dx pa r b h zU qs:=⟨s _ _ L.ins,s _ _ L.lst,zX.same s L.AO⟩
noncomputable def cf (r:Int)(h:Option Int)(l c:Int):Bool:=if r=0 then false else if c=0 then decide (h=none) else decide (h=some l)
theorem zd (h:Option Int):decide (hV h=V.zT)=decide (h=none):=by cases h<;>rfl
theorem ze (h:Option Int)(l:Int):decide (hV h=V.int l)=decide (h=some l):=by
 cases h with
 | none=>rfl
 | some z =>
  show decide (V.int z=V.int l)=_
  rw[bP]
  by_cases e:z=l
  ·rw[decide_eq_true e,decide_eq_true (by rw[e])]
  ·rw[decide_eq_false e,decide_eq_false fun q=>e (Option.some.inj q)]
theorem wB (h:Option Int)(l:Int):xK (hV h) (.int l)=true:=by cases h<;>rfl
structure wT (K:Frag)(C:Addr):Prop where
 cl:Cg K C
 n1:zP K C "rights"
 n2:zP K C "returning"
 n3:zP K C "holder"
 n4:zP K C "pieces"
structure Lr (K:Frag)(mg:Str->Option Value)(nm:Addr):Prop where
 m:mg "NoMove" = some (.ref nm)
 x:bz K nm none=true
 k:keepIn K (.ref nm)=true
 e:PySem.W.exmOne K (.ref nm) (.ref nm)=some true
noncomputable def sk (C:Addr):Sp:=fun vs H Q _=>∃ (x dx:Addr)(room:Int),vs=[.ref x, .int room]/\H x=some (.ins C dx [])/\∀ (pa:Addr)(H':Hp),H pa=none->(∀ a o,a ≠ x->H a=some o->H' a=some o)->zW H' C x dx pa room 0 none [] []->Q .zT H'
noncomputable def kQ (C:Addr):Sp:=fun vs H Q _=>∃ (x dx pa:Addr)(r b:Int)(h:Option Int)(l c:Int),vs=[.ref x, .int l, .int c]/\H x=some (.ins C dx (iD r b (hV h) pa))/\Q (.bl (cf r h l c)) H
noncomputable def xb (C nm:Addr):Sp:=fun vs H Q E=>∃ (x dx pa:Addr)(r b:Int)(h:Option Int)(zU:List V)(qs:List (Int × Int))(l c:Int)(last:Bool),vs=[.ref x, .int l, .int c, .bl last]/\zW H C x dx pa r b h zU qs/\zU.length < 100000 /\
 (cf r h l c=false->∀ H',zD H H'->E (.ref nm) none H') /\
 (cf r h l c=true->∀ (t:Addr)(H':Hp),AW x pa H H'->zW H' C x dx pa (r - 1) b (if last then none else some l) (zU ++ [.ref t]) (qs ++ [(l,c)])->Q .zT H')
noncomputable def oK:List V->V
 | [] => .zT
 | v :: _=>v
noncomputable def iL (C:Addr):Sp:=fun vs H Q _=>∃ (x dx pa:Addr)(r b:Int)(h:Option Int)(zU:List V)(qs:List (Int × Int)),vs=[.ref x]/\zW H C x dx pa r b h zU qs/\Q (oK zU) H
noncomputable def nK (C nm:Addr):Sp:=fun vs H Q E=>∃ (x dx pa:Addr)(r b:Int)(h:Option Int)(zU:List V)(qs:List (Int × Int)),vs=[.ref x]/\zW H C x dx pa r b h zU qs /\
 (zU=[]->∀ H',zD H H'->E (.ref nm) none H') /\
 (∀ v rest,zU=v :: rest->∀ H':Hp,AW x pa H H'->zW H' C x dx pa r (b + 1) h rest qs.tail->Q v H')
noncomputable def p7 (C nm:Addr):Sp:=fun vs H Q E=>∃ (x dx pa:Addr)(r b:Int)(h:Option Int)(zU:List V)(qs:List (Int × Int)),vs=[.ref x]/\zW H C x dx pa r b h zU qs /\
 (b=0->∀ H',zD H H'->E (.ref nm) none H') /\
 (b ≠ 0->∀ H':Hp,AW x pa H H'->zW H' C x dx pa (r + 1) (b - 1) h zU qs->Q .zT H')
noncomputable def xi (C:Addr):Sp:=fun vs H Q _=>∃ (x dx pa:Addr)(r b:Int)(h:Option Int)(zU:List V)(qs:List (Int × Int)),vs=[.ref x]/\zW H C x dx pa r b h zU qs /\
 ∀ (t ql:Addr)(H':Hp),zD H H'->H ql=none->H' t=some (.tup [.int r, .int b,hV h, .ref ql])->H' ql=some (.lst zU)->Q (.ref t) H'
theorem QU (n:Nat):seqIndex? 0 (n + 1)=some 0:=by
 unfold seqIndex?
 simp
theorem kd {f:Addr}{fd:FuncData}(F:Ab K "is_whole" "is_whole" gA f fd)(T:eW mg)(Z:uX K):zE P w K mg base aG 1 f fd ["value"] gQ:=by
 refine F.ok pB (fun vs H Q E h=>?_) (fun cdv A outer s H vs Q E hr h=>?_)
 ·obtain⟨m,rfl,_⟩:=h
  rfl
 ·obtain⟨v,rfl,hv,q⟩:=h
  refine⟨_,ah (ar (c8 (ax il rfl T.Jn PyProof.Rows.boot_isinstance (aa (pv 0) (aa (fQ (v := .ty "int") rfl T.int PySem.Pv.boot_int rfl) ad)))
   (c7 (tE (ax il rfl T.Jn PyProof.Rows.boot_isinstance (aa (pv 0) (aa (fQ (v := .ty "bool") rfl T.bool PySem.Pv.boot_bool rfl) ad))))))),?_⟩
  cases hv with
  | int i=>exact⟨_,rfl, .int i,_, "int",true,rfl, .int i,Z.ii,true,rfl,aH ⟨_,rfl, .int i,_, "bool",false,rfl, .int i,Z.ib,false,rfl,q⟩⟩
  | bl b=>exact⟨_,rfl, .bl b,_, "int",true,rfl, .bl b,Z.bi,true,rfl,aH ⟨_,rfl, .bl b,_, "bool",true,rfl, .bl b,Z.bb,true,rfl,q⟩⟩
  | zT=>exact⟨_,rfl, .zT,_, "int",false,rfl, .zT,Z.ni,false,rfl,aD q⟩
theorem ow {f fh:Addr}{fd CA:FuncData}(F:Ab K "is_within" "is_within" iN f fd)(T:eW mg)(Z:uX K)(mh:mg "is_whole" = some (.ref fh))(Fh:Ab K "is_whole" "is_whole" gA fh CA)(bh:Binds K CA ["value"] []) :
  zE P w K mg base aG 2 f fd ["value", "least", "most"] fO:=by
 have G:zE P w K mg base aG 1 fh CA ["value"] gQ:=kd Fh T Z
 refine F.ok lM (fun vs H Q E h=>?_) (fun cdv A outer s H vs Q E hr h=>?_)
 ·obtain⟨i,a,b,rfl,_⟩:=h
  rfl
 ·obtain⟨v,a,b,rfl,hv,q⟩:=h
  refine⟨_,ah (ar (c8 (az G hr rfl mh Fh.kp bh .nil aq (aa (pv 0) ad)) (c7 (mq pI pI (pv 1) (pv 0) (pv 2))))),?_⟩
  cases hv with
  | bl x=>exact⟨_,rfl,_,rfl, .bl x,false,rfl,aD q⟩
  | zT=>exact⟨_,rfl,_,rfl, .zT,false,rfl,aD q⟩
  | int i =>
   refine⟨_,rfl,_,rfl, .int i,true,rfl,aH ?_⟩
   refine⟨_,rfl,_,rfl,_,_,rfl,rfl,_,rfl,?_⟩
   have q:Q (V.bl (decide (a <= i/\i <= b))) H:=q
   by_cases h1:a <= i
   ·rw[decide_eq_true h1]
    refine aH ⟨_,rfl,_,_,rfl,rfl,?_⟩
    show Q (V.bl (decide (i <= b))) H
    by_cases h2:i <= b
    ·rw[decide_eq_true h2];rw[decide_eq_true ⟨h1,h2⟩]at q;exact q
    ·rw[decide_eq_false h2];rw[decide_eq_false fun z=>h2 z.2]at q;exact q
   ·rw[decide_eq_false h1]
    refine aD ?_
    rw[decide_eq_false fun z=>h1 z.1]at q;exact q
theorem xQ:am ["_law_script", "_law_k"] ["_law_script", "_law_k"] (ai sV):=L2.Ad
theorem wj {f:Addr}{fd:FuncData}(F:Ab K "_law_cell_at" "_law_cell_at" sV f fd)(T:eW mg):zE P w K mg base aG 1 f fd ["_law_script", "_law_k"] (nP K):=by
 refine F.ok xQ (fun vs H Q E h=>?_) (fun cdv A outer s H vs Q E hr h=>?_)
 ·obtain⟨a,ns,k,rfl,_⟩:=h
  rfl
 ·obtain⟨a,ns,k,rfl,hS,q⟩:=h
  refine⟨_,ae (aL (ap hU (pv 1) (ax ao rfl T.len PySem.boot_len (aa (pv 0) ad)) (av _))
    (ah (ar (aw aI (pv 0) (pv 1) (fun _ _=>rfl)))) aA) (ah (ar aj)),?_⟩
  refine⟨_,rfl,_,rfl,a,_,rfl, .inl hS,_,_,rfl,rfl,_,rfl,?_⟩
  refine Qq (fun h=>?_) fun _=>q _
  have h':(k:Int) < ((ns.map V.int).length:Nat):=of_decide_eq_true h
  rw[length_map]at h'
  have hk:k < ns.length:=by omega
  exact⟨_,rfl,_,rfl,a,_,k,V.int ns[k],rfl,rfl,hS,ak (by simp[hk]),q _⟩
theorem GJ:am ["_law_cell", "_law_k", "_law_number"] ["_law_cell", "_law_k"] (ai ya):=L2.Ad
theorem yB {f:Addr}{fd:FuncData}(F:Ab K "_law_mixed" "_law_mixed" ya f fd):zE P w K mg base aG 1 f fd ["_law_cell", "_law_k"] lJ:=by
 refine F.ok GJ (fun vs H Q E h=>?_) (fun cdv A outer s H vs Q E hr h=>?_)
 ·obtain⟨c,k,rfl,_⟩:=h
  rfl
 ·obtain⟨c,k,rfl,hk,q⟩:=h
  refine⟨_,ae (ay (i:=2) GJ.nd rfl (Or.inl rfl) (aE bR (aE jx (aE bB (aE bB (aE bR (pv 0) aj) (aE jx aj (pv 1))) aj) aj) aj))
   (ah (ar (aE bR (aE jx (pv 2) (aE bB (aE dJ (pv 2) aj) aj)) aj))),?_⟩
  have pos:(0:Int) < 2147483647:=by decide
  refine⟨_,rfl,_,_,rfl,rfl,pos,_,rfl,_,_,rfl,rfl, .inl ⟨by decide,by decide⟩,_,_,rfl,rfl,_,_,rfl,rfl,_,_,rfl,rfl, .inr ⟨by decide,by decide⟩,_,_,rfl,rfl,pos,?_⟩
  dsimp only
  have h1:=emod_nonneg ((c % 2147483647 + 7919 * (k:Int) + 1) * 48271) (show (2147483647:Int) ≠ 0 by decide)
  have h2:=emod_lt_of_pos ((c % 2147483647 + 7919 * (k:Int) + 1) * 48271) pos
  generalize (c % 2147483647 + 7919 * (k:Int) + 1) * 48271 % 2147483647=m at h1 h2
  refine⟨_,rfl,_,rfl,_,_,rfl,rfl,⟨by decide,by decide⟩,_,_,rfl,rfl,_,_,rfl,rfl, .inl ⟨by omega,by omega⟩,_,_,rfl,rfl,pos,?_⟩
  exact q _ (emod_nonneg _ (by decide))
theorem Ls:am ["self", "room"] ["self", "room"] (ai yd):=L2.Ad
theorem yH {C f:Addr}{fd:FuncData}(F:Ab K "__init__" "Lane.__init__" yd f fd)(L:wT K C):zE P w K mg base aG 1 f fd ["self", "room"] (sk C):=by
 refine F.ok Ls (fun vs H Q E h=>?_) (fun cdv A outer s H vs Q E hr h=>?_)
 ·obtain⟨x,dx,room,rfl,_⟩:=h
  rfl
 ·obtain⟨x,dx,room,rfl,hx,q⟩:=h
  refine⟨_,ae (aV (pv 0) (pv 1) rfl) (ae (aV (pv 0) aj rfl) (ae (aV (pv 0) bV rfl) (ah (aV (pv 0) (aO ad) rfl)))),?_⟩
  refine⟨_,rfl,_,rfl,x,C,dx,_,rfl,hx,L.cl,L.n1,by show 0 < 1000;decide,?_⟩
  refine⟨_,rfl,x,C,dx,_,rfl,ac,L.cl,L.n2,by show 1 < 1000;decide,?_⟩
  refine⟨_,rfl,x,C,dx,_,rfl,ac,L.cl,L.n3,by show 2 < 1000;decide,?_⟩
  refine⟨zero_le _,fun pa Ec=>?_⟩
  have CU:x ≠ pa:=ag ac Ec
  refine⟨_,rfl,x,C,dx,_,rfl,by rw[af CU];exact ac,L.cl,L.n4,by show 3 < 1000;decide,?_⟩
  have FD:H pa=none:=by
   rw[af (Ne.symm CU),af (Ne.symm CU),af (Ne.symm CU)]at Ec
   exact Ec
  refine q pa _ FD (fun a o ha e=>?_) ⟨ac,by rw[af (Ne.symm CU)];exact ac, .nil⟩
  have nap:a ≠ pa:=fun z=>by
   rw[z,FD]at e
   cases e
  rw[af ha,af nap,af ha,af ha,af ha]
  exact e
theorem xO:am ["self", "letter", "count"] ["self", "letter", "count"] (ai sN):=L2.Ad
theorem vV {C f:Addr}{fd:FuncData}(F:Ab K "open_to" "Lane.open_to" sN f fd)(L:wT K C):zE P w K mg base aG 1 f fd ["self", "letter", "count"] (kQ C):=by
 refine F.ok xO (fun vs H Q E h=>?_) (fun cdv A outer s H vs Q E hr h=>?_)
 ·obtain⟨x,dx,pa,r,b,h,l,c,rfl,_⟩:=h
  rfl
 ·obtain⟨x,dx,pa,r,b,h,l,c,rfl,hx,q⟩:=h
  refine⟨_,ae (aL (ap aZ (al (pv 0) rfl) aj (av _)) (ah (ar ge)) aA)
   (ae (aL (ap aZ (pv 2) aj (av _)) (ah (ar (bO jy (al (pv 0) rfl) bV (av _)))) aA)
   (ah (ar (bO aZ (al (pv 0) rfl) (pv 1) (av _))))),?_⟩
  refine⟨_,rfl,x,C,dx,_,_,rfl,hx,L.cl,L.n1,rfl,rfl,_,rfl,?_⟩
  rw[bP]
  unfold cf at q
  by_cases Lu:r=0
  ·rw[decide_eq_true Lu]
   rw[if_pos Lu]at q
   exact aH q
  rw[decide_eq_false Lu]
  rw[if_neg Lu]at q
  refine aD ⟨_,rfl,rfl,_,rfl,?_⟩
  rw[bP]
  by_cases AI:c=0
  ·rw[decide_eq_true AI]
   rw[if_pos AI]at q
   refine aH ⟨_,rfl,x,C,dx,_,_,rfl,hx,L.cl,L.n3,rfl,rfl,?_⟩
   rw[zd]
   exact q
  ·rw[decide_eq_false AI]
   rw[if_neg AI]at q
   refine aD ⟨_,rfl,x,C,dx,_,_,rfl,hx,L.cl,L.n3,rfl,_,rfl,wB h l,?_⟩
   rw[ze]
   exact q
theorem Lv:am ["self", "letter", "count", "last"] ["self", "letter", "count", "last"] (ai xX):=L2.Ad
theorem y8 {C f nm fo:Addr}{fd CB:FuncData}(F:Ab K "put" "Lane.put" xX f fd)(L:wT K C)(Ex:Lr K mg nm)(mo:bD K C "open_to" fo)(bo:Binds K CB ["self", "letter", "count"] [])(Go:zE P w K mg base aG 1 fo CB ["self", "letter", "count"] (kQ C)) :
  zE P w K mg base (eP P w) 2 f fd ["self", "letter", "count", "last"] (xb C nm):=by
 refine F.Fb Lv (fun vs H Q E h=>?_) (fun cdv A outer s H vs Q E hr h=>?_)
 ·obtain⟨x,dx,pa,r,b,h,zU,qs,l,c,last,rfl,_⟩:=h
  rfl
 ·obtain⟨x,dx,pa,r,b,h,zU,qs,l,c,last,rfl,hL,hlen,h1,h2⟩:=h
  refine⟨_,ae (aL (bE (bu (aC (pv 0) L.cl mo Go hr bo .nil aq (aa (pv 1) (aa (pv 2) ad))))) (ah (b9 rfl Ex.x aP (ca Ex.x Ex.k rfl rfl Ex.m (aa bv ad)))) aA)
   (ae (dY (pv 0) aj pZ)
   (ae (aS (cr plainAttrs_list PySem.F.slot_list_append PySem.F.type_list_append bG (al (pv 0) rfl) (aa (bH (aa (pv 1) (aa (pv 2) ad))) ad)))
   (ah (aV (pv 0) (dj (bu (pv 3)) bV (pv 1)) rfl)))),?_⟩
  refine⟨_,rfl,x,dx,_,rfl,hL.ins,rfl,_,rfl,_,rfl,x,dx,pa,r,b,h,l,c,rfl,hL.ins,_,rfl,?_⟩
  cases ho:cf r h l c with
  | false =>
   refine aH ⟨by show 1 <= sizeLine;decide,?_⟩
   exact h1 ho H (zD.refl H)
  | true =>
   refine aD ?_
   refine⟨_,rfl,x,C,dx,_,_,rfl,hL.ins,L.cl,L.n1,rfl,_,_,rfl,rfl,dx,_,hL.ins,by show 4 < 1000;decide,?_⟩
   have CU:pa ≠ x:=aX hL.lst hL.ins (by intro z;cases z)
   have Bn:(upd H x (.ins C dx (aK "rights" (.int (r - 1)) (iD r b (hV h) pa)))) x=some (.ins C dx (iD (r - 1) b (hV h) pa)):=ac
   have Ag:(upd H x (.ins C dx (aK "rights" (.int (r - 1)) (iD r b (hV h) pa)))) pa=some (.lst zU):=by rw[af CU];exact hL.lst
   have o1:AW x pa H (upd H x (.ins C dx (aK "rights" (.int (r - 1)) (iD r b (hV h) pa)))):=fun a o ha _ e=>by rw[af ha];exact e
   show _
   generalize upd H x (.ins C dx (aK "rights" (.int (r - 1)) (iD r b (hV h) pa)))=H1 at Bn Ag o1 ⊢
   refine⟨_,rfl,x,C,dx,_,_,rfl,Bn,L.cl,L.n4,rfl, .inl ⟨rfl,_,zJ.of Ag⟩,_,rfl,_,rfl,by show 2 <= sizeLine;decide,fun t ht=>?_⟩
   have s2:=(zD.refl H1).new (o := .tup [.int l, .int c]) ht
   have gt:(upd H1 t (.tup [.int l, .int c])) t=some (.tup [.int l, .int c]):=ac
   generalize upd H1 t (.tup [.int l, .int c])=H2 at s2 gt ⊢
   refine⟨pa,zU,_,rfl,rfl,s2 _ _ Ag,by rw[sizeLine_eq];omega,?_⟩
   have Oz:(upd H2 pa (.lst (zU ++ [.ref t]))) x=some (.ins C dx (iD (r - 1) b (hV h) pa)):=by rw[af (Ne.symm CU)];exact s2 _ _ Bn
   have Jo:(upd H2 pa (.lst (zU ++ [.ref t]))) pa=some (.lst (zU ++ [.ref t])):=ac
   have o3:AW x pa H (upd H2 pa (.lst (zU ++ [.ref t]))):=fun a o ha hb e=>by rw[af hb];exact s2 _ _ (o1 a o ha hb e)
   have ntp:t ≠ pa:=aX gt (s2 _ _ Ag) (by intro z;cases z)
   have QV:(upd H2 pa (.lst (zU ++ [.ref t]))) t=some (.tup [.int l, .int c]):=by rw[af ntp];exact gt
   generalize upd H2 pa (.lst (zU ++ [.ref t]))=H3 at Oz Jo o3 QV ⊢
   have ntx:t ≠ x:=aX QV Oz (by intro z;cases z)
   have fin:∀ h':Option Int,zW (upd H3 x (.ins C dx (aK "holder" (hV h') (iD (r - 1) b (hV h) pa)))) C x dx pa (r - 1) b h' (zU ++ [.ref t]) (qs ++ [(l,c)]):=fun h' =>
    ⟨ac,by rw[af CU];exact Jo,zX.snoc ⟨t,rfl,by rw[af ntx];exact QV⟩ (AW.D6 (fun a o ha hb e=>by rw[af ha];exact o3 a o ha hb e) hL.ins hL.lst hL.AO)⟩
   have off:∀ o',AW x pa H (upd H3 x o'):=fun o' a o ha hb e=>by rw[af ha];exact o3 a o ha hb e
   refine⟨_,rfl,_,rfl,?_⟩
   cases last with
   | true=>exact aH ⟨_,rfl,x,C,dx,_,rfl,Oz,L.cl,L.n3,by show 4 < 1000;decide,h2 ho t _ (off _) (fin none)⟩
   | false=>exact aD ⟨_,rfl,_,rfl,x,C,dx,_,rfl,Oz,L.cl,L.n3,by show 4 < 1000;decide,h2 ho t _ (off _) (fin (some l))⟩
theorem vt:am ["self"] ["self"] (ai oi):=L2.Ad
theorem tY {C f:Addr}{fd:FuncData}(F:Ab K "front" "Lane.front" oi f fd)(L:wT K C):zE P w K mg base aG 1 f fd ["self"] (iL C):=by
 refine F.ok vt (fun vs H Q E h=>?_) (fun cdv A outer s H vs Q E hr h=>?_)
 ·obtain⟨x,dx,pa,r,b,h,zU,qs,rfl,_⟩:=h
  rfl
 ·obtain⟨x,dx,pa,r,b,h,zU,qs,rfl,hL,q⟩:=h
  refine⟨_,ah (ar (dj (jv (al (pv 0) rfl) (fun _=>rfl)) (aw aI (al (pv 0) rfl) aj (fun _ _=>rfl)) bV)),?_⟩
  refine⟨_,rfl,x,C,dx,_,_,rfl,hL.ins,L.cl,L.n4,rfl,_, .inl ⟨_,zJ.of hL.lst,rfl⟩,?_⟩
  cases zU with
  | nil=>exact aD q
  | cons v rest=>exact aH ⟨_,rfl,x,C,dx,_,_,rfl,hL.ins,L.cl,L.n4,rfl,pa,_,0,v,rfl,rfl,zJ.of hL.lst,ak (j:=0) rfl,q⟩
theorem xL:am ["self"] ["self"] (ai sJ):=L2.Ad
theorem vR {C f nm:Addr}{fd:FuncData}(F:Ab K "pull" "Lane.pull" sJ f fd)(L:wT K C)(Ex:Lr K mg nm):zE P w K mg base (eP P w) 1 f fd ["self"] (nK C nm):=by
 refine F.Fb xL (fun vs H Q E h=>?_) (fun cdv A outer s H vs Q E hr h=>?_)
 ·obtain⟨x,dx,pa,r,b,h,zU,qs,rfl,_⟩:=h
  rfl
 ·obtain⟨x,dx,pa,r,b,h,zU,qs,rfl,hL,h1,h2⟩:=h
  refine⟨_,ae (aL (bE (jv (al (pv 0) rfl) (fun _=>rfl))) (ah (b9 rfl Ex.x aP (ca Ex.x Ex.k rfl rfl Ex.m (aa bv ad)))) aA)
   (ae (dY (pv 0) aj lq)
   (ah (ar (cr plainAttrs_list PySem.F.slot_list_pop PySem.F.type_list_pop ul (al (pv 0) rfl) (aa aj ad))))),?_⟩
  refine⟨_,rfl,x,C,dx,_,_,rfl,hL.ins,L.cl,L.n4,rfl,_, .inl ⟨_,zJ.of hL.lst,rfl⟩,?_⟩
  have CU:pa ≠ x:=aX hL.lst hL.ins (by intro z;cases z)
  cases zU with
  | nil =>
   refine aH ⟨by show 1 <= sizeLine;decide,?_⟩
   exact h1 rfl H (zD.refl H)
  | cons v rest =>
   refine aD ?_
   refine⟨_,rfl,x,C,dx,_,_,rfl,hL.ins,L.cl,L.n2,rfl,_,_,rfl,rfl,dx,_,hL.ins,by show 4 < 1000;decide,?_⟩
   have Bn:(upd H x (.ins C dx (aK "returning" (.int (b + 1)) (iD r b (hV h) pa)))) x=some (.ins C dx (iD r (b + 1) (hV h) pa)):=ac
   have Ag:(upd H x (.ins C dx (aK "returning" (.int (b + 1)) (iD r b (hV h) pa)))) pa=some (.lst (v :: rest)):=by rw[af CU];exact hL.lst
   have o1:AW x pa H (upd H x (.ins C dx (aK "returning" (.int (b + 1)) (iD r b (hV h) pa)))):=fun a o ha _ e=>by rw[af ha];exact e
   show _
   generalize upd H x (.ins C dx (aK "returning" (.int (b + 1)) (iD r b (hV h) pa)))=H1 at Bn Ag o1 ⊢
   refine⟨_,rfl,x,C,dx,_,_,rfl,Bn,L.cl,L.n4,rfl, .inl ⟨rfl,_,zJ.of Ag⟩,pa,v :: rest,0,0,v,rfl,rfl,Ag,by decide,by decide,QU _,rfl,?_⟩
   have o2:AW x pa H (upd H1 pa (.lst rest)):=fun a o ha hb e=>by rw[af hb];exact o1 a o ha hb e
   refine h2 v rest rfl _ o2 ⟨by rw[af (Ne.symm CU)];exact Bn,ac,?_⟩
   have z:=AW.D6 o2 hL.ins hL.lst hL.AO
   cases z with
   | cons _ t=>exact t
theorem vv:am ["self"] ["self"] (ai om):=L2.Ad
theorem ua {C f nm:Addr}{fd:FuncData}(F:Ab K "bring" "Lane.bring" om f fd)(L:wT K C)(Ex:Lr K mg nm):zE P w K mg base (eP P w) 1 f fd ["self"] (p7 C nm):=by
 refine F.Fb vv (fun vs H Q E h=>?_) (fun cdv A outer s H vs Q E hr h=>?_)
 ·obtain⟨x,dx,pa,r,b,h,zU,qs,rfl,_⟩:=h
  rfl
 ·obtain⟨x,dx,pa,r,b,h,zU,qs,rfl,hL,h1,h2⟩:=h
  refine⟨_,ae (aL (ap aZ (al (pv 0) rfl) aj (av _)) (ah (b9 rfl Ex.x aP (ca Ex.x Ex.k rfl rfl Ex.m (aa bv ad)))) aA)
   (ae (dY (pv 0) aj pZ) (ah (dY (pv 0) aj lq))),?_⟩
  refine⟨_,rfl,x,C,dx,_,_,rfl,hL.ins,L.cl,L.n2,rfl,rfl,_,rfl,?_⟩
  have CU:pa ≠ x:=aX hL.lst hL.ins (by intro z;cases z)
  rw[bP]
  by_cases O0:b=0
  ·rw[decide_eq_true O0]
   refine aH ⟨by show 1 <= sizeLine;decide,?_⟩
   exact h1 O0 H (zD.refl H)
  ·rw[decide_eq_false O0]
   refine aD ?_
   refine⟨_,rfl,x,C,dx,_,_,rfl,hL.ins,L.cl,L.n2,rfl,_,_,rfl,rfl,dx,_,hL.ins,by show 4 < 1000;decide,?_⟩
   have Bn:(upd H x (.ins C dx (aK "returning" (.int (b - 1)) (iD r b (hV h) pa)))) x=some (.ins C dx (iD r (b - 1) (hV h) pa)):=ac
   have o1:AW x pa H (upd H x (.ins C dx (aK "returning" (.int (b - 1)) (iD r b (hV h) pa)))):=fun a o ha _ e=>by rw[af ha];exact e
   have Ag:(upd H x (.ins C dx (aK "returning" (.int (b - 1)) (iD r b (hV h) pa)))) pa=some (.lst zU):=by rw[af CU];exact hL.lst
   show _
   generalize upd H x (.ins C dx (aK "returning" (.int (b - 1)) (iD r b (hV h) pa)))=H1 at Bn Ag o1 ⊢
   refine⟨_,rfl,x,C,dx,_,_,rfl,Bn,L.cl,L.n1,rfl,_,_,rfl,rfl,dx,_,Bn,by show 4 < 1000;decide,?_⟩
   have o2:∀ o',AW x pa H (upd H1 x o'):=fun o' a o ha hb e=>by rw[af ha];exact o1 a o ha hb e
   exact h2 O0 _ (o2 _) ⟨ac,by rw[af CU];exact Ag,AW.D6 (o2 _) hL.ins hL.lst hL.AO⟩
theorem Lw:am ["self"] ["self"] (ai yc):=L2.Ad
theorem yG {C f:Addr}{fd:FuncData}(F:Ab K "told" "Lane.told" yc f fd)(T:eW mg)(L:wT K C):zE P w K mg base aG 1 f fd ["self"] (xi C):=by
 refine F.ok Lw (fun vs H Q E h=>?_) (fun cdv A outer s H vs Q E hr h=>?_)
 ·obtain⟨x,dx,pa,r,b,h,zU,qs,rfl,_⟩:=h
  rfl
 ·obtain⟨x,dx,pa,r,b,h,zU,qs,rfl,hL,q⟩:=h
  refine⟨_,ah (ar (bH (aa (al (pv 0) rfl) (aa (al (pv 0) rfl) (aa (al (pv 0) rfl) (aa (bF cp rfl T.list PySem.Pv.boot_list (aa (al (pv 0) rfl) ad)) ad)))))),?_⟩
  refine⟨_,rfl,x,C,dx,_,_,rfl,hL.ins,L.cl,L.n1,rfl,_,rfl,x,C,dx,_,_,rfl,hL.ins,L.cl,L.n2,rfl,_,rfl,x,C,dx,_,_,rfl,hL.ins,L.cl,L.n3,rfl,_,rfl,x,C,dx,_,_,rfl,hL.ins,L.cl,L.n4,rfl,pa,_,rfl, .inl (zJ.of hL.lst),fun ql Fj=>?_⟩
  have s1:=(zD.refl H).new (o := .lst zU) Fj
  have g1:(upd H ql (.lst zU)) ql=some (.lst zU):=ac
  generalize upd H ql (.lst zU)=H1 at s1 g1 ⊢
  refine⟨by show 4 <= sizeLine;decide,fun t ht=>?_⟩
  have s2:=s1.new (o := .tup [.int r, .int b,hV h, .ref ql]) ht
  exact q t ql _ s2 Fj ac (by rw[af (ag g1 ht)];exact g1)
noncomputable def pM (m:Nat)(zS:List V):Bool:=decide (zS.length=m) && zS.all fun v=>jZ v 1 60
noncomputable def Sq (K:Frag)(H:Hp)(a:Addr)(xs:List V):Prop:=zJ K H a xs∨zM K H a xs
noncomputable def ph (K:Frag)(c:Cs)(nr:Addr):Sp:=fun vs H Q E=>∃ (lx Ac lt:Addr)(n:Int)(zO:List V)(ps:List (Int × Int))(rv:V),vs=[.ref lx,rv]/\cx H c lx Ac lt n zO ps/\ps.length <= 1000 /\
 ((rv = .zT/\∀ t H',zD H H'->H' t=some (.tup (List.replicate ps.length (.int 1)))->Q (.ref t) H') ∨
  (∃ ra zS,rv = .ref ra/\Sq K H ra zS/\zS.length <= 1000/\(∀ v ∈ zS,rB v)/\(pM ps.length zS=false->∀ H',zD H H'->E (.ref nr) none H')/\(pM ps.length zS=true->∀ t H',zD H H'->zM K H' t zS->Q (.ref t) H')))
noncomputable def zc (s:Stmt):Scope:=match s with
 | .If _ (.Return (some (.Call _ [.ListComp _ _ sc _] _ _)) _ :: _) _ _=>sc
 | _=>{ kind := .function,names:=[],isGenerator:=false,isCoroutine:=false }
noncomputable def yu (s:Stmt):Scope:=match s with
 | .If (.BoolOp _ [_, .UnaryOp _ (.Call _ [.ListComp _ _ sc _] _ _) _] _) _ _ _=>sc
 | _=>{ kind := .function,names:=[],isGenerator:=false,isCoroutine:=false }
noncomputable def O1:V->Bool
 | .int i=>decide ((if i < 0 then -i else i) < 10 ^ (60:Int).toNat)
 | _=>false
noncomputable def rR:Sp:=fun vs H Q _=>∃ v,vs=[v]/\rB v/\Q (.bl (O1 v)) H
noncomputable def wZ (K:Frag)(f1 f2:Str):Sp:=fun vs H Q _=>∃ e C tt v1 v2,vs=[.ref e,v1,v2]/\H e=some (bK e C tt none)/\gJ K C/\findIn K (.ref C) f1=some none/\findIn K (.ref C) f2=some none/\∀ d H',H d=none->(∀ b o,b ≠ e->H b=some o->H' b=some o)->H' e=some (bK e C tt (some d))->H' d=some (.xd [(f1,v1),(f2,v2)])->Q .zT H'
theorem b6 {K:Frag}{H H':Hp}{a:Addr}{xs:List V}(e:zD H H')(h:zM K H a xs):zM K H' a xs:=by
 rcases h with h | h
 ·refine .inl ?_
  rcases h with h | ⟨o,h⟩
  ·exact .inl (e _ _ h)
  ·exact .inr ⟨o,e _ _ h⟩
 ·exact .inr h
theorem Lx {X:Cx}{tg it:Expr}{a b:TI}(h1:PI X tg it a)(h2:PI X tg it b):PI X tg it (fun σ H R=>a σ H R∨b σ H R):=fun pins s σ H R I h=>h.elim (h1 pins s σ H R I) (h2 pins s σ H R I)
theorem na {J:It}{xs:List V}{g:TG}{te:TE}{σ0:St}{H:Hp}{Q:VK}(f:V->V)(hn:xs.length < sizeLine)(hgo:∀ i,i < xs.length->J.go i H)(C8:J.stop xs.length H)(hy:∀ i x H',J.E4 i H x H'->H' = H/\xs[i]? = some x)
  (hs:∀ (x:V)(N:V->Hp->Prop),x ∈ xs->N (f x) H->g x σ0 H fun σ2 H2=>te σ2 H2 N)
  (hq:∀ D,H D=none->Q (.ref D) (upd H D (.lst (xs.map f)))):eB J g qr te σ0 Q H:=by
 refine bJ xs.length hn (fun i acc H'=>H' = H/\acc=(xs.take i).map f) ⟨rfl,rfl⟩ (fun i acc H' h=>by rw[h.2,length_map];exact length_take_le _ _) (fun i acc H' hi h=>?_) (fun acc H' h=>?_)
 ·obtain⟨rfl,rfl⟩:=h
  refine⟨hgo i hi,fun v H2 y=>?_⟩
  obtain⟨e,hx⟩:=hy i v H2 y
  subst e
  exact hs v (fun y H4=>H4=H2/\(xs.take i).map f ++ [y]=(xs.take (i + 1)).map f) (mem_of_getElem? hx) ⟨rfl,by rw[take_succ,hx,map_append];rfl⟩
 ·obtain⟨rfl,rfl⟩:=h
  rw[take_length]
  exact⟨C8,hq⟩
theorem zk {K:Frag}{a:Addr}{xs:List V}{g:TG}{te:TE}{σ0:St}{H:Hp}{Q:VK}(f:V->V)(hn:xs.length < sizeLine)(ha:zJ K H a xs)(hs:∀ (x:V) (N:V->Hp->Prop),x ∈ xs->N (f x) H->g x σ0 H fun σ2 H2=>te σ2 H2 N)
  (hq:∀ D,H D=none->Q (.ref D) (upd H D (.lst (xs.map f)))):eB (vd K a) g qr te σ0 Q H :=
 na f hn (fun i hi=>⟨xs,xs[i],ha,by simp[hi]⟩) ⟨xs,ha,Nat.le_refl _⟩ (fun i x H' y=>⟨y.1,y.2 xs ha⟩) hs hq
theorem uN {K:Frag}{a:Addr}{xs:List V}{g:TG}{te:TE}{σ0:St}{H:Hp}{Q:VK}(f:V->V)(hn:xs.length < sizeLine)(ha:zM K H a xs)(hs:∀ (x:V) (N:V->Hp->Prop),x ∈ xs->N (f x) H->g x σ0 H fun σ2 H2=>te σ2 H2 N)
  (hq:∀ D,H D=none->Q (.ref D) (upd H D (.lst (xs.map f)))):eB (NY K a) g qr te σ0 Q H :=
 na f hn (fun i hi=>⟨xs,xs[i],ha,by simp[hi]⟩) ⟨xs,ha,Nat.le_refl _⟩ (fun i x H' y=>⟨y.1,y.2 xs ha⟩) hs hq
structure ve (K:Frag)(mg:Str->Option Value)(x:Str)(C:Addr):Prop where
 m:mg x=some (.ref C)
 x:bz K C none=true
 k:keepIn K (.ref C)=true
theorem QW:am ["land", "rooms"] ["land", "rooms"] (ai gB):=L2.Ad
theorem QX:AS ["land", "rooms"] (ai gB) (zc ((aJ gB).getD 0 (.Pass ⟨0,0,0,0⟩))) [] []:=L2.BS
theorem QY:AS ["land", "rooms"] (ai gB) (yu ((aJ gB).getD 1 (.Pass ⟨0,0,0,0⟩))) [] []:=L2.BS
theorem QZ:(["lane"]:List Str).Nodup:=by decide +kernel
theorem Ly:(["room"]:List Str).Nodup:=by decide +kernel
theorem tP {c:Cs}{f fw nr:Addr}{fd dw:FuncData}{t1:Tok}(F:Ab K "rooms_of" "rooms_of" gB f fd)(T:eW mg)(L:lC K c)(X:ve K mg "NoRooms" nr)
  (mw:mg "is_within" = some (.ref fw)) (kw:keepIn K (.ref fw)=true) (bw:Binds K dw ["value", "least", "most"] []) (Gw:zE P w K mg base aG 2 fw dw ["value", "least", "most"] fO) (mp:mg "MOST_ROOM" = some (.int 60 t1)) :
  zE P w K mg base (eP P w) 3 f fd ["land", "rooms"] (ph K c nr):=by
 refine F.Fb QW (fun vs H Q E h=>?_) (fun cdv A outer s H vs Q E hr h=>?_)
 ·obtain⟨lx,Ac,lt,n,zO,ps,rv,rfl,_⟩:=h
  rfl
 ·obtain⟨lx,Ac,lt,n,zO,ps,rv,rfl,hL,Bl,hh⟩:=h
  refine⟨_,ae (aL (ap jy (pv 1) bV (av _)) (ah (ar (bF dQ rfl T.tuple PySem.Pv.boot_tuple (aa (bA (own:=["lane"]) (capN:=[]) (cap:=[]) QX rfl (lf (al (pv 0) rfl))
     (fun C s' H' fp=>⟨au (i:=0) QZ rfl (Or.inl rfl),dH,aj⟩)) ad)))) aA)
   (ae (aL (fP (PW.pt (eR (ap gZ (ax ao rfl T.len PySem.boot_len (aa (pv 1) ad)) (ax ao rfl T.len PySem.boot_len (aa (al (pv 0) rfl) ad)) (av _))
     (dL (bE (bu (ax (jJ rfl) rfl T.all PyProof.Rows.boot_all (aa (bA (own:=["room"]) (capN:=[]) (cap:=[]) QY rfl (Lx (bN (pv 1)) (lf (pv 1)))
      (fun C s' H' fp=>⟨au (i:=0) Ly rfl (Or.inl rfl),dH,az Gw hr rfl mw kw bw .nil aq (aa (pv 0) (aa aj (aa (eK (v := .int 60) rfl mp ⟨_,rfl⟩) ad)))⟩)) ad))))))))
    (ah (b9 rfl X.x aP (ca X.x X.k rfl rfl X.m (aa bv ad)))) aA)
   (ah (ar (bF dQ rfl T.tuple PySem.Pv.boot_tuple (aa (pv 1) ad))))),?_⟩
  have D9:zO.length=ps.length:=Paired.length hL.2.2
  refine⟨_,rfl,rfl,_,rfl,?_⟩
  rcases hh with ⟨rfl,q⟩ | ⟨ra,zS,rfl,hR,CV,Lz,qE,q⟩
  ·refine aH ⟨_,rfl,lx,c.land,Ac,_,_,rfl,hL.1,L.cl,L.nl,rfl,lt,rfl,⟨_,zM.of hL.2.1⟩,?_⟩
   refine uN (fun _ => .int 1) (by rw[sizeLine_eq];omega) (zM.of hL.2.1) (fun x N hx h=>h) (fun D hD=>?_)
   have s1:=(zD.refl H).new (o := .lst (zO.map fun _=>V.int 1)) hD
   refine⟨D,_,rfl, .inl ⟨zJ.of ac,fun t ht=>q t _ (s1.new ht) ?_⟩⟩
   rw[ac,List.map_const',D9]
  ·refine aD ?_
   have len1:∀ {H:Hp},Sq K H ra zS->(zJ K H ra zS∨zM K H ra zS):=fun h=>h
   refine⟨fun b H'=>zD H H'/\b = !pM ps.length zS,?_,?_⟩
   ·refine⟨_,rfl,ra,zS,rfl,hR,_,rfl,lx,c.land,Ac,_,_,rfl,hL.1,L.cl,L.nl,rfl,lt,_,rfl, .inr (zM.of hL.2.1),rfl,_,rfl,?_⟩
    rw[bP,D9]
    by_cases L0:zS.length=ps.length
    rotate_left
    ·rw[decide_eq_false (show ¬ ((zS.length:Nat):Int)=(ps.length:Nat) by omega)]
     refine aH ⟨zD.refl H,?_⟩
     unfold pM
     rw[decide_eq_false L0];rfl
    rw[decide_eq_true (show((zS.length:Nat):Int)=(ps.length:Nat) by omega)]
    have step:∀ (x:V)(N:V->Hp->Prop),x ∈ zS->N (.bl (jZ x 1 60)) H->rB x:=fun x _ hx _=>Lz x hx
    have fin:∀ D,H D=none->∃ (p:Addr)(bs:List Bool),[V.ref D]=[.ref p]/\zJ K (upd H D (.lst (zS.map fun v=>V.bl (jZ v 1 60)))) p (bs.map V.bl)/\∃ cc,V.bl (bs.all id) = .bl cc/\(zD H (upd H D (.lst (zS.map fun v=>V.bl (jZ v 1 60))))/\(!cc) = !pM ps.length zS):=fun D hD=>by
     refine⟨D,zS.map fun v=>jZ v 1 60,rfl,zJ.of (by rw[ac,map_map];rfl),_,rfl,(zD.refl H).new hD,?_⟩
     unfold pM
     rw[decide_eq_true L0,Bool.true_and,all_map];rfl
    refine aD ?_
    rcases hR with hR | hR
    ·refine .inl ⟨_,rfl,ra,rfl,⟨_,hR⟩,?_⟩
     exact zk (fun v => .bl (jZ v 1 60)) (by rw[sizeLine_eq];omega) hR (fun x N hx h=>⟨_,rfl,x,1,60,rfl,Lz x hx,h⟩) fin
    ·refine .inr ⟨_,rfl,ra,rfl,⟨_,hR⟩,?_⟩
     exact uN (fun v => .bl (jZ v 1 60)) (by rw[sizeLine_eq];omega) hR (fun x N hx h=>⟨_,rfl,x,1,60,rfl,Lz x hx,h⟩) fin
   rintro b H' ⟨s',rfl⟩
   cases zL:pM ps.length zS with
   | false=>exact aH ⟨by show 1 <= sizeLine;decide,qE zL H' s'⟩
   | true =>
    refine aD ⟨_,rfl,ra,zS,rfl,?_⟩
    rcases hR with hR | hR
    ·exact .inl ⟨s'.seq hR,fun t ht=>q zL t _ (s'.new ht) (zM.of ac)⟩
    ·exact .inr ⟨b6 s' hR,q zL ra _ s' (b6 s' hR)⟩
theorem Ra:am ["word"] ["word"] (ai sF):=L2.Ad
theorem vL {f fh:Addr}{fd dh:FuncData}(F:Ab K "is_word" "is_word" sF f fd)(T:eW mg)(mh:mg "is_whole" = some (.ref fh))(kh:keepIn K (.ref fh)=true)(bh:Binds K dh ["value"] [])(G:zE P w K mg base aG 1 fh dh ["value"] gQ) :
  zE P w K mg base aG 2 f fd ["word"] rR:=by
 refine F.ok Ra (fun vs H Q E h=>?_) (fun cdv A outer s H vs Q E hr h=>?_)
 ·obtain⟨v,rfl,_⟩:=h
  rfl
 ·obtain⟨v,rfl,hv,q⟩:=h
  refine⟨_,ah (ar (c8 (az G hr rfl mh kh bh .nil aq (aa (pv 0) ad)) (c7 (bO hU (ax uR rfl T.abs PyProof.Rows.boot_abs (aa (pv 0) ad)) (aE yy aj aj) (av _))))),?_⟩
  cases hv with
  | int i=>exact⟨_,rfl,_,rfl, .int i,true,rfl,aH ⟨_,rfl,i,rfl,_,_,rfl,rfl,⟨by decide,by decide,by decide⟩,_,_,rfl,rfl,q⟩⟩
  | bl b=>exact⟨_,rfl,_,rfl, .bl b,false,rfl,aD q⟩
  | zT=>exact⟨_,rfl,_,rfl, .zT,false,rfl,aD q⟩
theorem Rb:am ["self", "start", "goal"] ["self", "start", "goal"] (ai vw):=L2.Ad
theorem L1 {f:Addr}{fd:FuncData}(F:Ab K "__init__" "NoWay.__init__" vw f fd):zE P w K mg base aG 1 f fd ["self", "start", "goal"] (wZ K "start" "goal"):=by
 refine F.ok Rb (fun vs H Q E h=>?_) (fun cdv A outer s H vs Q E hr h=>?_)
 ·obtain⟨e,C,tt,v1,v2,rfl,_⟩:=h
  rfl
 ·obtain⟨e,C,tt,v1,v2,rfl,he,hx,n1,n2,q⟩:=h
  refine⟨_,ae (t7 (pv 0) (pv 1) rfl) (ah (tw (pv 0) (pv 2) rfl)),?_⟩
  refine⟨_,rfl,_,rfl,e,C,tt,rfl,he,hx,n1,fun d hd=>?_⟩
  have VJ:e ≠ d:=ag he hd
  refine⟨_,rfl,_,rfl,e,C,tt,d,[("start",v1)],rfl,ac,by rw[af (Ne.symm VJ)];exact ac,by show 1 < 1000;decide,hx,n2,?_⟩
  refine q d _ hd (fun b o nb eb=>?_) (by rw[af VJ];exact ac) (by rw[ac];rfl)
  have VL:b ≠ d:=ag eb hd
  rw[af VL,af nb,af VL]
  exact eb
abbrev Wf:=Nat->Nat->Option Nat->List Nat
abbrev TJ:=Hp->Addr->Nat->Wf->Prop
noncomputable def NL:HO->Prop
 | .lst _=>False
 | .ins _ _ []=>False
 | _=>True
noncomputable def Ah (H H':Hp):Prop:=∀ b o,H b=some o->NL o->H' b=some o
theorem zD.zZ {H H':Hp}(s:zD H H'):Ah H H':=fun b o e _=>s b o e
theorem Ah.trans {H H1 H2:Hp}(a:Ah H H1)(b:Ah H1 H2):Ah H H2:=fun x o e n=>b x o (a x o e n) n
theorem Ah.D6 {H H':Hp}(k:Ah H H'){vs:List V}{ps:List (Int × Int)}(h:zX H vs ps):zX H' vs ps:=zX.imp (fun _ _ ⟨t,e,q⟩=>⟨t,e,k _ _ q True.intro⟩) h
structure Ba (c:Cs)(C:Addr)(J:TJ)(H:Hp)(x lx Ac lt:Addr)(n:Nat)(zO:List V)(ps:List (Int × Int))(wy:Wf):Prop where
 j:J H x n wy
 i:∃ dx fs,H x=some (.ins C dx fs)/\fs.lookup ("land":Str)=some (.ref lx)/\fs.lookup ("ways":Str)=none
 l:cx H c lx Ac lt (n:Int) zO ps
 Rc:n <= 12
 Az:ps.length <= 40
 ok:∀ p g k,p < n->g < n->∀ z ∈ wy p g k,z < ps.length
structure Wy (K:Frag)(C fw:Addr)(dw:FuncData)(J:TJ):Prop where
 cl:Cg K C
 nl:zP K C "land"
 m:bD K C "ways" fw
 b:Binds K dw ["self", "place", "goal", "came"] []
 B3:∀ H H' x n wy,J H x n wy->Ah H H'->J H' x n wy
theorem Ba.keep {K:Frag}{c:Cs}{C fw:Addr}{dw:FuncData}{J:TJ}{H H':Hp}{x lx Ac lt:Addr}{n:Nat}{zO:List V}{ps:List (Int × Int)}{wy:Wf}(W:Wy K C fw dw J)(h:Ba c C J H x lx Ac lt n zO ps wy)(k:Ah H H'):Ba c C J H' x lx Ac lt n zO ps wy :=
 ⟨W.B3 _ _ _ _ _ h.j k,let ⟨dx,fs,h1,h2⟩:=h.i; ⟨dx,fs,k _ _ h1 (by cases fs with | nil=>cases h2.1 | cons _ _=>exact True.intro),h2⟩,⟨k _ _ h.l.1 True.intro,k _ _ h.l.2.1 True.intro,k.D6 h.l.2.2⟩,h.Rc,h.Az,h.ok⟩
noncomputable def eE (J:TJ):Sp:=fun vs H Q _=>∃ (x:Addr)(n:Nat)(wy:Wf)(p g:Nat)(k:Option Nat),vs=[.ref x, .int p, .int g,cV k]/\J H x n wy/\p < n/\g < n/\∀ (D:Addr)(H':Hp),zD H H'->H D=none->H' D=some (.lst (nV (wy p g k)))->Q (.ref D) H'
structure bU where
 r:Int
 b:Int
 h:Option Int
 qs:List (Int × Int)
structure bj where
 start:Int
 goal:Int
 len:Int
 word:Int
 gone:Int
 way:List Nat
structure YS where
 rooms:List V
 lanes:List bU
 U:List bj
 lies:List (List (Int × Int))
 done:List (List V)
structure Ys where
 zG:Addr
 zY:Addr
 zF:Addr
 ex:List Addr
noncomputable def BM (H:Hp)(C:Addr)(ex:List Addr)(v:V)(s:bU):Prop:=∃ x dx pa zU,v = .ref x/\zW H C x dx pa s.r s.b s.h zU s.qs/\pa ∉ ex
noncomputable def oB (s:bj)(wa:Addr):Fs:=[("start", .int s.start),("goal", .int s.goal),("length", .int s.len),("word", .int s.word),("gone", .int s.gone),("way", .ref wa)]
noncomputable def C3 (H:Hp)(C:Addr)(ex:List Addr)(v:V)(s:bj):Prop:=∃ x dx wa,v = .ref x/\H x=some (.ins C dx (oB s wa))/\H wa=some (.lst (nV s.way))/\wa ∉ ex
noncomputable def Bb (H:Hp)(v:V)(qs:List (Int × Int)):Prop:=∃ t vs,v = .ref t/\H t=some (.tup vs)/\zX H vs qs
noncomputable def Bu (H:Hp)(v:V)(m:List V):Prop:=∃ t,v = .ref t/\H t=some (.tup m)
theorem Paired.mono {α β:Type}{R R':α->β->Prop}(h:∀ a b,R a b->R' a b):∀ {as:List α}{bs:List β},Paired R as bs->Paired R' as bs:=fun zH=>by
 induction zH with
 | nil=>exact .nil
 | cons x r ih=>exact .cons (h _ _ x) ih
theorem Paired.snoc {α β:Type}{R:α->β->Prop}{a:α}{b:β}(h:R a b):∀ {as:List α}{bs:List β},Paired R as bs->Paired R (as ++ [a]) (bs ++ [b]):=fun zH=>by
 induction zH with
 | nil=>exact .cons h .nil
 | cons x r ih=>exact .cons x ih
theorem Paired.at {α β:Type}{R:α->β->Prop}:∀ {as:List α}{bs:List β}{i:Nat}{a:α},Paired R as bs->as[i]? = some a->∃ b,bs[i]? = some b/\R a b:=by
 intro _ _ i _ zH
 induction zH generalizing i with
 | nil=>intro h;cases h
 | cons x r ih =>
  intro h
  cases i with
  | zero=>cases h;exact⟨_,rfl,x⟩
  | succ i=>exact ih (i:=i) h
theorem Paired.at2 {α β:Type}{R:α->β->Prop}:∀ {as:List α}{bs:List β}{i:Nat}{b:β},Paired R as bs->bs[i]? = some b->∃ a,as[i]? = some a/\R a b:=by
 intro _ _ i _ zH
 induction zH generalizing i with
 | nil=>intro h;cases h
 | cons x r ih =>
  intro h
  cases i with
  | zero=>cases h;exact⟨_,rfl,x⟩
  | succ i=>exact ih (i:=i) h
noncomputable def zQ (ex:List Addr)(H H':Hp):Prop:=∀ b o,b ∉ ex->H b=some o->H' b=some o
theorem zD.Aj {ex:List Addr}{H H':Hp}(s:zD H H'):zQ ex H H':=fun b o _ e=>s b o e
theorem zQ.trans {ex:List Addr}{H H1 H2:Hp}(a:zQ ex H H1)(b:zQ ex H1 H2):zQ ex H H2:=fun x o n e=>b x o n (a x o n e)
theorem zX.Aj {ex:List Addr}{H H':Hp}(hx:∀ b ∈ ex,∃ xs,H b=some (.lst xs))(o:zQ ex H H'){vs:List V}{ps:List (Int × Int)}(h:zX H vs ps):zX H' vs ps :=
 zX.imp (fun _ _ zH=>by obtain⟨t,e,q⟩:=zH;exact⟨t,e,o _ _ (fun z=>by obtain⟨xs,hz⟩:=hx _ z;rw[q]at hz;cases hz) q⟩) h
theorem zQ.GK {ex:List Addr}{H H':Hp}(hx:∀ b ∈ ex,∃ o,H b=some o/\¬ NL o)(o:zQ ex H H'):Ah H H':=fun b u e n=>o b u (fun z=>by obtain⟨o',hz,hn⟩:=hx _ z;rw[e]at hz;cases hz;exact hn n) e
theorem zQ.zZ {ex:List Addr}{H H':Hp}(hx:∀ b ∈ ex,∃ xs,H b=some (.lst xs))(o:zQ ex H H'):Ah H H':=o.GK fun b hb=>let ⟨xs,hz⟩:=hx b hb; ⟨_,hz,id⟩
theorem BM.Aj {ex:List Addr}{H H':Hp}{C:Addr}{v:V}{s:bU}(hx:∀ b ∈ ex,∃ xs,H b=some (.lst xs))(o:zQ ex H H')(h:BM H C ex v s):BM H' C ex v s:=by
 obtain⟨x,dx,pa,zU,e,L,n⟩:=h
 have k:=o.zZ hx
 exact⟨x,dx,pa,zU,e,⟨k _ _ L.ins True.intro,o _ _ n L.lst,zX.Aj hx o L.AO⟩,n⟩
theorem C3.Aj {ex:List Addr}{H H':Hp}{C:Addr}{v:V}{s:bj}(hx:∀ b ∈ ex,∃ xs,H b=some (.lst xs))(o:zQ ex H H')(h:C3 H C ex v s):C3 H' C ex v s:=by
 obtain⟨x,dx,wa,e,h1,h2,n⟩:=h
 exact⟨x,dx,wa,e,o.zZ hx _ _ h1 True.intro,o _ _ n h2,n⟩
theorem Bb.keep {H H':Hp}{v:V}{qs:List (Int × Int)}(k:Ah H H')(h:Bb H v qs):Bb H' v qs:=by
 obtain⟨t,vs,e,h1,h2⟩:=h
 exact⟨t,vs,e,k _ _ h1 True.intro,k.D6 h2⟩
theorem Bu.keep {H H':Hp}{v:V}{m:List V}(k:Ah H H')(h:Bu H v m):Bu H' v m:=by
 obtain⟨t,e,h1⟩:=h
 exact⟨t,e,k _ _ h1 True.intro⟩
noncomputable def O2 (tb ro la le li dn:Addr):Fs:=[("table", .ref tb),("rooms", .ref ro),("lanes", .ref la),("letters", .ref le),("lies", .ref li),("done", .ref dn)]
structure zR (K:Frag)(ys:Ys)(H:Hp)(y dy tb ro la le li dn:Addr)(s:YS):Prop where
 ins:H y=some (.ins ys.zG dy (O2 tb ro la le li dn))
 L4:zM K H ro s.rooms
 AX:∃ vs,H la=some (.lst vs)/\Paired (BM H ys.zY (la :: le :: li :: dn :: ys.ex)) vs s.lanes
 hle:∃ vs,H le=some (.lst vs)/\Paired (C3 H ys.zF (la :: le :: li :: dn :: ys.ex)) vs s.U
 Cm:∃ vs,H li=some (.lst vs)/\Paired (Bb H) vs s.lies
 Cn:∃ vs,H dn=some (.lst vs)/\Paired (Bu H) vs s.done
 ne:[la,le,li,dn].Nodup
 hex:∀ b ∈ ys.ex,∃ xs,H b=some (.lst xs)
theorem zR.Ed {K:Frag}{ys:Ys}{H:Hp}{y dy tb ro la le li dn:Addr}{s:YS}(h:zR K ys H y dy tb ro la le li dn s):∀ b ∈ [la,le,li,dn],∃ xs,H b=some (.lst xs):=by
 intro b hb
 obtain⟨v1,h1,_⟩:=h.AX
 obtain⟨v2,h2,_⟩:=h.hle
 obtain⟨v3,h3,_⟩:=h.Cm
 obtain⟨v4,h4,_⟩:=h.Cn
 simp only[mem_cons,not_mem_nil,or_false]at hb
 rcases hb with rfl | rfl | rfl | rfl
 ·exact⟨_,h1⟩
 ·exact⟨_,h2⟩
 ·exact⟨_,h3⟩
 ·exact⟨_,h4⟩
theorem zR.DL {K:Frag}{ys:Ys}{H:Hp}{y dy tb ro la le li dn:Addr}{s:YS}(h:zR K ys H y dy tb ro la le li dn s):∀ b ∈ la :: le :: li :: dn :: ys.ex,∃ xs,H b=some (.lst xs):=by
 intro b hb
 have e:la :: le :: li :: dn :: ys.ex=[la,le,li,dn] ++ ys.ex:=rfl
 rw[e]at hb
 rcases mem_append.mp hb with hb | hb
 ·exact h.Ed b hb
 ·exact h.hex b hb
theorem zR.same {K:Frag}{ys:Ys}{H H':Hp}{y dy tb ro la le li dn:Addr}{s:YS}(h:zR K ys H y dy tb ro la le li dn s)(e:zD H H'):zR K ys H' y dy tb ro la le li dn s:=by
 have hx:=h.DL
 obtain⟨v1,h1,p1⟩:=h.AX
 obtain⟨v2,h2,p2⟩:=h.hle
 obtain⟨v3,h3,p3⟩:=h.Cm
 obtain⟨v4,h4,p4⟩:=h.Cn
 have o:zQ (la :: le :: li :: dn :: ys.ex) H H':=zD.Aj e
 exact⟨e _ _ h.ins,b6 e h.L4,⟨v1,e _ _ h1,Paired.mono (fun _ _ z=>z.Aj hx o) p1⟩,⟨v2,e _ _ h2,Paired.mono (fun _ _ z=>z.Aj hx o) p2⟩,⟨v3,e _ _ h3,Paired.mono (fun _ _ z=>z.keep (zD.zZ e)) p3⟩,⟨v4,e _ _ h4,Paired.mono (fun _ _ z=>z.keep (zD.zZ e)) p4⟩,h.ne,fun b hb=>let ⟨xs,hz⟩:=h.hex b hb; ⟨xs,e _ _ hz⟩⟩
structure iJ (K:Frag)(ys:Ys):Prop where
 cl:Cg K ys.zG
 n1:zP K ys.zG "table"
 n2:zP K ys.zG "rooms"
 n3:zP K ys.zG "lanes"
 n4:zP K ys.zG "letters"
 n5:zP K ys.zG "lies"
 n6:zP K ys.zG "done"
 ct:Cg K ys.zF
 t1:zP K ys.zF "start"
 t2:zP K ys.zF "goal"
 t3:zP K ys.zF "length"
 t4:zP K ys.zF "word"
 t5:zP K ys.zF "gone"
 t6:zP K ys.zF "way"
 L:wT K ys.zY
noncomputable def sj (C:Addr):Sp:=fun vs H Q _=>∃ (x dx:Addr)(a b l u:Int),vs=[.ref x, .int a, .int b, .int l, .int u]/\H x=some (.ins C dx [])/\∀ (wa:Addr)(H':Hp),H wa=none->(∀ z o,z ≠ x->H z=some o->H' z=some o)->H' x=some (.ins C dx (oB ⟨a,b,l,u,0,[]⟩ wa))->H' wa=some (.lst (nV []))->Q .zT H'
theorem L5:am ["self", "start", "goal", "length", "word"] ["self", "start", "goal", "length", "word"] (ai sS):=L2.Ad
theorem yE {ys:Ys}{f:Addr}{fd:FuncData}(F:Ab K "__init__" "Letter.__init__" sS f fd)(Y:iJ K ys):zE P w K mg base aG 1 f fd ["self", "start", "goal", "length", "word"] (sj ys.zF):=by
 refine F.ok L5 (fun vs H Q E h=>?_) (fun cdv A outer s H vs Q E hr h=>?_)
 ·obtain⟨x,dx,a,b,l,u,rfl,_⟩:=h
  rfl
 ·obtain⟨x,dx,a,b,l,u,rfl,hx,q⟩:=h
  refine⟨_,ae (aV (pv 0) (pv 1) rfl) (ae (aV (pv 0) (pv 2) rfl) (ae (aV (pv 0) (pv 3) rfl) (ae (aV (pv 0) (pv 4) rfl) (ae (aV (pv 0) aj rfl) (ah (aV (pv 0) (aO ad) rfl)))))),?_⟩
  refine⟨_,rfl,_,rfl,x,ys.zF,dx,_,rfl,hx,Y.ct,Y.t1,by show 0 < 1000;decide,?_⟩
  refine⟨_,rfl,_,rfl,x,ys.zF,dx,_,rfl,ac,Y.ct,Y.t2,by show 1 < 1000;decide,?_⟩
  refine⟨_,rfl,_,rfl,x,ys.zF,dx,_,rfl,ac,Y.ct,Y.t3,by show 2 < 1000;decide,?_⟩
  refine⟨_,rfl,_,rfl,x,ys.zF,dx,_,rfl,ac,Y.ct,Y.t4,by show 3 < 1000;decide,?_⟩
  refine⟨_,rfl,x,ys.zF,dx,_,rfl,ac,Y.ct,Y.t5,by show 4 < 1000;decide,?_⟩
  refine⟨zero_le _,fun wa Ee=>?_⟩
  have FE:x ≠ wa:=ag ac Ee
  refine⟨_,rfl,x,ys.zF,dx,_,rfl,by rw[af FE];exact ac,Y.ct,Y.t6,by show 5 < 1000;decide,?_⟩
  have L6:H wa=none:=by
   rw[af (Ne.symm FE),af (Ne.symm FE),af (Ne.symm FE),af (Ne.symm FE),af (Ne.symm FE)]at Ee
   exact Ee
  refine q wa _ L6 (fun z o nz e=>?_) ac (by rw[af (Ne.symm FE)];exact ac)
  have nzw:z ≠ wa:=ag e L6
  rw[af nz,af nzw,af nz,af nz,af nz,af nz,af nz]
  exact e
noncomputable def vI:V->Int
 | .int i=>i
 | _=>0
noncomputable def pR (v:V):bU:=⟨vI v,0,none,[]⟩
noncomputable def Y0 (rooms:List V)(n:Nat):YS:=⟨rooms,rooms.map pR,[],List.replicate n [],[]⟩
noncomputable def Bz (H0 H:Hp)(C:Addr)(v:V)(s:bU):Prop:=∃ x dx pa,v = .ref x/\zW H C x dx pa s.r s.b s.h [] []/\s.qs=[]/\H0 x=none/\H0 pa=none
theorem Bz.same {H0 H H':Hp}{C:Addr}{v:V}{s:bU}(h:Bz H0 H C v s)(e:zD H H'):Bz H0 H' C v s:=by
 obtain⟨x,dx,pa,h1,h2,h3⟩:=h
 exact⟨x,dx,pa,h1,h2.same e,h3⟩
noncomputable def Ak (y:Addr)(ex:List Addr)(H:Hp)(C:Addr)(v:V)(s:bU):Prop:=∃ x dx pa,v = .ref x/\zW H C x dx pa s.r s.b s.h [] []/\s.qs=[]/\x ≠ y/\pa ≠ y/\pa ∉ ex
theorem Bz.L7 {H0 H:Hp}{C y:Addr}{v:V}{s:bU}{u:HO}(h:Bz H0 H C v s){ex:List Addr}(hy:H0 y=some u)(hx:∀ b ∈ ex,∃ o,H0 b=some o):Ak y ex H C v s:=by
 obtain⟨x,dx,pa,h1,h2,h3,h4,h5⟩:=h
 exact⟨x,dx,pa,h1,h2,h3,(fun z=>by rw[z,hy]at h4;cases h4),(fun z=>by rw[z,hy]at h5;cases h5),fun z=>by obtain⟨o,ho⟩:=hx _ z;rw[h5]at ho;cases ho⟩
theorem Ak.same {y:Addr}{ex:List Addr}{H H':Hp}{C:Addr}{v:V}{s:bU}(h:Ak y ex H C v s)(e:zD H H'):Ak y ex H' C v s:=by
 obtain⟨x,dx,pa,h1,h2,h3⟩:=h
 exact⟨x,dx,pa,h1,h2.same e,h3⟩
theorem Ak.upd {y:Addr}{ex:List Addr}{H:Hp}{C:Addr}{v:V}{s:bU}{o:HO}(h:Ak y ex H C v s):Ak y ex (upd H y o) C v s:=by
 obtain⟨x,dx,pa,h1,h2,h3,h4,h5,h6⟩:=h
 exact⟨x,dx,pa,h1,⟨by rw[af h4];exact h2.ins,by rw[af h5];exact h2.lst, .nil⟩,h3,h4,h5,h6⟩
theorem Ak.new {y a:Addr}{ex:List Addr}{H:Hp}{C:Addr}{v:V}{s:bU}{o:HO}(h:Ak y ex H C v s)(ha:H a=none):Ak y (a :: ex) (L2.upd H a o) C v s:=by
 obtain⟨x,dx,pa,h1,h2,h3,h4,h5,h6⟩:=h
 exact⟨x,dx,pa,h1,h2.same ((zD.refl H).new ha),h3,h4,h5,fun z=>(mem_cons.mp z).elim (fun z=>by rw[z]at h2;rw[h2.lst]at ha;cases ha) h6⟩
theorem Ak.L8 {y:Addr}{ex Jc:List Addr}{H:Hp}{C:Addr}{v:V}{s:bU}(h:Ak y ex H C v s)(hs:∀ a ∈ Jc,a ∈ ex):BM H C Jc v s:=by
 obtain⟨x,dx,pa,h1,h2,h3,h4,h5,h6⟩:=h
 exact⟨x,dx,pa,[],h1,by rw[h3];exact h2,fun z=>h6 (hs _ z)⟩
theorem oP {K:Frag}{ro C:Addr}{zS:List V}{g:TG}{te:TE}{σ0:St}{H:Hp}{Q:VK}(hn:zS.length < sizeLine)(ha:zM K H ro zS)(hint:∀ v ∈ zS,∃ r,v = .int r)
  (hs:∀ (r:Int)(H1:Hp)(N:V->Hp->Prop),zD H H1->(∀ x dx pa H2,H1 x=none->H1 pa=none->zD H1 H2->zW H2 C x dx pa r 0 none [] []->N (.ref x) H2)->g (.int r) σ0 H1 fun σ2 H2=>te σ2 H2 N)
  (hq:∀ D vs H1,zD H H1->H1 D=none->Paired (Bz H H1 C) vs (zS.map pR)->Q (.ref D) (upd H1 D (.lst vs))):eB (NY K ro) g qr te σ0 Q H:=by
 refine bJ zS.length hn (fun i acc H'=>zD H H'/\Paired (Bz H H' C) acc ((zS.take i).map pR)) ⟨zD.refl _, .nil⟩ (fun i acc H' h=>by have:=Paired.length h.2;rw[this,length_map];exact length_take_le _ _) (fun i acc H' hi h=>?_) (fun acc H' h=>?_)
 ·obtain⟨s,hL⟩:=h
  refine⟨⟨zS,zS[i],b6 s ha,by simp[hi]⟩,fun v H2 y=>?_⟩
  obtain⟨e,y⟩:=y
  subst e
  have hv:=y _ (b6 s ha)
  obtain⟨r,rfl⟩:=hint v (mem_of_getElem? hv)
  refine hs r H2 (fun y H4=>zD H H4/\Paired (Bz H H4 C) (acc ++ [y]) ((zS.take (i + 1)).map pR)) s fun x dx pa H3 nx FF s3 C2=>⟨s.trans s3,?_⟩
  rw[take_succ,hv,Option.toList_some,map_append]
  exact Paired.snoc (b:=pR (.int r)) ⟨x,dx,pa,rfl,C2,rfl,s.free nx,s.free FF⟩ (Paired.mono (fun _ _ z=>z.same s3) hL)
 ·obtain⟨s,hL⟩:=h
  rw[take_length]at hL
  exact⟨⟨zS,b6 s ha,Nat.le_refl _⟩,fun D hD=>hq D acc H' s hD hL⟩
theorem rq {n:Nat}{g:TG}{te:TE}{σ0:St}{H:Hp}{Q:VK}(hn:n <= 1000)
  (hs:∀ (i:Nat)(H1:Hp)(N:V->Hp->Prop),zD H H1->(∀ t,H1 t=none->N (.ref t) (upd H1 t (.tup [])))->g (.int (0 + i)) σ0 H1 fun σ2 H2=>te σ2 H2 N)
  (hq:∀ D vs H1,zD H H1->H1 D=none->Paired (Bb H1) vs (List.replicate n [])->Q (.ref D) (upd H1 D (.lst vs))):eB (vc 0 n) g qr te σ0 Q H:=by
 refine bJ n (by rw[sizeLine_eq];omega) (fun i acc H'=>zD H H'/\Paired (Bb H') acc (List.replicate i [])) ⟨zD.refl _, .nil⟩ (fun i acc H' h=>by have:=Paired.length h.2;rw[this,length_replicate];exact Nat.le_refl _) (fun i acc H' hi h=>?_) (fun acc H' h=>?_)
 ·obtain⟨s,hL⟩:=h
  refine⟨hi,fun v H2 y=>?_⟩
  obtain⟨e1,e2⟩:=y
  subst e1 e2
  refine hs i H2 (fun y H4=>zD H H4/\Paired (Bb H4) (acc ++ [y]) (List.replicate (i + 1) [])) s fun t ht=>⟨s.new ht,?_⟩
  rw[List.replicate_succ']
  exact Paired.snoc ⟨t,[],rfl,ac, .nil⟩ (Paired.mono (fun _ _ z=>z.keep (zD.zZ ((zD.refl H2).new ht))) hL)
 ·obtain⟨s,hL⟩:=h
  exact⟨Nat.le_refl n,fun D hD=>hq D acc H' s hD hL⟩
theorem fN {K:Frag}{H:Hp}{a y C d:Addr}{fs:Fs}{o:HO}{xs:List V}(hy:H y=some (.ins C d fs))(h:zM K H a xs):zM K (upd H y o) a xs:=by
 rcases h with h | h
 ·refine .inl ?_
  rcases h with h | ⟨u,h⟩
  ·exact .inl (by rw[af (aX h hy (by intro z;cases z))];exact h)
  ·exact .inr ⟨u,by rw[af (aX h hy (by intro z;cases z))];exact h⟩
 ·exact .inr h
theorem vk {K:Frag}{H:Hp}{a y C d:Addr}{fs:Fs}{o:HO}{xs:List V}(hy:H y=some (.ins C d fs))(h:zJ K H a xs):zJ K (upd H y o) a xs:=by
 rcases h with h | h
 ·refine .inl ?_
  rcases h with h | ⟨u,h⟩
  ·exact .inl (by rw[af (aX h hy (by intro z;cases z))];exact h)
  ·exact .inr ⟨u,by rw[af (aX h hy (by intro z;cases z))];exact h⟩
 ·exact .inr h
noncomputable def rQ (K:Frag)(c:Cs)(TC:Addr)(J:TJ)(ys:Ys)(nr:Addr):Sp:=fun vs H Q E=>∃ (y dy tb lx Ac lt:Addr)(n:Nat)(zO:List V)(ps:List (Int × Int))(wy:Wf)(rv:V)(zS:List V),vs=[.ref y, .ref tb,rv]/\H y=some (.ins ys.zG dy [])/\Ba c TC J H tb lx Ac lt n zO ps wy/\(∀ b ∈ ys.ex,∃ xs,H b=some (.lst xs)) /\
 ((rv = .zT/\zS=List.replicate ps.length (.int 1))∨(∃ ra,rv = .ref ra/\Sq K H ra zS/\zS.length <= 1000/\(∀ v ∈ zS,rB v)/\(pM ps.length zS=false->∀ H',zQ [y] H H'->E (.ref nr) none H'))) /\
 (pM ps.length zS=true->∀ (ro la le li dn:Addr)(H':Hp),zQ [y] H H'->H la=none->H le=none->H li=none->H dn=none->zR K ys H' y dy tb ro la le li dn (Y0 zS n)->Q .zT H')
noncomputable def L9 (s:Stmt):Scope:=match s with
 | .Assign _ (.ListComp _ _ sc _) _=>sc
 | _=>{ kind := .function,names:=[],isGenerator:=false,isCoroutine:=false }
theorem iS {v:V}{a b:Int}(h:jZ v a b=true):∃ r,v = .int r:=by
 cases v<;>first | exact⟨_,rfl⟩ | cases h
theorem Rf:am ["self", "table", "rooms"] ["self", "table", "rooms"] (ai iq):=L2.Ad
theorem LA:AS ["self", "table", "rooms"] (ai iq) (L9 ((aJ iq).getD 2 (.Pass ⟨0,0,0,0⟩))) [] []:=L2.BS
theorem LB:AS ["self", "table", "rooms"] (ai iq) (L9 ((aJ iq).getD 4 (.Pass ⟨0,0,0,0⟩))) [] []:=L2.BS
theorem LC:(["place"]:List Str).Nodup:=by decide +kernel
theorem y1 {c:Cs}{ys:Ys}{J:TJ}{TC f O3 fr fl nr:Addr}{fd O4 dr dl:FuncData}(F:Eb K "__init__" "Yard.__init__" iq f fd)(T:eW mg)(L:lC K c)(Y:iJ K ys)(W:Wy K TC O3 O4 J)
  (mr:mg "rooms_of" = some (.ref fr)) (kr:keepIn K (.ref fr)=true) (br:Binds K dr ["land", "rooms"] []) (Gr:zE P w K mg base (eP P w) 3 fr dr ["land", "rooms"] (ph K c nr))
  (ml:mg "Lane" = some (.ref ys.zY)) (Ml:Mk K ys.zY fl) (bl:Binds K dl ["self", "room"] []) (Gl:zE P w K mg base aG 1 fl dl ["self", "room"] (sk ys.zY)) :
  zE P w K mg base (eP P w) 4 f fd ["self", "table", "rooms"] (rQ K c TC J ys nr):=by
 refine F.Fb Rf (fun vs H Q E h=>?_) (fun cdv A outer s H vs Q E hr h=>?_)
 ·obtain⟨y,dy,tb,lx,Ac,lt,n,zO,ps,wy,rv,zS,rfl,_⟩:=h
  rfl
 ·obtain⟨y,dy,tb,lx,Ac,lt,n,zO,ps,wy,rv,zS,rfl,hy,hT,hex,hrv,q⟩:=h
  have GL:∀ b ∈ ys.ex,b ∉ [y]:=fun b hb z=>by obtain⟨xs,hz⟩:=hex b hb;rw[mem_singleton.mp z,hy]at hz;cases hz
  have AB:zN 2 _:=hr.mono (by decide)
  refine⟨_,ae (aV (pv 0) (pv 1) rfl)
   (ae (aV (pv 0) (lg (az Gr hr rfl mr kr br .nil (By.passes aP rfl) (aa (al (pv 1) rfl) (aa (pv 2) ad)))) rfl)
   (ae (aV (pv 0) (bA (own:=["room"]) (capN:=[]) (cap:=[]) LA rfl (lf (al (pv 0) rfl)) (fun C s' H' fp=>⟨au (i:=0) Ly rfl (Or.inl rfl),dH,dI Ml Gl AB rfl ml bl .nil aq (aa (pv 0) ad)⟩)) rfl)
   (ae (aV (pv 0) (aO ad) rfl)
   (ae (aV (pv 0) (bA (own:=["place"]) (capN:=[]) (cap:=[]) LB rfl (aM rfl T.range (aa (al (al (pv 1) rfl) rfl) ad)) (fun C s' H' fp=>⟨au (i:=0) LC rfl (Or.inl rfl),dH,bH ad⟩)) rfl)
   (ah (aV (pv 0) (aO ad) rfl)))))),?_⟩
  have hm40:=hT.Az
  have Rg:=hT.Rc
  obtain⟨C4,fst,Ca,Al,_⟩:=hT.i
  have kp:∀ {H':Hp},zQ [y] H H'->Ah H H':=fun o=>o.GK fun b hb=>by rw[mem_singleton.mp hb];exact⟨_,hy,id⟩
  have Rh:tb ≠ y:=aX Ca hy (fun z=>by injection z with _ _ z3;rw[z3]at Al;cases Al)
  refine⟨_,rfl,_,rfl,y,ys.zG,dy,_,rfl,hy,Y.cl,Y.n1,by show 0 < 1000;decide,?_⟩
  have o1:zQ [y] H (upd H y (.ins ys.zG dy (aK "table" (.ref tb) []))):=fun b o nb e=>by rw[af (fun z=>nb (by rw[z];exact mem_singleton.mpr rfl))];exact e
  have g1:(upd H y (.ins ys.zG dy (aK "table" (.ref tb) []))) y=some (.ins ys.zG dy [("table", .ref tb)]):=ac
  have VM:∀ ra,Sq K H ra zS->Sq K (upd H y (.ins ys.zG dy (aK "table" (.ref tb) []))) ra zS:=fun ra h=>h.elim (fun h => .inl (vk hy h)) fun h => .inr (fN hy h)
  show _
  generalize upd H y (.ins ys.zG dy (aK "table" (.ref tb) []))=A1 at o1 g1 VM ⊢
  have hT1:=hT.keep W (kp o1)
  have Jp:∀ {Ha Hb:Hp}{o:HO},zQ [y] Ha Hb->zQ [y] Ha (upd Hb y o):=fun {Ha Hb o} h b u nb e=>by rw[af (fun z=>nb (by rw[z];exact mem_singleton.mpr rfl))];exact h b u nb e
  refine⟨fun v A2=>∃ ro,v = .ref ro/\zD A1 A2/\zM K A2 ro zS/\pM ps.length zS=true,?_,?_⟩
  ·refine⟨_,rfl,tb,TC,C4,fst,_,rfl,o1 _ _ (fun z=>Rh (mem_singleton.mp z)) Ca,W.cl,W.nl,Al,_,rfl,lx,Ac,lt,(n:Int),zO,ps,rv,rfl,hT1.l,by omega,?_⟩
   rcases hrv with ⟨rfl,rfl⟩ | ⟨ra,rfl,hR,CV,Lz,qE⟩
   ·refine .inl ⟨rfl,fun t A2 s2 ht=>⟨t,rfl,s2,zM.of ht,?_⟩⟩
    unfold pM
    rw[length_replicate,decide_eq_true rfl,Bool.true_and,all_eq_true]
    intro v hv
    rw[eq_of_mem_replicate hv];rfl
   ·have hR1:Sq K A1 ra zS:=VM ra hR
    exact .inr ⟨ra,zS,rfl,hR1,CV,Lz,fun zL A2 s2=>qE zL A2 (o1.trans (zD.Aj s2)),fun zL t A2 s2 ht=>⟨t,rfl,s2,ht,zL⟩⟩
  rintro v A2 ⟨ro,rfl,s2,L4,zL⟩
  have AZ:zS.length=ps.length/\∀ v ∈ zS,∃ r,v = .int r:=by
   unfold pM at zL
   rw[Bool.and_eq_true,decide_eq_true_eq,all_eq_true]at zL
   exact⟨zL.1,fun v hv=>iS (zL.2 v hv)⟩
  have o2:zQ [y] H A2:=o1.trans (zD.Aj s2)
  have g2:=s2 _ _ g1
  refine⟨_,rfl,y,ys.zG,dy,_,rfl,g2,Y.cl,Y.n2,by show 1 < 1000;decide,?_⟩
  have o3:=Jp (o := .ins ys.zG dy (aK "rooms" (.ref ro) [("table", .ref tb)])) o2
  have g3:(upd A2 y (.ins ys.zG dy (aK "rooms" (.ref ro) [("table", .ref tb)]))) y=some (.ins ys.zG dy [("table", .ref tb),("rooms", .ref ro)]):=ac
  have FG:zM K (upd A2 y (.ins ys.zG dy (aK "rooms" (.ref ro) [("table", .ref tb)]))) ro zS:=fN g2 L4
  show _
  generalize upd A2 y (.ins ys.zG dy (aK "rooms" (.ref ro) [("table", .ref tb)]))=A3 at o3 g3 FG ⊢
  have Ri:∀ b ∈ ys.ex,∃ o,A3 b=some o:=fun b hb=>let ⟨xs,hz⟩:=hex b hb; ⟨_,o3 b _ (GL b hb) hz⟩
  refine⟨_,rfl,y,ys.zG,dy,_,_,rfl,g3,Y.cl,Y.n2,rfl,ro,rfl,⟨_,FG⟩,?_⟩
  refine oP (C:=ys.zY) (by rw[sizeLine_eq];omega) FG AZ.2 (fun r B N sB hN=>?_) (fun la zK A4 s4 AX FH=>?_)
  ·refine⟨_,rfl,fun x dx nx LD GL=>⟨x,dx,r,rfl,ac,fun pa B2 Ec off hL=>⟨rfl,?_⟩⟩⟩
   have CU:B pa=none:=by
    by_cases e1:pa=x
    ·rw[e1,ac]at Ec;cases Ec
    ·by_cases e2:pa=dx
     ·rw[e2,af GL,ac]at Ec;cases Ec
     ·rw[af e1,af e2]at Ec;exact Ec
   refine hN x dx pa B2 nx CU (fun b o e=>off b o (ag e nx) ?_) hL
   rw[af (ag e nx),af (ag e LD)]
   exact e
  have o4:zQ [y] H A4:=o3.trans (zD.Aj s4)
  have g4:=s4 _ _ g3
  have GN:la ≠ y:=Ne.symm (ag g4 AX)
  have la0:H la=none:=by
   cases e:H la with
   | none=>rfl
   | some u=>rw[o4 _ _ (fun z=>GN (mem_singleton.mp z)) e]at AX;cases AX
  have VN:Paired (Ak y (la :: ys.ex) (upd A4 la (.lst zK)) ys.zY) zK (zS.map pR):=Paired.mono (fun _ _ z=>(z.L7 g3 Ri).new AX) FH
  have o5:zQ [y] H (upd A4 la (.lst zK)):=o4.trans (zD.Aj ((zD.refl A4).new AX))
  have g5:(upd A4 la (.lst zK)) y=some (.ins ys.zG dy [("table", .ref tb),("rooms", .ref ro)]):=by rw[af (Ne.symm GN)];exact g4
  have LF:(upd A4 la (.lst zK)) la=some (.lst zK):=ac
  have LG:zM K (upd A4 la (.lst zK)) ro zS:=b6 ((zD.refl A4).new AX) (b6 s4 FG)
  refine⟨_,rfl,y,ys.zG,dy,_,rfl,g5,Y.cl,Y.n3,by show 2 < 1000;decide,?_⟩
  generalize upd A4 la (.lst zK)=A5 at VN o5 g5 LF LG ⊢
  have VO:Paired (Ak y (la :: ys.ex) (upd A5 y (.ins ys.zG dy (aK "lanes" (.ref la) [("table", .ref tb),("rooms", .ref ro)]))) ys.zY) zK (zS.map pR):=Paired.mono (fun _ _ z=>z.upd) VN
  have o6:=Jp (o := .ins ys.zG dy (aK "lanes" (.ref la) [("table", .ref tb),("rooms", .ref ro)])) o5
  have g6:(upd A5 y (.ins ys.zG dy (aK "lanes" (.ref la) [("table", .ref tb),("rooms", .ref ro)]))) y=some (.ins ys.zG dy [("table", .ref tb),("rooms", .ref ro),("lanes", .ref la)]):=ac
  have Ik:(upd A5 y (.ins ys.zG dy (aK "lanes" (.ref la) [("table", .ref tb),("rooms", .ref ro)]))) la=some (.lst zK):=by rw[af GN];exact LF
  have LH:=fN (o := .ins ys.zG dy (aK "lanes" (.ref la) [("table", .ref tb),("rooms", .ref ro)])) g5 LG
  generalize upd A5 y (.ins ys.zG dy (aK "lanes" (.ref la) [("table", .ref tb),("rooms", .ref ro)]))=A6 at VO o6 g6 Ik LH ⊢
  refine⟨zero_le _,fun le hle=>?_⟩
  have Il:le ≠ y:=Ne.symm (ag g6 hle)
  have GO:la ≠ le:=ag Ik hle
  have le0:H le=none:=by
   cases e:H le with
   | none=>rfl
   | some u=>rw[o6 _ _ (fun z=>Il (mem_singleton.mp z)) e]at hle;cases hle
  have VP:Paired (Ak y (le :: la :: ys.ex) (upd A6 le (.lst [])) ys.zY) zK (zS.map pR):=Paired.mono (fun _ _ z=>z.new hle) VO
  have o7:zQ [y] H (upd A6 le (.lst [])):=o6.trans (zD.Aj ((zD.refl A6).new hle))
  have g7:(upd A6 le (.lst [])) y=some (.ins ys.zG dy [("table", .ref tb),("rooms", .ref ro),("lanes", .ref la)]):=by rw[af (Ne.symm Il)];exact g6
  have LJ:(upd A6 le (.lst [])) la=some (.lst zK):=by rw[af GO];exact Ik
  have LK:(upd A6 le (.lst [])) le=some (.lst []):=ac
  have LL:zM K (upd A6 le (.lst [])) ro zS:=b6 ((zD.refl A6).new hle) LH
  refine⟨_,rfl,y,ys.zG,dy,_,rfl,g7,Y.cl,Y.n4,by show 3 < 1000;decide,?_⟩
  generalize upd A6 le (.lst [])=A7 at VP o7 g7 LJ LK LL ⊢
  have VQ:Paired (Ak y (le :: la :: ys.ex) (upd A7 y (.ins ys.zG dy (aK "letters" (.ref le) [("table", .ref tb),("rooms", .ref ro),("lanes", .ref la)]))) ys.zY) zK (zS.map pR):=Paired.mono (fun _ _ z=>z.upd) VP
  have o8:=Jp (o := .ins ys.zG dy (aK "letters" (.ref le) [("table", .ref tb),("rooms", .ref ro),("lanes", .ref la)])) o7
  have g8:(upd A7 y (.ins ys.zG dy (aK "letters" (.ref le) [("table", .ref tb),("rooms", .ref ro),("lanes", .ref la)]))) y=some (.ins ys.zG dy [("table", .ref tb),("rooms", .ref ro),("lanes", .ref la),("letters", .ref le)]):=ac
  have Im:(upd A7 y (.ins ys.zG dy (aK "letters" (.ref le) [("table", .ref tb),("rooms", .ref ro),("lanes", .ref la)]))) la=some (.lst zK):=by rw[af GN];exact LJ
  have Io:(upd A7 y (.ins ys.zG dy (aK "letters" (.ref le) [("table", .ref tb),("rooms", .ref ro),("lanes", .ref la)]))) le=some (.lst []):=by rw[af Il];exact LK
  have LM:=fN (o := .ins ys.zG dy (aK "letters" (.ref le) [("table", .ref tb),("rooms", .ref ro),("lanes", .ref la)])) g7 LL
  generalize upd A7 y (.ins ys.zG dy (aK "letters" (.ref le) [("table", .ref tb),("rooms", .ref ro),("lanes", .ref la)]))=A8 at VQ o8 g8 Im Io LM ⊢
  have hT8:=hT.keep W (kp o8)
  refine⟨_,rfl,tb,TC,C4,fst,_,rfl,o8 _ _ (fun z=>Rh (mem_singleton.mp z)) Ca,W.cl,W.nl,Al,lx,c.land,Ac,_,_,rfl,hT8.l.1,L.cl,L.np,rfl,(n:Int),rfl,by omega,by omega,?_⟩
  rw[toNat_natCast]
  refine rq (by omega) (fun i B N sB hN=>⟨zero_le _,fun t ht=>hN t ht⟩) (fun li EG A9 s9 Cm hLi=>?_)
  have g9:=s9 _ _ g8
  have o9:zQ [y] H A9:=o8.trans (zD.Aj s9)
  have LN:li ≠ y:=Ne.symm (ag g9 Cm)
  have LO:la ≠ li:=ag (s9 _ _ Im) Cm
  have LP:le ≠ li:=ag (s9 _ _ Io) Cm
  have li0:H li=none:=by
   cases e:H li with
   | none=>rfl
   | some u=>rw[o9 _ _ (fun z=>LN (mem_singleton.mp z)) e]at Cm;cases Cm
  have Jq:=(zD.refl A9).new (o := .lst EG) Cm
  have LQ:Paired (Ak y (li :: le :: la :: ys.ex) (upd A9 li (.lst EG)) ys.zY) zK (zS.map pR):=Paired.mono (fun _ _ z=>(z.same s9).new Cm) VQ
  have GQ:Paired (Bb (upd A9 li (.lst EG))) EG (List.replicate n []):=Paired.mono (fun _ _ z=>z.keep (zD.zZ Jq)) hLi
  have GS:(upd A9 li (.lst EG)) li=some (.lst EG):=ac
  have VR:zQ [y] H (upd A9 li (.lst EG)):=o9.trans (zD.Aj Jq)
  have O5:=Jq _ _ g9
  have GU:=Jq _ _ (s9 _ _ Im)
  have GV:=Jq _ _ (s9 _ _ Io)
  have GX:=b6 Jq (b6 s9 LM)
  refine⟨_,rfl,y,ys.zG,dy,_,rfl,O5,Y.cl,Y.n5,by show 4 < 1000;decide,?_⟩
  generalize upd A9 li (.lst EG)=Ip at LQ GQ GS VR O5 GU GV GX ⊢
  have LR:∀ {B:Hp}{o:HO}{C d:Addr}{fs:Fs}{v:V}{qs:List (Int × Int)},B y=some (.ins C d fs)->Bb B v qs->Bb (upd B y o) v qs:=fun {B o C d fs v qs} hB h=>by
   obtain⟨t,ws,e,h1,h2⟩:=h
   exact⟨t,ws,e,by rw[af (aX h1 hB (by intro z;cases z))];exact h1,zX.imp (fun _ _ zH=>by obtain⟨t',e',q'⟩:=zH;exact⟨t',e',by rw[af (aX q' hB (by intro z;cases z))];exact q'⟩) h2⟩
  have LS:Paired (Ak y (li :: le :: la :: ys.ex) (upd Ip y (.ins ys.zG dy (aK "lies" (.ref li) [("table", .ref tb),("rooms", .ref ro),("lanes", .ref la),("letters", .ref le)]))) ys.zY) zK (zS.map pR):=Paired.mono (fun _ _ z=>z.upd) LQ
  have GZ:Paired (Bb (upd Ip y (.ins ys.zG dy (aK "lies" (.ref li) [("table", .ref tb),("rooms", .ref ro),("lanes", .ref la),("letters", .ref le)])))) EG (List.replicate n []):=Paired.mono (fun _ _ z=>LR O5 z) GQ
  have O6:=Jp (o := .ins ys.zG dy (aK "lies" (.ref li) [("table", .ref tb),("rooms", .ref ro),("lanes", .ref la),("letters", .ref le)])) VR
  have Rj:(upd Ip y (.ins ys.zG dy (aK "lies" (.ref li) [("table", .ref tb),("rooms", .ref ro),("lanes", .ref la),("letters", .ref le)]))) y=some (.ins ys.zG dy [("table", .ref tb),("rooms", .ref ro),("lanes", .ref la),("letters", .ref le),("lies", .ref li)]):=ac
  have EH:(upd Ip y (.ins ys.zG dy (aK "lies" (.ref li) [("table", .ref tb),("rooms", .ref ro),("lanes", .ref la),("letters", .ref le)]))) la=some (.lst zK):=by rw[af GN];exact GU
  have EI:(upd Ip y (.ins ys.zG dy (aK "lies" (.ref li) [("table", .ref tb),("rooms", .ref ro),("lanes", .ref la),("letters", .ref le)]))) le=some (.lst []):=by rw[af Il];exact GV
  have EJ:(upd Ip y (.ins ys.zG dy (aK "lies" (.ref li) [("table", .ref tb),("rooms", .ref ro),("lanes", .ref la),("letters", .ref le)]))) li=some (.lst EG):=by rw[af LN];exact GS
  have Hi:=fN (o := .ins ys.zG dy (aK "lies" (.ref li) [("table", .ref tb),("rooms", .ref ro),("lanes", .ref la),("letters", .ref le)])) O5 GX
  generalize upd Ip y (.ins ys.zG dy (aK "lies" (.ref li) [("table", .ref tb),("rooms", .ref ro),("lanes", .ref la),("letters", .ref le)]))=A11 at LS GZ O6 Rj EH EI EJ Hi ⊢
  refine⟨zero_le _,fun dn Cn=>?_⟩
  have O7:dn ≠ y:=Ne.symm (ag Rj Cn)
  have LU:la ≠ dn:=ag EH Cn
  have LV:le ≠ dn:=ag EI Cn
  have LW:li ≠ dn:=ag EJ Cn
  have dn0:H dn=none:=by
   cases e:H dn with
   | none=>rfl
   | some u=>rw[O6 _ _ (fun z=>O7 (mem_singleton.mp z)) e]at Cn;cases Cn
  have Hj:=(zD.refl A11).new (o := .lst []) Cn
  have Rk:=Hj _ _ Rj
  refine⟨_,rfl,y,ys.zG,dy,_,rfl,Rk,Y.cl,Y.n6,by show 5 < 1000;decide,?_⟩
  refine q zL ro la le li dn _ (Jp (O6.trans (zD.Aj Hj))) la0 le0 li0 dn0 ⟨ac,fN Rk (b6 Hj Hi),⟨zK,by rw[af GN];exact Hj _ _ EH,?_⟩,⟨[],by rw[af Il];exact Hj _ _ EI, .nil⟩,⟨EG,by rw[af LN];exact Hj _ _ EJ,Paired.mono (fun _ _ z=>LR Rk (z.keep (zD.zZ Hj))) GZ⟩,⟨[],by rw[af O7];exact ac, .nil⟩,?_,(fun b hb=>let ⟨xs,hz⟩:=hex b hb; ⟨xs,(Jp (O6.trans (zD.Aj Hj))) b _ (GL b hb) hz⟩)⟩
  ·refine Paired.mono (fun _ _ z=>((z.new Cn).upd).L8 fun a ha=>?_) LS
   simp only[mem_cons]at ha ⊢
   rcases ha with rfl | rfl | rfl | rfl | h
   ·exact .inr (.inr (.inr (.inl rfl)))
   ·exact .inr (.inr (.inl rfl))
   ·exact .inr (.inl rfl)
   ·exact .inl rfl
   ·exact .inr (.inr (.inr (.inr h)))
  ·simp only[nodup_cons,mem_cons,not_mem_nil,or_false,not_or,not_false_eq_true,and_true,nodup_nil]
   exact⟨⟨GO,LO,LU⟩,⟨LP,LV⟩,LW⟩
theorem zR.off {K:Frag}{ys:Ys}{H H':Hp}{y dy tb ro la le li dn:Addr}{s:YS}(h:zR K ys H y dy tb ro la le li dn s)(o:zQ (la :: le :: li :: dn :: ys.ex) H H'):H' y=some (.ins ys.zG dy (O2 tb ro la le li dn))/\zM K H' ro s.rooms/\(∀ vs ss,Paired (BM H ys.zY (la :: le :: li :: dn :: ys.ex)) vs ss->Paired (BM H' ys.zY (la :: le :: li :: dn :: ys.ex)) vs ss)/\(∀ vs ss,Paired (C3 H ys.zF (la :: le :: li :: dn :: ys.ex)) vs ss->Paired (C3 H' ys.zF (la :: le :: li :: dn :: ys.ex)) vs ss)/\(∀ vs ss,Paired (Bb H) vs ss->Paired (Bb H') vs ss)/\∀ vs ss,Paired (Bu H) vs ss->Paired (Bu H') vs ss:=by
 have hx:=h.DL
 have k:=o.zZ hx
 refine⟨k _ _ h.ins True.intro,?_,fun vs ss=>Paired.mono fun _ _ z=>z.Aj hx o,fun vs ss=>Paired.mono fun _ _ z=>z.Aj hx o,fun vs ss=>Paired.mono fun _ _ z=>z.keep k,fun vs ss=>Paired.mono fun _ _ z=>z.keep k⟩
 rcases h.L4 with r | r
 ·refine .inl ?_
  rcases r with r | ⟨u,r⟩
  ·exact .inl (k _ _ r True.intro)
  ·exact .inr ⟨u,k _ _ r True.intro⟩
 ·exact .inr r
theorem ck {ex:List Addr}{a:Addr}{H:Hp}{o:HO}(ha:a ∈ ex):zQ ex H (upd H a o):=fun b u nb e=>by rw[af (fun z=>nb (by rw[z];exact ha))];exact e
theorem lu {H:Hp}{x b:Addr}{zs:List V}(h:∃ xs,H b=some (.lst xs)):∃ xs,(upd H x (.lst zs)) b=some (.lst xs):=by
 by_cases e:b=x
 ·exact⟨zs,by rw[e,ac]⟩
 ·obtain⟨xs,hz⟩:=h
  exact⟨xs,by rw[af e];exact hz⟩
theorem zR.LX {K:Frag}{ys:Ys}{H:Hp}{y dy tb ro la le li dn:Addr}{s:YS}(h:zR K ys H y dy tb ro la le li dn s){vs:List V}{v:V}{t:bj}(hv:H le=some (.lst vs))(hL:C3 H ys.zF (la :: le :: li :: dn :: ys.ex) v t):zR K ys (upd H le (.lst (vs ++ [v]))) y dy tb ro la le li dn { s with U:=s.U ++ [t] }:=by
 obtain⟨h1,h2,f1,f2,f3,f4⟩:=h.off (ck (a:=le) (o := .lst (vs ++ [v])) (by simp))
 obtain⟨v1,a1,p1⟩:=h.AX
 obtain⟨v2,a2,p2⟩:=h.hle
 obtain⟨v3,a3,p3⟩:=h.Cm
 obtain⟨v4,a4,p4⟩:=h.Cn
 rw[hv]at a2
 cases a2
 have ne:=h.ne
 simp only[nodup_cons,mem_cons,not_mem_nil,or_false,not_or,not_false_eq_true,and_true,nodup_nil]at ne
 have Rl:Paired (C3 (upd H le (.lst (vs ++ [v]))) ys.zF (la :: le :: li :: dn :: ys.ex)) [v] [t]:=f2 [v] [t] (.cons hL .nil)
 exact⟨h1,h2,⟨v1,by rw[af ne.1.1];exact a1,f1 _ _ p1⟩,⟨vs ++ [v],ac,Paired.snoc (by cases Rl with | cons z _=>exact z) (f2 _ _ p2)⟩,⟨v3,by rw[af (Ne.symm ne.2.1.1)];exact a3,f3 _ _ p3⟩,⟨v4,by rw[af (Ne.symm ne.2.1.2)];exact a4,f4 _ _ p4⟩,h.ne,fun b hb=>lu (h.hex b hb)⟩
theorem zR.Hk {K:Frag}{ys:Ys}{H:Hp}{y dy tb ro la le li dn:Addr}{s:YS}(h:zR K ys H y dy tb ro la le li dn s){vs:List V}{v:V}{t:List V}(hv:H dn=some (.lst vs))(hL:Bu H v t):zR K ys (upd H dn (.lst (vs ++ [v]))) y dy tb ro la le li dn { s with done:=s.done ++ [t] }:=by
 obtain⟨h1,h2,f1,f2,f3,f4⟩:=h.off (ck (a:=dn) (o := .lst (vs ++ [v])) (by simp))
 obtain⟨v1,a1,p1⟩:=h.AX
 obtain⟨v2,a2,p2⟩:=h.hle
 obtain⟨v3,a3,p3⟩:=h.Cm
 obtain⟨v4,a4,p4⟩:=h.Cn
 rw[hv]at a4
 cases a4
 have ne:=h.ne
 simp only[nodup_cons,mem_cons,not_mem_nil,or_false,not_or,not_false_eq_true,and_true,nodup_nil]at ne
 have Rl:Paired (Bu (upd H dn (.lst (vs ++ [v])))) [v] [t]:=f4 [v] [t] (.cons hL .nil)
 exact⟨h1,h2,⟨v1,by rw[af ne.1.2.2];exact a1,f1 _ _ p1⟩,⟨v2,by rw[af ne.2.1.2];exact a2,f2 _ _ p2⟩,⟨v3,by rw[af ne.2.2];exact a3,f3 _ _ p3⟩,⟨vs ++ [v],ac,Paired.snoc (by cases Rl with | cons z _=>exact z) (f4 _ _ p4)⟩,h.ne,fun b hb=>lu (h.hex b hb)⟩
inductive Pd
 | place | length | word | way | full | good
noncomputable def lh (n:Nat)(wy:Wf)(m:Nat)(sv gv lv wv:V):Pd :=
 if (jZ sv 0 ((n:Int) - 1) && jZ gv 0 ((n:Int) - 1))=false then .place else if jZ lv 1 60=false then .length else if O1 wv=false then .word
 else if vI sv=vI gv∨wy (vI sv).toNat (vI gv).toNat none=[] then .way else if 60 <= m then .full else .good
structure Xs where
 place:Addr
 length:Addr
 word:Addr
 way:Addr
 full:Addr
noncomputable def gc (s:YS)(a b l u:Int):YS:={ s with U:=s.U ++ [⟨a,b,l,u,0,[]⟩],done:=s.done ++ [[.str "post", .int a, .int b, .int l, .int u]] }
noncomputable def nL (K:Frag)(c:Cs)(TC:Addr)(J:TJ)(ys:Ys)(x:Xs):Sp:=fun vs H Q E=>∃ (y dy tb ro la le li dn lx Ac lt:Addr)(n:Nat)(zO:List V)(ps:List (Int × Int))(wy:Wf)(s:YS)(sv gv lv wv:V),vs=[.ref y,sv,gv,lv,wv]/\zR K ys H y dy tb ro la le li dn s/\Ba c TC J H tb lx Ac lt n zO ps wy/\rB sv/\rB gv/\rB lv/\rB wv/\s.U.length <= 900/\s.done.length <= 10000 /\
 (lh n wy s.U.length sv gv lv wv = .place->∀ H',zD H H'->E (.ref x.place) none H') /\
 (lh n wy s.U.length sv gv lv wv = .length->∀ H',zD H H'->E (.ref x.length) none H') /\
 (lh n wy s.U.length sv gv lv wv = .word->∀ H',zD H H'->E (.ref x.word) none H') /\
 (lh n wy s.U.length sv gv lv wv = .way->∀ H' d,zD H H'->H' d=some (.xd [("start",sv),("goal",gv)])->E (.ref x.way) (some d) H') /\
 (lh n wy s.U.length sv gv lv wv = .full->∀ H',zD H H'->E (.ref x.full) none H') /\
 (lh n wy s.U.length sv gv lv wv = .good->∀ H',zQ [le,dn] H H'->zR K ys H' y dy tb ro la le li dn (gc s (vI sv) (vI gv) (vI lv) (vI wv))->Q (.int s.U.length) H')
structure VS (K:Frag)(mg:Str->Option Value)(C f:Addr)(d:FuncData):Prop where
 m:mg "NoWay" = some (.ref C)
 x:bz K C (some (.ref f))=true
 k:keepIn K (.ref C)=true
 c:gJ K C
 n1:findIn K (.ref C) "start" = some none
 n2:findIn K (.ref C) "goal" = some none
 i:isFn K (.ref f)=true
 F:Ab K "__init__" "NoWay.__init__" vw f d
 b:Binds K d ["self", "start", "goal"] []
abbrev NPo:List Str:=["self", "start", "goal", "length", "word", "last_place"]
abbrev LY:List Str:=["self", "start", "goal", "length", "word"]
theorem LZ:am NPo LY (ai gU):=L2.Ad
theorem vS {c:Cs}{ys:Ys}{x:Xs}{J:TJ}{TC f O3 fw Rm fl VT:Addr}{fd O4 dw VU dl VW:FuncData}{t1 t2:Tok}(F:Eb K "post" "Yard.post" gU f fd)(T:eW mg)(L:lC K c)(Y:iJ K ys)(W:Wy K TC O3 O4 J)(Iq:zE P w K mg base aG 3 O3 O4 ["self", "place", "goal", "came"] (eE J))
  (mw:mg "is_within" = some (.ref fw)) (kw:keepIn K (.ref fw)=true) (bw:Binds K dw ["value", "least", "most"] []) (Gw:zE P w K mg base aG 2 fw dw ["value", "least", "most"] fO)
  (mwo:mg "is_word" = some (.ref Rm)) (kwo:keepIn K (.ref Rm)=true) (bwo:Binds K VU ["word"] []) (Rn:zE P w K mg base aG 2 Rm VU ["word"] rR)
  (ml:mg "Letter" = some (.ref ys.zF)) (Ml:Mk K ys.zF fl) (bl:Binds K dl ["self", "start", "goal", "length", "word"] []) (Gl:zE P w K mg base aG 1 fl dl ["self", "start", "goal", "length", "word"] (sj ys.zF))
  (mL:mg "MOST_LENGTH" = some (.int 60 t1)) (mM:mg "MOST_LETTERS" = some (.int 60 t2)) (X1:ve K mg "NoPlace" x.place) (X2:ve K mg "NoLength" x.length) (X3:ve K mg "NoWord" x.word) (X4:VS K mg x.way VT VW) (X5:ve K mg "Full" x.full) :
  zE P w K mg base (eP P w) 4 f fd LY (nL K c TC J ys x):=by
 have Gnw:zE P w K mg base aG 1 VT VW ["self", "start", "goal"] (wZ K "start" "goal"):=L1 X4.F
 refine F.Fb LZ (fun vs H Q E h=>?_) (fun cdv A outer s H vs Q E hr h=>?_)
 ·obtain⟨y,dy,tb,ro,la,le,li,dn,lx,Ac,lt,n,zO,ps,wy,s,sv,gv,lv,wv,rfl,_⟩:=h
  rfl
 ·obtain⟨y,dy,tb,ro,la,le,li,dn,lx,Ac,lt,n,zO,ps,wy,st,sv,gv,lv,wv,rfl,hY,hT,cs,cg,cl,cw,hl9,hd9,e1,e2,e3,e4,e5,q⟩:=h
  have AB:zN 2 _:=hr.mono (by decide)
  refine⟨_,ae (ay (i:=5) LZ.nd rfl (Or.inl rfl) (aE dq (al (al (al (pv 0) rfl) rfl) rfl) aj))
   (ae (aL (PW.pt (eR (bE (bu (az Gw AB rfl mw kw bw .nil aq (aa (pv 1) (aa aj (aa (pv 5) ad)))))) (dL (bE (bu (az Gw AB rfl mw kw bw .nil aq (aa (pv 2) (aa aj (aa (pv 5) ad)))))))))
    (ah (b9 rfl X1.x aP (ca X1.x X1.k rfl rfl X1.m (aa bv ad)))) aA)
   (ae (aL (bE (bu (az Gw AB rfl mw kw bw .nil aq (aa (pv 3) (aa aj (aa (eK (v := .int 60) rfl mL ⟨_,rfl⟩) ad))))))
    (ah (b9 rfl X2.x aP (ca X2.x X2.k rfl rfl X2.m (aa bv ad)))) aA)
   (ae (aL (bE (bu (az Rn AB rfl mwo kwo bwo .nil aq (aa (pv 4) ad))))
    (ah (b9 rfl X3.x aP (ca X3.x X3.k rfl rfl X3.m (aa bv ad)))) aA)
   (ae (aL (fP (PW.pt (eR (ap aZ (pv 1) (pv 2) (av _)) (dL (bE (jv (aC (al (pv 0) rfl) W.cl W.m Iq hr W.b .nil aq (aa (pv 1) (aa (pv 2) (aa bV ad)))) (fun _=>rfl)))))))
    (ah (b9 rfl X4.x aP (iP X4.x X4.i X4.k Gnw AB X4.b rfl X4.m (aa (pv 1) (aa (pv 2) ad))))) aA)
   (ae (aL (ap xo (ax ao rfl T.len PySem.boot_len (aa (al (pv 0) rfl) ad)) (eK (v := .int 60) rfl mM ⟨_,rfl⟩) (av _))
    (ah (b9 rfl X5.x aP (ca X5.x X5.k rfl rfl X5.m (aa bv ad)))) aA)
   (ae (aS (cr plainAttrs_list PySem.F.slot_list_append PySem.F.type_list_append bG (al (pv 0) rfl) (aa (dI Ml Gl AB rfl ml bl .nil aq (aa (pv 1) (aa (pv 2) (aa (pv 3) (aa (pv 4) ad))))) ad)))
   (ae (aS (cr plainAttrs_list PySem.F.slot_list_append PySem.F.type_list_append bG (al (pv 0) rfl) (aa (bH (aa bv (aa (pv 1) (aa (pv 2) (aa (pv 3) (aa (pv 4) ad)))))) ad)))
   (ah (ar (aE dq (ax ao rfl T.len PySem.boot_len (aa (al (pv 0) rfl) ad)) aj)))))))))),?_⟩
  obtain⟨C4,fst,Ca,Al,Bi⟩:=hT.i
  unfold lh at e1 e2 e3 e4 e5 q
  refine⟨_,rfl,y,ys.zG,dy,_,_,rfl,hY.ins,Y.cl,Y.n1,rfl,tb,TC,C4,fst,_,rfl,Ca,W.cl,W.nl,Al,lx,c.land,Ac,_,_,rfl,hT.l.1,L.cl,L.np,rfl,_,_,rfl,rfl,?_⟩
  refine⟨_,rfl,_,rfl,sv,0,(n:Int) - 1,rfl,cs,_,rfl,?_⟩
  cases h1:jZ sv 0 ((n:Int) - 1) with
  | false =>
   refine aH (aH ⟨by show 1 <= sizeLine;decide,?_⟩)
   exact e1 (by rw[h1,Bool.false_and,if_pos rfl]) H (zD.refl H)
  | true =>
  refine aD ⟨_,rfl,_,rfl,gv,0,(n:Int) - 1,rfl,cg,_,rfl,?_⟩
  cases h2:jZ gv 0 ((n:Int) - 1) with
  | false =>
   refine aH ⟨by show 1 <= sizeLine;decide,?_⟩
   exact e1 (by rw[h1,h2,Bool.and_false,if_pos rfl]) H (zD.refl H)
  | true =>
  rw[h1,h2,Bool.true_and,if_neg (by decide)]at e2 e3 e4 e5 q
  refine aD ⟨_,rfl,lv,1,60,rfl,cl,_,rfl,?_⟩
  cases h3:jZ lv 1 60 with
  | false =>
   refine aH ⟨by show 1 <= sizeLine;decide,?_⟩
   exact e2 (by rw[h3,if_pos rfl]) H (zD.refl H)
  | true =>
  rw[h3,if_neg (by decide)]at e3 e4 e5 q
  refine aD ⟨_,rfl,wv,rfl,cw,_,rfl,?_⟩
  cases h4:O1 wv with
  | false =>
   refine aH ⟨by show 1 <= sizeLine;decide,?_⟩
   exact e3 (by rw[h4,if_pos rfl]) H (zD.refl H)
  | true =>
  rw[h4,if_neg (by decide)]at e4 e5 q
  refine aD ?_
  obtain⟨a,rfl⟩:=iS h1
  obtain⟨b,rfl⟩:=iS h2
  obtain⟨l,rfl⟩:=iS h3
  obtain⟨u,rfl⟩:∃ u,wv = .int u:=by
   cases wv<;>first | exact⟨_,rfl⟩ | cases h4
  have ha:0 <= a/\a <= (n:Int) - 1:=of_decide_eq_true h1
  have hb:0 <= b/\b <= (n:Int) - 1:=of_decide_eq_true h2
  obtain⟨a',rfl⟩:∃ a':Nat,a=(a':Int):=⟨a.toNat,by omega⟩
  obtain⟨b',rfl⟩:∃ b':Nat,b=(b':Int):=⟨b.toNat,by omega⟩
  have ev:∀ z:Int,vI (.int z)=z:=fun _=>rfl
  rw[ev,ev,toNat_natCast,toNat_natCast]at e4 e5 q
  refine⟨fun k H1=>zD H H1/\k=decide ((a':Int)=(b':Int)∨wy a' b' none=[]),?_,?_⟩
  ·refine⟨_,rfl,_,rfl,rfl,_,rfl,?_⟩
   rw[bP]
   by_cases Ep:(a':Int)=(b':Int)
   ·rw[decide_eq_true Ep]
    exact aH ⟨zD.refl H,by rw[decide_eq_true (Or.inl Ep)]⟩
   ·rw[decide_eq_false Ep]
    refine aD ⟨_,rfl,y,ys.zG,dy,_,_,rfl,hY.ins,Y.cl,Y.n1,rfl,tb,C4,fst,rfl,Ca,Bi,_,rfl,_,rfl,tb,n,wy,a',b',none,rfl,hT.j,by omega,by omega,fun D H1 s1 hD gD=>⟨_, .inl ⟨_,zJ.of gD,rfl⟩,s1,?_⟩⟩
    cases hw:wy a' b' none with
    | nil=>rw[decide_eq_true (Or.inr rfl)];rfl
    | cons z zs=>rw[decide_eq_false (fun z=>z.elim Ep fun z=>by cases z)];rfl
  rintro k H1 ⟨s1,rfl⟩
  have CW:=hY.same s1
  by_cases FI:(a':Int)=(b':Int)∨wy a' b' none=[]
  ·rw[decide_eq_true FI]
   refine aH ⟨_,rfl,_,rfl,by show 2 <= sizeLine;decide,fun e tt he=>⟨e,_,tt,_,_,rfl,ac,X4.c,X4.n1,X4.n2,fun d H2 hd off Fc hd2=>⟨rfl,some d,Fc,?_⟩⟩⟩
   have Fg:d ≠ e:=fun z=>by rw[z,ac]at hd;cases hd
   refine e4 (by rw[if_pos FI]) _ d (fun z o ez=>?_) (by rw[dO Fg];exact hd2)
   have Rp:z ≠ e:=ag (s1 _ _ ez) he
   rw[dO Rp]
   exact off z o Rp (by rw[af Rp];exact s1 _ _ ez)
  rw[decide_eq_false FI]
  rw[if_neg FI]at e5 q
  refine aD ?_
  obtain⟨Ef,Be,pl⟩:=CW.hle
  have D9:Ef.length=st.U.length:=Paired.length pl
  refine⟨_,rfl,y,ys.zG,dy,_,_,rfl,CW.ins,Y.cl,Y.n4,rfl,le,_,rfl, .inl (zJ.of Be),_,_,rfl,rfl,_,rfl,?_⟩
  by_cases Hl:60 <= st.U.length
  ·rw[decide_eq_true (show (60:Int) <= (Ef.length:Nat) by omega)]
   refine aH ⟨by show 1 <= sizeLine;decide,?_⟩
   exact e5 (by rw[if_pos Hl]) H1 s1
  rw[decide_eq_false (show ¬ (60:Int) <= (Ef.length:Nat) by omega)]
  rw[if_neg Hl]at q
  refine aD ?_
  refine⟨_,rfl,y,ys.zG,dy,_,_,rfl,CW.ins,Y.cl,Y.n4,rfl, .inl ⟨rfl,_,zJ.of Be⟩,_,rfl,_,rfl,_,rfl,_,rfl,fun xl B8 nx LD GL=>⟨xl,B8,(a':Int),(b':Int),l,u,rfl,ac,fun wa H2 Ee off Ff Hm=>⟨rfl,?_⟩⟩⟩
  have Rq:zD H1 H2:=fun z o ez=>off z o (ag ez nx) (by rw[af (ag ez nx),af (ag ez LD)];exact ez)
  have Rr:H1 wa=none:=by
   by_cases z1:wa=xl
   ·rw[z1,ac]at Ee;cases Ee
   ·by_cases z2:wa=B8
    ·rw[z2,af GL,ac]at Ee;cases Ee
    ·rw[af z1,af z2]at Ee;exact Ee
  have DN:=CW.same Rq
  have Mb:=Rq _ _ Be
  have Fl:C3 H2 ys.zF (la :: le :: li :: dn :: ys.ex) (.ref xl) ⟨(a':Int),(b':Int),l,u,0,[]⟩:=⟨xl,B8,wa,rfl,Ff,Hm,fun z=>by obtain⟨xs,hz⟩:=CW.DL wa z;rw[Rr]at hz;cases hz⟩
  refine⟨le,_,_,rfl,rfl,Mb,by rw[sizeLine_eq];omega,?_⟩
  have CY:=DN.LX Mb Fl
  have o3:zQ [le,dn] H (upd H2 le (.lst (Ef ++ [.ref xl]))):=(zD.Aj (s1.trans Rq)).trans (ck (by simp))
  generalize upd H2 le (.lst (Ef ++ [.ref xl]))=H3 at CY o3 ⊢
  obtain⟨AV,Jr,pd⟩:=CY.Cn
  have Gz:AV.length=st.done.length:=Paired.length pd
  refine⟨_,rfl,y,ys.zG,dy,_,_,rfl,CY.ins,Y.cl,Y.n6,rfl, .inl ⟨rfl,_,zJ.of Jr⟩,_,rfl,_,rfl,_,rfl,_,rfl,by show 5 <= sizeLine;decide,fun t ht=>?_⟩
  have Js:=(zD.refl H3).new (o := .tup [.str "post", .int (a':Int), .int (b':Int), .int l, .int u]) ht
  have VX:(upd H3 t (.tup [.str "post", .int (a':Int), .int (b':Int), .int l, .int u])) t=some (.tup [.str "post", .int (a':Int), .int (b':Int), .int l, .int u]):=ac
  generalize upd H3 t (.tup [.str "post", .int (a':Int), .int (b':Int), .int l, .int u])=H4 at Js VX ⊢
  have hY4:=CY.same Js
  have Mc:=Js _ _ Jr
  refine⟨dn,_,_,rfl,rfl,Mc,by rw[sizeLine_eq];omega,?_⟩
  have O8:=hY4.Hk Mc ⟨t,rfl,VX⟩
  have o5:zQ [le,dn] H (upd H4 dn (.lst (AV ++ [.ref t]))):=(o3.trans (zD.Aj Js)).trans (ck (by simp))
  generalize upd H4 dn (.lst (AV ++ [.ref t]))=H5 at O8 o5 ⊢
  obtain⟨VY,Rt,pl5⟩:=O8.hle
  have O9:VY.length=st.U.length + 1:=by rw[Paired.length pl5,length_append];rfl
  refine⟨_,rfl,y,ys.zG,dy,_,_,rfl,O8.ins,Y.cl,Y.n4,rfl,le,_,rfl, .inl (zJ.of Rt),_,_,rfl,rfl,?_⟩
  have er:((VY.length:Nat):Int) - 1=(st.U.length:Int):=by omega
  dsimp only
  rw[er]
  exact q rfl H5 o5 O8
noncomputable def p5 (K:Frag)(ys:Ys):Sp:=fun vs H Q _=>∃ (y dy tb ro la le li dn:Addr)(s:YS)(k:Nat)(ln:bU),vs=[.ref y, .int k]/\zR K ys H y dy tb ro la le li dn s/\s.lanes[k]? = some ln/\∀ (t ql:Addr)(zU:List V)(H':Hp),zD H H'->H ql=none->H' t=some (.tup [.int ln.r, .int ln.b,hV ln.h, .ref ql])->H' ql=some (.lst zU)->zX H' zU ln.qs->Q (.ref t) H'
noncomputable def rS (K:Frag)(ys:Ys):Sp:=fun vs H Q _=>∃ (y dy tb ro la le li dn:Addr)(s:YS)(k:Nat)(lt:bj),vs=[.ref y, .int k]/\zR K ys H y dy tb ro la le li dn s/\s.U[k]? = some lt/\∀ (t:Addr)(H':Hp),zD H H'->H t=none->H' t=some (.lst (nV lt.way))->Q (.ref t) H'
theorem Rv:am ["self", "lane"] ["self", "lane"] (ai og):=L2.Ad
theorem tX {ys:Ys}{f ft:Addr}{fd dt:FuncData}(F:Ab K "lane_told" "Yard.lane_told" og f fd)(Y:iJ K ys)(mt:bD K ys.zY "told" ft)(bt:Binds K dt ["self"] [])(Gt:zE P w K mg base aG 1 ft dt ["self"] (xi ys.zY)) :
  zE P w K mg base aG 2 f fd ["self", "lane"] (p5 K ys):=by
 refine F.ok Rv (fun vs H Q E h=>?_) (fun cdv A outer s H vs Q E hr h=>?_)
 ·obtain⟨y,dy,tb,ro,la,le,li,dn,st,k,ln,rfl,_⟩:=h
  rfl
 ·obtain⟨y,dy,tb,ro,la,le,li,dn,st,k,ln,rfl,hY,hk,q⟩:=h
  refine⟨_,ah (ar (cb (aw aI (al (pv 0) rfl) (pv 1) (fun _ _=>rfl)) Y.L.cl mt Gt hr bt .nil aq)),?_⟩
  obtain⟨zK,Ay,pl⟩:=hY.AX
  obtain⟨v,hv,x,dx,pa,zU,rfl,hL,_⟩:=Paired.at2 pl hk
  refine⟨_,rfl,y,ys.zG,dy,_,_,rfl,hY.ins,Y.cl,Y.n3,rfl,_,rfl,la,zK,(k:Int),_,rfl,rfl,zJ.of Ay,ak hv,x,dx,_,rfl,hL.ins,rfl,?_⟩
  exact⟨x,dx,pa,ln.r,ln.b,ln.h,zU,ln.qs,rfl,hL,fun t ql H' s' Fj gt Ir=>q t ql zU H' s' Fj gt Ir (zX.same s' hL.AO)⟩
theorem Rx:am ["self", "number"] ["self", "number"] (ai sH):=L2.Ad
theorem vM {ys:Ys}{f:Addr}{fd:FuncData}(F:Ab K "way_told" "Yard.way_told" sH f fd)(T:eW mg)(Y:iJ K ys):zE P w K mg base aG 1 f fd ["self", "number"] (rS K ys):=by
 refine F.ok Rx (fun vs H Q E h=>?_) (fun cdv A outer s H vs Q E hr h=>?_)
 ·obtain⟨y,dy,tb,ro,la,le,li,dn,st,k,ln,rfl,_⟩:=h
  rfl
 ·obtain⟨y,dy,tb,ro,la,le,li,dn,st,k,lt,rfl,hY,hk,q⟩:=h
  refine⟨_,ah (ar (bF cp rfl T.list PySem.Pv.boot_list (aa (al (aw aI (al (pv 0) rfl) (pv 1) (fun _ _=>rfl)) rfl) ad))),?_⟩
  obtain⟨zO,Be,pl⟩:=hY.hle
  obtain⟨v,hv,x,dx,wa,rfl,hx,hw,_⟩:=Paired.at2 pl hk
  refine⟨_,rfl,y,ys.zG,dy,_,_,rfl,hY.ins,Y.cl,Y.n4,rfl,_,rfl,le,zO,(k:Int),_,rfl,rfl,zJ.of Be,ak hv,x,ys.zF,dx,_,_,rfl,hx,Y.ct,Y.t6,rfl,wa,_,rfl, .inl (zJ.of hw),fun t ht=>?_⟩
  exact q t _ ((zD.refl H).new ht) ht ac
theorem oS {K:Frag}{T:Addr}{o:Obj}{n:Nat}{kV doc pm cdv ct:Value}{an:Option Addr}(ho:K.lookup T=some o)(hs:o.data = .seq #[Value.none] n) :
  Binds K (fnOf "__init__" "Yard.__init__" (bI iq) (aJ iq) (ai iq) (.ref T) kV doc pm an cdv ct) ["self", "table", "rooms"] []:=fun s us Em hl=>by
 have hl:us.length=3:=by rw[append_nil]at hl;exact hl
 obtain⟨a,us0,rfl,OA⟩:=L2.HC hl
 obtain⟨b,us1,rfl,HS⟩:=L2.HC OA
 obtain⟨c,us2,rfl,Fw⟩:=L2.HC HS
 obtain rfl:=List.eq_nil_of_length_eq_zero Fw
 exact BindsTo.of_defaults rfl (Em _ _ ho) hs rfl rfl
theorem nq {K:Frag}{T:Addr}{o:Obj}{n:Nat}{tk:Tok}{kV doc pm cdv ct:Value}{an:Option Addr}(ho:K.lookup T=some o)(hs:o.data = .seq #[Value.int 0 tk] n) :
  Binds K (fnOf "post" "Yard.post" (bI gU) (aJ gU) (ai gU) (.ref T) kV doc pm an cdv ct) LY [Value.int 0 tk]:=fun s us Em hl=>by
 have hl:us.length=4:=by rw[length_append]at hl;exact Nat.succ.inj hl
 obtain⟨a,us0,rfl,OA⟩:=L2.HC hl
 obtain⟨b,us1,rfl,HS⟩:=L2.HC OA
 obtain⟨c,us2,rfl,Fw⟩:=L2.HC HS
 obtain⟨d,us3,rfl,hl3⟩:=L2.HC Fw
 obtain rfl:=List.eq_nil_of_length_eq_zero hl3
 exact BindsTo.of_defaults rfl (Em _ _ ho) hs rfl rfl
noncomputable def xh (C:Addr):Sp:=fun vs H Q _=>∃ (x dx pa:Addr)(r b:Int)(h:Option Int)(zU:List V)(qs:List (Int × Int)),vs=[.ref x]/\zW H C x dx pa r b h zU qs/\∀ (x' DU Ew:Addr)(H':Hp),zD H H'->H x' = none->H Ew = none->zW H' C x' DU Ew r b h zU qs->Q (.ref x') H'
noncomputable def xg (C:Addr):Sp:=fun vs H Q _=>∃ (x dx wa:Addr)(s:bj),vs=[.ref x]/\H x=some (.ins C dx (oB s wa))/\H wa=some (.lst (nV s.way))/\∀ (x' DU DO:Addr)(H':Hp),zD H H'->H x' = none->H DO = none->H' x' = some (.ins C DU (oB s DO))->H' DO = some (.lst (nV s.way))->Q (.ref x') H'
theorem Hn:am ["self", "other"] ["self"] (ai yb):=L2.Ad
theorem yF {C f fl:Addr}{fd dl:FuncData}(F:Ab K "twin" "Lane.twin" yb f fd)(T:eW mg)(L:wT K C)(ml:mg "Lane" = some (.ref C))(Ml:Mk K C fl)(bl:Binds K dl ["self", "room"] [])(Gl:zE P w K mg base aG 1 fl dl ["self", "room"] (sk C)) :
  zE P w K mg base aG 3 f fd ["self"] (xh C):=by
 refine F.ok Hn (fun vs H Q E h=>?_) (fun cdv A outer s H vs Q E hr h=>?_)
 ·obtain⟨x,dx,pa,r,b,h,zU,qs,rfl,_⟩:=h
  rfl
 ·obtain⟨x,dx,pa,r,b,h,zU,qs,rfl,hL,q⟩:=h
  refine⟨_,ae (ay (i:=1) Hn.nd rfl (Or.inl rfl) (dI Ml Gl hr rfl ml bl .nil aq (aa (al (pv 0) rfl) ad)))
   (ae (aV (pv 1) (al (pv 0) rfl) rfl)
   (ae (aV (pv 1) (al (pv 0) rfl) rfl)
   (ae (aV (pv 1) (bF cp rfl T.list PySem.Pv.boot_list (aa (al (pv 0) rfl) ad)) rfl)
   (ah (ar (pv 1)))))),?_⟩
  refine⟨_,rfl,x,C,dx,_,_,rfl,hL.ins,L.cl,L.n1,rfl,fun x' d' nx nd ne=>⟨x',d',r,rfl,ac,fun Iu H1 FD off Iv=>⟨rfl,?_⟩⟩⟩
  have s1:zD H H1:=fun z o ez=>off z o (ag ez nx) (by rw[af (ag ez nx),af (ag ez nd)];exact ez)
  have OB:=Iv.ins
  clear FD off Iv
  refine⟨_,rfl,x,C,dx,_,_,rfl,s1 _ _ hL.ins,L.cl,L.n2,rfl,_,rfl,x',C,d',_,rfl,OB,L.cl,L.n2,by show 4 < 1000;decide,?_⟩
  have o2:∀ o',zD H (upd H1 x' o'):=fun o' z o ez=>by rw[af (ag ez nx)];exact s1 _ _ ez
  refine⟨_,rfl,x,C,dx,_,_,rfl,o2 _ _ _ hL.ins,L.cl,L.n3,rfl,_,rfl,x',C,d',_,rfl,ac,L.cl,L.n3,by show 4 < 1000;decide,?_⟩
  have o3:∀ o' VZ,zD H (upd (upd H1 x' o') x' VZ):=fun o' VZ z o ez=>by rw[af (ag ez nx)];exact o2 _ _ _ ez
  have s3:=o3 (.ins C d' (aK "returning" (.int b) (iD r 0 (hV none) Iu))) (.ins C d' (aK "holder" (hV h) (aK "returning" (.int b) (iD r 0 (hV none) Iu))))
  have Iw:(upd (upd H1 x' (.ins C d' (aK "returning" (.int b) (iD r 0 (hV none) Iu)))) x' (.ins C d' (aK "holder" (hV h) (aK "returning" (.int b) (iD r 0 (hV none) Iu))))) x' = some (.ins C d' (iD r b (hV h) Iu)):=ac
  generalize upd (upd H1 x' (.ins C d' (aK "returning" (.int b) (iD r 0 (hV none) Iu)))) x' (.ins C d' (aK "holder" (hV h) (aK "returning" (.int b) (iD r 0 (hV none) Iu))))=H3 at s3 Iw ⊢
  refine⟨_,rfl,x,C,dx,_,_,rfl,s3 _ _ hL.ins,L.cl,L.n4,rfl,pa,_,rfl, .inl (zJ.of (s3 _ _ hL.lst)),fun Ew Iy=>?_⟩
  have Ec:H Ew = none:=by
   cases e:H Ew with
   | none=>rfl
   | some o=>rw[s3 _ _ e]at Iy;cases Iy
  have Md:x' ≠ Ew:=ag Iw Iy
  refine⟨_,rfl,x',C,d',_,rfl,by rw[af Md];exact Iw,L.cl,L.n4,by show 4 < 1000;decide,_,rfl,?_⟩
  have s4:∀ o',zD H (upd (upd H3 Ew (.lst zU)) x' o'):=fun o' z o ez=>by rw[af (ag ez nx),af (ag ez Ec)];exact s3 _ _ ez
  exact q x' d' Ew _ (s4 _) nx Ec ⟨ac,by rw[af (Ne.symm Md)];exact ac,zX.same (s4 _) hL.AO⟩
theorem Ho:am ["self", "other"] ["self"] (ai sR):=L2.Ad
theorem yD {ys:Ys}{f fl:Addr}{fd dl:FuncData}(F:Ab K "twin" "Letter.twin" sR f fd)(T:eW mg)(Y:iJ K ys)(ml:mg "Letter" = some (.ref ys.zF))(Ml:Mk K ys.zF fl)(bl:Binds K dl ["self", "start", "goal", "length", "word"] [])(Gl:zE P w K mg base aG 1 fl dl ["self", "start", "goal", "length", "word"] (sj ys.zF)) :
  zE P w K mg base aG 3 f fd ["self"] (xg ys.zF):=by
 refine F.ok Ho (fun vs H Q E h=>?_) (fun cdv A outer s H vs Q E hr h=>?_)
 ·obtain⟨x,dx,wa,s,rfl,_⟩:=h
  rfl
 ·obtain⟨x,dx,wa,t,rfl,hx,hw,q⟩:=h
  refine⟨_,ae (ay (i:=1) Ho.nd rfl (Or.inl rfl) (dI Ml Gl hr rfl ml bl .nil aq (aa (al (pv 0) rfl) (aa (al (pv 0) rfl) (aa (al (pv 0) rfl) (aa (al (pv 0) rfl) ad))))))
   (ae (aV (pv 1) (al (pv 0) rfl) rfl)
   (ae (aV (pv 1) (bF cp rfl T.list PySem.Pv.boot_list (aa (al (pv 0) rfl) ad)) rfl)
   (ah (ar (pv 1))))),?_⟩
  refine⟨_,rfl,x,ys.zF,dx,_,_,rfl,hx,Y.ct,Y.t1,rfl,_,rfl,x,ys.zF,dx,_,_,rfl,hx,Y.ct,Y.t2,rfl,_,rfl,x,ys.zF,dx,_,_,rfl,hx,Y.ct,Y.t3,rfl,_,rfl,x,ys.zF,dx,_,_,rfl,hx,Y.ct,Y.t4,rfl,fun x' d' nx nd ne=>⟨x',d',t.start,t.goal,t.len,t.word,rfl,ac,fun w0 H1 Ry off Bn Fm=>⟨rfl,?_⟩⟩⟩
  have s1:zD H H1:=fun z o ez=>off z o (ag ez nx) (by rw[af (ag ez nx),af (ag ez nd)];exact ez)
  clear Ry off Fm
  refine⟨_,rfl,x,ys.zF,dx,_,_,rfl,s1 _ _ hx,Y.ct,Y.t5,rfl,_,rfl,x',ys.zF,d',_,rfl,Bn,Y.ct,Y.t5,by show 6 < 1000;decide,?_⟩
  have s3:zD H (upd H1 x' (.ins ys.zF d' (aK "gone" (.int t.gone) (oB ⟨t.start,t.goal,t.len,t.word,0,[]⟩ w0)))):=fun z o ez=>by rw[af (ag ez nx)];exact s1 _ _ ez
  have Iw:(upd H1 x' (.ins ys.zF d' (aK "gone" (.int t.gone) (oB ⟨t.start,t.goal,t.len,t.word,0,[]⟩ w0)))) x' = some (.ins ys.zF d' (oB ⟨t.start,t.goal,t.len,t.word,t.gone,[]⟩ w0)):=ac
  show _
  generalize upd H1 x' (.ins ys.zF d' (aK "gone" (.int t.gone) (oB ⟨t.start,t.goal,t.len,t.word,0,[]⟩ w0)))=H3 at s3 Iw ⊢
  refine⟨_,rfl,x,ys.zF,dx,_,_,rfl,s3 _ _ hx,Y.ct,Y.t6,rfl,wa,_,rfl, .inl (zJ.of (s3 _ _ hw)),fun DO Iz=>?_⟩
  have Ee:H DO = none:=by
   cases e:H DO with
   | none=>rfl
   | some o=>rw[s3 _ _ e]at Iz;cases Iz
  have Md:x' ≠ DO:=ag Iw Iz
  refine⟨_,rfl,x',ys.zF,d',_,rfl,by rw[af Md];exact Iw,Y.ct,Y.t6,by show 6 < 1000;decide,_,rfl,?_⟩
  have s4:∀ o',zD H (upd (upd H3 DO (.lst (nV t.way))) x' o'):=fun o' z o ez=>by rw[af (ag ez nx),af (ag ez Ee)];exact s3 _ _ ez
  exact q x' d' DO _ (s4 _) nx Ee ac (by rw[af (Ne.symm Md)];exact ac)
structure YA where
 y:Addr
 dy:Addr
 tb:Addr
 ro:Addr
 la:Addr
 le:Addr
 li:Addr
 dn:Addr
 lx:Addr
 Ac:Addr
 lt:Addr
 n:Nat
 zO:List V
 ps:List (Int × Int)
 wy:Wf
abbrev AA (K:Frag)(ys:Ys)(H:Hp)(a:YA)(s:YS):Prop:=zR K ys H a.y a.dy a.tb a.ro a.la a.le a.li a.dn s
abbrev Mf (c:Cs)(TC:Addr)(J:TJ)(H:Hp)(a:YA):Prop:=Ba c TC J H a.tb a.lx a.Ac a.lt a.n a.zO a.ps a.wy
abbrev YA.four (a:YA):List Addr:=[a.la,a.le,a.li,a.dn]
theorem Paired.set {α β:Type}{R:α->β->Prop}{v:α}{r:β}(h:R v r):∀ {vs:List α}{rs:List β}(i:Nat),Paired R vs rs->Paired R (vs.set i v) (rs.set i r)
 | _,_,_, .nil => .nil
 | _,_,0, .cons _ t => .cons h t
 | _,_,i + 1, .cons x t => .cons x (Paired.set h i t)
theorem zQ.mono {ex Jc:List Addr}{H H':Hp}(h:∀ b ∈ ex,b ∈ Jc)(o:zQ ex H H'):zQ Jc H H':=fun b u nb e=>o b u (fun z=>nb (h b z)) e
theorem ud {K:Frag}{ys:Ys}{H:Hp}{a:YA}{s:YS}(h:AA K ys H a s){p:Addr}(hp:H p=none):p ∉ a.four:=fun z=>by obtain⟨xs,hz⟩:=h.Ed p z;rw[hp]at hz;cases hz
theorem kg {K:Frag}{ys:Ys}{H:Hp}{a:YA}{s:YS}(h:AA K ys H a s){p:Addr}(hp:H p=none):p ∉ a.la :: a.le :: a.li :: a.dn :: ys.ex:=fun z=>by obtain⟨xs,hz⟩:=zR.DL h p z;rw[hp]at hz;cases hz
theorem lw {H H2:Hp}{x b:Addr}{zs:List V}(o:zQ [x] H H2)(hx:H2 x=some (.lst zs))(h:∃ xs,H b=some (.lst xs)):∃ xs,H2 b=some (.lst xs):=by
 by_cases e:b=x
 ·exact⟨zs,by rw[e];exact hx⟩
 ·obtain⟨xs,hz⟩:=h
  exact⟨xs,o _ _ (by simpa using e) hz⟩
theorem AA.C5 {K:Frag}{ys:Ys}{H H2:Hp}{a:YA}{s:YS}(h:AA K ys H a s){vs:List V}(hv:H a.la=some (.lst vs))(o:zQ [a.la] H H2){k:Nat}{x dx pa:Addr}(hl:H2 a.la=some (.lst (vs.set k (.ref x)))){ln:bU}{zU:List V}
  (L:zW H2 ys.zY x dx pa ln.r ln.b ln.h zU ln.qs) (np:H pa=none):AA K ys H2 a { s with lanes:=s.lanes.set k ln }:=by
 obtain⟨h1,h2,f1,f2,f3,f4⟩:=zR.off h (o.mono (by simp))
 obtain⟨v1,a1,p1⟩:=h.AX
 obtain⟨v2,a2,p2⟩:=h.hle
 obtain⟨v3,a3,p3⟩:=h.Cm
 obtain⟨v4,a4,p4⟩:=h.Cn
 rw[hv]at a1
 cases a1
 have ne:=h.ne
 simp only[nodup_cons,mem_cons,not_mem_nil,or_false,not_or,not_false_eq_true,and_true,nodup_nil]at ne
 exact⟨h1,h2,⟨_,hl,Paired.set ⟨x,dx,pa,zU,rfl,L,kg h np⟩ k (f1 _ _ p1)⟩,⟨v2,o _ _ (by simp;exact Ne.symm ne.1.1) a2,f2 _ _ p2⟩,⟨v3,o _ _ (by simp;exact Ne.symm ne.1.2.1) a3,f3 _ _ p3⟩,⟨v4,o _ _ (by simp;exact Ne.symm ne.1.2.2) a4,f4 _ _ p4⟩,h.ne,fun b hb=>lw o hl (h.hex b hb)⟩
theorem AA.EK {K:Frag}{ys:Ys}{H H2:Hp}{a:YA}{s:YS}(h:AA K ys H a s){vs:List V}(hv:H a.le=some (.lst vs))(o:zQ [a.le] H H2){k:Nat}{x dx wa:Addr}(hl:H2 a.le=some (.lst (vs.set k (.ref x)))){t:bj}
  (hx:H2 x=some (.ins ys.zF dx (oB t wa))) (hw:H2 wa=some (.lst (nV t.way))) (np:H wa=none):AA K ys H2 a { s with U:=s.U.set k t }:=by
 obtain⟨h1,h2,f1,f2,f3,f4⟩:=zR.off h (o.mono (by simp))
 obtain⟨v1,a1,p1⟩:=h.AX
 obtain⟨v2,a2,p2⟩:=h.hle
 obtain⟨v3,a3,p3⟩:=h.Cm
 obtain⟨v4,a4,p4⟩:=h.Cn
 rw[hv]at a2
 cases a2
 have ne:=h.ne
 simp only[nodup_cons,mem_cons,not_mem_nil,or_false,not_or,not_false_eq_true,and_true,nodup_nil]at ne
 exact⟨h1,h2,⟨v1,o _ _ (by simp;exact ne.1.1) a1,f1 _ _ p1⟩,⟨_,hl,Paired.set ⟨x,dx,wa,rfl,hx,hw,kg h np⟩ k (f2 _ _ p2)⟩,⟨v3,o _ _ (by simp;exact Ne.symm ne.2.1.1) a3,f3 _ _ p3⟩,⟨v4,o _ _ (by simp;exact Ne.symm ne.2.1.2) a4,f4 _ _ p4⟩,h.ne,fun b hb=>lw o hl (h.hex b hb)⟩
theorem AA.I0 {K:Frag}{ys:Ys}{H H2:Hp}{a:YA}{s:YS}(h:AA K ys H a s){vs:List V}(hv:H a.li=some (.lst vs))(o:zQ [a.li] H H2){k:Nat}{v:V}(hl:H2 a.li=some (.lst (vs.set k v))){qs:List (Int × Int)}
  (L:Bb H2 v qs):AA K ys H2 a { s with lies:=s.lies.set k qs }:=by
 obtain⟨h1,h2,f1,f2,f3,f4⟩:=zR.off h (o.mono (by simp))
 obtain⟨v1,a1,p1⟩:=h.AX
 obtain⟨v2,a2,p2⟩:=h.hle
 obtain⟨v3,a3,p3⟩:=h.Cm
 obtain⟨v4,a4,p4⟩:=h.Cn
 rw[hv]at a3
 cases a3
 have ne:=h.ne
 simp only[nodup_cons,mem_cons,not_mem_nil,or_false,not_or,not_false_eq_true,and_true,nodup_nil]at ne
 exact⟨h1,h2,⟨v1,o _ _ (by simp;exact ne.1.2.1) a1,f1 _ _ p1⟩,⟨v2,o _ _ (by simp;exact ne.2.1.1) a2,f2 _ _ p2⟩,⟨_,hl,Paired.set L k (f3 _ _ p3)⟩,⟨v4,o _ _ (by simp;exact Ne.symm ne.2.2) a4,f4 _ _ p4⟩,h.ne,fun b hb=>lw o hl (h.hex b hb)⟩
noncomputable def sf (K:Frag)(ys:Ys):Sp:=fun vs H Q _=>∃ (a:YA)(s:YS)(k:Nat)(ln:bU)(zK:List V),vs=[.ref a.y, .int k]/\AA K ys H a s/\s.lanes[k]? = some ln/\H a.la=some (.lst zK) /\
 ∀ (x dx pa:Addr)(zU:List V)(H':Hp),zQ [a.la] H H'->H x=none->H pa=none->H' a.la=some (.lst (zK.set k (.ref x)))->zW H' ys.zY x dx pa ln.r ln.b ln.h zU ln.qs->Q (.ref x) H'
noncomputable def rZ (K:Frag)(ys:Ys):Sp:=fun vs H Q _=>∃ (a:YA)(s:YS)(k:Nat)(t:bj)(zO:List V),vs=[.ref a.y, .int k]/\AA K ys H a s/\s.U[k]? = some t/\H a.le=some (.lst zO) /\
 ∀ (x dx wa:Addr)(H':Hp),zQ [a.le] H H'->H x=none->H wa=none->H' a.le=some (.lst (zO.set k (.ref x)))->H' x=some (.ins ys.zF dx (oB t wa))->H' wa=some (.lst (nV t.way))->Q (.ref x) H'
noncomputable def xj (K:Frag)(ys:Ys):Sp:=fun vs H Q _=>∃ (a:YA)(s:YS)(v:V)(q:Int × Int)(p:Nat)(qs:List (Int × Int)),vs=[.ref a.y,v, .int p]/\AA K ys H a s/\wU H v q/\s.lies[p]? = some qs/\qs.length <= 100000 /\
 ∀ H',zQ [a.li] H H'->AA K ys H' a { s with lies:=s.lies.set p (qs ++ [q]) }->Q .zT H'
noncomputable def py (K:Frag)(ys:Ys):Sp:=fun vs H Q _=>∃ (a:YA)(s:YS)(p:Nat)(qs:List (Int × Int)),vs=[.ref a.y, .int p]/\AA K ys H a s/\s.lies[p]? = some qs /\
 ∀ (D:Addr)(zU:List V)(H':Hp),zD H H'->H D=none->H' D=some (.lst zU)->zX H' zU qs->Q (.ref D) H'
theorem xN:am ["self", "lane"] ["self", "lane"] (ai sL):=L2.Ad
theorem vU {ys:Ys}{f ft:Addr}{fd dt:FuncData}(F:Ab K "own_lane" "Yard.own_lane" sL f fd)(Y:iJ K ys)(mt:bD K ys.zY "twin" ft)(bt:Binds K dt ["self"] [])(Gt:zE P w K mg base aG 3 ft dt ["self"] (xh ys.zY)) :
  zE P w K mg base aG 4 f fd ["self", "lane"] (sf K ys):=by
 refine F.ok xN (fun vs H Q E h=>?_) (fun cdv A outer s H vs Q E hr h=>?_)
 ·obtain⟨a,s,k,ln,zK,rfl,_⟩:=h
  rfl
 ·obtain⟨a,st,k,ln,zK,rfl,hY,hk,Ay,q⟩:=h
  refine⟨_,ae (gE (cb (aw aI (al (pv 0) rfl) (pv 1) (fun _ _=>rfl)) Y.L.cl mt Gt hr bt .nil aq) (ou (al (pv 0) rfl) (pv 1) jm))
   (ah (ar (aw aI (al (pv 0) rfl) (pv 1) (fun _ _=>rfl)))),?_⟩
  obtain⟨lvs',Mg,pl⟩:=hY.AX
  rw[Ay]at Mg
  cases Mg
  obtain⟨v,hv,x,dx,pa,zU,rfl,hL,_⟩:=Paired.at2 pl hk
  have B0:k < zK.length:=(List.getElem?_eq_some_iff.mp hv).1
  refine⟨_,rfl,a.y,ys.zG,a.dy,_,_,rfl,hY.ins,Y.cl,Y.n3,rfl,_,rfl,a.la,zK,(k:Int),_,rfl,rfl,zJ.of Ay,ak hv,x,dx,_,rfl,hL.ins,rfl,?_⟩
  refine⟨x,dx,pa,ln.r,ln.b,ln.h,zU,ln.qs,rfl,hL,fun x' DU Ew H1 s1 nx FF Iv=>?_⟩
  refine⟨_,rfl,a.y,ys.zG,a.dy,_,_,rfl,s1 _ _ hY.ins,Y.cl,Y.n3,rfl,_,rfl,a.la,zK,(k:Int),k,rfl,rfl,s1 _ _ Ay,iU B0,?_⟩
  have o1:zQ [a.la] H (upd H1 a.la (.lst (zK.set k (.ref x')))):=(zD.Aj s1).trans (ck (by simp))
  have g1:(upd H1 a.la (.lst (zK.set k (.ref x')))) a.la=some (.lst (zK.set k (.ref x'))):=ac
  have Bo:zW (upd H1 a.la (.lst (zK.set k (.ref x')))) ys.zY x' DU Ew ln.r ln.b ln.h zU ln.qs:=by
   have n1:x' ≠ a.la:=aX Iv.ins (s1 _ _ Ay) (by intro z;cases z)
   have n2:Ew ≠ a.la:=fun z=>by rw[z,Ay]at FF;cases FF
   exact⟨by rw[af n1];exact Iv.ins,by rw[af n2];exact Iv.lst,zX.Aj (ex:=[a.la]) (fun b hb=>by simp at hb;subst hb;exact⟨_,s1 _ _ Ay⟩) (ck (by simp)) Iv.AO⟩
  generalize upd H1 a.la (.lst (zK.set k (.ref x')))=H2 at o1 g1 Bo ⊢
  have Rz:H2 a.y=some (.ins ys.zG a.dy (O2 a.tb a.ro a.la a.le a.li a.dn)):=o1 _ _ (by simp;exact aX hY.ins Ay (by intro z;cases z)) hY.ins
  exact⟨_,rfl,a.y,ys.zG,a.dy,_,_,rfl,Rz,Y.cl,Y.n3,rfl,_,rfl,a.la,_,(k:Int), .ref x',rfl,rfl,zJ.of g1,ak (by simp[B0]),q x' DU Ew zU H2 o1 nx FF g1 Bo⟩
theorem xM:am ["self", "number"] ["self", "number"] (ai sK):=L2.Ad
theorem vT {ys:Ys}{f ft:Addr}{fd dt:FuncData}(F:Ab K "own_letter" "Yard.own_letter" sK f fd)(Y:iJ K ys)(mt:bD K ys.zF "twin" ft)(bt:Binds K dt ["self"] [])(Gt:zE P w K mg base aG 3 ft dt ["self"] (xg ys.zF)) :
  zE P w K mg base aG 4 f fd ["self", "number"] (rZ K ys):=by
 refine F.ok xM (fun vs H Q E h=>?_) (fun cdv A outer s H vs Q E hr h=>?_)
 ·obtain⟨a,s,k,ln,zK,rfl,_⟩:=h
  rfl
 ·obtain⟨a,st,k,t,zO,rfl,hY,hk,Be,q⟩:=h
  refine⟨_,ae (gE (cb (aw aI (al (pv 0) rfl) (pv 1) (fun _ _=>rfl)) Y.ct mt Gt hr bt .nil aq) (ou (al (pv 0) rfl) (pv 1) jm))
   (ah (ar (aw aI (al (pv 0) rfl) (pv 1) (fun _ _=>rfl)))),?_⟩
  obtain⟨Ef,Mj,pl⟩:=hY.hle
  rw[Be]at Mj
  cases Mj
  obtain⟨v,hv,x,dx,wa,rfl,hx,hw,_⟩:=Paired.at2 pl hk
  have B0:k < zO.length:=(List.getElem?_eq_some_iff.mp hv).1
  refine⟨_,rfl,a.y,ys.zG,a.dy,_,_,rfl,hY.ins,Y.cl,Y.n4,rfl,_,rfl,a.le,zO,(k:Int),_,rfl,rfl,zJ.of Be,ak hv,x,dx,_,rfl,hx,rfl,?_⟩
  refine⟨x,dx,wa,t,rfl,hx,hw,fun x' DU DO H1 s1 nx FF Bn Fm=>?_⟩
  refine⟨_,rfl,a.y,ys.zG,a.dy,_,_,rfl,s1 _ _ hY.ins,Y.cl,Y.n4,rfl,_,rfl,a.le,zO,(k:Int),k,rfl,rfl,s1 _ _ Be,iU B0,?_⟩
  have o1:zQ [a.le] H (upd H1 a.le (.lst (zO.set k (.ref x')))):=(zD.Aj s1).trans (ck (by simp))
  have g1:(upd H1 a.le (.lst (zO.set k (.ref x')))) a.le=some (.lst (zO.set k (.ref x'))):=ac
  have n1:x' ≠ a.le:=aX Bn (s1 _ _ Be) (by intro z;cases z)
  have n2:DO ≠ a.le:=fun z=>by rw[z,Be]at FF;cases FF
  have Ff:(upd H1 a.le (.lst (zO.set k (.ref x')))) x' = some (.ins ys.zF DU (oB t DO)):=by rw[af n1];exact Bn
  have Hm:(upd H1 a.le (.lst (zO.set k (.ref x')))) DO = some (.lst (nV t.way)):=by rw[af n2];exact Fm
  generalize upd H1 a.le (.lst (zO.set k (.ref x')))=H2 at o1 g1 Ff Hm ⊢
  have Rz:H2 a.y=some (.ins ys.zG a.dy (O2 a.tb a.ro a.la a.le a.li a.dn)):=o1 _ _ (by simp;exact aX hY.ins Be (by intro z;cases z)) hY.ins
  exact⟨_,rfl,a.y,ys.zG,a.dy,_,_,rfl,Rz,Y.cl,Y.n4,rfl,_,rfl,a.le,_,(k:Int), .ref x',rfl,rfl,zJ.of g1,ak (by simp[B0]),q x' DU DO H2 o1 nx FF g1 Ff Hm⟩
theorem Mm:am ["self", "piece", "place"] ["self", "piece", "place"] (ai ye):=L2.Ad
theorem yI {ys:Ys}{f:Addr}{fd:FuncData}(F:Ab K "lay" "Yard.lay" ye f fd)(Y:iJ K ys):zE P w K mg base aG 1 f fd ["self", "piece", "place"] (xj K ys):=by
 refine F.ok Mm (fun vs H Q E h=>?_) (fun cdv A outer s H vs Q E hr h=>?_)
 ·obtain⟨a,s,v,q,p,qs,rfl,_⟩:=h
  rfl
 ·obtain⟨a,st,v,qp,p,qs,rfl,hY,hv,hp,hlen,q⟩:=h
  refine⟨_,ah (gE (aE vJ (aw aI (al (pv 0) rfl) (pv 2) (fun _ _=>rfl)) (bH (aa (pv 1) ad))) (ou (al (pv 0) rfl) (pv 2) jm)),?_⟩
  obtain⟨zK,Hq,pl⟩:=hY.Cm
  obtain⟨v0,Jt,t0,Eu,rfl,Hr,Mp⟩:=Paired.at2 pl hp
  have B0:p < zK.length:=(List.getElem?_eq_some_iff.mp Jt).1
  have OA:Eu.length=qs.length:=Paired.length Mp
  refine⟨_,rfl,a.y,ys.zG,a.dy,_,_,rfl,hY.ins,Y.cl,Y.n5,rfl,_,rfl,a.li,zK,(p:Int),_,rfl,rfl,zJ.of Hq,ak Jt,_,rfl,by show 1 <= sizeLine;decide,fun t ht=>?_⟩
  have s1:=(zD.refl H).new (o := .tup [v]) ht
  have g1:(upd H t (.tup [v])) t=some (.tup [v]):=ac
  generalize upd H t (.tup [v])=H1 at s1 g1 ⊢
  have fin:∀ (z:Addr)(H2:Hp),zD H H2->Bb H2 (.ref z) (qs ++ [qp])->Q .zT (upd H2 a.li (.lst (zK.set p (.ref z)))):=fun z H2 s2 hz=>by
   have o2:zQ [a.li] H (upd H2 a.li (.lst (zK.set p (.ref z)))):=(zD.Aj s2).trans (ck (by simp))
   refine q _ o2 (AA.I0 hY Hq o2 ac ?_)
   obtain⟨tz,vz,ez,Wc,hz2⟩:=hz
   cases ez
   have nz:z ≠ a.li:=aX Wc (s2 _ _ Hq) (by intro y;cases y)
   exact⟨z,vz,rfl,by rw[af nz];exact Wc,zX.Aj (ex:=[a.li]) (fun b hb=>by simp at hb;subst hb;exact⟨_,s2 _ _ Hq⟩) (ck (by simp)) hz2⟩
  refine⟨t0,t,Eu,[v],rfl,rfl,zM.of (s1 _ _ Hr),zM.of g1,by simp,by rw[sizeLine_eq];simp;omega,fun e0=>?_,fun e0 p2 GF=>?_⟩
  ·subst e0
   cases Mp
   refine⟨_,rfl,a.y,ys.zG,a.dy,_,_,rfl,s1 _ _ hY.ins,Y.cl,Y.n5,rfl,_,rfl,a.li,zK,(p:Int),p,rfl,rfl,s1 _ _ Hq,iU B0,?_⟩
   exact fin t H1 s1 ⟨t,[v],rfl,g1, .cons (let ⟨u,e,hu⟩:=hv; ⟨u,e,s1 _ _ hu⟩) .nil⟩
  ·have s2:=s1.new (o := .tup (Eu ++ [v])) GF
   have g2:(upd H1 p2 (.tup (Eu ++ [v]))) p2=some (.tup (Eu ++ [v])):=ac
   generalize upd H1 p2 (.tup (Eu ++ [v]))=H2 at s2 g2 ⊢
   refine⟨_,rfl,a.y,ys.zG,a.dy,_,_,rfl,s2 _ _ hY.ins,Y.cl,Y.n5,rfl,_,rfl,a.li,zK,(p:Int),p,rfl,rfl,s2 _ _ Hq,iU B0,?_⟩
   exact fin p2 H2 s2 ⟨p2,_,rfl,g2,zX.snoc (let ⟨u,e,hu⟩:=hv; ⟨u,e,s2 _ _ hu⟩) (zX.same s2 Mp)⟩
theorem Mq:am ["self", "place"] ["self", "place"] (ai nZ):=L2.Ad
theorem tU {ys:Ys}{f:Addr}{fd:FuncData}(F:Ab K "lying" "Yard.lying" nZ f fd)(T:eW mg)(Y:iJ K ys):zE P w K mg base aG 1 f fd ["self", "place"] (py K ys):=by
 refine F.ok Mq (fun vs H Q E h=>?_) (fun cdv A outer s H vs Q E hr h=>?_)
 ·obtain⟨a,s,p,qs,rfl,_⟩:=h
  rfl
 ·obtain⟨a,st,p,qs,rfl,hY,hp,q⟩:=h
  refine⟨_,ah (ar (bF cp rfl T.list PySem.Pv.boot_list (aa (aw aI (al (pv 0) rfl) (pv 1) (fun _ _=>rfl)) ad))),?_⟩
  obtain⟨zK,Hq,pl⟩:=hY.Cm
  obtain⟨v0,Jt,t0,Eu,rfl,Hr,Mp⟩:=Paired.at2 pl hp
  refine⟨_,rfl,a.y,ys.zG,a.dy,_,_,rfl,hY.ins,Y.cl,Y.n5,rfl,_,rfl,a.li,zK,(p:Int),_,rfl,rfl,zJ.of Hq,ak Jt,t0,_,rfl, .inr (zM.of Hr),fun D hD=>?_⟩
  have s1:=(zD.refl H).new (o := .lst Eu) hD
  exact q D Eu _ s1 hD ac (zX.same s1 Mp)
noncomputable def i5 (ln:bU)(m c len:Int):bU:={ ln with r:=ln.r - 1,h:=if decide (c=len - 1)=true then none else some m,qs:=ln.qs ++ [(m,c)] }
noncomputable def bW (s:YS)(m:Nat)(c:Int)(l:Nat)(t:bj)(ln:bU):YS:={ s with U:=if c=0 then s.U.set m { t with way:=t.way ++ [l] } else s.U,lanes:=s.lanes.set l (i5 ln m c t.len) }
noncomputable def kR (K:Frag)(ys:Ys):Sp:=fun vs H Q _=>∃ (a:YA)(s:YS)(v:V)(m:Nat)(c:Int)(l:Nat)(t:bj)(ln:bU),vs=[.ref a.y,v, .int l]/\AA K ys H a s/\wU H v ((m:Int),c)/\s.U[m]? = some t/\s.lanes[l]? = some ln/\cf ln.r ln.h m c=true/\t.way.length <= 1000/\ln.qs.length < 100000 /\
 ∀ H',zQ [a.la,a.le] H H'->AA K ys H' a (bW s m c l t ln)->Q .zT H'
noncomputable def dB (s:YS)(m:Nat)(t:bj):YS:={ s with U:=s.U.set m { t with gone:=t.gone + 1 } }
noncomputable def sw (K:Frag)(ys:Ys):Sp:=fun vs H Q _=>∃ (a:YA)(s:YS)(m l:Nat)(t:bj)(ln:bU),vs=[.ref a.y, .int m, .int l]/\AA K ys H a s/\s.U[m]? = some t/\s.lanes[l]? = some ln/\cf ln.r ln.h m t.gone=true/\t.way.length <= 1000/\ln.qs.length < 100000 /\
 ∀ H',zQ [a.la,a.le] H H'->AA K ys H' a (bW (dB s m t) m t.gone l { t with gone:=t.gone + 1 } ln)->Q .zT H'
structure Own (P:Program)(w:World)(K:Frag)(mg:Str->Option Value)(base:Heap)(ys:Ys)(nm:Addr)(fl ft fp:Addr)(dl dt dp:FuncData):Prop where
 ml:bD K ys.zG "own_lane" fl
 bl:Binds K dl ["self", "lane"] []
 Gl:zE P w K mg base aG 4 fl dl ["self", "lane"] (sf K ys)
 mt:bD K ys.zG "own_letter" ft
 bt:Binds K dt ["self", "number"] []
 Gt:zE P w K mg base aG 4 ft dt ["self", "number"] (rZ K ys)
 mp:bD K ys.zY "put" fp
 bp:Binds K dp ["self", "letter", "count", "last"] []
 Gp:zE P w K mg base (eP P w) 2 fp dp ["self", "letter", "count", "last"] (xb ys.zY nm)
abbrev Wd:List Str:=["self", "piece", "lane", "last"]
abbrev NGi:List Str:=["self", "number", "lane", "letter"]
theorem Mr:am Wd ["self", "piece", "lane"] (ai oj):=L2.Ad
theorem tZ {ys:Ys}{nm f fl ft fp:Addr}{fd dl dt dp:FuncData}(F:Ab K "enter" "Yard.enter" oj f fd)(Y:iJ K ys)(O:Own P w K mg base ys nm fl ft fp dl dt dp) :
  zE P w K mg base aG 5 f fd ["self", "piece", "lane"] (kR K ys):=by
 refine F.ok Mr (fun vs H Q E h=>?_) (fun cdv A outer s H vs Q E hr h=>?_)
 ·obtain⟨a,s,v,m,c,l,t,ln,rfl,_⟩:=h
  rfl
 ·obtain⟨a,st,v,m,c,l,t,ln,rfl,hY,⟨pt,rfl,CZ⟩,hm,hl,CF,DW,Fj,q⟩:=h
  have AB:zN 2 _:=hr.mono (by decide)
  refine⟨_,ae (cU (aL (ap aZ (aw aB (pv 1) aj (fun _ _=>rfl)) aj (av _))
    (ah (aS (cr plainAttrs_list PySem.F.slot_list_append PySem.F.type_list_append bG (al (aC (pv 0) Y.cl O.mt O.Gt hr O.bt .nil aq (aa (aw aB (pv 1) aj (fun _ _=>rfl)) ad)) rfl) (aa (pv 2) ad)))) aA))
   (ae (ay (i:=3) Mr.nd rfl (Or.inl rfl) (bO aZ (aw aB (pv 1) aj (fun _ _=>rfl)) (aE dq (al (aw aI (al (pv 0) rfl) (aw aB (pv 1) aj (fun _ _=>rfl)) (fun _ _=>rfl)) rfl) aj) (av _)))
   (ah (aS (aC (aC (pv 0) Y.cl O.ml O.Gl hr O.bl .nil aq (aa (pv 2) ad)) Y.L.cl O.mp O.Gp AB O.bp .nil ir (aa (aw aB (pv 1) aj (fun _ _=>rfl)) (aa (aw aB (pv 1) aj (fun _ _=>rfl)) (aa (pv 3) ad))))))),?_⟩
  refine⟨fun σ' H'=>σ' = start Wd [.ref a.y, .ref pt, .int l]/\zQ [a.le] H H'/\∃ t1:bj,t1.len=t.len/\AA K ys H' a { st with U:=if c=0 then st.U.set m { t with way:=t.way ++ [l] } else st.U }/\(if c=0 then st.U.set m { t with way:=t.way ++ [l] } else st.U)[m]? = some t1,?_,?_⟩
  ·refine⟨_,rfl,pt,_,1,_,rfl,rfl,zM.of CZ,ak (j:=1) rfl,rfl,_,rfl,?_⟩
   rw[bP]
   by_cases hc:c=0
   ·rw[decide_eq_true hc]
    obtain⟨zO,Be,pl⟩:=hY.hle
    refine aH ⟨_,rfl,a.y,a.dy,_,rfl,hY.ins,rfl,_,rfl,pt,_,0,_,rfl,rfl,zM.of CZ,ak (j:=0) rfl,a,st,m,t,zO,rfl,hY,hm,Be,fun x dx wa H1 o1 nx nw g1 Bn Fm=>?_⟩
    refine⟨x,ys.zF,dx,_,_,rfl,Bn,Y.ct,Y.t6,rfl, .inl ⟨rfl,_,zJ.of Fm⟩,_,rfl,wa,_,_,rfl,rfl,Fm,by rw[dv,sizeLine_eq];omega,?_⟩
    have nxw:x ≠ wa:=aX Bn Fm (by intro z;cases z)
    have nlw:a.le ≠ wa:=ag Be nw
    have o2:zQ [a.le] H (upd H1 wa (.lst (nV t.way ++ [.int l]))):=fun b o nb e=>by rw[af (ag e nw)];exact o1 b o nb e
    have DN:=AA.EK hY Be o2 (k:=m) (x:=x) (dx:=dx) (wa:=wa) (by rw[af nlw];exact g1) (t:={ t with way:=t.way ++ [l] }) (by rw[af nxw];exact Bn) (by rw[ac,uj];rfl) nw
    have OC:m < st.U.length:=(List.getElem?_eq_some_iff.mp hm).1
    refine⟨rfl,o2,{ t with way:=t.way ++ [l] },rfl,?_,?_⟩
    ·rw[if_pos hc];exact DN
    ·rw[if_pos hc];simp[OC]
   ·rw[decide_eq_false hc]
    refine aD ⟨rfl,zD.Aj (zD.refl H),t,rfl,?_,?_⟩
    ·rw[if_neg hc];exact hY
    ·rw[if_neg hc];exact hm
  ·rintro σ' H1 ⟨rfl,o1,t1,hlen,CW,Vs⟩
   have FJ:H1 pt=some (.tup [.int m, .int c]):=by
    obtain⟨zO,Be,_⟩:=hY.hle
    exact o1 _ _ (by simp;exact aX CZ Be (by intro z;cases z)) CZ
   obtain⟨R0,R1,R3⟩:=CW.hle
   obtain⟨v1,R4,x1,dx1,wa1,rfl,Bn,_⟩:=Paired.at2 R3 Vs
   refine⟨_,rfl,pt,_,1,_,rfl,rfl,zM.of FJ,ak (j:=1) rfl,_,rfl,a.y,ys.zG,a.dy,_,_,rfl,CW.ins,Y.cl,Y.n4,rfl,_,rfl,pt,_,0,_,rfl,rfl,zM.of FJ,ak (j:=0) rfl,a.le,R0,(m:Int),_,rfl,rfl,zJ.of R1,ak R4,x1,ys.zF,dx1,_,_,rfl,Bn,Y.ct,Y.t3,rfl,_,_,rfl,rfl,rfl,?_⟩
   obtain⟨zK,Ay,Ey⟩:=CW.AX
   refine⟨_,rfl,a.y,a.dy,_,rfl,CW.ins,rfl,_,rfl,a,_,l,ln,zK,rfl,CW,hl,Ay,fun x dx pa zU H2 o2 nx np g2 Bo=>?_⟩
   have EL:H2 pt=some (.tup [.int m, .int c]):=o2 _ _ (by simp;exact aX FJ Ay (by intro z;cases z)) FJ
   have Bl:zU.length=ln.qs.length:=Paired.length Bo.AO
   refine⟨x,dx,_,rfl,Bo.ins,rfl,_,rfl,pt,_,0,_,rfl,rfl,zM.of EL,ak (j:=0) rfl,_,rfl,pt,_,1,_,rfl,rfl,zM.of EL,ak (j:=1) rfl,_,rfl,x,dx,pa,ln.r,ln.b,ln.h,zU,ln.qs,(m:Int),c,decide (c=t.len - 1),?_,Bo,by omega,(fun ho=>by rw[CF]at ho;cases ho),fun _ t3 H3 o3 C2=>?_⟩
   ·rw[bP,hlen];rfl
   have nxl:a.la ≠ x:=ag Ay nx
   have npl:a.la ≠ pa:=ag Ay np
   have o4:zQ [a.la] H1 H3:=fun b o nb e=>o3 b o (ag e nx) (ag e np) (o2 b o nb e)
   have CY:=AA.C5 CW Ay o4 (k:=l) (x:=x) (dx:=dx) (pa:=pa) (o3 _ _ nxl npl g2) (ln:=i5 ln m c t.len) C2 np
   exact q H3 ((o1.mono (by simp)).trans (o4.mono (by simp))) CY
theorem Ms:am NGi ["self", "number", "lane"] (ai sU):=L2.Ad
theorem wf {ys:Ys}{nm f fl ft fp fe:Addr}{fd dl dt dp de:FuncData}(F:Ab K "go_in" "Yard.go_in" sU f fd)(Y:iJ K ys)(O:Own P w K mg base ys nm fl ft fp dl dt dp)(me:bD K ys.zG "enter" fe)(be:Binds K de ["self", "piece", "lane"] [])(Ge:zE P w K mg base aG 5 fe de ["self", "piece", "lane"] (kR K ys)) :
  zE P w K mg base aG 6 f fd ["self", "number", "lane"] (sw K ys):=by
 refine F.ok Ms (fun vs H Q E h=>?_) (fun cdv A outer s H vs Q E hr h=>?_)
 ·obtain⟨a,s,m,l,t,ln,rfl,_⟩:=h
  rfl
 ·obtain⟨a,st,m,l,t,ln,rfl,hY,hm,hl,CF,DW,Fj,q⟩:=h
  have Cz:zN 4 _:=hr.mono (by decide)
  refine⟨_,ae (ay (i:=3) Ms.nd rfl (Or.inl rfl) (aC (pv 0) Y.cl O.mt O.Gt Cz O.bt .nil aq (aa (pv 1) ad)))
   (ae (dY (pv 3) aj lq)
   (ah (aS (aC (pv 0) Y.cl me Ge hr be .nil aq (aa (bH (aa (pv 1) (aa (aE dq (al (pv 3) rfl) aj) ad))) (aa (pv 2) ad)))))),?_⟩
  obtain⟨zO,Be,pl⟩:=hY.hle
  refine⟨_,rfl,a.y,a.dy,_,rfl,hY.ins,rfl,_,rfl,a,st,m,t,zO,rfl,hY,hm,Be,fun x dx wa H1 o1 nx nw g1 Bn Fm=>?_⟩
  refine⟨_,rfl,x,ys.zF,dx,_,_,rfl,Bn,Y.ct,Y.t5,rfl,_,_,rfl,rfl,dx,_,Bn,by show 6 < 1000;decide,?_⟩
  have nlx:a.le ≠ x:=ag Be nx
  have FE:wa ≠ x:=aX Fm Bn (by intro z;cases z)
  have o2:zQ [a.le] H (upd H1 x (.ins ys.zF dx (aK "gone" (.int (t.gone + 1)) (oB t wa)))):=fun b o nb e=>by rw[af (ag e nx)];exact o1 b o nb e
  have Ff:(upd H1 x (.ins ys.zF dx (aK "gone" (.int (t.gone + 1)) (oB t wa)))) x=some (.ins ys.zF dx (oB { t with gone:=t.gone + 1 } wa)):=ac
  have DN:=AA.EK hY Be o2 (k:=m) (x:=x) (dx:=dx) (wa:=wa) (by rw[af nlx];exact g1) (t:={ t with gone:=t.gone + 1 }) Ff (by rw[af FE];exact Fm) nw
  show _
  generalize upd H1 x (.ins ys.zF dx (aK "gone" (.int (t.gone + 1)) (oB t wa)))=H2 at o2 Ff DN ⊢
  refine⟨_,rfl,a.y,a.dy,_,rfl,DN.ins,rfl,_,rfl,_,rfl,x,ys.zF,dx,_,_,rfl,Ff,Y.ct,Y.t5,rfl,_,_,rfl,rfl,by show 2 <= sizeLine;decide,fun pt CZ=>?_⟩
  have eg:t.gone + 1 - 1=t.gone:=by omega
  have s3:=(zD.refl H2).new (o := .tup [.int m, .int t.gone]) CZ
  have g3:(upd H2 pt (.tup [.int m, .int t.gone])) pt=some (.tup [.int m, .int t.gone]):=ac
  dsimp only
  rw[eg]
  generalize upd H2 pt (.tup [.int m, .int t.gone])=H3 at s3 g3 ⊢
  have OC:m < st.U.length:=(List.getElem?_eq_some_iff.mp hm).1
  refine⟨_,rfl,a,dB st m t,_,m,t.gone,l,{ t with gone:=t.gone + 1 },ln,rfl,zR.same DN s3,⟨pt,rfl,g3⟩,by unfold dB;simp[OC],hl,CF,DW,Fj,fun H' o' IA=>?_⟩
  exact q H' ((o2.mono (by simp)).trans ((zD.Aj s3).trans o')) IA
theorem zj (us:List Nat)(i:Nat):l9 (nV us) none (some (i:Int))=nV (us.take i):=by
 unfold l9
 have e0:HT.Ci (nV us).length 0 none=0:=rfl
 rw[e0,show HT.Ci (nV us).length (nV us).length (some (i:Int))=min i (nV us).length from HT.Cw _ _ i,List.drop_zero,Nat.sub_zero]
 unfold nV
 rw[List.map_take,length_map]
 refine List.ext_getElem? fun j=>?_
 simp only[List.getElem?_take,List.getElem?_map]
 by_cases h1:j < i
 ·by_cases h2:j < us.length
  ·rw[if_pos (by omega),if_pos h1]
  ·rw[if_neg (by omega),if_pos h1,List.getElem?_eq_none (by omega)];rfl
 ·rw[if_neg (by omega),if_neg h1]
theorem wJ (us:List Nat)(i:Nat):l9 (nV us) (some (i:Int)) (some ((i:Int) + 1))=nV ((us.drop i).take 1):=by
 unfold l9
 rw[show HT.Ci (nV us).length 0 (some (i:Int))=min i (nV us).length from HT.Cw _ _ i,show((i:Int) + 1)=((i + 1:Nat):Int) by omega,show HT.Ci (nV us).length (nV us).length (some ((i + 1:Nat):Int))=min (i + 1) (nV us).length from HT.Cw _ _ (i + 1),dv]
 by_cases h:i < us.length
 ·rw[Nat.min_eq_left (by omega),Nat.min_eq_left (by omega),show i + 1 - i=1 by omega]
  unfold nV
  rw[List.map_take,List.map_drop]
 ·rw[Nat.min_eq_right (by omega),Nat.min_eq_right (by omega),Nat.sub_self,List.take_zero,List.drop_eq_nil_of_le (by omega)];rfl
theorem kj (us:List Nat):nV us=(iz us).map V.int:=(w6 us).symm
theorem oJ (k:Nat):∀ us:List Nat,(iz us).idxOf (k:Int)=us.idxOf k
 | []=>rfl
 | u :: us=>by
  have ih:=oJ k us
  unfold iz at ih ⊢
  rw[map_cons,List.idxOf_cons,List.idxOf_cons,ih]
  by_cases h:u=k
  ·subst h;simp
  ·have h':((u:Int) == (k:Int))=false:=by simp;omega
   have h2:(u == k)=false:=by simp;exact h
   rw[h',h2]
inductive Mv
 | Bp (k l:Nat) | on (k l:Nat) | Bj (k:Nat) | back (k:Nat)
noncomputable def fS:Mv->List V
 | .Bp k l=>[.str "in", .int k, .int l]
 | .on k l=>[.str "on", .int k, .int l]
 | .Bj k=>[.str "lie", .int k]
 | .back k=>[.str "back", .int k]
noncomputable def gh (s:YS)(l:Nat)(m c:Int):Bool:=match s.lanes[l]? with
 | some ln=>cf ln.r ln.h m c
 | none=>false
noncomputable def bL (s:YS)(k:Nat):Option (Int × Int):=match s.lanes[k]? with
 | some ln=>ln.qs.head?
 | none=>none
noncomputable def pK (a:YA)(l g:Nat):List Nat:=if (a.ps.getD l (0,0)).2=(g:Int) then [] else a.wy (a.ps.getD l (0,0)).2.toNat g (some l)
noncomputable def cC (a:YA)(s:YS)(k:Nat):List Nat:=match bL s k with
 | none=>[]
 | some q=>match s.U[q.1.toNat]? with
  | none=>[]
  | some t=>if q.2=0 then (pK a k t.goal.toNat).filter fun l=>!decide (l ∈ t.way) else (t.way.drop (t.way.idxOf k + 1)).take 1
noncomputable def c9 (a:YA)(t:bj):List Nat:=if t.gone=0 then a.wy t.start.toNat t.goal.toNat none else t.way.take 1
noncomputable def iy (a:YA)(s:YS)(k:Nat):List Mv:=match s.U[k]? with
 | none=>[]
 | some t=>if t.gone=t.len then [] else ((c9 a t).filter fun l=>gh s l k t.gone).map (Mv.Bp k)
noncomputable def iG (a:YA)(s:YS)(k:Nat):List Mv:=match bL s k with
 | none=>[]
 | some q=>((cC a s k).filter fun l=>gh s l q.1 q.2).map (Mv.on k)
noncomputable def fB (a:YA)(s:YS)(k:Nat):List Mv:=match bL s k with
 | none=>[]
 | some q=>match s.U[q.1.toNat]? with
  | none=>[]
  | some t=>if t.goal=(a.ps.getD k (0,0)).2 then [.Bj k] else []
noncomputable def dN (s:YS)(k:Nat):List Mv:=match s.lanes[k]? with
 | some ln=>if 0 < ln.b then [.back k] else []
 | none=>[]
structure Ju (a:YA):Prop where
 ends:∀ (l:Nat)(pr:Int × Int),a.ps[l]? = some pr->∃ e:Nat,pr.2=(e:Int)/\e < a.n
 Az:∀ p g k,(a.wy p g k).length <= 400
structure OD (a:YA)(s:YS):Prop where
 lanes:s.lanes.length=a.ps.length
 lies:s.lies.length=a.n
 lets:∀ (m:Nat)(t:bj),s.U[m]? = some t->∃ x y:Nat,t.start=(x:Int)/\t.goal=(y:Int)/\x < a.n/\y < a.n
 Ao:∀ (m:Nat)(t:bj),s.U[m]? = some t->(∀ l ∈ t.way,l < a.ps.length)/\t.way.length <= 1000
 AO:∀ (k:Nat)(ln:bU),s.lanes[k]? = some ln->∀ q ∈ ln.qs,∃ (m:Nat)(t:bj),q.1=(m:Int)/\s.U[m]? = some t/\k ∈ t.way
 Az:s.U.length <= 60
structure EM (K:Frag)(c:Cs)(TC:Addr)(J:TJ)(ys:Ys)(H:Hp)(a:YA)(s:YS):Prop where
 Y:AA K ys H a s
 T:Mf c TC J H a
 O:Ju a
 G:OD a s
theorem EM.same {K:Frag}{c:Cs}{TC fw:Addr}{dw:FuncData}{J:TJ}{ys:Ys}{H H':Hp}{a:YA}{s:YS}(W:Wy K TC fw dw J)(h:EM K c TC J ys H a s)(e:zD H H'):EM K c TC J ys H' a s:=⟨zR.same h.Y e,Ba.keep W h.T (zD.zZ e),h.O,h.G⟩
abbrev pj (K:Frag)(c:Cs)(TC:Addr)(J:TJ)(ys:Ys)(f:YA->YS->Nat->List Mv)(len:YS->Nat):Sp:=fun vs H Q _=>∃ (a:YA)(s:YS)(k:Nat),vs=[.ref a.y, .int k]/\EM K c TC J ys H a s/\k < len s /\
 ∀ (D:Addr)(Am:List V)(H':Hp),zD H H'->H D=none->H' D=some (.lst Am)->Paired (Bu H') Am ((f a s k).map fS)->Q (.ref D) H'
noncomputable def nN (K:Frag)(c:Cs)(TC:Addr)(J:TJ)(ys:Ys):Sp:=pj K c TC J ys iy (fun s=>s.U.length)
noncomputable def nM (K:Frag)(c:Cs)(TC:Addr)(J:TJ)(ys:Ys):Sp:=pj K c TC J ys iG (fun s=>s.lanes.length)
noncomputable def pk (K:Frag)(c:Cs)(TC:Addr)(J:TJ)(ys:Ys):Sp:=pj K c TC J ys fB (fun s=>s.lanes.length)
noncomputable def jj (K:Frag)(c:Cs)(TC:Addr)(J:TJ)(ys:Ys):Sp:=pj K c TC J ys (fun _ s k=>dN s k) (fun s=>s.lanes.length)
noncomputable def ji (K:Frag)(c:Cs)(TC:Addr)(J:TJ)(ys:Ys):Sp:=fun vs H Q _=>∃ (a:YA)(s:YS)(k:Nat),vs=[.ref a.y, .int k]/\EM K c TC J ys H a s/\k < s.lanes.length /\
 ∀ (D:Addr)(H':Hp),zD H H'->H D=none->H' D=some (.lst (nV (cC a s k)))->Q (.ref D) H'
noncomputable def xf (c:Cs)(C:Addr)(J:TJ):Sp:=fun vs H Q _=>∃ (a:YA)(l g:Nat),vs=[.ref a.tb, .int l, .int g]/\Mf c C J H a/\Ju a/\l < a.ps.length/\g < a.n /\
 ∀ (D:Addr)(H':Hp),zD H H'->H D=none->H' D=some (.lst (nV (pK a l g)))->Q (.ref D) H'
theorem lA {K:Frag}{p:Addr}{us:List Nat}{g:TG}{tt:TT}{te:TE}{σ0:St}{H:Hp}{Q:VK}(b:Nat->Bool)(f:Nat->Mv)(hn:us.length < sizeLine)(ha:H p=some (.lst (nV us)))
  (hs:∀ (u:Nat)(H1:Hp)(acc:List V)(N:List V->Hp->Prop),u ∈ us->zD H H1->(b u=true->∀ v H2,zD H1 H2->Bu H2 v (fS (f u))->N (acc ++ [v]) H2)->(b u=false->N acc H1) ->
   g (.int u) σ0 H1 fun σ2 H2=>tt σ2 H2 fun b H3=>if b=true then te σ2 H3 fun y H4=>N (acc ++ [y]) H4 else N acc H3)
  (hq:∀ D vs H1,zD H H1->H1 D=none->Paired (Bu H1) vs (((us.filter b).map f).map fS)->Q (.ref D) (upd H1 D (.lst vs))):eB (vd K p) g tt te σ0 Q H:=by
 refine bJ us.length hn (fun i acc H'=>zD H H'/\Paired (Bu H') acc ((((us.take i).filter b).map f).map fS)) ⟨zD.refl _, .nil⟩ (fun i acc H' h=>by
   rw[Paired.length h.2,length_map,length_map]
   have h1:=length_filter_le b (us.take i)
   have h2:=length_take_le i us
   omega) (fun i acc H' hi h=>?_) (fun acc H' h=>?_)
 ·obtain⟨s,hL⟩:=h
  have hu:us[i]? = some us[i]:=List.getElem?_eq_getElem hi
  refine⟨⟨_,_,zJ.of (s _ _ ha),j1 hu⟩,fun v H2 y=>?_⟩
  obtain⟨rfl,y⟩:=y
  have hv:=y _ (zJ.of (s _ _ ha))
  rw[j1 hu]at hv
  cases hv
  refine hs us[i] H2 acc (fun Aw H4=>zD H H4/\Paired (Bu H4) Aw ((((us.take (i + 1)).filter b).map f).map fS)) (getElem_mem hi) s (fun hb v H3 s3 hv=>⟨s.trans s3,?_⟩) (fun hb=>⟨s,?_⟩)
  ·rw[take_succ,hu,filter_append]
   have e:(some us[i]).toList.filter b=[us[i]]:=by simp[hb]
   rw[e,map_append,map_append]
   exact Paired.snoc hv (Paired.mono (fun _ _ z=>z.keep (zD.zZ s3)) hL)
  ·rw[take_succ,hu,filter_append]
   have e:(some us[i]).toList.filter b=[]:=by simp[hb]
   rw[e,append_nil]
   exact hL
 ·obtain⟨s,hL⟩:=h
  rw[take_length]at hL
  exact⟨⟨_,zJ.of (s _ _ ha),by rw[dv];exact Nat.le_refl _⟩,fun D hD=>hq D acc H' s hD hL⟩
noncomputable def v5 (s:Stmt):Scope:=match s with
 | .Return (some (.ListComp _ _ sc _)) _=>sc
 | _=>{ kind := .function,names:=[],isGenerator:=false,isCoroutine:=false }
noncomputable def zb (s:Stmt):Scope:=match s with
 | .If _ [s'] _ _=>v5 s'
 | _=>{ kind := .function,names:=[],isGenerator:=false,isCoroutine:=false }
abbrev Wg:List Str:=["self", "number", "letter", "wanted"]
abbrev Wh:List Str:=["self", "lane", "piece", "letter", "behind"]
abbrev Wi:List Str:=["self", "lane", "piece", "wanted"]
theorem IB:am Wg ["self", "number"] (ai lP):=L2.Ad
theorem R5:AS Wg (ai lP) (v5 ((aJ lP).getD 3 (.Pass ⟨0,0,0,0⟩))) ["self", "number", "letter"] [0,1,2]:=L2.BS
theorem R6:(["lane", "self", "number", "letter"]:List Str).Nodup:=by decide +kernel
theorem vY {c:Cs}{ys:Ys}{J:TJ}{TC f fw fo:Addr}{fd dw CB:FuncData}(F:Ab K "moves_in" "Yard.moves_in" lP f fd)(Y:iJ K ys)(W:Wy K TC fw dw J)(Iq:zE P w K mg base aG 3 fw dw ["self", "place", "goal", "came"] (eE J))
  (mo:bD K ys.zY "open_to" fo) (bo:Binds K CB ["self", "letter", "count"] []) (Go:zE P w K mg base aG 1 fo CB ["self", "letter", "count"] (kQ ys.zY)) :
  zE P w K mg base aG 4 f fd ["self", "number"] (nN K c TC J ys):=by
 refine F.ok IB (fun vs H Q E h=>?_) (fun cdv A outer s H vs Q E hr h=>?_)
 ·obtain⟨a,s,k,rfl,_⟩:=h
  rfl
 ·obtain⟨a,st,k,rfl,hI,hk,q⟩:=h
  have Ax:zN 1 _:=hr.mono (by decide)
  refine⟨_,ae (ay (i:=2) IB.nd rfl (Or.inr rfl) (aw aI (al (pv 0) rfl) (pv 1) (fun _ _=>rfl)))
   (ae (aL (ap aZ (al (pv 2) rfl) (al (pv 2) rfl) (av _)) (ah (ar (aO ad))) aA)
   (ae (ay (i:=3) IB.nd rfl (Or.inl rfl) (lg (dj (ap aZ (al (pv 2) rfl) aj (av _)) (aC (al (pv 0) rfl) W.cl W.m Iq hr W.b .nil aq (aa (al (pv 2) rfl) (aa (al (pv 2) rfl) (aa bV ad)))) (lY p9 (al (pv 2) rfl) vB (ld aj)))))
   (ah (ar (bA (own:=["lane"]) (capN:=["self", "number", "letter"]) (cap:=[0,1,2]) R5 rfl (bN (pv 3)) (fun C s' H' fp=>⟨au (i:=0) R6 rfl (Or.inl rfl),bM (bu (aC (aw (show n0 _ (qB K) from aI) (show PE _ _ (rN K (qt 1) "lanes") from al (pv 1) rfl) (pv 0) (fun _ _=>rfl)) Y.L.cl mo Go Ax bo .nil aq (aa (pv 2) (aa (show PE _ _ (rN K (qt 3) "gone") from al (pv 3) rfl) ad)))),bH (aa bv (aa (pv 2) (aa (pv 0) ad)))⟩)))))),?_⟩
  have hY:=hI.Y
  obtain⟨zO,Be,pl⟩:=hY.hle
  obtain⟨t,ht⟩:∃ t,st.U[k]? = some t:=⟨_,List.getElem?_eq_getElem hk⟩
  obtain⟨v,hv,x,dx,wa,rfl,hx,hw,_⟩:=Paired.at2 pl ht
  obtain⟨x0,y0,e1,e2,OE,Jv⟩:=hI.G.lets k t ht
  obtain⟨DW,hw9⟩:=hI.G.Ao k t ht
  unfold iy at q
  rw[ht]at q
  refine⟨_,rfl,a.y,ys.zG,a.dy,_,_,rfl,hY.ins,Y.cl,Y.n4,rfl,_,rfl,a.le,zO,(k:Int),_,rfl,rfl,zJ.of Be,ak hv,?_⟩
  refine⟨_,rfl,x,ys.zF,dx,_,_,rfl,hx,Y.ct,Y.t5,rfl,_,rfl,x,ys.zF,dx,_,_,rfl,hx,Y.ct,Y.t3,rfl,rfl,_,rfl,?_⟩
  rw[bP]
  by_cases hg:t.gone=t.len
  ·rw[decide_eq_true hg]
   dsimp only at q
   rw[if_pos hg]at q
   exact aH ⟨zero_le _,fun D hD=>q D [] _ ((zD.refl H).new hD) hD ac .nil⟩
  rw[decide_eq_false hg]
  dsimp only at q
  rw[if_neg hg]at q
  refine aD ⟨fun v H1=>∃ D,v = .ref D/\zD H H1/\H1 D=some (.lst (nV (c9 a t))),?_,?_⟩
  ·refine⟨_,rfl,x,ys.zF,dx,_,_,rfl,hx,Y.ct,Y.t5,rfl,rfl,_,rfl,?_⟩
   rw[bP]
   unfold c9
   by_cases h0:t.gone=0
   ·rw[decide_eq_true h0,if_pos h0]
    obtain⟨C4,fst,Ca,Al,Bi⟩:=hI.T.i
    refine aH ⟨_,rfl,a.y,ys.zG,a.dy,_,_,rfl,hY.ins,Y.cl,Y.n1,rfl,a.tb,C4,fst,rfl,Ca,Bi,_,rfl,x,ys.zF,dx,_,_,rfl,hx,Y.ct,Y.t1,rfl,_,rfl,x,ys.zF,dx,_,_,rfl,hx,Y.ct,Y.t2,rfl,?_⟩
    rw[e1,e2,toNat_natCast,toNat_natCast]
    exact⟨a.tb,a.n,a.wy,x0,y0,none,rfl,hI.T.j,OE,Jv,fun D H1 s1 hD gD=>⟨D,rfl,s1,gD⟩⟩
   ·rw[decide_eq_false h0,if_neg h0]
    refine aD ⟨_,rfl,x,ys.zF,dx,_,_,rfl,hx,Y.ct,Y.t6,rfl,_,rfl,wa,_,rfl,zJ.of hw,fun D hD=>⟨D,rfl,(zD.refl H).new hD,?_⟩⟩
    rw[ac,show((1:Int))=((1:Nat):Int) from rfl,zj]
  rintro v H1 ⟨D,rfl,s1,gD⟩
  have Eg:=hI.same W s1
  have CW:=Eg.Y
  have Bn:=s1 _ _ hx
  obtain⟨zK,Ay,Ey⟩:=CW.AX
  have hfl:(c9 a t).length <= 1000:=by
   unfold c9
   by_cases h0:t.gone=0
   ·rw[if_pos h0];exact le_trans (hI.O.Az _ _ _) (by decide)
   ·rw[if_neg h0];rw[length_take];omega
  have F1:∀ u ∈ c9 a t,u < a.ps.length:=fun u hu=>by
   unfold c9 at hu
   by_cases h0:t.gone=0
   ·rw[if_pos h0,e1,e2,toNat_natCast,toNat_natCast]at hu;exact hI.T.ok _ _ _ OE Jv u hu
   ·rw[if_neg h0]at hu;exact DW u (mem_of_mem_take hu)
  refine⟨_,rfl,D,rfl,⟨_,zJ.of gD⟩,?_⟩
  refine lA (fun l=>gh st l k t.gone) (Mv.Bp k) (by rw[sizeLine_eq];omega) gD (fun u H2 acc N hu s2 FK Jw=>?_) (fun D2 IC H2 s2 BU hp=>?_)
  ·have Dc:=Eg.same W s2
   obtain⟨ID,IE,IF⟩:=Dc.Y.AX
   have R7:u < st.lanes.length:=by rw[hI.G.lanes];exact F1 u hu
   obtain⟨ln,Aa⟩:∃ ln,st.lanes[u]? = some ln:=⟨_,List.getElem?_eq_getElem R7⟩
   obtain⟨vl,FL,xl,B8,Hs,IG,rfl,hL,_⟩:=Paired.at2 IF Aa
   refine⟨_,rfl,a.y,ys.zG,a.dy,_,_,rfl,Dc.Y.ins,Y.cl,Y.n3,rfl,_,rfl,a.la,ID,(u:Int),_,rfl,rfl,zJ.of IE,ak FL,xl,B8,_,rfl,hL.ins,rfl,_,rfl,_,rfl,x,ys.zF,dx,_,_,rfl,s2 _ _ Bn,Y.ct,Y.t5,rfl,xl,B8,Hs,ln.r,ln.b,ln.h,(k:Int),t.gone,rfl,hL.ins,_,rfl,?_⟩
   have eo:gh st u k t.gone=cf ln.r ln.h k t.gone:=by unfold gh;rw[Aa]
   cases ho:cf ln.r ln.h k t.gone with
   | false=>exact aD (Jw (by rw[eo,ho]))
   | true=>exact aH ⟨_,rfl,_,rfl,by show 3 <= sizeLine;decide,fun z hz=>FK (by rw[eo,ho]) _ _ ((zD.refl H2).new hz) ⟨z,rfl,ac⟩⟩
  ·exact q D2 IC _ ((s1.trans s2).new BU) (s1.free (s2.free BU)) ac (Paired.mono (fun _ _ z=>z.keep (zD.zZ ((zD.refl H2).new BU))) hp)
theorem jC {H:Hp}{zU:List V}{qs:List (Int × Int)}(h:zX H zU qs):(qs.head? = none/\oK zU = .zT)∨∃ q pt,qs.head? = some q/\oK zU = .ref pt/\H pt=some (.tup [.int q.1, .int q.2]):=by
 cases h with
 | nil=>exact .inl ⟨rfl,rfl⟩
 | cons x r=>obtain⟨t,rfl,ht⟩:=x;exact .inr ⟨_,t,rfl,rfl,ht⟩
theorem Mu:am ["table", "lane", "goal", "end"] ["table", "lane", "goal"] (ai QL):=L2.Ad
theorem yA {c:Cs}{J:TJ}{C f fw fe:Addr}{fd dw de:FuncData}(F:Ab K "onward" "onward" QL f fd)(L:lC K c)(W:Wy K C fw dw J)(Gw:zE P w K mg base aG 3 fw dw ["self", "place", "goal", "came"] (eE J))
  (M:wV K c fe de) (Ge:zE P w K mg base aG 1 fe de ["self", "lane"] (nQ c Prod.snd)):zE P w K mg base aG 4 f fd ["table", "lane", "goal"] (xf c C J):=by
 refine F.ok Mu (fun vs H Q E h=>?_) (fun cdv A outer s H vs Q E hr h=>?_)
 ·obtain⟨a,l,g,rfl,_⟩:=h
  rfl
 ·obtain⟨a,l,g,rfl,hT,hO,hl,hg,q⟩:=h
  have Ax:zN 1 _:=hr.mono (by decide)
  refine⟨_,ae (ay (i:=3) Mu.nd rfl (Or.inl rfl) (aC (al (pv 0) rfl) L.cl M.m Ge Ax M.b .nil aq (aa (pv 1) ad)))
   (ah (ar (dj (ap aZ (pv 3) (pv 2) (av _)) (aO ad) (aC (pv 0) W.cl W.m Gw hr W.b .nil aq (aa (pv 3) (aa (pv 2) (aa (pv 1) ad))))))),?_⟩
  obtain⟨dx,fs,hx,hf,Ht⟩:=hT.i
  have he:=List.getElem?_eq_getElem hl
  have Hu:a.ps.getD l (0,0)=a.ps[l]:=by rw[getD_eq_getElem?_getD,he];rfl
  unfold pK at q
  rw[Hu]at q
  obtain⟨e,ee,Mw⟩:=hO.ends l _ he
  refine⟨_,rfl,a.tb,C,dx,fs,_,rfl,hx,W.cl,W.nl,hf,a.lx,a.Ac,_,rfl,hT.l.1,rfl,_,rfl,a.lx,a.Ac,a.lt,(a.n:Int),a.zO,a.ps,l,_,rfl,hT.l,he,?_⟩
  rw[ee]at q ⊢
  rw[toNat_natCast]at q
  refine⟨_,rfl,_,rfl,rfl,_,rfl,?_⟩
  rw[bP]
  by_cases h1:(e:Int)=(g:Int)
  ·rw[decide_eq_true h1]
   rw[if_pos h1]at q
   exact aH ⟨zero_le _,fun D hD=>q D _ ((zD.refl H).new hD) hD ac⟩
  ·rw[decide_eq_false h1]
   rw[if_neg h1]at q
   exact aD ⟨_,rfl,a.tb,dx,fs,rfl,hx,Ht,_,rfl,_,rfl,_,rfl,a.tb,a.n,a.wy,e,g,some l,rfl,hT.j,Mw,hg,fun D H' s' hD gD=>q D _ s' hD gD⟩
theorem FN:am Wh ["self", "lane"] (ai gS):=L2.Ad
theorem R8:AS Wh (ai gS) (zb ((aJ gS).getD 3 (.Pass ⟨0,0,0,0⟩))) ["letter"] [3]:=L2.BS
theorem R9:(["way", "letter"]:List Str).Nodup:=by decide +kernel
theorem qK {c:Cs}{ys:Ys}{J:TJ}{TC f fw ff fo:Addr}{fd dw df CB:FuncData}(F:Ab K "wanted" "Yard.wanted" gS f fd)(Y:iJ K ys)(W:Wy K TC fw dw J)
  (mf:bD K ys.zY "front" ff) (bf:Binds K df ["self"] []) (Gf:zE P w K mg base aG 1 ff df ["self"] (iL ys.zY))
  (mo:mg "onward" = some (.ref fo)) (ko:keepIn K (.ref fo)=true) (bo:Binds K CB ["table", "lane", "goal"] []) (Go:zE P w K mg base aG 4 fo CB ["table", "lane", "goal"] (xf c TC J)) :
  zE P w K mg base aG 5 f fd ["self", "lane"] (ji K c TC J ys):=by
 refine F.ok FN (fun vs H Q E h=>?_) (fun cdv A outer s H vs Q E hr h=>?_)
 ·obtain⟨a,s,k,rfl,_⟩:=h
  rfl
 ·obtain⟨a,st,k,rfl,hI,hk,q⟩:=h
  have Ax:zN 1 _:=hr.mono (by decide)
  refine⟨_,ae (ay (i:=2) FN.nd rfl (Or.inl rfl) (cb (aw aI (al (pv 0) rfl) (pv 1) (fun _ _=>rfl)) Y.L.cl mf Gf Ax bf .nil aq))
   (ae (aL (ap jy (pv 2) bV (av _)) (ah (ar (aO ad))) aA)
   (ae (ay (i:=3) FN.nd rfl (Or.inr rfl) (aw aI (al (pv 0) rfl) (aw aB (pv 2) aj (fun _ _=>rfl)) (fun _ _=>rfl)))
   (ae (aL (ap aZ (aw aB (pv 2) aj (fun _ _=>rfl)) aj (av _))
    (ah (ar (bA (own:=["way"]) (capN:=["letter"]) (cap:=[3]) R8 rfl (bN (az Go hr rfl mo ko bo .nil aq (aa (al (pv 0) rfl) (aa (pv 1) (aa (al (pv 3) rfl) ad))))) (fun C s' H' fp=>⟨au (i:=0) R9 rfl (Or.inl rfl),bM (ap (show eU _ (compareOp .NotIn) (Qe K true) from ll) (pv 0) (show PE _ _ (rN K (qt 1) "way") from al (pv 1) rfl) (by with_unfolding_all rfl)),pv 0⟩)))) aA)
   (ae (ay (i:=4) FN.nd rfl (Or.inl rfl) (aE bB (cr plainAttrs_list slot_list_index PySem.F.type_list_index kq (al (pv 3) rfl) (aa (pv 1) ad)) aj))
   (ah (ar (lY p9 (al (pv 3) rfl) (ld (pv 4)) (ld (aE bB (pv 4) aj))))))))),?_⟩
  have hY:=hI.Y
  obtain⟨zK,Ay,Ey⟩:=hY.AX
  obtain⟨ln,Aa⟩:∃ ln,st.lanes[k]? = some ln:=⟨_,List.getElem?_eq_getElem hk⟩
  obtain⟨vl,FL,xl,B8,Hs,IG,rfl,hL,_⟩:=Paired.at2 Ey Aa
  refine⟨_,rfl,a.y,ys.zG,a.dy,_,_,rfl,hY.ins,Y.cl,Y.n3,rfl,_,rfl,a.la,zK,(k:Int),_,rfl,rfl,zJ.of Ay,ak FL,xl,B8,_,rfl,hL.ins,rfl,xl,B8,Hs,ln.r,ln.b,ln.h,IG,ln.qs,rfl,hL,?_⟩
  unfold cC bL at q
  rw[Aa]at q
  dsimp only at q
  rcases jC hL.AO with ⟨hf,ef⟩ | ⟨pq,pt,hf,ef,CZ⟩
  ·rw[hf]at q
   rw[ef]
   exact⟨_,rfl,rfl,_,rfl,aH ⟨zero_le _,fun D hD=>q D _ ((zD.refl H).new hD) hD ac⟩⟩
  rw[hf]at q
  rw[ef]
  have hqm:pq ∈ ln.qs:=mem_of_head? hf
  obtain⟨m,t,em,hm,DP⟩:=hI.G.AO k ln Aa pq hqm
  obtain⟨x0,y0,e1,e2,OE,Jv⟩:=hI.G.lets m t hm
  obtain⟨DW,hw9⟩:=hI.G.Ao m t hm
  rw[em]at CZ
  dsimp only at q
  rw[em,toNat_natCast,hm]at q
  dsimp only at q
  refine⟨_,rfl,rfl,_,rfl,aD ?_⟩
  obtain⟨zO,Be,pl⟩:=hY.hle
  obtain⟨v,hv,x,dx,wa,rfl,hx,hw,_⟩:=Paired.at2 pl hm
  refine⟨_,rfl,a.y,ys.zG,a.dy,_,_,rfl,hY.ins,Y.cl,Y.n4,rfl,_,rfl,pt,_,0,_,rfl,rfl,zM.of CZ,ak (j:=0) rfl,a.le,zO,(m:Int),_,rfl,rfl,zJ.of Be,ak hv,?_⟩
  refine⟨_,rfl,pt,_,1,_,rfl,rfl,zM.of CZ,ak (j:=1) rfl,rfl,_,rfl,?_⟩
  rw[bP]
  by_cases h0:pq.2=0
  ·rw[decide_eq_true h0]
   rw[if_pos h0,e2,toNat_natCast]at q
   refine aH ⟨_,rfl,a.y,ys.zG,a.dy,_,_,rfl,hY.ins,Y.cl,Y.n1,rfl,_,rfl,_,rfl,x,ys.zF,dx,_,_,rfl,hx,Y.ct,Y.t2,rfl,?_⟩
   rw[e2]
   refine⟨a,k,y0,rfl,hI.T,hI.O,by rw[← hI.G.lanes];exact hk,Jv,fun D H1 s1 hD gD=>⟨D,rfl,⟨_,zJ.of gD⟩,?_⟩⟩
   have Gv:(pK a k y0).length <= 400:=by
    unfold pK
    by_cases z:(a.ps.getD k (0,0)).2=(y0:Int)
    ·rw[if_pos z];exact zero_le _
    ·rw[if_neg z];exact hI.O.Az _ _ _
   refine fM (fun v=>match v with | .int i=>!decide (i ∈ iz t.way) | _=>false) (fun v=>v) (by rw[dv,sizeLine_eq];omega) (zJ.of gD) (fun y acc N hy h=>?_) (fun D2 BU=>?_)
   ·obtain⟨u,hu,rfl⟩:=uh hy
    refine⟨_,rfl,_,rfl,x,ys.zF,dx,_,_,rfl,s1 _ _ hx,Y.ct,Y.t6,rfl,wa,_,rfl, .inl (zJ.of (s1 _ _ hw)),rfl,by rw[kj];exact fU _,_,rfl,?_⟩
    rw[kj,iW]
    have h:N (if (!decide ((u:Int) ∈ iz t.way))=true then acc ++ [V.int u] else acc) H1:=h
    cases hb:decide ((u:Int) ∈ iz t.way) with
    | true =>
     rw[hb]at h
     exact aD h
    | false =>
     rw[hb]at h
     exact aH ⟨_,rfl,h⟩
   ·have e:((nV (pK a k y0)).filter (fun v=>match v with | .int i=>!decide (i ∈ iz t.way) | _=>false)).map (fun v=>v)=nV ((pK a k y0).filter fun l=>!decide (l ∈ t.way)):=by
     rw[List.map_id']
     unfold nV
     rw[List.filter_map]
     congr 1
     refine filter_congr fun u _=>?_
     show(!decide ((u:Int) ∈ iz t.way))=_
     rw[oF]
    rw[e]
    exact q D2 _ (s1.new BU) (s1.free BU) ac
  ·rw[decide_eq_false h0]
   rw[if_neg h0]at q
   refine aD ⟨_,rfl,x,ys.zF,dx,_,_,rfl,hx,Y.ct,Y.t6,rfl, .inl ⟨rfl,_,zJ.of hw⟩,_,rfl,wa,iz t.way,(k:Int),rfl,rfl,by rw[← kj];exact hw,AN.mpr ⟨k,DP,rfl⟩,by unfold iz;rw[length_map];omega,_,_,rfl,rfl,?_⟩
   rw[oJ]
   refine⟨_,rfl,x,ys.zF,dx,_,_,rfl,hx,Y.ct,Y.t6,rfl,_,rfl,_,rfl,_,rfl,_,_,rfl,rfl,_,rfl,wa,_,rfl,zJ.of hw,fun D hD=>?_⟩
   have e:l9 (nV t.way) (some (((t.way.idxOf k:Nat):Int) + 1)) (some (((t.way.idxOf k:Nat):Int) + 1 + 1))=nV ((t.way.drop (t.way.idxOf k + 1)).take 1):=by
    have:=wJ t.way (t.way.idxOf k + 1)
    rw[← this]
    rfl
   dsimp only
   rw[e]
   exact q D _ ((zD.refl H).new hD) hD ac
theorem IH:am Wi ["self", "lane"] (ai lO):=L2.Ad
theorem RA:AS Wi (ai lO) (v5 ((aJ lO).getD 2 (.Pass ⟨0,0,0,0⟩))) ["self", "lane", "piece"] [0,1,2]:=L2.BS
theorem RB:(["other", "self", "lane", "piece"]:List Str).Nodup:=by decide +kernel
theorem vX {c:Cs}{ys:Ys}{J:TJ}{TC f fw ff fa fo:Addr}{fd dw df da CB:FuncData}(F:Ab K "moves_on" "Yard.moves_on" lO f fd)(Y:iJ K ys)(W:Wy K TC fw dw J)
  (mf:bD K ys.zY "front" ff) (bf:Binds K df ["self"] []) (Gf:zE P w K mg base aG 1 ff df ["self"] (iL ys.zY))
  (ma:bD K ys.zG "wanted" fa) (ba:Binds K da ["self", "lane"] []) (Ga:zE P w K mg base aG 5 fa da ["self", "lane"] (ji K c TC J ys))
  (mo:bD K ys.zY "open_to" fo) (bo:Binds K CB ["self", "letter", "count"] []) (Go:zE P w K mg base aG 1 fo CB ["self", "letter", "count"] (kQ ys.zY)) :
  zE P w K mg base aG 6 f fd ["self", "lane"] (nM K c TC J ys):=by
 refine F.ok IH (fun vs H Q E h=>?_) (fun cdv A outer s H vs Q E hr h=>?_)
 ·obtain⟨a,s,k,rfl,_⟩:=h
  rfl
 ·obtain⟨a,st,k,rfl,hI,hk,q⟩:=h
  have Ax:zN 1 _:=hr.mono (by decide)
  refine⟨_,ae (ay (i:=2) IH.nd rfl (Or.inr rfl) (cb (aw aI (al (pv 0) rfl) (pv 1) (fun _ _=>rfl)) Y.L.cl mf Gf Ax bf .nil aq))
   (ae (ay (i:=3) IH.nd rfl (Or.inl rfl) (aC (pv 0) Y.cl ma Ga hr ba .nil aq (aa (pv 1) ad)))
   (ah (ar (bA (own:=["other"]) (capN:=["self", "lane", "piece"]) (cap:=[0,1,2]) RA rfl (bN (pv 3)) (fun C s' H' fp=>⟨au (i:=0) RB rfl (Or.inl rfl),bM (bu (aC (aw (show n0 _ (qB K) from aI) (show PE _ _ (rN K (qt 1) "lanes") from al (pv 1) rfl) (pv 0) (fun _ _=>rfl)) Y.L.cl mo Go Ax bo .nil aq (aa (aw (show n0 _ (jO K) from aB) (pv 3) aj (fun _ _=>rfl)) (aa (aw (show n0 _ (jO K) from aB) (pv 3) aj (fun _ _=>rfl)) ad)))),bH (aa bv (aa (pv 2) (aa (pv 0) ad)))⟩))))),?_⟩
  have hY:=hI.Y
  obtain⟨zK,Ay,Ey⟩:=hY.AX
  obtain⟨ln,Aa⟩:∃ ln,st.lanes[k]? = some ln:=⟨_,List.getElem?_eq_getElem hk⟩
  obtain⟨vl,FL,xl,B8,Hs,IG,rfl,hL,_⟩:=Paired.at2 Ey Aa
  refine⟨_,rfl,a.y,ys.zG,a.dy,_,_,rfl,hY.ins,Y.cl,Y.n3,rfl,_,rfl,a.la,zK,(k:Int),_,rfl,rfl,zJ.of Ay,ak FL,xl,B8,_,rfl,hL.ins,rfl,xl,B8,Hs,ln.r,ln.b,ln.h,IG,ln.qs,rfl,hL,?_⟩
  refine⟨_,rfl,a.y,a.dy,_,rfl,hY.ins,rfl,_,rfl,a,st,k,rfl,hI,hk,fun D H1 s1 hD gD=>?_⟩
  refine⟨_,rfl,D,rfl,⟨_,zJ.of gD⟩,?_⟩
  have Eg:=hI.same W s1
  have eF:bL st k=ln.qs.head?:=by unfold bL;rw[Aa]
  have F1:∀ u ∈ cC a st k,u < a.ps.length:=fun u hu=>by
   unfold cC at hu
   rw[eF]at hu
   cases hq:ln.qs.head? with
   | none=>rw[hq]at hu;cases hu
   | some pq =>
    rw[hq]at hu
    obtain⟨m,t,em,hm,DP⟩:=hI.G.AO k ln Aa pq (mem_of_head? hq)
    obtain⟨x0,y0,e1,e2,OE,Jv⟩:=hI.G.lets m t hm
    dsimp only at hu
    rw[em,toNat_natCast,hm]at hu
    dsimp only at hu
    by_cases h0:pq.2=0
    ·rw[if_pos h0,e2,toNat_natCast]at hu
     have hu:=(mem_filter.mp hu).1
     unfold pK at hu
     by_cases z:(a.ps.getD k (0,0)).2=(y0:Int)
     ·rw[if_pos z]at hu;cases hu
     ·rw[if_neg z]at hu
      have Jx:k < a.ps.length:=by rw[← hI.G.lanes];exact hk
      obtain⟨e,ee,Mw⟩:=hI.O.ends k _ (List.getElem?_eq_getElem Jx)
      have Hu:a.ps.getD k (0,0)=a.ps[k]:=by rw[getD_eq_getElem?_getD,List.getElem?_eq_getElem Jx];rfl
      rw[Hu,ee,toNat_natCast]at hu
      exact hI.T.ok _ _ _ Mw Jv u hu
    ·rw[if_neg h0]at hu
     exact(hI.G.Ao m t hm).1 u (List.mem_of_mem_drop (mem_of_mem_take hu))
  have DW:(cC a st k).length <= 1000:=by
   unfold cC
   cases bL st k with
   | none=>exact zero_le _
   | some pq =>
    dsimp only
    cases st.U[pq.1.toNat]? with
    | none=>exact zero_le _
    | some t =>
     dsimp only
     by_cases h0:pq.2=0
     ·rw[if_pos h0]
      refine le_trans (length_filter_le _ _) ?_
      unfold pK
      by_cases z:(a.ps.getD k (0,0)).2=((t.goal.toNat:Nat):Int)
      ·rw[if_pos z];exact zero_le _
      ·rw[if_neg z];exact le_trans (hI.O.Az _ _ _) (by decide)
     ·rw[if_neg h0,length_take];omega
  unfold iG at q
  rw[eF]at q
  rcases jC hL.AO with ⟨hf,ef⟩ | ⟨pq,pt,hf,ef,CZ⟩
  ·have e0:cC a st k=[]:=by unfold cC;rw[eF,hf]
   rw[hf]at q
   rw[e0]at gD
   refine lA (fun l=>false) (Mv.on k) (by rw[sizeLine_eq];decide) gD (fun u H2 acc N hu s2 FK Jw=>by cases hu) (fun D2 IC H2 s2 BU hp=>?_)
   exact q D2 IC _ ((s1.trans s2).new BU) (s1.free (s2.free BU)) ac (Paired.mono (fun _ _ z=>z.keep (zD.zZ ((zD.refl H2).new BU))) hp)
  rw[hf]at q
  dsimp only at q
  rw[ef]
  refine lA (fun l=>gh st l pq.1 pq.2) (Mv.on k) (by rw[sizeLine_eq];omega) gD (fun u H2 acc N hu s2 FK Jw=>?_) (fun D2 IC H2 s2 BU hp=>?_)
  ·have Dc:=Eg.same W s2
   obtain⟨ID,IE,IF⟩:=Dc.Y.AX
   have R7:u < st.lanes.length:=by rw[hI.G.lanes];exact F1 u hu
   obtain⟨Ap,Bc⟩:∃ ln,st.lanes[u]? = some ln:=⟨_,List.getElem?_eq_getElem R7⟩
   obtain⟨vu,hvu,xu,Wj,pau,pvu,rfl,Wk,_⟩:=Paired.at2 IF Bc
   have EL:=s2 _ _ (s1 _ _ CZ)
   refine⟨_,rfl,a.y,ys.zG,a.dy,_,_,rfl,Dc.Y.ins,Y.cl,Y.n3,rfl,_,rfl,a.la,ID,(u:Int),_,rfl,rfl,zJ.of IE,ak hvu,xu,Wj,_,rfl,Wk.ins,rfl,_,rfl,pt,_,0,_,rfl,rfl,zM.of EL,ak (j:=0) rfl,_,rfl,pt,_,1,_,rfl,rfl,zM.of EL,ak (j:=1) rfl,xu,Wj,pau,Ap.r,Ap.b,Ap.h,pq.1,pq.2,rfl,Wk.ins,_,rfl,?_⟩
   have eo:gh st u pq.1 pq.2=cf Ap.r Ap.h pq.1 pq.2:=by unfold gh;rw[Bc]
   cases ho:cf Ap.r Ap.h pq.1 pq.2 with
   | false=>exact aD (Jw (by rw[eo,ho]))
   | true=>exact aH ⟨_,rfl,_,rfl,by show 3 <= sizeLine;decide,fun z hz=>FK (by rw[eo,ho]) _ _ ((zD.refl H2).new hz) ⟨z,rfl,ac⟩⟩
  ·exact q D2 IC _ ((s1.trans s2).new BU) (s1.free (s2.free BU)) ac (Paired.mono (fun _ _ z=>z.keep (zD.zZ ((zD.refl H2).new BU))) hp)
theorem Mx:am ["self", "lane", "piece"] ["self", "lane"] (ai nX):=L2.Ad
theorem tS {c:Cs}{ys:Ys}{J:TJ}{TC f fw ff fe:Addr}{fd dw df de:FuncData}(F:Ab K "moves_lie" "Yard.moves_lie" nX f fd)(Y:iJ K ys)(L:lC K c)(W:Wy K TC fw dw J)
  (mf:bD K ys.zY "front" ff) (bf:Binds K df ["self"] []) (Gf:zE P w K mg base aG 1 ff df ["self"] (iL ys.zY)) (M:wV K c fe de) (Ge:zE P w K mg base aG 1 fe de ["self", "lane"] (nQ c Prod.snd)) :
  zE P w K mg base aG 2 f fd ["self", "lane"] (pk K c TC J ys):=by
 refine F.ok Mx (fun vs H Q E h=>?_) (fun cdv A outer s H vs Q E hr h=>?_)
 ·obtain⟨a,s,k,rfl,_⟩:=h
  rfl
 ·obtain⟨a,st,k,rfl,hI,hk,q⟩:=h
  refine⟨_,ae (ay (i:=2) Mx.nd rfl (Or.inl rfl) (cb (aw aI (al (pv 0) rfl) (pv 1) (fun _ _=>rfl)) Y.L.cl mf Gf hr bf .nil aq))
   (ae (aL (PW.pt (eR (ap jy (pv 2) bV (av _)) (dL (ap gZ (al (aw aI (al (pv 0) rfl) (aw aB (pv 2) aj (fun _ _=>rfl)) (fun _ _=>rfl)) rfl) (aC (al (al (pv 0) rfl) rfl) L.cl M.m Ge hr M.b .nil aq (aa (pv 1) ad)) (av _))))) (ah (ar (aO ad))) aA)
   (ah (ar (aO (aa (bH (aa bv (aa (pv 1) ad))) ad))))),?_⟩
  have hY:=hI.Y
  obtain⟨zK,Ay,Ey⟩:=hY.AX
  obtain⟨ln,Aa⟩:∃ ln,st.lanes[k]? = some ln:=⟨_,List.getElem?_eq_getElem hk⟩
  obtain⟨vl,FL,xl,B8,Hs,IG,rfl,hL,_⟩:=Paired.at2 Ey Aa
  refine⟨_,rfl,a.y,ys.zG,a.dy,_,_,rfl,hY.ins,Y.cl,Y.n3,rfl,_,rfl,a.la,zK,(k:Int),_,rfl,rfl,zJ.of Ay,ak FL,xl,B8,_,rfl,hL.ins,rfl,xl,B8,Hs,ln.r,ln.b,ln.h,IG,ln.qs,rfl,hL,?_⟩
  have eF:bL st k=ln.qs.head?:=by unfold bL;rw[Aa]
  unfold fB at q
  rw[eF]at q
  rcases jC hL.AO with ⟨hf,ef⟩ | ⟨pq,pt,hf,ef,CZ⟩
  ·rw[hf]at q
   rw[ef]
   exact⟨_,rfl,rfl,_,rfl,aH (aH ⟨zero_le _,fun D hD=>q D [] _ ((zD.refl H).new hD) hD ac .nil⟩)⟩
  rw[hf]at q
  rw[ef]
  obtain⟨m,t,em,hm,DP⟩:=hI.G.AO k ln Aa pq (mem_of_head? hf)
  rw[em]at CZ
  dsimp only at q
  rw[em,toNat_natCast,hm]at q
  dsimp only at q
  obtain⟨zO,Be,pl⟩:=hY.hle
  obtain⟨v,hv,x,dx,wa,rfl,hx,hw,_⟩:=Paired.at2 pl hm
  obtain⟨C4,fst,Ca,Al,Bi⟩:=hI.T.i
  have Jx:k < a.ps.length:=by rw[← hI.G.lanes];exact hk
  have he:=List.getElem?_eq_getElem Jx
  have Hu:a.ps.getD k (0,0)=a.ps[k]:=by rw[getD_eq_getElem?_getD,he];rfl
  rw[Hu]at q
  refine⟨_,rfl,rfl,_,rfl,aD ⟨_,rfl,a.y,ys.zG,a.dy,_,_,rfl,hY.ins,Y.cl,Y.n4,rfl,_,rfl,pt,_,0,_,rfl,rfl,zM.of CZ,ak (j:=0) rfl,a.le,zO,(m:Int),_,rfl,rfl,zJ.of Be,ak hv,x,ys.zF,dx,_,_,rfl,hx,Y.ct,Y.t2,rfl,_,rfl,a.y,ys.zG,a.dy,_,_,rfl,hY.ins,Y.cl,Y.n1,rfl,a.tb,TC,C4,fst,_,rfl,Ca,W.cl,W.nl,Al,a.lx,a.Ac,_,rfl,hI.T.l.1,rfl,_,rfl,a.lx,a.Ac,a.lt,(a.n:Int),a.zO,a.ps,k,_,rfl,hI.T.l,he,rfl,_,rfl,?_⟩⟩
  rw[bP]
  by_cases hg:t.goal=a.ps[k].2
  ·rw[decide_eq_true hg]
   rw[if_pos hg]at q
   refine aD ⟨_,rfl,by show 2 <= sizeLine;decide,fun z hz=>⟨by show 1 <= sizeLine;decide,fun D hD=>?_⟩⟩
   have s2:=(zD.refl H).new (o := .tup [.str "lie", .int k]) hz
   have gz:(upd H z (.tup [.str "lie", .int k])) z=some (.tup [.str "lie", .int k]):=ac
   exact q D [.ref z] _ (s2.new hD) (s2.free hD) ac (.cons ⟨z,rfl,by rw[af (ag gz hD)];exact gz⟩ .nil)
  ·rw[decide_eq_false hg]
   rw[if_neg hg]at q
   exact aH ⟨zero_le _,fun D hD=>q D [] _ ((zD.refl H).new hD) hD ac .nil⟩
theorem RC:am ["self", "lane"] ["self", "lane"] (ai kX):=L2.Ad
theorem qL {c:Cs}{ys:Ys}{J:TJ}{TC f:Addr}{fd:FuncData}(F:Ab K "moves_back" "Yard.moves_back" kX f fd)(Y:iJ K ys):zE P w K mg base aG 1 f fd ["self", "lane"] (jj K c TC J ys):=by
 refine F.ok RC (fun vs H Q E h=>?_) (fun cdv A outer s H vs Q E hr h=>?_)
 ·obtain⟨a,s,k,rfl,_⟩:=h
  rfl
 ·obtain⟨a,st,k,rfl,hI,hk,q⟩:=h
  refine⟨_,ah (ar (dj (ap pJ (al (aw aI (al (pv 0) rfl) (pv 1) (fun _ _=>rfl)) rfl) aj (av _)) (aO (aa (bH (aa bv (aa (pv 1) ad))) ad)) (aO ad))),?_⟩
  have hY:=hI.Y
  obtain⟨zK,Ay,Ey⟩:=hY.AX
  obtain⟨ln,Aa⟩:∃ ln,st.lanes[k]? = some ln:=⟨_,List.getElem?_eq_getElem hk⟩
  obtain⟨vl,FL,xl,B8,Hs,IG,rfl,hL,_⟩:=Paired.at2 Ey Aa
  unfold dN at q
  dsimp only at q
  rw[Aa]at q
  dsimp only at q
  refine⟨_,rfl,a.y,ys.zG,a.dy,_,_,rfl,hY.ins,Y.cl,Y.n3,rfl,_,rfl,a.la,zK,(k:Int),_,rfl,rfl,zJ.of Ay,ak FL,xl,ys.zY,B8,_,_,rfl,hL.ins,Y.L.cl,Y.L.n2,rfl,_,_,rfl,rfl,_,rfl,?_⟩
  by_cases hb:0 < ln.b
  ·rw[decide_eq_true hb]
   rw[if_pos hb]at q
   refine aH ⟨_,rfl,by show 2 <= sizeLine;decide,fun z hz=>⟨by show 1 <= sizeLine;decide,fun D hD=>?_⟩⟩
   have s2:=(zD.refl H).new (o := .tup [.str "back", .int k]) hz
   have gz:(upd H z (.tup [.str "back", .int k])) z=some (.tup [.str "back", .int k]):=ac
   exact q D [.ref z] _ (s2.new hD) (s2.free hD) ac (.cons ⟨z,rfl,by rw[af (ag gz hD)];exact gz⟩ .nil)
  ·rw[decide_eq_false hb]
   rw[if_neg hb]at q
   exact aD ⟨zero_le _,fun D hD=>q D [] _ ((zD.refl H).new hD) hD ac .nil⟩
theorem j2 {H:Hp}{F:Addr}{xs:List V}{o:HO}(h:H F=some (.lst xs)):Ah H (upd H F o):=fun b u e n=>by
 have nb:b ≠ F:=fun z=>by rw[z,h]at e;cases e;exact n
 rw[af nb];exact e
theorem e8 {α:Type}(f:Nat->List α)(i:Nat):(List.range (i + 1)).flatMap f=(List.range i).flatMap f ++ f i:=by
 rw[range_succ,List.flatMap_append];simp
theorem aQ {α:Type}{f:Nat->List α}(h:∀ i,(f i).length <= 1000):∀ i,((List.range i).flatMap f).length <= 1000 * i
 | 0=>by simp
 | i + 1=>by rw[e8,length_append];have:=aQ h i;have:=h i;omega
theorem dA {a:YA}{s:YS}(O:Ju a)(G:OD a s)(k:Nat):(iy a s k).length <= 1000:=by
 unfold iy
 cases ht:s.U[k]? with
 | none=>exact zero_le _
 | some t =>
  dsimp only
  by_cases hg:t.gone=t.len
  ·rw[if_pos hg];exact zero_le _
  rw[if_neg hg,length_map]
  refine le_trans (length_filter_le _ _) ?_
  unfold c9
  by_cases h0:t.gone=0
  ·rw[if_pos h0];exact le_trans (O.Az _ _ _) (by decide)
  ·rw[if_neg h0,length_take];omega
theorem dz {a:YA}{s:YS}(O:Ju a)(k:Nat):(iG a s k).length <= 1000:=by
 unfold iG
 cases hq:bL s k with
 | none=>exact zero_le _
 | some pq =>
  dsimp only
  rw[length_map]
  refine le_trans (length_filter_le _ _) ?_
  unfold cC
  rw[hq]
  dsimp only
  cases s.U[pq.1.toNat]? with
  | none=>exact zero_le _
  | some t =>
   dsimp only
   by_cases h0:pq.2=0
   ·rw[if_pos h0]
    refine le_trans (length_filter_le _ _) ?_
    unfold pK
    by_cases z:(a.ps.getD k (0,0)).2=((t.goal.toNat:Nat):Int)
    ·rw[if_pos z];exact zero_le _
    ·rw[if_neg z];exact le_trans (O.Az _ _ _) (by decide)
   ·rw[if_neg h0,length_take];omega
theorem cu (a:YA)(s:YS)(k:Nat):(fB a s k).length <= 1000:=by
 unfold fB
 cases bL s k with
 | none=>exact zero_le _
 | some pq =>
  dsimp only
  cases s.U[pq.1.toNat]? with
  | none=>exact zero_le _
  | some t =>
   dsimp only
   by_cases h0:t.goal=(a.ps.getD k (0,0)).2
   ·rw[if_pos h0];show 1 <= 1000;decide
   ·rw[if_neg h0];exact zero_le _
theorem gG (s:YS)(k:Nat):(dN s k).length <= 1000:=by
 unfold dN
 cases s.lanes[k]? with
 | none=>exact zero_le _
 | some ln =>
  dsimp only
  by_cases h0:0 < ln.b
  ·rw[if_pos h0];show 1 <= 1000;decide
  ·rw[if_neg h0];exact zero_le _
noncomputable def cv (a:YA)(s:YS):List Mv:=(List.range s.U.length).flatMap (iy a s) ++ (List.range s.lanes.length).flatMap (iG a s) ++ (List.range s.lanes.length).flatMap (fB a s) ++ (List.range s.lanes.length).flatMap (dN s)
noncomputable def pw (K:Frag)(c:Cs)(TC:Addr)(J:TJ)(ys:Ys):Sp:=fun vs H Q _=>∃ (a:YA)(s:YS),vs=[.ref a.y]/\EM K c TC J ys H a s /\
 ∀ (D:Addr)(Am:List V)(H':Hp),zD H H'->H D=none->H' D=some (.lst Am)->Paired (Bu H') Am ((cv a s).map fS)->Q (.ref D) H'
theorem Paired.app {α β:Type}{R:α->β->Prop}{cs:List α}{ds:List β}(h:Paired R cs ds):∀ {as:List α}{bs:List β},Paired R as bs->Paired R (as ++ cs) (bs ++ ds):=fun zH=>by
 induction zH with
 | nil=>exact h
 | cons x r ih=>exact .cons x ih
theorem iT {H H2 H3:Hp}{F:Addr}{vs Am:List V}{xs ys:List Mv}(nF:H F=none)(s2:zD H H2)(g2:H2 F=some (.lst vs))(p2:Paired (Bu H2) vs (xs.map fS))(s3:zD H2 H3)(p3:Paired (Bu H3) Am (ys.map fS)) :
  zD H (upd H3 F (.lst (vs ++ Am)))/\(upd H3 F (.lst (vs ++ Am))) F=some (.lst (vs ++ Am))/\Paired (Bu (upd H3 F (.lst (vs ++ Am)))) (vs ++ Am) ((xs ++ ys).map fS):=by
 refine⟨fun b o e=>by rw[af (ag e nF)];exact s3 _ _ (s2 _ _ e),ac,?_⟩
 have kk:Ah H3 (upd H3 F (.lst (vs ++ Am))):=j2 (s3 _ _ g2)
 rw[map_append]
 have q2:=Paired.mono (fun _ _ z=>z.keep (Ah.trans (zD.zZ s3) kk)) p2
 have q3:=Paired.mono (fun _ _ z=>z.keep kk) p3
 exact Paired.app q3 q2
abbrev NMs:List Str:=["self", "found", "number", "lane"]
theorem Eh:am NMs ["self"] (ai nY):=L2.Ad
structure RD (P:Program)(w:World)(K:Frag)(mg:Str->Option Value)(base:Heap)(c:Cs)(TC:Addr)(J:TJ)(ys:Ys)(fi fo fl fb:Addr)(di CB dl db:FuncData):Prop where
 mi:bD K ys.zG "moves_in" fi
 bi:Binds K di ["self", "number"] []
 Gi:zE P w K mg base aG 4 fi di ["self", "number"] (nN K c TC J ys)
 mo:bD K ys.zG "moves_on" fo
 bo:Binds K CB ["self", "lane"] []
 Go:zE P w K mg base aG 6 fo CB ["self", "lane"] (nM K c TC J ys)
 ml:bD K ys.zG "moves_lie" fl
 bl:Binds K dl ["self", "lane"] []
 Gl:zE P w K mg base aG 2 fl dl ["self", "lane"] (pk K c TC J ys)
 mb:bD K ys.zG "moves_back" fb
 bb:Binds K db ["self", "lane"] []
 Gb:zE P w K mg base aG 1 fb db ["self", "lane"] (jj K c TC J ys)
theorem tT {c:Cs}{ys:Ys}{J:TJ}{TC f fw fi fo fl fb:Addr}{fd dw di CB dl db:FuncData}(F:Ab K "moves" "Yard.moves" nY f fd)(T:eW mg)(Y:iJ K ys)(W:Wy K TC fw dw J)(M:RD P w K mg base c TC J ys fi fo fl fb di CB dl db) :
  zE P w K mg base aG 7 f fd ["self"] (pw K c TC J ys):=by
 refine F.ok Eh (fun vs H Q E h=>?_) (fun cdv A outer s H vs Q E hr h=>?_)
 ·obtain⟨a,s,rfl,_⟩:=h
  rfl
 ·obtain⟨a,st,rfl,hI,q⟩:=h
  have Ax:zN 1 _:=hr.mono (by decide)
  have AB:zN 2 _:=hr.mono (by decide)
  have Cz:zN 4 _:=hr.mono (by decide)
  refine⟨_,ae (ay (i:=1) Eh.nd rfl (Or.inl rfl) (aO ad))
   (ae (b5 PassesOwn.never rfl (aM rfl T.range (aa (ax ao rfl T.len PySem.boot_len (aa (al (pv 0) rfl) ad)) ad)) (au (i:=2) Eh.nd rfl (Or.inl rfl)) (ah (aS (cr plainAttrs_list slot_list_extend type_list_extend fT (pv 1) (aa (aC (pv 0) Y.cl M.mi M.Gi Cz M.bi .nil aq (aa (pv 2) ad)) ad)))))
   (ae (b5 PassesOwn.never rfl (aM rfl T.range (aa (ax ao rfl T.len PySem.boot_len (aa (al (pv 0) rfl) ad)) ad)) (au (i:=3) Eh.nd rfl (Or.inl rfl)) (ah (aS (cr plainAttrs_list slot_list_extend type_list_extend fT (pv 1) (aa (aC (pv 0) Y.cl M.mo M.Go hr M.bo .nil aq (aa (pv 3) ad)) ad)))))
   (ae (b5 PassesOwn.never rfl (aM rfl T.range (aa (ax ao rfl T.len PySem.boot_len (aa (al (pv 0) rfl) ad)) ad)) (au (i:=3) Eh.nd rfl (Or.inl rfl)) (ah (aS (cr plainAttrs_list slot_list_extend type_list_extend fT (pv 1) (aa (aC (pv 0) Y.cl M.ml M.Gl AB M.bl .nil aq (aa (pv 3) ad)) ad)))))
   (ae (b5 PassesOwn.never rfl (aM rfl T.range (aa (ax ao rfl T.len PySem.boot_len (aa (al (pv 0) rfl) ad)) ad)) (au (i:=3) Eh.nd rfl (Or.inl rfl)) (ah (aS (cr plainAttrs_list slot_list_extend type_list_extend fT (pv 1) (aa (aC (pv 0) Y.cl M.mb M.Gb Ax M.bb .nil aq (aa (pv 3) ad)) ad)))))
   (ah (ar (pv 1))))))),?_⟩
  have hlet:=hI.G.Az
  have EN:st.lanes.length <= 40:=by rw[hI.G.lanes];exact hI.T.Az
  refine⟨zero_le _,fun Fd Jy=>?_⟩
  have s0:=(zD.refl H).new (o := .lst []) Jy
  have g0:(upd H Fd (.lst [])) Fd=some (.lst []):=ac
  show cI 1 (V.ref Fd) _ _ _
  generalize upd H Fd (.lst [])=H0 at s0 g0 ⊢
  have RE:∃ vs,zD H H0/\H0 Fd=some (.lst vs)/\Paired (Bu H0) vs (([]:List Mv).map fS):=⟨[],s0,g0, .nil⟩
  obtain⟨Eu,Wl,g0',p0'⟩:=RE
  have Wm:=(hI.same W Wl).Y
  obtain⟨Wn,gl0,pl0⟩:=Wm.hle
  have RF:Wn.length=st.U.length:=Paired.length pl0
  refine⟨_,rfl,a.y,ys.zG,a.dy,_,_,rfl,Wm.ins,Y.cl,Y.n4,rfl,a.le,_,rfl, .inl (zJ.of gl0),((Wn.length:Nat):Int),rfl,by omega,by omega,?_⟩
  rw[toNat_natCast,RF]
  refine aW (n:=st.U.length) (fun i σ H2=>∃ a2 a3:Option V,(∃ vs,zD H H2/\H2 Fd=some (.lst vs)/\Paired (Bu H2) vs (((List.range i).flatMap (iy a st)).map fS))/\σ=[some (.ref a.y),some (.ref Fd),a2,a3]) ?_ ?_ ?_
  ·exact⟨_,_,⟨Eu,Wl,g0',by simpa using p0'⟩,rfl⟩
  ·rintro i σ H2 hi ⟨a2,a3,⟨vs,s2,g2,p2⟩,rfl⟩
   rw[zero_add]
   have Dc:=hI.same W s2
   refine⟨_,rfl, .inl ⟨rfl,_,zJ.of g2⟩,_,rfl,a.y,a.dy,_,rfl,Dc.Y.ins,rfl,_,rfl,a,st,i,rfl,Dc,hi,fun D Am H3 s3 hD gD hp=>?_⟩
   have l1:vs.length <= 1000000:=by
    rw[Paired.length p2,length_map]
    have h0:=aQ (dA hI.O hI.G) st.U.length
    have h1:=aQ (dz (s:=st) hI.O) st.lanes.length
    have h2:=aQ (cu a st) st.lanes.length
    have hh:=aQ (dA hI.O hI.G) i
    try simp only[length_append]
    omega
   have l2:Am.length <= 1000:=by rw[Paired.length hp,length_map];exact(dA hI.O hI.G) i
   obtain⟨q1,q2,q3⟩:=iT Jy s2 g2 p2 s3 hp
   refine⟨Fd,D,vs,Am,rfl,rfl,s3 _ _ g2,gD,by rw[sizeLine_eq];omega,?_⟩
   refine⟨_,_,⟨vs ++ Am,q1,q2,?_⟩,rfl⟩
   rw[e8]
   exact q3
  rintro σ0 H1 ⟨a20,a30,inv1,rfl⟩
  obtain⟨vs1,Wo,g1',p1'⟩:=inv1
  have CW:=(hI.same W Wo).Y
  obtain⟨Wq,OF,R3⟩:=CW.AX
  have RG:Wq.length=st.lanes.length:=Paired.length R3
  refine⟨_,rfl,a.y,ys.zG,a.dy,_,_,rfl,CW.ins,Y.cl,Y.n3,rfl,a.la,_,rfl, .inl (zJ.of OF),((Wq.length:Nat):Int),rfl,by omega,by omega,?_⟩
  rw[toNat_natCast,RG]
  refine aW (n:=st.lanes.length) (fun i σ H2=>∃ a2 a3:Option V,(∃ vs,zD H H2/\H2 Fd=some (.lst vs)/\Paired (Bu H2) vs ((((List.range st.U.length).flatMap (iy a st)) ++ (List.range i).flatMap (iG a st)).map fS))/\σ=[some (.ref a.y),some (.ref Fd),a2,a3]) ?_ ?_ ?_
  ·exact⟨_,_,⟨vs1,Wo,g1',by simpa using p1'⟩,rfl⟩
  ·rintro i σ H2 hi ⟨a2,a3,⟨vs,s2,g2,p2⟩,rfl⟩
   rw[zero_add]
   have Dc:=hI.same W s2
   refine⟨_,rfl, .inl ⟨rfl,_,zJ.of g2⟩,_,rfl,a.y,a.dy,_,rfl,Dc.Y.ins,rfl,_,rfl,a,st,i,rfl,Dc,hi,fun D Am H3 s3 hD gD hp=>?_⟩
   have l1:vs.length <= 1000000:=by
    rw[Paired.length p2,length_map]
    have h0:=aQ (dA hI.O hI.G) st.U.length
    have h1:=aQ (dz (s:=st) hI.O) st.lanes.length
    have h2:=aQ (cu a st) st.lanes.length
    have hh:=aQ (dz (s:=st) hI.O) i
    try simp only[length_append]
    omega
   have l2:Am.length <= 1000:=by rw[Paired.length hp,length_map];exact(dz (s:=st) hI.O) i
   obtain⟨q1,q2,q3⟩:=iT Jy s2 g2 p2 s3 hp
   refine⟨Fd,D,vs,Am,rfl,rfl,s3 _ _ g2,gD,by rw[sizeLine_eq];omega,?_⟩
   refine⟨_,_,⟨vs ++ Am,q1,q2,?_⟩,rfl⟩
   rw[e8]
   rw[← append_assoc];exact q3
  rintro σ1 H2 ⟨a21,a31,inv2,rfl⟩
  obtain⟨IC,Wr,g2',p2'⟩:=inv2
  have DN:=(hI.same W Wr).Y
  obtain⟨Ws,gl2,pl2⟩:=DN.AX
  have RH:Ws.length=st.lanes.length:=Paired.length pl2
  refine⟨_,rfl,a.y,ys.zG,a.dy,_,_,rfl,DN.ins,Y.cl,Y.n3,rfl,a.la,_,rfl, .inl (zJ.of gl2),((Ws.length:Nat):Int),rfl,by omega,by omega,?_⟩
  rw[toNat_natCast,RH]
  refine aW (n:=st.lanes.length) (fun i σ H2=>∃ a2 a3:Option V,(∃ vs,zD H H2/\H2 Fd=some (.lst vs)/\Paired (Bu H2) vs ((((List.range st.U.length).flatMap (iy a st) ++ (List.range st.lanes.length).flatMap (iG a st)) ++ (List.range i).flatMap (fB a st)).map fS))/\σ=[some (.ref a.y),some (.ref Fd),a2,a3]) ?_ ?_ ?_
  ·exact⟨_,_,⟨IC,Wr,g2',by simpa using p2'⟩,rfl⟩
  ·rintro i σ H2 hi ⟨a2,a3,⟨vs,s2,g2,p2⟩,rfl⟩
   rw[zero_add]
   have Dc:=hI.same W s2
   refine⟨_,rfl, .inl ⟨rfl,_,zJ.of g2⟩,_,rfl,a.y,a.dy,_,rfl,Dc.Y.ins,rfl,_,rfl,a,st,i,rfl,Dc,hi,fun D Am H3 s3 hD gD hp=>?_⟩
   have l1:vs.length <= 1000000:=by
    rw[Paired.length p2,length_map]
    have h0:=aQ (dA hI.O hI.G) st.U.length
    have h1:=aQ (dz (s:=st) hI.O) st.lanes.length
    have h2:=aQ (cu a st) st.lanes.length
    have hh:=aQ (cu a st) i
    try simp only[length_append]
    omega
   have l2:Am.length <= 1000:=by rw[Paired.length hp,length_map];exact(cu a st) i
   obtain⟨q1,q2,q3⟩:=iT Jy s2 g2 p2 s3 hp
   refine⟨Fd,D,vs,Am,rfl,rfl,s3 _ _ g2,gD,by rw[sizeLine_eq];omega,?_⟩
   refine⟨_,_,⟨vs ++ Am,q1,q2,?_⟩,rfl⟩
   rw[e8]
   rw[← append_assoc];exact q3
  rintro σ2 H3 ⟨a22,a32,RI,rfl⟩
  obtain⟨vs3,Wt,g3',p3'⟩:=RI
  have CY:=(hI.same W Wt).Y
  obtain⟨Wu,gl3,pl3⟩:=CY.AX
  have RJ:Wu.length=st.lanes.length:=Paired.length pl3
  refine⟨_,rfl,a.y,ys.zG,a.dy,_,_,rfl,CY.ins,Y.cl,Y.n3,rfl,a.la,_,rfl, .inl (zJ.of gl3),((Wu.length:Nat):Int),rfl,by omega,by omega,?_⟩
  rw[toNat_natCast,RJ]
  refine aW (n:=st.lanes.length) (fun i σ H2=>∃ a2 a3:Option V,(∃ vs,zD H H2/\H2 Fd=some (.lst vs)/\Paired (Bu H2) vs ((((List.range st.U.length).flatMap (iy a st) ++ (List.range st.lanes.length).flatMap (iG a st) ++ (List.range st.lanes.length).flatMap (fB a st)) ++ (List.range i).flatMap (dN st)).map fS))/\σ=[some (.ref a.y),some (.ref Fd),a2,a3]) ?_ ?_ ?_
  ·exact⟨_,_,⟨vs3,Wt,g3',by simpa using p3'⟩,rfl⟩
  ·rintro i σ H2 hi ⟨a2,a3,⟨vs,s2,g2,p2⟩,rfl⟩
   rw[zero_add]
   have Dc:=hI.same W s2
   refine⟨_,rfl, .inl ⟨rfl,_,zJ.of g2⟩,_,rfl,a.y,a.dy,_,rfl,Dc.Y.ins,rfl,_,rfl,a,st,i,rfl,Dc,hi,fun D Am H3 s3 hD gD hp=>?_⟩
   have l1:vs.length <= 1000000:=by
    rw[Paired.length p2,length_map]
    have h0:=aQ (dA hI.O hI.G) st.U.length
    have h1:=aQ (dz (s:=st) hI.O) st.lanes.length
    have h2:=aQ (cu a st) st.lanes.length
    have hh:=aQ (gG st) i
    try simp only[length_append]
    omega
   have l2:Am.length <= 1000:=by rw[Paired.length hp,length_map];exact(gG st) i
   obtain⟨q1,q2,q3⟩:=iT Jy s2 g2 p2 s3 hp
   refine⟨Fd,D,vs,Am,rfl,rfl,s3 _ _ g2,gD,by rw[sizeLine_eq];omega,?_⟩
   refine⟨_,_,⟨vs ++ Am,q1,q2,?_⟩,rfl⟩
   rw[e8]
   rw[← append_assoc];exact q3
  rintro σ3 H4 ⟨a23,a33,RK,rfl⟩
  obtain⟨vs,s2,g2,p2⟩:=RK
  exact⟨_,rfl,q Fd vs _ s2 Jy g2 p2⟩
structure Mz (K:Frag):Prop where
 ss:kitOne K (.type "str") (.type "str")=some true
 ns:kitOne K (.type "int") (.type "str")=some false
 tt:kitOne K (.type "tuple") (.type "tuple")=some true
theorem iF {a b:Str}(h:a ≠ b):decide (V.str a=V.str b)=false:=decide_eq_false fun z=>h (by injection z)
theorem jn (a:Str):decide (V.str a=V.str a)=true:=decide_eq_true rfl
noncomputable def sr:Sp:=fun vs H Q _=>∃ (p:Addr)(xs:List V),vs=[.ref p]/\H p=some (.tup xs)/\xs.length <= 100/\(∀ x ∈ xs,(∃ t,x = .str t)∨∃ i,x = .int i)/\∀ H',zD H H'->Q (.bl true) H'
noncomputable def wO (s:Stmt):Scope:=match s with
 | .Return (some (.BoolOp _ [_, .Call _ [.ListComp _ _ sc _] _ _] _)) _=>sc
 | _=>{ kind := .function,names:=[],isGenerator:=false,isCoroutine:=false }
theorem m8 (m:Mv):(fS m).length <= 100/\∀ x ∈ fS m,(∃ t,x=V.str t)∨∃ i,x=V.int i:=by
 cases m<;>refine⟨by simp[fS],fun x hx=>?_⟩<;>simp only[fS,mem_cons,not_mem_nil,or_false]at hx
 ·rcases hx with rfl | rfl | rfl
  ·exact .inl ⟨_,rfl⟩
  ·exact .inr ⟨_,rfl⟩
  ·exact .inr ⟨_,rfl⟩
 ·rcases hx with rfl | rfl | rfl
  ·exact .inl ⟨_,rfl⟩
  ·exact .inr ⟨_,rfl⟩
  ·exact .inr ⟨_,rfl⟩
 ·rcases hx with rfl | rfl
  ·exact .inl ⟨_,rfl⟩
  ·exact .inr ⟨_,rfl⟩
 ·rcases hx with rfl | rfl
  ·exact .inl ⟨_,rfl⟩
  ·exact .inr ⟨_,rfl⟩
noncomputable def pS (a:YA)(s:YS):Mv->List Mv
 | .Bp k _=>iy a s k
 | .on k _=>iG a s k
 | .Bj k=>fB a s k
 | .back k=>dN s k
noncomputable def xq (s:YS):Mv->Prop
 | .Bp k _=>k < s.U.length
 | .on k _=>k < s.lanes.length
 | .Bj k=>k < s.lanes.length
 | .back k=>k < s.lanes.length
noncomputable def sm (K:Frag)(c:Cs)(TC:Addr)(J:TJ)(ys:Ys):Sp:=fun vs H Q _=>∃ (a:YA)(s:YS)(p:Addr)(m:Mv),vs=[.ref a.y, .ref p]/\EM K c TC J ys H a s/\H p=some (.tup (fS m))/\xq s m /\
 ∀ (D:Addr)(Am:List V)(H':Hp),zD H H'->H D=none->H' D=some (.lst Am)->Paired (Bu H') Am ((pS a s m).map fS)->Q (.ref D) H'
theorem RL:am ["move"] ["move"] (ai lQ):=L2.Ad
theorem RM:AS ["move"] (ai lQ) (wO ((aJ lQ).getD 0 (.Pass ⟨0,0,0,0⟩))) [] []:=L2.BS
theorem RN:(["thing"]:List Str).Nodup:=by decide +kernel
theorem wc {f fh:Addr}{fd dh:FuncData}(F:Ab K "is_move" "is_move" lQ f fd)(T:eW mg)(Z:Mz K)(mh:mg "is_whole" = some (.ref fh))(kh:keepIn K (.ref fh)=true)(bh:Binds K dh ["value"] [])(G:zE P w K mg base aG 1 fh dh ["value"] gQ) :
  zE P w K mg base aG 2 f fd ["move"] sr:=by
 refine F.ok RL (fun vs H Q E h=>?_) (fun cdv A outer s H vs Q E hr h=>?_)
 ·obtain⟨p,xs,rfl,_⟩:=h
  rfl
 ·obtain⟨p,xs,rfl,hp,hl,hx,q⟩:=h
  refine⟨_,ah (ar (c8 (ax il rfl T.Jn PyProof.Rows.boot_isinstance (aa (pv 0) (aa (fQ (v := .ty "tuple") rfl T.tuple PySem.Pv.boot_tuple rfl) ad)))
   (c7 (ax (jJ rfl) rfl T.all PyProof.Rows.boot_all (aa (bA (own:=["thing"]) (capN:=[]) (cap:=[]) RM rfl (lf (pv 0)) (fun C s' H' fp=>⟨au (i:=0) RN rfl (Or.inl rfl),dH,
    JO (ax (show c6 _ (.builtin "isinstance") (KL K) from il) rfl T.Jn PyProof.Rows.boot_isinstance (aa (pv 0) (aa (fQ (v := .ty "str") rfl T.str PySem.Pv.boot_str rfl) ad))) (c7 (az G hr rfl mh kh bh .nil aq (aa (pv 0) ad)))⟩)) ad))))),?_⟩
  refine⟨_,rfl, .ref p,_, "tuple",true,rfl, .tup hp,Z.tt,true,rfl,aH ⟨_,rfl,p,rfl,⟨_,zM.of hp⟩,?_⟩⟩
  refine bJ xs.length (by rw[sizeLine_eq];omega) (fun i acc H'=>H' = H/\acc=(List.replicate i true).map V.bl) ⟨rfl,rfl⟩ (fun i acc H' h=>by rw[h.2];simp) (fun i acc H' hi h=>?_) (fun acc H' h=>?_)
  ·obtain⟨rfl,rfl⟩:=h
   refine⟨⟨xs,xs[i],zM.of hp,List.getElem?_eq_getElem hi⟩,fun v H2 y=>?_⟩
   obtain⟨rfl,y⟩:=y
   have hv:=y xs (zM.of hp)
   have e:(List.replicate i true).map V.bl ++ [V.bl true]=(List.replicate (i + 1) true).map V.bl:=by rw[List.replicate_succ',map_append];rfl
   rcases hx v (mem_of_getElem? hv) with ⟨t,rfl⟩ | ⟨z,rfl⟩
   ·exact⟨_,rfl, .str t,_, "str",true,rfl, .str t,Z.ss,true,rfl,aH ⟨rfl,e⟩⟩
   ·exact⟨_,rfl, .int z,_, "str",false,rfl, .int z,Z.ns,false,rfl,aD ⟨_,rfl, .int z,rfl, .int z,rfl,e⟩⟩
  ·obtain⟨rfl,rfl⟩:=h
   refine⟨⟨xs,zM.of hp,Nat.le_refl _⟩,fun D hD=>⟨D,List.replicate xs.length true,rfl,zJ.of ac,?_⟩⟩
   have e:(List.replicate xs.length true).all id=true:=by rw[all_eq_true];intro b hb;rw[eq_of_mem_replicate hb];rfl
   rw[e]
   exact q _ ((zD.refl H').new hD)
theorem RO:am ["self", "move"] ["self", "move"] (ai sQ):=L2.Ad
theorem wb {c:Cs}{ys:Ys}{J:TJ}{TC f fw fi fo fl fb fm fn:Addr}{fd dw di CB dl db dm dn:FuncData}(F:Ab K "moves_like" "Yard.moves_like" sQ f fd)(T:eW mg)(Y:iJ K ys)(W:Wy K TC fw dw J)(M:RD P w K mg base c TC J ys fi fo fl fb di CB dl db)
  (mm:mg "is_move" = some (.ref fm)) (km:keepIn K (.ref fm)=true) (bm:Binds K dm ["move"] []) (Gm:zE P w K mg base aG 2 fm dm ["move"] sr)
  (mn:mg "is_within" = some (.ref fn)) (kn:keepIn K (.ref fn)=true) (bn:Binds K dn ["value", "least", "most"] []) (Gn:zE P w K mg base aG 2 fn dn ["value", "least", "most"] fO) :
  zE P w K mg base aG 7 f fd ["self", "move"] (sm K c TC J ys):=by
 refine F.ok RO (fun vs H Q E h=>?_) (fun cdv A outer s H vs Q E hr h=>?_)
 ·obtain⟨a,s,p,m,rfl,_⟩:=h
  rfl
 ·obtain⟨a,st,p,m,rfl,hI,hp,zL,q⟩:=h
  have Ax:zN 1 _:=hr.mono (by decide)
  have AB:zN 2 _:=hr.mono (by decide)
  have Cz:zN 4 _:=hr.mono (by decide)
  refine⟨_,ae (aL (fP (PW.pt (eR (bE (bu (az Gm AB rfl mm km bm .nil aq (aa (pv 1) ad)))) (dL (ap hU (ax ao rfl T.len PySem.boot_len (aa (pv 1) ad)) aj (av _)))))) (ah (ar (aO ad))) aA)
   (ae (aL (ap aZ (aw aB (pv 1) aj (fun _ _=>rfl)) bv (av _))
    (ah (ar (dj (bu (az Gn AB rfl mn kn bn .nil aq (aa (aw aB (pv 1) aj (fun _ _=>rfl)) (aa aj (aa (aE dq (ax ao rfl T.len PySem.boot_len (aa (al (pv 0) rfl) ad)) aj) ad)))))
     (aC (pv 0) Y.cl M.mi M.Gi Cz M.bi .nil aq (aa (aw aB (pv 1) aj (fun _ _=>rfl)) ad)) (aO ad)))) aA)
   (ae (aL (bE (bu (az Gn AB rfl mn kn bn .nil aq (aa (aw aB (pv 1) aj (fun _ _=>rfl)) (aa aj (aa (aE dq (ax ao rfl T.len PySem.boot_len (aa (al (pv 0) rfl) ad)) aj) ad)))))) (ah (ar (aO ad))) aA)
   (ae (aL (ap aZ (aw aB (pv 1) aj (fun _ _=>rfl)) bv (av _)) (ah (ar (aC (pv 0) Y.cl M.mo M.Go hr M.bo .nil aq (aa (aw aB (pv 1) aj (fun _ _=>rfl)) ad)))) aA)
   (ae (aL (ap aZ (aw aB (pv 1) aj (fun _ _=>rfl)) bv (av _)) (ah (ar (aC (pv 0) Y.cl M.ml M.Gl AB M.bl .nil aq (aa (aw aB (pv 1) aj (fun _ _=>rfl)) ad)))) aA)
   (ah (ar (dj (ap aZ (aw aB (pv 1) aj (fun _ _=>rfl)) bv (av _)) (aC (pv 0) Y.cl M.mb M.Gb Ax M.bb .nil aq (aa (aw aB (pv 1) aj (fun _ _=>rfl)) ad)) (aO ad)))))))),?_⟩
  refine⟨fun b H1=>b=false/\zD H H1,?_,?_⟩
  ·refine⟨_,rfl,p,fS m,rfl,hp,(m8 m).1,(m8 m).2,fun H1 s1=>⟨_,rfl,aD ?_⟩⟩
   refine⟨_,rfl,p,_,rfl, .inr (zM.of (s1 _ _ hp)),_,_,rfl,rfl,_,rfl,?_,s1⟩
   cases m<;>rfl
  rintro b H1 ⟨rfl,s1⟩
  refine aD ?_
  have Eg:=hI.same W s1
  have Ag:=s1 _ _ hp
  have q1:∀ (D:Addr)(Am:List V)(H':Hp),zD H1 H'->H1 D=none->H' D=some (.lst Am)->Paired (Bu H') Am ((pS a st m).map fS)->Q (.ref D) H':=fun D Am H' s' hD g' B6=>q D Am H' (s1.trans s') (s1.free hD) g' B6
  have hY:=Eg.Y
  obtain⟨zO,Be,ple⟩:=hY.hle
  have hle:zO.length=st.U.length:=Paired.length ple
  obtain⟨zK,Ay,Ey⟩:=hY.AX
  have AX:zK.length=st.lanes.length:=Paired.length Ey
  clear s1 q hp hI
  have inl:∀ k:Nat,k < st.lanes.length->jZ (.int k) 0 (((zK.length:Nat):Int) - 1)=true:=fun k hk=>decide_eq_true (by omega)
  cases m with
  | Bp k l =>
   have Ag:H1 p=some (.tup [.str "in", .int k, .int l]):=Ag
   have zL:k < st.U.length:=zL
   refine⟨_,rfl,p,_,0,_,rfl,rfl,zM.of Ag,ak (j:=0) rfl,rfl,_,rfl,?_⟩
   rw[jn]
   refine aH ⟨_,rfl,p,_,1,_,rfl,rfl,zM.of Ag,ak (j:=1) rfl,_,rfl,a.y,ys.zG,a.dy,_,_,rfl,hY.ins,Y.cl,Y.n4,rfl,a.le,_,rfl, .inl (zJ.of Be),_,_,rfl,rfl, .int k,0,((zO.length:Nat):Int) - 1,rfl, .int _,_,rfl,?_⟩
   rw[show jZ (.int k) 0 (((zO.length:Nat):Int) - 1)=true from decide_eq_true (by omega)]
   exact aH ⟨_,rfl,a.y,a.dy,_,rfl,hY.ins,rfl,_,rfl,p,_,1,_,rfl,rfl,zM.of Ag,ak (j:=1) rfl,a,st,k,rfl,Eg,zL,fun D Am H' s' hD g' B6=>q1 D Am H' s' hD g' B6⟩
  | on k l =>
   have Ag:H1 p=some (.tup [.str "on", .int k, .int l]):=Ag
   have zL:k < st.lanes.length:=zL
   refine⟨_,rfl,p,_,0,_,rfl,rfl,zM.of Ag,ak (j:=0) rfl,rfl,_,rfl,?_⟩
   rw[iF (by decide +kernel)]
   refine aD ⟨_,rfl,p,_,1,_,rfl,rfl,zM.of Ag,ak (j:=1) rfl,_,rfl,a.y,ys.zG,a.dy,_,_,rfl,hY.ins,Y.cl,Y.n3,rfl,a.la,_,rfl, .inl (zJ.of Ay),_,_,rfl,rfl, .int k,0,((zK.length:Nat):Int) - 1,rfl, .int _,_,rfl,?_⟩
   rw[inl k zL]
   refine aD ⟨_,rfl,p,_,0,_,rfl,rfl,zM.of Ag,ak (j:=0) rfl,rfl,_,rfl,?_⟩
   rw[jn]
   exact aH ⟨_,rfl,a.y,a.dy,_,rfl,hY.ins,rfl,_,rfl,p,_,1,_,rfl,rfl,zM.of Ag,ak (j:=1) rfl,a,st,k,rfl,Eg,zL,fun D Am H' s' hD g' B6=>q1 D Am H' s' hD g' B6⟩
  | Bj k =>
   have Ag:H1 p=some (.tup [.str "lie", .int k]):=Ag
   have zL:k < st.lanes.length:=zL
   refine⟨_,rfl,p,_,0,_,rfl,rfl,zM.of Ag,ak (j:=0) rfl,rfl,_,rfl,?_⟩
   rw[iF (by decide +kernel)]
   refine aD ⟨_,rfl,p,_,1,_,rfl,rfl,zM.of Ag,ak (j:=1) rfl,_,rfl,a.y,ys.zG,a.dy,_,_,rfl,hY.ins,Y.cl,Y.n3,rfl,a.la,_,rfl, .inl (zJ.of Ay),_,_,rfl,rfl, .int k,0,((zK.length:Nat):Int) - 1,rfl, .int _,_,rfl,?_⟩
   rw[inl k zL]
   refine aD ⟨_,rfl,p,_,0,_,rfl,rfl,zM.of Ag,ak (j:=0) rfl,rfl,_,rfl,?_⟩
   rw[iF (by decide +kernel)]
   refine aD ⟨_,rfl,p,_,0,_,rfl,rfl,zM.of Ag,ak (j:=0) rfl,rfl,_,rfl,?_⟩
   rw[jn]
   exact aH ⟨_,rfl,a.y,a.dy,_,rfl,hY.ins,rfl,_,rfl,p,_,1,_,rfl,rfl,zM.of Ag,ak (j:=1) rfl,a,st,k,rfl,Eg,zL,fun D Am H' s' hD g' B6=>q1 D Am H' s' hD g' B6⟩
  | back k =>
   have Ag:H1 p=some (.tup [.str "back", .int k]):=Ag
   have zL:k < st.lanes.length:=zL
   refine⟨_,rfl,p,_,0,_,rfl,rfl,zM.of Ag,ak (j:=0) rfl,rfl,_,rfl,?_⟩
   rw[iF (by decide +kernel)]
   refine aD ⟨_,rfl,p,_,1,_,rfl,rfl,zM.of Ag,ak (j:=1) rfl,_,rfl,a.y,ys.zG,a.dy,_,_,rfl,hY.ins,Y.cl,Y.n3,rfl,a.la,_,rfl, .inl (zJ.of Ay),_,_,rfl,rfl, .int k,0,((zK.length:Nat):Int) - 1,rfl, .int _,_,rfl,?_⟩
   rw[inl k zL]
   refine aD ⟨_,rfl,p,_,0,_,rfl,rfl,zM.of Ag,ak (j:=0) rfl,rfl,_,rfl,?_⟩
   rw[iF (by decide +kernel)]
   refine aD ⟨_,rfl,p,_,0,_,rfl,rfl,zM.of Ag,ak (j:=0) rfl,rfl,_,rfl,?_⟩
   rw[iF (by decide +kernel)]
   refine aD ⟨_,rfl,p,_,0,_,rfl,rfl,zM.of Ag,ak (j:=0) rfl,rfl,_,rfl,?_⟩
   rw[jn]
   exact aH ⟨_,rfl,a.y,a.dy,_,rfl,hY.ins,rfl,_,rfl,p,_,1,_,rfl,rfl,zM.of Ag,ak (j:=1) rfl,a,st,k,rfl,Eg,zL,fun D Am H' s' hD g' B6=>q1 D Am H' s' hD g' B6⟩
noncomputable def cj (ln:bU):bU:={ ln with b:=ln.b + 1,qs:=ln.qs.tail }
noncomputable def pT (ln:bU):bU:={ ln with r:=ln.r + 1,b:=ln.b - 1 }
inductive Co (a:YA)(s:YS):Mv->YS->Prop
 | Bp {k l:Nat} {t:bj} {ln:bU} (ht:s.U[k]? = some t) (hg:t.gone ≠ t.len) (hl:l ∈ c9 a t) (Aa:s.lanes[l]? = some ln) (ho:cf ln.r ln.h k t.gone=true) :
  Co a s (.Bp k l) (bW (dB s k t) k t.gone l { t with gone:=t.gone + 1 } ln)
 | on {k l m:Nat} {c:Int} {lk ln:bU} {t:bj} (hk:s.lanes[k]? = some lk) (hq:lk.qs.head? = some ((m:Int),c)) (ht:s.U[m]? = some t) (hl:l ∈ cC a s k) (Aa:(s.lanes.set k (cj lk))[l]? = some ln) (ho:cf ln.r ln.h m c=true) :
  Co a s (.on k l) (bW { s with lanes:=s.lanes.set k (cj lk) } m c l t ln)
 | Bj {k m e:Nat} {c:Int} {lk:bU} {t:bj} {qs:List (Int × Int)} (hk:s.lanes[k]? = some lk) (hq:lk.qs.head? = some ((m:Int),c)) (ht:s.U[m]? = some t) (hg:t.goal=(e:Int)) (he:(a.ps.getD k (0,0)).2=(e:Int)) (BF:s.lies[e]? = some qs) :
  Co a s (.Bj k) { s with lanes:=s.lanes.set k (cj lk),lies:=s.lies.set e (qs ++ [((m:Int),c)]) }
 | back {k:Nat} {lk:bU} (hk:s.lanes[k]? = some lk) (hb:0 < lk.b):Co a s (.back k) { s with lanes:=s.lanes.set k (pT lk) }
theorem Co.done {a:YA}{s s':YS}{m:Mv}(h:Co a s m s'):s'.done=s.done:=by
 cases h<;>rfl
structure Wv (s:YS):Prop where
 q:∀ (k:Nat)(ln:bU),s.lanes[k]? = some ln->ln.qs.length <= 10000
 l:∀ (p:Nat)(qs:List (Int × Int)),s.lies[p]? = some qs->qs.length <= 10000
 d:s.done.length <= 100000
theorem jw {s:YS}{l:Nat}{m c:Int}(h:gh s l m c=true):∃ ln,s.lanes[l]? = some ln/\cf ln.r ln.h m c=true:=by
 unfold gh at h
 cases hl:s.lanes[l]? with
 | none=>rw[hl]at h;cases h
 | some ln=>rw[hl]at h;exact⟨ln,rfl,h⟩
theorem ur {a:YA}{s:YS}{k:Nat}{m:Mv}(h:m ∈ iy a s k):∃ l t ln,m = .Bp k l/\s.U[k]? = some t/\t.gone ≠ t.len/\l ∈ c9 a t/\s.lanes[l]? = some ln/\cf ln.r ln.h k t.gone=true:=by
 unfold iy at h
 cases ht:s.U[k]? with
 | none=>rw[ht]at h;cases h
 | some t =>
  rw[ht]at h
  dsimp only at h
  by_cases hg:t.gone=t.len
  ·rw[if_pos hg]at h;cases h
  rw[if_neg hg]at h
  obtain⟨l,hl,rfl⟩:=mem_map.mp h
  obtain⟨h1,h2⟩:=mem_filter.mp hl
  obtain⟨ln,h3,h4⟩:=jw h2
  exact⟨l,t,ln,rfl,rfl,hg,h1,h3,h4⟩
theorem uq {a:YA}{s:YS}{k:Nat}{m:Mv}(h:m ∈ iG a s k):∃ l q lk ln,m = .on k l/\s.lanes[k]? = some lk/\lk.qs.head? = some q/\l ∈ cC a s k/\s.lanes[l]? = some ln/\cf ln.r ln.h q.1 q.2=true:=by
 unfold iG at h
 cases hq:bL s k with
 | none=>rw[hq]at h;cases h
 | some q =>
  rw[hq]at h
  dsimp only at h
  obtain⟨l,hl,rfl⟩:=mem_map.mp h
  obtain⟨h1,h2⟩:=mem_filter.mp hl
  obtain⟨ln,h3,h4⟩:=jw h2
  unfold bL at hq
  cases hk:s.lanes[k]? with
  | none=>rw[hk]at hq;cases hq
  | some lk=>rw[hk]at hq;exact⟨l,q,lk,ln,rfl,rfl,hq,h1,h3,h4⟩
theorem pP {a:YA}{s:YS}{k:Nat}{m:Mv}(h:m ∈ fB a s k):∃ q lk t,m = .Bj k/\s.lanes[k]? = some lk/\lk.qs.head? = some q/\s.U[q.1.toNat]? = some t/\t.goal=(a.ps.getD k (0,0)).2:=by
 unfold fB at h
 cases hq:bL s k with
 | none=>rw[hq]at h;cases h
 | some q =>
  rw[hq]at h
  dsimp only at h
  cases ht:s.U[q.1.toNat]? with
  | none=>rw[ht]at h;cases h
  | some t =>
   rw[ht]at h
   dsimp only at h
   by_cases hg:t.goal=(a.ps.getD k (0,0)).2
   ·rw[if_pos hg]at h
    have hm:m = .Bj k:=by simpa using h
    unfold bL at hq
    cases hk:s.lanes[k]? with
    | none=>rw[hk]at hq;cases hq
    | some lk=>rw[hk]at hq;exact⟨q,lk,t,hm,rfl,hq,ht,hg⟩
   ·rw[if_neg hg]at h;cases h
theorem mF {s:YS}{k:Nat}{m:Mv}(h:m ∈ dN s k):∃ lk,m = .back k/\s.lanes[k]? = some lk/\0 < lk.b:=by
 unfold dN at h
 cases hk:s.lanes[k]? with
 | none=>rw[hk]at h;cases h
 | some lk =>
  rw[hk]at h
  dsimp only at h
  by_cases hb:0 < lk.b
  ·rw[if_pos hb]at h;exact⟨lk,by simpa using h,rfl,hb⟩
  ·rw[if_neg hb]at h;cases h
theorem qR {a:YA}{s:YS}{m:Mv}(h:m ∈ cv a s):xq s m/\m ∈ pS a s m:=by
 unfold cv at h
 rw[mem_append,mem_append,mem_append]at h
 rcases h with ((h | h) | h) | h
 ·obtain⟨k,hk,h⟩:=mem_flatMap.mp h
  obtain⟨l,t,ln,rfl,_⟩:=ur h
  exact⟨mem_range.mp hk,h⟩
 ·obtain⟨k,hk,h⟩:=mem_flatMap.mp h
  obtain⟨l,q,lk,ln,rfl,_⟩:=uq h
  exact⟨mem_range.mp hk,h⟩
 ·obtain⟨k,hk,h⟩:=mem_flatMap.mp h
  obtain⟨q,lk,t,rfl,_⟩:=pP h
  exact⟨mem_range.mp hk,h⟩
 ·obtain⟨k,hk,h⟩:=mem_flatMap.mp h
  obtain⟨lk,rfl,_⟩:=mF h
  exact⟨mem_range.mp hk,h⟩
noncomputable def uk:Mv->PyData
 | .Bp k l => .tuple [.str "in", .int k, .int l]
 | .on k l => .tuple [.str "on", .int k, .int l]
 | .Bj k => .tuple [.str "lie", .int k]
 | .back k => .tuple [.str "back", .int k]
theorem iM {x:Str}(h:PyData.strOk x=true):BK (.str x) 0:=⟨by simp[PyData.canLay0,h],by simp[PyData.depth]⟩
theorem kT (m:Mv):BK (uk m) 1:=by
 cases m<;>refine ip (m:=0) fun y hy=>?_<;>simp only[mem_cons,not_mem_nil,or_false]at hy
 ·rcases hy with rfl | rfl | rfl
  ·exact iM (by decide +kernel)
  ·exact cK _
  ·exact cK _
 ·rcases hy with rfl | rfl | rfl
  ·exact iM (by decide +kernel)
  ·exact cK _
  ·exact cK _
 ·rcases hy with rfl | rfl
  ·exact iM (by decide +kernel)
  ·exact cK _
 ·rcases hy with rfl | rfl
  ·exact iM (by decide +kernel)
  ·exact cK _
theorem uK {K:Frag}{H:Hp}{p:Addr}(m:Mv)(h:H p=some (.tup (fS m))):jS K H (.ref p) (uk m):=by
 cases m<;>refine .tup (zM.of h) ?_
 ·exact .cons (.str _) (.cons (.int _) (.cons (.int _) .nil))
 ·exact .cons (.str _) (.cons (.int _) (.cons (.int _) .nil))
 ·exact .cons (.str _) (.cons (.int _) .nil)
 ·exact .cons (.str _) (.cons (.int _) .nil)
theorem iY {K:Frag}{H:Hp}:∀ {vs:List V}{ms:List Mv},Paired (Bu H) vs (ms.map fS)->iK K H vs (ms.map uk)
 | [],[],_ => .nil
 | _ :: _,m :: ms, .cons ⟨t,e,h⟩ r=>by subst e;exact .cons (uK m h) (iY r)
 | [],_ :: _,h=>by cases h
 | _ :: _,[],h=>by cases h
theorem zu {m:Mv}{ms:List Mv}(h:m ∈ ms):((ms.map uk).any fun y=>PyData.eqv y (uk m))=true:=by
 rw[List.any_eq_true]
 exact⟨uk m,mem_map.mpr ⟨m,h,rfl⟩,SeqAt.eqv_refl _ (kT m).1⟩
noncomputable def M0 (K:Frag)(c:Cs)(TC:Addr)(J:TJ)(ys:Ys):Sp:=fun vs H Q _=>∃ (a:YA)(s:YS)(p:Addr)(m:Mv),vs=[.ref a.y, .ref p]/\EM K c TC J ys H a s/\H p=some (.tup (fS m))/\m ∈ cv a s/\Wv s /\
 ∀ (H':Hp)(s':YS),Co a s m s'->zQ a.four H H'->AA K ys H' a { s' with done:=s.done ++ [fS m] }->Q .zT H'
structure Ww (P:Program)(w:World)(K:Frag)(mg:Str->Option Value)(base:Heap)(c:Cs)(TC:Addr)(J:TJ)(ys:Ys)(nm:Addr)(fk fg fe fp fb fy:Addr)(dk dg de dp db dy:FuncData):Prop where
 mk':bD K ys.zG "moves_like" fk
 bk:Binds K dk ["self", "move"] []
 Gk:zE P w K mg base aG 7 fk dk ["self", "move"] (sm K c TC J ys)
 mg':bD K ys.zG "go_in" fg
 bg:Binds K dg ["self", "number", "lane"] []
 Gg:zE P w K mg base aG 6 fg dg ["self", "number", "lane"] (sw K ys)
 me:bD K ys.zG "enter" fe
 be:Binds K de ["self", "piece", "lane"] []
 Ge:zE P w K mg base aG 5 fe de ["self", "piece", "lane"] (kR K ys)
 mp:bD K ys.zY "pull" fp
 bp:Binds K dp ["self"] []
 Gp:zE P w K mg base (eP P w) 1 fp dp ["self"] (nK ys.zY nm)
 mb:bD K ys.zY "bring" fb
 bb:Binds K db ["self"] []
 Gb:zE P w K mg base (eP P w) 1 fb db ["self"] (p7 ys.zY nm)
 my:bD K ys.zG "lay" fy
 RP:Binds K dy ["self", "piece", "place"] []
 Gy:zE P w K mg base aG 1 fy dy ["self", "piece", "place"] (xj K ys)
theorem RQ:am ["self", "move"] ["self", "move"] (ai QM):=L2.Ad
theorem M3 {c:Cs}{ys:Ys}{J:TJ}{TC nm f fw fl ft fpu fk fg fe fp fb fy Wx:Addr}{fd dw dl dt dpu dk dg de dp db dy den:FuncData}(F:Ab K "do" "Yard.do" QM f fd)(Y:iJ K ys)(L:lC K c)(W:Wy K TC fw dw J)(Ex:Lr K mg nm)(O:Own P w K mg base ys nm fl ft fpu dl dt dpu)
  (D:Ww P w K mg base c TC J ys nm fk fg fe fp fb fy dk dg de dp db dy) (Me:wV K c Wx den) (Gen:zE P w K mg base aG 1 Wx den ["self", "lane"] (nQ c Prod.snd)) :
  zE P w K mg base (eP P w) 8 f fd ["self", "move"] (M0 K c TC J ys):=by
 refine F.Fb RQ (fun vs H Q E h=>?_) (fun cdv A outer s H vs Q E hr h=>?_)
 ·obtain⟨a,s,p,m,rfl,_⟩:=h
  rfl
 ·obtain⟨a,st,p,m,rfl,hI,hp,hm,hS,q⟩:=h
  have hu:=hr.units
  have Ax:zN 1 _:=hr.mono (by decide)
  have Cz:zN 4 _:=hr.mono (by decide)
  have M4:zN 5 _:=hr.mono (by decide)
  have hr6:zN 6 _:=hr.mono (by decide)
  refine⟨_,ae (aL (ap (qH hu) (pv 1) (aC (pv 0) Y.cl D.mk' D.Gk hr D.bk .nil aq (aa (pv 1) ad)) (by with_unfolding_all rfl)) (ah (b9 rfl Ex.x aP (ca Ex.x Ex.k rfl rfl Ex.m (aa bv ad)))) aA)
   (ae (cU (aL (ap aZ (aw aB (pv 1) aj (fun _ _=>rfl)) bv (av _))
    (ah (aS (aC (pv 0) Y.cl D.mg' D.Gg hr6 D.bg .nil aq (aa (aw aB (pv 1) aj (fun _ _=>rfl)) (aa (aw aB (pv 1) aj (fun _ _=>rfl)) ad)))))
    (ah (aL (ap aZ (aw aB (pv 1) aj (fun _ _=>rfl)) bv (av _))
     (ah (aS (aC (pv 0) Y.cl D.me D.Ge M4 D.be .nil aq (aa (cb (aC (pv 0) Y.cl O.ml O.Gl Cz O.bl .nil aq (aa (aw aB (pv 1) aj (fun _ _=>rfl)) ad)) Y.L.cl D.mp D.Gp Ax D.bp .nil (By.passes aP rfl)) (aa (aw aB (pv 1) aj (fun _ _=>rfl)) ad)))))
     (ah (aL (ap aZ (aw aB (pv 1) aj (fun _ _=>rfl)) bv (av _))
      (ah (aS (aC (pv 0) Y.cl D.my D.Gy Ax D.RP .nil aq (aa (cb (aC (pv 0) Y.cl O.ml O.Gl Cz O.bl .nil aq (aa (aw aB (pv 1) aj (fun _ _=>rfl)) ad)) Y.L.cl D.mp D.Gp Ax D.bp .nil (By.passes aP rfl)) (aa (aC (al (al (pv 0) rfl) rfl) L.cl Me.m Gen Ax Me.b .nil aq (aa (aw aB (pv 1) aj (fun _ _=>rfl)) ad)) ad)))))
      (ah (aS (cb (aC (pv 0) Y.cl O.ml O.Gl Cz O.bl .nil aq (aa (aw aB (pv 1) aj (fun _ _=>rfl)) ad)) Y.L.cl D.mb D.Gb Ax D.bb .nil (By.passes aP rfl))))))))))
   (ah (aS (cr plainAttrs_list PySem.F.slot_list_append PySem.F.type_list_append bG (al (pv 0) rfl) (aa (pv 1) ad))))),?_⟩
  obtain⟨zL,DA⟩:=qR hm
  refine⟨_,rfl,_,rfl,a.y,a.dy,_,rfl,hI.Y.ins,rfl,_,rfl,a,st,p,m,rfl,hI,hp,zL,fun Dl Am H1 s1 hDl gDl hpr=>?_⟩
  refine⟨Dl,Am,uk m,(pS a st m).map uk,rfl,uK m (s1 _ _ hp),zJ.of gDl,iY hpr,(kT m).le (by decide),fun z hz=>by obtain⟨m',_,rfl⟩:=mem_map.mp hz;exact(kT m').le (by decide),_,rfl,?_⟩
  rw[zu DA]
  refine aD ?_
  have Eg:=hI.same W s1
  have Ag:=s1 _ _ hp
  have hY:=Eg.Y
  refine⟨fun σ' H'=>σ' = start ["self", "move"] [.ref a.y, .ref p]/\∃ s',Co a st m s'/\zQ a.four H1 H'/\AA K ys H' a s',?_,?_⟩
  ·
   have EO:∀ (k:Nat)(lk:bU)(pq:Int × Int),st.lanes[k]? = some lk->lk.qs.head? = some pq->∀ (zK:List V),H1 a.la=some (.lst zK)->∀ (x dx pa:Addr)(zU:List V)(H2:Hp),zQ [a.la] H1 H2->H1 x=none->H1 pa=none->H2 a.la=some (.lst (zK.set k (.ref x)))->zW H2 ys.zY x dx pa lk.r lk.b lk.h zU lk.qs ->
     ∀ (Q':VK)(E':XK),(∀ (v:V)(H3:Hp),wU H3 v pq->zQ [a.la] H1 H3->AA K ys H3 a { st with lanes:=st.lanes.set k (cj lk) }->Q' v H3)->nK ys.zY nm [.ref x] H2 Q' E':=by
    intro k lk pq hk hq zK Ay x dx pa zU H2 o2 nx np g2 Bo Q' E' hQ
    refine⟨x,dx,pa,lk.r,lk.b,lk.h,zU,lk.qs,rfl,Bo,fun e0=>?_,fun v rest ev H3 o3 C2=>?_⟩
    ·exfalso
     have hl:=Paired.length Bo.AO
     rw[e0]at hl
     cases BF:lk.qs with
     | nil=>rw[BF]at hq;cases hq
     | cons _ _=>rw[BF]at hl;cases hl
    ·have o4:zQ [a.la] H1 H3:=fun b o nb e=>o3 b o (ag e nx) (ag e np) (o2 b o nb e)
     refine hQ v H3 ?_ o4 (AA.C5 hY Ay o4 (k:=k) (x:=x) (dx:=dx) (pa:=pa) (o3 _ _ (ag Ay nx) (ag Ay np) g2) (ln:=cj lk) C2 np)
     have hz:=AW.D6 o3 Bo.ins Bo.lst Bo.AO
     rw[ev]at hz
     cases BF:lk.qs with
     | nil=>rw[BF]at hq;cases hq
     | cons q0 r0 =>
      rw[BF]at hq hz
      cases hq
      cases hz with
      | cons z _=>exact z
   obtain⟨zK,Ay,Ey⟩:=hY.AX
   have p3:∀ {H3:Hp}{ex:List Addr}{xs:List V},H1 p=some (.tup xs)->zQ ex H1 H3->(∀ b ∈ ex,b ∈ a.four)->H3 p=some (.tup xs):=fun h o he=>o _ _ (fun z=>by obtain⟨xs,hz⟩:=hY.Ed _ (he _ z);rw[h]at hz;cases hz) h
   cases m with
   | Bp k l =>
    have Ag:H1 p=some (.tup [.str "in", .int k, .int l]):=Ag
    obtain⟨l',t,ln,e0,ht,hg,hl,Aa,ho⟩:=ur (show Mv.Bp k l ∈ iy a st k from DA)
    cases e0
    refine⟨_,rfl,p,_,0,_,rfl,rfl,zM.of Ag,ak (j:=0) rfl,rfl,_,rfl,?_⟩
    rw[jn]
    refine aH ⟨_,rfl,a.y,a.dy,_,rfl,hY.ins,rfl,_,rfl,p,_,1,_,rfl,rfl,zM.of Ag,ak (j:=1) rfl,_,rfl,p,_,2,_,rfl,rfl,zM.of Ag,ak (j:=2) rfl,a,st,k,l,t,ln,rfl,hY,ht,Aa,ho,(hI.G.Ao k t ht).2,lt_of_le_of_lt (hS.q l ln Aa) (by decide),fun H' o' IA=>⟨rfl,_,Co.Bp ht hg hl Aa ho,o'.mono (by simp),IA⟩⟩
   | on k l =>
    have Ag:H1 p=some (.tup [.str "on", .int k, .int l]):=Ag
    obtain⟨l',pq,lk,ln,e0,hk,hq,hl,Aa,ho⟩:=uq (show Mv.on k l ∈ iG a st k from DA)
    cases e0
    obtain⟨m,t,em,ht,DP⟩:=hI.G.AO k lk hk pq (mem_of_head? hq)
    obtain⟨m0,cq⟩:=pq
    have em:m0=(m:Int):=em
    subst em
    refine⟨_,rfl,p,_,0,_,rfl,rfl,zM.of Ag,ak (j:=0) rfl,rfl,_,rfl,?_⟩
    rw[iF (by decide +kernel)]
    refine aD ⟨_,rfl,p,_,0,_,rfl,rfl,zM.of Ag,ak (j:=0) rfl,rfl,_,rfl,?_⟩
    rw[jn]
    refine aH ⟨_,rfl,a.y,a.dy,_,rfl,hY.ins,rfl,_,rfl,a.y,a.dy,_,rfl,hY.ins,rfl,_,rfl,p,_,1,_,rfl,rfl,zM.of Ag,ak (j:=1) rfl,a,st,k,lk,zK,rfl,hY,hk,Ay,fun x dx pa zU H2 o2 nx np g2 Bo=>⟨x,dx,_,rfl,Bo.ins,rfl,EO k lk _ hk hq zK Ay x dx pa zU H2 o2 nx np g2 Bo _ _ fun v H3 hv o3 CY=>?_⟩⟩
    have Jo:=p3 Ag o3 (by simp)
    have B0:k < st.lanes.length:=(List.getElem?_eq_some_iff.mp hk).1
    obtain⟨ln2,M5,er,eh,eq⟩:∃ ln2,(st.lanes.set k (cj lk))[l]? = some ln2/\ln2.r=ln.r/\ln2.h=ln.h/\ln2.qs.length <= 10000:=by
     by_cases M6:k=l
     ·subst M6
      rw[hk]at Aa
      cases Aa
      refine⟨cj lk,by simp[B0],rfl,rfl,?_⟩
      have:=hS.q k lk hk
      show lk.qs.tail.length <= 10000
      rw[List.length_tail];omega
     ·exact⟨ln,by rw[List.getElem?_set_ne M6];exact Aa,rfl,rfl,hS.q l ln Aa⟩
    have Bs:cf ln2.r ln2.h m cq=true:=by rw[er,eh];exact ho
    refine⟨_,rfl,p,_,2,_,rfl,rfl,zM.of Jo,ak (j:=2) rfl,a,{ st with lanes:=st.lanes.set k (cj lk) },v,m,cq,l,t,ln2,rfl,CY,hv,ht,M5,Bs,(hI.G.Ao m t ht).2,lt_of_le_of_lt eq (by decide),fun H' o' IA=>⟨rfl,_,Co.on hk hq ht hl M5 Bs,(o3.mono (by simp)).trans (o'.mono (by simp)),IA⟩⟩
   | Bj k =>
    have Ag:H1 p=some (.tup [.str "lie", .int k]):=Ag
    obtain⟨pq,lk,t0,e0,hk,hq,Hr,hg⟩:=pP (show Mv.Bj k ∈ fB a st k from DA)
    obtain⟨m,t,em,ht,DP⟩:=hI.G.AO k lk hk pq (mem_of_head? hq)
    obtain⟨m0,cq⟩:=pq
    have em:m0=(m:Int):=em
    subst em
    have Hr:st.U[m]? = some t0:=by rw[← Hr];rfl
    rw[ht]at Hr
    cases Hr
    have B0:k < st.lanes.length:=(List.getElem?_eq_some_iff.mp hk).1
    have Jx:k < a.ps.length:=by rw[← hI.G.lanes];exact B0
    have he:=List.getElem?_eq_getElem Jx
    have Hu:a.ps.getD k (0,0)=a.ps[k]:=by rw[getD_eq_getElem?_getD,he];rfl
    obtain⟨e,ee,Mw⟩:=hI.O.ends k _ he
    rw[Hu,ee]at hg
    have DG:e < st.lies.length:=by rw[hI.G.lies];exact Mw
    have BF:=List.getElem?_eq_getElem DG
    refine⟨_,rfl,p,_,0,_,rfl,rfl,zM.of Ag,ak (j:=0) rfl,rfl,_,rfl,?_⟩
    rw[iF (by decide +kernel)]
    refine aD ⟨_,rfl,p,_,0,_,rfl,rfl,zM.of Ag,ak (j:=0) rfl,rfl,_,rfl,?_⟩
    rw[iF (by decide +kernel)]
    refine aD ⟨_,rfl,p,_,0,_,rfl,rfl,zM.of Ag,ak (j:=0) rfl,rfl,_,rfl,?_⟩
    rw[jn]
    refine aH ⟨_,rfl,a.y,a.dy,_,rfl,hY.ins,rfl,_,rfl,a.y,a.dy,_,rfl,hY.ins,rfl,_,rfl,p,_,1,_,rfl,rfl,zM.of Ag,ak (j:=1) rfl,a,st,k,lk,zK,rfl,hY,hk,Ay,fun x dx pa zU H2 o2 nx np g2 Bo=>⟨x,dx,_,rfl,Bo.ins,rfl,EO k lk _ hk hq zK Ay x dx pa zU H2 o2 nx np g2 Bo _ _ fun v H3 hv o3 CY=>?_⟩⟩
    have Jo:=p3 Ag o3 (by simp)
    have Fi:Mf c TC J H3 a:=Ba.keep W Eg.T (zQ.zZ (fun b hb=>by simp at hb;subst hb;exact⟨_,Ay⟩) o3)
    obtain⟨C4,fst,Ca,Al,Bi⟩:=Fi.i
    refine⟨_,rfl,a.y,ys.zG,a.dy,_,_,rfl,CY.ins,Y.cl,Y.n1,rfl,a.tb,TC,C4,fst,_,rfl,Ca,W.cl,W.nl,Al,a.lx,a.Ac,_,rfl,Fi.l.1,rfl,_,rfl,p,_,1,_,rfl,rfl,zM.of Jo,ak (j:=1) rfl,a.lx,a.Ac,a.lt,(a.n:Int),a.zO,a.ps,k,_,rfl,Fi.l,he,?_⟩
    rw[ee]
    exact⟨a,{ st with lanes:=st.lanes.set k (cj lk) },v,((m:Int),cq),e,_,rfl,CY,hv,BF,le_trans (hS.l e _ BF) (by decide),fun H' o' IA=>⟨rfl,_,Co.Bj hk hq ht hg (by rw[Hu,ee]) BF,(o3.mono (by simp)).trans (o'.mono (by simp)),IA⟩⟩
   | back k =>
    have Ag:H1 p=some (.tup [.str "back", .int k]):=Ag
    obtain⟨lk,e0,hk,hb⟩:=mF (show Mv.back k ∈ dN st k from DA)
    refine⟨_,rfl,p,_,0,_,rfl,rfl,zM.of Ag,ak (j:=0) rfl,rfl,_,rfl,?_⟩
    rw[iF (by decide +kernel)]
    refine aD ⟨_,rfl,p,_,0,_,rfl,rfl,zM.of Ag,ak (j:=0) rfl,rfl,_,rfl,?_⟩
    rw[iF (by decide +kernel)]
    refine aD ⟨_,rfl,p,_,0,_,rfl,rfl,zM.of Ag,ak (j:=0) rfl,rfl,_,rfl,?_⟩
    rw[iF (by decide +kernel)]
    refine aD ⟨_,rfl,a.y,a.dy,_,rfl,hY.ins,rfl,_,rfl,p,_,1,_,rfl,rfl,zM.of Ag,ak (j:=1) rfl,a,st,k,lk,zK,rfl,hY,hk,Ay,fun x dx pa zU H2 o2 nx np g2 Bo=>⟨x,dx,_,rfl,Bo.ins,rfl,x,dx,pa,lk.r,lk.b,lk.h,zU,lk.qs,rfl,Bo,(fun e0=>by rw[e0]at hb;exact absurd hb (by decide)),fun _ H3 o3 C2=>?_⟩⟩
    have o4:zQ [a.la] H1 H3:=fun b o nb e=>o3 b o (ag e nx) (ag e np) (o2 b o nb e)
    exact⟨rfl,_,Co.back hk hb,o4.mono (by simp),AA.C5 hY Ay o4 (k:=k) (x:=x) (dx:=dx) (pa:=pa) (o3 _ _ (ag Ay nx) (ag Ay np) g2) (ln:=pT lk) C2 np⟩
  ·rintro σ' H2 ⟨rfl,s',hs,o2,DN⟩
   obtain⟨AV,Jr,pd⟩:=DN.Cn
   have Gz:AV.length=st.done.length:=by rw[Paired.length pd,hs.done]
   have GF:H2 p=some (.tup (fS m)):=o2 _ _ (fun z=>by obtain⟨xs,hz⟩:=hY.Ed _ z;rw[Ag]at hz;cases hz) Ag
   have hd:=hS.d
   refine⟨_,rfl,a.y,ys.zG,a.dy,_,_,rfl,DN.ins,Y.cl,Y.n6,rfl, .inl ⟨rfl,_,zJ.of Jr⟩,_,rfl,a.dn,_,_,rfl,rfl,Jr,by rw[sizeLine_eq];omega,?_⟩
   have CY:=DN.Hk Jr ⟨p,rfl,GF⟩
   rw[hs.done]at CY
   exact q _ s' hs ((zD.Aj s1).trans (o2.trans (ck (by simp)))) CY
theorem b0 {α:Type}{L:List α}{k j:Nat}{y z:α}(h:(L.set k y)[j]? = some z):(j=k/\z=y)∨(j ≠ k/\L[j]? = some z):=by
 by_cases e:k=j
 ·subst e
  rw[List.getElem?_set_self']at h
  cases hk:L[k]? with
  | none=>rw[hk]at h;cases h
  | some x=>rw[hk]at h;cases h;exact .inl ⟨rfl,rfl⟩
 ·rw[List.getElem?_set_ne e]at h
  exact .inr ⟨Ne.symm e,h⟩
theorem eG {α:Type}{L:List α}{k:Nat}{x y:α}(h:L[k]? = some x):(L.set k y)[k]? = some y:=by
 have:=(List.getElem?_eq_some_iff.mp h).1
 simp[this]
theorem eY {α:Type}(f:α->Nat):∀ {L:List α}{k:Nat}{x y:α},L[k]? = some x->((L.set k y).map f).sum + f x=(L.map f).sum + f y
 | [],_,_,_,h=>by cases h
 | z :: L,0,x,y,h=>by cases h;simp only[List.set_cons_zero,map_cons,sum_cons];omega
 | z :: L,k + 1,x,y,h=>by
  have:=eY f (L:=L) (k:=k) (x:=x) (y:=y) h
  simp only[List.set_cons_succ,map_cons,sum_cons];omega
theorem je {α:Type}(f:α->Int):∀ {L:List α}{k:Nat}{x y:α},L[k]? = some x->((L.set k y).map f).sum + f x=(L.map f).sum + f y
 | [],_,_,_,h=>by cases h
 | z :: L,0,x,y,h=>by cases h;simp only[List.set_cons_zero,map_cons,sum_cons];omega
 | z :: L,k + 1,x,y,h=>by
  have:=je f (L:=L) (k:=k) (x:=x) (y:=y) h
  simp only[List.set_cons_succ,map_cons,sum_cons];omega
noncomputable def mR (a:YA)(l:Nat):Int:=(a.ps.getD l (0,0)).2
noncomputable def jf (s:YS):Nat:=(s.lanes.map fun ln=>ln.qs.length).sum
noncomputable def iE (s:YS):Nat:=(s.lies.map fun qs=>qs.length).sum
noncomputable def gy (s:YS):Int:=(s.U.map fun t=>t.gone).sum
structure OG (a:YA)(s:YS)(m:Nat)(c:Int):Prop where
 lanes:s.lanes.length=a.ps.length
 lies:s.lies.length=a.n
 Az:s.U.length <= 60
 Dj:a.ps.length <= 40
 lets:∀ (m:Nat)(t:bj),s.U[m]? = some t->∃ x y:Nat,t.start=(x:Int)/\t.goal=(y:Int)/\x < a.n/\y < a.n
 Ao:∀ (m:Nat)(t:bj),s.U[m]? = some t->(∀ l ∈ t.way,l < a.ps.length)/\t.way.Nodup
 AO:∀ (k:Nat)(ln:bU),s.lanes[k]? = some ln->∀ q ∈ ln.qs,∃ (m:Nat)(t:bj),q.1=(m:Int)/\s.U[m]? = some t/\k ∈ t.way
 B9:∀ (m:Nat)(t:bj),s.U[m]? = some t->0 <= t.gone/\t.gone <= t.len/\t.len <= 60
 AG:∀ (m':Nat)(t:bj),s.U[m']? = some t->t.gone=0->t.way=[]/\m' ≠ m
 last:∀ (m:Nat)(t:bj),s.U[m]? = some t->∀ (i l:Nat),t.way[i]? = some l->mR a l=t.goal->i + 1=t.way.length
 head:∀ (m':Nat)(t:bj),s.U[m']? = some t->∀ (l:Nat)(ln:bU),t.way.getLast? = some l->s.lanes[l]? = some ln->(m' = m/\c=0)∨((m':Int),(0:Int)) ∈ ln.qs∨mR a l=t.goal
 first:∀ (k:Nat)(ln:bU),s.lanes[k]? = some ln->∀ (i j:Nat)(z:Int)(q:Int × Int),ln.qs[i]? = some (z,0)->j < i->ln.qs[j]? = some q->q.1 ≠ z
 Ez:∀ (k:Nat)(ln:bU),s.lanes[k]? = some ln->∀ (m':Nat)(t:bj),((m':Int),(0:Int)) ∈ ln.qs->s.U[m']? = some t->t.way.getLast? = some k
 gone:c=0->∀ (k:Nat)(ln:bU),s.lanes[k]? = some ln->((m:Int),(0:Int)) ∉ ln.qs
 sum:(jf s:Int) + (iE s:Int) + 1=gy s
structure AU (a:YA)(s:YS):Prop where
 lanes:s.lanes.length=a.ps.length
 lies:s.lies.length=a.n
 Az:s.U.length <= 60
 Dj:a.ps.length <= 40
 lets:∀ (m:Nat)(t:bj),s.U[m]? = some t->∃ x y:Nat,t.start=(x:Int)/\t.goal=(y:Int)/\x < a.n/\y < a.n
 Ao:∀ (m:Nat)(t:bj),s.U[m]? = some t->(∀ l ∈ t.way,l < a.ps.length)/\t.way.Nodup
 AO:∀ (k:Nat)(ln:bU),s.lanes[k]? = some ln->∀ q ∈ ln.qs,∃ (m:Nat)(t:bj),q.1=(m:Int)/\s.U[m]? = some t/\k ∈ t.way
 B9:∀ (m:Nat)(t:bj),s.U[m]? = some t->0 <= t.gone/\t.gone <= t.len/\t.len <= 60
 AG:∀ (m':Nat)(t:bj),s.U[m']? = some t->t.gone=0->t.way=[]
 last:∀ (m:Nat)(t:bj),s.U[m]? = some t->∀ (i l:Nat),t.way[i]? = some l->mR a l=t.goal->i + 1=t.way.length
 head:∀ (m':Nat)(t:bj),s.U[m']? = some t->∀ (l:Nat)(ln:bU),t.way.getLast? = some l->s.lanes[l]? = some ln->((m':Int),(0:Int)) ∈ ln.qs∨mR a l=t.goal
 first:∀ (k:Nat)(ln:bU),s.lanes[k]? = some ln->∀ (i j:Nat)(z:Int)(q:Int × Int),ln.qs[i]? = some (z,0)->j < i->ln.qs[j]? = some q->q.1 ≠ z
 Ez:∀ (k:Nat)(ln:bU),s.lanes[k]? = some ln->∀ (m':Nat)(t:bj),((m':Int),(0:Int)) ∈ ln.qs->s.U[m']? = some t->t.way.getLast? = some k
 sum:(jf s:Int) + (iE s:Int)=gy s
theorem ci:∀ (n:Nat)(l:List Nat),l.Nodup->(∀ x ∈ l,x < n)->l.length <= n
 | 0,l,_,h=>by
  cases l with
  | nil=>exact Nat.le_refl _
  | cons x _=>exact absurd (h x mem_cons_self) (by omega)
 | n + 1,l,hn,h=>by
  have h1:=ci n (l.filter fun x=>decide (x ≠ n)) (hn.filter _) fun x hx=>by
   obtain⟨a,b⟩:=mem_filter.mp hx
   have:=h x a
   have:=of_decide_eq_true b
   omega
  have h2:l.length <= (l.filter fun x=>decide (x ≠ n)).length + 1:=by
   clear h1 h
   induction l with
   | nil=>exact zero_le _
   | cons x l ih =>
    rw[nodup_cons]at hn
    by_cases e:x=n
    ·subst e
     have:(l.filter fun y=>decide (y ≠ x))=l:=List.filter_eq_self.mpr fun y hy=>decide_eq_true fun z=>hn.1 (z ▸ hy)
     rw[filter_cons_of_neg (by simp),this]
     exact Nat.le_refl _
    ·rw[filter_cons_of_pos (by simpa using e)]
     have:=ih hn.2
     simp only[length_cons]
     omega
  omega
theorem AU.ok {a:YA}{s:YS}(h:AU a s):OD a s:=⟨h.lanes,h.lies,h.lets,fun m t ht=>⟨(h.Ao m t ht).1,by have:=ci _ _ (h.Ao m t ht).2 (h.Ao m t ht).1;have:=h.Dj;omega⟩,h.AO,h.Az⟩
theorem uo {α:Type}{x:α}{l:List α}(h:x ∈ l.tail):x ∈ l:=List.mem_of_mem_tail h
theorem u0 {α:Type}{l:List α}{x:α}(h:l.head? = some x):l[0]? = some x:=by cases l with
 | nil=>cases h
 | cons y r=>exact h
theorem pQ {α:Type}{l:List α}{x:α}(h:x ∈ l):∃ i:Nat,l[i]? = some x:=by
 obtain⟨i,hi,e⟩:=List.getElem_of_mem h
 exact⟨i,by rw[List.getElem?_eq_getElem hi,e]⟩
theorem lI {α:Type}(l:List α)(i:Nat):l.tail[i]? = l[i + 1]?:=by cases l with
 | nil=>simp
 | cons y r=>rfl
theorem mD {a:YA}{s:YS}{k m:Nat}{c:Int}{lk:bU}(J:AU a s)(hk:s.lanes[k]? = some lk)(hq:lk.qs.head? = some ((m:Int),c)):OG a { s with lanes:=s.lanes.set k (cj lk) } m c:=by
 have h0:=u0 hq
 have Bp:∀ (j:Nat)(Ap:bU),(s.lanes.set k (cj lk))[j]? = some Ap->∃ ln,s.lanes[j]? = some ln/\(∀ q ∈ Ap.qs,q ∈ ln.qs)/\∃ d,(∀ i,Ap.qs[i]? = ln.qs[i + d]?)/\(Ap.qs=ln.qs∨(j=k/\ln=lk/\Ap.qs=lk.qs.tail)):=fun j Ap h=>by
  rcases b0 h with ⟨rfl,rfl⟩ | ⟨ne,h⟩
  ·exact⟨lk,hk,fun q hq=>uo hq,1,fun i=>lI _ i, .inr ⟨rfl,rfl,rfl⟩⟩
  ·exact⟨Ap,h,fun q hq=>hq,0,fun i=>rfl, .inl rfl⟩
 have keep:∀ (j:Nat)(ln:bU),s.lanes[j]? = some ln->∃ Ap,(s.lanes.set k (cj lk))[j]? = some Ap/\∀ q ∈ ln.qs,q=((m:Int),c)∨q ∈ Ap.qs:=fun j ln h=>by
  by_cases e:j=k
  ·subst e
   rw[hk]at h
   cases h
   refine⟨cj lk,eG hk,fun q Cv=>?_⟩
   show _∨q ∈ lk.qs.tail
   cases hl:lk.qs with
   | nil=>rw[hl]at hq;cases hq
   | cons z r =>
    rw[hl]at hq Cv
    cases hq
    exact(mem_cons.mp Cv).imp id id
  ·exact⟨ln,by rw[List.getElem?_set_ne (Ne.symm e)];exact h,fun q hq => .inr hq⟩
 refine⟨by rw[← J.lanes];simp,J.lies,J.Az,J.Dj,J.lets,J.Ao,?_,J.B9,?_,J.last,?_,?_,?_,?_,?_⟩
 ·intro j Ap h q Cv
  obtain⟨ln,hj,h1,_⟩:=Bp j Ap h
  exact J.AO j ln hj q (h1 q Cv)
 ·intro m' t ht hg
  refine⟨J.AG m' t ht hg,fun e=>?_⟩
  subst e
  obtain⟨m2,t2,e2,Er,OH⟩:=J.AO k lk hk _ (mem_of_head? hq)
  have:m' = m2:=by have:(m':Int)=(m2:Int):=e2;omega
  subst this
  rw[ht]at Er
  cases Er
  rw[J.AG m' t ht hg]at OH
  cases OH
 ·intro m' t ht l Ap hl Bc
  obtain⟨ln,hj,h1,_⟩:=Bp l Ap Bc
  rcases J.head m' t ht l ln hl hj with h | h
  ·obtain⟨ln2,h2,h3⟩:=keep l ln hj
   have h2:{ s with lanes:=s.lanes.set k (cj lk) }.lanes[l]? = some ln2:=h2
   rw[Bc]at h2
   cases h2
   rcases h3 _ h with e | h
   ·injection e with e1 e2
    exact .inl ⟨by omega,e2.symm⟩
   ·exact .inr (.inl h)
  ·exact .inr (.inr h)
 ·intro j Ap h i i' z q hi Ae Cv
  obtain⟨ln,hj,_,d,h2,_⟩:=Bp j Ap h
  rw[h2]at hi Cv
  exact J.first j ln hj (i + d) (i' + d) z q hi (by omega) Cv
 ·intro j Ap h m' t Fe ht
  obtain⟨ln,hj,h1,_⟩:=Bp j Ap h
  exact J.Ez j ln hj m' t (h1 _ Fe) ht
 ·intro e0 j Ap h Fe
  subst e0
  obtain⟨ln,hj,h1,d,h2,h3⟩:=Bp j Ap h
  obtain⟨m2,t2,e2,Er,_⟩:=J.AO k lk hk _ (mem_of_head? hq)
  have:m=m2:=by have:(m:Int)=(m2:Int):=e2;omega
  subst this
  have b1:=J.Ez k lk hk m t2 (mem_of_head? hq) Er
  have b2:=J.Ez j ln hj m t2 (h1 _ Fe) Er
  rw[b1]at b2
  have b2:=Option.some.inj b2
  subst b2
  rcases b0 h with ⟨_,rfl⟩ | ⟨ne,_⟩
  ·obtain⟨i,hi⟩:=pQ Fe
   have hi:lk.qs.tail[i]? = some ((m:Int),0):=hi
   rw[lI]at hi
   exact J.first k lk hk (i + 1) 0 _ _ hi (by omega) h0 rfl
  ·exact ne rfl
 ·have:=eY (fun ln:bU=>ln.qs.length) (y:=cj lk) hk
  have hl:(cj lk).qs.length + 1=lk.qs.length:=by
   show lk.qs.tail.length + 1=_
   cases hl:lk.qs with
   | nil=>rw[hl]at hq;cases hq
   | cons _ _=>rfl
  have h1:=J.sum
  unfold jf at h1 ⊢
  show((((s.lanes.set k (cj lk)).map fun ln=>ln.qs.length).sum:Nat):Int) + (iE s:Int) + 1=gy s
  omega
theorem um {a:YA}{s:YS}{k:Nat}{t:bj}(J:AU a s)(ht:s.U[k]? = some t)(hg:t.gone ≠ t.len):OG a (dB s k t) k t.gone:=by
 have g0:=J.B9 k t ht
 have lk:∀ (m:Nat)(t':bj),(s.U.set k { t with gone:=t.gone + 1 })[m]? = some t'->∃ t0,s.U[m]? = some t0/\t'.start=t0.start/\t'.goal=t0.goal/\t'.way=t0.way/\t'.len=t0.len/\((m=k/\t'.gone=t.gone + 1)∨(m ≠ k/\t'.gone=t0.gone)):=fun m t' h=>by
  rcases b0 h with ⟨rfl,rfl⟩ | ⟨ne,h⟩
  ·exact⟨t,ht,rfl,rfl,rfl,rfl, .inl ⟨rfl,rfl⟩⟩
  ·exact⟨t',h,rfl,rfl,rfl,rfl, .inr ⟨ne,rfl⟩⟩
 refine⟨J.lanes,J.lies,by show(s.U.set _ _).length <= 60;rw[length_set];exact J.Az,J.Dj,?_,?_,?_,?_,?_,?_,?_,J.first,?_,?_,?_⟩
 ·intro m t' h
  obtain⟨t0,h0,e1,e2,_⟩:=lk m t' h
  rw[e1,e2];exact J.lets m t0 h0
 ·intro m t' h
  obtain⟨t0,h0,e1,e2,e3,_⟩:=lk m t' h
  rw[e3];exact J.Ao m t0 h0
 ·intro j ln h q hq
  obtain⟨m,t0,e,h0,hj⟩:=J.AO j ln h q hq
  by_cases em:m=k
  ·subst em
   rw[ht]at h0
   cases h0
   exact⟨m,_,e,eG ht,hj⟩
  ·exact⟨m,t0,e,by show(s.U.set _ _)[m]? = _;rw[List.getElem?_set_ne (Ne.symm em)];exact h0,hj⟩
 ·intro m t' h
  obtain⟨t0,h0,e1,e2,e3,e4,e5⟩:=lk m t' h
  have:=J.B9 m t0 h0
  rcases e5 with ⟨rfl,e5⟩ | ⟨_,e5⟩
  ·rw[ht]at h0
   cases h0
   rw[e4,e5];omega
  ·rw[e4,e5];exact this
 ·intro m t' h hz
  obtain⟨t0,h0,e1,e2,e3,e4,e5⟩:=lk m t' h
  rcases e5 with ⟨rfl,e5⟩ | ⟨ne,e5⟩
  ·omega
  ·rw[e3];exact⟨J.AG m t0 h0 (by omega),ne⟩
 ·intro m t' h i l hi hl
  obtain⟨t0,h0,e1,e2,e3,e4,e5⟩:=lk m t' h
  rw[e3]at hi ⊢
  rw[e2]at hl
  exact J.last m t0 h0 i l hi hl
 ·intro m t' h l ln hl Aa
  obtain⟨t0,h0,e1,e2,e3,e4,e5⟩:=lk m t' h
  rw[e3]at hl
  rw[e2]
  exact .inr (J.head m t0 h0 l ln hl Aa)
 ·intro j ln h m t' hm h'
  obtain⟨t0,h0,e1,e2,e3,e4,e5⟩:=lk m t' h'
  rw[e3]
  exact J.Ez j ln h m t0 hm h0
 ·intro e0 j ln h hm
  obtain⟨m,t0,e,h0,hj⟩:=J.AO j ln h _ hm
  have:k=m:=by have:(k:Int)=(m:Int):=e;omega
  subst this
  rw[ht]at h0
  cases h0
  rw[J.AG k t ht e0]at hj
  cases hj
 ·have:=je (fun t:bj=>t.gone) (y:={ t with gone:=t.gone + 1 }) ht
  have h1:=J.sum
  unfold gy at h1 ⊢
  show (jf s:Int) + (iE s:Int) + 1=((s.U.set k { t with gone:=t.gone + 1 }).map fun t=>t.gone).sum
  have:({ t with gone:=t.gone + 1 }:bj).gone=t.gone + 1:=rfl
  omega
theorem uw {l:List Nat}{x:Nat}(h:l.getLast? = some x):l[l.length - 1]? = some x:=by rw[← h,List.getLast?_eq_getElem?]
theorem ku {a:YA}{s:YS}{m l:Nat}{c:Int}{t:bj}{ln:bU}(M:OG a s m c)(ht:s.U[m]? = some t)(Aa:s.lanes[l]? = some ln)(h0:c=0->l ∉ t.way/\∀ x ∈ t.way,mR a x ≠ t.goal)(h1:c ≠ 0->l ∈ t.way):AU a (bW s m c l t ln):=by
 have D9:l < a.ps.length:=by rw[← M.lanes];exact(List.getElem?_eq_some_iff.mp Aa).1
 have lk:∀ (m':Nat)(t':bj),(bW s m c l t ln).U[m']? = some t'->∃ t0,s.U[m']? = some t0/\t'.start=t0.start/\t'.goal=t0.goal/\t'.len=t0.len/\t'.gone=t0.gone/\((c=0/\m' = m/\t0=t/\t'.way=t.way ++ [l])∨(¬ (c=0/\m' = m)/\t'.way=t0.way)):=fun m' t' h=>by
  have h:(if c=0 then s.U.set m { t with way:=t.way ++ [l] } else s.U)[m']? = some t':=h
  by_cases hc:c=0
  ·rw[if_pos hc]at h
   rcases b0 h with ⟨rfl,rfl⟩ | ⟨ne,h⟩
   ·exact⟨t,ht,rfl,rfl,rfl,rfl, .inl ⟨hc,rfl,rfl,rfl⟩⟩
   ·exact⟨t',h,rfl,rfl,rfl,rfl, .inr ⟨fun z=>ne z.2,rfl⟩⟩
  ·rw[if_neg hc]at h
   exact⟨t',h,rfl,rfl,rfl,rfl, .inr ⟨fun z=>hc z.1,rfl⟩⟩
 have Wz:∀ (m':Nat)(t0:bj),s.U[m']? = some t0->∃ t',(bW s m c l t ln).U[m']? = some t'/\(∀ x ∈ t0.way,x ∈ t'.way)/\(m' = m->l ∈ t'.way):=fun m' t0 h=>by
  by_cases hc:c=0
  ·by_cases e:m' = m
   ·subst e
    rw[ht]at h
    cases h
    refine⟨{ t with way:=t.way ++ [l] },by show(if c=0 then s.U.set m' { t with way:=t.way ++ [l] } else s.U)[m']? = _;rw[if_pos hc];exact eG ht,fun x hx=>mem_append_left _ hx,fun _=>by show l ∈ t.way ++ [l];simp⟩
   ·exact⟨t0,by show(if c=0 then s.U.set m { t with way:=t.way ++ [l] } else s.U)[m']? = _;rw[if_pos hc,List.getElem?_set_ne (Ne.symm e)];exact h,fun x hx=>hx,fun z=>absurd z e⟩
  ·refine⟨t0,by show(if c=0 then s.U.set m { t with way:=t.way ++ [l] } else s.U)[m']? = _;rw[if_neg hc];exact h,fun x hx=>hx,fun z=>?_⟩
   subst z
   rw[ht]at h
   cases h
   exact h1 hc
 have Ap:∀ (j:Nat)(l':bU),(bW s m c l t ln).lanes[j]? = some l'->(j=l/\l'.qs=ln.qs ++ [((m:Int),c)])∨(j ≠ l/\s.lanes[j]? = some l'):=fun j l' h=>by
  rcases b0 h with ⟨rfl,rfl⟩ | ⟨ne,h⟩
  ·exact .inl ⟨rfl,rfl⟩
  ·exact .inr ⟨ne,h⟩
 have old:∀ (j:Nat)(l':bU),(bW s m c l t ln).lanes[j]? = some l'->∀ q ∈ l'.qs,(j=l/\q=((m:Int),c))∨∃ l0,s.lanes[j]? = some l0/\q ∈ l0.qs:=fun j l' h q hq=>by
  rcases Ap j l' h with ⟨rfl,e⟩ | ⟨ne,h⟩
  ·rw[e,mem_append]at hq
   rcases hq with hq | hq
   ·exact .inr ⟨ln,Aa,hq⟩
   ·exact .inl ⟨rfl,by simpa using hq⟩
  ·exact .inr ⟨l',h,hq⟩
 refine⟨by rw[← M.lanes];show(s.lanes.set _ _).length=_;simp,M.lies,?_,M.Dj,?_,?_,?_,?_,?_,?_,?_,?_,?_,?_⟩
 ·show(if c=0 then s.U.set m { t with way:=t.way ++ [l] } else s.U).length <= 60
  by_cases hc:c=0
  ·rw[if_pos hc,length_set];exact M.Az
  ·rw[if_neg hc];exact M.Az
 ·intro m' t' h
  obtain⟨t0,h2,e1,e2,_⟩:=lk m' t' h
  rw[e1,e2];exact M.lets m' t0 h2
 ·intro m' t' h
  obtain⟨t0,h2,_,_,_,_,e⟩:=lk m' t' h
  obtain⟨w1,w2⟩:=M.Ao m' t0 h2
  rcases e with ⟨hc,rfl,rfl,e⟩ | ⟨_,e⟩
  ·rw[e]
   refine⟨fun x hx=>?_,?_⟩
   ·rcases mem_append.mp hx with hx | hx
    ·exact w1 x hx
    ·rw[mem_singleton.mp hx];exact D9
   ·rw[nodup_append]
    exact⟨w2,by simp,fun x hx y hy=>by rw[mem_singleton.mp hy];exact fun z=>(h0 hc).1 (z ▸ hx)⟩
  ·rw[e];exact⟨w1,w2⟩
 ·intro j l' h q hq
  rcases old j l' h q hq with ⟨rfl,rfl⟩ | ⟨l0,h2,hq⟩
  ·obtain⟨t',h3,_,h4⟩:=Wz m t ht
   exact⟨m,t',rfl,h3,h4 rfl⟩
  ·obtain⟨m',t0,e,h3,hj⟩:=M.AO j l0 h2 q hq
   obtain⟨t',h4,h5,_⟩:=Wz m' t0 h3
   exact⟨m',t',e,h4,h5 j hj⟩
 ·intro m' t' h
  obtain⟨t0,h2,_,_,e3,e4,_⟩:=lk m' t' h
  rw[e3,e4];exact M.B9 m' t0 h2
 ·intro m' t' h hz
  obtain⟨t0,h2,_,_,_,e4,e⟩:=lk m' t' h
  rw[e4]at hz
  obtain⟨w1,w2⟩:=M.AG m' t0 h2 hz
  rcases e with ⟨hc,rfl,_⟩ | ⟨_,e⟩
  ·exact absurd rfl w2
  ·rw[e];exact w1
 ·intro m' t' h i x hi hx
  obtain⟨t0,h2,_,e2,_,_,e⟩:=lk m' t' h
  rw[e2]at hx
  rcases e with ⟨hc,rfl,rfl,e⟩ | ⟨_,e⟩
  ·rw[e]at hi ⊢
   by_cases Ae:i < t0.way.length
   ·rw[List.getElem?_append_left Ae]at hi
    exact absurd hx ((h0 hc).2 x (mem_of_getElem? hi))
   ·have:=(List.getElem?_eq_some_iff.mp hi).1
    rw[length_append,length_singleton]at this ⊢
    omega
  ·rw[e]at hi ⊢
   exact M.last m' t0 h2 i x hi hx
 ·intro m' t' h x l' hx Ea
  obtain⟨t0,h2,_,e2,_,_,e⟩:=lk m' t' h
  rcases e with ⟨hc,rfl,rfl,e⟩ | ⟨ne,e⟩
  ·rw[e]at hx
   have hx:l=x:=by simpa using hx
   subst hx
   rcases Ap l l' Ea with ⟨_,e'⟩ | ⟨ne,_⟩
   ·left
    rw[e',hc];simp
   ·exact absurd rfl ne
  ·rw[e]at hx
   rcases Ap x l' Ea with ⟨rfl,e'⟩ | ⟨ne',h'⟩
   ·rcases M.head m' t0 h2 x ln hx Aa with z | z | z
    ·exact absurd ⟨z.2,z.1⟩ ne
    ·exact .inl (by rw[e'];exact mem_append_left _ z)
    ·rw[e2];exact .inr z
   ·rcases M.head m' t0 h2 x l' hx h' with z | z | z
    ·exact absurd ⟨z.2,z.1⟩ ne
    ·exact .inl z
    ·rw[e2];exact .inr z
 ·intro j l' h i i' z q hi Ae hq
  rcases Ap j l' h with ⟨rfl,e⟩ | ⟨_,h'⟩
  ·rw[e]at hi hq
   by_cases Fw:i < ln.qs.length
   ·rw[List.getElem?_append_left Fw]at hi
    rw[List.getElem?_append_left (by omega)]at hq
    exact M.first j ln Aa i i' z q hi Ae hq
   ·have h3:=(List.getElem?_eq_some_iff.mp hi).1
    rw[length_append,length_singleton]at h3
    have ei:i=ln.qs.length:=by omega
    subst ei
    rw[List.getElem?_concat_length]at hi
    have hi:=Option.some.inj hi
    injection hi with e1 e2
    subst e1
    rw[List.getElem?_append_left Ae]at hq
    intro ez
    obtain⟨m',t0,e3,h4,h5⟩:=M.AO j ln Aa q (mem_of_getElem? hq)
    have em0:(m':Int)=(m:Int):=by rw[← e3];exact ez
    have:m=m':=by omega
    subst this
    rw[ht]at h4
    cases h4
    exact(h0 e2).1 h5
  ·exact M.first j l' h' i i' z q hi Ae hq
 ·intro j l' h m' t' hm h'
  obtain⟨t0,h2,_,_,_,_,e⟩:=lk m' t' h'
  rcases old j l' h _ hm with ⟨rfl,e'⟩ | ⟨l0,h3,hm⟩
  ·injection e' with e1 e2
   have em:m' = m:=by omega
   subst em
   rcases e with ⟨_,_,_,e⟩ | ⟨ne,_⟩
   ·rw[e];simp
   ·exact absurd ⟨e2.symm,rfl⟩ ne
  ·rcases e with ⟨hc,rfl,rfl,e⟩ | ⟨ne,e⟩
   ·exact absurd hm (M.gone hc j l0 h3)
   ·rw[e];exact M.Ez j l0 h3 m' t0 hm h2
 ·have q1:=eY (fun ln:bU=>ln.qs.length) (y:=i5 ln m c t.len) Aa
  have q2:(i5 ln m c t.len).qs.length=ln.qs.length + 1:=by show(ln.qs ++ [_]).length=_;simp
  have q3:gy (bW s m c l t ln)=gy s:=by
   unfold gy
   show((if c=0 then s.U.set m { t with way:=t.way ++ [l] } else s.U).map fun t=>t.gone).sum=_
   by_cases hc:c=0
   ·rw[if_pos hc]
    have:=je (fun t:bj=>t.gone) (y:={ t with way:=t.way ++ [l] }) ht
    have e:({ t with way:=t.way ++ [l] }:bj).gone=t.gone:=rfl
    omega
   ·rw[if_neg hc]
  have h2:=M.sum
  rw[q3]
  unfold jf at h2 ⊢
  show((((s.lanes.set l (i5 ln m c t.len)).map fun ln=>ln.qs.length).sum:Nat):Int) + (iE s:Int)=gy s
  omega
theorem wn {a:YA}{s:YS}{m e:Nat}{c:Int}{t:bj}{qs:List (Int × Int)}(M:OG a s m c)(ht:s.U[m]? = some t)(BF:s.lies[e]? = some qs)(h0:c=0->∀ x,t.way.getLast? = some x->mR a x=t.goal):AU a { s with lies:=s.lies.set e (qs ++ [((m:Int),c)]) }:=by
 refine⟨M.lanes,by show(s.lies.set _ _).length=_;rw[length_set];exact M.lies,M.Az,M.Dj,M.lets,M.Ao,M.AO,M.B9,fun m' t' h z=>(M.AG m' t' h z).1,M.last,?_,M.first,M.Ez,?_⟩
 ·intro m' t' h x l' hx Ea
  rcases M.head m' t' h x l' hx Ea with ⟨rfl,hc⟩ | z | z
  ·have h:s.U[m']? = some t':=h
   rw[ht]at h
   cases h
   exact .inr (h0 hc x hx)
  ·exact .inl z
  ·exact .inr z
 ·have:=eY (fun qs:List (Int × Int)=>qs.length) (y:=qs ++ [((m:Int),c)]) BF
  have h2:=M.sum
  unfold iE at h2 ⊢
  show (jf s:Int) + ((((s.lies.set e (qs ++ [((m:Int),c)])).map fun qs=>qs.length).sum:Nat):Int)=gy s
  rw[length_append,length_singleton]at this
  omega
theorem AU.back {a:YA}{s:YS}{k:Nat}{lk M7:bU}(J:AU a s)(hk:s.lanes[k]? = some lk)(e:M7.qs=lk.qs):AU a { s with lanes:=s.lanes.set k M7 }:=by
 have Bp:∀ (j:Nat)(l':bU),(s.lanes.set k M7)[j]? = some l'->∃ l0,s.lanes[j]? = some l0/\l'.qs=l0.qs:=fun j l' h=>by
  rcases b0 h with ⟨rfl,rfl⟩ | ⟨_,h⟩
  ·exact⟨lk,hk,e⟩
  ·exact⟨l',h,rfl⟩
 refine⟨by rw[← J.lanes];simp,J.lies,J.Az,J.Dj,J.lets,J.Ao,?_,J.B9,J.AG,J.last,?_,?_,?_,?_⟩
 ·intro j l' h q hq
  obtain⟨l0,h0,e0⟩:=Bp j l' h
  rw[e0]at hq
  exact J.AO j l0 h0 q hq
 ·intro m t ht x l' hx Ea
  obtain⟨l0,h0,e0⟩:=Bp x l' Ea
  rw[e0]
  exact J.head m t ht x l0 hx h0
 ·intro j l' h
  obtain⟨l0,h0,e0⟩:=Bp j l' h
  rw[e0]
  exact J.first j l0 h0
 ·intro j l' h
  obtain⟨l0,h0,e0⟩:=Bp j l' h
  rw[e0]
  exact J.Ez j l0 h0
 ·have:=eY (fun ln:bU=>ln.qs.length) (y:=M7) hk
  have h1:=J.sum
  have e':=congrArg List.length e
  unfold jf at h1 ⊢
  show((((s.lanes.set k M7).map fun ln=>ln.qs.length).sum:Nat):Int) + (iE s:Int)=gy s
  omega
theorem AU.step {a:YA}{s s':YS}{m:Mv}(J:AU a s)(h:Co a s m s'):AU a s':=by
 cases h with
 | @Bp k l t ln ht hg hl Aa ho =>
  have M:=um J ht hg
  refine ku (t:={ t with gone:=t.gone + 1 }) M (eG ht) Aa (fun hc=>?_) (fun hc=>?_)
  ·have hw:=J.AG k t ht hc
   show l ∉ t.way/\∀ x ∈ t.way,mR a x ≠ t.goal
   rw[hw]
   exact⟨by simp,by simp⟩
  ·unfold c9 at hl
   rw[if_neg hc]at hl
   exact mem_of_mem_take hl
 | @on k l m c lk ln t hk hq ht hl Aa ho =>
  have M:=mD J hk hq
  have hw:cC a s k=if c=0 then (pK a k t.goal.toNat).filter (fun l=>!decide (l ∈ t.way)) else (t.way.drop (t.way.idxOf k + 1)).take 1:=by
   unfold cC bL
   rw[hk]
   dsimp only
   rw[hq]
   dsimp only
   rw[toNat_natCast,ht]
  rw[hw]at hl
  refine ku M ht Aa (fun hc=>?_) (fun hc=>?_)
  ·rw[if_pos hc]at hl
   obtain⟨h1,h2⟩:=mem_filter.mp hl
   refine⟨by simpa using h2,fun x hx ex=>?_⟩
   subst hc
   obtain⟨i,hi⟩:=pQ hx
   have h3:=J.last m t ht i x hi ex
   have h4:=J.Ez k lk hk m t (mem_of_head? hq) ht
   have h5:=uw h4
   rw[show t.way.length - 1=i by omega,hi]at h5
   have h5:=Option.some.inj h5
   subst h5
   unfold pK at h1
   obtain⟨x0,y0,e1,e2,_,_⟩:=J.lets m t ht
   rw[if_pos (by show mR a x=_;rw[ex,e2,toNat_natCast])]at h1
   cases h1
  ·rw[if_neg hc]at hl
   exact List.mem_of_mem_drop (mem_of_mem_take hl)
 | @Bj k m e c lk t qs hk hq ht hg he BF =>
  have M:=mD J hk hq
  have:=wn (s:={ s with lanes:=s.lanes.set k (cj lk) }) M ht BF (fun hc x hx=>?_)
  ·exact this
  ·subst hc
   have h4:=J.Ez k lk hk m t (mem_of_head? hq) ht
   rw[h4]at hx
   have hx:=Option.some.inj hx
   subst hx
   show(a.ps.getD k (0,0)).2=t.goal
   rw[he,hg]
 | @back k lk hk hb=>exact J.back hk rfl
noncomputable def rO (s:YS):Int:=(s.U.map fun t=>t.len).sum
theorem pe {α:Type}(f g:α->Int):∀ {L:List α},(∀ (m:Nat)(t:α),L[m]? = some t->f t <= g t)->(L.map f).sum <= (L.map g).sum
 | [],_=>by simp
 | x :: L,h=>by
  have h1:=h 0 x rfl
  have h2:=pe f g (L:=L) fun m t ht=>h (m + 1) t ht
  simp only[map_cons,sum_cons];omega
theorem jU {α:Type}(g:α->Int):∀ {L:List α},(∀ (m:Nat)(t:α),L[m]? = some t->g t <= 60)->(L.map g).sum <= 60 * L.length
 | [],_=>by simp
 | x :: L,h=>by
  have h1:=h 0 x rfl
  have h2:=jU g (L:=L) fun m t ht=>h (m + 1) t ht
  simp only[map_cons,sum_cons,length_cons];omega
theorem AU.ER {a:YA}{s:YS}(J:AU a s):(iE s:Int) <= rO s/\(jf s:Int) + (iE s:Int) <= 3600:=by
 have h1:=pe (fun t:bj=>t.gone) (fun t=>t.len) (L:=s.U) fun m t ht=>(J.B9 m t ht).2.1
 have h2:=J.sum
 have h3:=jU (fun t:bj=>t.len) (L:=s.U) fun m t ht=>(J.B9 m t ht).2.2
 have h4:=J.Az
 unfold gy at h2
 unfold rO
 omega
theorem fE {α:Type}(f:α->Nat):∀ {L:List α}{k:Nat}{x:α},L[k]? = some x->f x <= (L.map f).sum
 | [],_,_,h=>by cases h
 | z :: L,0,x,h=>by cases h;simp only[map_cons,sum_cons];omega
 | z :: L,k + 1,x,h=>by
  have:=fE f (L:=L) (k:=k) (x:=x) h
  simp only[map_cons,sum_cons];omega
theorem AU.sml {a:YA}{s:YS}(J:AU a s)(hd:s.done.length <= 100000):Wv s:=by
 have h:=J.ER.2
 refine⟨fun k ln hk=>?_,fun p qs hp=>?_,hd⟩
 ·have:=fE (fun ln:bU=>ln.qs.length) hk
  unfold jf at h
  omega
 ·have:=fE (fun qs:List (Int × Int)=>qs.length) hp
  unfold iE at h
  omega
abbrev Es:=List (Nat × Nat)
noncomputable def lk (fs:Es)(p:Nat):Option Nat:=(fs.find? fun x=>decide (x.1=p)).map (·.2)
theorem ia {fs:Es}{p d:Nat}(h:lk fs p=some d):(p,d) ∈ fs:=by
 unfold lk at h
 cases e:fs.find? (fun x=>decide (x.1=p)) with
 | none=>rw[e]at h;cases h
 | some x =>
  rw[e]at h
  have h1:=List.find?_some e
  have h2:=List.mem_of_find?_eq_some e
  have h3:x.2=d:=Option.some.inj h
  have h4:x.1=p:=of_decide_eq_true h1
  rw[← h3,← h4];exact h2
theorem C6 {fs:Es}{p:Nat}:lk fs p=none↔p ∉ fs.map (·.1):=by
 unfold lk
 rw[Option.map_eq_none_iff,List.find?_eq_none]
 constructor
 ·intro h m
  obtain⟨x,hx,e⟩:=mem_map.mp m
  exact h x hx (decide_eq_true e)
 ·intro h x hx e
  exact h (mem_map.mpr ⟨x,hx,of_decide_eq_true e⟩)
theorem i4 {fs:Es}(hn:(fs.map (·.1)).Nodup){p d:Nat}(h:(p,d) ∈ fs):lk fs p=some d:=by
 cases e:lk fs p with
 | none=>exact absurd (mem_map.mpr ⟨_,h,rfl⟩) (C6.mp e)
 | some d' =>
  have h':=ia e
  have:∀ {l:Es},(l.map (·.1)).Nodup->(p,d) ∈ l->(p,d') ∈ l->d' = d:=by
   intro l
   induction l with
   | nil=>intro _ h;cases h
   | cons x l ih =>
    intro hn h1 h2
    rw[map_cons,nodup_cons]at hn
    rcases mem_cons.mp h1 with h1 | h1
    ·rcases mem_cons.mp h2 with h2 | h2
     ·rw[← h1]at h2;exact(Prod.mk.inj h2).2
     ·exact absurd (mem_map.mpr ⟨_,h2,by rw[← h1]⟩) hn.1
    ·rcases mem_cons.mp h2 with h2 | h2
     ·exact absurd (mem_map.mpr ⟨_,h1,by rw[← h2]⟩) hn.1
     ·exact ih hn.2 h1 h2
  rw[this hn h h']
theorem hZ:∀ (n:Nat)(l:List Nat),l.Nodup->(∀ x ∈ l,x < n)->l.length <= n
 | 0,l,_,h=>by
  cases l with
  | nil=>exact Nat.le_refl _
  | cons x l=>exact absurd (h x mem_cons_self) (not_lt_zero _)
 | n + 1,l,hn,h=>by
  by_cases hm:n ∈ l
  ·have e:=List.length_erase_of_mem hm
   have:=hZ n (l.erase n) (hn.erase n) fun x hx=>by
    have C9:=(hn.mem_erase_iff).mp hx
    have:=h x C9.2
    have:=C9.1
    omega
   omega
  ·have:=hZ n l hn fun x hx=>by
    have:=h x hx
    have:x ≠ n:=fun z=>hm (by rw[← z];exact hx)
    omega
   omega
structure DQ (n:Nat)(es:Es)(g:Nat)(fs:Es)(i:Nat):Prop where
 nd:(fs.map (·.1)).Nodup
 lt:∀ x ∈ fs,x.1 < n
 g0:(g,0) ∈ fs
 up:∀ p d,(p,d) ∈ fs->(p=g/\d=0)∨∃ q d',d=d' + 1/\(q,d') ∈ fs/\(p,q) ∈ es
 sorted:fs.Pairwise fun x y=>x.2 <= y.2
 near:∀ y,fs[i]? = some y->∀ x ∈ fs,x.2 <= y.2 + 1
 cl:∀ k q d:Nat,k < i->fs[k]? = some (q,d)->∀ s,(s,q) ∈ es->∃ d',(s,d') ∈ fs/\d' <= d + 1
 ix:∀ j p d:Nat,fs[j]? = some (p,d)->d <= j
 le:i <= fs.length
theorem DQ.Az {n:Nat}{es:Es}{g:Nat}{fs:Es}{i:Nat}(b:DQ n es g fs i):fs.length <= n:=by
 have:=hZ n (fs.map (·.1)) b.nd fun x hx=>by
  obtain⟨y,hy,rfl⟩:=mem_map.mp hx
  exact b.lt y hy
 rwa [length_map]at this
theorem rA {n:Nat}{es:Es}{g:Nat}(hg:g < n):DQ n es g [(g,0)] 0 where
 nd:=by simp
 lt:=fun x hx=>by rw[mem_singleton.mp hx];exact hg
 g0:=mem_singleton.mpr rfl
 up:=fun p d h=>by
  have:=mem_singleton.mp h
  exact .inl (Prod.mk.inj this)
 sorted:=by simp
 near:=fun y hy x hx=>by rw[mem_singleton.mp hx];exact zero_le _
 cl:=fun k _ _ h=>absurd h (not_lt_zero _)
 ix:=fun j p d h=>by
  cases j with
  | zero=>have:=Option.some.inj h;have:=(Prod.mk.inj this).2;omega
  | succ j=>simp at h
 le:=zero_le _
theorem DQ.push {n:Nat}{es:Es}{g:Nat}{fs:Es}{i s p d:Nat}(b:DQ n es g fs i)(hy:fs[i]? = some (p,d))(hs:s < n)(hl:(s,p) ∈ es)(hn:lk fs s=none):DQ n es g (fs ++ [(s,d + 1)]) i where
 nd:=by
  rw[map_append,nodup_append]
  refine⟨b.nd,by simp,fun a ha c hc=>?_⟩
  have hc:c=s:=by simpa using hc
  intro z
  rw[z,hc]at ha
  exact C6.mp hn ha
 lt:=fun x hx=>by
  rcases mem_append.mp hx with h | h
  ·exact b.lt x h
  ·rw[mem_singleton.mp h];exact hs
 g0:=mem_append_left _ b.g0
 up:=fun q e h=>by
  rcases mem_append.mp h with h | h
  ·rcases b.up q e h with h | ⟨q',d',h1,h2,h3⟩
   ·exact .inl h
   ·exact .inr ⟨q',d',h1,mem_append_left _ h2,h3⟩
  ·obtain⟨h1,h2⟩:=Prod.mk.inj (mem_singleton.mp h)
   subst h1 h2
   exact .inr ⟨p,d,rfl,mem_append_left _ (mem_of_getElem? hy),hl⟩
 sorted:=by
  rw[List.pairwise_append]
  refine⟨b.sorted,by simp,fun x hx y hy'=>?_⟩
  rw[mem_singleton.mp hy']
  exact b.near _ hy x hx
 near:=fun y hy' x hx=>by
  have hi:i < fs.length:=(List.getElem?_eq_some_iff.mp hy).1
  rw[List.getElem?_append_left hi,hy]at hy'
  rw[← Option.some.inj hy']
  rcases mem_append.mp hx with h | h
  ·exact b.near _ hy x h
  ·rw[mem_singleton.mp h];exact Nat.le_refl _
 cl:=fun k q e hk hq t ht=>by
  have hi:i < fs.length:=(List.getElem?_eq_some_iff.mp hy).1
  rw[List.getElem?_append_left (by omega)]at hq
  obtain⟨d',h1,h2⟩:=b.cl k q e hk hq t ht
  exact⟨d',mem_append_left _ h1,h2⟩
 ix:=fun j q e h=>by
  have hi:i < fs.length:=(List.getElem?_eq_some_iff.mp hy).1
  have hd:=b.ix i p d hy
  rcases lt_or_ge j fs.length with hj | hj
  ·rw[List.getElem?_append_left hj]at h;exact b.ix j q e h
  ·rw[List.getElem?_append_right hj]at h
   have hj0:j - fs.length=0:=by
    have:=(List.getElem?_eq_some_iff.mp h).1
    simp at this;omega
   rw[hj0]at h
   have:=(Prod.mk.inj (Option.some.inj h)).2
   omega
 le:=le_trans b.le (by rw[length_append];omega)
theorem DQ.next {n:Nat}{es:Es}{g:Nat}{fs:Es}{i p d:Nat}(b:DQ n es g fs i)(hy:fs[i]? = some (p,d))(hc:∀ s,(s,p) ∈ es->s ∈ fs.map (·.1)):DQ n es g fs (i + 1) where
 nd:=b.nd
 lt:=b.lt
 g0:=b.g0
 up:=b.up
 sorted:=b.sorted
 near:=fun y hy' x hx=>by
  have hi:i < fs.length:=(List.getElem?_eq_some_iff.mp hy).1
  have Kq:i + 1 < fs.length:=(List.getElem?_eq_some_iff.mp hy').1
  have h1:=b.near _ hy x hx
  have h2:=pairwise_iff_getElem.mp b.sorted i (i + 1) hi Kq (lt_succ_self _)
  have e1:fs[i]=(p,d):=(List.getElem?_eq_some_iff.mp hy).2
  have e2:fs[i + 1]=y:=(List.getElem?_eq_some_iff.mp hy').2
  rw[e1,e2]at h2
  have h2:d <= y.2:=h2
  have h1:x.2 <= d + 1:=h1
  omega
 cl:=fun k q e hk hq s hs=>by
  rcases lt_or_ge k i with h | h
  ·exact b.cl k q e h hq s hs
  ·have:k=i:=by omega
   subst this
   rw[hy]at hq
   obtain⟨h1,h2⟩:=Prod.mk.inj (Option.some.inj hq)
   subst h1 h2
   obtain⟨x,hx,e⟩:=mem_map.mp (hc s hs)
   exact⟨x.2,by rw[← e];exact hx,b.near _ hy x hx⟩
 ix:=b.ix
 le:=(List.getElem?_eq_some_iff.mp hy).1
structure zB (n:Nat)(es:Es)(g:Nat)(fs:Es):Prop where
 nd:(fs.map (·.1)).Nodup
 lt:∀ x ∈ fs,x.1 < n
 g0:lk fs g=some 0
 up:∀ p d,lk fs p=some d->(p=g/\d=0)∨∃ q d',d=d' + 1/\lk fs q=some d'/\(p,q) ∈ es
 cl:∀ s q d,(s,q) ∈ es->lk fs q=some d->∃ d',lk fs s=some d'/\d' <= d + 1
 Az:∀ p d,lk fs p=some d->d < n
theorem DQ.E2 {n:Nat}{es:Es}{g:Nat}{fs:Es}(b:DQ n es g fs fs.length):zB n es g fs where
 nd:=b.nd
 lt:=b.lt
 g0:=i4 b.nd b.g0
 up:=fun p d h=>by
  rcases b.up p d (ia h) with h | ⟨q,d',h1,h2,h3⟩
  ·exact .inl h
  ·exact .inr ⟨q,d',h1,i4 b.nd h2,h3⟩
 cl:=fun s q d hs hq=>by
  obtain⟨k,hk⟩:=List.getElem?_of_mem (ia hq)
  obtain⟨d',h1,h2⟩:=b.cl k q d (List.getElem?_eq_some_iff.mp hk).1 hk s hs
  exact⟨d',i4 b.nd h1,h2⟩
 Az:=fun p d h=>by
  obtain⟨k,hk⟩:=List.getElem?_of_mem (ia h)
  have h1:=b.ix k p d hk
  have h2:=(List.getElem?_eq_some_iff.mp hk).1
  have h3:=b.Az
  omega
noncomputable def fk (x:Nat × Nat):bY × V:=(Sum.inl (x.1:Int),V.int (x.2:Int))
noncomputable def zp (x:Nat × Nat):Int × Int:=((x.1:Int),(x.2:Int))
theorem gM (p:Nat):∀ fs:Es,gN (fs.map fk) (Sum.inl (p:Int))=(lk fs p).map fun d:Nat=>V.int (d:Int)
 | []=>rfl
 | x :: fs=>by
  have ih:=gM p fs
  unfold gN lk at ih ⊢
  rw[map_cons,List.find?_cons,List.find?_cons]
  by_cases h:x.1=p
  ·have h1:(fk x).1=(Sum.inl (p:Int):bY):=by rw[← h];rfl
   rw[decide_eq_true h,decide_eq_true h1];rfl
  ·have h1:¬ (fk x).1=(Sum.inl (p:Int):bY):=fun z=>h (by have:=Sum.inl.inj z;omega)
   rw[decide_eq_false h,decide_eq_false h1];exact ih
theorem yl {fs:Es}{s d:Nat}(h:lk fs s=none):cS (fs.map fk) (Sum.inl (s:Int)) (V.int (d:Int))=(fs ++ [(s,d)]).map fk:=by
 rw[tj _ (by rw[gM,h];rfl),map_append];rfl
noncomputable def ij (es:Es)(p:Nat):List Nat:=(List.range es.length).filter fun k=>decide ((es.getD k (0,0)).2=p)
noncomputable def fv (es:Es)(p:Nat):List Nat:=(List.range es.length).filter fun k=>decide ((es.getD k (0,0)).1=p)
theorem oY (es:Es)(k:Nat):(es.map zp).getD k (0,0)=zp (es.getD k (0,0)):=by
 rw[getD_eq_getElem?_getD,getD_eq_getElem?_getD,List.getElem?_map]
 cases es[k]?<;>rfl
theorem M8 (es:Es)(p:Nat):j6 Prod.snd (es.map zp) (p:Int) (es.map zp).length=nV (ij es p):=by
 unfold j6 ij nV
 rw[length_map]
 congr 1
 refine filter_congr fun k _=>?_
 rw[oY]
 show decide (((es.getD k (0,0)).2:Int)=(p:Int))=decide ((es.getD k (0,0)).2=p)
 by_cases h:(es.getD k (0,0)).2=p
 ·rw[decide_eq_true h,decide_eq_true (by omega)]
 ·rw[decide_eq_false h,decide_eq_false (by omega)]
theorem yr (es:Es)(p:Nat):j6 Prod.fst (es.map zp) (p:Int) (es.map zp).length=nV (fv es p):=by
 unfold j6 fv nV
 rw[length_map]
 congr 1
 refine filter_congr fun k _=>?_
 rw[oY]
 show decide (((es.getD k (0,0)).1:Int)=(p:Int))=decide ((es.getD k (0,0)).1=p)
 by_cases h:(es.getD k (0,0)).1=p
 ·rw[decide_eq_true h,decide_eq_true (by omega)]
 ·rw[decide_eq_false h,decide_eq_false (by omega)]
theorem vE (es:Es)(p:Nat):(fv es p).length <= es.length:=by
 unfold fv
 exact le_trans (length_filter_le _ _) (by rw[length_range];exact Nat.le_refl _)
theorem M9 {es:Es}{p k:Nat}(h:k ∈ ij es p):∃ s,es[k]? = some (s,p)/\es.getD k (0,0)=(s,p):=by
 obtain⟨h1,h2⟩:=mem_filter.mp h
 have hk:=mem_range.mp h1
 have e:=List.getElem?_eq_getElem hk
 have e2:es.getD k (0,0)=es[k]:=by rw[getD_eq_getElem?_getD,e];rfl
 have h2:(es.getD k (0,0)).2=p:=of_decide_eq_true h2
 refine⟨es[k].1,?_,?_⟩
 ·rw[e,← h2,e2]
 ·rw[e2,← h2,e2]
noncomputable def OI (n:Nat)(es:Es):Prop:=∀ e ∈ es,e.1 < n/\e.2 < n
noncomputable def xk (c:Cs):Sp:=fun vs H Q _=>∃ (lx Ac lt:Addr)(zO:List V)(n:Nat)(es:Es)(g:Nat),vs=[.ref lx, .int g]/\cx H c lx Ac lt (n:Int) zO (es.map zp)/\OI n es/\es.length <= 100/\n <= 100/\g < n /\
 ∀ (fa:Addr)(fs:Es)(H':Hp),zD H H'->H fa=none->zB n es g fs->H' fa=some (.dK (fs.map fk))->Q (.ref fa) H'
structure Lm (K:Frag)(c:Cs)(fs fe fo fi:Addr)(ds de do' di:FuncData):Prop where
 ms:bD K c.land "start_of" fs
 bs:Binds K ds ["self", "lane"] []
 me:bD K c.land "end_of" fe
 be:Binds K de ["self", "lane"] []
 mo:bD K c.land "out_of" fo
 bo:Binds K do' ["self", "place"] []
 mi:bD K c.land "into" fi
 bi:Binds K di ["self", "place"] []
abbrev NH:List Str:=["land", "goal", "far", "line", "looked_at", "place", "lane", "start"]
theorem Hv:am NH ["land", "goal"] (ai yf):=L2.Ad
theorem yK {c:Cs}{f f1 f2 f3 f4:Addr}{fd d1 d2 d3 d4:FuncData}(F:Ab K "how_far" "how_far" yf f fd)(T:eW mg)(L:lC K c)(M:Lm K c f1 f2 f3 f4 d1 d2 d3 d4)
  (Gs:zE P w K mg base aG 1 f1 d1 ["self", "lane"] (nQ c Prod.fst)) (Gi:zE P w K mg base aG 1 f4 d4 ["self", "place"] (qv c Prod.snd)):zE P w K mg base aG 2 f fd ["land", "goal"] (xk c):=by
 refine F.ok Hv (fun vs H Q E h=>?_) (fun cdv A outer s H vs Q E hr h=>?_)
 ·obtain⟨lx,Ac,lt,zO,n,es,g,rfl,_⟩:=h
  rfl
 ·obtain⟨lx,Ac,lt,zO,n,es,g,rfl,hL,BO,DG,hn,hg,q⟩:=h
  have hu:=k9 hr
  refine⟨_,ae (ay (i:=2) Hv.nd rfl (Or.inl rfl) (vD (tD (pv 1) aj vA) rfl rfl (by intro z;cases z) (by decide)))
   (ae (ay (i:=3) Hv.nd rfl (Or.inl rfl) (aO (aa (pv 1) ad)))
   (ae (ay (i:=4) Hv.nd rfl (Or.inl rfl) aj)
   (ae (tu PassesOwn.never (ap hU (pv 4) (ax ao rfl T.len PySem.boot_len (aa (pv 3) ad)) (av _))
    (ae (ay (i:=5) Hv.nd rfl (Or.inl rfl) (aw aI (pv 3) (pv 4) (fun _ _=>rfl)))
    (ae (ym (i:=4) Hv.nd rfl (Or.inl rfl) aj za)
    (ah (b5 PassesOwn.never rfl (bN (aC (pv 0) L.cl M.mi Gi hr M.bi .nil aq (aa (pv 5) ad))) (au (i:=6) Hv.nd rfl (Or.inl rfl))
     (ae (ay (i:=7) Hv.nd rfl (Or.inl rfl) (aC (pv 0) L.cl M.ms Gs hr M.bs .nil aq (aa (pv 6) ad)))
     (ah (aL (tq (qG hu (pv 7) (pv 2)))
      (ae (v9 hu (pv 2) (pv 7) (aE bB (pF hu (pv 2) (pv 5) (fun _ _=>rfl)) aj) rfl)
      (ah (aS (cr plainAttrs_list PySem.F.slot_list_append PySem.F.type_list_append bG (pv 3) (aa (pv 7) ad))))) aA))))))))
   (ah (ar (pv 2)))))),?_⟩
  have land:∀ {H':Hp},zD H H'->cx H' c lx Ac lt (n:Int) zO (es.map zp):=fun s'=>⟨s' _ _ hL.1,s' _ _ hL.2.1,zX.same s' hL.2.2⟩
  refine fun fa DR=>⟨_,rfl,ac,[fk (g,0)],rfl,(by show 1 <= 15;decide),?_⟩
  have s0:zD H (upd (upd H fa (.dK [])) fa (.dK (fD [] [fk (g,0)]))):=fun b o e=>by rw[af (ag e DR),af (ag e DR)];exact e
  have RS:(upd (upd H fa (.dK [])) fa (.dK (fD [] [fk (g,0)]))) fa=some (.dK ([(g,0)].map fk)):=ac
  generalize upd (upd H fa (.dK [])) fa (.dK (fD [] [fk (g,0)]))=H0 at s0 RS ⊢
  refine⟨_,rfl,by show 1 <= sizeLine;decide,fun ln Aa=>?_⟩
  have s1:=s0.new (o := .lst [.int g]) Aa
  have RT:H ln=none:=s0.free Aa
  have OF:(upd H0 ln (.lst [.int g])) ln=some (.lst (nV ([(g,0)].map (·.1)))):=ac
  have W0:(upd H0 ln (.lst [.int g])) fa=some (.dK ([(g,0)].map fk)):=by rw[af (ag RS Aa)];exact RS
  generalize upd H0 ln (.lst [.int g])=H1 at s1 OF W0 ⊢
  refine⟨fun m σ H'=>∃ (fs:Es)(i:Nat)(a5 a6 a7:Option V),m=n - i/\DQ n es g fs i/\zD H H'/\H' fa=some (.dK (fs.map fk))/\H' ln=some (.lst (nV (fs.map (·.1))))/\σ=[some (.ref lx),some (.int g),some (.ref fa),some (.ref ln),some (.int (i:Nat)),a5,a6,a7],
   ⟨n - 0,[(g,0)],0,none,none,none,rfl,rA hg,s1,W0,OF,rfl⟩,?_⟩
  rintro m σ H2 ⟨fs,i,a5,a6,a7,rfl,hB,s2,gf,gl,rfl⟩
  have Dy:=hB.Az
  refine⟨_,rfl,_,rfl,ln,_,rfl, .inl (zJ.of gl),_,_,rfl,rfl,_,rfl,?_⟩
  by_cases hi:i < fs.length
  rotate_left
  ·have e:i=fs.length:=by have:=hB.le;omega
   subst e
   rw[decide_eq_false (by rw[dv,length_map];omega)]
   exact aD ⟨_,rfl,q fa fs H2 s2 DR hB.E2 gf⟩
  rw[decide_eq_true (by rw[dv,length_map];omega)]
  have hy:=List.getElem?_eq_getElem hi
  generalize fs[i]=pd at hy
  obtain⟨p,d⟩:=pd
  have hp:p < n:=hB.lt _ (mem_of_getElem? hy)
  have Bl:(nV (fs.map (·.1)))[i]? = some (.int (p:Int)):=j1 (by rw[List.getElem?_map,hy];rfl)
  refine aH ⟨fun σ' H'=>∃ (An:Es)(a5 a6 a7:Option V),DQ n es g An (i + 1)/\zD H H'/\H' fa=some (.dK (An.map fk))/\H' ln=some (.lst (nV (An.map (·.1))))/\σ' = [some (.ref lx),some (.int g),some (.ref fa),some (.ref ln),some (.int ((i:Int) + 1)),a5,a6,a7],
   fun σ' H' zH=>by obtain⟨An,a5,a6,a7,h1,h2,h3,h4,h5⟩:=zH;exact⟨n - (i + 1),by omega,An,i + 1,a5,a6,a7,rfl,h1,h2,h3,h4,h5⟩,?_⟩
  refine⟨_,rfl,_,rfl,ln,_,_,_,rfl,rfl,zJ.of gl,ak Bl,?_⟩
  refine⟨_,rfl,_,_,rfl,rfl,?_⟩
  refine⟨_,rfl,lx,Ac,_,rfl,(land s2).1,rfl,_,rfl,lx,Ac,lt,(n:Int),zO,es.map zp,(p:Int),rfl,land s2,by rw[length_map];omega,fun H3 Ia s3 RU=>?_⟩
  rw[M8]
  have u3:=s3.new (o := .lst (nV (ij es p))) RU
  have gI:(upd H3 Ia (.lst (nV (ij es p)))) Ia=some (.lst (nV (ij es p))):=ac
  have nIl:Ia ≠ ln:=Ne.symm (ag (s3 _ _ gl) RU)
  have nIf:Ia ≠ fa:=Ne.symm (ag (s3 _ _ gf) RU)
  have W2:ln ≠ fa:=aX gl gf (by intro z;cases z)
  generalize upd H3 Ia (.lst (nV (ij es p)))=H4 at u3 gI ⊢
  refine⟨Ia,rfl,⟨_,zJ.of gI⟩,?_⟩
  refine jD (K:=K) (a:=Ia) (xs:=nV (ij es p)) (fun m σ H5=>∃ (An:Es)(a6 a7:Option V),DQ n es g An i/\An[i]? = some (p,d)/\(∀ k ∈ (ij es p).take m,(es.getD k (0,0)).1 ∈ An.map (·.1))/\zD H H5/\H5 Ia=some (.lst (nV (ij es p)))/\H5 fa=some (.dK (An.map fk))/\H5 ln=some (.lst (nV (An.map (·.1)))) /\
    σ=[some (.ref lx),some (.int g),some (.ref fa),some (.ref ln),some (.int ((i:Int) + 1)),some (.int p),a6,a7])
   ⟨fs,_,_,hB,hy,fun k hk=>by simp at hk,s2.trans u3,gI,u3 _ _ gf,u3 _ _ gl,rfl⟩ (fun m σ H5 _ zH=>by obtain⟨_,_,_,_,_,_,_,g5,_⟩:=zH;exact zJ.of g5) ?_ ?_
  ·rintro m v σ H5 hv ⟨An,a6,a7,Jz,hy',AZ,s5,RV,J0,OJ,rfl⟩
   have hm:m < (ij es p).length:=by have:=(List.getElem?_eq_some_iff.mp hv).1;rw[dv]at this;exact this
   have hk0:=List.getElem?_eq_getElem hm
   have Jg:=j1 hk0
   rw[Jg]at hv
   have hv:=Option.some.inj hv
   subst hv
   generalize hke:(ij es p)[m]=k at hk0
   obtain⟨st,hk1,OH⟩:=M9 (mem_of_getElem? hk0)
   have CK:=mem_of_getElem? hk1
   have C8:=(BO _ CK).1
   have step:∀ {RW:Es},(∀ x ∈ An.map (·.1),x ∈ RW.map (·.1))->st ∈ RW.map (·.1)->∀ k ∈ (ij es p).take (m + 1),(es.getD k (0,0)).1 ∈ RW.map (·.1):=fun F2 F1 k' Gj=>by
    rw[take_succ,hk0]at Gj
    rcases mem_append.mp Gj with h | h
    ·exact F2 _ (AZ k' h)
    ·have:k' = k:=by simpa using h
     rw[this,OH];exact F1
   refine⟨_,rfl,lx,Ac,_,rfl,(land s5).1,rfl,_,rfl,lx,Ac,lt,(n:Int),zO,es.map zp,k,zp (st,p),rfl,land s5,by rw[List.getElem?_map,hk1];rfl,?_⟩
   refine⟨_,rfl,_,rfl,fa,_,rfl,B7.k (k:=Sum.inl (st:Int)) J0,_,rfl,?_⟩
   rw[gM]
   have W3:=Jz.Az
   cases DA:lk An st with
   | some d'=>exact aD ⟨An,_,_,Jz,hy',step (fun x hx=>hx) (mem_map.mpr ⟨_,ia DA,rfl⟩),s5,RV,J0,OJ,rfl⟩
   | none =>
    refine aH ?_
    refine⟨_,rfl,_,rfl,fa, .int (d:Int),rfl,?_,_,_,rfl,rfl,_,rfl,_,rfl,fa,_,rfl,EE.k (k:=Sum.inl (st:Int)) J0 (by rw[sizeLine_eq,length_map];omega),?_⟩
    ·have:=B7.k (k:=Sum.inl (p:Int)) J0
     rw[gM,i4 Jz.nd (mem_of_getElem? hy')]at this
     exact this
    dsimp only
    have ep:cS (An.map fk) (Sum.inl (st:Int)) (V.int ((d:Int) + 1))=(An ++ [(st,d + 1)]).map fk:=yl (d:=d + 1) DA
    have W4:(upd H5 fa (.dK (cS (An.map fk) (Sum.inl (st:Int)) (V.int ((d:Int) + 1))))) Ia=some (.lst (nV (ij es p))):=by rw[af nIf];exact RV
    have RX:(upd H5 fa (.dK (cS (An.map fk) (Sum.inl (st:Int)) (V.int ((d:Int) + 1))))) ln=some (.lst (nV (An.map (·.1)))):=by rw[af W2];exact OJ
    have W5:(upd H5 fa (.dK (cS (An.map fk) (Sum.inl (st:Int)) (V.int ((d:Int) + 1))))) fa=some (.dK ((An ++ [(st,d + 1)]).map fk)):=by rw[ac,ep]
    have s6:zD H (upd H5 fa (.dK (cS (An.map fk) (Sum.inl (st:Int)) (V.int ((d:Int) + 1))))):=fun b o e=>by rw[af (ag e DR)];exact s5 _ _ e
    generalize upd H5 fa (.dK (cS (An.map fk) (Sum.inl (st:Int)) (V.int ((d:Int) + 1))))=H6 at W4 RX W5 s6 ⊢
    refine⟨_,rfl, .inl ⟨rfl,_,zJ.of RX⟩,_,rfl,ln,_,_,rfl,rfl,RX,by rw[sizeLine_eq,dv,length_map];omega,?_⟩
    have Kq:i < An.length:=(List.getElem?_eq_some_iff.mp hy').1
    refine⟨An ++ [(st,d + 1)],_,_,Jz.push hy' C8 CK DA,by rw[List.getElem?_append_left Kq];exact hy',step (fun x hx=>by rw[map_append];exact mem_append_left _ hx) (by rw[map_append];exact mem_append_right _ (by simp)),fun b o e=>by rw[af (ag e RT)];exact s6 _ _ e,by rw[af nIl];exact W4,by rw[af (Ne.symm W2)];exact W5,?_,rfl⟩
    rw[ac,map_append,uj];rfl
  ·rintro σ H5 ⟨An,a6,a7,Jz,hy',AZ,s5,RV,J0,OJ,rfl⟩
   rw[dv,take_length]at AZ
   refine⟨An,_,_,_,Jz.next hy' (fun st C8=>?_),s5,J0,OJ,rfl⟩
   obtain⟨k,hk⟩:=List.getElem?_of_mem C8
   have hk1:es.getD k (0,0)=(st,p):=by rw[getD_eq_getElem?_getD,hk];rfl
   have:=AZ k (mem_filter.mpr ⟨mem_range.mpr (List.getElem?_eq_some_iff.mp hk).1,by rw[hk1];exact decide_eq_true rfl⟩)
   rw[hk1]at this
   exact this
noncomputable def j0 (fs:Es)(d:Nat)(e:Nat):Bool:=match lk fs e with
 | some d'=>decide (d' + 1=d)
 | none=>false
noncomputable def du (es fs:Es)(p d:Nat):List Nat:=(fv es p).filter fun k=>j0 fs d (es.getD k (0,0)).2
theorem tH (es:Es)(p:Nat):(fv es p).Pairwise (· < ·):=List.Pairwise.filter _ pairwise_lt_range
theorem qP (es fs:Es)(p d:Nat):(du es fs p d).Pairwise (· < ·):=List.Pairwise.filter _ (tH es p)
theorem pN {es fs:Es}{p d k:Nat}(h:k ∈ du es fs p d):k < es.length:=mem_range.mp (mem_filter.mp (mem_filter.mp h).1).1
theorem mE {ks:List Nat}(h:ks.Pairwise (· < ·)):wq (Yd.Ai ks 0)=nV ks:=by
 rw[wo,oy (ks:=ks) (ms:=iz ks) ?_ (fun k=>Iff.rfl),w6];rfl
 unfold iz
 exact List.Pairwise.map _ (fun a b Ep=>by show (a:Int) < (b:Int);omega) h
theorem yt {es:Es}{p k:Nat}(h:k ∈ fv es p):∃ e,es[k]? = some (p,e)/\es.getD k (0,0)=(p,e):=by
 obtain⟨h1,h2⟩:=mem_filter.mp h
 have hk:=mem_range.mp h1
 have e:=List.getElem?_eq_getElem hk
 have e2:es.getD k (0,0)=es[k]:=by rw[getD_eq_getElem?_getD,e];rfl
 have h2:(es.getD k (0,0)).1=p:=of_decide_eq_true h2
 refine⟨es[k].2,?_,?_⟩
 ·rw[e,← h2,e2]
 ·rw[e2,← h2,e2]
noncomputable def vN:V->Nat
 | .int z=>z.toNat
 | _=>0
theorem iB (es fs:Es)(d:Nat):∀ l:List Nat,((nV l).filter fun v=>j0 fs d (es.getD (vN v) (0,0)).2).map (fun v=>v)=nV (l.filter fun k=>j0 fs d (es.getD k (0,0)).2)
 | []=>rfl
 | x :: l=>by
  have ih:=iB es fs d l
  show((V.int (x:Int) :: nV l).filter _).map _=_
  rw[List.filter_cons,List.filter_cons]
  have e:vN (V.int (x:Int))=x:=toNat_natCast x
  rw[e]
  cases j0 fs d (es.getD x (0,0)).2 with
  | true=>rw[if_pos rfl,if_pos rfl,map_cons,ih];rfl
  | false=>rw[if_neg (by decide),if_neg (by decide),ih]
noncomputable def MA (c:Cs):Sp:=fun vs H Q _=>∃ (lx Ac lt fa:Addr)(zO:List V)(n:Nat)(es fs:Es)(g p d:Nat),vs=[.ref lx, .ref fa, .int p]/\cx H c lx Ac lt (n:Int) zO (es.map zp)/\es.length <= 100/\Rd H fa (.dK (fs.map fk))/\zB n es g fs/\lk fs p=some d /\
 ∀ (D:Addr)(H':Hp),zD H H'->H D=none->H' D=some (.lst (nV (du es fs p d)))->Q (.ref D) H'
theorem sZ {H:Hp}{fa:Addr}{fs:Es}(h:Rd H fa (.dK (fs.map fk)))(p:Nat):B7 H fa (.int (p:Int)) ((lk fs p).map fun d:Nat=>V.int (d:Int)) := .inl ⟨_,Sum.inl (p:Int),h,rfl,(gM p fs).symm⟩
theorem kZ {H H':Hp}{a:Addr}{u:HO}(s:zD H H')(h:Rd H a u):Rd H' a u:=by
 rcases h with h | ⟨o,h⟩
 ·exact .inl (s _ _ h)
 ·exact .inr ⟨o,s _ _ h⟩
noncomputable def MB (s:Stmt):Scope:=match aJ s with
 | .Return (some (.ListComp _ _ sc _)) _ :: _=>sc
 | _=>{ kind := .function,names:=[],isGenerator:=false,isCoroutine:=false }
theorem RY:am ["land", "far", "place"] ["land", "far", "place"] (ai KZ):=L2.Ad
theorem RZ:AS ["land", "far", "place"] (ai KZ) (MB KZ) ["land", "far", "place"] [0,1,2]:=L2.BS
theorem Sb:(["lane", "land", "far", "place"]:List Str).Nodup:=by decide +kernel
theorem MC {c:Cs}{f f1 f2 f3 f4:Addr}{fd d1 d2 d3 d4:FuncData}(F:Ab K "nearer_lanes" "nearer_lanes" KZ f fd)(T:eW mg)(L:lC K c)(M:Lm K c f1 f2 f3 f4 d1 d2 d3 d4)
  (Ge:zE P w K mg base aG 1 f2 d2 ["self", "lane"] (nQ c Prod.snd)) (Go:zE P w K mg base aG 1 f3 d3 ["self", "place"] (qv c Prod.fst)):zE P w K mg base aG 2 f fd ["land", "far", "place"] (MA c):=by
 refine F.ok RY (fun vs H Q E h=>?_) (fun cdv A outer s H vs Q E hr h=>?_)
 ·obtain⟨lx,Ac,lt,fa,zO,n,es,fs,g,p,d,rfl,_⟩:=h
  rfl
 ·obtain⟨lx,Ac,lt,fa,zO,n,es,fs,g,p,d,rfl,hL,DG,DR,hF,DA,q⟩:=h
  have hu:=k9 hr
  refine⟨_,ah (ar (bA (own:=["lane"]) (capN:=["land", "far", "place"]) (cap:=[0,1,2]) RZ rfl (bN (aC (pv 0) L.cl M.mo Go hr M.bo .nil aq (aa (pv 2) ad)))
   (fun C s' H' fp=>⟨au (i:=0) Sb rfl (Or.inl rfl),bM (ap aZ (tF hu (pv 2) (aC (pv 1) L.cl M.me Ge hr M.be .nil aq (aa (pv 0) ad)) ⟨rfl,rfl,rfl,rfl⟩) (aE dq (pF hu (pv 2) (pv 3) (fun _ _=>rfl)) aj) (av _)),pv 0⟩))),?_⟩
  refine⟨_,rfl,lx,Ac,_,rfl,hL.1,rfl,_,rfl,lx,Ac,lt,(n:Int),zO,es.map zp,(p:Int),rfl,hL,by rw[length_map];omega,fun H1 O s1 hO=>?_⟩
  rw[yr]
  have s2:=s1.new (o := .lst (nV (fv es p))) hO
  have gO:(upd H1 O (.lst (nV (fv es p)))) O=some (.lst (nV (fv es p))):=ac
  generalize upd H1 O (.lst (nV (fv es p)))=H2 at s2 gO ⊢
  have Gv:=vE es p
  refine⟨O,rfl,⟨_,zJ.of gO⟩,fM (fun v=>j0 fs d (es.getD (vN v) (0,0)).2) (fun v=>v) (by rw[sizeLine_eq,dv];omega) (zJ.of gO) ?_ ?_⟩
  ·intro v acc N hv hN
   obtain⟨k,hk,rfl⟩:=uh hv
   obtain⟨e,he1,Fc⟩:=yt hk
   have ek:vN (V.int (k:Int))=k:=toNat_natCast k
   rw[ek,Fc]at hN
   have hN:N (if j0 fs d e=true then acc ++ [V.int (k:Int)] else acc) H2:=hN
   have gd:=sZ (kZ s2 DR) p
   rw[DA]at gd
   refine⟨_,rfl,fa,rfl, .inl ⟨_,kZ s2 DR⟩,_,rfl,lx,Ac,_,rfl,s2 _ _ hL.1,rfl,_,rfl,lx,Ac,lt,(n:Int),zO,es.map zp,k,zp (p,e),rfl,⟨s2 _ _ hL.1,s2 _ _ hL.2.1,zX.same s2 hL.2.2⟩,by rw[List.getElem?_map,he1];rfl,_,sZ (kZ s2 DR) e,?_⟩
   refine⟨_,rfl,_,rfl,fa,_,rfl,gd,_,_,rfl,rfl,?_⟩
   unfold j0 at hN
   cases hle:lk fs e with
   | none =>
    rw[hle]at hN
    refine⟨rfl,_,rfl,?_⟩
    exact aD hN
   | some d' =>
    rw[hle]at hN
    refine⟨rfl,_,rfl,?_⟩
    show(if decide (V.int (d':Int)=V.int ((d:Int) - 1))=true then _ else _)
    by_cases hd:d' + 1=d
    ·have hN:N (if decide (d' + 1=d)=true then acc ++ [V.int (k:Int)] else acc) H2:=hN
     rw[decide_eq_true hd,if_pos rfl]at hN
     rw[decide_eq_true (by rw[show (d:Int) - 1=(d':Int) by omega])]
     exact aH ⟨_,rfl,hN⟩
    ·have hN:N (if decide (d' + 1=d)=true then acc ++ [V.int (k:Int)] else acc) H2:=hN
     rw[decide_eq_false hd,if_neg (by decide)]at hN
     rw[decide_eq_false (fun z=>hd (by injection z with z;omega))]
     exact aD hN
  ·intro D hD
   rw[iB]
   exact q D _ (s2.new hD) (s2.free hD) ac
structure lD where
 tab:Addr
 near:Addr
noncomputable def kk (p g:Nat):gp:=[some (p:Int),some (g:Int)]
theorem DB {p g p' g':Nat}:kk p g=kk p' g'↔p=p'/\g=g':=by
 unfold kk
 constructor
 ·intro h
  have h1:=List.cons.inj h
  have h2:=List.cons.inj h1.2
  have e1:=Option.some.inj h1.1
  have e2:=Option.some.inj h2.1
  omega
 ·rintro⟨rfl,rfl⟩;rfl
noncomputable def rf (es fs:Es)(p:Nat):Option V:=(lk fs p).map fun d=>V.int (Yd.Ai (du es fs p d) 0:Nat)
noncomputable def n8 (n:Nat)(es:Es)(kvs:List dS)(G:Nat):Prop:=(∀ g,g < G->∃ fs,zB n es g fs/\∀ p,bZ kvs (kk p g)=rf es fs p)/\∀ g,G <= g->∀ p,bZ kvs (kk p g)=none
noncomputable def uY (n:Nat)(es:Es)(kvs:List dS)(G:Nat)(fs:Es)(j:Nat):Prop:=(∀ g,g < G->∃ fs,zB n es g fs/\∀ p,bZ kvs (kk p g)=rf es fs p)/\(∀ p,bZ kvs (kk p G)=if p ∈ (fs.take j).map (·.1) then rf es fs p else none)/\∀ g,G < g->∀ p,bZ kvs (kk p g)=none
theorem re {n:Nat}{es:Es}{kvs:List dS}{G:Nat}{fs:Es}(h:n8 n es kvs G):uY n es kvs G fs 0 :=
 ⟨h.1,fun p=>by rw[h.2 G (Nat.le_refl _) p,if_neg (by simp)],fun g hg p=>h.2 g (by omega) p⟩
theorem wG {n:Nat}{es:Es}{kvs:List dS}{G:Nat}{fs:Es}(f:zB n es G fs)(h:uY n es kvs G fs fs.length):n8 n es kvs (G + 1):=by
 refine⟨fun g hg=>?_,fun g hg p=>h.2.2 g (by omega) p⟩
 rcases lt_or_ge g G with h1 | h1
 ·exact h.1 g h1
 ·have e:g=G:=by omega
  subst e
  refine⟨fs,f,fun p=>?_⟩
  rw[h.2.1 p,take_length]
  by_cases hp:p ∈ fs.map (·.1)
  ·rw[if_pos hp]
  ·rw[if_neg hp];unfold rf;rw[C6.mpr hp];rfl
theorem uC {n:Nat}{es:Es}{kvs:List dS}{G:Nat}{fs:Es}{j p d:Nat}{b:Addr}(hn:(fs.map (·.1)).Nodup)(hj:fs[j]? = some (p,d))(h:uY n es kvs G fs j) :
  uY n es (fu kvs (kk p G) b (.int (Yd.Ai (du es fs p d) 0:Nat))) G fs (j + 1):=by
 have DA:=i4 hn (mem_of_getElem? hj)
 refine⟨fun g hg=>?_,fun p'=>?_,fun g hg p'=>?_⟩
 ·obtain⟨An,f',h'⟩:=h.1 g hg
  refine⟨An,f',fun p'=>?_⟩
  rw[gP,if_neg (fun z=>by have:=(DB.mp z).2;omega),h' p']
 ·rw[gP]
  by_cases e:p' = p
  ·subst e
   rw[if_pos rfl,if_pos (by rw[take_succ,hj,map_append];exact mem_append_right _ (by simp))]
   unfold rf;rw[DA];rfl
  ·rw[if_neg (fun z=>e (DB.mp z).1),h.2.1 p',take_succ,hj,map_append]
   by_cases hm:p' ∈ (fs.take j).map (·.1)
   ·rw[if_pos hm,if_pos (mem_append_left _ hm)]
   ·rw[if_neg hm,if_neg]
    intro z
    rcases mem_append.mp z with z | z
    ·exact hm z
    ·exact e (by simpa using z)
 ·rw[gP,if_neg (fun z=>by have:=(DB.mp z).2;omega),h.2.2 g hg p']
noncomputable def wS (P:Program)(w:World)(H:Hp)(ts:lD)(x dx:Addr)(lx:Addr)(de:Addr)(kvs:List dS):Prop:=H x=some (.ins ts.near dx [("land", .ref lx),("entries", .ref de)])/\Au P w H de kvs
noncomputable def sg (P:Program)(w:World)(c:Cs)(ts:lD):Sp:=fun vs H Q _=>∃ (x dx lx Ac lt:Addr)(zO:List V)(n:Nat)(es:Es),vs=[.ref x, .ref lx]/\H x=some (.ins ts.near dx [])/\cx H c lx Ac lt (n:Int) zO (es.map zp)/\OI n es/\es.length <= 100/\n <= 100 /\
 ∀ H' de kvs,Off x H H'->wS P w H' ts x dx lx de kvs->n8 n es kvs n->Q .zT H'
structure Sd (K:Frag)(mg:Str->Option Value)(ts:lD)(f1:Addr)(d1:FuncData):Prop where
 cl:Cg K ts.near
 n1:zP K ts.near "land"
 n2:zP K ts.near "entries"
 mt:mg "Table" = some (.ref ts.tab)
 cm:uZ K ts.tab "__init__" f1
 bt:Binds K d1 ["self", "land"] []
abbrev NNr:List Str:=["self", "land", "goal", "far", "place"]
theorem FO:am NNr ["self", "land"] (ai sO):=L2.Ad
theorem vW {c:Cs}{ts:lD}{f ft fh fn fs:Addr}{fd dt dh dn ds:FuncData}(F:Ab K "__init__" "Nearer.__init__" sO f fd)(T:eW mg)(L:lC K c)(B:Sd K mg ts ft dt)(G1:zE P w K mg base aG 1 ft dt ["self", "land"] (rV K))
  (mh:mg "how_far" = some (.ref fh)) (kh:keepIn K (.ref fh)=true) (bh:Binds K dh ["land", "goal"] []) (Gh:zE P w K mg base aG 2 fh dh ["land", "goal"] (xk c))
  (mn:mg "nearer_lanes" = some (.ref fn)) (kn:keepIn K (.ref fn)=true) (bn:Binds K dn ["land", "far", "place"] []) (Gn:zE P w K mg base aG 2 fn dn ["land", "far", "place"] (MA c))
  (ms:mg "set_of" = some (.ref fs)) (ks:keepIn K (.ref fs)=true) (bs:Binds K ds ["numbers"] []) (Gs:zE P w K mg base aG 1 fs ds ["numbers"] (rW K)) :
  zE P w K mg base aG 3 f fd ["self", "land"] (sg P w c ts):=by
 refine F.ok FO (fun vs H Q E h=>?_) (fun cdv A outer s H vs Q E hr h=>?_)
 ·obtain⟨x,dx,lx,Ac,lt,zO,n,es,rfl,_⟩:=h
  rfl
 ·obtain⟨x,dx,lx,Ac,lt,zO,n,es,rfl,hx,hL,BO,DG,hn,q⟩:=h
  have Ax:zN 1 _:=hr.mono (by decide)
  have hu:=k9 hr
  refine⟨_,ae (aS (mj (eK (v := .ref ts.tab) rfl B.mt rfl) B.cm G1 Ax B.bt .nil aq (aa (pv 0) (aa (pv 1) ad))))
   (ae (aV (pv 0) (show PE _ _ (rM P w) from pE) rfl)
   (ah (b5 PassesOwn.never rfl (aM rfl T.range (aa (al (pv 1) rfl) ad)) (au (i:=2) FO.nd rfl (Or.inl rfl))
    (ae (ay (i:=3) FO.nd rfl (Or.inl rfl) (az Gh hr rfl mh kh bh .nil aq (aa (pv 1) (aa (pv 2) ad))))
    (ah (b5 PassesOwn.never rfl (vC (pv 3)) (au (i:=4) FO.nd rfl (Or.inl rfl))
     (ah (pD hu (al (pv 0) rfl) (bH (aa (pv 4) (aa (pv 2) ad))) (az Gs Ax rfl ms ks bs .nil aq (aa (az Gn hr rfl mn kn bn .nil aq (aa (pv 1) (aa (pv 3) (aa (pv 4) ad)))) ad)) rfl)))))))),?_⟩
  refine⟨rfl,_,rfl,_,rfl,x,ts.near,dx,_,rfl,hx,B.cl,B.n1,?_⟩
  refine fun de Dh=>⟨_,rfl,x,ts.near,dx,[("land", .ref lx)],rfl,by rw[af (ag ac Dh)];exact ac,B.cl,B.n2,by show 1 < 1000;decide,?_⟩
  have Fg:x ≠ de:=ag ac Dh
  have EF:H de=none:=by rw[af (Ne.symm Fg)]at Dh;exact Dh
  generalize E9:upd (upd (upd H x (.ins ts.near dx [("land", .ref lx)])) de (jM P w de [])) x (.ins ts.near dx (aK "entries" (.ref de) [("land", .ref lx)]))=H2
  have o2:Off x H H2:=fun b o hb e=>by rw[← E9,af hb,af (ag e EF),af hb];exact e
  have x2:H2 x=some (.ins ts.near dx [("land", .ref lx),("entries", .ref de)]):=by rw[← E9,ac];rfl
  have d2:Au P w H2 de []:=⟨by rw[← E9,af (Ne.symm Fg),ac],fun y hy=>by cases hy⟩
  have Bo:=Off.land o2 hx hL
  refine⟨_,rfl,lx,c.land,Ac,_,_,rfl,Bo.1,L.cl,L.np,rfl,(n:Int),rfl,by omega,by omega,?_⟩
  rw[toNat_natCast]
  refine aW (n:=n) (fun G σ H3=>∃ (a2 a3 a4:Option V)(kvs:List dS),Off x H H3/\wS P w H3 ts x dx lx de kvs/\kvs.length <= G * 100/\n8 n es kvs G/\σ=[some (.ref x),some (.ref lx),a2,a3,a4])
   ⟨none,none,none,[],o2,⟨x2,d2⟩,zero_le _,⟨fun g hg=>absurd hg (not_lt_zero _),fun g _ p=>rfl⟩,rfl⟩ ?_ ?_
  ·rintro G σ H3 hG ⟨a2,a3,a4,kvs,o3,n3,l3,e3,rfl⟩
   rw[zero_add]
   have C2:=Off.land o3 hx hL
   refine⟨_,rfl,_,rfl,lx,Ac,lt,zO,n,es,G,rfl,C2,BO,DG,hn,hG,fun fa An H4 s4 DR hF gfa=>?_⟩
   have Dy:An.length <= n:=by
    have:=hZ n (An.map (·.1)) hF.nd fun y hy=>by
     obtain⟨z,hz,rfl⟩:=mem_map.mp hy
     exact hF.lt z hz
    rwa [length_map]at this
   refine⟨_,rfl,fa,_,rfl,gfa,fun ob=>?_⟩
   have W6:(upd H4 fa (.Bx ob (.dK (An.map fk)))) fa=some (.Bx ob (.dK (An.map fk))):=ac
   have s5:zD H3 (upd H4 fa (.Bx ob (.dK (An.map fk)))):=fun b o e=>by rw[af (ag e DR)];exact s4 _ _ e
   generalize upd H4 fa (.Bx ob (.dK (An.map fk)))=H5 at W6 s5 ⊢
   have nfa:H fa=none∨fa=x:=by
    by_cases h:fa=x
    ·exact .inr h
    ·exact .inl (by cases e:H fa with | none=>rfl | some o=>rw[o3 _ _ h e]at DR;cases DR)
   refine u9 (a:=fa) (o:=ob) (kvs:=An.map fk) (fun j σ H6=>∃ (a4:Option V)(kvs:List dS),Off x H H6/\wS P w H6 ts x dx lx de kvs/\kvs.length <= G * 100 + j/\uY n es kvs G An j/\H6 fa=some (.Bx ob (.dK (An.map fk)))/\σ=[some (.ref x),some (.ref lx),some (.int G),some (.ref fa),a4])
    ⟨_,kvs,o3.same s5,⟨s5 _ _ n3.1,n3.2.same s5⟩,l3,re e3,W6,rfl⟩ (fun j σ H6 _ zH=>by obtain⟨_,_,_,_,_,_,g6,_⟩:=zH;exact g6) ?_ ?_
   ·rintro j k σ H6 hk ⟨a4,kvs,o6,n6,l6,e6,g6,rfl⟩
    have hj:j < An.length:=by have:=(List.getElem?_eq_some_iff.mp hk).1;simpa using this
    have hjp:=List.getElem?_eq_getElem hj
    generalize An[j]=pd at hjp
    obtain⟨p,d⟩:=pd
    have ek:k=Sum.inl (p:Int):=by
     rw[List.getElem?_map,List.getElem?_map,hjp]at hk
     exact(Option.some.inj hk).symm
    subst ek
    rw[show kV (Sum.inl (p:Int))=V.int (p:Int) from rfl]
    have DA:=i4 hF.nd (mem_of_getElem? hjp)
    have hL6:=Off.land o6 hx hL
    refine⟨_,rfl,_,rfl,_,rfl,lx,Ac,lt,fa,zO,n,es,An,G,p,d,rfl,hL6,DG, .inr ⟨_,g6⟩,hF,DA,fun O H7 s7 hO gO=>?_⟩
    refine⟨O,du es An p d,rfl,zJ.of gO,fun k hk=>by have:=pN hk;omega,?_⟩
    have n7x:=s7 _ _ n6.1
    refine⟨_,rfl,x,ts.near,dx,_,_,rfl,n7x,B.cl,B.n2,rfl,_,rfl,_,rfl,by show 2 <= sizeLine;decide,fun kt QT=>?_⟩
    have s8:=s7.new (o := .tup [.int p, .int G]) QT
    have k8:(upd H7 kt (.tup [.int p, .int G])) kt=some (.tup ((kk p G).map rD)):=ac
    generalize upd H7 kt (.tup [.int p, .int G])=H8 at s8 k8 ⊢
    have d8:=n6.2.same s8
    refine⟨de,kvs,kk p G,kt,rfl,d8,rfl,k8,by rw[sizeLine_eq];have:G * 100 <= 100 * 100:=Nat.mul_le_mul_right _ (by omega);omega,?_⟩
    have nfd:fa ≠ de:=fun z=>by
     have h1:=s8 _ _ g6
     rw[z,d8.1]at h1
     cases h1
    have MD:∀ b ks,H8 b=some (.tup ks)->(upd H8 de (jM P w de (fu kvs (kk p G) kt (.int (Yd.Ai (du es An p d) 0:Nat))))) b=some (.tup ks):=fun b ks e=>by
     rw[af (fun z=>by rw[z,d8.1]at e;cases e)];exact e
    refine⟨_,fu kvs (kk p G) kt (.int (Yd.Ai (du es An p d) 0:Nat)),fun b o hb e=>?_,⟨?_,ac,jW (F:=fun k a=>(upd H8 de (jM P w de (fu kvs (kk p G) kt (.int (Yd.Ai (du es An p d) 0:Nat))))) a=some (.tup (k.map rD))) (fun y hy=>MD _ _ (d8.2 y hy)) (MD _ _ k8)⟩,?_,uC hF.nd hjp e6,?_,rfl⟩
    ·rw[af (ag e EF)];exact s8 _ _ (o6 _ _ hb e)
    ·rw[af Fg];exact s8 _ _ n6.1
    ·have:=fq (kvs:=kvs) (k:=kk p G) (b:=kt) (v := .int (Yd.Ai (du es An p d) 0:Nat));omega
    ·rw[af nfd];exact s8 _ _ g6
   ·rintro σ H6 ⟨a4,kvs,o6,n6,l6,e6,g6,rfl⟩
    rw[length_map]at l6 e6
    refine⟨_,_,_,kvs,o6,n6,?_,wG hF e6,rfl⟩
    rw[Nat.succ_mul];omega
  ·rintro σ H3 ⟨a2,a3,a4,kvs,o3,n3,l3,e3,rfl⟩
   exact q H3 de kvs o3 n3 e3
noncomputable def kM (es fs:Es)(p:Nat):List Nat:=match lk fs p with
 | some d=>du es fs p d
 | none=>[]
theorem lE (es fs:Es)(p:Nat):(kM es fs p).Pairwise (· < ·):=by
 unfold kM
 split
 ·exact qP _ _ _ _
 ·exact List.Pairwise.nil
theorem rG {es fs:Es}{p k:Nat}(h:k ∈ kM es fs p):k < es.length:=by
 unfold kM at h
 split at h
 ·exact pN h
 ·cases h
theorem wt {H:Hp}{l:Addr}{xs:List V}{o:HO}(hl:H l=some (.lst xs)):∀ {vs:List V}{ps:List (Int × Int)},zX H vs ps->zX (upd H l o) vs ps:=fun zH=>by
 induction zH with
 | nil=>exact .nil
 | cons zz r ih=>obtain⟨t,e,q⟩:=zz;exact .cons ⟨t,e,by rw[af (aX q hl (by intro z;cases z))];exact q⟩ ih
theorem wr {ks:List Nat}(h:ks.Pairwise (· < ·)):mN (Yd.Ai ks 0)=ks:=ui (mE h)
noncomputable def MF (kvs:List dS):Wf:=fun p g _=>mN (vN ((bZ kvs (kk p g)).getD (.int 0)))
noncomputable def J4 (P:Program)(w:World)(ts:lD):TJ:=fun H x n wy=>∃ (dx lx de:Addr)(kvs:List dS)(es:Es),wS P w H ts x dx lx de kvs/\n8 n es kvs n/\es.length <= 100/\∀ p g k,p < n->g < n->wy p g k=MF kvs p g k
theorem oZ {n:Nat}{es:Es}{kvs:List dS}(h:n8 n es kvs n){g:Nat}(hg:g < n)(p:Nat)(k:Option Nat):∃ fs,zB n es g fs/\MF kvs p g k=kM es fs p/\(bZ kvs (kk p g)).getD (.int 0) = .int (Yd.Ai (kM es fs p) 0:Nat):=by
 obtain⟨fs,hF,hv⟩:=h.1 g hg
 have ev:(bZ kvs (kk p g)).getD (.int 0) = .int (Yd.Ai (kM es fs p) 0:Nat):=by
  rw[hv p]
  unfold rf kM
  cases lk fs p<;>rfl
 refine⟨fs,hF,?_,ev⟩
 unfold MF
 rw[ev]
 show mN (((Yd.Ai (kM es fs p) 0:Nat):Int)).toNat=_
 rw[toNat_natCast,wr (lE es fs p)]
theorem xw {n:Nat}{es:Es}{kvs:List dS}(h:n8 n es kvs n){g p z:Nat}{k:Option Nat}(hg:g < n)(hz:z ∈ MF kvs p g k):z < es.length:=by
 obtain⟨fs,_,e,_⟩:=oZ h hg p k
 rw[e]at hz
 exact rG hz
theorem J4.keep {P:Program}{w:World}{ts:lD}{H H':Hp}{x:Addr}{n:Nat}{wy:Wf}(h:J4 P w ts H x n wy)(k:Ah H H'):J4 P w ts H' x n wy:=by
 obtain⟨dx,lx,de,kvs,es,⟨h1,h2,h3⟩,h4⟩:=h
 exact⟨dx,lx,de,kvs,es,⟨k _ _ h1 True.intro,k _ _ h2 True.intro,fun y hy=>k _ _ (h3 y hy) True.intro⟩,h4⟩
noncomputable def p0:Sp:=fun vs H Q _=>∃ (n m:Nat)(c:Int),vs=[.int n, .int m, .int c]/\2 <= n/\n <= 12/\m <= 100/\∀ (D:Addr)(zK:List V)(es:Es)(H':Hp),zD H H'->H D=none->H' D=some (.lst zK)->zX H' zK (es.map zp)->OI n es->(∀ e ∈ es,e.1 ≠ e.2)->es.length=m->Q (.ref D) H'
abbrev NLn:List Str:=["_law_places", "_law_amount", "_law_cell", "_law_lanes_here", "_law_k", "_law_draw", "_law_start"]
theorem vq:am ["self", "lane"] ["self", "lane"] (ai nU):=L2.Ad
theorem tO {c:Cs}{f:Addr}{fd:FuncData}(F:Ab K "start_of" "Land.start_of" nU f fd)(L:lC K c):zE P w K mg base aG 1 f fd ["self", "lane"] (nQ c Prod.fst):=by
 refine F.ok vq (fun vs H Q E h=>?_) (fun cdv A outer s H vs Q E hr h=>?_)
 ·obtain⟨x,dx,t,n,zO,ps,k,pr,rfl,_⟩:=h
  rfl
 ·obtain⟨x,dx,t,n,zO,ps,k,pr,rfl,⟨hx,ht,hl⟩,hk,q⟩:=h
  refine⟨_,ah (ar (aw aB (aw aB (al (pv 0) rfl) (pv 1) (fun _ _=>rfl)) aj (fun _ _=>rfl))),?_⟩
  obtain⟨v,hv,u,rfl,hu⟩:=zX.FC hl hk
  refine⟨_,rfl,x,c.land,dx,_,_,rfl,hx,L.cl,L.nl,rfl,_,rfl,t,_,_,_,rfl,rfl,zM.of ht,ak hv,u,_,0,_,rfl,rfl,zM.of hu,ak (j:=0) rfl,q⟩
theorem Sf:am ["self", "place", "goal", "came"] ["self", "place", "goal", "came"] (ai sG):=L2.Ad
theorem tM {ts:lD}{f fm f1:Addr}{fd dm d1:FuncData}(F:Ab K "ways" "Nearer.ways" sG f fd)(B:Sd K mg ts f1 d1)(mm:mg "members" = some (.ref fm))(km:keepIn K (.ref fm)=true)(bm:Binds K dm ["some"] [])
  (Gm:zE P w K mg base aG 2 fm dm ["some"] si):zE P w K mg base aG 3 f fd ["self", "place", "goal", "came"] (eE (J4 P w ts)):=by
 refine F.ok Sf (fun vs H Q E h=>?_) (fun cdv A outer s H vs Q E hr h=>?_)
 ·obtain⟨x,n,wy,p,g,k,rfl,_⟩:=h
  rfl
 ·obtain⟨x,n,wy,p,g,k,rfl,⟨dx,lx,de,kvs,es,hx,hE,DG,hwy⟩,hp,hg,q⟩:=h
  rw[hwy p g k hp hg]at q
  have hu:=k9 hr
  refine⟨_,ah (ar (az Gm hr rfl mm km bm .nil aq (aa (lZ hu (al (pv 0) rfl) (aa (bH (aa (pv 1) (aa (pv 2) ad))) (aa aj ad))) ad))),?_⟩
  refine⟨_,rfl,x,ts.near,dx,_,_,rfl,hx.1,B.cl,B.n2,rfl,de,kvs,rfl,hx.2,?_⟩
  refine⟨_,rfl,_,rfl,by show 2 <= sizeLine;decide,fun t ht=>?_⟩
  have s1:zD H (upd H t (.tup [.int p, .int g])):=(zD.refl H).new ht
  refine⟨_,_,bZ kvs (kk p g),rfl,⟨kvs,kk p g,t,hx.2.same s1,rfl,ac,rfl⟩,?_⟩
  obtain⟨fs,hF,ew,ev⟩:=oZ hE hg p k
  rw[ev]
  refine⟨_,rfl,lt_of_lt_of_le (sA fun k hk=>rG hk) (pow_le_pow_right (by decide) (by omega)),fun D hD=>?_⟩
  exact q D _ (s1.new hD) (s1.free hD) (by rw[ac,mE (lE es fs p),ew])
theorem ES:am NLn ["_law_places", "_law_amount", "_law_cell"] (ai oa):=L2.Ad
theorem tW {f fm:Addr}{fd dm:FuncData}(F:Ab K "_law_lanes" "_law_lanes" oa f fd)(T:eW mg)(mm:mg "_law_mixed" = some (.ref fm))(km:keepIn K (.ref fm)=true)(bm:Binds K dm ["_law_cell", "_law_k"] [])
  (Gm:zE P w K mg base aG 1 fm dm ["_law_cell", "_law_k"] lJ):zE P w K mg base aG 2 f fd ["_law_places", "_law_amount", "_law_cell"] p0:=by
 refine F.ok ES (fun vs H Q E h=>?_) (fun cdv A outer s H vs Q E hr h=>?_)
 ·obtain⟨n,m,c,rfl,_⟩:=h
  rfl
 ·obtain⟨n,m,c,rfl,Dt,Rg,hm,q⟩:=h
  refine⟨_,ae (ay (i:=3) ES.nd rfl (Or.inl rfl) (aO ad))
   (ae (b5 PassesOwn.never rfl (aM rfl T.range (aa (pv 1) ad)) (au (i:=4) ES.nd rfl (Or.inl rfl))
    (ae (ay (i:=5) ES.nd rfl (Or.inl rfl) (az Gm hr rfl mm km bm .nil aq (aa (pv 2) (aa (pv 4) ad))))
    (ae (ay (i:=6) ES.nd rfl (Or.inl rfl) (aE bR (pv 5) (pv 0)))
    (ah (aS (cr plainAttrs_list PySem.F.slot_list_append PySem.F.type_list_append bG (pv 3) (aa (bH (aa (pv 6) (aa (aE bR (aE bB (aE bB (pv 6) aj) (aE bR (aE dJ (pv 5) aj) (aE dq (pv 0) aj))) (pv 0)) ad))) ad)))))))
   (ah (ar (pv 3)))),?_⟩
  have two:(2:Nat) <= sizeLine:=by decide
  refine⟨zero_le _,fun D hD=>?_⟩
  have s0:=(zD.refl H).new (o := .lst []) hD
  refine⟨_,rfl,(m:Int),rfl,by omega,by omega,?_⟩
  rw[toNat_natCast]
  refine aW (n:=m) (fun i σ H2=>∃ (a3 a4 a5:Option V)(zK:List V)(es:Es),zD H H2/\H2 D=some (.lst zK)/\zX H2 zK (es.map zp)/\OI n es/\(∀ e ∈ es,e.1 ≠ e.2)/\es.length=i/\σ=[some (.int n),some (.int m),some (.int c),some (.ref D),a3,a4,a5])
   ⟨none,none,none,[],[],s0,ac, .nil,(fun e he=>by cases he),(fun e he=>by cases he),rfl,rfl⟩ ?_ ?_
  ·rintro i σ H2 hi ⟨a3,a4,a5,zK,es,s2,gD,OL,BO,Af,hl,rfl⟩
   have OM:(0:Int) < (n:Int):=by omega
   have Ks:(0:Int) < (n:Int) - 1:=by omega
   rw[zero_add]
   refine⟨_,rfl,_,rfl,c,i,rfl,by omega,fun d hd=>?_⟩
   refine⟨_,rfl,_,rfl,_,_,rfl,rfl,OM,?_⟩
   refine⟨_,rfl, .inl ⟨rfl,_,zJ.of gD⟩,_,rfl,_,rfl,_,_,rfl,rfl,_,rfl,_,_,rfl,rfl,⟨by decide,by decide⟩,_,rfl,_,_,rfl,rfl,_,_,rfl,rfl,Ks,_,_,rfl,rfl,_,rfl,_,_,rfl,rfl,OM,two,fun t1 h1=>?_⟩
   dsimp only at h1 ⊢
   have e1:=emod_nonneg d (show (n:Int) ≠ 0 by omega)
   have e2:=emod_lt_of_pos d OM
   have e3:=emod_nonneg (d / 16) (show (n:Int) - 1 ≠ 0 by omega)
   have e4:=emod_lt_of_pos (d / 16) Ks
   generalize d % (n:Int)=st at e1 e2 h1 ⊢
   generalize d / 16 % ((n:Int) - 1)=Dd at e3 e4 h1 ⊢
   have e5:=emod_nonneg (st + 1 + Dd) (show (n:Int) ≠ 0 by omega)
   have e6:=emod_lt_of_pos (st + 1 + Dd) OM
   have e7:(st + 1 + Dd) % (n:Int) ≠ st:=by
    intro z
    rcases Int.lt_or_le (st + 1 + Dd) (n:Int) with h | h
    ·rw[Int.emod_eq_of_lt (by omega) h]at z;omega
    ·have:(st + 1 + Dd) % (n:Int)=st + 1 + Dd - n:=by
      rw[show st + 1 + Dd = (st + 1 + Dd - n) + n by omega,Int.add_emod_right,Int.emod_eq_of_lt (by omega) (by omega)];omega
     omega
   generalize (st + 1 + Dd) % (n:Int)=en at e5 e6 e7 h1 ⊢
   obtain⟨s',Jm,Sg⟩:∃ s':Nat,st=(s':Int)/\s' < n:=⟨st.toNat,by omega,by omega⟩
   obtain⟨n',BV,Sh⟩:∃ n':Nat,en=(n':Int)/\n' < n:=⟨en.toNat,by omega,by omega⟩
   subst Jm BV
   have u1:=(zD.refl H2).new (o := .tup [.int (s':Int), .int (n':Int)]) h1
   have v1:(upd H2 t1 (.tup [.int (s':Int), .int (n':Int)])) t1=some (.tup [.int (s':Int), .int (n':Int)]):=ac
   have nT:t1 ≠ D:=Ne.symm (ag gD h1)
   generalize upd H2 t1 (.tup [.int (s':Int), .int (n':Int)])=H3 at u1 v1 ⊢
   have W7:=u1 _ _ gD
   have D9:zK.length=es.length:=by rw[Paired.length OL,length_map]
   refine⟨D,zK,_,rfl,rfl,W7,by rw[sizeLine_eq];omega,?_⟩
   refine⟨_,_,_,zK ++ [.ref t1],es ++ [(s',n')],fun b o e=>by rw[af (ag e hD)];exact u1 _ _ (s2 _ _ e),ac,?_,fun e he=>?_,fun e he=>?_,by rw[length_append,hl];rfl,rfl⟩
   ·rw[map_append]
    exact zX.snoc (p:=zp (s',n')) ⟨t1,rfl,by rw[af nT];exact v1⟩ (wt W7 (zX.same u1 OL))
   ·rcases mem_append.mp he with he | he
    ·exact BO e he
    ·rw[mem_singleton.mp he];exact⟨Sg,Sh⟩
   ·rcases mem_append.mp he with he | he
    ·exact Af e he
    ·rw[mem_singleton.mp he];show s' ≠ n';omega
  ·rintro σ H2 ⟨a3,a4,a5,zK,es,s2,gD,OL,BO,Af,hl,rfl⟩
   exact⟨_,rfl,q D zK es H2 s2 hD gD OL BO Af hl⟩
noncomputable def vb:Option Nat->Nat
 | none=>0
 | some k=>k + 1
noncomputable def sX (r:Rw):Nat:=(r.p.toNat * 100 + r.g.toNat) * 100 + vb r.c
theorem yV {a b:Rw}(h:aY a=aY b):sX a=sX b:=by
 unfold aY at h
 injection h with h1 h2
 injection h2 with h2 h3
 injection h3 with h3 _
 injection h1 with h1
 injection h2 with h2
 have h4:a.c=b.c:=by
  cases ha:a.c with
  | none=>cases hb:b.c with
   | none=>rfl
   | some k=>rw[ha,hb]at h3;cases h3
  | some k=>cases hb:b.c with
   | none=>rw[ha,hb]at h3;cases h3
   | some k' =>
    rw[ha,hb]at h3
    have h3:some (k:Int)=some (k':Int):=h3
    injection h3 with h3
    rw[show k=k' by omega]
 unfold sX
 rw[h1,h2,h4]
structure DS (n:Nat)(ps:List (Int × Int))(B:Nat)(rs:List Rw):Prop where
 sort:(rs.map sX).Pairwise (· < ·)
 low:∀ r ∈ rs,sX r < B
 fit:∀ r ∈ rs,fits n ps r=true
 Az:∀ r ∈ rs,r.s.length <= 40
theorem DS.up {n:Nat}{ps:List (Int × Int)}{B B':Nat}{rs:List Rw}(h:DS n ps B rs)(l:B <= B'):DS n ps B' rs:=⟨h.sort,fun r hr=>lt_of_lt_of_le (h.low r hr) l,h.fit,h.Az⟩
theorem DS.snoc {n:Nat}{ps:List (Int × Int)}{B:Nat}{rs:List Rw}{r:Rw}(h:DS n ps B rs)(hr:B <= sX r)(hf:fits n ps r=true)(hl:r.s.length <= 40):DS n ps (sX r + 1) (rs ++ [r]):=by
 refine⟨?_,fun x hx=>?_,fun x hx=>?_,fun x hx=>?_⟩
 ·rw[map_append,List.pairwise_append]
  refine⟨h.sort,by simp,fun x hx y hy=>?_⟩
  obtain⟨r',G0,rfl⟩:=mem_map.mp hx
  have hy:y=sX r:=by simpa using hy
  rw[hy]
  exact lt_of_lt_of_le (h.low r' G0) hr
 ·rcases mem_append.mp hx with hx | hx
  ·have:=h.low x hx;omega
  ·rw[mem_singleton.mp hx];omega
 ·rcases mem_append.mp hx with hx | hx
  ·exact h.fit x hx
  ·rw[mem_singleton.mp hx];exact hf
 ·rcases mem_append.mp hx with hx | hx
  ·exact h.Az x hx
  ·rw[mem_singleton.mp hx];exact hl
theorem DS.good {n:Nat}{ps:List (Int × Int)}{B:Nat}{rs:List Rw}(h:DS n ps B rs):dC n ps rs rs.length=none:=by
 refine gk fun k hk=>?_
 have hr:rs[k]? = some rs[k]:=List.getElem?_eq_getElem hk
 have Oy:rs.getD k ⟨0,0,none,[]⟩ = rs[k]:=by rw[getD_eq_getElem?_getD,hr];rfl
 rw[Oy,im,h.fit _ (getElem_mem hk)]
 have Si:((rs.take k).any fun a=>decide (aY a=aY rs[k]))=false:=by
  rw[List.any_eq_false]
  intro a ha hd
  have e:=yV (of_decide_eq_true hd)
  obtain⟨j,hj,ea⟩:=List.mem_take_iff_getElem.mp ha
  have Fz:j < k:=by omega
  have:=pairwise_iff_getElem.mp h.sort j k (by rw[length_map];omega) (by rw[length_map];exact hk) Fz
  rw[List.getElem_map,List.getElem_map,ea]at this
  omega
 rw[Si];rfl
theorem kA {n:Int}{ps:List (Int × Int)}{r:Rw}(h:fits n ps r=true):∀ k ∈ r.s,k < ps.length:=by
 unfold fits at h
 simp only[Bool.and_eq_true,all_eq_true,decide_eq_true_eq]at h
 intro k hk
 exact mem_range.mp (mem_filter.mp (h.2.2 k hk)).1
noncomputable def lF (rs:List Rw)(k:gp):Nat:=match dZ rs k with
 | some r=>Yd.Ai r.s 0
 | none=>0
theorem mI {rs:List Rw}{k:gp}{r:Rw}(h:dZ rs k=some r):r ∈ rs:=mem_reverse.mp (List.mem_of_find?_eq_some h)
noncomputable def J5 (rs:List Rw):Wf:=fun p g k=>mN (lF rs (aY ⟨(p:Int),(g:Int),k,[]⟩))
noncomputable def Cp (P:Program)(w:World)(ts:Ts):TJ:=fun H x n wy=>∃ (dx de:Addr)(lv:V)(kvs:List dS)(rs:List Rw),H x=some (.ins ts.told dx [("land",lv),("entries", .ref de)])/\Au P w H de kvs/\(∀ k,bZ kvs k=(dZ rs k).map sD)/\(∀ r ∈ rs,∀ k ∈ r.s,k < 40)/\wy=J5 rs
theorem Cp.keep {P:Program}{w:World}{ts:Ts}{H H':Hp}{x:Addr}{n:Nat}{wy:Wf}(h:Cp P w ts H x n wy)(k:Ah H H'):Cp P w ts H' x n wy:=by
 obtain⟨dx,de,lv,kvs,rs,h1,⟨h2,h3⟩,h4⟩:=h
 exact⟨dx,de,lv,kvs,rs,k _ _ h1 True.intro,⟨k _ _ h2 True.intro,fun y hy=>k _ _ (h3 y hy) True.intro⟩,h4⟩
theorem yR {ks:List Nat}{z:Nat}(h:z ∈ mN (Yd.Ai ks 0)):z ∈ ks:=by
 have:=(mem_filter.mp h).2
 have h2:(Yd.Ai ks 0).testBit z=true:=this
 rw[qq,decide_eq_true_eq]at h2
 obtain⟨n,hn,e⟩:=AN.mp h2
 have:n=z:=by omega
 exact this ▸ hn
theorem mG (m:Nat):(mN m).Nodup:=List.nodup_range.filter _
theorem rE {rs:List Rw}{n:Nat}(h:∀ r ∈ rs,∀ k ∈ r.s,k < n)(p g:Nat)(k:Option Nat):(∀ z ∈ J5 rs p g k,z < n)/\(J5 rs p g k).length <= n:=by
 have h1:∀ z ∈ J5 rs p g k,z < n:=fun z hz=>by
  unfold J5 lF at hz
  cases hl:dZ rs (aY ⟨(p:Int),(g:Int),k,[]⟩) with
  | none=>rw[hl]at hz;exact absurd hz (by show z ∉ mN 0;intro h;cases h)
  | some r=>rw[hl]at hz;exact h r (mI hl) z (yR hz)
 exact⟨h1,ci n _ (mG _) h1⟩
theorem nH {ts:Ts}{f:Addr}{fd:FuncData}(G:zE P w K mg base aG 3 f fd ["self", "place", "goal", "came"] (pf P w ts)):zE P w K mg base aG 3 f fd ["self", "place", "goal", "came"] (eE (Cp P w ts)) :=
 G.imp fun vs H Q E zH=>by
 obtain⟨x,n,wy,p,g,k,e,⟨dx,de,lv,kvs,rs,h1,h2,h3,h4,h5⟩,hp,hg,q⟩:=zH
 exact⟨x,dx,de,lv,kvs,⟨(p:Int),(g:Int),k,[]⟩,lF rs (aY ⟨(p:Int),(g:Int),k,[]⟩),e,h1,h2,by
  rw[h3]
  unfold lF
  cases dZ rs (aY ⟨(p:Int),(g:Int),k,[]⟩)<;>rfl,by
  unfold lF
  cases hl:dZ rs (aY ⟨(p:Int),(g:Int),k,[]⟩) with
  | none=>exact Nat.two_pow_pos _
  | some r=>exact lt_of_lt_of_le (sA (h4 r (mI hl))) (pow_le_pow_right (by decide) (by decide)),fun H' D s' hD=>q D _ (s'.new hD) (s'.free hD) (by rw[ac,h5];rfl)⟩
theorem qe {sel:Int × Int->Int}{ps:List (Int × Int)}{pl:Int}{g:TG}{tt:TT}{te:TE}{σ0:St}{H:Hp}{Q:VK}(hn:ps.length < sizeLine)
  (hs:∀ (i:Nat)(acc:List V)(N:List V->Hp->Prop)(pr:Int × Int),ps[i]? = some pr->N (if decide (sel pr=pl)=true then acc ++ [V.int i] else acc) H->g (.int i) σ0 H fun σ2 H2=>tt σ2 H2 fun b H3=>if b=true then te σ2 H3 fun y H4=>N (acc ++ [y]) H4 else N acc H3)
  (hq:∀ D,H D=none->Q (.ref D) (upd H D (.lst (bQ (eT sel ps pl))))):eB (vc 0 ps.length) g tt te σ0 Q H:=by
 refine mY (lo:=0) (fun k=>decide (sel (ps.getD k (0,0))=pl)) (fun k=>V.int k) hn (fun i acc N hi h=>?_) hq
 obtain⟨pr,hpr⟩:∃ pr,ps[i]? = some pr:=⟨ps[i],List.getElem?_eq_getElem hi⟩
 have eg:ps.getD i (0,0)=pr:=by rw[getD_eq_getElem?_getD,hpr];rfl
 rw[zero_add]
 rw[eg]at h
 exact hs i acc N pr hpr h
noncomputable def Sj (x:Addr)(H:Hp)(v:V)(r:Rw):Prop:=∃ t l,v = .ref t/\Ii H t l r/\l ≠ x
abbrev Cb (x:Addr)(H:Hp):List V->List Rw->Prop:=Paired (Sj x H)
theorem Cb.imp {x:Addr}{H H':Hp}{G:V->Rw->Prop}(h:∀ v r,Sj x H v r->G v r):∀ {vs:List V}{rs:List Rw},Cb x H vs rs->Paired G vs rs:=fun zH=>by
 induction zH with
 | nil=>exact .nil
 | cons z r ih=>exact .cons (h _ _ z) ih
theorem Cb.rws {x:Addr}{H:Hp}{vs:List V}{rs:List Rw}(h:Cb x H vs rs):D8 H vs rs:=Cb.imp (H':=H) (fun _ _ ⟨t,l,e,z,_⟩=>⟨t,l,e,z⟩) h
theorem Cb.same {x:Addr}{H H':Hp}(s:zD H H'){vs:List V}{rs:List Rw}(h:Cb x H vs rs):Cb x H' vs rs:=Cb.imp (H':=H) (fun _ _ ⟨t,l,e,z,n⟩=>⟨t,l,e,z.same s,n⟩) h
theorem Cb.off {x:Addr}{H:Hp}{xs:List V}{o:HO}(hx:H x=some (.lst xs)){vs:List V}{rs:List Rw}(h:Cb x H vs rs):Cb x (upd H x o) vs rs :=
 Cb.imp (H':=H) (fun _ _ zH=>by obtain⟨t,l,e,z,n⟩:=zH;exact⟨t,l,e,⟨by rw[af (aX z.1 hx (by intro z;cases z))];exact z.1,by rw[af n];exact z.2⟩,n⟩) h
theorem Cb.snoc {x:Addr}{H:Hp}{v:V}{r:Rw}(h:Sj x H v r):∀ {vs:List V}{rs:List Rw},Cb x H vs rs->Cb x H (vs ++ [v]) (rs ++ [r]):=fun zH=>by
 induction zH with
 | nil=>exact .cons h .nil
 | cons z t ih=>exact .cons z ih
theorem Sk (m k:Nat):decide (V.int (Builtin.bitAnd ((m:Int) / 2 ^ (k:Int).toNat) 1)=V.int 1)=m.testBit k:=by
 rw[gH,toNat_natCast,← Yd.DI m k]
theorem rn {K:Frag}{a:Addr}{xs:List Nat}{g:TG}{tt:TT}{te:TE}{σ0:St}{H:Hp}{Q:VK}(q:Nat->Bool)(hn:xs.length < sizeLine)(ha:zJ K H a (bQ xs))
  (hs:∀ (k:Nat)(acc:List V)(N:List V->Hp->Prop),k ∈ xs->N (if q k then acc ++ [V.int (k:Int)] else acc) H->g (.int (k:Int)) σ0 H fun σ2 H2=>tt σ2 H2 fun b H3=>if b=true then te σ2 H3 fun y H4=>N (acc ++ [y]) H4 else N acc H3)
  (hq:∀ D,H D=none->Q (.ref D) (upd H D (.lst (bQ (xs.filter q))))):eB (vd K a) g tt te σ0 Q H:=by
 refine fM (xs:=bQ xs) (fun v=>match v with | .int k=>q k.toNat | _=>false) (fun v=>v) (by unfold bQ;rw[length_map];exact hn) ha (fun x acc N hx h=>?_) fun D hD=>?_
 ·obtain⟨k,hk,rfl⟩:=mem_map.mp hx
  exact hs k acc N hk h
 ·have e:((bQ xs).filter (fun v=>match v with | .int k=>q k.toNat | _=>false)).map (fun v=>v)=bQ (xs.filter q):=by
   unfold bQ
   rw[List.map_id'',List.filter_map]
   ·congr 1
   ·intro _;rfl
  rw[e]
  exact hq D hD
theorem DS.len {n:Nat}{ps:List (Int × Int)}{B:Nat}{rs:List Rw}(h:DS n ps B rs):rs.length <= B:=by
 have:=ci B (rs.map sX) (h.sort.imp fun h=>ne_of_lt h) fun x hx=>by
  obtain⟨r,hr,rfl⟩:=mem_map.mp hx
  exact h.low r hr
 rw[length_map]at this
 exact this
theorem uE {n:Nat}{ps:List (Int × Int)}(h1:1 <= n)(h2:n <= 12)(h3:ps.length <= 40)(h:∀ p ∈ ps,jz n p=true):fK n ps = .good:=by
 unfold fK
 rw[decide_eq_true (show (1:Int) <= (n:Int)/\(n:Int) <= 12 by omega),if_neg (by decide),if_neg (by omega),jK h]
noncomputable def wN (s:Stmt):Scope:=match s with
 | .Assign _ (.ListComp _ _ sc _) _=>sc
 | _=>{ kind := .function,names:=[],isGenerator:=false,isCoroutine:=false }
noncomputable def qN (b:List Stmt)(i:Nat):Stmt:=b.getD i (.Pass ⟨0,0,0,0⟩)
noncomputable def oM (s:Stmt):List Stmt:=match s with
 | .For _ _ b _ _=>b
 | _=>[]
noncomputable def ScV (x:V):Prop:=(∃ i,x = .int i)∨∃ t,x = .str t/\PyData.strOk t=true
structure J6 (a:YA)(s:YS):Prop where
 lanes:s.lanes.length=a.ps.length
 lies:s.lies.length=a.n
 q0:∀ (k:Nat)(ln:bU),s.lanes[k]? = some ln->ln.qs=[]
 l0:∀ (p:Nat)(qs:List (Int × Int)),s.lies[p]? = some qs->qs=[]
 lets:∀ (m:Nat)(t:bj),s.U[m]? = some t->t.gone=0/\t.way=[]/\0 <= t.len/\t.len <= 60/\∃ x y:Nat,t.start=(x:Int)/\t.goal=(y:Int)/\x < a.n/\y < a.n
 done:∀ d ∈ s.done,∀ x ∈ d,ScV x
theorem xI {α:Type}(f:α->Nat):∀ {L:List α},(∀ (k:Nat)(x:α),L[k]? = some x->f x=0)->(L.map f).sum=0
 | [],_=>rfl
 | x :: L,h=>by
  have h1:=h 0 x rfl
  have h2:=xI f (L:=L) fun k y hy=>h (k + 1) y hy
  simp only[map_cons,sum_cons];omega
theorem wY {α:Type}(f:α->Int):∀ {L:List α},(∀ (k:Nat)(x:α),L[k]? = some x->f x=0)->(L.map f).sum=0
 | [],_=>rfl
 | x :: L,h=>by
  have h1:=h 0 x rfl
  have h2:=wY f (L:=L) fun k y hy=>h (k + 1) y hy
  simp only[map_cons,sum_cons];omega
theorem J6.jnv {a:YA}{s:YS}(h:J6 a s)(Az:s.U.length <= 60)(Dj:a.ps.length <= 40):AU a s:=by
 refine⟨h.lanes,h.lies,Az,Dj,fun m t ht=>(h.lets m t ht).2.2.2.2,fun m t ht=>?_,fun k ln hk q hq=>?_,fun m t ht=>?_,fun m t ht _=>(h.lets m t ht).2.1,fun m t ht i l hi=>?_,fun m t ht l ln hl=>?_,fun k ln hk i j z q hi=>?_,fun k ln hk m t hm=>?_,?_⟩
 ·rw[(h.lets m t ht).2.1];exact⟨(fun l hl=>by cases hl),nodup_nil⟩
 ·rw[h.q0 k ln hk]at hq;cases hq
 ·obtain⟨h1,h2,h3,h4,_⟩:=h.lets m t ht
  rw[h1];exact⟨by omega,h3,h4⟩
 ·rw[(h.lets m t ht).2.1]at hi;cases hi
 ·rw[(h.lets m t ht).2.1]at hl;cases hl
 ·rw[h.q0 k ln hk]at hi;cases hi
 ·rw[h.q0 k ln hk]at hm;cases hm
 ·have h1:jf s=0:=xI _ fun k ln hk=>by rw[h.q0 k ln hk];rfl
  have h2:iE s=0:=xI _ fun p qs hp=>by rw[h.l0 p qs hp];rfl
  have h3:gy s=0:=wY _ fun m t ht=>(h.lets m t ht).1
  rw[h1,h2,h3];rfl
theorem J6.post {a:YA}{s:YS}(h:J6 a s){x y:Nat}{l u:Int}(hx:x < a.n)(hy:y < a.n)(hl:0 <= l/\l <= 60):J6 a (gc s x y l u):=by
 refine⟨h.lanes,h.lies,h.q0,h.l0,fun m t ht=>?_,fun d hd z hz=>?_⟩
 ·have ht:(s.U ++ [⟨(x:Int),(y:Int),l,u,0,[]⟩])[m]? = some t:=ht
  by_cases hm:m < s.U.length
  ·rw[List.getElem?_append_left hm]at ht;exact h.lets m t ht
  ·have h3:=(List.getElem?_eq_some_iff.mp ht).1
   rw[length_append,length_singleton]at h3
   have em:m=s.U.length:=by omega
   subst em
   rw[List.getElem?_concat_length]at ht
   cases ht
   exact⟨rfl,rfl,hl.1,hl.2,x,y,rfl,rfl,hx,hy⟩
 ·rcases mem_append.mp hd with hd | hd
  ·exact h.done d hd z hz
  ·rw[mem_singleton.mp hd]at hz
   simp only[mem_cons,not_mem_nil,or_false]at hz
   rcases hz with rfl | rfl | rfl | rfl | rfl
   ·exact .inr ⟨_,rfl,by decide +kernel⟩
   ·exact .inl ⟨_,rfl⟩
   ·exact .inl ⟨_,rfl⟩
   ·exact .inl ⟨_,rfl⟩
   ·exact .inl ⟨_,rfl⟩
theorem qF {n a b:Nat}{wy:Wf}{m:Nat}{l u:Int}(ha:a < n)(hb:b < n)(hl:1 <= l/\l <= 60)(hu:O1 (.int u)=true)(Ep:a ≠ b)(hw:wy a b none ≠ [])(hm:m < 60):lh n wy m (.int a) (.int b) (.int l) (.int u) = .good:=by
 unfold lh
 rw[show jZ (.int (a:Int)) 0 ((n:Int) - 1)=true from decide_eq_true (by omega),show jZ (.int (b:Int)) 0 ((n:Int) - 1)=true from decide_eq_true (by omega),show jZ (.int l) 1 60=true from decide_eq_true hl,hu,if_neg (by decide),if_neg (by decide),if_neg (by decide)]
 rw[if_neg (by
  rintro (h | h)
  ·have h:(a:Int)=(b:Int):=h
   omega
  ·have h:wy ((a:Int)).toNat ((b:Int)).toNat none=[]:=h
   rw[toNat_natCast,toNat_natCast]at h
   exact hw h),if_neg (by omega)]
noncomputable def tG (p:Int × Int):PyData := .tuple [.int p.1, .int p.2]
theorem uJ {K:Frag}{H:Hp}:∀ {vs:List V}{ps:List (Int × Int)},zX H vs ps->iK K H vs (ps.map tG):=fun zH=>by
 induction zH with
 | nil=>exact .nil
 | cons zz r ih=>obtain⟨t,e,h⟩:=zz;exact .cons (by subst e;exact .tup (zM.of h) (.cons (.int _) (.cons (.int _) .nil))) ih
theorem qx (ps:List (Int × Int)):BK (.list (ps.map tG)) 64:=(eZ (m:=1) fun z hz=>by
 obtain⟨p,_,rfl⟩:=mem_map.mp hz
 exact ip (m:=0) fun y hy=>by
  simp only[mem_cons,not_mem_nil,or_false]at hy
  rcases hy with rfl | rfl<;>exact cK _).le (by decide)
theorem pA (ms:List Mv):BK (.list (ms.map uk)) 64:=(eZ (m:=1) fun z hz=>by
 obtain⟨m,_,rfl⟩:=mem_map.mp hz
 exact kT m).le (by decide)
theorem DT:BK (.list []) 64:=(eZ (m:=0) fun z hz=>by cases hz).le (by decide)
theorem qa {α:Type}(f:α->PyData)(l:List α):PyData.eqv (.list (l.map f)) (.list [])=l.isEmpty:=by
 cases l<;>simp[PyData.eqv,PyData.eqvAll]
theorem W8 {K:Frag}{x y:V}{H:Hp}{Q:VK}{α:Type}{f:α->PyData}{l:List α}(h1:jS K H x (.list (l.map f)))(h2:jS K H y (.list []))(s:BK (.list (l.map f)) 64)(q:Q (.bl l.isEmpty) H):K0 K x y H Q :=
 ⟨_,_,h1,h2,s.shaped (Nat.le_refl _),DT.shaped (Nat.le_refl _),by rw[qa];exact q⟩
theorem neN {K:Frag}{x y:V}{H:Hp}{Q:VK}{α:Type}{f:α->PyData}{l:List α}(h1:jS K H x (.list (l.map f)))(h2:jS K H y (.list []))(s:BK (.list (l.map f)) 64)(q:Q (.bl (!l.isEmpty)) H):yk K x y H Q :=
 ⟨_,_,h1,h2,s.shaped (Nat.le_refl _),DT.shaped (Nat.le_refl _),by rw[qa];exact q⟩
theorem lN {ex:List Addr}{H H1 H2:Hp}(s:zD H H1)(o:zQ ex H1 H2)(hn:∀ b ∈ ex,H b=none):zD H H2:=fun b u e=>o b _ (fun z=>by rw[hn b z]at e;cases e) (s b u e)
theorem AU.done {a:YA}{s:YS}(J:AU a s)(d:List (List V)):AU a { s with done:=d }:=⟨J.lanes,J.lies,J.Az,J.Dj,J.lets,J.Ao,J.AO,J.B9,J.AG,J.last,J.head,J.first,J.Ez,J.sum⟩
theorem Sl {a:YA}{zS:List V}(h:zS.length=a.ps.length):J6 a (Y0 zS a.n):=by
 refine⟨by show(zS.map pR).length=_;rw[length_map];exact h,by show(List.replicate a.n []).length=_;rw[length_replicate],fun k ln hk=>?_,fun p qs hp=>?_,fun m t ht=>?_,fun d hd=>?_⟩
 ·have hk:(zS.map pR)[k]? = some ln:=hk
  rw[List.getElem?_map]at hk
  cases hr:zS[k]? with
  | none=>rw[hr]at hk;cases hk
  | some v=>rw[hr]at hk;cases hk;rfl
 ·have hp:(List.replicate a.n ([]:List (Int × Int)))[p]? = some qs:=hp
  exact eq_of_mem_replicate (mem_of_getElem? hp)
 ·have ht:([]:List bj)[m]? = some t:=ht
  cases ht
 ·have hd:d ∈ ([]:List (List V)):=hd
  cases hd
noncomputable def lim (xs:List Nat)(t:Nat):Nat:=if t=0 then 0 else xs.getD (t - 1) 0 + 1
theorem yS {xs:List Nat}(hs:xs.Pairwise (· < ·)){t p:Nat}(h:xs[t]? = some p):lim xs t <= p:=by
 unfold lim
 by_cases h0:t=0
 ·rw[if_pos h0];omega
 ·rw[if_neg h0]
  obtain⟨ht,e⟩:=List.getElem?_eq_some_iff.mp h
  have h1:=pairwise_iff_getElem.mp hs (t - 1) t (by omega) ht (by omega)
  rw[getD_eq_getElem?_getD,List.getElem?_eq_getElem (by omega)]
  rw[e]at h1
  exact h1
theorem uu {xs:List Nat}{t p:Nat}(h:xs[t]? = some p):lim xs (t + 1)=p + 1:=by
 unfold lim
 rw[if_neg (by omega),Nat.add_sub_cancel,getD_eq_getElem?_getD,h];rfl
theorem wu {xs:List Nat}(h:∀ p ∈ xs,p < 100):lim xs xs.length <= 100:=by
 unfold lim
 by_cases h0:xs.length=0
 ·rw[if_pos h0];omega
 ·rw[if_neg h0,getD_eq_getElem?_getD,List.getElem?_eq_getElem (show xs.length - 1 < xs.length by omega)]
  exact h _ (getElem_mem _)
end K49
namespace L2
open PySem
theorem zE.ex {P:Program}{w:World}{K:Frag}{mg:Str->Option Value}{base:Heap}{CX:oX}{k:Nat}{f:Addr}{fd:FuncData}{ps:List Str} {ι:Type} {sp:ι->Sp} (h:∀ i,zE P w K mg base CX k f fd ps (sp i)):zE P w K mg base CX k f fd ps (fun vs H Q E=>∃ i,sp i vs H Q E) :=
 ⟨fun vs H Q E zH=>by obtain⟨i,q⟩:=zH;exact(h i).len vs H Q E q,fun A outer s H args us vs Q E hr he hb hv zH=>by obtain⟨i,hs⟩:=zH;exact(h i).run A outer s H args us vs Q E hr he hb hv hs⟩
end L2
namespace K49
open PySem L2
variable {P:Program}{w:World}{K:Frag}{mg:Str->Option Value}{base:Heap}
noncomputable def bC (ps:List (Int × Int))(p:Nat):List (Option Nat):=none :: (eT Prod.snd ps (p:Int)).map some
theorem wL (ps:List (Int × Int))(p:Nat):[V.zT] ++ bQ (eT Prod.snd ps (p:Int))=(bC ps p).map cV:=by
 unfold bC bQ
 rw[map_cons,map_map];rfl
theorem oQ (ps:List (Int × Int))(p:Nat):((bC ps p).map vb).Pairwise (· < ·):=by
 unfold bC
 rw[map_cons,map_map,pairwise_cons]
 refine⟨fun x hx=>?_,?_⟩
 ·obtain⟨k,_,rfl⟩:=mem_map.mp hx
  show 0 < k + 1
  omega
 ·refine List.Pairwise.map _ (fun a b h=>?_) (List.Pairwise.filter _ pairwise_lt_range)
  show a + 1 < b + 1
  omega
theorem kG {ps:List (Int × Int)}{p:Nat}{cc:Option Nat}(h:cc ∈ bC ps p):vb cc <= ps.length/\∀ k,cc=some k->k ∈ eT Prod.snd ps (p:Int):=by
 rcases mem_cons.mp h with rfl | h
 ·exact⟨zero_le _,fun k e=>by cases e⟩
 ·obtain⟨k,hk,rfl⟩:=mem_map.mp h
  refine⟨?_,fun k' e=>by cases e;exact hk⟩
  have:=mem_range.mp (mem_filter.mp hk).1
  show k + 1 <= _
  omega
noncomputable def rY:Sp:=fun vs H Q _=>∃ (l:Addr)(zK:List V)(ps:List (Int × Int))(n:Nat)(cl:Int),vs=[.int n, .ref l, .int cl]/\H l=some (.lst zK)/\zX H zK ps/\(∀ p ∈ ps,jz n p=true)/\ps.length <= 10/\2 <= n/\n <= 5 /\
 ∀ (D:Addr)(zS:List V)(rs:List Rw)(H':Hp),zD H H'->H D=none->H' D=some (.lst zS)->D8 H' zS rs->DS n ps 50000 rs->Q (.ref D) H'
abbrev ON:List Str:=["_law_places", "_law_lanes_here", "_law_cell", "_law_rows_here", "_law_place", "_law_out", "_law_cames", "_law_goal", "_law_came", "_law_draw", "_law_ways"]
noncomputable def zt (s:Stmt):Scope:=match s with
 | .Assign _ (.BinOp _ _ (.ListComp _ _ sc _) _) _=>sc
 | _=>{ kind := .function,names:=[],isGenerator:=false,isCoroutine:=false }
noncomputable def lj:List Stmt:=oM (qN (aJ jp) 1)
noncomputable def wA:List Stmt:=oM (qN (oM (qN lj 2)) 0)
theorem Bk:am ON ["_law_places", "_law_lanes_here", "_law_cell"] (ai jp):=L2.Ad
theorem MG:AS ON (ai jp) (wN (qN lj 0)) ["_law_lanes_here", "_law_place"] [1,4]:=L2.BS
theorem MH:AS ON (ai jp) (zt (qN lj 1)) ["_law_lanes_here", "_law_place"] [1,4]:=L2.BS
theorem MI:AS ON (ai jp) (wN (qN wA 1)) ["_law_draw"] [9]:=L2.BS
theorem xp:(["_law_lane_here", "_law_lanes_here", "_law_place"]:List Str).Nodup:=by decide +kernel
theorem MJ:(["_law_lane_here", "_law_draw"]:List Str).Nodup:=by decide +kernel
theorem vQ {f fm:Addr}{fd dm:FuncData}(F:Ab K "_law_rows" "_law_rows" jp f fd)(T:eW mg)(mm:mg "_law_mixed" = some (.ref fm))(km:keepIn K (.ref fm)=true)(bm:Binds K dm ["_law_cell", "_law_k"] [])(Gm:zE P w K mg base aG 1 fm dm ["_law_cell", "_law_k"] lJ) :
  zE P w K mg base aG 2 f fd ["_law_places", "_law_lanes_here", "_law_cell"] rY:=by
 refine F.ok Bk (fun vs H Q E h=>?_) (fun cdv A outer s H vs Q E hr h=>?_)
 ·obtain⟨l,zK,ps,n,cl,rfl,_⟩:=h
  rfl
 ·obtain⟨l,zK,ps,n,cl,rfl,gl,FH,zL,Bl,Dt,MK,q⟩:=h
  refine⟨_,ae (ay (i:=3) Bk.nd rfl (Or.inl rfl) (aO ad))
   (ae (b5 PassesOwn.never rfl (aM rfl T.range (aa (pv 0) ad)) (au (i:=4) Bk.nd rfl (Or.inr rfl))
    (ae (cY (i:=5) (own:=["_law_lane_here"]) (capN:=["_law_lanes_here", "_law_place"]) (cap:=[1,4]) MG rfl Bk.nd rfl rfl (aM rfl T.range (aa (ax ao rfl T.len PySem.boot_len (aa (pv 1) ad)) ad))
     (fun C s' H' fp=>⟨au (i:=0) xp rfl (Or.inl rfl),bM (ap aZ (aw (show n0 _ (jO K) from aB) (aw (show n0 _ (qB K) from aI) (pv 1) (pv 0) (fun _ _=>rfl)) aj (fun _ _=>rfl)) (pv 2) (av _)),pv 0⟩))
    (ae (ay (i:=6) Bk.nd rfl (Or.inl rfl) (aE tK (aO (aa bV ad)) (bA (own:=["_law_lane_here"]) (capN:=["_law_lanes_here", "_law_place"]) (cap:=[1,4]) MH rfl (aM rfl T.range (aa (ax ao rfl T.len PySem.boot_len (aa (pv 1) ad)) ad))
     (fun C s' H' fp=>⟨au (i:=0) xp rfl (Or.inl rfl),bM (ap aZ (aw (show n0 _ (jO K) from aB) (aw (show n0 _ (qB K) from aI) (pv 1) (pv 0) (fun _ _=>rfl)) aj (fun _ _=>rfl)) (pv 2) (av _)),pv 0⟩))))
    (ah (b5 PassesOwn.never rfl (aM rfl T.range (aa (pv 0) ad)) (au (i:=7) Bk.nd rfl (Or.inl rfl))
     (ah (b5 PassesOwn.never rfl (bN (pv 6)) (au (i:=8) Bk.nd rfl (Or.inl rfl))
      (ae (ay (i:=9) Bk.nd rfl (Or.inr rfl) (az Gm hr rfl mm km bm .nil aq (aa (pv 2) (aa (aE bB (aE bB (ax ao rfl T.len PySem.boot_len (aa (pv 3) ad)) (aE jx aj (pv 4))) (aE jx aj (pv 7))) ad))))
      (ae (cY (i:=10) (own:=["_law_lane_here"]) (capN:=["_law_draw"]) (cap:=[9]) MI rfl Bk.nd rfl rfl (bN (pv 5))
       (fun C s' H' fp=>⟨au (i:=0) MJ rfl (Or.inl rfl),bM (PW.pt (eR (ap aZ (aE tL (aE tI (pv 1) (aE bB aj (pv 0))) aj) aj (av _)) (dL (ap aZ (aE bR (pv 1) aj) aj (av _))))),pv 0⟩))
      (ah (aL (ap gZ (pv 4) (pv 7) (av _))
       (ah (aS (cr plainAttrs_list PySem.F.slot_list_append PySem.F.type_list_append bG (pv 3) (aa (bH (aa (pv 4) (aa (pv 7) (aa (pv 8) (aa (pv 10) ad))))) ad)))) aA)))))))))))
   (ah (ar (pv 3)))),?_⟩
  have D9:zK.length=ps.length:=Paired.length FH
  refine⟨zero_le _,fun D hD=>?_⟩
  have s0:=(zD.refl H).new (o := .lst []) hD
  have g0:(upd H D (.lst [])) D=some (.lst []):=ac
  show cI 3 (V.ref D) _ _ _
  generalize upd H D (.lst [])=H0 at s0 g0 ⊢
  refine⟨_,rfl,(n:Int),rfl,by omega,by omega,?_⟩
  rw[toNat_natCast]
  refine aW (n:=n) (fun i σ H2=>∃ (a4 a5 a6 a7 a8 a9 BA:Option V)(zS:List V)(rs:List Rw),zD H H2/\H2 D=some (.lst zS)/\Cb D H2 zS rs/\DS n ps (i * 10000) rs/\σ=[some (.int n),some (.ref l),some (.int cl),some (.ref D),a4,a5,a6,a7,a8,a9,BA])
   ⟨none,none,none,none,none,none,none,[],[],s0,g0, .nil,⟨List.Pairwise.nil,(fun r hr=>by cases hr),(fun r hr=>by cases hr),(fun r hr=>by cases hr)⟩,rfl⟩ ?_ ?_
  rotate_left
  ·rintro σ H2 ⟨a4,a5,a6,a7,a8,a9,BA,zS,rs,s2,g2,hR,hO,rfl⟩
   exact⟨_,rfl,q D zS rs H2 s2 hD g2 hR.rws (hO.up (by omega))⟩
  rintro p σ H2 hpn ⟨a4,a5,a6,a7,a8,a9,BA,zS,rs,s2,g2,hR,hO,rfl⟩
  rw[zero_add]
  have pick:∀ (sel:Int × Int->Int)(j:Nat)(Hx:Hp)(sx:zD H Hx)(σ0:St),True:=fun _ _ _ _ _=>True.intro
  refine⟨_,rfl,l,_,rfl, .inl (zJ.of (s2 _ _ gl)),(zK.length:Int),rfl,by omega,by omega,?_⟩
  rw[toNat_natCast,D9]
  refine qe (sel:=Prod.fst) (ps:=ps) (pl:=(p:Int)) (by rw[sizeLine_eq];omega) (fun z acc N pr hpr h=>?_) (fun Ou W9=>?_)
  ·obtain⟨v,hv,u,rfl,gu⟩:=zX.FC FH hpr
   refine⟨_,rfl,_,rfl,l,zK,_,_,rfl,rfl,zJ.of (s2 _ _ gl),ak hv,u,_,0,_,rfl,rfl,zM.of (s2 _ _ gu),ak (j:=0) rfl,_,rfl,rfl,_,rfl,?_⟩
   rw[gH]
   cases hb:decide (pr.1=(p:Int)) with
   | true =>
    have Bd:decide (Prod.fst pr=(p:Int))=true:=hb
    rw[Bd]at h
    exact aH ⟨_,rfl,h⟩
   | false =>
    have Bd:decide (Prod.fst pr=(p:Int))=false:=hb
    rw[Bd]at h
    exact aD h
  have Fn:∀ sel:Int × Int->Int,(eT sel ps (p:Int)).length <= 10:=fun sel=>by
   have:=length_filter_le (fun k=>decide (sel (ps.getD k (0,0))=(p:Int))) (List.range ps.length)
   rw[length_range]at this
   unfold eT
   omega
  have u1:=(zD.refl H2).new (o := .lst (bQ (eT Prod.fst ps (p:Int)))) W9
  have gO:(upd H2 Ou (.lst (bQ (eT Prod.fst ps (p:Int))))) Ou=some (.lst (bQ (eT Prod.fst ps (p:Int)))):=ac
  have nO:Ou ≠ D:=Ne.symm (ag g2 W9)
  show cI 5 (V.ref Ou) _ (upd H2 Ou (.lst (bQ (eT Prod.fst ps (p:Int))))) _
  generalize upd H2 Ou (.lst (bQ (eT Prod.fst ps (p:Int))))=H3 at u1 gO ⊢
  have s3:=s2.trans u1
  refine⟨by show 1 <= sizeLine;decide,fun o1 BZ=>?_⟩
  have u2:=(zD.refl H3).new (o := .lst [.zT]) BZ
  have Bv:(upd H3 o1 (.lst [.zT])) o1=some (.lst [.zT]):=ac
  generalize upd H3 o1 (.lst [.zT])=H4 at u2 Bv ⊢
  have s4:=s3.trans u2
  refine⟨_,rfl,l,_,rfl, .inl (zJ.of (s4 _ _ gl)),(zK.length:Int),rfl,by omega,by omega,?_⟩
  rw[toNat_natCast,D9]
  refine qe (sel:=Prod.snd) (ps:=ps) (pl:=(p:Int)) (by rw[sizeLine_eq];omega) (fun z acc N pr hpr h=>?_) (fun o2 Bs=>?_)
  ·obtain⟨v,hv,u,rfl,gu⟩:=zX.FC FH hpr
   refine⟨_,rfl,_,rfl,l,zK,_,_,rfl,rfl,zJ.of (s4 _ _ gl),ak hv,u,_,1,_,rfl,rfl,zM.of (s4 _ _ gu),ak (j:=1) rfl,_,rfl,rfl,_,rfl,?_⟩
   rw[gH]
   cases hb:decide (pr.2=(p:Int)) with
   | true =>
    have Bd:decide (Prod.snd pr=(p:Int))=true:=hb
    rw[Bd]at h
    exact aH ⟨_,rfl,h⟩
   | false =>
    have Bd:decide (Prod.snd pr=(p:Int))=false:=hb
    rw[Bd]at h
    exact aD h
  have u3:=(zD.refl H4).new (o := .lst (bQ (eT Prod.snd ps (p:Int)))) Bs
  have go2:(upd H4 o2 (.lst (bQ (eT Prod.snd ps (p:Int))))) o2=some (.lst (bQ (eT Prod.snd ps (p:Int)))):=ac
  have ET:(upd H4 o2 (.lst (bQ (eT Prod.snd ps (p:Int))))) o1=some (.lst [.zT]):=by rw[af (ag Bv Bs)];exact Bv
  generalize upd H4 o2 (.lst (bQ (eT Prod.snd ps (p:Int))))=H5 at u3 go2 ET ⊢
  have Ic:=Fn Prod.snd
  refine⟨o1,o2,_,_,rfl,rfl,ET,go2,by unfold bQ;rw[length_map,sizeLine_eq];simp only[length_singleton];omega,fun C hC=>?_⟩
  rw[wL]
  have u4:=(zD.refl H5).new (o := .lst ((bC ps p).map cV)) hC
  have gC:(upd H5 C (.lst ((bC ps p).map cV))) C=some (.lst ((bC ps p).map cV)):=ac
  have II:zD H2 H5:=u1.trans (u2.trans u3)
  have nC:C ≠ D:=Ne.symm (ag (II _ _ g2) hC)
  show cI 6 (V.ref C) _ (upd H5 C (.lst ((bC ps p).map cV))) _
  generalize upd H5 C (.lst ((bC ps p).map cV))=H6 at u4 gC ⊢
  have Sm:=II.trans u4
  have gO6:=u4 _ _ (u3 _ _ (u2 _ _ gO))
  refine⟨_,rfl,(n:Int),rfl,by omega,by omega,?_⟩
  rw[toNat_natCast]
  refine aW (n:=n) (fun i σ H7=>∃ (a7 a8 a9 BA:Option V)(zS:List V)(rs:List Rw),zD H H7/\H7 D=some (.lst zS)/\H7 Ou=some (.lst (bQ (eT Prod.fst ps (p:Int))))/\H7 C=some (.lst ((bC ps p).map cV))/\Cb D H7 zS rs/\DS n ps ((p * 100 + i) * 100) rs/\σ=[some (.int n),some (.ref l),some (.int cl),some (.ref D),some (.int (p:Int)),some (.ref Ou),some (.ref C),a7,a8,a9,BA])
   ⟨_,_,_,_,zS,rs,s2.trans Sm,Sm _ _ g2,gO6,gC,hR.same Sm,hO.up (by omega),rfl⟩ ?_ ?_
  rotate_left
  ·rintro σ H7 ⟨a7,a8,a9,BA,zS,rs,s7,g7,_,_,Sn,So,rfl⟩
   exact⟨_,_,_,_,_,_,_,zS,rs,s7,g7,Sn,So.up (by omega),rfl⟩
  rintro i σ H7 hi ⟨a7,a8,a9,BA,zS,rs,s7,g7,gO7,WA,Sn,So,rfl⟩
  rw[zero_add]
  refine⟨_,rfl,C,rfl,⟨_,zJ.of WA⟩,?_⟩
  have Dg:((bC ps p).map cV).length=(bC ps p).length:=length_map ..
  refine jD (K:=K) (a:=C) (xs:=(bC ps p).map cV) (fun j σ Hb=>∃ (a8 a9 BA:Option V)(zS:List V)(rs:List Rw),zD H Hb/\Hb D=some (.lst zS)/\Hb Ou=some (.lst (bQ (eT Prod.fst ps (p:Int))))/\Hb C=some (.lst ((bC ps p).map cV))/\Cb D Hb zS rs/\DS n ps ((p * 100 + i) * 100 + lim ((bC ps p).map vb) j) rs/\σ=[some (.int n),some (.ref l),some (.int cl),some (.ref D),some (.int (p:Int)),some (.ref Ou),some (.ref C),some (.int (i:Int)),a8,a9,BA])
   ⟨_,_,_,zS,rs,s7,g7,gO7,WA,Sn,So.up (by omega),rfl⟩ (fun j σ Hb _ zH=>by obtain⟨_,_,_,_,_,_,_,_,g,_⟩:=zH;exact zJ.of g) ?_ ?_
  rotate_left
  ·rintro σ Hb ⟨a8,a9,BA,zS,rs,sb,gb,IJ,OO,ML,J7,rfl⟩
   rw[Dg,← length_map (f:=vb) (as:=bC ps p)]at J7
   have:=wu (xs:=(bC ps p).map vb) fun x hx=>by
    obtain⟨cc,NR,rfl⟩:=mem_map.mp hx
    have:=(kG NR).1
    omega
   exact⟨_,_,_,_,zS,rs,sb,gb,IJ,OO,ML,J7.up (by omega),rfl⟩
  rintro j v σ Hb hv ⟨a8,a9,BA,zS,rs,sb,gb,IJ,OO,ML,J7,rfl⟩
  obtain⟨cc,hcj,rfl⟩:∃ cc,(bC ps p)[j]? = some cc/\cV cc=v:=by
   rw[List.getElem?_map]at hv
   cases hx:(bC ps p)[j]? with
   | none=>rw[hx]at hv;cases hv
   | some cc=>rw[hx]at hv;exact⟨cc,rfl,Option.some.inj hv⟩
  obtain⟨hcl2,Sr⟩:=kG (mem_of_getElem? hcj)
  have MN:((bC ps p).map vb)[j]? = some (vb cc):=by rw[List.getElem?_map,hcj];rfl
  have hlp:=yS (oQ ps p) MN
  have hls:=uu MN
  have CV:zS.length=rs.length:=Paired.length ML
  have hrm:=J7.len
  refine⟨_,rfl,_,rfl,D,_,rfl, .inl (zJ.of gb),_,rfl,_,_,rfl,rfl, .inl ⟨by decide,by decide⟩,_,_,rfl,rfl,_,rfl,_,_,rfl,rfl, .inl ⟨by decide,by decide⟩,_,_,rfl,rfl,cl,zS.length + 100 * p + 10 * i,?_,by omega,fun d hd=>?_⟩
  ·show [V.int cl,V.int (((zS.length:Nat):Int) + 100 * (p:Int) + 10 * (i:Int))] ++ []=_
   rw[show((zS.length + 100 * p + 10 * i:Nat):Int)=((zS.length:Nat):Int) + 100 * (p:Int) + 10 * (i:Int) by omega];rfl
  obtain⟨m,rfl⟩:∃ m:Nat,d=(m:Int):=⟨d.toNat,by omega⟩
  generalize MO:eT Prod.fst ps (p:Int)=out at IJ ⊢
  have Gv:out.length <= 10:=by rw[← MO];exact Fn _
  refine⟨_,rfl,Ou,rfl,⟨_,zJ.of IJ⟩,?_⟩
  refine rn (fun k=>m.testBit (3 + k) || decide ((m:Int) % 3=0)) (by rw[sizeLine_eq];omega) (zJ.of IJ) (fun k acc N hk h=>?_) (fun Wa Ss=>?_)
  ·refine⟨_,rfl,_,rfl,_,_,rfl,rfl,_,_,rfl,rfl,(show (0:Int) <= 3 + (k:Int) by omega),_,_,rfl,rfl,rfl,_,rfl,?_⟩
   dsimp only
   rw[show (3:Int) + (k:Int)=((3 + k:Nat):Int) by omega,Sk]
   cases hb:m.testBit (3 + k) with
   | true=>rw[hb,Bool.true_or]at h;exact aH (aH ⟨_,rfl,h⟩)
   | false =>
    rw[hb,Bool.false_or]at h
    refine aD ⟨_,rfl,_,_,rfl,rfl,(by show (0:Int) < 3;decide),rfl,_,rfl,?_⟩
    rw[gH]
    cases K8:decide ((m:Int) % 3=0) with
    | true=>rw[K8]at h;exact aH ⟨_,rfl,h⟩
    | false=>rw[K8]at h;exact aD h
  generalize WB:(out.filter fun k=>m.testBit (3 + k) || decide ((m:Int) % 3=0))=us at Ss ⊢
  have husl:us.length <= 10:=by rw[← WB];exact le_trans (length_filter_le _ _) Gv
  have Sv:∀ k ∈ us,k ∈ out:=fun k hk=>by rw[← WB]at hk;exact(mem_filter.mp hk).1
  have u5:=(zD.refl Hb).new (o := .lst (bQ us)) Ss
  have gW:(upd Hb Wa (.lst (bQ us))) Wa=some (.lst (bQ us)):=ac
  have nW:Wa ≠ D:=Ne.symm (ag gb Ss)
  show cI 10 (V.ref Wa) _ (upd Hb Wa (.lst (bQ us))) _
  generalize upd Hb Wa (.lst (bQ us))=Hc at u5 gW ⊢
  refine⟨_,rfl,_,rfl,rfl,_,rfl,?_⟩
  rw[gH]
  by_cases Sw:(p:Int)=(i:Int)
  ·rw[decide_eq_true Sw]
   exact aD ⟨_,_,_,zS,rs,sb.trans u5,u5 _ _ gb,u5 _ _ IJ,u5 _ _ OO,ML.same u5,J7.up (by omega),rfl⟩
  rw[decide_eq_false Sw]
  refine aH ⟨_,rfl, .inl ⟨rfl,_,zJ.of (u5 _ _ gb)⟩,_,rfl,_,rfl,_,rfl,_,rfl,by show 4 <= sizeLine;decide,fun tt EY=>?_⟩
  have u6:=u5.new (o := .tup [.int (p:Int), .int (i:Int),cV cc, .ref Wa]) EY
  have gT:(upd Hc tt (.tup [.int (p:Int), .int (i:Int),cV cc, .ref Wa])) tt=some (.tup [.int (p:Int), .int (i:Int),cV cc, .ref Wa]):=ac
  have WC:(upd Hc tt (.tup [.int (p:Int), .int (i:Int),cV cc, .ref Wa])) Wa=some (.lst (bQ us)):=by rw[af (ag gW EY)];exact gW
  generalize upd Hc tt (.tup [.int (p:Int), .int (i:Int),cV cc, .ref Wa])=Hf at u6 gT WC ⊢
  have WD:=u6 _ _ gb
  refine⟨D,zS,_,rfl,rfl,WD,by rw[sizeLine_eq];omega,?_⟩
  have Sy:fits n ps ⟨(p:Int),(i:Int),cc,us⟩ = true:=by
   unfold fits
   have ho:jz n ((p:Int),(i:Int))=true:=by
    unfold jz
    simp only[Bool.and_eq_true,decide_eq_true_eq,Bool.not_eq_true',decide_eq_false_iff_not]
    exact⟨⟨by omega,by omega⟩,⟨by omega,by omega⟩,Sw⟩
   rw[ho,Bool.true_and]
   have hs:(us.all fun z=>decide (z ∈ eT Prod.fst ps (p:Int)))=true:=by
    rw[all_eq_true]
    exact fun z hz=>decide_eq_true (by rw[MO];exact Sv z hz)
   dsimp only
   rw[hs,Bool.and_true]
   cases cc with
   | none=>rfl
   | some k=>exact decide_eq_true (Sr k rfl)
  have WE:sX ⟨(p:Int),(i:Int),cc,us⟩ = (p * 100 + i) * 100 + vb cc:=by
   unfold sX
   show(((p:Int)).toNat * 100 + ((i:Int)).toNat) * 100 + vb cc=_
   rw[toNat_natCast,toNat_natCast]
  have hOn:=J7.snoc (r:=⟨(p:Int),(i:Int),cc,us⟩) (by rw[WE];omega) Sy (by show us.length <= 40;omega)
  refine⟨_,_,_,zS ++ [.ref tt],rs ++ [⟨(p:Int),(i:Int),cc,us⟩],fun b o e=>by rw[af (ag e hD)];exact u6 _ _ (sb _ _ e),ac,?_,?_,?_,hOn.up (by rw[WE,hls];omega),rfl⟩
  ·rw[af nO];exact u6 _ _ IJ
  ·rw[af nC];exact u6 _ _ OO
  ·have Sz:=Cb.snoc (r:=⟨(p:Int),(i:Int),cc,us⟩) ⟨tt,Wa,rfl,⟨gT,WC⟩,nW⟩ (ML.same u6)
   exact Cb.off WD Sz
noncomputable def TC (ts:Ts)(tn:lD):Bool->Addr
 | true=>tn.near
 | false=>ts.told
noncomputable def JJ (P:Program)(w:World)(ts:Ts)(tn:lD):Bool->TJ
 | true=>J4 P w tn
 | false=>Cp P w ts
noncomputable def okE (n:Nat)(e:Nat × Nat):jz n (zp e)=true↔(e.1 < n/\e.2 < n/\e.1 ≠ e.2):=by
 unfold jz zp
 simp only[Bool.and_eq_true,decide_eq_true_eq,Bool.not_eq_true',decide_eq_false_iff_not]
 constructor
 ·rintro⟨⟨h1,h2⟩,⟨h3,h4⟩,h5⟩;exact⟨by omega,by omega,fun z=>h5 (by rw[z])⟩
 ·rintro⟨h1,h2,h3⟩;exact⟨⟨by omega,by omega⟩,⟨by omega,by omega⟩,by omega⟩
noncomputable def xv (n:Nat)(kvs:List dS):Wf:=fun p g k=>if p < n/\g < n then MF kvs p g k else []
theorem rF {n:Nat}{es:Es}{kvs:List dS}(h:n8 n es kvs n)(p g:Nat)(k:Option Nat):(∀ z ∈ xv n kvs p g k,z < es.length)/\(xv n kvs p g k).length <= es.length:=by
 have h1:∀ z ∈ xv n kvs p g k,z < es.length:=fun z hz=>by
  unfold xv at hz
  by_cases J8:p < n/\g < n
  ·rw[if_pos J8]at hz;exact xw h J8.2 hz
  ·rw[if_neg J8]at hz;cases hz
 refine⟨h1,ci _ _ ?_ h1⟩
 unfold xv
 by_cases J8:p < n/\g < n
 ·rw[if_pos J8];exact mG _
 ·rw[if_neg J8];exact nodup_nil
noncomputable def so (P:Program)(w:World)(K:Frag)(c:Cs)(ts:Ts)(tn:lD):Sp:=fun vs H Q _=>∃ (sc:Addr)(ns:List Int),vs=[.ref sc]/\zJ K H sc (ns.map V.int) /\
 ∀ (b:Bool)(x lx Ac lt:Addr)(n:Nat)(zO:List V)(ps:List (Int × Int))(wy:Wf)(H':Hp),zD H H'->H x=none->Ba c (TC ts tn b) (JJ P w ts tn b) H' x lx Ac lt n zO ps wy->(∀ p g k,(wy p g k).length <= 400)->(∀ p ∈ ps,jz n p=true)->ps.length <= 8->2 <= n->n <= 5->Q (.ref x) H'
structure TbM (P:Program)(w:World)(K:Frag)(mg:Str->Option Value)(base:Heap)(c:Cs)(ts:Ts)(tn:lD)(fc fl fi fn ft fr:Addr)(dc dl di dn dt dr:FuncData):Prop where
 mc:mg "_law_cell_at" = some (.ref fc)
 kc:keepIn K (.ref fc)=true
 bc:Binds K dc ["_law_script", "_law_k"] []
 Gc:zE P w K mg base aG 1 fc dc ["_law_script", "_law_k"] (nP K)
 ml:mg "_law_lanes" = some (.ref fl)
 kl:keepIn K (.ref fl)=true
 bl:Binds K dl ["_law_places", "_law_amount", "_law_cell"] []
 Gl:zE P w K mg base aG 2 fl dl ["_law_places", "_law_amount", "_law_cell"] p0
 mi:mg "Land" = some (.ref c.land)
 Mi:Mk K c.land fi
 bi:Binds K di ["self", "places", "lanes"] []
 Gi:zE P w K mg base (eP P w) 4 fi di ["self", "places", "lanes"] (su K c)
 mn:mg "Nearer" = some (.ref tn.near)
 Mn:Mk K tn.near fn
 bn:Binds K dn ["self", "land"] []
 Gn:zE P w K mg base aG 3 fn dn ["self", "land"] (sg P w c tn)
 mt:mg "Told" = some (.ref ts.told)
 Mt:Mk K ts.told ft
 bt:Binds K dt ["self", "land", "rows"] []
 Gt:zE P w K mg base (eP P w) 5 ft dt ["self", "land", "rows"] (rU P w K c ts)
 mr:mg "_law_rows" = some (.ref fr)
 kr:keepIn K (.ref fr)=true
 br:Binds K dr ["_law_places", "_law_lanes_here", "_law_cell"] []
 Gr:zE P w K mg base aG 2 fr dr ["_law_places", "_law_lanes_here", "_law_cell"] rY
noncomputable def iQ (a:YA)(ps:List (Int × Int)):Prop:=∀ p ∈ ps,∃ x y:Nat,p=((x:Int),(y:Int))/\x < a.n/\y < a.n/\x ≠ y/\a.wy x y none ≠ []
noncomputable def p8 (c:Cs)(C:Addr)(J:TJ):Sp:=fun vs H Q _=>∃ (a:YA),vs=[.ref a.tb]/\Mf c C J H a/\∀ (D:Addr)(Ar:List V)(bs:List (Int × Int))(H':Hp),zD H H'->H D=none->H' D=some (.lst Ar)->zX H' Ar bs->iQ a bs->bs.length <= 1000->Q (.ref D) H'
noncomputable def lK (c:Cs)(C:Addr)(J:TJ):Sp:=fun vs H Q _=>∃ (a:YA)(cl:Int),vs=[.ref a.tb, .int cl]/\Mf c C J H a/\∀ (D:Addr)(rs:List Int)(H':Hp),zD H H'->H D=none->H' D=some (.lst (rs.map V.int))->rs.length=a.ps.length->(∀ r ∈ rs,1 <= r/\r <= 60)->Q (.ref D) H'
theorem FP:am ["_law_script", "_law_places", "_law_lanes_here", "_law_land"] ["_law_script"] (ai sT):=L2.Ad
theorem vZ {c:Cs}{ts:Ts}{tn:lD}{f fc fl fi fn ft fr:Addr}{fd dc dl di dn dt dr:FuncData}(F:Ab K "_law_table" "_law_table" sT f fd)(M:TbM P w K mg base c ts tn fc fl fi fn ft fr dc dl di dn dt dr) :
  zE P w K mg base aG 7 f fd ["_law_script"] (so P w K c ts tn):=by
 refine F.ok FP (fun vs H Q E h=>?_) (fun cdv A outer s H vs Q E hr h=>?_)
 ·obtain⟨sc,ns,rfl,_⟩:=h
  rfl
 ·obtain⟨sc,ns,rfl,hS,q⟩:=h
  have Ax:zN 1 _:=hr.mono (by decide)
  have AB:zN 2 _:=hr.mono (by decide)
  have Cz:zN 4 _:=hr.mono (by decide)
  have M4:zN 5 _:=hr.mono (by decide)
  refine⟨_,ae (ay (i:=1) FP.nd rfl (Or.inl rfl) (aE bB aj (aE bR (az M.Gc Ax rfl M.mc M.kc M.bc .nil aq (aa (pv 0) (aa aj ad))) aj)))
   (ae (ay (i:=2) FP.nd rfl (Or.inl rfl) (az M.Gl AB rfl M.ml M.kl M.bl .nil aq (aa (pv 1) (aa (aE bR (aE dJ (az M.Gc Ax rfl M.mc M.kc M.bc .nil aq (aa (pv 0) (aa aj ad))) aj) aj) (aa (az M.Gc Ax rfl M.mc M.kc M.bc .nil aq (aa (pv 0) (aa aj ad))) ad)))))
   (ae (ay (i:=3) FP.nd rfl (Or.inl rfl) (dI M.Mi M.Gi M4 rfl M.mi M.bi .nil ir (aa (pv 1) (aa (pv 2) ad))))
   (ae (aL (ap aZ (aE bR (az M.Gc Ax rfl M.mc M.kc M.bc .nil aq (aa (pv 0) (aa aj ad))) aj) aj (av _)) (ah (ar (dI M.Mn M.Gn Cz rfl M.mn M.bn .nil aq (aa (pv 3) ad)))) aA)
   (ah (ar (dI M.Mt M.Gt hr rfl M.mt M.bt .nil ir (aa (pv 3) (aa (az M.Gr AB rfl M.mr M.kr M.br .nil aq (aa (pv 1) (aa (pv 2) (aa (aE dJ (az M.Gc Ax rfl M.mc M.kc M.bc .nil aq (aa (pv 0) (aa aj ad))) aj) ad)))) ad)))))))),?_⟩
  refine⟨_,rfl,sc,ns,0,rfl,hS,fun d0=>⟨_,_,rfl,rfl,(by show (0:Int) < 4;decide),_,_,rfl,rfl,?_⟩⟩
  obtain⟨n,hn,Dt,MK⟩:∃ n:Nat,(2:Int) + d0 % 4=(n:Int)/\2 <= n/\n <= 5:=⟨(2 + d0 % 4).toNat,by omega,by omega,by omega⟩
  dsimp only
  rw[hn]
  refine⟨_,rfl,_,rfl,sc,ns,0,rfl,hS,fun d1=>⟨_,_,rfl,rfl,⟨by decide,by decide⟩,_,_,rfl,rfl,(by show (0:Int) < 9;decide),_,rfl,sc,ns,1,rfl,hS,fun d2=>?_⟩⟩
  obtain⟨m,hm,hm9⟩:∃ m:Nat,d1 / 4 % 9=(m:Int)/\m < 9:=⟨(d1 / 4 % 9).toNat,by omega,by omega⟩
  refine⟨n,m,d2,by rw[← hm];rfl,Dt,by omega,by omega,fun l zK es H1 s1 nl gl FH BO Af DG=>?_⟩
  have D9:zK.length=es.length:=by rw[Paired.length FH,length_map]
  have Bl:(es.map zp).length=es.length:=length_map ..
  have zL:∀ p ∈ es.map zp,jz n p=true:=fun p hp=>by
   obtain⟨e,he,rfl⟩:=mem_map.mp hp
   exact(okE n e).mpr ⟨(BO e he).1,(BO e he).2,Af e he⟩
  have gd:=uE (ps:=es.map zp) (n:=n) (by omega) (by omega) (by omega) zL
  refine⟨_,rfl,_,rfl,fun xl B8 nx LD GL=>?_⟩
  have s2:zD H1 (upd (upd H1 B8 (.own xl)) xl (.ins c.land B8 [])):=zD.new (zD.new (zD.refl H1) LD) (by rw[af (Ne.symm GL)];exact nx)
  refine⟨xl,B8,(n:Int),l,zK,_,rfl,ac,zJ.of (s2 _ _ gl),zX.same s2 FH,by omega,(fun h=>by rw[gd]at h;cases h),(fun k h=>by rw[gd]at h;cases h),(fun k h=>by rw[gd]at h;cases h),fun _ H3 lt zO off hL=>⟨rfl,?_⟩⟩
  have s3:zD H1 H3:=fun b o e=>off b o (ag e nx) (s2 _ _ e)
  have Ei:=s1.trans s3
  refine⟨_,rfl,sc,ns,2,rfl,Ei.seq hS,fun d3=>⟨_,_,rfl,rfl,(by show (0:Int) < 2;decide),rfl,_,rfl,?_⟩⟩
  cases hb:decide (V.int (d3 % 2)=V.int 0) with
  | true =>
   refine aH ⟨_,rfl,fun tb EU nt S0 S1=>?_⟩
   have s4:zD H3 (upd (upd H3 EU (.own tb)) tb (.ins tn.near EU [])):=zD.new (zD.new (zD.refl H3) S0) (by rw[af (Ne.symm S1)];exact nt)
   refine⟨tb,EU,xl,B8,lt,zO,n,es,rfl,ac,⟨s4 _ _ hL.1,s4 _ _ hL.2.1,zX.same s4 hL.2.2⟩,BO,by omega,by omega,fun H5 de kvs S2 WH hE=>⟨rfl,?_⟩⟩
   have s5:zD H3 H5:=fun b o e=>S2 b o (ag e nt) (s4 _ _ e)
   refine q true tb xl B8 lt n zO (es.map zp) (xv n kvs) H5 (Ei.trans s5) (Ei.free nt) ⟨⟨EU,xl,de,kvs,es,WH,hE,by omega,fun p g k hp hg=>by unfold xv;rw[if_pos ⟨hp,hg⟩]⟩,⟨EU,_,WH.1,rfl,rfl⟩,⟨s5 _ _ hL.1,s5 _ _ hL.2.1,zX.same s5 hL.2.2⟩,by omega,by omega,fun p g k _ _ z hz=>by rw[Bl];exact(rF hE p g k).1 z hz⟩ (fun p g k=>by have:=(rF hE p g k).2;omega) zL (by omega) Dt MK
  | false =>
   refine aD ⟨_,rfl,_,rfl,_,rfl,_,rfl,sc,ns,2,rfl,Ei.seq hS,fun d4=>⟨_,_,rfl,rfl,⟨by decide,by decide⟩,?_⟩⟩
   refine⟨l,zK,es.map zp,n,_,rfl,s3 _ _ gl,zX.same s3 FH,zL,by omega,Dt,MK,fun D zS rs H4 s4 hD gD hR hO=>?_⟩
   have CV:zS.length=rs.length:=Paired.length hR
   have hrm:=hO.len
   refine fun tb EU nt S0 S1=>?_
   have s6:zD H4 (upd (upd H4 EU (.own tb)) tb (.ins ts.told EU [])):=zD.new (zD.new (zD.refl H4) S0) (by rw[af (Ne.symm S1)];exact nt)
   have S3:=s4.trans s6
   refine⟨tb,EU,xl,B8,lt,D,(n:Int),zO,zS,es.map zp,rs,rfl,ac,⟨S3 _ _ hL.1,S3 _ _ hL.2.1,zX.same S3 hL.2.2⟩,zJ.of (s6 _ _ gD),D8.same s6 hR,by omega,by omega,fun r hr=>⟨fun k hk=>by have:=kA (hO.fit r hr) k hk;omega,by have:=hO.Az r hr;omega⟩,(fun i e=>by rw[hO.good]at e;cases e),fun _ H7 de kvs S4 WI hd7 hv7=>⟨rfl,?_⟩⟩
   have s7:zD H4 H7:=fun b o e=>S4 b o (ag e nt) (s6 _ _ e)
   have OP:=s4.trans s7
   have EN:∀ r ∈ rs,∀ k ∈ r.s,k < (es.map zp).length:=fun r hr=>kA (hO.fit r hr)
   refine q false tb xl B8 lt n zO (es.map zp) (J5 rs) H7 (Ei.trans OP) (Ei.free (s4.free nt)) ⟨⟨EU,de,_,kvs,rs,WI,hd7,hv7,(fun r hr k hk=>by have:=EN r hr k hk;omega),rfl⟩,⟨EU,_,WI,rfl,rfl⟩,⟨OP _ _ hL.1,OP _ _ hL.2.1,zX.same OP hL.2.2⟩,by omega,by omega,fun p g k _ _ z hz=>(rE EN p g k).1 z hz⟩ (fun p g k=>by have:=(rE EN p g k).2;omega) zL (by omega) Dt MK
abbrev NBg:List Str:=["_law_table_here", "_law_found", "_law_place", "_law_goal"]
theorem FQ:am NBg ["_law_table_here"] (ai oq):=L2.Ad
theorem ub {c:Cs}{J:TJ}{C f fw:Addr}{fd dw:FuncData}(F:Ab K "_law_begins" "_law_begins" oq f fd)(T:eW mg)(L:lC K c)(W:Wy K C fw dw J)(Gw:zE P w K mg base aG 3 fw dw ["self", "place", "goal", "came"] (eE J)) :
  zE P w K mg base aG 4 f fd ["_law_table_here"] (p8 c C J):=by
 refine F.ok FQ (fun vs H Q E h=>?_) (fun cdv A outer s H vs Q E hr h=>?_)
 ·obtain⟨a,rfl,_⟩:=h
  rfl
 ·obtain⟨a,rfl,hT,q⟩:=h
  have hu:=hr.units
  have hn:=hT.Rc
  refine⟨_,ae (ay (i:=1) FQ.nd rfl (Or.inl rfl) (aO ad))
   (ae (b5 PassesOwn.never rfl (aM rfl T.range (aa (al (al (pv 0) rfl) rfl) ad)) (au (i:=2) FQ.nd rfl (Or.inl rfl))
    (ah (b5 PassesOwn.never rfl (aM rfl T.range (aa (al (al (pv 0) rfl) rfl) ad)) (au (i:=3) FQ.nd rfl (Or.inl rfl))
     (ah (aL (fP (PW.pt (eI (ap gZ (pv 2) (pv 3) (av _)) (dG (ap (yz hu) (aC (pv 0) W.cl W.m Gw hr W.b .nil aq (aa (pv 2) (aa (pv 3) (aa bV ad)))) (aO ad) (av _))))))
      (ah (aS (cr plainAttrs_list PySem.F.slot_list_append PySem.F.type_list_append bG (pv 1) (aa (bH (aa (pv 2) (aa (pv 3) ad))) ad)))) aA)))))
   (ah (ar (pv 1)))),?_⟩
  obtain⟨C4,fst,Ca,Al,Bi⟩:=hT.i
  refine⟨zero_le _,fun D hD=>?_⟩
  have s0:=(zD.refl H).new (o := .lst []) hD
  have g0:(upd H D (.lst [])) D=some (.lst []):=ac
  show cI 1 (V.ref D) _ _ _
  generalize upd H D (.lst [])=H0 at s0 g0 ⊢
  refine⟨_,rfl,a.tb,C,C4,fst,_,rfl,s0 _ _ Ca,W.cl,W.nl,Al,a.lx,c.land,a.Ac,_,_,rfl,s0 _ _ hT.l.1,L.cl,L.np,rfl,(a.n:Int),rfl,by omega,by omega,?_⟩
  rw[toNat_natCast]
  refine aW (n:=a.n) (fun i σ H2=>∃ (a2 a3:Option V)(Ar:List V)(bs:List (Int × Int)),zD H H2/\H2 D=some (.lst Ar)/\zX H2 Ar bs/\iQ a bs/\bs.length <= i * 12/\σ=[some (.ref a.tb),some (.ref D),a2,a3])
   ⟨none,none,[],[],s0,g0, .nil,(fun p hp=>by cases hp),by show 0 <= _;omega,rfl⟩ ?_ ?_
  rotate_left
  ·rintro σ H2 ⟨a2,a3,Ar,bs,s2,g2,hL,hP,WJ,rfl⟩
   exact⟨_,rfl,q D Ar bs H2 s2 hD g2 hL hP (by omega)⟩
  rintro i σ H2 hi ⟨a2,a3,Ar,bs,s2,g2,hL,hP,WJ,rfl⟩
  rw[zero_add]
  refine⟨_,rfl,a.tb,C,C4,fst,_,rfl,s2 _ _ Ca,W.cl,W.nl,Al,a.lx,c.land,a.Ac,_,_,rfl,s2 _ _ hT.l.1,L.cl,L.np,rfl,(a.n:Int),rfl,by omega,by omega,?_⟩
  rw[toNat_natCast]
  refine aW (n:=a.n) (fun j σ H3=>∃ (a3:Option V)(Ar:List V)(bs:List (Int × Int)),zD H H3/\H3 D=some (.lst Ar)/\zX H3 Ar bs/\iQ a bs/\bs.length <= i * 12 + j/\σ=[some (.ref a.tb),some (.ref D),some (.int (i:Int)),a3])
   ⟨_,Ar,bs,s2,g2,hL,hP,by omega,rfl⟩ ?_ ?_
  rotate_left
  ·rintro σ H3 ⟨a3,Ar,bs,s3,g3,C2,OQ,hb3,rfl⟩
   exact⟨_,_,Ar,bs,s3,g3,C2,OQ,by omega,rfl⟩
  rintro j σ H3 hj ⟨a3,Ar,bs,s3,g3,C2,OQ,hb3,rfl⟩
  rw[zero_add]
  have hbl3:Ar.length=bs.length:=Paired.length C2
  refine⟨fun b H4=>zD H3 H4/\b=decide (i ≠ j/\a.wy i j none ≠ []),?_,?_⟩
  ·refine⟨_,rfl,_,rfl,rfl,_,rfl,?_⟩
   rw[bP]
   by_cases Jj:(i:Int)=(j:Int)
   ·rw[decide_eq_true Jj]
    exact aD ⟨zD.refl H3,by rw[decide_eq_false (fun z=>z.1 (by omega))]⟩
   ·rw[decide_eq_false Jj]
    refine aH ⟨_,rfl,a.tb,C4,fst,rfl,s3 _ _ Ca,Bi,_,rfl,_,rfl,a.tb,a.n,a.wy,i,j,none,rfl,(Ba.keep W hT (zD.zZ s3)).j,hi,hj,fun Dw H4 s4 hDw WK=>⟨zero_le _,fun o7 WL=>?_⟩⟩
    have s5:=s4.new (o := .lst []) WL
    have MP:(upd H4 o7 (.lst [])) Dw=some (.lst (nV (a.wy i j none))):=by rw[af (ag WK WL)];exact WK
    have g7:(upd H4 o7 (.lst [])) o7=some (.lst (([]:List Int).map V.int)):=ac
    generalize upd H4 o7 (.lst [])=H5 at s5 MP g7 ⊢
    refine⟨Dw,o7,iz (a.wy i j none),[],rfl,rfl,by rw[← kj];exact zJ.of MP,zJ.of g7,_,rfl,s5,?_⟩
    by_cases hw:a.wy i j none=[]
    ·rw[decide_eq_true (show iz (a.wy i j none)=[] by rw[hw];rfl),decide_eq_false (fun z=>z.2 hw)];rfl
    ·rw[decide_eq_false (show ¬ iz (a.wy i j none)=[] from fun z=>hw (by unfold iz at z;exact List.map_eq_nil_iff.mp z)),decide_eq_true ⟨by omega,hw⟩];rfl
  rintro b H4 ⟨s4,rfl⟩
  by_cases hw:i ≠ j/\a.wy i j none ≠ []
  ·rw[decide_eq_true hw]
   refine aH ⟨_,rfl, .inl ⟨rfl,_,zJ.of (s4 _ _ g3)⟩,_,rfl,_,rfl,by show 2 <= sizeLine;decide,fun t1 h1=>?_⟩
   have u1:=s4.new (o := .tup [.int (i:Int), .int (j:Int)]) h1
   have v1:(upd H4 t1 (.tup [.int (i:Int), .int (j:Int)])) t1=some (.tup [.int (i:Int), .int (j:Int)]):=ac
   generalize upd H4 t1 (.tup [.int (i:Int), .int (j:Int)])=H5 at u1 v1 ⊢
   have WM:=u1 _ _ g3
   have WN:Ah H5 (upd H5 D (.lst (Ar ++ [.ref t1]))):=j2 WM
   refine⟨D,Ar,_,rfl,rfl,WM,by rw[sizeLine_eq];omega,?_⟩
   refine⟨_,Ar ++ [.ref t1],bs ++ [((i:Int),(j:Int))],fun b o e=>by rw[af (ag e hD)];exact u1 _ _ (s3 _ _ e),ac,zX.snoc (p:=((i:Int),(j:Int))) ⟨t1,rfl,WN _ _ v1 True.intro⟩ (WN.D6 (zX.same u1 C2)),fun p hp=>?_,by rw[length_append,length_singleton];omega,rfl⟩
   rcases mem_append.mp hp with hp | hp
   ·exact OQ p hp
   ·rw[mem_singleton.mp hp];exact⟨i,j,rfl,hi,hj,hw.1,hw.2⟩
  ·rw[decide_eq_false hw]
   exact aD ⟨_,Ar,bs,s3.trans s4,s4 _ _ g3,zX.same s4 C2,OQ,by omega,rfl⟩
theorem S5:am ["_law_table_here", "_law_cell"] ["_law_table_here", "_law_cell"] (ai gX):=L2.Ad
theorem S6:AS ["_law_table_here", "_law_cell"] (ai gX) (v5 ((aJ gX).getD 0 (.Pass ⟨0,0,0,0⟩))) ["_law_cell"] [1]:=L2.BS
theorem S7:(["_law_lane_here", "_law_cell"]:List Str).Nodup:=by decide +kernel
theorem qM {c:Cs}{J:TJ}{C f fw fm:Addr}{fd dw dm:FuncData}(F:Ab K "_law_rooms" "_law_rooms" gX f fd)(T:eW mg)(L:lC K c)(W:Wy K C fw dw J)(mm:mg "_law_mixed" = some (.ref fm))(km:keepIn K (.ref fm)=true)(bm:Binds K dm ["_law_cell", "_law_k"] [])(Gm:zE P w K mg base aG 1 fm dm ["_law_cell", "_law_k"] lJ) :
  zE P w K mg base aG 2 f fd ["_law_table_here", "_law_cell"] (lK c C J):=by
 refine F.ok S5 (fun vs H Q E h=>?_) (fun cdv A outer s H vs Q E hr h=>?_)
 ·obtain⟨a,cl,rfl,_⟩:=h
  rfl
 ·obtain⟨a,cl,rfl,hT,q⟩:=h
  have h40:=hT.Az
  refine⟨_,ah (ar (bA (own:=["_law_lane_here"]) (capN:=["_law_cell"]) (cap:=[1]) S6 rfl (aM rfl T.range (aa (ax ao rfl T.len PySem.boot_len (aa (al (al (pv 0) rfl) rfl) ad)) ad)) (fun C s' H' fp=>⟨au (i:=0) S7 rfl (Or.inl rfl),dH,aE bB aj (aE bR (az Gm hr rfl mm km bm .nil aq (aa (pv 1) (aa (pv 0) ad))) aj)⟩))),?_⟩
  obtain⟨C4,fst,Ca,Al,Bi⟩:=hT.i
  have htl:a.zO.length=a.ps.length:=Paired.length hT.l.2.2
  refine⟨_,rfl,a.tb,C,C4,fst,_,rfl,Ca,W.cl,W.nl,Al,a.lx,c.land,a.Ac,_,_,rfl,hT.l.1,L.cl,L.nl,rfl,a.lt,_,rfl, .inr (zM.of hT.l.2.1),((a.zO.length:Nat):Int),rfl,by omega,by omega,?_⟩
  rw[toNat_natCast,htl]
  refine bJ a.ps.length (by rw[sizeLine_eq];omega) (fun i acc H'=>H' = H/\∃ rs:List Int,acc=rs.map V.int/\rs.length=i/\∀ r ∈ rs,1 <= r/\r <= 60) ⟨rfl,[],rfl,rfl,fun r hr=>by cases hr⟩ (fun i acc H' h=>by obtain⟨_,rs,rfl,e,_⟩:=h;rw[length_map];omega) (fun i acc H' hi h=>?_) (fun acc H' h=>?_)
  ·obtain⟨rfl,rs,rfl,e,Lp⟩:=h
   refine⟨hi,fun v H2 y=>?_⟩
   obtain⟨rfl,rfl⟩:=y
   rw[zero_add]
   refine⟨_,rfl,_,rfl,cl,i,rfl,by omega,fun d hd=>⟨_,_,rfl,rfl,(by show (0:Int) < 3;decide),_,_,rfl,rfl,rfl,rs ++ [1 + d % 3],by rw[map_append];rfl,by rw[length_append,e];rfl,fun r hr=>?_⟩⟩
   rcases mem_append.mp hr with hr | hr
   ·exact Lp r hr
   ·rw[mem_singleton.mp hr];omega
  ·obtain⟨rfl,rs,rfl,e,Lp⟩:=h
   exact⟨Nat.le_refl _,fun D hD=>q D rs _ ((zD.refl H').new hD) hD ac e Lp⟩
abbrev yx (ys:Ys)(ex:List Addr):Ys:={ ys with ex:=ex }
theorem Co.rooms {a:YA}{s s':YS}{m:Mv}(h:Co a s m s'):s'.rooms=s.rooms:=by cases h<;>rfl
theorem Co.len {a:YA}{s s':YS}{m:Mv}(h:Co a s m s'):s'.U.length=s.U.length:=by
 cases h with
 | @Bp k l t ln ht hg hl Aa ho =>
  show(if t.gone=0 then (dB s k t).U.set k _ else (dB s k t).U).length=_
  have:(dB s k t).U.length=s.U.length:=length_set ..
  split
  ·rw[length_set];exact this
  ·exact this
 | @on k l m c lk ln t hk hq ht hl Aa ho =>
  show(if c=0 then s.U.set m _ else s.U).length=_
  split
  ·exact length_set ..
  ·rfl
 | Bj=>rfl
 | back=>rfl
theorem AU.post {a:YA}{s:YS}(J:AU a s){x y:Nat}{l u:Int}(hx:x < a.n)(hy:y < a.n)(hl:0 <= l/\l <= 60)(hf:s.U.length < 60):AU a (gc s x y l u):=by
 have el:∀ (m:Nat)(t:bj),(gc s x y l u).U[m]? = some t->s.U[m]? = some t∨(m=s.U.length/\t = ⟨x,y,l,u,0,[]⟩):=fun m t ht=>by
  have ht:(s.U ++ [(⟨(x:Int),(y:Int),l,u,0,[]⟩:bj)])[m]? = some t:=ht
  by_cases hm:m < s.U.length
  ·rw[List.getElem?_append_left hm]at ht;exact .inl ht
  ·have h3:=(List.getElem?_eq_some_iff.mp ht).1
   rw[length_append,length_singleton]at h3
   have em:m=s.U.length:=by omega
   subst em
   rw[List.getElem?_concat_length]at ht
   cases ht
   exact .inr ⟨rfl,rfl⟩
 have eo:∀ (m:Nat)(t:bj),s.U[m]? = some t->(gc s x y l u).U[m]? = some t:=fun m t ht=>by
  show(s.U ++ [(⟨(x:Int),(y:Int),l,u,0,[]⟩:bj)])[m]? = some t
  rw[List.getElem?_append_left (List.getElem?_eq_some_iff.mp ht).1];exact ht
 refine⟨J.lanes,J.lies,?_,J.Dj,fun m t ht=>?_,fun m t ht=>?_,fun k ln hk q hq=>?_,fun m t ht=>?_,fun m t ht hg=>?_,fun m t ht i l' hi he=>?_,fun m t ht l' ln Ea Aa=>?_,J.first,fun k ln hk m t hm ht=>?_,?_⟩
 ·show(s.U ++ [_]).length <= 60
  rw[length_append,length_singleton];omega
 ·rcases el m t ht with h | ⟨_,rfl⟩
  ·exact J.lets m t h
  ·exact⟨x,y,rfl,rfl,hx,hy⟩
 ·rcases el m t ht with h | ⟨_,rfl⟩
  ·exact J.Ao m t h
  ·exact⟨(fun l hl=>by cases hl),nodup_nil⟩
 ·obtain⟨m,t,e,ht,DP⟩:=J.AO k ln hk q hq
  exact⟨m,t,e,eo m t ht,DP⟩
 ·rcases el m t ht with h | ⟨_,rfl⟩
  ·exact J.B9 m t h
  ·exact⟨Int.le_refl _,hl.1,hl.2⟩
 ·rcases el m t ht with h | ⟨_,rfl⟩
  ·exact J.AG m t h hg
  ·rfl
 ·rcases el m t ht with h | ⟨_,rfl⟩
  ·exact J.last m t h i l' hi he
  ·cases hi
 ·rcases el m t ht with h | ⟨_,rfl⟩
  ·exact J.head m t h l' ln Ea Aa
  ·cases Ea
 ·obtain⟨m2,t2,e2,Er,_⟩:=J.AO k ln hk _ hm
  have e2:(m:Int)=(m2:Int):=e2
  have e2:m=m2:=by omega
  subst e2
  rcases el m t ht with h | ⟨e,_⟩
  ·exact J.Ez k ln hk m t hm h
  ·rw[e]at Er
   rw[List.getElem?_eq_none (Nat.le_refl _)]at Er
   cases Er
 ·have h:=J.sum
  have e:gy (gc s x y l u)=gy s:=by
   show((s.U ++ [(⟨(x:Int),(y:Int),l,u,0,[]⟩:bj)]).map _).sum=_
   rw[map_append,List.sum_append]
   simp[gy]
  rw[e];exact h
theorem AA.exs {K:Frag}{ys:Ys}{e e':List Addr}{H H':Hp}{a:YA}{s:YS}(h:AA K (yx ys e) H a s)(o:zD H H')(hx:∀ b ∈ e',b ∈ e∨(H b=none/\∃ zs,H' b=some (.lst zs))):AA K (yx ys e') H' a s:=by
 have WO:∀ p:Addr,(∃ u,H p=some u)->p ∉ a.la :: a.le :: a.li :: a.dn :: e->p ∉ a.la :: a.le :: a.li :: a.dn :: e':=fun p ⟨u,hu⟩ hn z=>by
  have en:∀ q:List Addr,a.la :: a.le :: a.li :: a.dn :: q=[a.la,a.le,a.li,a.dn] ++ q:=fun _=>rfl
  rw[en]at z hn
  rcases mem_append.mp z with z | z
  ·exact hn (mem_append_left _ z)
  ·rcases hx p z with z | ⟨z,_⟩
   ·exact hn (mem_append_right _ z)
   ·rw[z]at hu;cases hu
 obtain⟨v1,h1,p1⟩:=h.AX
 obtain⟨v2,h2,p2⟩:=h.hle
 have h':=zR.same h o
 refine⟨h'.ins,h'.L4,⟨v1,o _ _ h1,Paired.mono (fun v ln z=>?_) p1⟩,⟨v2,o _ _ h2,Paired.mono (fun v t z=>?_) p2⟩,h'.Cm,h'.Cn,h'.ne,fun b hb=>?_⟩
 ·obtain⟨x,dx,pa,zU,ev,L,n⟩:=z
  exact⟨x,dx,pa,zU,ev,L.same o,WO pa ⟨_,L.lst⟩ n⟩
 ·obtain⟨x,dx,wa,ev,C9,hw,n⟩:=z
  exact⟨x,dx,wa,ev,o _ _ C9,o _ _ hw,WO wa ⟨_,hw⟩ n⟩
 ·rcases hx b hb with z | ⟨_,z⟩
  ·obtain⟨zs,hz⟩:=h.hex b z
   exact⟨zs,o _ _ hz⟩
  ·exact z
theorem yN {m:Nat}{rs:List Int}(CV:rs.length=m)(IK:∀ r ∈ rs,1 <= r/\r <= 60):pM m (rs.map V.int)=true:=by
 unfold pM
 rw[length_map,CV,decide_eq_true rfl,Bool.true_and,all_eq_true]
 intro v hv
 obtain⟨r,G0,rfl⟩:=mem_map.mp hv
 exact decide_eq_true (IK r G0)
noncomputable def WQ (K:Frag)(c:Cs)(TC:Addr)(J:TJ)(ys:Ys)(ex:List Addr)(H:Hp)(tb:Addr)(ps:List (Int × Int))(n:Nat)(wy:Wf)(rs:List Int):VK:=fun v H'=>∃ a:YA,v = .ref a.y/\a.tb=tb/\a.ps=ps/\a.n=n/\a.wy=wy/\zD H H'/\(∀ z ∈ a.four,H z=none)/\EM K c TC J (yx ys ex) H' a (Y0 (rs.map V.int) n)/\AU a (Y0 (rs.map V.int) n)
theorem vf {P:Program}{w:World}{K:Frag}{c:Cs}{TC fw nr:Addr}{dw:FuncData}{J:TJ}{ys:Ys}{ex:List Addr}{H:Hp}{tb lx Ac lt ra:Addr}{n:Nat}{zO:List V}{ps:List (Int × Int)}{wy:Wf}{rs:List Int}{E:XK}(W:Wy K TC fw dw J)
  (hT:Ba c TC J H tb lx Ac lt n zO ps wy) (Dy:∀ p g k,(wy p g k).length <= 400) (zL:∀ p ∈ ps,jz n p=true) (hR:zJ K H ra (rs.map V.int)) (CV:rs.length=ps.length) (IK:∀ r ∈ rs,1 <= r/\r <= 60) (hp:ps.length <= 8) (hex:∀ b ∈ ex,∃ xs,H b=some (.lst xs)) :
  ∀ y dy,H y=none->H dy=none->dy ≠ y->rQ K c TC J (yx ys ex) nr [.ref y, .ref tb, .ref ra] (upd (upd H dy (.own y)) y (.ins ys.zG dy [])) (fun v H2=>v = .zT/\WQ K c TC J ys ex H tb ps n wy rs (.ref y) H2) E:=by
 intro y dy ny S8 S9
 have s4:zD H (upd (upd H dy (.own y)) y (.ins ys.zG dy [])):=zD.new (zD.new (zD.refl H) S8) (by rw[af (Ne.symm S9)];exact ny)
 have SA:=yN CV IK
 refine⟨y,dy,tb,lx,Ac,lt,n,zO,ps,wy,_,rs.map V.int,rfl,ac,hT.keep W (zD.zZ s4),(fun b hb=>let ⟨xs,hz⟩:=hex b hb; ⟨xs,s4 _ _ hz⟩), .inr ⟨ra,rfl, .inl (s4.seq hR),by rw[length_map];omega,(fun v hv=>by obtain⟨r,_,rfl⟩:=mem_map.mp hv;exact .int r),fun h=>by rw[SA]at h;cases h⟩,fun _ ro la le li dn H5 o5 GN Il LN O7 hY=>⟨rfl,?_⟩⟩
 have s5:zD H H5:=fun b o e=>o5 b o (fun z=>by rw[mem_singleton.mp z,ny]at e;cases e) (s4 _ _ e)
 have hO:Ju ⟨y,dy,tb,ro,la,le,li,dn,lx,Ac,lt,n,zO,ps,wy⟩:=by
  refine⟨fun l pr hl=>?_,Dy⟩
  have MQ:=zL pr (mem_of_getElem? hl)
  unfold jz at MQ
  simp only[Bool.and_eq_true,decide_eq_true_eq,Bool.not_eq_true',decide_eq_false_iff_not]at MQ
  exact⟨pr.2.toNat,by omega,by show pr.2.toNat < n;omega⟩
 have hJ:AU ⟨y,dy,tb,ro,la,le,li,dn,lx,Ac,lt,n,zO,ps,wy⟩ (Y0 (rs.map V.int) n):=(Sl (a:=⟨y,dy,tb,ro,la,le,li,dn,lx,Ac,lt,n,zO,ps,wy⟩) (by rw[length_map];exact CV)).jnv (zero_le _) (by show ps.length <= 40;omega)
 refine⟨⟨y,dy,tb,ro,la,le,li,dn,lx,Ac,lt,n,zO,ps,wy⟩,rfl,rfl,rfl,rfl,rfl,s5,fun z hz=>?_,⟨hY,hT.keep W (zD.zZ s5),hO,hJ.ok⟩,hJ⟩
 have hz:z ∈ [la,le,li,dn]:=hz
 simp only[mem_cons,not_mem_nil,or_false]at hz
 rcases hz with rfl | rfl | rfl | rfl
 ·exact s4.free GN
 ·exact s4.free Il
 ·exact s4.free LN
 ·exact s4.free O7
theorem AA.chg {K:Frag}{ys:Ys}{H:Hp}{a:YA}{s:YS}(h:AA K ys H a s){x:Addr}(hx:x ∈ ys.ex)(MR:x ∉ a.four){zs:List V}:AA K ys (upd H x (.lst zs)) a s:=by
 have o:zQ (a.la :: a.le :: a.li :: a.dn :: ys.ex) H (upd H x (.lst zs)):=ck (by simp[hx])
 obtain⟨h1,h2,f1,f2,f3,f4⟩:=zR.off h o
 obtain⟨v1,a1,p1⟩:=h.AX
 obtain⟨v2,a2,p2⟩:=h.hle
 obtain⟨v3,a3,p3⟩:=h.Cm
 obtain⟨v4,a4,p4⟩:=h.Cn
 simp only[mem_cons,not_mem_nil,or_false,not_or]at MR
 exact⟨h1,h2,⟨v1,by rw[af (Ne.symm MR.1)];exact a1,f1 _ _ p1⟩,⟨v2,by rw[af (Ne.symm MR.2.1)];exact a2,f2 _ _ p2⟩,⟨v3,by rw[af (Ne.symm MR.2.2.1)];exact a3,f3 _ _ p3⟩,⟨v4,by rw[af (Ne.symm MR.2.2.2)];exact a4,f4 _ _ p4⟩,h.ne,fun b hb=>lu (h.hex b hb)⟩
theorem jl {α:Type}{L:List α}{k:Nat}{x:α}(h:L[k]? = some x):L.set k x=L:=by
 obtain⟨hk,e⟩:=List.getElem?_eq_some_iff.mp h
 rw[← e];exact List.set_getElem_self hk
noncomputable def mH (t:bj):Int × Int × Int × Int:=(t.start,t.goal,t.len,t.word)
theorem AE {α β γ:Type}{R:α->γ->Prop}{f:β->γ}:∀ {as:List α}{bs:List β},Paired (fun a b=>R a (f b)) as bs↔Paired R as (bs.map f)
 | [],[]=>⟨fun _ => .nil,fun _ => .nil⟩
 | [],_ :: _=>⟨(fun h=>by cases h),(fun h=>by cases h)⟩
 | _ :: _,[]=>⟨(fun h=>by cases h),(fun h=>by cases h)⟩
 | _ :: _,_ :: _=>⟨(fun h=>by cases h with | cons x r=>exact .cons x (AE.mp r)),(fun h=>by cases h with | cons x r=>exact .cons x (AE.mpr r))⟩
theorem Co.lets {a:YA}{s s':YS}{m:Mv}(h:Co a s m s'):s'.U.map mH=s.U.map mH:=by
 cases h with
 | @Bp k l t ln ht hg hl Aa ho =>
  have e1:(dB s k t).U.map mH=s.U.map mH:=by
   show(s.U.set k { t with gone:=t.gone + 1 }).map mH=_
   rw[map_set]
   exact jl (L:=s.U.map mH) (x:=mH t) (by rw[List.getElem?_map,ht];rfl)
  show(if t.gone=0 then (dB s k t).U.set k { ({ t with gone:=t.gone + 1 }:bj) with way:=t.way ++ [l] } else (dB s k t).U).map mH=_
  by_cases hc:t.gone=0
  ·rw[if_pos hc,map_set,e1]
   exact jl (L:=s.U.map mH) (x:=mH t) (by rw[List.getElem?_map,ht];rfl)
  ·rw[if_neg hc,e1]
 | @on k l m c lk ln t hk hq ht hl Aa ho =>
  show(if c=0 then s.U.set m { t with way:=t.way ++ [l] } else s.U).map mH=_
  by_cases hc:c=0
  ·rw[if_pos hc,map_set]
   exact jl (L:=s.U.map mH) (x:=mH t) (by rw[List.getElem?_map,ht];rfl)
  ·rw[if_neg hc]
 | Bj=>rfl
 | back=>rfl
noncomputable def dE (m:Nat)(qs:List (Int × Int)):List Int:=(qs.filter fun q=>decide (q.1=(m:Int))).map (·.2)
noncomputable def eV (x y:Nat):List Int:=(List.range' x (y - x)).map fun z:Nat=>(z:Int)
theorem eM (m:Nat)(xs ys:List (Int × Int)):dE m (xs ++ ys)=dE m xs ++ dE m ys:=by
 unfold dE;rw[filter_append,map_append]
theorem fV (m m':Nat)(c:Int):dE m [((m':Int),c)]=if m' = m then [c] else []:=by
 unfold dE
 by_cases h:m' = m
 ·subst h;simp
 ·rw[if_neg h,filter_cons_of_neg (by simp;omega)];rfl
theorem qf {m:Nat}{qs:List (Int × Int)}(h:∀ q ∈ qs,q.1 ≠ (m:Int)):dE m qs=[]:=by
 unfold dE
 rw[List.filter_eq_nil_iff.mpr (fun q hq=>by simpa using h q hq)];rfl
theorem sY {x y:Nat}(h:x < y):eV x y=(x:Int) :: eV (x + 1) y:=by
 unfold eV
 rw[show y - x=(y - (x + 1)) + 1 by omega,List.range'_succ];rfl
theorem iO {x y:Nat}(h:y <= x):eV x y=[]:=by
 unfold eV
 rw[show y - x=0 by omega];rfl
theorem js {x y:Nat}(h:x <= y):eV x (y + 1)=eV x y ++ [(y:Int)]:=by
 unfold eV
 rw[show y + 1 - x=(y - x) + 1 by omega,List.range'_1_concat,map_append]
 show _ ++ [((x + (y - x):Nat):Int)]=_
 rw[show x + (y - x)=y by omega]
theorem pC (x y:Nat):(eV x y).length=y - x:=by unfold eV;rw[length_map,length_range']
theorem r6 {m:Nat}{qs:List (Int × Int)}{c:Int}{x y:Nat}(h:qs.head? = some ((m:Int),c))(e:dE m qs=eV x y):x < y/\c=(x:Int)/\dE m qs.tail=eV (x + 1) y/\∀ m',m' ≠ m->dE m' qs.tail=dE m' qs:=by
 cases qs with
 | nil=>cases h
 | cons q qs =>
  cases h
  rw[show((m:Int),c) :: qs=[((m:Int),c)] ++ qs from rfl,eM,fV,if_pos rfl]at e
  have J9:x < y:=by
   rcases lt_or_ge x y with h | h
   ·exact h
   ·rw[iO h]at e;cases e
  rw[sY J9]at e
  have e1:c :: dE m qs=(x:Int) :: eV (x + 1) y:=e
  refine⟨J9,(List.cons.inj e1).1,(List.cons.inj e1).2,fun m' hm=>?_⟩
  rw[show((m:Int),c) :: qs=[((m:Int),c)] ++ qs from rfl,eM,fV,if_neg (Ne.symm hm)];rfl
theorem uP {m:Nat}{qs:List (Int × Int)}{q:Int × Int}{x y:Nat}(h:qs.getLast? = some q)(hq:q.1=(m:Int))(e:dE m qs=eV x y):q.2 + 1=(y:Int)/\x < y:=by
 obtain⟨ys,rfl⟩:=List.getLast?_eq_some_iff.mp h
 obtain⟨q1,q2⟩:=q
 have hq:q1=(m:Int):=hq
 subst hq
 rw[eM,fV,if_pos rfl]at e
 rcases lt_or_ge x y with J9 | J9
 ·obtain⟨z,rfl⟩:∃ z,y=z + 1:=⟨y - 1,by omega⟩
  rw[js (by omega)]at e
  have:=List.append_inj_right' e rfl
  have:q2=(z:Int):=(List.cons.inj this).1
  exact⟨by show q2 + 1=_;omega,J9⟩
 ·rw[iO J9]at e
  exact absurd e (by simp)
noncomputable def JA (s:YS)(p q:Int × Int):Prop:=(q.1=p.1/\q.2=p.2 + 1)∨(q.2=0/\∃ (m:Nat)(t:bj),p.1=(m:Int)/\s.U[m]? = some t/\p.2=t.len - 1)
structure AY (a:YA)(s:YS)(N D:Nat->Nat->Nat):Prop where
 g0:∀ (m:Nat)(t:bj),s.U[m]? = some t->((N m 0 + D m 0:Nat):Int)=t.gone
 gl:∀ (m:Nat)(t:bj),s.U[m]? = some t->t.gone <= t.len
 E2:∀ (m:Nat)(t:bj),s.U[m]? = some t->∀ i,t.way.length < i->N m i + D m i=0
 top:∀ (m:Nat)(t:bj),s.U[m]? = some t->t.way=[]->N m 0=0
 dn:∀ (m:Nat)(t:bj),s.U[m]? = some t->∀ i,i < t.way.length->N m (i + 1) + D m (i + 1) <= N m i/\0 < N m i/\(N m i:Int) <= t.len
 q:∀ (m:Nat)(t:bj),s.U[m]? = some t->∀ (i k:Nat)(ln:bU),t.way[i]? = some k->s.lanes[k]? = some ln->dE m ln.qs=eV (N m (i + 1) + D m (i + 1)) (N m i)
 own:∀ (k:Nat)(ln:bU),s.lanes[k]? = some ln->∀ p ∈ ln.qs,∃ (m:Nat)(t:bj),p.1=(m:Int)/\s.U[m]? = some t/\k ∈ t.way
 nd:∀ (m:Nat)(t:bj),s.U[m]? = some t->t.way.Nodup
 Bj:∀ (m:Nat)(t:bj),s.U[m]? = some t->∀ (p:Nat)(qs:List (Int × Int)),s.lies[p]? = some qs->dE m qs=if (p:Int)=t.goal then eV 0 (N m t.way.length) else []
 C7:∀ (p:Nat)(qs:List (Int × Int)),s.lies[p]? = some qs->∀ q ∈ qs,∃ (m:Nat)(t:bj),q.1=(m:Int)/\s.U[m]? = some t
 hold:∀ (k:Nat)(ln:bU),s.lanes[k]? = some ln->∀ (m:Nat)(t:bj),s.U[m]? = some t->(ln.h=some (m:Int)↔∃ i,t.way[i]? = some k/\(N m i:Int) < t.len)
 BB:∀ (k:Nat)(ln:bU),s.lanes[k]? = some ln->∀ z,ln.h=some z->∃ (m:Nat)(t:bj),z=(m:Int)/\s.U[m]? = some t
 room:∀ (k:Nat)(ln:bU),s.lanes[k]? = some ln->s.rooms[k]? = some (.int (ln.r + ln.b + ln.qs.length))/\0 <= ln.r/\0 <= ln.b
 Fp:∀ (k:Nat)(ln:bU),s.lanes[k]? = some ln->∀ (i:Nat)(p q:Int × Int),ln.qs[i]? = some p->ln.qs[i + 1]? = some q->JA s p q
 lst:∀ (k:Nat)(ln:bU),s.lanes[k]? = some ln->∀ q,ln.qs.getLast? = some q->ln.h=some q.1∨(ln.h=none/\∃ (m:Nat)(t:bj),q.1=(m:Int)/\s.U[m]? = some t/\q.2=t.len - 1)
noncomputable def zr:Nat->Nat->Nat:=fun _ _=>0
noncomputable def dU (m0 i0:Nat):Nat->Nat->Nat:=fun m i=>if m=m0/\i=i0 then 1 else 0
theorem fA (m i:Nat):dU m i m i=1:=if_pos ⟨rfl,rfl⟩
theorem fz {m0 i0 m i:Nat}(h:m ≠ m0):dU m0 i0 m i=0:=if_neg fun z=>h z.1
theorem cz {m0 i0 m i:Nat}(h:i ≠ i0):dU m0 i0 m i=0:=if_neg fun z=>h z.2
theorem c5 {l:List Nat}(h:l.Nodup){i j x:Nat}(hi:l[i]? = some x)(hj:l[j]? = some x):i=j:=by
 obtain⟨h1,e1⟩:=List.getElem?_eq_some_iff.mp hi
 obtain⟨h2,e2⟩:=List.getElem?_eq_some_iff.mp hj
 exact(List.getElem_inj h).mp (e1.trans e2.symm)
theorem uW {s:YS}{qs:List (Int × Int)}(h:∀ (i:Nat) (p q:Int × Int),qs[i]? = some p->qs[i + 1]? = some q->JA s p q):∀ (i:Nat)(p q:Int × Int),qs.tail[i]? = some p->qs.tail[i + 1]? = some q->JA s p q:=fun i p q hp hq=>by
 rw[List.getElem?_tail]at hp hq
 exact h (i + 1) p q hp hq
theorem qT {α:Type}{qs:List α}{q:α}(h:qs.tail.getLast? = some q):qs.getLast? = some q:=by
 cases qs with
 | nil=>cases h
 | cons x qs =>
  cases qs with
  | nil=>cases h
  | cons y qs=>rw[List.getLast?_cons_cons];exact h
theorem AY.pull {a:YA}{s:YS}{N:Nat->Nat->Nat}(G:AY a s N zr){k m:Nat}{c:Int}{lk:bU}{t:bj}(hk:s.lanes[k]? = some lk)(hq:lk.qs.head? = some ((m:Int),c))(ht:s.U[m]? = some t) :
  ∃ i,t.way[i]? = some k/\c=(N m (i + 1):Int)/\N m (i + 1) < N m i/\AY a { s with lanes:=s.lanes.set k (cj lk) } N (dU m (i + 1)):=by
 have F1:((m:Int),c) ∈ lk.qs:=List.mem_of_mem_head? hq
 obtain⟨m',t',e,Dk,DP⟩:=G.own k lk hk _ F1
 have e:(m:Int)=(m':Int):=e
 have e:m' = m:=by omega
 subst e
 rw[ht]at Dk;cases Dk
 obtain⟨i,hi⟩:=List.getElem?_of_mem DP
 have Fn:=(List.getElem?_eq_some_iff.mp hi).1
 obtain⟨f1,f2,f3,f4⟩:=r6 hq (G.q m' t ht i k lk hi hk)
 have f1:N m' (i + 1) < N m' i:=f1
 have f3:dE m' lk.qs.tail=eV (N m' (i + 1) + 1) (N m' i):=f3
 refine⟨i,hi,f2,f1,?_⟩
 have tl:lk.qs=((m':Int),c) :: lk.qs.tail:=by
  cases hx:lk.qs with
  | nil=>rw[hx]at hq;cases hq
  | cons x xs=>rw[hx]at hq;cases hq;rfl
 refine⟨fun m t h=>?_,G.gl,fun m t h j hj=>?_,G.top,fun m t h j hj=>?_,fun m t h j kk ln hj hl=>?_,fun kk ln hl p hp=>?_,G.nd,G.Bj,G.C7,fun kk ln hl=>?_,fun kk ln hl=>?_,fun kk ln hl=>?_,fun kk ln hl=>?_,fun kk ln hl=>?_⟩
 ·have:=G.g0 m t h
  rw[cz (by omega)];exact this
 ·have h1:=G.E2 m t h j hj
  by_cases e:m=m'
  ·subst e
   rw[ht]at h;cases h
   rw[cz (by omega)];exact h1
  ·rw[fz e];exact h1
 ·obtain⟨h1,h2,h3⟩:=G.dn m t h j hj
  refine⟨?_,h2,h3⟩
  have h1:N m (j + 1) <= N m j:=h1
  by_cases e:m=m'/\j + 1=i + 1
  ·obtain⟨rfl,e⟩:=e
   have:j=i:=by omega
   subst this
   rw[fA];omega
  ·show N m (j + 1) + dU m' (i + 1) m (j + 1) <= _
   unfold dU;rw[if_neg e];omega
 ·rcases b0 hl with ⟨rfl,rfl⟩ | ⟨Af,hl⟩
  ·show dE m lk.qs.tail=_
   by_cases e:m=m'
   ·subst e
    rw[ht]at h;cases h
    have:j=i:=c5 (G.nd _ _ ht) hj hi
    subst this
    rw[fA];exact f3
   ·rw[fz e,f4 m e];exact G.q m t h j kk lk hj hk
  ·by_cases e:m=m'/\j + 1=i + 1
   ·obtain⟨rfl,e⟩:=e
    have:j=i:=by omega
    subst this
    rw[ht]at h;cases h
    rw[hi]at hj;cases hj
    exact absurd rfl Af
   ·unfold dU;rw[if_neg e];exact G.q m t h j kk ln hj hl
 ·rcases b0 hl with ⟨rfl,rfl⟩ | ⟨_,hl⟩
  ·exact G.own kk lk hk p (by rw[tl];exact mem_cons_of_mem _ hp)
  ·exact G.own kk ln hl p hp
 ·rcases b0 hl with ⟨rfl,rfl⟩ | ⟨_,hl⟩
  ·exact G.hold kk lk hk
  ·exact G.hold kk ln hl
 ·rcases b0 hl with ⟨rfl,rfl⟩ | ⟨_,hl⟩
  ·exact G.BB kk lk hk
  ·exact G.BB kk ln hl
 ·rcases b0 hl with ⟨rfl,rfl⟩ | ⟨_,hl⟩
  ·obtain⟨r1,r2,r3⟩:=G.room kk lk hk
   refine⟨?_,r2,?_⟩
   ·show s.rooms[kk]? = some (.int (lk.r + (lk.b + 1) + lk.qs.tail.length))
    rw[r1]
    have:lk.qs.length=lk.qs.tail.length + 1:=by rw[tl];rfl
    rw[this]
    congr 2;omega
   ·show 0 <= lk.b + 1;omega
  ·exact G.room kk ln hl
 ·rcases b0 hl with ⟨rfl,rfl⟩ | ⟨_,hl⟩
  ·exact uW (s:={ s with lanes:=s.lanes.set kk (cj lk) }) (G.Fp kk lk hk)
  ·exact G.Fp kk ln hl
 ·rcases b0 hl with ⟨rfl,rfl⟩ | ⟨_,hl⟩
  ·exact fun q hq=>G.lst kk lk hk q (qT hq)
  ·exact G.lst kk ln hl
theorem AY.leave {a:YA}{s:YS}{N:Nat->Nat->Nat}(G:AY a s N zr){m:Nat}{t:bj}(ht:s.U[m]? = some t)(hg:t.gone ≠ t.len):AY a (dB s m t) N (dU m 0):=by
 have gl:=G.gl m t ht
 have key:∀ (m':Nat)(t':bj),(dB s m t).U[m']? = some t'->∃ t2,s.U[m']? = some t2/\t'.way=t2.way/\t'.len=t2.len/\t'.goal=t2.goal/\(m' ≠ m->t' = t2)/\(m' = m->t'.gone=t.gone + 1/\t2=t):=fun m' t' h=>by
  have h:(s.U.set m { t with gone:=t.gone + 1 })[m']? = some t':=h
  rcases b0 h with ⟨rfl,rfl⟩ | ⟨Af,h⟩
  ·exact⟨t,ht,rfl,rfl,rfl,fun z=>absurd rfl z,fun _=>⟨rfl,rfl⟩⟩
  ·exact⟨t',h,rfl,rfl,rfl,fun _=>rfl,fun z=>absurd z Af⟩
 have back:∀ (m':Nat)(t2:bj),s.U[m']? = some t2->∃ t',(dB s m t).U[m']? = some t'/\t'.way=t2.way/\t'.len=t2.len:=fun m' t2 h=>by
  by_cases e:m' = m
  ·subst e
   rw[ht]at h;cases h
   exact⟨{ t with gone:=t.gone + 1 },eG ht,rfl,rfl⟩
  ·exact⟨t2,by show(s.U.set m _)[m']? = _;rw[List.getElem?_set_ne (Ne.symm e)];exact h,rfl,rfl⟩
 refine⟨fun m' t' h=>?_,fun m' t' h=>?_,fun m' t' h j hj=>?_,fun m' t' h hw=>?_,fun m' t' h j hj=>?_,fun m' t' h j kk ln hj hl=>?_,fun kk ln hl p hp=>?_,fun m' t' h=>?_,fun m' t' h p qs hp=>?_,fun p qs hp q hq=>?_,fun kk ln hl m' t' h=>?_,fun kk ln hl z hz=>?_,G.room,fun kk ln hl i p q hp hq=>?_,fun kk ln hl q hq=>?_⟩
 ·obtain⟨t2,h2,ew,el,eg,ne,eq⟩:=key m' t' h
  have h0:=G.g0 m' t2 h2
  by_cases e:m' = m
  ·obtain⟨e1,rfl⟩:=eq e
   subst e
   rw[fA,e1,← h0];show((N m' 0 + 1:Nat):Int)=((N m' 0 + 0:Nat):Int) + 1;omega
  ·rw[fz e,ne e];exact h0
 ·obtain⟨t2,h2,ew,el,eg,ne,eq⟩:=key m' t' h
  by_cases e:m' = m
  ·obtain⟨e1,rfl⟩:=eq e
   rw[e1,el];omega
  ·rw[ne e];exact G.gl m' t2 h2
 ·obtain⟨t2,h2,ew,el,eg,ne,eq⟩:=key m' t' h
  rw[cz (by omega)];exact G.E2 m' t2 h2 j (by rw[← ew];exact hj)
 ·obtain⟨t2,h2,ew,el,eg,ne,eq⟩:=key m' t' h
  exact G.top m' t2 h2 (by rw[← ew];exact hw)
 ·obtain⟨t2,h2,ew,el,eg,ne,eq⟩:=key m' t' h
  rw[cz (by omega),el];exact G.dn m' t2 h2 j (by rw[← ew];exact hj)
 ·obtain⟨t2,h2,ew,el,eg,ne,eq⟩:=key m' t' h
  rw[cz (by omega)];exact G.q m' t2 h2 j kk ln (by rw[← ew];exact hj) hl
 ·obtain⟨m',t2,e,h2,hw⟩:=G.own kk ln hl p hp
  obtain⟨t',h',ew,_⟩:=back m' t2 h2
  exact⟨m',t',e,h',by rw[ew];exact hw⟩
 ·obtain⟨t2,h2,ew,_⟩:=key m' t' h
  rw[ew];exact G.nd m' t2 h2
 ·obtain⟨t2,h2,ew,el,eg,_⟩:=key m' t' h
  rw[ew,eg];exact G.Bj m' t2 h2 p qs hp
 ·obtain⟨m',t2,e,h2⟩:=G.C7 p qs hp q hq
  obtain⟨t',h',_⟩:=back m' t2 h2
  exact⟨m',t',e,h'⟩
 ·obtain⟨t2,h2,ew,el,eg,_⟩:=key m' t' h
  rw[ew,el];exact G.hold kk ln hl m' t2 h2
 ·obtain⟨m',t2,e,h2⟩:=G.BB kk ln hl z hz
  obtain⟨t',h',_⟩:=back m' t2 h2
  exact⟨m',t',e,h'⟩
 ·rcases G.Fp kk ln hl i p q hp hq with z | ⟨z,m',t2,e,h2,e2⟩
  ·exact .inl z
  ·obtain⟨t',h',_,el⟩:=back m' t2 h2
   exact .inr ⟨z,m',t',e,h',by rw[el];exact e2⟩
 ·rcases G.lst kk ln hl q hq with z | ⟨z,m',t2,e,h2,e2⟩
  ·exact .inl z
  ·obtain⟨t',h',_,el⟩:=back m' t2 h2
   exact .inr ⟨z,m',t',e,h',by rw[el];exact e2⟩
theorem AY.enter {a:YA}{s:YS}{N:Nat->Nat->Nat}{m i l:Nat}{c:Int}{t:bj}{ln:bU}(G:AY a s N (dU m i))(ht:s.U[m]? = some t)(hc:c=(N m i:Int))(h0:c=0->i=t.way.length/\l ∉ t.way)(h1:c ≠ 0->t.way[i]? = some l)(hlen:c + 1 <= t.len)(Aa:s.lanes[l]? = some ln)(ho:cf ln.r ln.h m c=true) :
  AY a (bW s m c l t ln) (fun m' i'=>N m' i' + dU m i m' i') zr:=by
 obtain⟨Lu,CF⟩:ln.r ≠ 0/\if c=0 then ln.h=none else ln.h=some (m:Int):=by
  unfold cf at ho
  by_cases hr:ln.r=0
  ·rw[if_pos hr]at ho;cases ho
  ·rw[if_neg hr]at ho
   by_cases h:c=0
   ·rw[if_pos h]at ho ⊢;exact⟨hr,of_decide_eq_true ho⟩
   ·rw[if_neg h]at ho ⊢;exact⟨hr,of_decide_eq_true ho⟩
 obtain⟨t1,IL,w1,el,eg,WR,hw⟩:∃ t1:bj,(bW s m c l t ln).U[m]? = some t1/\t1.way=(if c=0 then t.way ++ [l] else t.way)/\t1.len=t.len/\t1.goal=t.goal/\t1.gone=t.gone/\t1.way[i]? = some l:=by
  by_cases h:c=0
  ·refine⟨{ t with way:=t.way ++ [l] },?_,by rw[if_pos h],rfl,rfl,rfl,?_⟩
   ·show(if c=0 then s.U.set m { t with way:=t.way ++ [l] } else s.U)[m]? = _
    rw[if_pos h];exact eG ht
   ·show(t.way ++ [l])[i]? = some l
    rw[(h0 h).1,List.getElem?_concat_length]
  ·refine⟨t,?_,by rw[if_neg h],rfl,rfl,rfl,h1 h⟩
   show(if c=0 then s.U.set m { t with way:=t.way ++ [l] } else s.U)[m]? = _
   rw[if_neg h];exact ht
 have key:∀ (m':Nat)(t':bj),(bW s m c l t ln).U[m']? = some t'->(m' = m/\t' = t1)∨(m' ≠ m/\s.U[m']? = some t'):=fun m' t' h=>by
  by_cases e:m' = m
  ·subst e
   rw[IL]at h;cases h;exact .inl ⟨rfl,rfl⟩
  ·refine .inr ⟨e,?_⟩
   have h:(if c=0 then s.U.set m { t with way:=t.way ++ [l] } else s.U)[m']? = some t':=h
   by_cases AI:c=0
   ·rw[if_pos AI,List.getElem?_set_ne (Ne.symm e)]at h;exact h
   ·rw[if_neg AI]at h;exact h
 have back:∀ (m':Nat)(t2:bj),s.U[m']? = some t2->∃ t',(bW s m c l t ln).U[m']? = some t'/\(∀ x ∈ t2.way,x ∈ t'.way)/\t'.len=t2.len:=fun m' t2 h=>by
  by_cases e:m' = m
  ·subst e
   rw[ht]at h;cases h
   refine⟨t1,IL,fun x hx=>?_,el⟩
   rw[w1];split
   ·exact mem_append_left _ hx
   ·exact hx
  ·refine⟨t2,?_,fun x hx=>hx,rfl⟩
   show(if c=0 then s.U.set m { t with way:=t.way ++ [l] } else s.U)[m']? = _
   split
   ·rw[List.getElem?_set_ne (Ne.symm e)];exact h
   ·exact h
 have MS:∀ (j k:Nat),t1.way[j]? = some k->j ≠ i->t.way[j]? = some k:=fun j k hj Af=>by
  rw[w1]at hj
  by_cases h:c=0
  ·rw[if_pos h]at hj
   have Ae:=(List.getElem?_eq_some_iff.mp hj).1
   rw[length_append,length_singleton]at Ae
   have:=(h0 h).1
   rwa [List.getElem?_append_left (by omega)]at hj
  ·rw[if_neg h]at hj;exact hj
 have IM:t1.way.length=if c=0 then i + 1 else t.way.length:=by
  rw[w1];split
  ·rename_i h
   rw[length_append,length_singleton,(h0 h).1]
  ·rfl
 have Fn:c ≠ 0->i < t.way.length:=fun h=>(List.getElem?_eq_some_iff.mp (h1 h)).1
 have Gq:t1.way.Nodup:=by
  rw[w1];split
  ·rename_i h
   refine nodup_append.mpr ⟨G.nd m t ht,by simp,fun x hx y hy e=>?_⟩
   rw[mem_singleton]at hy
   subst hy;subst e
   exact(h0 h).2 hx
  ·exact G.nd m t ht
 have Bc:∀ {kk:Nat}{Ap:bU},(bW s m c l t ln).lanes[kk]? = some Ap->(kk=l/\Ap = i5 ln m c t.len)∨(kk ≠ l/\s.lanes[kk]? = some Ap):=fun h=>b0 h
 have En:∀ m',m' ≠ m->dE m' (ln.qs ++ [((m:Int),c)])=dE m' ln.qs:=fun m' hm=>by
  rw[eM,fV,if_neg (Ne.symm hm),append_nil]
 have OR:dE m ln.qs=eV (N m (i + 1)) (N m i)/\N m (i + 1) <= N m i:=by
  by_cases h:c=0
  ·have e0:N m i=0:=by omega
   have f1:=G.E2 m t ht (i + 1) (by have:=(h0 h).1;omega)
   rw[cz (by omega)]at f1
   have f1:N m (i + 1)=0:=by omega
   rw[e0,f1]
   refine⟨?_,Nat.le_refl _⟩
   rw[iO (Nat.le_refl _)]
   refine qf fun q hq e=>?_
   obtain⟨m',t',e',Dk,Ht⟩:=G.own l ln Aa q hq
   have:m' = m:=by rw[e]at e';omega
   subst this
   rw[ht]at Dk;cases Dk
   exact(h0 h).2 Ht
  ·have:=G.q m t ht i l ln (h1 h) Aa
   rw[cz (by omega)]at this
   have hd:=(G.dn m t ht i (Fn h)).1
   rw[cz (by omega)]at hd
   exact⟨this,hd⟩
 have z0:∀ m' j,(zr m' j)=0:=fun _ _=>rfl
 refine⟨fun m' t' h=>?_,fun m' t' h=>?_,fun m' t' h j hj=>?_,fun m' t' h Ht=>?_,fun m' t' h j hj=>?_,fun m' t' h j kk Ap hj hl=>?_,fun kk Ap hl p hp=>?_,fun m' t' h=>?_,fun m' t' h p qs hp=>?_,fun p qs hp q hq=>?_,fun kk Ap hl m' t' h=>?_,fun kk Ap hl z hz=>?_,fun kk Ap hl=>?_,fun kk Ap hl j p q hp hq=>?_,fun kk Ap hl q hq=>?_⟩
 ·rcases key m' t' h with ⟨rfl,rfl⟩ | ⟨Af,h⟩
  ·rw[WR,← G.g0 _ t ht];rfl
  ·exact G.g0 m' t' h
 ·rcases key m' t' h with ⟨rfl,rfl⟩ | ⟨Af,h⟩
  ·rw[WR,el];exact G.gl _ t ht
  ·exact G.gl m' t' h
 ·rcases key m' t' h with ⟨rfl,rfl⟩ | ⟨Af,h⟩
  ·refine G.E2 _ t ht j ?_
   rw[IM]at hj
   by_cases AI:c=0
   ·rw[if_pos AI]at hj;have:=(h0 AI).1;omega
   ·rw[if_neg AI]at hj;exact hj
  ·exact G.E2 m' t' h j hj
 ·rcases key m' t' h with ⟨rfl,rfl⟩ | ⟨Af,h⟩
  ·rw[Ht]at hw;cases hw
  ·show N m' 0 + dU m i m' 0=0
   rw[fz Af];exact G.top m' t' h Ht
 ·rcases key m' t' h with ⟨rfl,rfl⟩ | ⟨Af,h⟩
  ·show N m' (j + 1) + dU m' i m' (j + 1) + 0 <= N m' j + dU m' i m' j/\0 < N m' j + dU m' i m' j/\((N m' j + dU m' i m' j:Nat):Int) <= t'.len
   rw[el]
   by_cases e:j=i
   ·subst e
    rw[fA,cz (by omega)]
    have:=OR.2
    exact⟨by omega,by omega,by omega⟩
   ·have Fz:j < t.way.length:=by
     rw[IM]at hj
     by_cases AI:c=0
     ·rw[if_pos AI]at hj;have:=(h0 AI).1;omega
     ·rw[if_neg AI]at hj;exact hj
    obtain⟨d1,d2,d3⟩:=G.dn _ t ht j Fz
    have:dU m' i m' j=0:=cz e
    rw[this]
    exact⟨by omega,by omega,by omega⟩
  ·show N m' (j + 1) + dU m i m' (j + 1) + 0 <= N m' j + dU m i m' j/\0 < N m' j + dU m i m' j/\((N m' j + dU m i m' j:Nat):Int) <= t'.len
   have:=G.dn m' t' h j hj
   rw[fz Af]at this ⊢
   rw[fz Af];exact this
 ·show dE m' Ap.qs=eV (N m' (j + 1) + dU m i m' (j + 1) + 0) (N m' j + dU m i m' j)
  rcases key m' t' h with ⟨rfl,rfl⟩ | ⟨Af,h2⟩
  ·rcases Bc hl with ⟨rfl,rfl⟩ | ⟨B0,hl⟩
   ·have:j=i:=c5 Gq hj hw
    subst this
    show dE m' (ln.qs ++ [((m':Int),c)])=_
    rw[eM,fV,if_pos rfl,fA,cz (by omega),OR.1,hc,Nat.add_zero,Nat.add_zero]
    exact(js OR.2).symm
   ·have MT:j ≠ i:=fun e=>by rw[e,hw]at hj;cases hj;exact B0 rfl
    rw[show dU m' i m' j=0 from cz MT]
    exact G.q _ t ht j kk Ap (MS j kk hj MT) hl
  ·rcases Bc hl with ⟨rfl,rfl⟩ | ⟨B0,hl⟩
   ·show dE m' (ln.qs ++ [((m:Int),c)])=_
    rw[En m' Af,show dU m i m' j=0 from fz Af]
    exact G.q m' t' h2 j kk ln hj Aa
   ·rw[show dU m i m' j=0 from fz Af]
    exact G.q m' t' h2 j kk Ap hj hl
 ·rcases Bc hl with ⟨rfl,rfl⟩ | ⟨B0,hl⟩
  ·rcases mem_append.mp hp with hp | hp
   ·obtain⟨m',t2,e,h2,Hm⟩:=G.own kk ln Aa p hp
    obtain⟨t',h',sub,_⟩:=back m' t2 h2
    exact⟨m',t',e,h',sub _ Hm⟩
   ·rw[mem_singleton.mp hp]
    exact⟨m,t1,rfl,IL,mem_of_getElem? hw⟩
  ·obtain⟨m',t2,e,h2,Hm⟩:=G.own kk Ap hl p hp
   obtain⟨t',h',sub,_⟩:=back m' t2 h2
   exact⟨m',t',e,h',sub _ Hm⟩
 ·rcases key m' t' h with ⟨rfl,rfl⟩ | ⟨Af,h⟩
  ·exact Gq
  ·exact G.nd m' t' h
 ·show dE m' qs=if (p:Int)=t'.goal then eV 0 (N m' t'.way.length + dU m i m' t'.way.length) else []
  rcases key m' t' h with ⟨rfl,rfl⟩ | ⟨Af,h⟩
  ·have e:=G.Bj _ t ht p qs hp
   rw[eg,e]
   by_cases B6:(p:Int)=t.goal
   ·rw[if_pos B6,if_pos B6,IM]
    by_cases AI:c=0
    ·rw[if_pos AI,cz (by omega),← (h0 AI).1]
     have f1:=G.E2 _ t ht (i + 1) (by have:=(h0 AI).1;omega)
     have e1:N m' (i + 1)=0:=by omega
     have e2:N m' i=0:=by omega
     rw[e1,e2]
    ·rw[if_neg AI,cz (by have:=Fn AI;omega)];rfl
   ·rw[if_neg B6,if_neg B6]
  ·rw[fz Af];exact G.Bj m' t' h p qs hp
 ·obtain⟨m',t2,e,h2⟩:=G.C7 p qs hp q hq
  obtain⟨t',h',_⟩:=back m' t2 h2
  exact⟨m',t',e,h'⟩
 ·show Ap.h=some (m':Int)↔∃ j,t'.way[j]? = some kk/\((N m' j + dU m i m' j:Nat):Int) < t'.len
  rcases key m' t' h with ⟨rfl,rfl⟩ | ⟨Af,h2⟩
  ·rcases Bc hl with ⟨rfl,rfl⟩ | ⟨B0,hl⟩
   ·show(if decide (c=t.len - 1)=true then none else some (m':Int))=_↔_
    rw[el]
    constructor
    ·intro z
     refine⟨i,hw,?_⟩
     rw[fA]
     by_cases e:c=t.len - 1
     ·rw[if_pos (decide_eq_true e)]at z;cases z
     ·omega
    ·rintro⟨j,hj,Cq⟩
     have:j=i:=c5 Gq hj hw
     subst this
     rw[fA]at Cq
     rw[if_neg (by rw[decide_eq_true_eq];omega)]
   ·have e:=G.hold kk Ap hl _ t ht
    rw[e,el]
    constructor
    ·rintro⟨j,hj,Cq⟩
     refine⟨j,?_,?_⟩
     ·rw[w1];split
      ·rw[List.getElem?_append_left (List.getElem?_eq_some_iff.mp hj).1];exact hj
      ·exact hj
     ·rw[show dU m' i m' j=0 from cz fun e=>by
       subst e
       by_cases AI:c=0
       ·have:=(List.getElem?_eq_some_iff.mp hj).1;have:=(h0 AI).1;omega
       ·rw[h1 AI]at hj;cases hj;exact B0 rfl]
      exact Cq
    ·rintro⟨j,hj,Cq⟩
     have MT:j ≠ i:=fun e=>by rw[e,hw]at hj;cases hj;exact B0 rfl
     rw[show dU m' i m' j=0 from cz MT]at Cq
     exact⟨j,MS j kk hj MT,Cq⟩
  ·have eN:∀ j,N m' j + dU m i m' j=N m' j:=fun j=>by rw[fz Af];rfl
   simp only[eN]
   rcases Bc hl with ⟨rfl,rfl⟩ | ⟨B0,hl⟩
   ·show(if decide (c=t.len - 1)=true then none else some (m:Int))=_↔_
    rw[← G.hold kk ln Aa m' t' h2]
    have a1:ln.h ≠ some (m':Int):=fun z=>by
     rw[z]at CF
     by_cases AI:c=0
     ·rw[if_pos AI]at CF;cases CF
     ·rw[if_neg AI]at CF
      have:=Option.some.inj CF
      omega
    refine⟨fun z=>?_,fun z=>absurd z a1⟩
    split at z
    ·cases z
    ·have:=Option.some.inj z
     exact absurd (show m' = m by omega) Af
   ·exact G.hold kk Ap hl m' t' h2
 ·rcases Bc hl with ⟨rfl,rfl⟩ | ⟨B0,hl⟩
  ·have z:(if decide (c=t.len - 1)=true then none else some (m:Int))=some z:=hz
   split at z
   ·cases z
   ·exact⟨m,t1,(Option.some.inj z).symm,IL⟩
  ·obtain⟨m',t2,e,h2⟩:=G.BB kk Ap hl z hz
   obtain⟨t',h',_⟩:=back m' t2 h2
   exact⟨m',t',e,h'⟩
 ·rcases Bc hl with ⟨rfl,rfl⟩ | ⟨B0,hl⟩
  ·obtain⟨r1,r2,r3⟩:=G.room kk ln Aa
   refine⟨?_,by show 0 <= ln.r - 1;omega,r3⟩
   show s.rooms[kk]? = some (.int (ln.r - 1 + ln.b + ((ln.qs ++ [((m:Int),c)]).length:Nat)))
   rw[r1,length_append,length_singleton]
   congr 2;omega
  ·exact G.room kk Ap hl
 ·have up:JA s p q->JA (bW s m c l t ln) p q:=fun z=>by
   rcases z with z | ⟨z,m',t2,e,h2,e2⟩
   ·exact .inl z
   ·obtain⟨t',h',_,SD⟩:=back m' t2 h2
    exact .inr ⟨z,m',t',e,h',by rw[SD];exact e2⟩
  rcases Bc hl with ⟨rfl,rfl⟩ | ⟨B0,hl⟩
  ·have hp:(ln.qs ++ [((m:Int),c)])[j]? = some p:=hp
   have hq:(ln.qs ++ [((m:Int),c)])[j + 1]? = some q:=hq
   by_cases hj:j + 1 < ln.qs.length
   ·rw[List.getElem?_append_left (by omega)]at hp
    rw[List.getElem?_append_left hj]at hq
    exact up (G.Fp kk ln Aa j p q hp hq)
   ·have Ae:=(List.getElem?_eq_some_iff.mp hq).1
    rw[length_append,length_singleton]at Ae
    have ej:j + 1=ln.qs.length:=by omega
    rw[ej,List.getElem?_concat_length]at hq
    cases hq
    rw[List.getElem?_append_left (by omega)]at hp
    have Hw:ln.qs.getLast? = some p:=by rw[List.getLast?_eq_getElem?,← ej];exact hp
    rcases G.lst kk ln Aa p Hw with z | ⟨z,m',t2,e,h2,e2⟩
    ·by_cases AI:c=0
     ·rw[if_pos AI,z]at CF;cases CF
     ·rw[if_neg AI,z]at CF
      have e1:p.1=(m:Int):=Option.some.inj CF
      obtain⟨e2,_⟩:=uP Hw e1 OR.1
      exact .inl ⟨e1.symm,by show c=p.2 + 1;omega⟩
    ·by_cases AI:c=0
     ·exact up (.inr ⟨AI,m',t2,e,h2,e2⟩)
     ·rw[if_neg AI,z]at CF;cases CF
  ·exact up (G.Fp kk Ap hl j p q hp hq)
 ·rcases Bc hl with ⟨rfl,rfl⟩ | ⟨B0,hl⟩
  ·have hq:(ln.qs ++ [((m:Int),c)]).getLast? = some q:=hq
   rw[List.getLast?_concat]at hq
   cases hq
   show(if decide (c=t.len - 1)=true then none else some (m:Int))=_∨_
   by_cases e:c=t.len - 1
   ·exact .inr ⟨by show(if decide (c=t.len - 1)=true then none else some (m:Int))=none;rw[if_pos (decide_eq_true e)],m,t1,rfl,IL,by rw[el];exact e⟩
   ·exact .inl (by rw[if_neg (by rw[decide_eq_true_eq];exact e)])
  ·rcases G.lst kk Ap hl q hq with z | ⟨z,m',t2,e,h2,e2⟩
   ·exact .inl z
   ·obtain⟨t',h',_,SD⟩:=back m' t2 h2
    exact .inr ⟨z,m',t',e,h',by rw[SD];exact e2⟩
theorem AY.lay {a:YA}{s:YS}{N:Nat->Nat->Nat}{m e:Nat}{c:Int}{t:bj}{qs:List (Int × Int)}(G:AY a s N (dU m t.way.length))(ht:s.U[m]? = some t)(hc:c=(N m t.way.length:Int))(hg:t.goal=(e:Int))(BF:s.lies[e]? = some qs)(hw:t.way ≠ []) :
  AY a { s with lies:=s.lies.set e (qs ++ [((m:Int),c)]) } (fun m' i'=>N m' i' + dU m t.way.length m' i') zr:=by
 have Ej:0 < t.way.length:=List.length_pos_iff.mpr hw
 have eN:∀ m' j,(m' = m->j ≠ t.way.length)->N m' j + dU m t.way.length m' j=N m' j:=fun m' j h=>by
  by_cases e:m' = m
  ·rw[cz (h e)];rfl
  ·rw[fz e];rfl
 refine⟨fun m' t' h=>?_,G.gl,fun m' t' h j hj=>?_,fun m' t' h Ht=>?_,fun m' t' h j hj=>?_,fun m' t' h j kk ln hj hl=>?_,G.own,G.nd,fun m' t' h p MU hp=>?_,fun p MU hp q hq=>?_,fun kk ln hl m' t' h=>?_,G.BB,G.room,G.Fp,G.lst⟩
 ·rw[← G.g0 m' t' h];rfl
 ·exact G.E2 m' t' h j hj
 ·show N m' 0 + dU m t.way.length m' 0=0
  rw[eN m' 0 (fun _=>by omega)];exact G.top m' t' h Ht
 ·show N m' (j + 1) + dU m t.way.length m' (j + 1) + 0 <= N m' j + dU m t.way.length m' j/\0 < N m' j + dU m t.way.length m' j/\((N m' j + dU m t.way.length m' j:Nat):Int) <= t'.len
  rw[eN m' j (fun e=>by subst e;rw[ht]at h;cases h;omega)]
  exact G.dn m' t' h j hj
 ·show dE m' ln.qs=eV (N m' (j + 1) + dU m t.way.length m' (j + 1) + 0) (N m' j + dU m t.way.length m' j)
  have Cq:=(List.getElem?_eq_some_iff.mp hj).1
  rw[eN m' j (fun e=>by subst e;rw[ht]at h;cases h;omega)]
  exact G.q m' t' h j kk ln hj hl
 ·show dE m' MU = if (p:Int)=t'.goal then eV 0 (N m' t'.way.length + dU m t.way.length m' t'.way.length) else []
  have h:s.U[m']? = some t':=h
  rcases b0 hp with ⟨rfl,rfl⟩ | ⟨Af,GF⟩
  ·rw[eM,fV]
   have e1:=G.Bj m' t' h p qs BF
   by_cases em:m' = m
   ·subst em
    rw[ht]at h;cases h
    rw[if_pos hg.symm]at e1
    rw[if_pos rfl,if_pos hg.symm,e1,fA,hc]
    exact(js (zero_le _)).symm
   ·rw[if_neg (Ne.symm em),append_nil,eN m' _ (fun z=>absurd z em)];exact e1
  ·by_cases em:m' = m
   ·subst em
    rw[ht]at h;cases h
    have e1:=G.Bj m' t ht p MU GF
    rw[if_neg (by rw[hg];omega)]at e1 ⊢
    exact e1
   ·rw[eN m' _ (fun z=>absurd z em)];exact G.Bj m' t' h p MU GF
 ·rcases b0 hp with ⟨rfl,rfl⟩ | ⟨Af,hp⟩
  ·rcases mem_append.mp hq with hq | hq
   ·exact G.C7 p qs BF q hq
   ·rw[mem_singleton.mp hq];exact⟨m,t,rfl,ht⟩
  ·exact G.C7 p MU hp q hq
 ·show ln.h=some (m':Int)↔∃ j,t'.way[j]? = some kk/\((N m' j + dU m t.way.length m' j:Nat):Int) < t'.len
  have h:s.U[m']? = some t':=h
  rw[G.hold kk ln hl m' t' h]
  constructor
  ·rintro⟨j,hj,Cq⟩
   have hjw:=(List.getElem?_eq_some_iff.mp hj).1
   exact⟨j,hj,by rw[eN m' j (fun e=>by subst e;rw[ht]at h;cases h;omega)];exact Cq⟩
  ·rintro⟨j,hj,Cq⟩
   have hjw:=(List.getElem?_eq_some_iff.mp hj).1
   rw[eN m' j (fun e=>by subst e;rw[ht]at h;cases h;omega)]at Cq
   exact⟨j,hj,Cq⟩
theorem AY.back {a:YA}{s:YS}{N D:Nat->Nat->Nat}(G:AY a s N D){k:Nat}{lk:bU}(hk:s.lanes[k]? = some lk)(hb:0 < lk.b):AY a { s with lanes:=s.lanes.set k (pT lk) } N D:=by
 have kl:∀ {kk:Nat}{ln:bU},(s.lanes.set k (pT lk))[kk]? = some ln->∃ l0,s.lanes[kk]? = some l0/\ln.qs=l0.qs/\ln.h=l0.h/\ln.r + ln.b=l0.r + l0.b/\l0.r <= ln.r/\(0 <= l0.b->0 <= ln.b):=fun h=>by
  rcases b0 h with ⟨rfl,rfl⟩ | ⟨_,h⟩
  ·exact⟨lk,hk,rfl,rfl,by show lk.r + 1 + (lk.b - 1)=_;omega,by show lk.r <= lk.r + 1;omega,fun _=>by show 0 <= lk.b - 1;omega⟩
  ·exact⟨_,h,rfl,rfl,rfl,Int.le_refl _,id⟩
 refine⟨G.g0,G.gl,G.E2,G.top,G.dn,fun m' t' h j kk ln hj hl=>?_,fun kk ln hl p hp=>?_,G.nd,G.Bj,G.C7,fun kk ln hl m' t' h=>?_,fun kk ln hl z hz=>?_,fun kk ln hl=>?_,fun kk ln hl j p q hp hq=>?_,fun kk ln hl q hq=>?_⟩
 ·obtain⟨l0,h0,e1,e2,e3,e4,e5⟩:=kl hl
  rw[e1];exact G.q m' t' h j kk l0 hj h0
 ·obtain⟨l0,h0,e1,e2,e3,e4,e5⟩:=kl hl
  rw[e1]at hp;exact G.own kk l0 h0 p hp
 ·obtain⟨l0,h0,e1,e2,e3,e4,e5⟩:=kl hl
  rw[e2];exact G.hold kk l0 h0 m' t' h
 ·obtain⟨l0,h0,e1,e2,e3,e4,e5⟩:=kl hl
  rw[e2]at hz;exact G.BB kk l0 h0 z hz
 ·obtain⟨l0,h0,e1,e2,e3,e4,e5⟩:=kl hl
  obtain⟨r1,r2,r3⟩:=G.room kk l0 h0
  exact⟨by rw[e1,e3];exact r1,by omega,e5 r3⟩
 ·obtain⟨l0,h0,e1,e2,e3,e4,e5⟩:=kl hl
  rw[e1]at hp hq;exact G.Fp kk l0 h0 j p q hp hq
 ·obtain⟨l0,h0,e1,e2,e3,e4,e5⟩:=kl hl
  rw[e1]at hq;rw[e2];exact G.lst kk l0 h0 q hq
theorem vg {a:YA}{s:YS}{k m:Nat}{c:Int}{lk:bU}{t:bj}{l:Nat}(hk:s.lanes[k]? = some lk)(hq:lk.qs.head? = some ((m:Int),c))(ht:s.U[m]? = some t)(hl:l ∈ cC a s k):if c=0 then l ∉ t.way else l ∈ (t.way.drop (t.way.idxOf k + 1)).take 1:=by
 have ef:bL s k=some ((m:Int),c):=by unfold bL;rw[hk];exact hq
 unfold cC at hl
 rw[ef]at hl
 have hl:l ∈ (match s.U[(m:Int).toNat]? with | none=>[] | some t=>if c=0 then (pK a k t.goal.toNat).filter fun l=>!decide (l ∈ t.way) else (t.way.drop (t.way.idxOf k + 1)).take 1):=hl
 rw[toNat_natCast,ht]at hl
 have hl:l ∈ (if c=0 then (pK a k t.goal.toNat).filter fun l=>!decide (l ∈ t.way) else (t.way.drop (t.way.idxOf k + 1)).take 1):=hl
 by_cases h:c=0
 ·rw[if_pos h]at hl ⊢
  have:=(mem_filter.mp hl).2
  simpa using this
 ·rw[if_neg h]at hl ⊢;exact hl
theorem ky {l:List Nat}{j x:Nat}(h:x ∈ (l.drop j).take 1):l[j]? = some x:=by
 cases hd:l.drop j with
 | nil=>rw[hd]at h;cases h
 | cons y ys =>
  rw[hd]at h
  have h:x ∈ [y]:=h
  rw[mem_singleton]at h
  subst h
  have:=List.getElem?_drop (xs:=l) (i:=j) (j:=0)
  rw[hd]at this
  exact this.symm
theorem uy {l:List Nat}(h:l.Nodup){i x:Nat}(hi:l[i]? = some x):l.idxOf x=i:=by
 obtain⟨h1,e1⟩:=List.getElem?_eq_some_iff.mp hi
 have hx:x ∈ l:=mem_of_getElem? hi
 have h2:l.idxOf x < l.length:=List.idxOf_lt_length_of_mem hx
 have h3:l[l.idxOf x]? = some x:=by rw[List.getElem?_eq_getElem h2,List.getElem_idxOf h2]
 exact c5 h h3 hi
theorem AY.step {a:YA}{s s':YS}{N:Nat->Nat->Nat}{mv:Mv}(G:AY a s N zr)(J:AU a s)(h:Co a s mv s'):∃ N',AY a s' N' zr:=by
 cases h with
 | @Bp m l t ln ht hg hl Aa ho =>
  have G1:=G.leave ht hg
  have g0:=G.g0 m t ht
  have g0:(N m 0:Int)=t.gone:=g0
  have gl:=G.gl m t ht
  have IL:(dB s m t).U[m]? = some { t with gone:=t.gone + 1 }:=eG ht
  refine⟨_,G1.enter IL g0.symm (fun h0=>?_) (fun h0=>?_) (by show t.gone + 1 <= t.len;omega) Aa ho⟩
  ·have:=J.AG m t ht h0
   show 0=t.way.length/\l ∉ t.way
   rw[this];exact⟨rfl,not_mem_nil⟩
  ·unfold c9 at hl
   rw[if_neg h0]at hl
   exact ky (j:=0) hl
 | @on k l m c lk ln t hk hq ht hl Aa ho =>
  obtain⟨i,hi,hc,Ae,G1⟩:=G.pull hk hq ht
  have hw:=vg hk hq ht hl
  have Fn:=(List.getElem?_eq_some_iff.mp hi).1
  obtain⟨d1,d2,d3⟩:=G.dn m t ht i Fn
  refine⟨_,G1.enter (t:=t) ht hc (fun h0=>?_) (fun h0=>?_) (by omega) Aa ho⟩
  ·rw[if_pos h0]at hw
   refine⟨?_,hw⟩
   rcases lt_or_ge (i + 1) t.way.length with h | h
   ·have:=(G.dn m t ht (i + 1) h).2.1
    omega
   ·omega
  ·rw[if_neg h0]at hw
   rw[uy (G.nd m t ht) hi]at hw
   exact ky hw
 | @Bj k m e c lk t qs hk hq ht hg he BF =>
  obtain⟨i,hi,hc,Ae,G1⟩:=G.pull hk hq ht
  have ew:i + 1=t.way.length:=J.last m t ht i k hi (by show(a.ps.getD k (0,0)).2=_;rw[he,hg])
  rw[ew]at hc G1
  exact⟨_,G1.lay (t:=t) ht hc hg BF (fun z=>by rw[z]at hi;cases hi)⟩
 | @back k lk hk hb=>exact⟨N,G.back hk hb⟩
theorem AY.dn' {a:YA}{s:YS}{N D:Nat->Nat->Nat}(G:AY a s N D)(d:List (List V)):AY a { s with done:=d } N D:=⟨G.g0,G.gl,G.E2,G.top,G.dn,G.q,G.own,G.nd,G.Bj,G.C7,G.hold,G.BB,G.room,G.Fp,G.lst⟩
theorem AY.post {a:YA}{s:YS}{N:Nat->Nat->Nat}(G:AY a s N zr){x y l u:Int}(hl:0 <= l):∃ N',AY a (gc s x y l u) N' zr:=by
 have el:∀ (m:Nat)(t:bj),(gc s x y l u).U[m]? = some t->(m ≠ s.U.length/\s.U[m]? = some t)∨(m=s.U.length/\t = ⟨x,y,l,u,0,[]⟩):=fun m t ht=>by
  have ht:(s.U ++ [(⟨x,y,l,u,0,[]⟩:bj)])[m]? = some t:=ht
  by_cases hm:m < s.U.length
  ·rw[List.getElem?_append_left hm]at ht;exact .inl ⟨by omega,ht⟩
  ·have h3:=(List.getElem?_eq_some_iff.mp ht).1
   rw[length_append,length_singleton]at h3
   have em:m=s.U.length:=by omega
   subst em
   rw[List.getElem?_concat_length]at ht
   cases ht
   exact .inr ⟨rfl,rfl⟩
 have eo:∀ {m:Nat}{t:bj},s.U[m]? = some t->(gc s x y l u).U[m]? = some t:=fun ht=>by
  show(s.U ++ [(⟨x,y,l,u,0,[]⟩:bj)])[_]? = some _
  rw[List.getElem?_append_left (List.getElem?_eq_some_iff.mp ht).1];exact ht
 have nw:∀ {m:Nat}{t:bj},s.U[m]? = some t->m ≠ s.U.length:=fun ht z=>by
  rw[z,List.getElem?_eq_none (Nat.le_refl _)]at ht;cases ht
 refine⟨fun m i=>if m=s.U.length then 0 else N m i,fun m t h=>?_,fun m t h=>?_,fun m t h j hj=>?_,fun m t h hw=>?_,fun m t h j hj=>?_,fun m t h j kk ln hj hl=>?_,fun kk ln hl p hp=>?_,fun m t h=>?_,fun m t h p qs hp=>?_,fun p qs hp q hq=>?_,fun kk ln hl m t h=>?_,fun kk ln hl z hz=>?_,G.room,fun kk ln hl j p q hp hq=>?_,fun kk ln hl q hq=>?_⟩
 ·rcases el m t h with ⟨Af,h⟩ | ⟨e,rfl⟩
  ·simp only[if_neg Af];exact G.g0 m t h
  ·simp only[if_pos e];rfl
 ·rcases el m t h with ⟨Af,h⟩ | ⟨e,rfl⟩
  ·exact G.gl m t h
  ·exact hl
 ·rcases el m t h with ⟨Af,h⟩ | ⟨e,rfl⟩
  ·simp only[if_neg Af];exact G.E2 m t h j hj
  ·simp only[if_pos e];rfl
 ·rcases el m t h with ⟨Af,h⟩ | ⟨e,rfl⟩
  ·simp only[if_neg Af];exact G.top m t h hw
  ·simp only[if_pos e]
 ·rcases el m t h with ⟨Af,h⟩ | ⟨e,rfl⟩
  ·simp only[if_neg Af];exact G.dn m t h j hj
  ·cases hj
 ·rcases el m t h with ⟨Af,h⟩ | ⟨e,rfl⟩
  ·simp only[if_neg Af];exact G.q m t h j kk ln hj hl
  ·cases hj
 ·obtain⟨m,t,e,h,hw⟩:=G.own kk ln hl p hp
  exact⟨m,t,e,eo h,hw⟩
 ·rcases el m t h with ⟨Af,h⟩ | ⟨e,rfl⟩
  ·exact G.nd m t h
  ·exact nodup_nil
 ·rcases el m t h with ⟨Af,h⟩ | ⟨e,rfl⟩
  ·simp only[if_neg Af];exact G.Bj m t h p qs hp
  ·simp only[if_pos e]
   rw[iO (Nat.le_refl _),ite_self]
   refine qf fun q hq e2=>?_
   obtain⟨m',t',e3,h'⟩:=G.C7 p qs hp q hq
   have:=nw h'
   rw[e2]at e3
   omega
 ·obtain⟨m,t,e,h⟩:=G.C7 p qs hp q hq
  exact⟨m,t,e,eo h⟩
 ·rcases el m t h with ⟨Af,h⟩ | ⟨e,rfl⟩
  ·simp only[if_neg Af];exact G.hold kk ln hl m t h
  ·refine⟨fun z=>?_,fun zH=>by obtain⟨j,hj,_⟩:=zH;cases hj⟩
   obtain⟨m',t',e3,h'⟩:=G.BB kk ln hl _ z
   have:=nw h'
   omega
 ·obtain⟨m,t,e,h⟩:=G.BB kk ln hl z hz
  exact⟨m,t,e,eo h⟩
 ·rcases G.Fp kk ln hl j p q hp hq with z | ⟨z,m',t2,e,h2,e2⟩
  ·exact .inl z
  ·exact .inr ⟨z,m',t2,e,eo h2,e2⟩
 ·rcases G.lst kk ln hl q hq with z | ⟨z,m',t2,e,h2,e2⟩
  ·exact .inl z
  ·exact .inr ⟨z,m',t2,e,eo h2,e2⟩
theorem SE {a:YA}{rs:List Int}{n:Nat}(h:∀ r ∈ rs,1 <= r/\r <= 60):AY a (Y0 (rs.map V.int) n) zr zr:=by
 have Aa:∀ {k:Nat}{ln:bU},(Y0 (rs.map V.int) n).lanes[k]? = some ln->∃ r,rs[k]? = some r/\ln = ⟨r,0,none,[]⟩:=fun {k ln} hl=>by
  have hl:(((rs.map V.int).map pR))[k]? = some ln:=hl
  rw[List.getElem?_map,List.getElem?_map]at hl
  cases hr:rs[k]? with
  | none=>rw[hr]at hl;cases hl
  | some r=>rw[hr]at hl;cases hl;exact⟨r,rfl,rfl⟩
 have nl:∀ {m:Nat}{t:bj},(Y0 (rs.map V.int) n).U[m]? = some t->False:=fun h=>by cases h
 have SG:∀ {p:Nat}{qs:List (Int × Int)},(Y0 (rs.map V.int) n).lies[p]? = some qs->qs=[]:=fun {p qs} hp=>by
  have hp:(List.replicate n ([]:List (Int × Int)))[p]? = some qs:=hp
  rw[List.getElem?_replicate]at hp
  split at hp
  ·cases hp;rfl
  ·cases hp
 refine⟨fun m t h=>(nl h).elim,fun m t h=>(nl h).elim,fun m t h=>(nl h).elim,fun m t h=>(nl h).elim,fun m t h=>(nl h).elim,fun m t h=>(nl h).elim,fun kk ln hl p hp=>?_,fun m t h=>(nl h).elim,fun m t h=>(nl h).elim,fun p qs hp q hq=>?_,fun kk ln hl m t h=>(nl h).elim,fun kk ln hl z hz=>?_,fun kk ln hl=>?_,fun kk ln hl j p q hp hq=>?_,fun kk ln hl q hq=>?_⟩
 ·obtain⟨r,hr,rfl⟩:=Aa hl
  cases hp
 ·rw[SG hp]at hq;cases hq
 ·obtain⟨r,hr,rfl⟩:=Aa hl
  cases hz
 ·obtain⟨r,hr,rfl⟩:=Aa hl
  have IK:=h r (mem_of_getElem? hr)
  refine⟨?_,by show 0 <= r;omega,Int.le_refl _⟩
  show(rs.map V.int)[kk]? = some (.int (r + 0 + ((0:Nat):Int)))
  rw[List.getElem?_map,hr]
  show some (V.int r)=_
  congr 2;omega
 ·obtain⟨r,hr,rfl⟩:=Aa hl
  cases hp
 ·obtain⟨r,hr,rfl⟩:=Aa hl
  cases hq
noncomputable def DC (H:Hp)(v:V)(t:bj):Prop:=∃ x,v = .ref x/\H x=some (.tup [.int t.start, .int t.goal, .int t.len])
theorem DC.keep {H H':Hp}(k:Ah H H')(v:V)(t:bj)(h:DC H v t):DC H' v t:=by
 obtain⟨x,e,h1⟩:=h
 exact⟨x,e,k _ _ h1 True.intro⟩
theorem DC.same {H H':Hp}(s:zD H H')(v:V)(t:bj)(h:DC H v t):DC H' v t:=DC.keep (zD.zZ s) v t h
structure Cr (H:Hp)(le:Addr)(zK:List V)(ls:List bj):Prop where
 g:H le=some (.lst zK)
 p:Paired (DC H) zK ls
theorem Cr.same {H H':Hp}{le:Addr}{zK:List V}{ls:List bj}(h:Cr H le zK ls)(s:zD H H'):Cr H' le zK ls:=⟨s _ _ h.g,Paired.mono (fun v t=>DC.same s v t) h.p⟩
noncomputable def xa:Sp:=fun vs H Q _=>∃ (ql le:Addr)(MV zK:List V)(qs:List (Int × Int))(s:YS),vs=[.ref ql, .ref le]/\H ql=some (.lst MV)/\zX H MV qs/\Cr H le zK s.U/\qs.length < 100000/\(∀ q ∈ qs,∃ (m:Nat)(t:bj),q.1=(m:Int)/\s.U[m]? = some t)/\(∀ (i:Nat)(p q:Int × Int),qs[i]? = some p->qs[i + 1]? = some q->JA s p q)/\Q (.bl true) H
abbrev SH:List Str:=["_law_queue", "_law_letters", "_law_k", "_law_number", "_law_count", "_law_before", "_law_ahead", "_law_follows", "_law_begins_here"]
theorem B1:am SH ["_law_queue", "_law_letters"] (ai xV):=L2.Ad
theorem y4 {f:Addr}{fd:FuncData}(F:Ab K "_law_stretches" "_law_stretches" xV f fd)(T:eW mg):zE P w K mg base aG 1 f fd ["_law_queue", "_law_letters"] xa:=by
 refine F.ok B1 (fun vs H Q E h=>?_) (fun cdv A outer s H vs Q E hr h=>?_)
 ·obtain⟨ql,le,MV,zK,qs,s,rfl,_⟩:=h
  rfl
 ·obtain⟨ql,le,MV,zK,qs,st,rfl,gq,hq,hL,O9,BB,SI,q⟩:=h
  refine⟨_,ae (b5 PassesOwn.never rfl (jX rfl T.range (aa aj (aa (ax ao rfl T.len PySem.boot_len (aa (pv 0) ad)) ad))) (au (i:=2) B1.nd rfl (Or.inl rfl))
    (ae (gE (aw aI (pv 0) (pv 2) (fun _ _=>rfl)) (dM rfl (aN (au (i:=3) B1.nd rfl (Or.inl rfl)) (aN (au (i:=4) B1.nd rfl (Or.inl rfl)) cy))))
    (ae (gE (aw aI (pv 0) (aE dq (pv 2) aj) (fun _ _=>rfl)) (dM rfl (aN (au (i:=5) B1.nd rfl (Or.inl rfl)) (aN (au (i:=6) B1.nd rfl (Or.inl rfl)) cy))))
    (ae (cU (ay (i:=7) B1.nd rfl (Or.inl rfl) (c8 (bO aZ (pv 3) (pv 5) (av _)) (c7 (bO aZ (pv 4) (aE bB (pv 6) aj) (av _))))))
    (ae (cU (ay (i:=8) B1.nd rfl (Or.inl rfl) (c8 (bO aZ (pv 4) aj (av _)) (c7 (bO aZ (pv 6) (aE dq (aw aB (aw aI (pv 1) (pv 5) (fun _ _=>rfl)) aj (fun _ _=>rfl)) aj) (av _))))))
    (ah (aL (PW.pt (eI (bE (bu (pv 7))) (dG (bE (bu (pv 8)))))) (ah (ar ge)) aA)))))))
   (ah (ar ge)),?_⟩
  have Fj:MV.length=qs.length:=Paired.length hq
  refine⟨_,rfl,ql,_,rfl, .inl (zJ.of gq),1,_,rfl,⟨by decide,by decide,by omega,by omega⟩,?_⟩
  refine aW (lo:=1) (fun i σ H2=>∃ (a2 a3 a4 a5 a6 a7 a8:Option V),H2=H/\σ=[some (.ref ql),some (.ref le),a2,a3,a4,a5,a6,a7,a8]) ⟨none,none,none,none,none,none,none,rfl,rfl⟩ ?_ ?_
  rotate_left
  ·rintro σ H2 ⟨_,_,_,_,_,_,_,rfl,rfl⟩
   exact q
  rintro i σ H2 hi ⟨a2,a3,a4,a5,a6,a7,a8,rfl,rfl⟩
  have OB:i + 1 < qs.length:=by omega
  rw[show (1:Int) + (i:Int)=((i + 1:Nat):Int) by omega]
  obtain⟨v1,R4,x1,e1,g1⟩:=Paired.at2 hq (List.getElem?_eq_getElem OB)
  obtain⟨v0,Jt,x0,e0,g0⟩:=Paired.at2 hq (List.getElem?_eq_getElem (show i < qs.length by omega))
  subst e1;subst e0
  have hn:=SI i _ _ (List.getElem?_eq_getElem (show i < qs.length by omega)) (List.getElem?_eq_getElem OB)
  obtain⟨m,t,em,ht⟩:=BB _ (getElem_mem (show i < qs.length by omega))
  generalize qs[i]=p at *
  generalize qs[i + 1]=r at *
  obtain⟨p1,p2⟩:=p
  obtain⟨r1,r2⟩:=r
  have em:p1=(m:Int):=em
  subst em
  obtain⟨lv,Fl,xl,el,gl⟩:=Paired.at2 hL.p ht
  subst el
  refine⟨_,rfl,_,rfl,ql,_,_,_,rfl,rfl,zJ.of gq,ak R4,x1,_,rfl,zM.of g1,rfl,_,_,rfl,_,_,rfl,rfl,?_⟩
  refine⟨_,rfl,_,rfl,_,_,rfl,rfl,ql,_,(i:Int),_,rfl,by show V.int (((i + 1:Nat):Int) - 1)=_;congr 1;omega,zJ.of gq,ak Jt,x0,_,rfl,zM.of g0,rfl,_,_,rfl,_,_,rfl,rfl,?_⟩
  refine⟨fun σ' H'=>H' = H2/\∃ b7:Bool,(b7=true↔(r1=(m:Int)/\r2=p2 + 1))/\σ' = [some (.ref ql),some (.ref le),some (.int ((i + 1:Nat):Int)),some (.int r1),some (.int r2),some (.int m),some (.int p2),some (.bl b7),a8],?_,?_⟩
  ·refine⟨_,rfl,_,rfl,rfl,_,rfl,?_⟩
   by_cases h:r1=(m:Int)
   ·rw[decide_eq_true (show V.int r1=V.int m by rw[h])]
    refine aH ⟨_,rfl,_,rfl,_,_,rfl,rfl,rfl,rfl,_,?_,rfl⟩
    rw[decide_eq_true_eq]
    exact⟨fun z=>⟨h,V.int.inj z⟩,fun z=>congrArg V.int z.2⟩
   ·rw[decide_eq_false (show ¬ V.int r1=V.int m from fun z=>h (V.int.inj z))]
    exact aD ⟨rfl,false,⟨fun z=>by (cases z),fun z=>absurd z.1 h⟩,rfl⟩
  rintro σ' H' ⟨rfl,b7,hb7,rfl⟩
  refine⟨fun σ' H2=>H2=H'/\∃ b8:Bool,(b8=true↔(r2=0/\p2=t.len - 1))/\σ' = [some (.ref ql),some (.ref le),some (.int ((i + 1:Nat):Int)),some (.int r1),some (.int r2),some (.int m),some (.int p2),some (.bl b7),some (.bl b8)],?_,?_⟩
  ·refine⟨_,rfl,rfl,_,rfl,?_⟩
   by_cases h:r2=0
   ·rw[decide_eq_true (show V.int r2=V.int 0 by rw[h])]
    refine aH ⟨_,rfl,_,rfl,_,rfl,le,_,_,_,rfl,rfl,zJ.of hL.g,ak Fl,xl,_,2,_,rfl,rfl,zM.of gl,ak (j:=2) rfl,_,_,rfl,rfl,rfl,rfl,_,?_,rfl⟩
    rw[decide_eq_true_eq]
    exact⟨fun z=>⟨h,V.int.inj z⟩,fun z=>congrArg V.int z.2⟩
   ·rw[decide_eq_false (show ¬ V.int r2=V.int 0 from fun z=>h (V.int.inj z))]
    exact aD ⟨rfl,false,⟨fun z=>by (cases z),fun z=>absurd z.1 h⟩,rfl⟩
  rintro σ' H2 ⟨rfl,b8,hb8,rfl⟩
  refine⟨_,rfl,_,rfl,?_⟩
  cases b7 with
  | true=>exact aD (aD ⟨_,_,_,_,_,_,_,rfl,rfl⟩)
  | false =>
   refine aH ⟨_,rfl,_,rfl,?_⟩
   cases b8 with
   | true=>exact aD ⟨_,_,_,_,_,_,_,rfl,rfl⟩
   | false =>
    exfalso
    rcases hn with ⟨z1,z2⟩ | ⟨z1,m',t',e',Dk,z2⟩
    ·exact absurd (hb7.mpr ⟨z1,z2⟩) (by decide)
    ·have e':(m:Int)=(m':Int):=e'
     have:m' = m:=by omega
     subst this
     rw[ht]at Dk;cases Dk
     exact absurd (hb8.mpr ⟨z1,z2⟩) (by decide)
theorem uO (m:Nat)(qs:List (Int × Int))(l c:Int):dE m (qs ++ [(l,c)])=if l=(m:Int) then dE m qs ++ [c] else dE m qs:=by
 rw[eM]
 unfold dE
 by_cases h:l=(m:Int)
 ·rw[if_pos h,filter_cons_of_pos (by simpa using h)];rfl
 ·rw[if_neg h,filter_cons_of_neg (by simpa using h)];simp
theorem wK (m:Nat)(qs:List (Int × Int)):(dE m qs).length <= qs.length:=by
 unfold dE;rw[length_map];exact length_filter_le _ _
theorem mZ {K:Frag}{a:Addr}{vs:List V}{qs:List (Int × Int)}{m:Nat}{g:TG}{tt:TT}{te:TE}{σ0:St}{H:Hp}{Q:VK}(ha:H a=some (.lst vs))(hL:zX H vs qs)(hn:qs.length < sizeLine)
  (hs:∀ (x:Addr)(l c:Int)(acc:List V)(N:List V->Hp->Prop),H x=some (.tup [.int l, .int c])->N (if l=(m:Int) then acc ++ [.int c] else acc) H->g (.ref x) σ0 H fun σ2 H2=>tt σ2 H2 fun b H3=>if b=true then te σ2 H3 fun y H4=>N (acc ++ [y]) H4 else N acc H3)
  (hq:∀ D,H D=none->Q (.ref D) (upd H D (.lst ((dE m qs).map V.int)))):eB (vd K a) g tt te σ0 Q H:=by
 have hl:vs.length=qs.length:=Paired.length hL
 refine bJ qs.length hn (fun i acc H'=>H' = H/\acc=(dE m (qs.take i)).map V.int) ⟨rfl,rfl⟩ (fun i acc H' h=>by rw[h.2,length_map];exact le_trans (wK _ _) (length_take_le _ _)) (fun i acc H' hi h=>?_) (fun acc H' h=>?_)
 ·obtain⟨rfl,rfl⟩:=h
  have hx:vs[i]? = some (vs[i]'(by omega)):=List.getElem?_eq_getElem (by omega)
  refine⟨⟨vs,_,zJ.of ha,hx⟩,fun v H2 y=>?_⟩
  obtain⟨rfl,y⟩:=y
  have hv:=y vs (zJ.of ha)
  obtain⟨pr,hpr,x,rfl,gx⟩:=Paired.at hL hv
  obtain⟨l,c⟩:=pr
  refine hs x l c _ (fun Aw H3=>H3=H2/\Aw = (dE m (qs.take (i + 1))).map V.int) gx ⟨rfl,?_⟩
  rw[take_succ,hpr]
  show _=(dE m (qs.take i ++ [(l,c)])).map V.int
  rw[uO]
  split
  ·rw[map_append];rfl
  ·rfl
 ·obtain⟨rfl,rfl⟩:=h
  rw[List.take_of_length_le (Nat.le_refl _)]
  exact⟨⟨vs,zJ.of ha,by omega⟩,fun D hD=>hq D hD⟩
theorem fL {K:Frag}{H:Hp}:∀ xs:List Int,iK K H (xs.map V.int) (xs.map PyData.int)
 | [] => .nil
 | _ :: xs => .cons (.int _) (fL xs)
theorem gR (xs:List Int):BK (.list (xs.map PyData.int)) 64:=(eZ (m:=0) fun z hz=>by
 obtain⟨x,_,rfl⟩:=mem_map.mp hz
 exact cK _).le (by decide)
theorem MW (x y:Nat):(List.range' x (y - x)).map (fun k:Nat=>V.int (k:Int))=(eV x y).map V.int:=by unfold eV;rw[map_map];rfl
noncomputable def cn (N:Nat->Nat->Nat)(m w:Nat):List Int:=(List.range w).map fun i=>(N m i:Int)
theorem qy (N:Nat->Nat->Nat)(m w j:Nat)(h:j < w):(N m j:Int) :: ((cn N m w).drop (j + 1))=(cn N m w).drop j:=by
 have hl:j < (cn N m w).length:=by unfold cn;rw[length_map,length_range];exact h
 rw[List.drop_eq_getElem_cons hl]
 have e:(cn N m w)[j]=(N m j:Int):=by simp[cn]
 rw[e]
theorem AU.WS {a:YA}{s:YS}(J:AU a s){k:Nat}{ln:bU}(h:s.lanes[k]? = some ln):ln.qs.length <= 3600:=by
 have h1:=fE (fun ln:bU=>ln.qs.length) h
 have h2:=J.ER.2
 have h1:ln.qs.length <= jf s:=h1
 omega
theorem AU.lsm {a:YA}{s:YS}(J:AU a s){k:Nat}{qs:List (Int × Int)}(h:s.lies[k]? = some qs):qs.length <= 3600:=by
 have h1:=fE (fun q:List (Int × Int)=>q.length) h
 have h2:=J.ER.2
 have h1:qs.length <= iE s:=h1
 omega
structure OS (P:Program)(w:World)(K:Frag)(mg:Str->Option Value)(base:Heap)(ys:Ys)(ft fw fy:Addr)(dt dw dy:FuncData):Prop where
 mt:bD K ys.zG "lane_told" ft
 bt:Binds K dt ["self", "lane"] []
 Gt:zE P w K mg base aG 2 ft dt ["self", "lane"] (p5 K ys)
 mw:bD K ys.zG "way_told" fw
 bw:Binds K dw ["self", "number"] []
 Gw:zE P w K mg base aG 1 fw dw ["self", "number"] (rS K ys)
 my:bD K ys.zG "lying" fy
 RP:Binds K dy ["self", "place"] []
 Gy:zE P w K mg base aG 1 fy dy ["self", "place"] (py K ys)
structure Std (K:Frag)(ys:Ys)(H:Hp)(a:YA)(s:YS)(N:Nat->Nat->Nat)(le:Addr)(zK:List V):Prop where
 Y:AA K ys H a s
 J:AU a s
 G:AY a s N zr
 L:Cr H le zK s.U
theorem Std.same {K:Frag}{ys:Ys}{H H':Hp}{a:YA}{s:YS}{N:Nat->Nat->Nat}{le:Addr}{zK:List V}(h:Std K ys H a s N le zK)(e:zD H H'):Std K ys H' a s N le zK:=⟨zR.same h.Y e,h.J,h.G,h.L.same e⟩
noncomputable def rX (K:Frag)(ys:Ys):Sp:=fun vs H Q _=>∃ (a:YA)(s:YS)(N:Nat->Nat->Nat)(le:Addr)(zK:List V)(m:Nat)(t:bj),vs=[.ref a.y, .int m, .ref le, .int a.n]/\Std K ys H a s N le zK/\s.U[m]? = some t/\a.n <= 100 /\
 ∀ (D:Addr)(H':Hp),zD H H'->H D=none->H' D=some (.lst ((cn N m t.way.length).map V.int))->Q (.ref D) H'
abbrev SJ:List Str:=["_law_yard", "_law_number", "_law_letters", "_law_places", "_law_way", "_law_lies", "_law_place", "_law_pieces", "_law_behind", "_law_found", "_law_lane_here", "_law_counts"]
noncomputable def MX (i:Nat)(s:Stmt):Scope:=match s with
 | .For _ _ b _ _=>wN (b.getD i (.Pass ⟨0,0,0,0⟩))
 | _=>{ kind := .function,names:=[],isGenerator:=false,isCoroutine:=false }
theorem AY.Az {a:YA}{s:YS}{N:Nat->Nat->Nat}(G:AY a s N zr)(J:AU a s){m:Nat}{t:bj}(ht:s.U[m]? = some t){i:Nat}(hi:i < t.way.length):N m i <= 60:=by
 have:=(G.dn m t ht i hi).2.2
 have:=(J.B9 m t ht).2.2
 omega
theorem BD:am SJ ["_law_yard", "_law_number", "_law_letters", "_law_places"] (ai jo):=L2.Ad
theorem MY:AS SJ (ai jo) (MX 0 ((aJ jo).getD 2 (.Pass ⟨0,0,0,0⟩))) ["_law_number"] [1]:=L2.BS
theorem MZ:AS SJ (ai jo) (MX 0 ((aJ jo).getD 5 (.Pass ⟨0,0,0,0⟩))) ["_law_number"] [1]:=L2.BS
theorem wl:(["_law_letter", "_law_count", "_law_number"]:List Str).Nodup:=by decide +kernel
theorem vP {ys:Ys}{f ft fw fy:Addr}{fd dt dw dy:FuncData}(F:Ab K "_law_sent" "_law_sent" jo f fd)(T:eW mg)(Y:iJ K ys)(S:OS P w K mg base ys ft fw fy dt dw dy) :
  zE P w K mg base aG 3 f fd ["_law_yard", "_law_number", "_law_letters", "_law_places"] (rX K ys):=by
 refine F.ok BD (fun vs H Q E h=>?_) (fun cdv A outer s H vs Q E hr h=>?_)
 ·obtain⟨a,s,N,le,zK,m,t,rfl,_⟩:=h
  rfl
 ·obtain⟨a,st,N,le,zK,m,t,rfl,hS,ht,hn,q⟩:=h
  have hu:=hr.units
  have Ax:zN 1 _:=hr.mono (by decide)
  have AB:zN 2 _:=hr.mono (by decide)
  refine⟨_,ae (ay (i:=4) BD.nd rfl (Or.inl rfl) (aC (pv 0) Y.cl S.mw S.Gw Ax S.bw .nil aq (aa (pv 1) ad)))
   (ae (ay (i:=5) BD.nd rfl (Or.inl rfl) aj)
   (ae (b5 PassesOwn.never rfl (aM rfl T.range (aa (pv 3) ad)) (au (i:=6) BD.nd rfl (Or.inl rfl))
    (ae (cY (i:=7) (own:=["_law_letter", "_law_count"]) (capN:=["_law_number"]) (cap:=[1]) MY rfl BD.nd rfl rfl (bN (aC (pv 0) Y.cl S.my S.Gy Ax S.RP .nil aq (aa (pv 6) ad)))
     (fun C s' H' fp=>⟨(show PG _ _ (u8 K 2 _) from dM rfl (aN (au (i:=0) wl rfl (Or.inl rfl)) (aN (au (i:=1) wl rfl (Or.inl rfl)) cy))),bM (ap aZ (pv 0) (pv 2) (av _)),pv 1⟩))
    (ae (cU (aL (PW.pt (eI (ap gZ (pv 6) (aw aB (aw aI (pv 2) (pv 1) (fun _ _=>rfl)) aj (fun _ _=>rfl)) (av _)) (dG (ap (gF hu) (pv 7) (aO ad) (av _))))) (ah (ar bV)) aA))
    (ah (ay (i:=5) BD.nd rfl (Or.inl rfl) (aE bB (pv 5) (ax ao rfl T.len PySem.boot_len (aa (pv 7) ad))))))))
   (ae (ay (i:=8) BD.nd rfl (Or.inl rfl) (pv 5))
   (ae (ay (i:=9) BD.nd rfl (Or.inl rfl) (aO ad))
   (ae (b5 PassesOwn.never rfl (yn rfl T.rev (aa (pv 4) ad)) (au (i:=10) BD.nd rfl (Or.inl rfl))
    (ae (cY (i:=11) (own:=["_law_letter", "_law_count"]) (capN:=["_law_number"]) (cap:=[1]) MZ rfl BD.nd rfl rfl (bN (aw aB (aC (pv 0) Y.cl S.mt S.Gt AB S.bt .nil aq (aa (pv 10) ad)) aj (fun _ _=>rfl)))
     (fun C s' H' fp=>⟨(show PG _ _ (u8 K 2 _) from dM rfl (aN (au (i:=0) wl rfl (Or.inl rfl)) (aN (au (i:=1) wl rfl (Or.inl rfl)) cy))),bM (ap aZ (pv 0) (pv 2) (av _)),pv 1⟩))
    (ae (aL (ap (gF hu) (pv 11) (bF (jI rfl) rfl T.list PySem.Pv.boot_list (aa (bF r8 rfl T.range PyProof.Rows.boot_range (aa (pv 8) (aa (aE bB (pv 8) (ax ao rfl T.len PySem.boot_len (aa (pv 11) ad))) ad))) ad)) (av _)) (ah (ar bV)) aA)
    (ae (ay (i:=8) BD.nd rfl (Or.inl rfl) (aE bB (pv 8) (ax ao rfl T.len PySem.boot_len (aa (pv 11) ad))))
    (ah (ay (i:=9) BD.nd rfl (Or.inl rfl) (aE tK (aO (aa (pv 8) ad)) (pv 9))))))))
   (ah (ar (pv 9)))))))),?_⟩
  obtain⟨x,y,es,eg,hx,hy⟩:=hS.J.lets m t ht
  refine⟨_,rfl,a.y,a.dy,_,rfl,hS.Y.ins,rfl,_,rfl,a.y,a.dy,a.tb,a.ro,a.la,a.le,a.li,a.dn,st,m,t,rfl,hS.Y,ht,fun W H1 s1 hW gW=>?_⟩
  have Gu:=hS.same s1
  refine⟨_,rfl,(a.n:Int),rfl,by omega,by omega,?_⟩
  rw[toNat_natCast]
  refine aW (lo:=0) (fun i σ H2=>∃ a6 a7:Option V,zD H1 H2/\σ=[some (.ref a.y),some (.int m),some (.ref le),some (.int a.n),some (.ref W),some (.int ((if y < i then N m t.way.length else 0:Nat):Int)),a6,a7,none,none,none,none]) ⟨none,none,zD.refl _,by rw[if_neg (by omega)];rfl⟩ ?_ ?_
  ·rintro i σ H2 hi ⟨a6,a7,s2,rfl⟩
   rw[zero_add]
   have CN:=Gu.same s2
   have Fn:i < st.lies.length:=by rw[hS.J.lies];exact hi
   have BF:=List.getElem?_eq_getElem Fn
   generalize st.lies[i]=qs at BF
   have Na:=hS.J.lsm BF
   have ec:=hS.G.Bj m t ht i qs BF
   refine⟨_,rfl,a.y,a.dy,_,rfl,CN.Y.ins,rfl,_,rfl,a,st,i,qs,rfl,CN.Y,BF,fun D zU H3 s3 hD gD hLD=>?_⟩
   refine⟨D,rfl,⟨_,zJ.of gD⟩,?_⟩
   refine mZ (m:=m) gD hLD (by rw[sizeLine_eq];omega) (fun x l c acc N hx h=>?_) (fun D2 BU=>?_)
   ·refine⟨x,_,rfl,zM.of hx,rfl,_,_,rfl,_,_,rfl,rfl,_,rfl,_,rfl,rfl,_,rfl,?_⟩
    by_cases e:l=(m:Int)
    ·rw[if_pos e]at h
     rw[decide_eq_true (show V.int l=V.int m by rw[e])]
     exact aH ⟨_,rfl,h⟩
    ·rw[if_neg e]at h
     rw[decide_eq_false (show ¬ V.int l=V.int m from fun z=>e (V.int.inj z))]
     exact aD h
   have v1:=s3.new (o := .lst ((dE m qs).map V.int)) BU
   have Hy:(upd H3 D2 (.lst ((dE m qs).map V.int))) D2=some (.lst ((dE m qs).map V.int)):=ac
   show cI 7 (V.ref D2) _ (upd H3 D2 (.lst ((dE m qs).map V.int))) _
   generalize upd H3 D2 (.lst ((dE m qs).map V.int))=H4 at v1 Hy ⊢
   have Hz:=CN.same v1
   obtain⟨lv,Fl,xl,el,gl⟩:=Paired.at2 Hz.L.p ht
   subst el
   refine⟨fun σ' H'=>zD H4 H'/\σ' = [some (.ref a.y),some (.int m),some (.ref le),some (.int a.n),some (.ref W),some (.int ((if y < i then N m t.way.length else 0:Nat):Int)),some (.int i),some (.ref D2),none,none,none,none],?_,?_⟩
   ·refine⟨_,rfl,_,rfl,_,rfl,le,_,_,_,rfl,rfl,zJ.of Hz.L.g,ak Fl,xl,_,1,_,rfl,rfl,zM.of gl,ak (j:=1) rfl,rfl,_,rfl,?_⟩
    by_cases e:(i:Int)=t.goal
    ·rw[decide_eq_true (show V.int i=V.int t.goal by rw[e])]
     exact aD (aD ⟨zD.refl _,rfl⟩)
    ·rw[decide_eq_false (show ¬ V.int i=V.int t.goal from fun z=>e (V.int.inj z))]
     refine aH ⟨_,rfl,zero_le _,fun o1 BZ=>?_⟩
     have v2:=(zD.refl H4).new (o := .lst []) BZ
     have Bv:(upd H4 o1 (.lst [])) o1=some (.lst []):=ac
     generalize upd H4 o1 (.lst [])=H5 at v2 Bv ⊢
     refine neN (f:=PyData.int) (l:=dE m qs) (.lst (zJ.of (v2 _ _ Hy)) (fL _)) (.lst (zJ.of Bv) .nil) (gR _) ⟨_,rfl,?_⟩
     rw[ec,if_neg e]
     exact aD ⟨v2,rfl⟩
   rintro σ' H5 ⟨v2,rfl⟩
   refine⟨_,rfl,_,rfl,D2,_,rfl, .inl (zJ.of (v2 _ _ Hy)),_,_,rfl,rfl,?_⟩
   refine⟨some (.int i),some (.ref D2),(s2.trans v1).trans v2,?_⟩
   have e9:((if y < i then N m t.way.length else 0:Nat):Int) + (((dE m qs).map V.int).length:Int)=((if y < i + 1 then N m t.way.length else 0:Nat):Int):=by
    rw[length_map,ec,eg]
    by_cases e:i=y
    ·subst e
     rw[if_pos rfl,if_neg (show ¬ i < i by omega),if_pos (show i < i + 1 by omega),pC];omega
    ·rw[if_neg (show ¬ (i:Int)=(y:Int) by omega)]
     by_cases e2:y < i
     ·rw[if_pos e2,if_pos (by omega)];simp
     ·rw[if_neg e2,if_neg (by omega)];rfl
   rw[← e9];rfl
  rintro σ H2 ⟨a6,a7,s2,rfl⟩
  rw[if_pos hy]
  have CN:=Gu.same s2
  refine⟨_,rfl,zero_le _,fun Fo WT=>?_⟩
  have v1:=(zD.refl H2).new (o := .lst []) WT
  have WU:(upd H2 Fo (.lst [])) Fo=some (.lst []):=ac
  show cI 9 (V.ref Fo) _ (upd H2 Fo (.lst [])) _
  generalize upd H2 Fo (.lst [])=H3 at v1 WU ⊢
  have DW:(nV t.way).length=t.way.length:=dv _
  have Nb:t.way.length <= 40:=le_trans (ci a.ps.length t.way (hS.J.Ao m t ht).2 (hS.J.Ao m t ht).1) hS.J.Dj
  refine⟨_,rfl,W,nV t.way,rfl,zJ.of (v1 _ _ (s2 _ _ gW)),?_⟩
  have IP:=CN.same v1
  have gW3:=v1 _ _ (s2 _ _ gW)
  have Ei:=(s1.trans s2).trans v1
  refine wD (xs:=nV t.way) (fun i σ H4=>∃ (BA Ek:Option V)(Fo:Addr),zD H3 H4/\H Fo=none/\H4 Fo=some (.lst (((cn N m t.way.length).drop (t.way.length - i)).map V.int))/\σ=[some (.ref a.y),some (.int m),some (.ref le),some (.int a.n),some (.ref W),some (.int (N m t.way.length)),a6,a7,some (.int (N m (t.way.length - i))),some (.ref Fo),BA,Ek]) ⟨none,none,Fo,zD.refl _,(s1.trans s2).free WT,?_,rfl⟩ (fun i σ H4 _ zH=>by obtain⟨_,_,_,s4,_⟩:=zH;exact zJ.of (s4 _ _ gW3)) ?_ ?_
  ·rw[WU,Nat.sub_zero,List.drop_of_length_le (by unfold cn;rw[length_map,length_range];exact Nat.le_refl _)];rfl
  ·rintro i v σ H4 hi hv ⟨BA,Ek,Fo,s4,Nc,FR,rfl⟩
   rw[DW]at hi hv
   obtain⟨j,hj⟩:∃ j,j=t.way.length - 1 - i:=⟨_,rfl⟩
   rw[← hj]at hv
   have Cq:j < t.way.length:=by omega
   have hjk:=List.getElem?_eq_getElem Cq
   generalize t.way[j]=k at hjk
   have ev:v = .int k:=by rw[j1 hjk]at hv;exact(Option.some.inj hv).symm
   subst ev
   have Hz:=IP.same s4
   have B0:k < st.lanes.length:=by rw[hS.J.lanes];exact(hS.J.Ao m t ht).1 k (mem_of_getElem? hjk)
   have Aa:=List.getElem?_eq_getElem B0
   generalize st.lanes[k]=ln at Aa
   have Na:=hS.J.WS Aa
   have ec:dE m ln.qs=eV (N m (j + 1)) (N m j):=hS.G.q m t ht j k ln hjk Aa
   have V9:N m (j + 1) <= N m j:=(hS.G.dn m t ht j Cq).1
   have hf:=hS.G.Az hS.J ht Cq
   refine⟨_,rfl,a.y,a.dy,_,rfl,Hz.Y.ins,rfl,_,rfl,a.y,a.dy,a.tb,a.ro,a.la,a.le,a.li,a.dn,st,k,ln,rfl,Hz.Y,Aa,fun tp ql zU H5 s5 Fj SK Ir OT=>?_⟩
   refine⟨tp,_,3,_,rfl,rfl,zM.of SK,ak (j:=3) rfl,ql,rfl,⟨_,zJ.of Ir⟩,?_⟩
   refine mZ (m:=m) Ir OT (by rw[sizeLine_eq];omega) (fun x l c acc N hx h=>?_) (fun D2 BU=>?_)
   ·refine⟨x,_,rfl,zM.of hx,rfl,_,_,rfl,_,_,rfl,rfl,_,rfl,_,rfl,rfl,_,rfl,?_⟩
    by_cases e:l=(m:Int)
    ·rw[if_pos e]at h
     rw[decide_eq_true (show V.int l=V.int m by rw[e])]
     exact aH ⟨_,rfl,h⟩
    ·rw[if_neg e]at h
     rw[decide_eq_false (show ¬ V.int l=V.int m from fun z=>e (V.int.inj z))]
     exact aD h
   rw[ec]
   have w1:=s5.new (o := .lst ((eV (N m (j + 1)) (N m j)).map V.int)) BU
   have Hy:(upd H5 D2 (.lst ((eV (N m (j + 1)) (N m j)).map V.int))) D2=some (.lst ((eV (N m (j + 1)) (N m j)).map V.int)):=ac
   show cI 11 (V.ref D2) _ (upd H5 D2 (.lst ((eV (N m (j + 1)) (N m j)).map V.int))) _
   generalize upd H5 D2 (.lst ((eV (N m (j + 1)) (N m j)).map V.int))=H6 at w1 Hy ⊢
   rw[show t.way.length - i=j + 1 by omega]
   have CV:((eV (N m (j + 1)) (N m j)).map V.int).length=N m j - N m (j + 1):=by rw[length_map,pC]
   have Nd:((N m (j + 1):Nat):Int) + (((eV (N m (j + 1)) (N m j)).map V.int).length:Int)=((N m (j + 1) + (N m j - N m (j + 1)):Nat):Int):=by rw[CV];omega
   refine⟨_,rfl,_,rfl,_,rfl,_,rfl,D2,_,rfl, .inl (zJ.of Hy),_,_,rfl,rfl,_,_,rfl,fun rp hrp=>?_⟩
   dsimp only
   rw[Nd]
   have w2:=(zD.refl H6).new (o:=oV rp (N m (j + 1)) ((N m (j + 1) + (N m j - N m (j + 1)):Nat):Int)) hrp
   have grp:(upd H6 rp (oV rp (N m (j + 1)) ((N m (j + 1) + (N m j - N m (j + 1)):Nat):Int))) rp=some (oV rp (N m (j + 1)) ((N m (j + 1) + (N m j - N m (j + 1)):Nat):Int)):=ac
   generalize upd H6 rp (oV rp (N m (j + 1)) ((N m (j + 1) + (N m j - N m (j + 1)):Nat):Int))=H7 at w2 grp ⊢
   refine⟨rp,N m (j + 1),N m j - N m (j + 1),rfl,grp,by omega,fun rl SN=>?_⟩
   rw[MW]
   have w3:=(zD.refl H7).new (o := .lst ((eV (N m (j + 1)) (N m j)).map V.int)) SN
   have WV:(upd H7 rl (.lst ((eV (N m (j + 1)) (N m j)).map V.int))) rl=some (.lst ((eV (N m (j + 1)) (N m j)).map V.int)):=ac
   generalize upd H7 rl (.lst ((eV (N m (j + 1)) (N m j)).map V.int))=H8 at w3 WV ⊢
   have SO:=w2.trans w3
   refine neS (d := .list ((eV (N m (j + 1)) (N m j)).map PyData.int)) (.lst (zJ.of (SO _ _ Hy)) (fL _)) (.lst (zJ.of WV) (fL _)) (gR _) ⟨_,rfl,aD ?_⟩
   refine⟨_,rfl,_,rfl,D2,_,rfl, .inl (zJ.of (SO _ _ Hy)),_,_,rfl,rfl,?_⟩
   dsimp only
   rw[Nd,show N m (j + 1) + (N m j - N m (j + 1))=N m j by omega]
   refine⟨_,rfl,by show 1 <= sizeLine;decide,fun o1 BZ=>?_⟩
   have w4:=(zD.refl H8).new (o := .lst [.int (N m j)]) BZ
   have Bv:(upd H8 o1 (.lst [.int (N m j)])) o1=some (.lst [.int (N m j)]):=ac
   generalize upd H8 o1 (.lst [.int (N m j)])=H9 at w4 Bv ⊢
   have t9:=(w1.trans SO).trans w4
   have hlen:(((cn N m t.way.length).drop (t.way.length - i)).map V.int).length <= 41:=by
    rw[length_map,List.length_drop]
    unfold cn
    rw[length_map,length_range]
    omega
   refine⟨_,rfl,o1,Fo,_,_,rfl,rfl,Bv,t9 _ _ FR,by rw[sizeLine_eq,length_singleton];omega,fun Fo2 Nf=>?_⟩
   refine⟨some (.int k),some (.ref D2),Fo2,(s4.trans t9).new Nf,(Ei.trans (s4.trans t9)).free Nf,?_,?_⟩
   ·rw[ac,show t.way.length - (i + 1)=j by omega,show t.way.length - i=j + 1 by omega,← qy N m _ j Cq];rfl
   ·rw[show t.way.length - (i + 1)=j by omega];rfl
  rintro σ H4 ⟨BA,Ek,Fo,s4,Nc,FR,rfl⟩
  rw[DW,Nat.sub_self,List.drop_zero]at FR
  exact⟨_,rfl,q Fo H4 (Ei.trans s4) Nc FR⟩
structure BP (H:Hp)(s:YS)(N:Nat->Nat->Nat)(se:Addr)(Cc:List V):Prop where
 g:H se=some (.lst Cc)
 p:∀ (m:Nat)(t:bj),s.U[m]? = some t->∃ D,Cc[m]? = some (.ref D)/\H D=some (.lst ((cn N m t.way.length).map V.int))
theorem BP.same {H H':Hp}{s:YS}{N:Nat->Nat->Nat}{se:Addr}{Cc:List V}(h:BP H s N se Cc)(e:zD H H'):BP H' s N se Cc:=⟨e _ _ h.g,fun m t ht=>let ⟨D,h1,h2⟩:=h.p m t ht; ⟨D,h1,e _ _ h2⟩⟩
noncomputable def p6 (K:Frag)(ys:Ys):Sp:=fun vs H Q _=>∃ (a:YA)(s:YS)(N:Nat->Nat->Nat)(le:Addr)(zK:List V)(k:Nat)(ln:bU)(se:Addr)(Cc:List V),vs=[.ref a.y, .int k, .int (ln.r + ln.b + ln.qs.length), .ref le, .ref se]/\Std K ys H a s N le zK/\s.lanes[k]? = some ln/\BP H s N se Cc /\
 ∀ H',zD H H'->Q (.bl true) H'
abbrev NLl:List Str:=["_law_yard", "_law_lane_here", "_law_room", "_law_letters", "_law_sent_here", "_law_rights", "_law_back", "_law_holder", "_law_queue", "_law_due", "_law_number", "_law_way", "_law_passed"]
noncomputable def zh (s:YS)(N:Nat->Nat->Nat)(k i:Nat):Option Int->Prop:=fun d=>(∀ z,d=some z->∃ (m:Nat)(t:bj)(j:Nat),z=(m:Int)/\s.U[m]? = some t/\t.way[j]? = some k/\(N m j:Int) < t.len)/\(d=none->∀ (m:Nat)(t:bj)(j:Nat),m < i->s.U[m]? = some t->t.way[j]? = some k->¬ (N m j:Int) < t.len)
theorem oO {a:YA}{s:YS}{N:Nat->Nat->Nat}(G:AY a s N zr){k:Nat}{ln:bU}(hk:s.lanes[k]? = some ln){d:Option Int}(h:zh s N k s.U.length d):ln.h=d:=by
 cases d with
 | none =>
  cases hh:ln.h with
  | none=>rfl
  | some z =>
   obtain⟨m,t,rfl,ht⟩:=G.BB k ln hk z hh
   obtain⟨j,hj,hl⟩:=(G.hold k ln hk m t ht).mp hh
   exact absurd hl (h.2 rfl m t j (List.getElem?_eq_some_iff.mp ht).1 ht hj)
 | some z =>
  obtain⟨m,t,j,rfl,ht,hj,hl⟩:=h.1 z rfl
  exact(G.hold k ln hk m t ht).mpr ⟨j,hj,hl⟩
theorem Cd:am NLl ["_law_yard", "_law_lane_here", "_law_room", "_law_letters", "_law_sent_here"] (ai oh):=L2.Ad
theorem tV {ys:Ys}{f ft fw fy fs:Addr}{fd dt dw dy ds:FuncData}(F:Ab K "_law_lane" "_law_lane" oh f fd)(T:eW mg)(Y:iJ K ys)(S:OS P w K mg base ys ft fw fy dt dw dy)
  (ms:mg "_law_stretches" = some (.ref fs)) (ks:keepIn K (.ref fs)=true) (bs:Binds K ds ["_law_queue", "_law_letters"] []) (Gs:zE P w K mg base aG 1 fs ds ["_law_queue", "_law_letters"] xa) :
  zE P w K mg base aG 3 f fd ["_law_yard", "_law_lane_here", "_law_room", "_law_letters", "_law_sent_here"] (p6 K ys):=by
 refine F.ok Cd (fun vs H Q E h=>?_) (fun cdv A outer s H vs Q E hr h=>?_)
 ·obtain⟨a,s,N,le,zK,k,ln,se,Cc,rfl,_⟩:=h
  rfl
 ·obtain⟨a,st,N,le,zK,k,ln,se,Cc,rfl,hS,Aa,hE,q⟩:=h
  have hu:=hr.units
  have Ax:zN 1 _:=hr.mono (by decide)
  have AB:zN 2 _:=hr.mono (by decide)
  refine⟨_,ae (gE (aC (pv 0) Y.cl S.mt S.Gt AB S.bt .nil aq (aa (pv 1) ad)) (dM rfl (aN (au (i:=5) Cd.nd rfl (Or.inl rfl)) (aN (au (i:=6) Cd.nd rfl (Or.inl rfl)) (aN (au (i:=7) Cd.nd rfl (Or.inl rfl)) (aN (au (i:=8) Cd.nd rfl (Or.inl rfl)) cy))))))
   (ae (aL (PW.pt (eR (ap hU (pv 5) aj (av _)) (eR (ap hU (pv 6) aj (av _)) (dL (ap gZ (aE bB (aE bB (pv 5) (pv 6)) (ax ao rfl T.len PySem.boot_len (aa (pv 8) ad))) (pv 2) (av _)))))) (ah (ar ge)) aA)
   (ae (aL (bE (bu (az Gs Ax rfl ms ks bs .nil aq (aa (pv 8) (aa (pv 3) ad))))) (ah (ar ge)) aA)
   (ae (ay (i:=9) Cd.nd rfl (Or.inl rfl) bV)
   (ae (b5 PassesOwn.never rfl (aM rfl T.range (aa (ax ao rfl T.len PySem.boot_len (aa (pv 3) ad)) ad)) (au (i:=10) Cd.nd rfl (Or.inl rfl))
    (ae (ay (i:=11) Cd.nd rfl (Or.inl rfl) (aC (pv 0) Y.cl S.mw S.Gw Ax S.bw .nil aq (aa (pv 10) ad)))
    (ah (aL (ap jY (pv 1) (pv 11) (by with_unfolding_all rfl))
     (ae (ay (i:=12) Cd.nd rfl (Or.inl rfl) (aw aI (aw aI (pv 4) (pv 10) (fun _ _=>rfl)) (cr plainAttrs_list slot_list_index PySem.F.type_list_index kq (pv 11) (aa (pv 1) ad)) (fun _ _=>rfl)))
     (ah (aL (PW.pt (eI (ap hU aj (pv 12) (av _)) (dG (ap hU (pv 12) (aw aB (aw aI (pv 3) (pv 10) (fun _ _=>rfl)) aj (fun _ _=>rfl)) (av _))))) (ah (ay (i:=9) Cd.nd rfl (Or.inl rfl) (pv 10))) aA))) aA))))
   (ah (ar (bO aZ (pv 7) (pv 9) (av _)))))))),?_⟩
  obtain⟨rm,rr,rb⟩:=hS.G.room k ln Aa
  have Na:=hS.J.WS Aa
  refine⟨_,rfl,a.y,a.dy,_,rfl,hS.Y.ins,rfl,_,rfl,a.y,a.dy,a.tb,a.ro,a.la,a.le,a.li,a.dn,st,k,ln,rfl,hS.Y,Aa,fun tp ql zU H1 s1 Fj SK Ir OT=>?_⟩
  have Gu:=hS.same s1
  have hE1:=hE.same s1
  have Bl:zU.length=ln.qs.length:=Paired.length OT
  refine⟨tp,_,rfl,zM.of SK,rfl,_,_,rfl,_,_,rfl,_,_,rfl,_,_,rfl,rfl,?_⟩
  refine⟨_,rfl,_,_,rfl,rfl,_,rfl,?_⟩
  rw[decide_eq_false (show ¬ ln.r < 0 by omega)]
  refine aD ⟨_,rfl,_,_,rfl,rfl,_,rfl,?_⟩
  rw[decide_eq_false (show ¬ ln.b < 0 by omega)]
  refine aD ⟨_,rfl,_,rfl,_,_,rfl,rfl,_,rfl,ql,_,rfl, .inl (zJ.of Ir),_,_,rfl,rfl,_,rfl,rfl,_,rfl,?_⟩
  rw[Bl,decide_eq_true (show V.int (ln.r + ln.b + (ln.qs.length:Int))=V.int (ln.r + ln.b + (ln.qs.length:Int)) from rfl)]
  refine aD ⟨_,rfl,_,rfl,ql,le,zU,zK,ln.qs,st,rfl,Ir,OT,Gu.L,by omega,(fun p hp=>let ⟨m,t,e,h,_⟩:=hS.G.own k ln Aa p hp; ⟨m,t,e,h⟩),hS.G.Fp k ln Aa,_,rfl,aD ?_⟩
  have D9:zK.length=st.U.length:=Paired.length hS.L.p
  have h60:=hS.J.Az
  refine⟨_,rfl,le,_,rfl, .inl (zJ.of Gu.L.g),(zK.length:Int),rfl,by omega,by omega,?_⟩
  rw[toNat_natCast,D9]
  refine aW (lo:=0) (fun i σ H2=>∃ (BA Ek SQ:Option V)(d:Option Int),zD H1 H2/\zh st N k i d/\σ=[some (.ref a.y),some (.int k),some (.int (ln.r + ln.b + ln.qs.length)),some (.ref le),some (.ref se),some (.int ln.r),some (.int ln.b),some (hV ln.h),some (.ref ql),some (hV d),BA,Ek,SQ]) ⟨none,none,none,none,zD.refl _,⟨fun z h=>(by cases h),fun _ m t j hm=>absurd hm (by omega)⟩,rfl⟩ ?_ ?_
  ·rintro i σ H2 hi ⟨BA,Ek,SQ,d,s2,hd,rfl⟩
   rw[zero_add]
   have CN:=Gu.same s2
   have SR:=hE1.same s2
   have ht:=List.getElem?_eq_getElem hi
   generalize st.U[i]=t at ht
   refine⟨_,rfl,a.y,a.dy,_,rfl,CN.Y.ins,rfl,_,rfl,a.y,a.dy,a.tb,a.ro,a.la,a.le,a.li,a.dn,st,i,t,rfl,CN.Y,ht,fun W H3 s3 hW gW=>?_⟩
   have WW:=SR.same s3
   have IP:=CN.same s3
   rw[kj]at gW
   refine⟨_,rfl,_,rfl,W,_,rfl, .inl (zJ.of gW),rfl,fU _,_,rfl,?_⟩
   have HA:(∀ (j:Nat),t.way[j]? = some k->¬ (N i j:Int) < t.len)->zh st N k (i + 1) d:=fun Jw=>⟨hd.1,fun e m t' j hm Dk hj hl=>by
    rcases lt_or_ge m i with h | h
    ·exact hd.2 e m t' j h Dk hj hl
    ·have:m=i:=by omega
     subst this
     rw[ht]at Dk;cases Dk
     exact Jw j hj hl⟩
   show(if (if false=true then !va (V.int k) ((iz t.way).map V.int) else va (V.int k) ((iz t.way).map V.int))=true then _ else _)
   rw[show(if false=true then !va (V.int k) ((iz t.way).map V.int) else va (V.int k) ((iz t.way).map V.int))=decide ((k:Int) ∈ iz t.way) from iW _ _]
   by_cases DP:k ∈ t.way
   ·have OU:(k:Int) ∈ iz t.way:=mem_map.mpr ⟨k,DP,rfl⟩
    obtain⟨j,hj⟩:=List.getElem?_of_mem DP
    have Cq:=(List.getElem?_eq_some_iff.mp hj).1
    have Nb:t.way.length <= 40:=le_trans (ci a.ps.length t.way (hS.J.Ao i t ht).2 (hS.J.Ao i t ht).1) hS.J.Dj
    obtain⟨D,hD,gD⟩:=WW.p i t ht
    obtain⟨lv,Fl,xl,el,gl⟩:=Paired.at2 IP.L.p ht
    subst el
    have hsj:((cn N i t.way.length).map V.int)[j]? = some (V.int (N i j)):=by
     unfold cn
     rw[map_map,List.getElem?_map,List.getElem?_range Cq];rfl
    rw[decide_eq_true OU]
    refine aH ⟨_,rfl,_,rfl,se,Cc,_,_,rfl,rfl,zJ.of WW.g,ak hD,_,rfl, .inl ⟨rfl,_,zJ.of gW⟩,_,rfl,W,iz t.way,(k:Int),rfl,rfl,gW,OU,by unfold iz;rw[length_map];omega,D,_,(j:Int),_,rfl,by rw[oJ,uy (hS.J.Ao i t ht).2 hj],zJ.of gD,ak hsj,?_⟩
    have Ej:=(hS.G.dn i t ht j Cq).2.1
    refine⟨_,rfl,_,_,rfl,rfl,_,rfl,?_⟩
    rw[decide_eq_true (show (0:Int) < (N i j:Int) by omega)]
    refine aH ⟨_,rfl,_,rfl,_,rfl,le,zK,_,_,rfl,rfl,zJ.of IP.L.g,ak Fl,xl,_,2,_,rfl,rfl,zM.of gl,ak (j:=2) rfl,_,_,rfl,rfl,_,rfl,?_⟩
    by_cases hl:(N i j:Int) < t.len
    ·rw[decide_eq_true hl]
     refine aH ⟨_,rfl,_,_,_,some (i:Int),s2.trans s3,⟨fun z hz=>?_,fun h=>by cases h⟩,rfl⟩
     exact⟨i,t,j,(Option.some.inj hz).symm,ht,hj,hl⟩
    ·rw[decide_eq_false hl]
     exact aD ⟨_,_,_,d,s2.trans s3,HA (fun j' Fz=>by rw[c5 (hS.J.Ao i t ht).2 Fz hj];exact hl),rfl⟩
   ·have OU:(k:Int) ∉ iz t.way:=fun z=>by
     obtain⟨x,hx,e⟩:=mem_map.mp z
     have:x=k:=by omega
     subst this
     exact DP hx
    rw[decide_eq_false OU]
    exact aD ⟨_,_,_,d,s2.trans s3,HA (fun j hj=>absurd (mem_of_getElem? hj) DP),rfl⟩
  rintro σ H2 ⟨BA,Ek,SQ,d,s2,hd,rfl⟩
  have eh:=oO hS.G Aa hd
  refine⟨_,rfl,_,rfl,?_,?_⟩
  ·rw[eh];cases d<;>rfl
  ·rw[eh,decide_eq_true rfl]
   exact q H2 (s1.trans s2)
noncomputable def Ng (P:Program)(w:World):List V->Hp->VK->Prop:=fun xs H Q=>∃ (p:Addr)(ns:List Int),xs=[.ref p]/\H p=some (kW P w p ns)/\ns.Nodup/\ns.length < 64/\Q (.int ns.length) H
noncomputable def tf (P:Program)(w:World)(K:Frag):List V->Hp->VK->Prop:=fun xs H Q=>∃ (p:Addr)(ns:List Int),xs=[.ref p]/\zJ K H p (ns.map V.int)/\ns.length < 64/\∀ q,H q=none->Q (.ref q) (upd H q (kW P w q ns))
noncomputable def pi (K:Frag)(ys:Ys):Sp:=fun vs H Q _=>∃ (a:YA)(s:YS)(N:Nat->Nat->Nat)(le:Addr)(zK:List V)(ro:Addr),vs=[.ref a.y, .ref ro, .ref le, .int a.n]/\Std K ys H a s N le zK/\H ro=some (.lst s.rooms)/\s.rooms.length=s.lanes.length/\a.n <= 100 /\
 ∀ H',zD H H'->Q (.bl true) H'
abbrev WX:List Str:=["_law_yard", "_law_rooms_here", "_law_letters", "_law_places", "_law_sent_here", "_law_number", "_law_way", "_law_passed"]
noncomputable def SS (s:Stmt):Scope:=match s with
 | .Return (some (.Compare (.ListComp _ _ sc _) _ _ _)) _=>sc
 | _=>{ kind := .function,names:=[],isGenerator:=false,isCoroutine:=false }
theorem ux {l:List Nat}(h:l.Nodup):(iz l).Nodup:=by
 unfold iz
 exact List.Pairwise.map _ (fun a b Ep e=>Ep (by omega)) h
theorem EV:am WX ["_law_yard", "_law_rooms_here", "_law_letters", "_law_places"] (ai jq):=L2.Ad
theorem SU:AS WX (ai jq) (SS ((aJ jq).getD 2 (.Pass ⟨0,0,0,0⟩))) ["_law_yard", "_law_rooms_here", "_law_letters", "_law_sent_here"] [0,1,2,4]:=L2.BS
theorem SV:(["_law_lane_here", "_law_yard", "_law_rooms_here", "_law_letters", "_law_sent_here"]:List Str).Nodup:=by decide +kernel
theorem tQ {ys:Ys}{f ft fw fy fs fl:Addr}{fd dt dw dy ds dl:FuncData}(F:Ab K "_law_right" "_law_right" jq f fd)(T:eW mg)(Y:iJ K ys)(S:OS P w K mg base ys ft fw fy dt dw dy)
  (ms:mg "_law_sent" = some (.ref fs)) (ks:keepIn K (.ref fs)=true) (bs:Binds K ds ["_law_yard", "_law_number", "_law_letters", "_law_places"] []) (Gs:zE P w K mg base aG 3 fs ds ["_law_yard", "_law_number", "_law_letters", "_law_places"] (rX K ys))
  (ml:mg "_law_lane" = some (.ref fl)) (kl:keepIn K (.ref fl)=true) (bl:Binds K dl ["_law_yard", "_law_lane_here", "_law_room", "_law_letters", "_law_sent_here"] []) (Gl:zE P w K mg base aG 3 fl dl ["_law_yard", "_law_lane_here", "_law_room", "_law_letters", "_law_sent_here"] (p6 K ys)) :
  zE P w K mg base aG 4 f fd ["_law_yard", "_law_rooms_here", "_law_letters", "_law_places"] (pi K ys):=by
 refine F.ok EV (fun vs H Q E h=>?_) (fun cdv A outer s H vs Q E hr h=>?_)
 ·obtain⟨a,s,N,le,zK,ro,rfl,_⟩:=h
  rfl
 ·obtain⟨a,st,N,le,zK,ro,rfl,hS,WY,CV,hn,q⟩:=h
  have hu:=hr.units
  have Ax:zN 1 _:=hr.mono (by decide)
  refine⟨_,ae (ay (i:=4) EV.nd rfl (Or.inr rfl) (aO ad))
   (ae (b5 PassesOwn.never rfl (aM rfl T.range (aa (ax ao rfl T.len PySem.boot_len (aa (pv 2) ad)) ad)) (au (i:=5) EV.nd rfl (Or.inl rfl))
    (ae (ay (i:=6) EV.nd rfl (Or.inl rfl) (aC (pv 0) Y.cl S.mw S.Gw Ax S.bw .nil aq (aa (pv 5) ad)))
    (ae (ay (i:=7) EV.nd rfl (Or.inl rfl) (az Gs hr rfl ms ks bs .nil aq (aa (pv 0) (aa (pv 5) (aa (pv 2) (aa (pv 3) ad))))))
    (ae (cU (aL (PW.pt (eR (ap jy (pv 7) bV (av _)) (eR (ap gZ (ax (show c6 _ (.builtin "len") (Ng P w) from nh) rfl T.len PySem.boot_len (aa (bF (show c6 _ (.type "set") (tf P w K) from uQ rfl) rfl T.set PyProof.Rows.boot_set (aa (pv 6) ad)) ad)) (ax ao rfl T.len PySem.boot_len (aa (pv 6) ad)) (av _))
      (dL (PW.pt (eI (ap (gF hu) (pv 7) (aO ad) (av _)) (dG (ap pJ (aw aI (pv 7) aj (fun _ _=>rfl)) (aw aB (aw aI (pv 2) (pv 5) (fun _ _=>rfl)) aj (fun _ _=>rfl)) (av _))))))))) (ah (ar ge)) aA))
    (ah (aS (cr plainAttrs_list PySem.F.slot_list_append PySem.F.type_list_append bG (pv 4) (aa (pv 7) ad))))))))
   (ah (ar (bO (tJ hu) (bA (own:=["_law_lane_here"]) (capN:=["_law_yard", "_law_rooms_here", "_law_letters", "_law_sent_here"]) (cap:=[0,1,2,4]) SU rfl (aM rfl T.range (aa (ax ao rfl T.len PySem.boot_len (aa (pv 1) ad)) ad)) (fun C s' H' fp=>⟨au (i:=0) SV rfl (Or.inl rfl),bM (bE (bu (az Gl hr rfl ml kl bl .nil aq (aa (pv 1) (aa (pv 0) (aa (aw (show n0 _ (qB K) from aI) (pv 2) (pv 0) (fun _ _=>rfl)) (aa (pv 3) (aa (pv 4) ad)))))))),pv 0⟩)) (aO ad) (av _))))),?_⟩
  have D9:zK.length=st.U.length:=Paired.length hS.L.p
  have h60:=hS.J.Az
  have SW:=hS.J.Dj
  have EN:=hS.J.lanes
  refine⟨zero_le _,fun Se WZ=>?_⟩
  have v1:=(zD.refl H).new (o := .lst []) WZ
  have Xa:(upd H Se (.lst [])) Se=some (.lst []):=ac
  show cI 4 (V.ref Se) _ (upd H Se (.lst [])) _
  generalize upd H Se (.lst [])=H1 at v1 Xa ⊢
  refine⟨_,rfl,le,_,rfl, .inl (zJ.of (v1 _ _ hS.L.g)),(zK.length:Int),rfl,by omega,by omega,?_⟩
  rw[toNat_natCast,D9]
  refine aW (lo:=0) (fun i σ H2=>∃ (a5 a6 a7:Option V)(Cc:List V),zD H H2/\H2 Se=some (.lst Cc)/\Cc.length=i/\(∀ (m:Nat)(t:bj),m < i->st.U[m]? = some t->∃ D,D ≠ Se/\Cc[m]? = some (.ref D)/\H2 D=some (.lst ((cn N m t.way.length).map V.int)))/\σ=[some (.ref a.y),some (.ref ro),some (.ref le),some (.int a.n),some (.ref Se),a5,a6,a7]) ⟨none,none,none,[],v1,Xa,rfl,fun m t hm=>absurd hm (by omega),rfl⟩ ?_ ?_
  ·rintro i σ H2 hi ⟨a5,a6,a7,Cc,s2,Nh,Ic,SX,rfl⟩
   rw[zero_add]
   have CN:=hS.same s2
   have ht:=List.getElem?_eq_getElem hi
   generalize st.U[i]=t at ht
   have Nb:t.way.length <= 40:=le_trans (ci a.ps.length t.way (hS.J.Ao i t ht).2 (hS.J.Ao i t ht).1) hS.J.Dj
   refine⟨_,rfl,a.y,a.dy,_,rfl,CN.Y.ins,rfl,_,rfl,a.y,a.dy,a.tb,a.ro,a.la,a.le,a.li,a.dn,st,i,t,rfl,CN.Y,ht,fun W H3 s3 hW gW=>?_⟩
   have IP:=CN.same s3
   refine⟨_,rfl,_,rfl,_,rfl,_,rfl,a,st,N,le,zK,i,t,rfl,IP,ht,hn,fun D H4 s4 hD gD=>?_⟩
   have Hz:=IP.same s4
   have Js:=s3.trans s4
   have Xb:D ≠ Se:=fun z=>by rw[z,s3 _ _ Nh]at hD;cases hD
   refine⟨fun σ' H'=>zD H4 H'/\σ' = [some (.ref a.y),some (.ref ro),some (.ref le),some (.int a.n),some (.ref Se),some (.int i),some (.ref W),some (.ref D)],?_,?_⟩
   ·refine⟨_,rfl,rfl,_,rfl,?_⟩
    rw[decide_eq_false (show ¬ V.ref D=V.zT from fun z=>by cases z)]
    rw[kj]at gW
    have Xc:=s4 _ _ gW
    refine aD ⟨_,rfl,W,iz t.way,rfl,zJ.of Xc,by unfold iz;rw[length_map];omega,fun sq hsq=>?_⟩
    have v2:=(zD.refl H4).new (o:=kW P w sq (iz t.way)) hsq
    have Xd:(upd H4 sq (kW P w sq (iz t.way))) sq=some (kW P w sq (iz t.way)):=ac
    generalize upd H4 sq (kW P w sq (iz t.way))=H5 at v2 Xd ⊢
    refine⟨sq,iz t.way,rfl,Xd,ux (hS.J.Ao i t ht).2,by unfold iz;rw[length_map];omega,_,rfl,W,_,rfl, .inl (zJ.of (v2 _ _ Xc)),rfl,_,rfl,?_⟩
    rw[length_map,decide_eq_true rfl]
    refine aD ⟨_,rfl,zero_le _,fun o1 BZ=>?_⟩
    have v3:=v2.new (o := .lst []) BZ
    have Bv:(upd H5 o1 (.lst [])) o1=some (.lst []):=ac
    generalize upd H5 o1 (.lst [])=H6 at v3 Bv ⊢
    refine neN (f:=PyData.int) (l:=cn N i t.way.length) (.lst (zJ.of (v3 _ _ gD)) (fL _)) (.lst (zJ.of Bv) .nil) (gR _) ⟨_,rfl,?_⟩
    cases Xe:(cn N i t.way.length).isEmpty with
    | true=>exact aD (aD ⟨v3,rfl⟩)
    | false =>
     have Ej:0 < t.way.length:=by
      rcases Nat.eq_zero_or_pos t.way.length with h | h
      ·rw[h]at Xe;cases Xe
      ·exact h
     have hs0:((cn N i t.way.length).map V.int)[0]? = some (V.int (N i 0)):=by
      unfold cn
      rw[map_map,List.getElem?_map,List.getElem?_range Ej];rfl
     obtain⟨lv,Fl,xl,el,gl⟩:=Paired.at2 (Hz.same v3).L.p ht
     subst el
     have hd:=(hS.G.dn i t ht 0 Ej).2.2
     refine aH ⟨_,rfl,D,_,0,_,rfl,rfl,zJ.of (v3 _ _ gD),ak (j:=0) hs0,_,rfl,_,rfl,le,zK,_,_,rfl,rfl,zJ.of (Hz.same v3).L.g,ak Fl,xl,_,2,_,rfl,rfl,zM.of gl,ak (j:=2) rfl,_,_,rfl,rfl,_,rfl,?_⟩
     rw[decide_eq_false (show ¬ t.len < (N i 0:Int) by omega)]
     exact aD ⟨v3,rfl⟩
   rintro σ' H5 ⟨s5,rfl⟩
   have II:=Js.trans s5
   refine⟨_,rfl, .inl ⟨rfl,_,zJ.of (II _ _ Nh)⟩,_,rfl,Se,Cc,_,rfl,rfl,II _ _ Nh,by rw[sizeLine_eq];omega,?_⟩
   have k6:∀ z:Addr,z ≠ Se->∀ o,H5 z=some o->(upd H5 Se (.lst (Cc ++ [.ref D]))) z=some o:=fun z hz o h=>by rw[af hz];exact h
   refine⟨_,_,_,Cc ++ [.ref D],fun z o e=>?_,ac,by rw[length_append,Ic];rfl,fun m t' hm Dk=>?_,rfl⟩
   ·rw[af (ag e WZ)];exact II _ _ (s2 _ _ e)
   ·rcases lt_or_ge m i with h | h
    ·obtain⟨D',h1,h2,h3⟩:=SX m t' h Dk
     exact⟨D',h1,by rw[List.getElem?_append_left (by omega)];exact h2,k6 _ h1 _ (II _ _ h3)⟩
    ·have:m=i:=by omega
     subst this
     rw[ht]at Dk;cases Dk
     exact⟨D,Xb,by rw[← Ic,List.getElem?_concat_length],k6 _ Xb _ (s5 _ _ gD)⟩
  rintro σ H2 ⟨a5,a6,a7,Cc,s2,Nh,Ic,SX,rfl⟩
  have CN:=hS.same s2
  have SR:BP H2 st N Se Cc:=⟨Nh,fun m t ht=>let ⟨D,_,h2,h3⟩:=SX m t (List.getElem?_eq_some_iff.mp ht).1 ht; ⟨D,h2,h3⟩⟩
  refine⟨_,rfl,ro,_,rfl, .inl (zJ.of (s2 _ _ WY)),(st.rooms.length:Int),rfl,by omega,by omega,?_⟩
  rw[toNat_natCast]
  refine bJ st.rooms.length (by rw[sizeLine_eq];omega) (fun i acc H'=>zD H2 H'/\acc=[]) ⟨zD.refl _,rfl⟩ (fun i acc H' h=>by rw[h.2];exact zero_le _) (fun i acc H' hi h=>?_) (fun acc H' h=>?_)
  ·obtain⟨s3,rfl⟩:=h
   refine⟨hi,fun v H3 y=>?_⟩
   obtain⟨rfl,rfl⟩:=y
   rw[zero_add]
   have Aa:=List.getElem?_eq_getElem (show i < st.lanes.length by omega)
   generalize st.lanes[i]=ln at Aa
   exact⟨_,rfl,_,rfl,_,rfl,_,rfl,ro,_,_,_,rfl,rfl,zJ.of (s3 _ _ (s2 _ _ WY)),ak (hS.G.room i ln Aa).1,_,rfl,_,rfl,a,st,N,le,zK,i,ln,Se,Cc,rfl,CN.same s3,Aa,SR.same s3,fun H4 s4=>⟨_,rfl,aD ⟨s3.trans s4,rfl⟩⟩⟩
  obtain⟨s3,rfl⟩:=h
  refine⟨Nat.le_refl _,fun D hD=>?_⟩
  have v3:=s3.new (o := .lst []) hD
  have gD:(upd H' D (.lst [])) D=some (.lst []):=ac
  generalize upd H' D (.lst [])=H3 at v3 gD ⊢
  refine⟨zero_le _,fun o1 BZ=>?_⟩
  have v4:=(zD.refl H3).new (o := .lst []) BZ
  have Bv:(upd H3 o1 (.lst [])) o1=some (.lst []):=ac
  generalize upd H3 o1 (.lst [])=H4 at v4 Bv ⊢
  exact W8 (f:=PyData.int) (l:=[]) (.lst (zJ.of (v4 _ _ gD)) .nil) (.lst (zJ.of Bv) .nil) (gR []) (q H4 ((s2.trans v3).trans v4))
noncomputable def pz (K:Frag):Sp:=fun vs H Q _=>∃ (a:Addr)(ns:List Int),vs=[.ref a]/\zJ K H a (ns.map V.int)/\ns.length <= 63/\∀ H',Q (.bl true) H'
abbrev Xf:List Str:=["_law_script", "_law_table_here", "_law_begins_here", "_law_rooms_here", "_law_yard", "_law_letters", "_law_k", "_law_draw", "_law_start", "_law_goal", "_law_moves", "_law_some"]
structure Fns (P:Program)(w:World)(K:Frag)(mg:Str->Option Value)(base:Heap)(c:Cs)(ts:Ts)(tn:lD)(ys:Ys)(x:Xs)(nr:Addr)(tk:Tok)(fc fx ft fb Ni fy fp fm fd fr:Addr)(dc dx dt db OV dy dp dm dd dr:FuncData):Prop where
 mc:mg "_law_cell_at" = some (.ref fc)
 kc:keepIn K (.ref fc)=true
 bc:Binds K dc ["_law_script", "_law_k"] []
 Gc:zE P w K mg base aG 1 fc dc ["_law_script", "_law_k"] (nP K)
 mx:mg "_law_mixed" = some (.ref fx)
 kx:keepIn K (.ref fx)=true
 bx:Binds K dx ["_law_cell", "_law_k"] []
 Gx:zE P w K mg base aG 1 fx dx ["_law_cell", "_law_k"] lJ
 mt:mg "_law_table" = some (.ref ft)
 kt:keepIn K (.ref ft)=true
 bt:Binds K dt ["_law_script"] []
 Gt:zE P w K mg base aG 7 ft dt ["_law_script"] (so P w K c ts tn)
 mb:mg "_law_begins" = some (.ref fb)
 kb:keepIn K (.ref fb)=true
 bb:Binds K db ["_law_table_here"] []
 Gb:∀ b,zE P w K mg base aG 4 fb db ["_law_table_here"] (p8 c (TC ts tn b) (JJ P w ts tn b))
 mro:mg "_law_rooms" = some (.ref Ni)
 kro:keepIn K (.ref Ni)=true
 bro:Binds K OV ["_law_table_here", "_law_cell"] []
 SY:∀ b,zE P w K mg base aG 2 Ni OV ["_law_table_here", "_law_cell"] (lK c (TC ts tn b) (JJ P w ts tn b))
 my:mg "Yard" = some (.ref ys.zG)
 My:Mk K ys.zG fy
 Ta:Binds K dy ["self", "table", "rooms"] []
 Gy:∀ b,zE P w K mg base (eP P w) 4 fy dy ["self", "table", "rooms"] (rQ K c (TC ts tn b) (JJ P w ts tn b) (yx ys []) nr)
 mp:bD K ys.zG "post" fp
 bp:Binds K dp LY [Value.int 0 tk]
 Gp:∀ b ex,zE P w K mg base (eP P w) 4 fp dp LY (nL K c (TC ts tn b) (JJ P w ts tn b) (yx ys ex) x)
 mm:bD K ys.zG "moves" fm
 bm:Binds K dm ["self"] []
 Gm:∀ b ex,zE P w K mg base aG 7 fm dm ["self"] (pw K c (TC ts tn b) (JJ P w ts tn b) (yx ys ex))
 md:bD K ys.zG "do" fd
 bd:Binds K dd ["self", "move"] []
 Gd:∀ b ex,zE P w K mg base (eP P w) 8 fd dd ["self", "move"] (M0 K c (TC ts tn b) (JJ P w ts tn b) (yx ys ex))
 mr:mg "_law_right" = some (.ref fr)
 kr:keepIn K (.ref fr)=true
 br:Binds K dr ["_law_yard", "_law_rooms_here", "_law_letters", "_law_places"] []
 Gr:∀ ex,zE P w K mg base aG 4 fr dr ["_law_yard", "_law_rooms_here", "_law_letters", "_law_places"] (pi K (yx ys ex))
structure Ru (K:Frag)(c:Cs)(TC:Addr)(J:TJ)(ys:Ys)(H H':Hp)(a:YA)(s:YS)(N:Nat->Nat->Nat)(le:Addr)(zK:List V)(ro:Addr)(rs:List Int)(bg:Addr)(Ar:List V)(bs:List (Int × Int))(lb db:Nat):Prop where
 e:zD H H'
 I:EM K c TC J (yx ys [le]) H' a s
 J:AU a s
 G:AY a s N zr
 L:Cr H' le zK s.U
 gr:H' ro=some (.lst (rs.map V.int))
 er:s.rooms=rs.map V.int
 gb:H' bg=some (.lst Ar)
 pb:zX H' Ar bs
 l5:s.U.length <= lb
 d5:s.done.length <= db
theorem Ru.same {K:Frag}{c:Cs}{TC fw:Addr}{dw:FuncData}{J:TJ}{ys:Ys}{H H' H2:Hp}{a:YA}{s:YS}{N:Nat->Nat->Nat}{le:Addr}{zK:List V}{ro:Addr}{rs:List Int}{bg:Addr}{Ar:List V}{bs:List (Int × Int)}{lb db:Nat}(W:Wy K TC fw dw J)
  (h:Ru K c TC J ys H H' a s N le zK ro rs bg Ar bs lb db) (e:zD H' H2):Ru K c TC J ys H H2 a s N le zK ro rs bg Ar bs lb db:=⟨h.e.trans e,h.I.same W e,h.J,h.G,h.L.same e,e _ _ h.gr,h.er,e _ _ h.gb,zX.same e h.pb,h.l5,h.d5⟩
theorem Ru.weak {K:Frag}{c:Cs}{TC:Addr}{J:TJ}{ys:Ys}{H H':Hp}{a:YA}{s:YS}{N:Nat->Nat->Nat}{le:Addr}{zK:List V}{ro:Addr}{rs:List Int}{bg:Addr}{Ar:List V}{bs:List (Int × Int)}{lb db Xg Xh:Nat}
  (h:Ru K c TC J ys H H' a s N le zK ro rs bg Ar bs lb db) (h1:lb <= Xg) (h2:db <= Xh):Ru K c TC J ys H H' a s N le zK ro rs bg Ar bs Xg Xh:=⟨h.e,h.I,h.J,h.G,h.L,h.gr,h.er,h.gb,h.pb,le_trans h.l5 h1,le_trans h.d5 h2⟩
noncomputable def Ct (a:YA)(s:YS)(H:Hp)(vs:List V):Prop:=∃ ms:List Mv,Paired (Bu H) vs (ms.map fS)/\(∀ m ∈ ms,m ∈ cv a s)/\vs.length < sizeLine
theorem Ct.same {a:YA}{s:YS}{H H':Hp}{vs:List V}(h:Ct a s H vs)(e:zD H H'):Ct a s H' vs:=by
 obtain⟨ms,h1,h2,h3⟩:=h
 exact⟨ms,Paired.mono (fun v m z=>z.keep (zD.zZ e)) h1,h2,h3⟩
noncomputable def Tb (t:bj):PyData := .tuple [.int t.start, .int t.goal, .int t.len]
theorem wH {K:Frag}{H:Hp}:∀ {vs:List V}{ts:List bj},Paired (DC H) vs ts->iK K H vs (ts.map Tb):=fun zH=>by
 induction zH with
 | nil=>exact .nil
 | cons zz r ih=>obtain⟨x,e,h⟩:=zz;subst e;exact .cons (.tup (zM.of h) (.cons (.int _) (.cons (.int _) (.cons (.int _) .nil)))) ih
theorem xJ (ts:List bj):BK (.list (ts.map Tb)) 64:=(eZ (m:=1) fun z hz=>by
 obtain⟨t,_,rfl⟩:=mem_map.mp hz
 exact ip (m:=0) fun y hy=>by
  simp only[mem_cons,not_mem_nil,or_false]at hy
  rcases hy with rfl | rfl | rfl<;>exact cK _).le (by decide)
noncomputable def Xi (H:Hp)(v:V)(q:Int × Int × Int × Int):Prop:=∃ x,v = .ref x/\H x=some (.tup [.int q.1, .int q.2.1, .int q.2.2.1])
theorem ww {H:Hp}{zK:List V}{s s':YS}(e:s'.U.map mH=s.U.map mH)(h:Paired (DC H) zK s.U):Paired (DC H) zK s'.U:=by
 have h2:=(AE (R:=Xi H) (f:=mH)).mp h
 rw[← e]at h2
 exact(AE (R:=Xi H) (f:=mH)).mpr h2
theorem qQ {a:YA}{s:YS}(O:Ju a)(G:OD a s)(h1:s.U.length <= 60)(h2:s.lanes.length <= 40):(cv a s).length <= 180000:=by
 unfold cv
 have e1:=aQ (dA O G) s.U.length
 have e2:=aQ (dz (s:=s) O) s.lanes.length
 have e3:=aQ (cu a s) s.lanes.length
 have e4:=aQ (gG s) s.lanes.length
 rw[length_append,length_append,length_append]
 omega
noncomputable def Nj (s:Stmt):Scope:=match s with
 | .For _ _ b _ _=>wN (b.getD 3 (.Pass ⟨0,0,0,0⟩))
 | _=>{ kind := .function,names:=[],isGenerator:=false,isCoroutine:=false }
abbrev LI (P:Program)(w:World)(K:Frag)(c:Cs)(ts:Ts)(tn:lD)(ys:Ys)(H:Hp)(sc:Addr)(b:Bool)(a:YA)(Le Ro Bg tb:Addr)(rs:List Int)(Ar:List V)(bs:List (Int × Int)):Nat->St->Hp->Prop:=fun i σ Ha=>∃ (a6 a7 a8 a9 BA Ek:Option V)(sa:YS)(N:Nat->Nat->Nat)(zK:List V),Ru K c (TC ts tn b) (JJ P w ts tn b) ys H Ha a sa N Le zK Ro rs Bg Ar bs 5 (2 * i)/\σ=[some (.ref sc),some (.ref tb),some (.ref Bg),some (.ref Ro),some (.ref a.y),some (.ref Le),a6,a7,a8,a9,BA,Ek]
abbrev P1 (P:Program)(w:World)(K:Frag)(c:Cs)(ts:Ts)(tn:lD)(ys:Ys)(H:Hp)(sc:Addr)(b:Bool)(a:YA)(Le Ro Bg tb:Addr)(rs:List Int)(Ar:List V)(bs:List (Int × Int))(i:Nat)(d:Int)(BA Ek:Option V):St->Hp->Prop:=fun σ' Hc=>∃ (a8 a9:Option V)(sb:YS)(N:Nat->Nat->Nat)(zK:List V),Ru K c (TC ts tn b) (JJ P w ts tn b) ys H Hc a sb N Le zK Ro rs Bg Ar bs 5 (2 * i + 1)/\σ' = [some (.ref sc),some (.ref tb),some (.ref Bg),some (.ref Ro),some (.ref a.y),some (.ref Le),some (.int ((5 + i:Nat):Int)),some (.int d),a8,a9,BA,Ek]
abbrev P2 (P:Program)(w:World)(K:Frag)(c:Cs)(ts:Ts)(tn:lD)(ys:Ys)(H:Hp)(sc:Addr)(b:Bool)(a:YA)(Le Ro Bg tb:Addr)(rs:List Int)(Ar:List V)(bs:List (Int × Int))(i:Nat)(d:Int)(a8 a9:Option V)(sb:YS)(He:Hp)(Ds:Addr):St->Hp->Prop:=fun σ' Hf=>∃ (Dx:Addr)(EW:List V),zD He Hf/\Hf Dx=some (.lst EW)/\Ct a sb Hf EW/\σ' = [some (.ref sc),some (.ref tb),some (.ref Bg),some (.ref Ro),some (.ref a.y),some (.ref Le),some (.int ((5 + i:Nat):Int)),some (.int d),a8,a9,some (.ref Dx),some (.ref Ds)]
abbrev P3 (P:Program)(w:World)(K:Frag)(c:Cs)(ts:Ts)(tn:lD)(ys:Ys)(H:Hp)(sc:Addr)(b:Bool)(a:YA)(Le Ro Bg tb:Addr)(rs:List Int)(Ar:List V)(bs:List (Int × Int))(i:Nat)(d:Int)(a8 a9:Option V)(zK:List V)(Ds Dx:Addr):St->Hp->Prop:=fun σ' Hg=>∃ (s':YS)(N:Nat->Nat->Nat),Ru K c (TC ts tn b) (JJ P w ts tn b) ys H Hg a s' N Le zK Ro rs Bg Ar bs 5 (2 * (i + 1))/\σ' = [some (.ref sc),some (.ref tb),some (.ref Bg),some (.ref Ro),some (.ref a.y),some (.ref Le),some (.int ((5 + i:Nat):Int)),some (.int d),a8,a9,some (.ref Dx),some (.ref Ds)]
theorem Bw:am Xf ["_law_script"] (ai jr):=L2.Ad
theorem Tc:AS Xf (ai jr) (Nj ((aJ jr).getD 5 (.Pass ⟨0,0,0,0⟩))) [] []:=L2.BS
theorem Td:(["_law_move"]:List Str).Nodup:=by decide +kernel
theorem yJ {c:Cs}{ts:Ts}{tn:lD}{ys:Ys}{x:Xs}{nr f fc fx ft fb Ni fy fp fm fd fr:Addr}{tk:Tok}{fW:Bool->Addr}{dW:Bool->FuncData}{df dc dx dt db OV dy dp dm dd dr:FuncData}(F:Ab K "law" "law" jr f df)(T:eW mg)(L:lC K c)(Y:iJ K ys)(W:∀ b,Wy K (TC ts tn b) (fW b) (dW b) (JJ P w ts tn b))
  (D:Fns P w K mg base c ts tn ys x nr tk fc fx ft fb Ni fy fp fm fd fr dc dx dt db OV dy dp dm dd dr):zE P w K mg base aG 10 f df ["_law_script"] (pz K):=by
 refine F.ok Bw (fun vs H Q E h=>?_) (fun cdv A0 outer s H vs Q E hr h=>?_)
 ·obtain⟨a,ns,rfl,_⟩:=h
  rfl
 ·obtain⟨sc,ns,rfl,hS,hlen,q⟩:=h
  have hu:=hr.units
  have Ax:zN 1 _:=hr.mono (by decide)
  have AB:zN 2 _:=hr.mono (by decide)
  have Cz:zN 4 _:=hr.mono (by decide)
  have M4:zN 5 _:=hr.mono (by decide)
  have Xj:zN 7 _:=hr.mono (by decide)
  have hr8:zN 8 _:=hr.mono (by decide)
  have GRo:=zE.ex D.SY
  have GY:=zE.ex D.Gy
  have GB:=zE.ex D.Gb
  have GP:=zE.ex fun i:Bool × List Addr=>D.Gp i.1 i.2
  have GM:=zE.ex fun i:Bool × List Addr=>D.Gm i.1 i.2
  have GD:=zE.ex fun i:Bool × List Addr=>D.Gd i.1 i.2
  have GR:=zE.ex D.Gr
  refine⟨_,ae (ay (i:=1) Bw.nd rfl (Or.inl rfl) (az D.Gt Xj rfl D.mt D.kt D.bt .nil aq (aa (pv 0) ad)))
   (ae (ay (i:=2) Bw.nd rfl (Or.inl rfl) (az GB Cz rfl D.mb D.kb D.bb .nil aq (aa (pv 1) ad)))
   (ae (ay (i:=3) Bw.nd rfl (Or.inl rfl) (az GRo AB rfl D.mro D.kro D.bro .nil aq (aa (pv 1) (aa (az D.Gc Ax rfl D.mc D.kc D.bc .nil aq (aa (pv 0) (aa aj ad))) ad))))
   (ae (ay (i:=4) Bw.nd rfl (Or.inl rfl) (lg (dI D.My GY M4 rfl D.my D.Ta .nil ir (aa (pv 1) (aa (pv 3) ad)))))
   (ae (ay (i:=5) Bw.nd rfl (Or.inl rfl) (aO ad))
   (ae (b5 PassesOwn.never rfl (jX rfl T.range (aa aj (aa (ax (r9 rfl) rfl T.min PyProof.Rows.boot_min (aa (ax ao rfl T.len PySem.boot_len (aa (pv 0) ad)) (aa aj ad))) ad))) (au (i:=6) Bw.nd rfl (Or.inl rfl))
    (ae (ay (i:=7) Bw.nd rfl (Or.inl rfl) (az D.Gx Ax rfl D.mx D.kx D.bx .nil aq (aa (aw aI (pv 0) (pv 6) (fun _ _=>rfl)) (aa (pv 6) ad))))
    (ae (cU (aL (fP (PW.pt (eI (ap (gF hu) (pv 2) (aO ad) (av _)) (eI (ap hU (ax ao rfl T.len PySem.boot_len (aa (pv 5) ad)) aj (av _)) (dG (PW.pt (eR (ap aZ (aE bR (aE dJ (pv 7) aj) aj) aj (av _)) (dL (ap (tJ hu) (pv 5) (aO ad) (av _))))))))))
     (ae (gE (aw aI (pv 2) (aE bR (aE dJ (pv 7) aj) (ax ao rfl T.len PySem.boot_len (aa (pv 2) ad))) (fun _ _=>rfl)) (dM rfl (aN (au (i:=8) Bw.nd rfl (Or.inl rfl)) (aN (au (i:=9) Bw.nd rfl (Or.inl rfl)) cy))))
     (ae (aS (cr plainAttrs_list PySem.F.slot_list_append PySem.F.type_list_append bG (pv 5) (aa (bH (aa (pv 8) (aa (pv 9) (aa (aE bB aj (aE bR (pv 7) aj)) ad)))) ad)))
     (ah (aS (aC (pv 4) Y.cl D.mp GP Cz D.bp (.cons (show RelV (.int 0) _ from ⟨_,rfl⟩) .nil) ir (aa (pv 8) (aa (pv 9) (aa (aE bB aj (aE bR (pv 7) aj)) ad)))))))) aA))
    (ae (ay (i:=10) Bw.nd rfl (Or.inl rfl) (cb (pv 4) Y.cl D.mm GM Xj D.bm .nil aq))
    (ae (cY (i:=11) (own:=["_law_move"]) (capN:=[]) (cap:=[]) Tc rfl Bw.nd rfl rfl (bN (pv 10)) (fun C s' H' fp=>⟨au (i:=0) Td rfl (Or.inl rfl),bM (ap gZ (aw (show n0 _ (jO K) from aB) (pv 0) aj (fun _ _=>rfl)) bv (av _)),pv 0⟩))
    (ae (cU (aL (fP (PW.pt (eI (ap (gF hu) (pv 11) (aO ad) (av _)) (dG (ap pJ (aE bR (aE dJ (pv 7) aj) aj) aj (av _)))))) (ah (ay (i:=10) Bw.nd rfl (Or.inl rfl) (pv 11))) aA))
    (ae (cU (aL (ap (gF hu) (pv 10) (aO ad) (av _)) (ah (aS (aC (pv 4) Y.cl D.md GD hr8 D.bd .nil ir (aa (aw aI (pv 10) (aE bR (aE dJ (pv 7) aj) (ax ao rfl T.len PySem.boot_len (aa (pv 10) ad))) (fun _ _=>rfl)) ad)))) aA))
    (ah (aL (bE (bu (az GR Cz rfl D.mr D.kr D.br .nil aq (aa (pv 4) (aa (pv 3) (aa (pv 5) (aa (al (al (pv 1) rfl) rfl) ad))))))) (ah (ar ge)) aA)))))))))
   (ah (ar ge))))))),?_⟩
  refine⟨_,rfl,sc,ns,rfl,hS,fun b tb lx Ac lt n zO ps wy H1 s1 Rh hT Dy zL hp8 Dt MK=>?_⟩
  refine⟨_,rfl,b,⟨tb,tb,tb,tb,tb,tb,tb,tb,lx,Ac,lt,n,zO,ps,wy⟩,rfl,hT,fun Bg Ar bs H2 s2 hBg Te Tf Tg WJ=>?_⟩
  have Ti:=hT.keep (W b) (zD.zZ s2)
  have Xk:=s1.trans s2
  refine⟨_,rfl,_,rfl,sc,ns,3,rfl,Xk.seq hS,fun d3=>⟨b,⟨tb,tb,tb,tb,tb,tb,tb,tb,lx,Ac,lt,n,zO,ps,wy⟩,d3,rfl,Ti,fun Ro rs H3 s3 hRo Nk CV IK=>?_⟩⟩
  have CV:rs.length=ps.length:=CV
  have Fi:=Ti.keep (W b) (zD.zZ s3)
  have Ei:=Xk.trans s3
  refine⟨WQ K c (TC ts tn b) (JJ P w ts tn b) ys [] H3 tb ps n wy rs,⟨_,rfl,_,rfl,fun y dy ny S8 S9=>⟨b,vf (P:=P) (w:=w) (ys:=ys) (ex:=[]) (nr:=nr) (W b) Fi Dy zL (zJ.of Nk) CV IK hp8 (fun z hz=>by cases hz) y dy ny S8 S9⟩⟩,?_⟩
  rintro v H4 ⟨a,rfl,e1,e2,e3,e4,s4,fr,IQ,hJ4⟩
  refine⟨zero_le _,fun Le JB=>?_⟩
  have s5:=(zD.refl H4).new (o := .lst []) JB
  have Tj:(upd H4 Le (.lst [])) Le=some (.lst []):=ac
  show cI 5 (V.ref Le) _ (upd H4 Le (.lst [])) _
  generalize upd H4 Le (.lst [])=H5 at s5 Tj ⊢
  have Xl:EM K c (TC ts tn b) (JJ P w ts tn b) (yx ys [Le]) H5 a (Y0 (rs.map V.int) n):=⟨AA.exs IQ.Y s5 (fun z hz => .inr (by rw[mem_singleton.mp hz];exact⟨JB,_,Tj⟩)),Ba.keep (W b) IQ.T (zD.zZ s5),IQ.O,IQ.G⟩
  have OW:=s4.trans s5
  have Xm:Ru K c (TC ts tn b) (JJ P w ts tn b) ys H H5 a (Y0 (rs.map V.int) n) zr Le [] Ro rs Bg Ar bs 5 0:=⟨Ei.trans OW,Xl,hJ4,SE IK,⟨Tj, .nil⟩,OW _ _ Nk,rfl,OW _ _ (s3 _ _ Te),zX.same (s3.trans OW) Tf,zero_le _,Nat.le_refl _⟩
  have Tn:H Le=none:=(Ei.trans s4).free JB
  have IS:Le ∉ a.four:=ud IQ.Y JB
  have CM:∀ z ∈ a.four,H z=none:=fun z hz=>Ei.free (fr z hz)
  have Nl:Bg ∉ a.four:=fun z=>by have h9:=s3 _ _ Te;rw[fr Bg z]at h9;cases h9
  have Nm:Ro ∉ a.four:=fun z=>by rw[fr Ro z]at Nk;cases Nk
  have To:Bg ≠ Le:=ag (s4 _ _ (s3 _ _ Te)) JB
  have Tp:Ro ≠ Le:=ag (s4 _ _ Nk) JB
  have Tg:iQ a bs:=fun p hp=>by
   obtain⟨x,y,h1,h2,h3,h4,h5⟩:=Tg p hp
   exact⟨x,y,h1,by rw[e3];exact h2,by rw[e3];exact h3,h4,by rw[e4];exact h5⟩
  have hbv:Ar.length=bs.length:=Paired.length Tf
  have hO:=IQ.O
  clear IQ Xl Fi Ti Tf
  refine⟨_,rfl,sc,_,rfl, .inl (Xm.e.seq hS),_,_,rfl,5,_,rfl,⟨by decide,by decide,?_,?_⟩,?_⟩
  ·rw[length_map];split<;>omega
  ·rw[length_map];split<;>omega
  rw[length_map]
  refine aW (lo:=5) (LI P w K c ts tn ys H sc b a Le Ro Bg tb rs Ar bs) ⟨none,none,none,none,none,none,_,_,_,Xm,rfl⟩ ?_ ?_
  rotate_left
  ·rintro σ Ha ⟨_,_,_,_,_,_,sa,N,zK,_,rfl⟩
   exact q _
  rintro i σ Ha hi ⟨a6,a7,a8,a9,BA,Ek,sa,N,zK,hR,rfl⟩
  have Xn:5 + i < ns.length/\i < 50:=by
   have:i < ((if (55:Int) < (ns.length:Int) then (55:Int) else (ns.length:Int)) - 5).toNat:=hi
   split at this<;>omega
  rw[show (5:Int) + (i:Int)=((5 + i:Nat):Int) by omega]
  have hsx:(ns.map V.int)[5 + i]? = some (V.int (ns[5 + i]' Xn.1)):=by rw[List.getElem?_map,List.getElem?_eq_getElem Xn.1];rfl
  refine⟨_,rfl,_,rfl,sc,_,_,_,rfl,rfl,hR.e.seq hS,ak hsx,_,rfl,_,5 + i,rfl,by omega,fun d hd=>?_⟩
  refine⟨P1 P w K c ts tn ys H sc b a Le Ro Bg tb rs Ar bs i d BA Ek,?_,?_⟩
  ·have Fl:zK.length=sa.U.length:=Paired.length hR.L.p
   refine⟨fun bb Hc=>zD Ha Hc/\(bb=true->bs ≠ []/\sa.U.length < 5),?_,?_⟩
   ·refine⟨_,rfl,zero_le _,fun o1 BZ=>?_⟩
    have u1:=(zD.refl Ha).new (o := .lst []) BZ
    have Bv:(upd Ha o1 (.lst [])) o1=some (.lst []):=ac
    generalize upd Ha o1 (.lst [])=Hb at u1 Bv ⊢
    refine neN (f:=tG) (l:=bs) (.lst (zJ.of (u1 _ _ hR.gb)) (uJ (zX.same u1 hR.pb))) (.lst (zJ.of Bv) .nil) (qx _) ⟨_,rfl,?_⟩
    cases BQ:bs.isEmpty with
    | true=>exact aD ⟨u1,fun z=>by cases z⟩
    | false =>
    have OX:bs ≠ []:=fun z=>by rw[z]at BQ;cases BQ
    refine aH ⟨_,rfl,Le,_,rfl, .inl (zJ.of (u1 _ _ hR.L.g)),_,_,rfl,rfl,_,rfl,?_⟩
    by_cases h5:(zK.length:Int) < 5
    ·rw[decide_eq_true h5]
     refine aH ⟨_,rfl,_,_,rfl,rfl,(by exact⟨by decide,by decide⟩),_,_,rfl,rfl,(by show (0:Int) < 6;decide),rfl,_,rfl,?_⟩
     dsimp only
     by_cases h0:d / 8 % 6=0
     ·rw[decide_eq_true (show V.int (d / 8 % 6)=V.int 0 by rw[h0])]
      exact aH ⟨u1,fun _=>⟨OX,by omega⟩⟩
     ·rw[decide_eq_false (show ¬ V.int (d / 8 % 6)=V.int 0 from fun z=>h0 (V.int.inj z))]
      refine aD ⟨_,rfl,zero_le _,fun o2 Bs=>?_⟩
      have u2:=u1.new (o := .lst []) Bs
      have go2:(upd Hb o2 (.lst [])) o2=some (.lst []):=ac
      generalize upd Hb o2 (.lst [])=Hc at u2 go2 ⊢
      have Bo:=hR.L.same u2
      exact W8 (f:=Tb) (l:=sa.U) (.lst (zJ.of Bo.g) (wH Bo.p)) (.lst (zJ.of go2) .nil) (xJ _) ⟨_,rfl,u2,fun _=>⟨OX,by omega⟩⟩
    ·rw[decide_eq_false h5]
     exact aD ⟨u1,fun z=>by cases z⟩
   rintro bb Hc ⟨uc,Ql⟩
   have DD:=hR.same (W b) uc
   cases bb with
   | false=>exact aD ⟨_,_,sa,N,zK,DD.weak (Nat.le_refl _) (by omega),rfl⟩
   | true =>
   obtain⟨OX,O9⟩:=Ql rfl
   have Ej:0 < Ar.length:=by rw[hbv];exact List.length_pos_iff.mpr OX
   have np:(0:Int) < ((Ar.length:Nat):Int):=by omega
   have z1:=emod_nonneg (d / 64) (show((Ar.length:Nat):Int) ≠ 0 by omega)
   have z2:=emod_lt_of_pos (d / 64) np
   obtain⟨k,hk,Tq⟩:∃ k:Nat,d / 64 % ((Ar.length:Nat):Int)=(k:Int)/\k < Ar.length:=⟨(d / 64 % ((Ar.length:Nat):Int)).toNat,by omega,by omega⟩
   have IT:=List.getElem?_eq_getElem Tq
   obtain⟨pr,hpr,pt,Tr,CZ⟩:=Paired.at DD.pb IT
   rw[Tr]at IT
   obtain⟨a',b',rfl,Xo,Nn,Ep,hw⟩:=Tg pr (mem_of_getElem? hpr)
   refine aH ⟨_,rfl,_,rfl,_,_,rfl,rfl,⟨by decide,by decide⟩,_,rfl,Bg,_,rfl, .inl (zJ.of DD.gb),_,_,rfl,rfl,np,Bg,Ar,(k:Int), .ref pt,rfl,congrArg V.int hk,zJ.of DD.gb,ak IT,pt,_,rfl,zM.of CZ,rfl,_,_,rfl,_,_,rfl,rfl,?_⟩
   have l1:=emod_nonneg d (show (4:Int) ≠ 0 by decide)
   have l2:=emod_lt_of_pos d (show (0:Int) < 4 by decide)
   refine⟨_,rfl, .inl ⟨rfl,_,zJ.of DD.L.g⟩,_,rfl,_,rfl,_,rfl,_,_,rfl,rfl,(by show (0:Int) < 4;decide),_,_,rfl,rfl,by show 3 <= sizeLine;decide,fun o1 BZ=>?_⟩
   dsimp only
   obtain⟨len,hlen,L0⟩:∃ len:Int,1 + d % 4=len/\1 <= len/\len <= 60:=⟨_,rfl,by omega,by omega⟩
   rw[hlen]
   have u1:=(zD.refl Hc).new (o := .tup [.int a', .int b', .int len]) BZ
   have Bv:(upd Hc o1 (.tup [.int a', .int b', .int len])) o1=some (.tup [.int a', .int b', .int len]):=ac
   generalize upd Hc o1 (.tup [.int a', .int b', .int len])=Hd at u1 Bv ⊢
   have FU:=DD.same (W b) u1
   refine⟨Le,zK,_,rfl,rfl,FU.L.g,by rw[sizeLine_eq];omega,?_⟩
   have kk:=j2 (o := .lst (zK ++ [.ref o1])) FU.L.g
   have Xp:zD H (upd Hd Le (.lst (zK ++ [.ref o1]))):=fun z o e=>by rw[af (ag e Tn)];exact FU.e _ _ e
   have OY:AA K (yx ys [Le]) (upd Hd Le (.lst (zK ++ [.ref o1]))) a sa:=FU.I.Y.chg (mem_singleton.mpr rfl) IS
   have Np:(upd Hd Le (.lst (zK ++ [.ref o1]))) Le=some (.lst (zK ++ [.ref o1])):=ac
   have Xq:(upd Hd Le (.lst (zK ++ [.ref o1]))) Ro=some (.lst (rs.map V.int)):=by rw[af Tp];exact FU.gr
   have Xr:(upd Hd Le (.lst (zK ++ [.ref o1]))) Bg=some (.lst Ar):=by rw[af To];exact FU.gb
   have Xt:=kk.D6 FU.pb
   have Xu:=Paired.mono (fun v t=>DC.keep kk v t) FU.L.p
   have ET:=kk _ _ Bv True.intro
   have EZ:=Ba.keep (W b) FU.I.T kk
   generalize upd Hd Le (.lst (zK ++ [.ref o1]))=He at kk Xp OY Np Xq Xr Xt Xu ET EZ ⊢
   have gd:=qF (n:=a.n) (wy:=a.wy) (m:=sa.U.length) (u:=0) Xo Nn L0 (by decide +kernel) Ep hw (by omega)
   have hd5:=hR.d5
   refine⟨_,rfl,a.y,a.dy,_,rfl,OY.ins,rfl,_,rfl,_,rfl,_,rfl,_,_,rfl,rfl,(by show (0:Int) < 4;decide),_,_,rfl,rfl,?_⟩
   dsimp only
   rw[hlen]
   refine⟨(b,[Le]),a.y,a.dy,a.tb,a.ro,a.la,a.le,a.li,a.dn,a.lx,a.Ac,a.lt,a.n,a.zO,a.ps,a.wy,sa, .int a', .int b', .int len, .int 0,rfl,OY,EZ, .int _, .int _, .int _, .int _,by omega,by omega,(fun h=>by rw[gd]at h;cases h),(fun h=>by rw[gd]at h;cases h),(fun h=>by rw[gd]at h;cases h),(fun h=>by rw[gd]at h;cases h),(fun h=>by rw[gd]at h;cases h),fun _ Hf Dd hYf=>?_⟩
   have two:∀ z:Addr,z ∈ [a.le,a.dn]->z ∈ a.four:=fun z hz=>by simp only[mem_cons,not_mem_nil,or_false]at hz ⊢;rcases hz with rfl | rfl<;>simp
   have Nq:zQ a.four He Hf:=Dd.mono two
   have kf:=zQ.zZ (fun z hz=>OY.Ed z hz) Nq
   obtain⟨N',Tt⟩:=hR.G.post (x:=a') (y:=b') (l:=len) (u:=0) (by omega)
   have Nr:=hR.J.post (x:=a') (y:=b') (l:=len) (u:=0) Xo Nn ⟨by omega,L0.2⟩ (by omega)
   refine⟨_,_,gc sa a' b' len 0,N',zK ++ [.ref o1],⟨lN Xp Nq CM,⟨hYf,Ba.keep (W b) EZ kf,hO,Nr.ok⟩,Nr,Tt,⟨Nq _ _ IS Np,Paired.snoc ⟨o1,rfl,kf _ _ ET True.intro⟩ (Paired.mono (fun v t=>DC.keep kf v t) Xu)⟩,Nq _ _ Nm Xq,hR.er,Nq _ _ Nl Xr,kf.D6 Xt,?_,?_⟩,rfl⟩
   ·show(sa.U ++ [_]).length <= 5
    rw[length_append,length_singleton];omega
   ·show(sa.done ++ [_]).length <= _
    rw[length_append,length_singleton];omega
  rintro σ' Hc ⟨a8,a9,sb,N,zK,DD,rfl⟩
  have hd5:=DD.d5
  have O9:=DD.l5
  have D9:sb.lanes.length=a.ps.length:=DD.J.lanes
  have SW:=DD.J.Dj
  have hmb:=qQ hO DD.I.G (by omega) (by omega)
  refine⟨_,rfl,a.y,a.dy,_,rfl,DD.I.Y.ins,rfl,(b,[Le]),a,sb,rfl,DD.I,fun Dm Am Hd sd hDm Nt Tv=>?_⟩
  have OC:Am.length=(cv a sb).length:=by rw[Paired.length Tv,length_map]
  have Xv:Am.length < sizeLine:=by rw[sizeLine_eq];omega
  refine⟨_,rfl,Dm,rfl,⟨_,zJ.of Nt⟩,?_⟩
  refine bJ Am.length Xv (fun i acc H'=>H' = Hd/\acc.length <= i/\∃ ms:List Mv,Paired (Bu Hd) acc (ms.map fS)/\∀ m ∈ ms,m ∈ cv a sb) ⟨rfl,zero_le _,[], .nil,fun m hm=>by cases hm⟩ (fun i acc H' h=>h.2.1) (fun j acc H' hj h=>?_) (fun acc H' h=>?_)
  ·obtain⟨rfl,Qu,ms,Di,FZ⟩:=h
   have hvj:=List.getElem?_eq_getElem hj
   refine⟨⟨Am,_,zJ.of Nt,hvj⟩,fun v H2 y=>?_⟩
   obtain⟨rfl,y⟩:=y
   have hv:=y Am (zJ.of Nt)
   obtain⟨mv,EX,p,rfl,hp⟩:=Paired.at Tv hv
   obtain⟨m,Tw,rfl⟩:∃ m,m ∈ cv a sb/\fS m=mv:=by
    rw[List.getElem?_map]at EX
    cases hx:(cv a sb)[j]? with
    | none=>rw[hx]at EX;cases EX
    | some m=>rw[hx]at EX;exact⟨m,mem_of_getElem? hx,Option.some.inj EX⟩
   obtain⟨w0,rest,Ry⟩:∃ w0 rest,fS m=V.str w0 :: rest:=by cases m<;>exact⟨_,_,rfl⟩
   refine⟨_,rfl,p,_,0,_,rfl,rfl,zM.of hp,ak (j:=0) (by rw[Ry];rfl),rfl,_,rfl,?_⟩
   cases hb:decide (V.str w0=V.str "back") with
   | true=>exact aD ⟨rfl,by omega,ms,Di,FZ⟩
   | false =>
    refine aH ⟨_,rfl,rfl,by rw[length_append,length_singleton];omega,ms ++ [m],?_,fun z hz=>?_⟩
    ·rw[map_append];exact Paired.snoc ⟨p,rfl,hp⟩ Di
    ·rcases mem_append.mp hz with h | h
     ·exact FZ z h
     ·rw[mem_singleton.mp h];exact Tw
  obtain⟨rfl,Qu,ms,Di,FZ⟩:=h
  refine⟨⟨Am,zJ.of Nt,Nat.le_refl _⟩,fun Ds hDs=>?_⟩
  have v1:=(zD.refl H').new (o := .lst acc) hDs
  have Tx:(upd H' Ds (.lst acc)) Ds=some (.lst acc):=ac
  show cI 11 (V.ref Ds) _ (upd H' Ds (.lst acc)) _
  generalize upd H' Ds (.lst acc)=He at v1 Tx ⊢
  have hRe:=DD.same (W b) (sd.trans v1)
  have hM1:Ct a sb He Am:=⟨cv a sb,Paired.mono (fun v m z=>z.keep (zD.zZ v1)) Tv,fun m hm=>hm,Xv⟩
  have Xw:Ct a sb He acc:=⟨ms,Paired.mono (fun v m z=>z.keep (zD.zZ v1)) Di,FZ,by omega⟩
  refine⟨P2 P w K c ts tn ys H sc b a Le Ro Bg tb rs Ar bs i d a8 a9 sb He Ds,?_,?_⟩
  ·refine⟨fun _ Hf=>zD He Hf,?_,?_⟩
   ·refine⟨_,rfl,zero_le _,fun o1 BZ=>?_⟩
    have u1:=(zD.refl He).new (o := .lst []) BZ
    have Bv:(upd He o1 (.lst [])) o1=some (.lst []):=ac
    generalize upd He o1 (.lst [])=Hf at u1 Bv ⊢
    obtain⟨HB,B6,_,_⟩:=Xw.same u1
    refine neN (f:=uk) (l:=HB) (.lst (zJ.of (u1 _ _ Tx)) (iY B6)) (.lst (zJ.of Bv) .nil) (pA _) ⟨_,rfl,?_⟩
    cases BQ:HB.isEmpty with
    | true=>exact aD u1
    | false=>exact aH ⟨_,rfl,_,_,rfl,rfl,(by exact⟨by decide,by decide⟩),_,_,rfl,rfl,(by show (0:Int) < 4;decide),_,_,rfl,rfl,_,rfl,u1⟩
   rintro bb Hf uf
   cases bb with
   | false=>exact aD ⟨Dm,Am,uf,uf _ _ (v1 _ _ Nt),hM1.same uf,rfl⟩
   | true=>exact aH ⟨_,rfl,Ds,acc,uf,uf _ _ Tx,Xw.same uf,rfl⟩
  rintro σ' Hf ⟨Dx,EW,uf,gDx,hMx,rfl⟩
  have Sz:=hRe.same (W b) uf
  refine⟨P3 P w K c ts tn ys H sc b a Le Ro Bg tb rs Ar bs i d a8 a9 zK Ds Dx,?_,?_⟩
  ·refine⟨_,rfl,zero_le _,fun o1 BZ=>?_⟩
   have u1:=(zD.refl Hf).new (o := .lst []) BZ
   have Bv:(upd Hf o1 (.lst [])) o1=some (.lst []):=ac
   generalize upd Hf o1 (.lst [])=Hg at u1 Bv ⊢
   obtain⟨HB,B6,Fe,Oo⟩:=hMx.same u1
   have Bq:=Sz.same (W b) u1
   have Tz:=u1 _ _ gDx
   refine neN (f:=uk) (l:=HB) (.lst (zJ.of Tz) (iY B6)) (.lst (zJ.of Bv) .nil) (pA _) ⟨_,rfl,?_⟩
   cases BQ:HB.isEmpty with
   | true=>exact aD ⟨sb,N,Bq.weak (Nat.le_refl _) (by omega),rfl⟩
   | false =>
   have hxl:EW.length=HB.length:=by rw[Paired.length B6,length_map]
   have Ej:0 < EW.length:=by
    rw[hxl]
    cases HB with
    | nil=>cases BQ
    | cons _ _=>exact Nat.succ_pos _
   have np:(0:Int) < ((EW.length:Nat):Int):=by omega
   have z1:=emod_nonneg (d / 512) (show((EW.length:Nat):Int) ≠ 0 by omega)
   have z2:=emod_lt_of_pos (d / 512) np
   obtain⟨k,hk,Tq⟩:∃ k:Nat,d / 512 % ((EW.length:Nat):Int)=(k:Int)/\k < EW.length:=⟨(d / 512 % ((EW.length:Nat):Int)).toNat,by omega,by omega⟩
   have IT:=List.getElem?_eq_getElem Tq
   obtain⟨mv,EX,p,Tr,hp⟩:=Paired.at B6 IT
   obtain⟨m,Tw,rfl⟩:∃ m,m ∈ cv a sb/\fS m=mv:=by
    rw[List.getElem?_map]at EX
    cases hx:HB[k]? with
    | none=>rw[hx]at EX;cases EX
    | some m=>rw[hx]at EX;exact⟨m,Fe m (mem_of_getElem? hx),Option.some.inj EX⟩
   rw[Tr]at IT
   refine aH ⟨_,rfl,a.y,a.dy,_,rfl,Bq.I.Y.ins,rfl,_,rfl,_,rfl,_,_,rfl,rfl,⟨by decide,by decide⟩,_,rfl,Dx,_,rfl, .inl (zJ.of Tz),_,_,rfl,rfl,np,Dx,EW,(k:Int), .ref p,rfl,congrArg V.int hk,zJ.of Tz,ak IT,?_⟩
   refine⟨(b,[Le]),a,sb,p,m,rfl,Bq.I,hp,Tw,Bq.J.sml (by omega),fun Hh s' C8 Dd hYh=>?_⟩
   obtain⟨N',Tt⟩:=Bq.G.step Bq.J C8
   have Nr:AU a { s' with done:=sb.done ++ [fS m] }:=(Bq.J.step C8).done _
   have kh:=zQ.zZ (fun z hz=>Bq.I.Y.Ed z hz) Dd
   refine⟨{ s' with done:=sb.done ++ [fS m] },N',⟨lN Bq.e Dd CM,⟨hYh,Ba.keep (W b) Bq.I.T kh,hO,Nr.ok⟩,Nr,Tt.dn' _,⟨Dd _ _ IS Bq.L.g,ww C8.lets (Paired.mono (fun v t=>DC.keep kh v t) Bq.L.p)⟩,Dd _ _ Nm Bq.gr,C8.rooms.trans Bq.er,Dd _ _ Nl Bq.gb,kh.D6 Bq.pb,?_,?_⟩,rfl⟩
   ·show s'.U.length <= 5
    rw[C8.len];exact O9
   ·show(sb.done ++ [_]).length <= _
    rw[length_append,length_singleton];omega
  rintro σ' Hg ⟨s',N,Bq,rfl⟩
  obtain⟨C4,fst,Ca,Al,Bi⟩:=Bq.I.T.i
  rw[e1]at Ca
  have Bo:=Bq.I.T.l
  refine⟨_,rfl,_,rfl,_,rfl,_,rfl,tb,TC ts tn b,C4,fst,_,rfl,Ca,(W b).cl,(W b).nl,Al,a.lx,c.land,a.Ac,_,_,rfl,Bo.1,L.cl,L.np,rfl,[Le],a,s',N,Le,zK,Ro,rfl,⟨Bq.I.Y,Bq.J,Bq.G,Bq.L⟩,by rw[Bq.er];exact Bq.gr,?_,by omega,fun Hh sh=>⟨_,rfl,aD ⟨_,_,_,_,_,_,s',N,zK,Bq.same (W b) sh,rfl⟩⟩⟩
  rw[Bq.er,length_map,CV,Bq.J.lanes,e2]
theorem len_of1 {α:Type}{P:List α->Prop}(h:∀ a0,P [a0]):∀ us:List α,us.length=1->P us
 | [a0],_=>h a0
theorem len_of2 {α:Type}{P:List α->Prop}(h:∀ a0 a1,P [a0,a1]):∀ us:List α,us.length=2->P us
 | [a0,a1],_=>h a0 a1
theorem len_of3 {α:Type}{P:List α->Prop}(h:∀ a0 a1 a2,P [a0,a1,a2]):∀ us:List α,us.length=3->P us
 | [a0,a1,a2],_=>h a0 a1 a2
theorem len_of4 {α:Type}{P:List α->Prop}(h:∀ a0 a1 a2 a3,P [a0,a1,a2,a3]):∀ us:List α,us.length=4->P us
 | [a0,a1,a2,a3],_=>h a0 a1 a2 a3
theorem len_of5 {α:Type}{P:List α->Prop}(h:∀ a0 a1 a2 a3 a4,P [a0,a1,a2,a3,a4]):∀ us:List α,us.length=5->P us
 | [a0,a1,a2,a3,a4],_=>h a0 a1 a2 a3 a4
structure FT (K:Frag)(mg:Str->Option Value)(n:Str)(st:Stmt)(ps:List Str)(f:Addr)(fd:FuncData):Prop where
 F:Ab K n n st f fd
 m:mg n=some (.ref f)
 k:keepIn K (.ref f)=true
 b:Binds K fd ps []
structure FM (K:Frag)(C:Addr)(n q:Str)(st:Stmt)(ps:List Str)(f:Addr)(fd:FuncData):Prop where
 F:Ab K n q st f fd
 m:bD K C n f
 b:Binds K fd ps []
section
variable {K:Frag}{mg:Str->Option Value}{C f:Addr}{n q:Str}{st:Stmt}{ps:List Str}{h:Heap}{oc:Value}{od an:Option Addr}{Dv:Array (Option Value)}{kV doc pm cdv ct:Value}
theorem mkT (X:K.In h)(G:h.Ns mainGlobals mg)(hb:∀ (kV doc pm:Value) (an:Option Addr) (cdv ct:Value) (us:List Value),us.length=ps.length->bindArgs (fnOf n n (bI st) (aJ st) (ai st) .none kV doc pm an cdv ct) ⟨us,[]⟩ = pure (ps.zip us))
  (a:nsIn K mainGlobals n=some (some (.ref f))) (l:K.lookup f=some ⟨oc,od, .func (fnOf n n (bI st) (aJ st) (ai st) .none kV doc pm an cdv ct),Dv⟩) (c:codeIn K cdv n=true) (k:keepIn K (.ref f)=true):∃ fd,FT K mg n st ps f fd :=
 ⟨_,jB l c k,mg_of X G a,k,(jB l c k).binds hb⟩
theorem mkM (hb:∀ (kV doc pm:Value) (an:Option Addr) (cdv ct:Value) (us:List Value),us.length=ps.length->bindArgs (fnOf n q (bI st) (aJ st) (ai st) .none kV doc pm an cdv ct) ⟨us,[]⟩ = pure (ps.zip us))
  (a:findIn K (.ref C) n=some (some (.ref f))) (l:K.lookup f=some ⟨oc,od, .func (fnOf n q (bI st) (aJ st) (ai st) .none kV doc pm an cdv ct),Dv⟩) (c:codeIn K cdv q=true) (k:keepIn K (.ref f)=true) (i:isFn K (.ref f)=true):∃ fd,FM K C n q st ps f fd :=
 ⟨_,jB l c k,⟨a,i,k⟩,(jB l c k).binds hb⟩
end
section
variable {l:PySem.W.OpenLaw}{w:World}{K:Frag}{h:Heap}{mg:Str->Option Value}{fa cL cN cT cR cE cB cD cO cM cP cG cW cZ cF cQ cA cH cJ f1 f2 f3 f4 f5 f6 f7 f8 f9 Xx Oi Xy Xz X0 X6 X7 X8 X9 XA XB XC XD XE XF XG T1 T2 XH OZ T3 T4 T5 T6 T7 T8 Nu T9 f38 TB f40 TF XI TH XJ TK TL XN XO TM XQ IU JC XR TN TQ TU TV XS TY XT Ua Ub Uc Ud Ue Ug Uh Ui:Addr}{t1 t2 t3 t4 t5:Tok}
theorem both {α β:Type}{P:Bool->α->β->Prop}{a1 a2:α}{b1 b2:β}(h1:P true a1 b1)(h2:P false a2 b2):∃ (f:Bool->α)(g:Bool->β),∀ b,P b (f b) (g b):=⟨fun b=>cond b a1 a2,fun b=>cond b b1 b2,fun b=>by cases b<;>assumption⟩
theorem all_mk (X:K.In h)(G:h.Ns mainGlobals mg)(DR:mg "law" = some (.ref fa))
  {Uj Nv Uk Nw Ul Nx:Option Addr} {Um Uo Up:Array (Option Value)} {Uq Ny Nz N0 IV N1 Ur N2 N3 N4 IW N5 Us N6 N7 N8 IX N9:Value}
  {NA NB:Addr} {Ut Uu:Value} {Uv Uw:Option Addr} {Ux Uy:Nat} {Uz:Tok}  {U0 U1:Array (Option Value)}
  (gcL:nsIn K mainGlobals "Land" = some (some (.ref cL)))
  (gcN:nsIn K mainGlobals "NoPlaces" = some (some (.ref cN)))
  (gcT:nsIn K mainGlobals "TooMany" = some (some (.ref cT)))
  (gcR:nsIn K mainGlobals "NoRoad" = some (some (.ref cR)))
  (gcE:nsIn K mainGlobals "NoEntry" = some (some (.ref cE)))
  (gcB:nsIn K mainGlobals "Table" = some (some (.ref cB)))
  (gcD:nsIn K mainGlobals "Told" = some (some (.ref cD)))
  (gcO:nsIn K mainGlobals "Nearer" = some (some (.ref cO)))
  (gcM:nsIn K mainGlobals "NoRooms" = some (some (.ref cM)))
  (gcP:nsIn K mainGlobals "NoPlace" = some (some (.ref cP)))
  (gcG:nsIn K mainGlobals "NoLength" = some (some (.ref cG)))
  (gcW:nsIn K mainGlobals "NoWord" = some (some (.ref cW)))
  (gcZ:nsIn K mainGlobals "NoWay" = some (some (.ref cZ)))
  (gcF:nsIn K mainGlobals "Full" = some (some (.ref cF)))
  (gcQ:nsIn K mainGlobals "NoMove" = some (some (.ref cQ)))
  (gcA:nsIn K mainGlobals "Lane" = some (some (.ref cA)))
  (gcH:nsIn K mainGlobals "Letter" = some (some (.ref cH)))
  (gcJ:nsIn K mainGlobals "Yard" = some (some (.ref cJ)))
  (h1:∃ d,FT K mg "has" vx ["some", "number"] f1 d)
  (h2:∃ d,FT K mg "members" sP ["some"] f2 d)
  (h3:∃ d,FT K mg "set_of" xW ["numbers"] f3 d)
  (h4:∃ d,FT K mg "is_whole" gA ["value"] f4 d)
  (h5:∃ d,FT K mg "is_within" iN ["value", "least", "most"] f5 d)
  (h6:∃ d,FT K mg "is_one_of" xY ["value", "numbers"] f6 d)
  (h7:∃ d,FT K mg "are_two_places" xS ["places", "one", "other"] f7 d)
  (h8:∃ d,FT K mg "row_fits" lT ["land", "row"] f8 d)
  (h9:∃ d,FT K mg "onward" QL ["table", "lane", "goal"] f9 d)
  (h10:∃ d,FT K mg "rooms_of" gB ["land", "rooms"] Xx d)
  (h11:∃ d,FT K mg "is_word" sF ["word"] Oi d)
  (h12:∃ d,FT K mg "is_move" lQ ["move"] Xy d)
  (h13:∃ d,FT K mg "how_far" yf ["land", "goal"] Xz d)
  (h14:∃ d,FT K mg "nearer_lanes" KZ ["land", "far", "place"] X0 d)
  (h15:∃ d,FT K mg "_law_cell_at" sV ["_law_script", "_law_k"] X6 d)
  (h16:∃ d,FT K mg "_law_mixed" ya ["_law_cell", "_law_k"] X7 d)
  (h17:∃ d,FT K mg "_law_lanes" oa ["_law_places", "_law_amount", "_law_cell"] X8 d)
  (h18:∃ d,FT K mg "_law_rows" jp ["_law_places", "_law_lanes_here", "_law_cell"] X9 d)
  (h19:∃ d,FT K mg "_law_table" sT ["_law_script"] XA d)
  (h20:∃ d,FT K mg "_law_begins" oq ["_law_table_here"] XB d)
  (h21:∃ d,FT K mg "_law_rooms" gX ["_law_table_here", "_law_cell"] XC d)
  (h22:∃ d,FT K mg "_law_stretches" xV ["_law_queue", "_law_letters"] XD d)
  (h23:∃ d,FT K mg "_law_lane" oh ["_law_yard", "_law_lane_here", "_law_room", "_law_letters", "_law_sent_here"] XE d)
  (h24:∃ d,FT K mg "_law_sent" jo ["_law_yard", "_law_number", "_law_letters", "_law_places"] XF d)
  (h25:∃ d,FT K mg "_law_right" jq ["_law_yard", "_law_rooms_here", "_law_letters", "_law_places"] XG d)
  (a26:nsIn K mainGlobals "law" = some (some (.ref T1)))
  (l26:K.lookup T1=some ⟨Uq,Uj, .func (fnOf "law" "law" (bI jr) (aJ jr) (ai jr) .none Ny Nz N0 Nv IV N1),Um⟩)
  (c26:codeIn K IV "law" = true)
  (k26:keepIn K (.ref T1)=true)
  (h27:∃ d,FM K cL "__init__" "Land.__init__" lS ["self", "places", "lanes"] T2 d)
  (h28:∃ d,FM K cL "start_of" "Land.start_of" nU ["self", "lane"] XH d)
  (h29:∃ d,FM K cL "end_of" "Land.end_of" yi ["self", "lane"] OZ d)
  (h30:∃ d,FM K cL "out_of" "Land.out_of" sM ["self", "place"] T3 d)
  (h31:∃ d,FM K cL "into" "Land.into" lR ["self", "place"] T4 d)
  (h32:∃ d,FM K cT "__init__" "TooMany.__init__" Ot ["self", "many"] T5 d)
  (h33:∃ d,FM K cR "__init__" "NoRoad.__init__" Ov ["self", "lane"] T6 d)
  (h34:∃ d,FM K cE "__init__" "NoEntry.__init__" Ow ["self", "row"] T7 d)
  (h35:∃ d,FM K cZ "__init__" "NoWay.__init__" vw ["self", "start", "goal"] T8 d)
  (h36:∃ d,FM K cB "__init__" "Table.__init__" xU ["self", "land"] Nu d)
  (h37:∃ d,FM K cD "__init__" "Told.__init__" sI ["self", "land", "rows"] T9 d)
  (h38:∃ d,FM K cD "ways" "Told.ways" nS ["self", "place", "goal", "came"] f38 d)
  (h39:∃ d,FM K cO "__init__" "Nearer.__init__" sO ["self", "land"] TB d)
  (h40:∃ d,FM K cO "ways" "Nearer.ways" sG ["self", "place", "goal", "came"] f40 d)
  (h41:∃ d,FM K cA "__init__" "Lane.__init__" yd ["self", "room"] TF d)
  (h42:∃ d,FM K cA "open_to" "Lane.open_to" sN ["self", "letter", "count"] XI d)
  (h43:∃ d,FM K cA "put" "Lane.put" xX ["self", "letter", "count", "last"] TH d)
  (h44:∃ d,FM K cA "front" "Lane.front" oi ["self"] XJ d)
  (h45:∃ d,FM K cA "pull" "Lane.pull" sJ ["self"] TK d)
  (h46:∃ d,FM K cA "bring" "Lane.bring" om ["self"] TL d)
  (h47:∃ d,FM K cA "told" "Lane.told" yc ["self"] XN d)
  (h48:∃ d,FM K cA "twin" "Lane.twin" yb ["self"] XO d)
  (h49:∃ d,FM K cH "__init__" "Letter.__init__" sS ["self", "start", "goal", "length", "word"] TM d)
  (h50:∃ d,FM K cH "twin" "Letter.twin" sR ["self"] XQ d)
  (a51:findIn K (.ref cJ) "__init__" = some (some (.ref IU)))
  (l51:K.lookup IU=some ⟨Ur,Uk, .func (fnOf "__init__" "Yard.__init__" (bI iq) (aJ iq) (ai iq) (.ref NA) N2 N3 N4 Nw IW N5),Uo⟩)
  (d51:K.lookup NA=some ⟨Ut,Uv, .seq #[Value.none] Ux,U0⟩)
  (c51:codeIn K IW "Yard.__init__" = true)
  (k51:keepIn K (.ref IU)=true)
  (i51:isFn K (.ref IU)=true)
  (a52:findIn K (.ref cJ) "post" = some (some (.ref JC)))
  (l52:K.lookup JC=some ⟨Us,Ul, .func (fnOf "post" "Yard.post" (bI gU) (aJ gU) (ai gU) (.ref NB) N6 N7 N8 Nx IX N9),Up⟩)
  (d52:K.lookup NB=some ⟨Uu,Uw, .seq #[Value.int 0 Uz] Uy,U1⟩)
  (c52:codeIn K IX "Yard.post" = true)
  (k52:keepIn K (.ref JC)=true)
  (i52:isFn K (.ref JC)=true)
  (h53:∃ d,FM K cJ "moves" "Yard.moves" nY ["self"] XR d)
  (h54:∃ d,FM K cJ "moves_in" "Yard.moves_in" lP ["self", "number"] TN d)
  (h55:∃ d,FM K cJ "moves_on" "Yard.moves_on" lO ["self", "lane"] TQ d)
  (h56:∃ d,FM K cJ "moves_lie" "Yard.moves_lie" nX ["self", "lane"] TU d)
  (h57:∃ d,FM K cJ "moves_back" "Yard.moves_back" kX ["self", "lane"] TV d)
  (h58:∃ d,FM K cJ "wanted" "Yard.wanted" gS ["self", "lane"] XS d)
  (h59:∃ d,FM K cJ "moves_like" "Yard.moves_like" sQ ["self", "move"] TY d)
  (h60:∃ d,FM K cJ "do" "Yard.do" QM ["self", "move"] XT d)
  (h61:∃ d,FM K cJ "go_in" "Yard.go_in" sU ["self", "number", "lane"] Ua d)
  (h62:∃ d,FM K cJ "enter" "Yard.enter" oj ["self", "piece", "lane"] Ub d)
  (h63:∃ d,FM K cJ "lay" "Yard.lay" ye ["self", "piece", "place"] Uc d)
  (h64:∃ d,FM K cJ "own_lane" "Yard.own_lane" sL ["self", "lane"] Ud d)
  (h65:∃ d,FM K cJ "own_letter" "Yard.own_letter" sK ["self", "number"] Ue d)
  (h66:∃ d,FM K cJ "lane_told" "Yard.lane_told" og ["self", "lane"] Ug d)
  (h67:∃ d,FM K cJ "way_told" "Yard.way_told" sH ["self", "number"] Uh d)
  (h68:∃ d,FM K cJ "lying" "Yard.lying" nZ ["self", "place"] Ui d)
  (mp:nsIn K mainGlobals "MOST_PLACES" = some (some (.int 12 t1)))
  (ml:nsIn K mainGlobals "MOST_LANES" = some (some (.int 40 t2)))
  (mr:nsIn K mainGlobals "MOST_ROOM" = some (some (.int 60 t3)))
  (mh:nsIn K mainGlobals "MOST_LENGTH" = some (some (.int 60 t4)))
  (mk:nsIn K mainGlobals "MOST_LETTERS" = some (some (.int 60 t5)))
  (p1cL:plainGet K cL Str.empty=true)
  (p2cL:hasDictIn K cL=true)
  (p3cL:plainOver K cL=true)
  (p4cL:findIn K (.ref cL) "__setattr__" = some (some (.builtin "object.__setattr__")))
  (p5cL:makesIn K cL=true)
  (p6cL:keepIn K (.ref cL)=true)
  (ncLplaces:findIn K (.ref cL) "places" = some none)
  (ncLlanes:findIn K (.ref cL) "lanes" = some none)
  (p1cB:plainGet K cB Str.empty=true)
  (p2cB:hasDictIn K cB=true)
  (p3cB:plainOver K cB=true)
  (p4cB:findIn K (.ref cB) "__setattr__" = some (some (.builtin "object.__setattr__")))
  (p5cB:makesIn K cB=true)
  (p6cB:keepIn K (.ref cB)=true)
  (ncBland:findIn K (.ref cB) "land" = some none)
  (p1cD:plainGet K cD Str.empty=true)
  (p2cD:hasDictIn K cD=true)
  (p3cD:plainOver K cD=true)
  (p4cD:findIn K (.ref cD) "__setattr__" = some (some (.builtin "object.__setattr__")))
  (p5cD:makesIn K cD=true)
  (p6cD:keepIn K (.ref cD)=true)
  (ncDland:findIn K (.ref cD) "land" = some none)
  (ncDentries:findIn K (.ref cD) "entries" = some none)
  (p1cO:plainGet K cO Str.empty=true)
  (p2cO:hasDictIn K cO=true)
  (p3cO:plainOver K cO=true)
  (p4cO:findIn K (.ref cO) "__setattr__" = some (some (.builtin "object.__setattr__")))
  (p5cO:makesIn K cO=true)
  (p6cO:keepIn K (.ref cO)=true)
  (ncOland:findIn K (.ref cO) "land" = some none)
  (ncOentries:findIn K (.ref cO) "entries" = some none)
  (p1cA:plainGet K cA Str.empty=true)
  (p2cA:hasDictIn K cA=true)
  (p3cA:plainOver K cA=true)
  (p4cA:findIn K (.ref cA) "__setattr__" = some (some (.builtin "object.__setattr__")))
  (p5cA:makesIn K cA=true)
  (p6cA:keepIn K (.ref cA)=true)
  (ncArights:findIn K (.ref cA) "rights" = some none)
  (ncAreturning:findIn K (.ref cA) "returning" = some none)
  (ncAholder:findIn K (.ref cA) "holder" = some none)
  (ncApieces:findIn K (.ref cA) "pieces" = some none)
  (p1cH:plainGet K cH Str.empty=true)
  (p2cH:hasDictIn K cH=true)
  (p3cH:plainOver K cH=true)
  (p4cH:findIn K (.ref cH) "__setattr__" = some (some (.builtin "object.__setattr__")))
  (p5cH:makesIn K cH=true)
  (p6cH:keepIn K (.ref cH)=true)
  (ncHstart:findIn K (.ref cH) "start" = some none)
  (ncHgoal:findIn K (.ref cH) "goal" = some none)
  (ncHlength:findIn K (.ref cH) "length" = some none)
  (ncHword:findIn K (.ref cH) "word" = some none)
  (ncHgone:findIn K (.ref cH) "gone" = some none)
  (ncHway:findIn K (.ref cH) "way" = some none)
  (p1cJ:plainGet K cJ Str.empty=true)
  (p2cJ:hasDictIn K cJ=true)
  (p3cJ:plainOver K cJ=true)
  (p4cJ:findIn K (.ref cJ) "__setattr__" = some (some (.builtin "object.__setattr__")))
  (p5cJ:makesIn K cJ=true)
  (p6cJ:keepIn K (.ref cJ)=true)
  (ncJtable:findIn K (.ref cJ) "table" = some none)
  (ncJrooms:findIn K (.ref cJ) "rooms" = some none)
  (ncJlanes:findIn K (.ref cJ) "lanes" = some none)
  (ncJletters:findIn K (.ref cJ) "letters" = some none)
  (ncJlies:findIn K (.ref cJ) "lies" = some none)
  (ncJdone:findIn K (.ref cJ) "done" = some none)
  (x1cN:bz K cN none=true)
  (x2cN:keepIn K (.ref cN)=true)
  (x1cT:bz K cT (some (.ref T5))=true)
  (x2cT:keepIn K (.ref cT)=true)
  (x3cT:i7 K cT=true)
  (x4cT:hasDictIn K cT=true)
  (x5cT:findIn K (.ref cT) "__setattr__" = some (some (.builtin "object.__setattr__")))
  (x6cT:findIn K (.ref cT) "__getattribute__" = some (some (.builtin "BaseException.__getattribute__")))
  (x7cT:findIn K (.ref cT) "__getattr__" = some none)
  (ncTmany:findIn K (.ref cT) "many" = some none)
  (x1cR:bz K cR (some (.ref T6))=true)
  (x2cR:keepIn K (.ref cR)=true)
  (x3cR:i7 K cR=true)
  (x4cR:hasDictIn K cR=true)
  (x5cR:findIn K (.ref cR) "__setattr__" = some (some (.builtin "object.__setattr__")))
  (x6cR:findIn K (.ref cR) "__getattribute__" = some (some (.builtin "BaseException.__getattribute__")))
  (x7cR:findIn K (.ref cR) "__getattr__" = some none)
  (ncRlane:findIn K (.ref cR) "lane" = some none)
  (x1cE:bz K cE (some (.ref T7))=true)
  (x2cE:keepIn K (.ref cE)=true)
  (x3cE:i7 K cE=true)
  (x4cE:hasDictIn K cE=true)
  (x5cE:findIn K (.ref cE) "__setattr__" = some (some (.builtin "object.__setattr__")))
  (x6cE:findIn K (.ref cE) "__getattribute__" = some (some (.builtin "BaseException.__getattribute__")))
  (x7cE:findIn K (.ref cE) "__getattr__" = some none)
  (ncErow:findIn K (.ref cE) "row" = some none)
  (x1cM:bz K cM none=true)
  (x2cM:keepIn K (.ref cM)=true)
  (x1cP:bz K cP none=true)
  (x2cP:keepIn K (.ref cP)=true)
  (x1cG:bz K cG none=true)
  (x2cG:keepIn K (.ref cG)=true)
  (x1cW:bz K cW none=true)
  (x2cW:keepIn K (.ref cW)=true)
  (x1cZ:bz K cZ (some (.ref T8))=true)
  (x2cZ:keepIn K (.ref cZ)=true)
  (x3cZ:i7 K cZ=true)
  (x4cZ:hasDictIn K cZ=true)
  (x5cZ:findIn K (.ref cZ) "__setattr__" = some (some (.builtin "object.__setattr__")))
  (x6cZ:findIn K (.ref cZ) "__getattribute__" = some (some (.builtin "BaseException.__getattribute__")))
  (x7cZ:findIn K (.ref cZ) "__getattr__" = some none)
  (ncZstart:findIn K (.ref cZ) "start" = some none)
  (ncZgoal:findIn K (.ref cZ) "goal" = some none)
  (x1cF:bz K cF none=true)
  (x2cF:keepIn K (.ref cF)=true)
  (x1cQ:bz K cQ none=true)
  (x2cQ:keepIn K (.ref cQ)=true)
  (w1cB:PySem.W.readsIn K cB (.type "type")=true)
  (w2cB:PySem.W.findCls K (.ref cB) (.type "type") "__init__" = some (.val (.ref Nu)))
  (w3cB:PySem.W.specialIn K (.ref cB) "__getattribute__" = some (some (.builtin "type.__getattribute__")))
  (kk1:kitOne K (.type "int") (.type "int")=some true)
  (kk2:kitOne K (.type "int") (.type "bool")=some false)
  (kk3:kitOne K (.type "bool") (.type "int")=some true)
  (kk4:kitOne K (.type "bool") (.type "bool")=some true)
  (kk5:kitOne K (.type "NoneType") (.type "int")=some false)
  (kk6:kitOne K (.type "str") (.type "str")=some true)
  (kk7:kitOne K (.type "int") (.type "str")=some false)
  (kk8:kitOne K (.type "tuple") (.type "tuple")=some true)
  (kk9:kitOne K (.type "list") (.type "list")=some true)
  (eQ:PySem.W.exmOne K (.ref cQ) (.ref cQ)=some true)
  (z0:nsIn K mainGlobals "isinstance" = some none)
  (z1:nsIn K mainGlobals "int" = some none)
  (z2:nsIn K mainGlobals "bool" = some none)
  (z3:nsIn K mainGlobals "len" = some none)
  (z4:nsIn K mainGlobals "enumerate" = some none)
  (z5:nsIn K mainGlobals "tuple" = some none)
  (z6:nsIn K mainGlobals "range" = some none)
  (z7:nsIn K mainGlobals "list" = some none)
  (z8:nsIn K mainGlobals "all" = some none)
  (z9:nsIn K mainGlobals "abs" = some none)
  (z10:nsIn K mainGlobals "str" = some none)
  (z11:nsIn K mainGlobals "min" = some none)
  (z12:nsIn K mainGlobals "set" = some none)
  (z13:nsIn K mainGlobals "reversed" = some none)
  : ∃ fd:FuncData,(∀ (s:Shared)(v:Value),BindsTo s fd ⟨[v],[]⟩ [("_law_script",v)])/\∀ base:Heap,K.In base->base.Ns mainGlobals mg->zE l.prog w K mg base aG 10 fa fd ["_law_script"] (pz K):=by
 have e:=DR.symm.trans (mg_of X G a26)
 cases e
 have T:eW mg:=⟨mg_none_of X G z0,mg_none_of X G z1,mg_none_of X G z2,mg_none_of X G z3,mg_none_of X G z4,mg_none_of X G z5,mg_none_of X G z6,mg_none_of X G z7,mg_none_of X G z8,mg_none_of X G z9,mg_none_of X G z10,mg_none_of X G z11,mg_none_of X G z12,mg_none_of X G z13⟩
 obtain⟨d1,H1⟩:=h1
 obtain⟨d2,H2⟩:=h2
 obtain⟨d3,H3⟩:=h3
 obtain⟨d4,H4⟩:=h4
 obtain⟨d5,H5⟩:=h5
 obtain⟨d6,H6⟩:=h6
 obtain⟨d7,H7⟩:=h7
 obtain⟨d8,H8⟩:=h8
 obtain⟨d9,H9⟩:=h9
 obtain⟨d10,F6⟩:=h10
 obtain⟨d11,Pa⟩:=h11
 obtain⟨d12,Pb⟩:=h12
 obtain⟨d13,Pc⟩:=h13
 obtain⟨d14,Pe⟩:=h14
 obtain⟨d15,IY⟩:=h15
 obtain⟨d16,El⟩:=h16
 obtain⟨d17,Pf⟩:=h17
 obtain⟨d18,Pg⟩:=h18
 obtain⟨d19,Ph⟩:=h19
 obtain⟨d20,Pj⟩:=h20
 obtain⟨d21,Pk⟩:=h21
 obtain⟨d22,Pl⟩:=h22
 obtain⟨d23,Pm⟩:=h23
 obtain⟨d24,Pn⟩:=h24
 obtain⟨d25,Po⟩:=h25
 obtain⟨d27,Pp⟩:=h27
 obtain⟨d28,U2⟩:=h28
 obtain⟨d29,NC⟩:=h29
 obtain⟨d30,JD⟩:=h30
 obtain⟨d31,JE⟩:=h31
 obtain⟨d32,U3⟩:=h32
 obtain⟨d33,U4⟩:=h33
 obtain⟨d34,U5⟩:=h34
 obtain⟨d35,U6⟩:=h35
 obtain⟨d36,ND⟩:=h36
 obtain⟨d37,Pq⟩:=h37
 obtain⟨d38,U7⟩:=h38
 obtain⟨d39,Pr⟩:=h39
 obtain⟨d40,U8⟩:=h40
 obtain⟨d41,NG⟩:=h41
 obtain⟨d42,IZ⟩:=h42
 obtain⟨d43,U9⟩:=h43
 obtain⟨d44,Ja⟩:=h44
 obtain⟨d45,UA⟩:=h45
 obtain⟨d46,UB⟩:=h46
 obtain⟨d47,UC⟩:=h47
 obtain⟨d48,UD⟩:=h48
 obtain⟨d49,NJ⟩:=h49
 obtain⟨d50,UE⟩:=h50
 obtain⟨d53,UG⟩:=h53
 obtain⟨d54,UH⟩:=h54
 obtain⟨d55,UI⟩:=h55
 obtain⟨d56,UJ⟩:=h56
 obtain⟨d57,UK⟩:=h57
 obtain⟨d58,UL⟩:=h58
 obtain⟨d59,UM⟩:=h59
 obtain⟨d60,UN⟩:=h60
 obtain⟨d61,UO⟩:=h61
 obtain⟨d62,NK⟩:=h62
 obtain⟨d63,UP⟩:=h63
 obtain⟨d64,UQ⟩:=h64
 obtain⟨d65,UR⟩:=h65
 obtain⟨d66,US⟩:=h66
 obtain⟨d67,UT⟩:=h67
 obtain⟨d68,UU⟩:=h68
 have F26:=jB (st:=jr) l26 c26 k26
 have F51:Eb K "__init__" "Yard.__init__" iq IU _:=⟨⟨_,_,_,_,_,_,_,_,_,_,rfl,l51,c51⟩,k51⟩
 have F52:Eb K "post" "Yard.post" gU JC _:=⟨⟨_,_,_,_,_,_,_,_,_,_,rfl,l52,c52⟩,k52⟩
 have L:lC K ⟨cN,cT,cR,cL⟩:=⟨⟨p1cL,p2cL,p3cL,p4cL⟩,ncLplaces,ncLlanes⟩
 have xT:gJ K cT:=⟨x3cT,x4cT,x5cT,x6cT,x7cT⟩
 have xR:gJ K cR:=⟨x3cR,x4cR,x5cR,x6cR,x7cR⟩
 have xE:gJ K cE:=⟨x3cE,x4cE,x5cE,x6cE,x7cE⟩
 have xZ:gJ K cZ:=⟨x3cZ,x4cZ,x5cZ,x6cZ,x7cZ⟩
 have Z:uX K:=⟨kk1,kk2,kk3,kk4,kk5⟩
 have ZS:Mz K:=⟨kk6,kk7,kk8⟩
 have E:Exc K mg ⟨cN,cT,cR,cL⟩ T5 T6 _ _:=⟨(mg_of X G gcN),x1cN,x2cN,(mg_of X G gcT),x1cT,x2cT,xT,ncTmany,U3.m.fn,U3.F,U3.b,(mg_of X G gcR),x1cR,x2cR,xR,ncRlane,U4.m.fn,U4.F,U4.b⟩
 have B:QQ K mg ⟨cB,cD,cE⟩ Nu T7 _ _:=⟨⟨p1cB,p2cB,p3cB,p4cB⟩,ncBland,⟨p1cD,p2cD,p3cD,p4cD⟩,ncDland,ncDentries,(mg_of X G gcB),⟨w1cB,w2cB,w3cB,ND.m.kp⟩,ND.b,(mg_of X G gcE),x1cE,x2cE,xE,ncErow,U5.m.fn,U5.F,U5.b⟩
 have BN:Sd K mg ⟨cB,cO⟩ Nu _:=⟨⟨p1cO,p2cO,p3cO,p4cO⟩,ncOland,ncOentries,(mg_of X G gcB),⟨w1cB,w2cB,w3cB,ND.m.kp⟩,ND.b⟩
 have M:Lk K ⟨cN,cT,cR,cL⟩ T3 T4 _ _:=⟨JD.m,JE.m,JD.b,JE.b⟩
 have ME:wV K ⟨cN,cT,cR,cL⟩ OZ _:=⟨NC.m,NC.b⟩
 have Y:∀ ex:List Addr,iJ K ⟨cJ,cA,cH,ex⟩:=fun _=>⟨⟨p1cJ,p2cJ,p3cJ,p4cJ⟩,ncJtable,ncJrooms,ncJlanes,ncJletters,ncJlies,ncJdone,⟨p1cH,p2cH,p3cH,p4cH⟩,ncHstart,ncHgoal,ncHlength,ncHword,ncHgone,ncHway,⟨⟨p1cA,p2cA,p3cA,p4cA⟩,ncArights,ncAreturning,ncAholder,ncApieces⟩⟩
 have eX:ve K mg "NoRooms" cM:=⟨(mg_of X G gcM),x1cM,x2cM⟩
 have X1:ve K mg "NoPlace" cP:=⟨(mg_of X G gcP),x1cP,x2cP⟩
 have X2:ve K mg "NoLength" cG:=⟨(mg_of X G gcG),x1cG,x2cG⟩
 have X3:ve K mg "NoWord" cW:=⟨(mg_of X G gcW),x1cW,x2cW⟩
 have X5:ve K mg "Full" cF:=⟨(mg_of X G gcF),x1cF,x2cF⟩
 have X4:VS K mg cZ T8 _:=⟨(mg_of X G gcZ),x1cZ,x2cZ,xZ,ncZstart,ncZgoal,U6.m.fn,U6.F,U6.b⟩
 have XM:Lr K mg cQ:=⟨(mg_of X G gcQ),x1cQ,x2cQ,eQ⟩
 have Ta:=oS (kV:=N2) (doc:=N3) (pm:=N4) (cdv:=IW) (ct:=N5) (an:=Nw) d51 rfl
 have bp1:=nq (kV:=N6) (doc:=N7) (pm:=N8) (cdv:=IX) (ct:=N9) (an:=Nx) d52 rfl
 have Mi:Mk K cL T2:=⟨p5cL,Pp.m.at_,Pp.m.fn,p6cL⟩
 have Mt:Mk K cD T9:=⟨p5cD,Pq.m.at_,Pq.m.fn,p6cD⟩
 have Mn:Mk K cO TB:=⟨p5cO,Pr.m.at_,Pr.m.fn,p6cO⟩
 have My:Mk K cJ IU:=⟨p5cJ,a51,i51,p6cJ⟩
 have Ma:Mk K cA TF:=⟨p5cA,NG.m.at_,NG.m.fn,p6cA⟩
 have Mh:Mk K cH TM:=⟨p5cH,NJ.m.at_,NJ.m.fn,p6cH⟩
 have Ml:Lm K ⟨cN,cT,cR,cL⟩ XH OZ T3 T4 _ _ _ _:=⟨U2.m,U2.b,NC.m,NC.b,JD.m,JD.b,JE.m,JE.b⟩
 refine⟨fnOf "law" "law" (bI jr) (aJ jr) (ai jr) .none Ny Nz N0 Nv IV N1,fun s v => .of_eq rfl,fun base _ _=>?_⟩
 have Gm:zE l.prog w K mg base aG 2 f2 _ _ _:=yC H2.F T H1.m H1.F H1.b
 obtain⟨fw,dw,WG⟩:=both (P:=fun b f d=>Wy K (TC ⟨cB,cD,cE⟩ ⟨cB,cO⟩ b) f d (JJ l.prog w ⟨cB,cD,cE⟩ ⟨cB,cO⟩ b)/\zE l.prog w K mg base aG 3 f d ["self", "place", "goal", "came"] (eE (JJ l.prog w ⟨cB,cD,cE⟩ ⟨cB,cO⟩ b)))
  ⟨⟨⟨p1cO,p2cO,p3cO,p4cO⟩,ncOland,U8.m,U8.b,fun H H' x n wy h k=>J4.keep (n:=n) (wy:=wy) h k⟩,tM U8.F BN H2.m H2.k H2.b Gm⟩ ⟨⟨⟨p1cD,p2cD,p3cD,p4cD⟩,ncDland,U7.m,U7.b,fun H H' x n wy h k=>Cp.keep (n:=n) (wy:=wy) h k⟩,nH (tN U7.F B H2.m H2.k H2.b Gm)⟩
 have Wb:=fun b=>(WG b).1
 have Gb:=fun b=>(WG b).2
 have Gw:zE l.prog w K mg base aG 2 f5 _ _ _:=qJ H5.F T H4.m H4.F H4.b
 have UW:zE l.prog w K mg base aG 2 f5 _ _ _:=ow H5.F T Z H4.m H4.F H4.b
 have GW:zE l.prog w K mg base aG 1 f4 _ _ _:=kd H4.F T Z
 have G2:zE l.prog w K mg base aG 3 f7 _ _ _:=y2 H7.F H5.m H5.k H5.b Gw
 have Gi:zE l.prog w K mg base (eP l.prog w) 4 T2 _ _ _:=we Pp.F T L E H5.m H5.k H5.b Gw H7.m H7.k H7.b G2 (mg_of X G mp) (mg_of X G ml)
 have Go:zE l.prog w K mg base aG 2 f6 _ _ _:=y9 H6.F T H4.m H4.F H4.b
 have Gf:zE l.prog w K mg base aG 4 f8 _ _ _:=wg H8.F T L M H7.m H7.k H7.b G2 H6.m H6.k H6.b Go (tR JD.F T L) (pL JE.F T L)
 have G1:zE l.prog w K mg base aG 1 Nu _ _ _:=y3 ND.F
 have XU:zE l.prog w K mg base aG 1 f3 _ _ _:=y6 H3.F
 have Gt:zE l.prog w K mg base (eP l.prog w) 5 T9 _ _ _:=vO Pq.F T B G1 H8.m H8.k H8.b Gf H3.m H3.k H3.b XU
 have Ge:zE l.prog w K mg base aG 1 OZ _ _ _:=yM NC.F L
 have Gh:zE l.prog w K mg base aG 2 Xz _ _ _:=yK Pc.F T L Ml (tO U2.F L) (pL JE.F T L)
 have Gnl:zE l.prog w K mg base aG 2 X0 _ _ _:=MC Pe.F T L Ml Ge (tR JD.F T L)
 have Gn:zE l.prog w K mg base aG 3 TB _ _ _:=vW Pr.F T L BN G1 Pc.m Pc.k Pc.b Gh Pe.m Pe.k Pe.b Gnl H3.m H3.k H3.b XU
 have SY:zE l.prog w K mg base (eP l.prog w) 3 Xx _ _ _:=tP F6.F T L eX H5.m H5.k H5.b UW (mg_of X G mr)
 have Rn:zE l.prog w K mg base aG 2 Oi _ _ _:=vL Pa.F T H4.m H4.k H4.b GW
 have XW:zE l.prog w K mg base aG 1 TF _ _ _:=yH NG.F (Y []).L
 have Glt:zE l.prog w K mg base aG 1 XN _ _ _:=yG UC.F T (Y []).L
 have UX:zE l.prog w K mg base aG 1 XI _ _ _:=vV IZ.F (Y []).L
 have UY:zE l.prog w K mg base aG 1 XJ _ _ _:=tY Ja.F (Y []).L
 have Gpu:zE l.prog w K mg base (eP l.prog w) 2 TH _ _ _:=y8 U9.F (Y []).L XM IZ.m IZ.b UX
 have Gpl:zE l.prog w K mg base (eP l.prog w) 1 TK _ _ _:=vR UA.F (Y []).L XM
 have Gbr:zE l.prog w K mg base (eP l.prog w) 1 TL _ _ _:=ua UB.F (Y []).L XM
 have Gtw:zE l.prog w K mg base aG 3 XO _ _ _:=yF UD.F T (Y []).L (mg_of X G gcA) Ma NG.b XW
 have XX:zE l.prog w K mg base aG 1 TM _ _ _:=yE NJ.F (Y [])
 have Gtx:zE l.prog w K mg base aG 3 XQ _ _ _:=yD UE.F T (Y []) (mg_of X G gcH) Mh NJ.b XX
 have Gy:∀ (b:Bool)(ex:List Addr),zE l.prog w K mg base (eP l.prog w) 4 IU _ _ _:=fun b ex=>y1 F51 T L (Y ex) (Wb b) F6.m F6.k F6.b SY (mg_of X G gcA) Ma NG.b XW
 have Gp:∀ (b:Bool)(ex:List Addr),zE l.prog w K mg base (eP l.prog w) 4 JC _ _ (nL K ⟨cN,cT,cR,cL⟩ (TC ⟨cB,cD,cE⟩ ⟨cB,cO⟩ b) (JJ l.prog w ⟨cB,cD,cE⟩ ⟨cB,cO⟩ b) ⟨cJ,cA,cH,ex⟩ ⟨cP,cG,cW,cZ,cF⟩):=fun b ex=>vS F52 T L (Y ex) (Wb b) (Gb b) H5.m H5.k H5.b UW Pa.m Pa.k Pa.b Rn (mg_of X G gcH) Mh NJ.b XX (mg_of X G mh) (mg_of X G mk) X1 X2 X3 X4 X5
 have Gol:∀ ex:List Addr,zE l.prog w K mg base aG 4 Ud _ _ _:=fun ex=>vU UQ.F (Y ex) UD.m UD.b Gtw
 have Got:∀ ex:List Addr,zE l.prog w K mg base aG 4 Ue _ _ _:=fun ex=>vT UR.F (Y ex) UE.m UE.b Gtx
 have O:∀ ex:List Addr,Own l.prog w K mg base ⟨cJ,cA,cH,ex⟩ cQ Ud Ue TH _ _ _:=fun ex=>⟨UQ.m,UQ.b,Gol ex,UR.m,UR.b,Got ex,U9.m,U9.b,Gpu⟩
 have Gly:∀ ex:List Addr,zE l.prog w K mg base aG 1 Uc _ _ _:=fun ex=>yI UP.F (Y ex)
 have Glg:∀ ex:List Addr,zE l.prog w K mg base aG 1 Ui _ _ _:=fun ex=>tU UU.F T (Y ex)
 have Gen:∀ ex:List Addr,zE l.prog w K mg base aG 5 Ub _ _ _:=fun ex=>tZ NK.F (Y ex) (O ex)
 have Ggi:∀ ex:List Addr,zE l.prog w K mg base aG 6 Ua _ _ _:=fun ex=>wf UO.F (Y ex) (O ex) NK.m NK.b (Gen ex)
 have Gon:∀ b:Bool,zE l.prog w K mg base aG 4 f9 _ _ _:=fun b=>yA H9.F L (Wb b) (Gb b) ME Ge
 have Gmi:∀ (b:Bool)(ex:List Addr),zE l.prog w K mg base aG 4 TN _ _ (nN K ⟨cN,cT,cR,cL⟩ (TC ⟨cB,cD,cE⟩ ⟨cB,cO⟩ b) (JJ l.prog w ⟨cB,cD,cE⟩ ⟨cB,cO⟩ b) ⟨cJ,cA,cH,ex⟩):=fun b ex=>vY UH.F (Y ex) (Wb b) (Gb b) IZ.m IZ.b UX
 have Gwa:∀ (b:Bool)(ex:List Addr),zE l.prog w K mg base aG 5 XS _ _ (ji K ⟨cN,cT,cR,cL⟩ (TC ⟨cB,cD,cE⟩ ⟨cB,cO⟩ b) (JJ l.prog w ⟨cB,cD,cE⟩ ⟨cB,cO⟩ b) ⟨cJ,cA,cH,ex⟩):=fun b ex=>qK UL.F (Y ex) (Wb b) Ja.m Ja.b UY H9.m H9.k H9.b (Gon b)
 have Gmo:∀ (b:Bool)(ex:List Addr),zE l.prog w K mg base aG 6 TQ _ _ (nM K ⟨cN,cT,cR,cL⟩ (TC ⟨cB,cD,cE⟩ ⟨cB,cO⟩ b) (JJ l.prog w ⟨cB,cD,cE⟩ ⟨cB,cO⟩ b) ⟨cJ,cA,cH,ex⟩):=fun b ex=>vX UI.F (Y ex) (Wb b) Ja.m Ja.b UY UL.m UL.b (Gwa b ex) IZ.m IZ.b UX
 have Gml:∀ (b:Bool)(ex:List Addr),zE l.prog w K mg base aG 2 TU _ _ _:=fun b ex=>tS UJ.F (Y ex) L (Wb b) Ja.m Ja.b UY ME Ge
 have Gmb:∀ (b:Bool)(ex:List Addr),zE l.prog w K mg base aG 1 TV _ _ (jj K ⟨cN,cT,cR,cL⟩ (TC ⟨cB,cD,cE⟩ ⟨cB,cO⟩ b) (JJ l.prog w ⟨cB,cD,cE⟩ ⟨cB,cO⟩ b) ⟨cJ,cA,cH,ex⟩):=fun b ex=>qL UK.F (Y ex)
 have MM:∀ (b:Bool)(ex:List Addr),RD l.prog w K mg base ⟨cN,cT,cR,cL⟩ (TC ⟨cB,cD,cE⟩ ⟨cB,cO⟩ b) (JJ l.prog w ⟨cB,cD,cE⟩ ⟨cB,cO⟩ b) ⟨cJ,cA,cH,ex⟩ TN TQ TU TV _ _ _ _:=fun b ex=>⟨UH.m,UH.b,Gmi b ex,UI.m,UI.b,Gmo b ex,UJ.m,UJ.b,Gml b ex,UK.m,UK.b,Gmb b ex⟩
 have Gms:∀ (b:Bool)(ex:List Addr),zE l.prog w K mg base aG 7 XR _ _ _:=fun b ex=>tT UG.F T (Y ex) (Wb b) (MM b ex)
 have Gim:zE l.prog w K mg base aG 2 Xy _ _ _:=wc Pb.F T ZS H4.m H4.k H4.b GW
 have Glk:∀ (b:Bool)(ex:List Addr),zE l.prog w K mg base aG 7 TY _ _ _:=fun b ex=>wb UM.F T (Y ex) (Wb b) (MM b ex) Pb.m Pb.k Pb.b Gim H5.m H5.k H5.b UW
 have DM:∀ (b:Bool)(ex:List Addr),Ww l.prog w K mg base ⟨cN,cT,cR,cL⟩ (TC ⟨cB,cD,cE⟩ ⟨cB,cO⟩ b) (JJ l.prog w ⟨cB,cD,cE⟩ ⟨cB,cO⟩ b) ⟨cJ,cA,cH,ex⟩ cQ TY Ua Ub TK TL Uc _ _ _ _ _ _:=fun b ex=>⟨UM.m,UM.b,Glk b ex,UO.m,UO.b,Ggi ex,NK.m,NK.b,Gen ex,UA.m,UA.b,Gpl,UB.m,UB.b,Gbr,UP.m,UP.b,Gly ex⟩
 have Gdo:∀ (b:Bool)(ex:List Addr),zE l.prog w K mg base (eP l.prog w) 8 XT _ _ _:=fun b ex=>M3 UN.F (Y ex) L (Wb b) XM (O ex) (DM b ex) ME Ge
 have UZ:∀ ex:List Addr,zE l.prog w K mg base aG 2 Ug _ _ _:=fun ex=>tX US.F (Y ex) UC.m UC.b Glt
 have Gwt:∀ ex:List Addr,zE l.prog w K mg base aG 1 Uh _ _ _:=fun ex=>vM UT.F T (Y ex)
 have Gc:zE l.prog w K mg base aG 1 X6 _ _ _:=wj IY.F T
 have Pt:zE l.prog w K mg base aG 1 X7 _ _ _:=yB El.F
 have Gln:zE l.prog w K mg base aG 2 X8 _ _ _:=tW Pf.F T El.m El.k El.b Pt
 have Grw:zE l.prog w K mg base aG 2 X9 _ _ _:=vQ Pg.F T El.m El.k El.b Pt
 have Gtb:zE l.prog w K mg base aG 7 XA _ _ _:=vZ Ph.F ⟨IY.m,IY.k,IY.b,Gc,Pf.m,Pf.k,Pf.b,Gln,(mg_of X G gcL),Mi,Pp.b,Gi,(mg_of X G gcO),Mn,Pr.b,Gn,(mg_of X G gcD),Mt,Pq.b,Gt,Pg.m,Pg.k,Pg.b,Grw⟩
 have Gbe:∀ b:Bool,zE l.prog w K mg base aG 4 XB _ _ _:=fun b=>ub Pj.F T L (Wb b) (Gb b)
 have Glr:∀ b:Bool,zE l.prog w K mg base aG 2 XC _ _ _:=fun b=>qM Pk.F T L (Wb b) El.m El.k El.b Pt
 have SM:∀ ex:List Addr,OS l.prog w K mg base ⟨cJ,cA,cH,ex⟩ Ug Uh Ui _ _ _:=fun ex=>⟨US.m,US.b,UZ ex,UT.m,UT.b,Gwt ex,UU.m,UU.b,Glg ex⟩
 have AY:zE l.prog w K mg base aG 1 XD _ _ _:=y4 Pl.F T
 have Va:∀ ex:List Addr,zE l.prog w K mg base aG 3 XF _ _ _:=fun ex=>vP Pn.F T (Y ex) (SM ex)
 have Gll:∀ ex:List Addr,zE l.prog w K mg base aG 3 XE _ _ _:=fun ex=>tV Pm.F T (Y ex) (SM ex) Pl.m Pl.k Pl.b AY
 have Gri:∀ ex:List Addr,zE l.prog w K mg base aG 4 XG _ _ _:=fun ex=>tQ Po.F T (Y ex) (SM ex) Pn.m Pn.k Pn.b (Va ex) Pm.m Pm.k Pm.b (Gll ex)
 exact yJ (c:=⟨cN,cT,cR,cL⟩) (ts:=⟨cB,cD,cE⟩) (tn:=⟨cB,cO⟩) (ys:=⟨cJ,cA,cH,[]⟩) (x:=⟨cP,cG,cW,cZ,cF⟩) (nr:=cM) F26 T L (Y []) Wb ⟨IY.m,IY.k,IY.b,Gc,El.m,El.k,El.b,Pt,Ph.m,Ph.k,Ph.b,Gtb,Pj.m,Pj.k,Pj.b,Gbe,Pk.m,Pk.k,Pk.b,Glr,(mg_of X G gcJ),My,Ta,fun b=>Gy b [],⟨a52,i52,k52⟩,bp1,Gp,UG.m,UG.b,Gms,UN.m,UN.b,Gdo,Po.m,Po.k,Po.b,Gri⟩
end
theorem walk {l:PySem.W.OpenLaw}{q:Program}{loose:List Str}{XP:(Str->Option Value)->Heap->Prop}{YP:World->Heap->Prop}{d:DefRec}{K:Params->Frag}(hn:l.most=some 63)(Ko:d.params.defaults=[])
  (hY:∀ (w:World)(h:Heap),YP w h->(K w.params).In h)
  (F:∀ (w:World)(mg:Str->Option Value)(fa:Addr)(h:Heap),(K w.params).In h->h.Ns mainGlobals mg->mg d.name=some (.ref fa) ->
   ∃ fd:FuncData,(∀ (s:Shared)(u:Value),BindsTo s fd ⟨[u],[]⟩ [("_law_script",u)])/\∀ base:Heap,(K w.params).In base->base.Ns mainGlobals mg->zE l.prog w (K w.params) mg base aG 10 fa fd ["_law_script"] (pz (K w.params))) :
  PySem.W.WalkO q loose XP YP l.row.toRowW d [] (fun f vs=>PySem.call f vs) :=
 L2.Fy (n:=63) (k:=10) (x := "_law_script") (CX:=fun _=>aG) (sp:=fun w=>pz (K w.params)) hn (by decide) Ko ⟨rfl,by decide,by decide⟩ hY F (fun _ _ a ns hl _ hS=>⟨a,ns,rfl,hS,hl,fun _=>rfl⟩) fun _ _ _ _ _ z=>z
end K49
local macro_rules | `(tactic| symm_saturate) => `(tactic| first | (refine' K49.mkT (by assumption) (by assumption) ?b ?a ?l ?c ?k; (case b => first | exact fun _ _ _ _ _ _ => K49.len_of1 (fun _ => rfl) | exact fun _ _ _ _ _ _ => K49.len_of2 (fun _ _ => rfl) | exact fun _ _ _ _ _ _ => K49.len_of3 (fun _ _ _ => rfl) | exact fun _ _ _ _ _ _ => K49.len_of4 (fun _ _ _ _ => rfl) | exact fun _ _ _ _ _ _ => K49.len_of5 (fun _ _ _ _ _ => rfl)); (case a => k_is); (case l => k_is); (case c => k_is); (case k => k_is)) | (refine' K49.mkM ?b ?a ?l ?c ?k ?i; (case b => first | exact fun _ _ _ _ _ _ => K49.len_of1 (fun _ => rfl) | exact fun _ _ _ _ _ _ => K49.len_of2 (fun _ _ => rfl) | exact fun _ _ _ _ _ _ => K49.len_of3 (fun _ _ _ => rfl) | exact fun _ _ _ _ _ _ => K49.len_of4 (fun _ _ _ _ => rfl) | exact fun _ _ _ _ _ _ => K49.len_of5 (fun _ _ _ _ _ => rfl)); (case a => k_is); (case l => k_is); (case c => k_is); (case k => k_is); (case i => k_is)))
structure PySem.W.Fast:Prop where
 (tw9028516014847921748 tw7825774018202278752 tw10522822994523614667 tw8379761651679926461 tw15957928893135501601 tw12568916216634512680 tw15773567879974430381 tw5556506823828883746 tw12283840015939821532 tw16943718341561334443 tw17449609975770019398 tw16957906746030372630 tw14600529530035892428 tw492484257751006175 tw15382820341666027167 tw6107827867947428779 tw5579005563909448112 tw16587337324839586149 tw2583488465726089808 tw9782908945509251518 tw1339458288104941137 tw9486894847408289035 tw4041960786349873305 tw335114324391437048 tw11586846994299208542 tw2548635106983592513 tw3116241426834460443 tw8944688137397715315 tw8779887242721752770 tw14522593013463474392 tw16746600641110324079 tw17614838188760745053 tw14747278664937908036 tw2047149088011423060 tw9592161514235049577 tw6530713433547753971 tw5641326172965893987 tw14646980670392553739 tw997751350186036756 tw7596771910361341691 tw2007478478389859106 tw15290093341917004674 tw2716013027734106323 tw8365246535284813586 tw15421902799757526636 tw3118426937754763996 tw17813403692943309022 tw9607384953753938034 tw1051044812737125358 tw10634947828121914213 tw16709450860750021018 tw8187970643918904984 tw5539477328498588577 tw13711984841666709142 tw5001668305987282226 tw18269245765526330273 tw7040503603608493968 tw16051018805410740953 tw8001727036973337102 tw6042455511781667971 tw10558415298015217626 tw6241381752774073170 tw17721195614646353377 tw5440925164062659510 tw10019635011439051315 tw6816999463108871081 tw15820375854513152795 tw8406099336304019783 tw8328336401106314336 tw8196461457977075618 tw15458295060431556081 tw3849523194669927775 tw17182774721504489590 tw9785800551689031779 tw7936753673678589021 tw1097654023068405124 tw8520329050247590358 tw6804260804575536286 tw2092138072817332155 tw7373192802007679964 tw1228175655249534874 tw11172063949090468388 tw409226385524366043 tw10844171855811017859 tw434765681411757077 tw6101872912686641027 tw13358444326713761661 tw8758386815512343145 tw12796624321508073494 tw4734435250549816174 tw16953687988620877231 tw5455948379639883402 tw3553718182218569385 tw3587944265090896632 tw14325970555678692540 tw16883964157103741338 tw2090475546642014656 tw2517516484537703589 tw5138153776283093329 tw8180097541282694304 tw4033603266829389158 tw4818781758479786665 tw2810225082593017875 tw12057389743768636988 tw12251326958209646253 tw4732311923681294266 tw589856684246676099 tw5068548952265279784 tw14839498978878161683 tw4362698610685390755 tw1297124653903907103 tw11013640328238649381 tw4241274607710658404 tw3132747852954042672 tw4754750937423481755 tw2264600720721114490 tw1724655925433174672 tw4589729298974354061 tw7784112360151593287 tw12595603485085974428 tw1081158341958176617 tw13600575744561226880 tw10018331193247145018 tw12642824546488632669 tw11620168146128398477 tw13446581319675308320 tw5385208017455729233 tw18415899908142881644 tw12481244965137733784 tw12381164109835038019 tw16515547521610840174 tw17770469822088217106 tw4041978293542328204 tw765610195157205676 tw8710508812896070558 tw4783170433778911124 tw5097266957379639060 tw1035073540241845144 tw2453206922145284218 tw10450492401773896205 tw6422561597247788356 tw1692169400297035967 tw12400388404720971316 tw8883758534379085389 tw17766945581321023377 tw6816197526243184454 tw16426319688218959425 tw8652902038196953971 tw10269917576421230521 tw6870942536988417482 tw7936248059632144524 tw17493782532372453743 tw9272945747260145261 tw2029097679309880479 tw15251738089406679696 tw10667384570437669755 tw12917757438544000701 tw5607328858537071869 tw13408127325554956277 tw10065883883750659549 tw180874420904306794 tw13905716809674138131 tw10268394425398069377 tw18354288842106610825 tw7688325831476244238 tw18097023662485691520 tw6921995348909497068 tw14542464423189802866 tw207929520924792141 tw2743867677856040682 tw14844027338113644062 tw752490007805830750 tw18392659626340084088 tw12285376597873325948 tw11372688848674686366 tw10036944785144753895 tw228480758308381835 tw9575108272511663601 tw7755639768007071225 tw7105194811619937597 tw5117759298648104234 tw17049020001468583704 tw17845849122410821057 tw16055664064116578090 tw13307791157656074615 tw9049108059986372249 tw8835674345175815468 tw3255223670973528319 tw2602351955222185930 tw12861193918190442613 tw2694330933480996746 tw7292226844744761261 tw1009775866834102442 tw5150617179790324297 tw14529817785364635853 tw16342851742516728485 tw3571296300168149511 tw14789204319072265666 tw15693599158444194146 tw6347106462034905214 tw15709650671871504855 tw2948324153396959983 tw16562498401348167126 tw3188747857383866816 tw2444242205944603100 tw525034628657208743 tw2452462415349477410 tw3628572743255482782 tw12658359542643717314 tw8586833040678939142 tw18018559056963050199 tw6340983942126947669 tw2631948517284898212 tw256389650916237330 tw5336145347919915727 tw7161868643928307847 tw15947509083209539176 tw15908607696344678609 tw11382953688319207100 tw11950700062630065823 tw13837136445696024427 tw13898020746828236637 tw2175947154032430348 tw5574967968443868415 tw6388456307491589083 tw10598198520596420666 tw17124674914360120089 tw11224390857143941268 tw17141128540421849925 tw16350158412191963779 tw7183698935915260993 tw11879376685461547365 tw16753541420116163789 tw10258142678969653105 tw980303353423744937 tw14157427558658341093 tw12654622618280025530 tw4670568366437294840 tw10381698266242925503 tw5566755459676271454 tw9949409376808132366 tw6370452155298354939 tw14857142661100995939 tw2139743566867142267 tw2328875511926931078 tw8553623397360194104 tw6663763474365941308 tw6444448286967011064 tw2576415200351170082 tw10821845048747741041 tw7902997136862274841 tw4708290558131823058 tw3505230028355548401 tw13423082020606160883 tw11982488812205364968 tw9769120168750424655 tw978491837421056792 tw4201180286116733653 tw9948950109180963216 tw9621711310502460322 tw1942624685907440426 tw12510742956401407212 tw8431738819320005824 tw13909270691932253789 tw8535134306817871204 tw3052036900545173217 tw15942155388337930507 tw6552593283863105013 tw4946591402397991927 tw6142802183763580318 tw10928534861755128770 tw1376076865366038745 tw3344812233615802808 tw8989230368979331390 tw16971952719535137123 tw988459059636791957 tw9282187526529985658 tw8285632157493178882 tw5891443539725180298 tw17926979642861913783 tw17805600500629271194 tw3892431903322031335 tw3333829995217978065 tw254663185370074267 tw15339821548608966293 tw3969957633339285383 tw10195405023930449601 tw1255185133331539276 tw7487814736339317976 tw14308040546855574889 tw15783350674918823966 tw3430667695364565016 tw12139247315745650531 tw8908470937474530450 tw7056675895228275316 tw14122276162948942800 tw7016234267221628076 tw10471709772301494781 tw1599428955058093 tw1864991731775911588 tw8125942663735666936 tw4534939999452178519 tw2023105039454181125 tw6869899789453530619 tw7823439000904978352 tw14746257563311599388 tw17722771598863344475 tw5370759637400967906 tw4981675787456710356 tw6925006870406935534 tw5982394833184571468 tw4217424279000088076 tw17574896534116231181 tw1086570512130197244 tw13084031538139226604 tw16003152906604088898 tw3267531638602502741 tw17143586823727665683 tw12943842968573416763 tw2555723365820372896 tw9521345133959930900 tw6394872695722919200 tw10643958286135273547 tw13702394957512358129 tw13961879291153209538 tw8407734818829212175 tw839065097699092206 tw6056923332979950242 tw15571124046471997490 tw1492790288030731599 tw5475236685524690039 tw14911808962316728227 tw5413549538852461274 tw1798920443341154111 tw1780396195632254951 tw9968852570871810497 tw9350988485157364125 tw8000233751851791040 tw1829982240432509427 tw846801493552131229 tw11343854720328531690 tw16826654784518066418 tw7067581882934045250 tw3061937570310415638 tw10745591833519786536 tw2316833610395903367 tw13722913813747403387 tw6142213670880833958 tw5684666798946846588 tw5356580517652097706 tw3923686583755843919 tw11662594445124723047 tw5767245121225564213 tw3740932208905230913 tw1468508909634247505 tw11949751086181562368 tw17971465436758935277 tw8875020963819778245 tw1164008774023894642 tw710976790362782707 tw15397573363363879906 tw14636170611522116044 tw14076626716503173159 tw1522525675946528615 tw9299005695506390759 tw7212314242175291184 tw10961286547614240169 tw1009373089019749087 tw14476940650214183254 tw1380213720746594538 tw947167270226616955 tw17350644103828665376 tw6357323051483200280 tw14539231766488508428 tw5695033959606004754 tw1839925323796369132 tw11091839252978433482 tw8222392650410934891 tw16735010280505291449 tw13148403364358548184 tw147970289003579690 tw13460944474328651372 tw5030320516415907842 tw3085098970598089831 tw14417044420734236743 tw3120808961232718060 tw11533906694746516179 tw17616005789830551366 tw785253935941214180 tw9896834370760238975 tw10794370661091217524 tw3617278891046890958 tw14547581739648691043 tw16785053077145617407 tw10747943637525129196 tw6429334653930843095 tw15558217955600992257 tw4148228754506686838 tw15042496751527504071 tw5817517798731216354 tw7238030284477395811 tw14020364888840009086 tw13791520449341192807 tw7371646618585954998 tw8973265599407094238 tw4635997227594553827 tw14054150265381058006 tw6699529718174542395 tw7544992291648093138 tw14854658846996975070 tw7485310320525182139 tw6662464260436498372 tw571746584153912577 tw2297299653707535712 tw2007846391280629638 tw6900115972874519329 tw208566736395500119 tw17153781014295082712 tw14007127491220072051 tw3217858346500828658 tw1400021791621423460 tw5499527243560129267 tw14330631033533266841 tw6245500668129833886 tw10931739107572856420 tw17644650189045606678 tw15632807462990031280 tw14798241072684872193 tw10510109085516517001 tw9547343923776721628 tw3495750162393342675 tw15205707347934609085 tw14231698180306074530 tw17287852584745513484 tw715645150281369456 tw5267115048777465409 tw2989455464722274430 tw18159424376837300607 tw1411468533695477118 tw128955379998509786 tw2371630323915809712 tw16613168439410225976 tw5875760909078216123 tw17670486531716107379 tw16572253538291919608 tw6485024533093981694 tw3198076364530426937 tw1516870471817314030 tw14739729889906560376 tw8793953720430749295 tw11963274859000059881 tw13827604526085126317 tw7035337445565724770 tw1648145916423363993 tw12718347860179550427 tw18002634532819059682 tw17250565820979397202 tw4347174371589804814 tw17766424777876927990 tw1648104646817928671 tw15206072120681978490 tw14420479022325103551 tw1206611754793075520 tw16680701898702666447 tw11145047011640977433 tw12180679034007637575 tw612196464720393735 tw8645794478175497726 tw6960723030861560132 tw16121857494702330632 tw2047757224237953498 tw15535186206671857276 tw7471118963385942445 tw4907106310310515574 tw3695095659224616785 tw2045919708375680975 tw17628602347054321851 tw17519209313728362956 tw1636858277826335755 tw7583622274346677280 tw16328095217221851878 tw11678355877708323687 tw10961541608543667116 tw6036009757762929371 tw5858651737143565628 tw9456580350693869339 tw4322051088813264131 tw3294945977822811474 tw2187448816670838156 tw18033170231666045714 tw1737487571183982181 tw16762893292053748151 tw16587487825390867854 tw1501111074971088271 tw12770874776253115951 tw17937210745921741714 tw17480608183321865745 tw15145564610513400436 tw12983895967610148628 tw17624894936875851176 tw16842051964348576869 tw10590665458870552365 tw17251626114225428868 tw11690097852492121233 tw11661105949011157760 tw4625722047541193067 tw16931885478319301620 tw14494825058152573883 tw7644393557615813701 tw7550256591696330267 tw2864259878824080014 tw2259645672197717055 tw17737513098366008792 tw15914435338671193730 tw5646961561313466233 tw9642268970435196773 tw8036790571389947734 tw3750453089523865190 tw15827790653611707834 tw13736441559150575763 tw12743422616198765695 tw11419917925978468948 tw17312036629471150881 tw9701143884233261099 tw6197575838790437023 tw11397162697200720091 tw11313492758182794687 tw6680503800180676668 tw4629922153001519242 tw4192098615611161706 tw3629859443897211940 tw3322627383858949186 tw2342622707178035596 tw1632948084476667209 tw16089192652230401633 tw14671847025248149213 tw12769298828469871608 tw11839962685316966683 tw9675251695670531657 tw7295618111663410253 tw15918920038183687919 tw9972838861006473831 tw9514624918977972004 tw9123637529201014291 tw8928261086855554699 tw8814168992540435437 tw8746842344867118391 tw701827134808006851 tw6722536184123454052 tw6426691256786618722 tw4989297279608871650 tw487493058573493300 tw305611545012972062 tw2202297573993012107 tw195924218103893714 tw17855081329075948948 tw16175195731654104217 tw15149265015520064165 tw13202604204304304122 tw12304163554341620662 tw10308118085751315980 tw9694666449428882972 tw8924862640349505446 tw8046016310350359637 tw7716168321902514602 tw6656801336861131575 tw6461221404955771868 tw6278907459654050792 tw312846122910031308 tw2780861370655346677 tw18259590420705394959 tw17769176636404316648 tw16389542937812518507 tw16040233475182978756 tw15871950933662672833 tw15483035421399533816 tw14174002971899685004 tw12470311850228824561 tw10383399890711301838 tw10134832707812313346 tw304965702418347169 tw6137886839096790970 tw13515894263654862449 tw8627808002535973619 tw6443811097314827639 tw4338807351496332276 tw2888013365553495413 tw2749562056149919823 tw1927867879945605399 tw1654598562987748888 tw16395186866227707509 tw12675007576556782056 tw12641187859246667775 tw12526899270646744019 tw1211809443795957494 tw11752660781766322578 tw8188754284429211699 tw7680400804073744849 tw7028889905776139359 tw5969766020309121926:True)
open PySem PySem.W PyProof.Rows
set_option maxRecDepth 100000 in
set_option maxHeartbeats 0 in
theorem PySem.Challenge.cw_wormyard_k49_pieces_in_a_lane_holds : PySem.Challenge.rw_wormyard_k49_pieces_in_a_lane.Holds := by
 w_on;o_law;k_head; (case hw=>w_witness2)
 k_fill
 refine K49.walk (l:=PySem.Challenge.rw_wormyard_k49_pieces_in_a_lane) rfl rfl (fun w h Y=>PySem.W.kIn_of Y) ?F
 case F =>
  intro w mg fa h KX G hmg
  refine' K49.all_mk KX G hmg ?gcL ?gcN ?gcT ?gcR ?gcE ?gcB ?gcD ?gcO ?gcM ?gcP ?gcG ?gcW ?gcZ ?gcF ?gcQ ?gcA ?gcH ?gcJ ?h1 ?h2 ?h3 ?h4 ?h5 ?h6 ?h7 ?h8 ?h9 ?h10 ?h11 ?h12 ?h13 ?h14 ?h15 ?h16 ?h17 ?h18 ?h19 ?h20 ?h21 ?h22 ?h23 ?h24 ?h25 ?a26 ?l26 ?c26 ?k26 ?h27 ?h28 ?h29 ?h30 ?h31 ?h32 ?h33 ?h34 ?h35 ?h36 ?h37 ?h38 ?h39 ?h40 ?h41 ?h42 ?h43 ?h44 ?h45 ?h46 ?h47 ?h48 ?h49 ?h50 ?a51 ?l51 ?d51 ?c51 ?k51 ?i51 ?a52 ?l52 ?d52 ?c52 ?k52 ?i52 ?h53 ?h54 ?h55 ?h56 ?h57 ?h58 ?h59 ?h60 ?h61 ?h62 ?h63 ?h64 ?h65 ?h66 ?h67 ?h68 ?mp ?ml ?mr ?mh ?mk ?p1cL ?p2cL ?p3cL ?p4cL ?p5cL ?p6cL ?ncLplaces ?ncLlanes ?p1cB ?p2cB ?p3cB ?p4cB ?p5cB ?p6cB ?ncBland ?p1cD ?p2cD ?p3cD ?p4cD ?p5cD ?p6cD ?ncDland ?ncDentries ?p1cO ?p2cO ?p3cO ?p4cO ?p5cO ?p6cO ?ncOland ?ncOentries ?p1cA ?p2cA ?p3cA ?p4cA ?p5cA ?p6cA ?ncArights ?ncAreturning ?ncAholder ?ncApieces ?p1cH ?p2cH ?p3cH ?p4cH ?p5cH ?p6cH ?ncHstart ?ncHgoal ?ncHlength ?ncHword ?ncHgone ?ncHway ?p1cJ ?p2cJ ?p3cJ ?p4cJ ?p5cJ ?p6cJ ?ncJtable ?ncJrooms ?ncJlanes ?ncJletters ?ncJlies ?ncJdone ?x1cN ?x2cN ?x1cT ?x2cT ?x3cT ?x4cT ?x5cT ?x6cT ?x7cT ?ncTmany ?x1cR ?x2cR ?x3cR ?x4cR ?x5cR ?x6cR ?x7cR ?ncRlane ?x1cE ?x2cE ?x3cE ?x4cE ?x5cE ?x6cE ?x7cE ?ncErow ?x1cM ?x2cM ?x1cP ?x2cP ?x1cG ?x2cG ?x1cW ?x2cW ?x1cZ ?x2cZ ?x3cZ ?x4cZ ?x5cZ ?x6cZ ?x7cZ ?ncZstart ?ncZgoal ?x1cF ?x2cF ?x1cQ ?x2cQ ?w1cB ?w2cB ?w3cB ?kk1 ?kk2 ?kk3 ?kk4 ?kk5 ?kk6 ?kk7 ?kk8 ?kk9 ?eQ ?z0 ?z1 ?z2 ?z3 ?z4 ?z5 ?z6 ?z7 ?z8 ?z9 ?z10 ?z11 ?z12 ?z13
  (case gcL=>k_is)
  (case gcN=>k_is)
  (case gcT=>k_is)
  (case gcR=>k_is)
  (case gcE=>k_is)
  (case gcB=>k_is)
  (case gcD=>k_is)
  (case gcO=>k_is)
  (case gcM=>k_is)
  (case gcP=>k_is)
  (case gcG=>k_is)
  (case gcW=>k_is)
  (case gcZ=>k_is)
  (case gcF=>k_is)
  (case gcQ=>k_is)
  (case gcA=>k_is)
  (case gcH=>k_is)
  (case gcJ=>k_is)
  (case h1=>symm_saturate)
  (case h2=>symm_saturate)
  (case h3=>symm_saturate)
  (case h4=>symm_saturate)
  (case h5=>symm_saturate)
  (case h6=>symm_saturate)
  (case h7=>symm_saturate)
  (case h8=>symm_saturate)
  (case h9=>symm_saturate)
  (case h10=>symm_saturate)
  (case h11=>symm_saturate)
  (case h12=>symm_saturate)
  (case h13=>symm_saturate)
  (case h14=>symm_saturate)
  (case h15=>symm_saturate)
  (case h16=>symm_saturate)
  (case h17=>symm_saturate)
  (case h18=>symm_saturate)
  (case h19=>symm_saturate)
  (case h20=>symm_saturate)
  (case h21=>symm_saturate)
  (case h22=>symm_saturate)
  (case h23=>symm_saturate)
  (case h24=>symm_saturate)
  (case h25=>symm_saturate)
  (case a26=>k_is)
  (case l26=>k_is)
  (case c26=>k_is)
  (case k26=>k_is)
  (case h27=>symm_saturate)
  (case h28=>symm_saturate)
  (case h29=>symm_saturate)
  (case h30=>symm_saturate)
  (case h31=>symm_saturate)
  (case h32=>symm_saturate)
  (case h33=>symm_saturate)
  (case h34=>symm_saturate)
  (case h35=>symm_saturate)
  (case h36=>symm_saturate)
  (case h37=>symm_saturate)
  (case h38=>symm_saturate)
  (case h39=>symm_saturate)
  (case h40=>symm_saturate)
  (case h41=>symm_saturate)
  (case h42=>symm_saturate)
  (case h43=>symm_saturate)
  (case h44=>symm_saturate)
  (case h45=>symm_saturate)
  (case h46=>symm_saturate)
  (case h47=>symm_saturate)
  (case h48=>symm_saturate)
  (case h49=>symm_saturate)
  (case h50=>symm_saturate)
  (case a51=>k_is)
  (case l51=>k_is)
  (case d51=>k_is)
  (case c51=>k_is)
  (case k51=>k_is)
  (case i51=>k_is)
  (case a52=>k_is)
  (case l52=>k_is)
  (case d52=>k_is)
  (case c52=>k_is)
  (case k52=>k_is)
  (case i52=>k_is)
  (case h53=>symm_saturate)
  (case h54=>symm_saturate)
  (case h55=>symm_saturate)
  (case h56=>symm_saturate)
  (case h57=>symm_saturate)
  (case h58=>symm_saturate)
  (case h59=>symm_saturate)
  (case h60=>symm_saturate)
  (case h61=>symm_saturate)
  (case h62=>symm_saturate)
  (case h63=>symm_saturate)
  (case h64=>symm_saturate)
  (case h65=>symm_saturate)
  (case h66=>symm_saturate)
  (case h67=>symm_saturate)
  (case h68=>symm_saturate)
  (case mp=>k_is)
  (case ml=>k_is)
  (case mr=>k_is)
  (case mh=>k_is)
  (case mk=>k_is)
  (case p1cL=>k_is)
  (case p2cL=>k_is)
  (case p3cL=>k_is)
  (case p4cL=>k_is)
  (case p5cL=>k_is)
  (case p6cL=>k_is)
  (case ncLplaces=>k_is)
  (case ncLlanes=>k_is)
  (case p1cB=>k_is)
  (case p2cB=>k_is)
  (case p3cB=>k_is)
  (case p4cB=>k_is)
  (case p5cB=>k_is)
  (case p6cB=>k_is)
  (case ncBland=>k_is)
  (case p1cD=>k_is)
  (case p2cD=>k_is)
  (case p3cD=>k_is)
  (case p4cD=>k_is)
  (case p5cD=>k_is)
  (case p6cD=>k_is)
  (case ncDland=>k_is)
  (case ncDentries=>k_is)
  (case p1cO=>k_is)
  (case p2cO=>k_is)
  (case p3cO=>k_is)
  (case p4cO=>k_is)
  (case p5cO=>k_is)
  (case p6cO=>k_is)
  (case ncOland=>k_is)
  (case ncOentries=>k_is)
  (case p1cA=>k_is)
  (case p2cA=>k_is)
  (case p3cA=>k_is)
  (case p4cA=>k_is)
  (case p5cA=>k_is)
  (case p6cA=>k_is)
  (case ncArights=>k_is)
  (case ncAreturning=>k_is)
  (case ncAholder=>k_is)
  (case ncApieces=>k_is)
  (case p1cH=>k_is)
  (case p2cH=>k_is)
  (case p3cH=>k_is)
  (case p4cH=>k_is)
  (case p5cH=>k_is)
  (case p6cH=>k_is)
  (case ncHstart=>k_is)
  (case ncHgoal=>k_is)
  (case ncHlength=>k_is)
  (case ncHword=>k_is)
  (case ncHgone=>k_is)
  (case ncHway=>k_is)
  (case p1cJ=>k_is)
  (case p2cJ=>k_is)
  (case p3cJ=>k_is)
  (case p4cJ=>k_is)
  (case p5cJ=>k_is)
  (case p6cJ=>k_is)
  (case ncJtable=>k_is)
  (case ncJrooms=>k_is)
  (case ncJlanes=>k_is)
  (case ncJletters=>k_is)
  (case ncJlies=>k_is)
  (case ncJdone=>k_is)
  (case x1cN=>kernel_rfl)
  (case x2cN=>k_is)
  (case x1cT=>kernel_rfl)
  (case x2cT=>k_is)
  (case x3cT=>kernel_rfl)
  (case x4cT=>k_is)
  (case x5cT=>k_is)
  (case x6cT=>k_is)
  (case x7cT=>k_is)
  (case ncTmany=>k_is)
  (case x1cR=>kernel_rfl)
  (case x2cR=>k_is)
  (case x3cR=>kernel_rfl)
  (case x4cR=>k_is)
  (case x5cR=>k_is)
  (case x6cR=>k_is)
  (case x7cR=>k_is)
  (case ncRlane=>k_is)
  (case x1cE=>kernel_rfl)
  (case x2cE=>k_is)
  (case x3cE=>kernel_rfl)
  (case x4cE=>k_is)
  (case x5cE=>k_is)
  (case x6cE=>k_is)
  (case x7cE=>k_is)
  (case ncErow=>k_is)
  (case x1cM=>kernel_rfl)
  (case x2cM=>k_is)
  (case x1cP=>kernel_rfl)
  (case x2cP=>k_is)
  (case x1cG=>kernel_rfl)
  (case x2cG=>k_is)
  (case x1cW=>kernel_rfl)
  (case x2cW=>k_is)
  (case x1cZ=>kernel_rfl)
  (case x2cZ=>k_is)
  (case x3cZ=>kernel_rfl)
  (case x4cZ=>k_is)
  (case x5cZ=>k_is)
  (case x6cZ=>k_is)
  (case x7cZ=>k_is)
  (case ncZstart=>k_is)
  (case ncZgoal=>k_is)
  (case x1cF=>kernel_rfl)
  (case x2cF=>k_is)
  (case x1cQ=>kernel_rfl)
  (case x2cQ=>k_is)
  (case w1cB=>first | k_is | kernel_rfl)
  (case w2cB=>first | k_is | kernel_rfl)
  (case w3cB=>first | k_is | kernel_rfl)
  (case kk1=>kit_is)
  (case kk2=>kit_is)
  (case kk3=>kit_is)
  (case kk4=>kit_is)
  (case kk5=>kit_is)
  (case kk6=>kit_is)
  (case kk7=>kit_is)
  (case kk8=>kit_is)
  (case kk9=>kit_is)
  (case eQ=>kts_exm)
  (case z0=>k_is)
  (case z1=>k_is)
  (case z2=>k_is)
  (case z3=>k_is)
  (case z4=>k_is)
  (case z5=>k_is)
  (case z6=>k_is)
  (case z7=>k_is)
  (case z8=>k_is)
  (case z9=>k_is)
  (case z10=>k_is)
  (case z11=>k_is)
  (case z12=>k_is)
  (case z13=>k_is)
