import PyProof.Rows.All
import Wide.All
import OpenK.AllK
import Wide.FinOn
import Lean
import PyProof.EqAt
import PyProof.EqKinds
import PyProof.TupleCall
import PyProof.ExcBaseAll.ValueError
import PyProof.EnumMake
import PyProof.Rows.EnumRows
import PyProof.TupleIter
import PyProof.DictValues
import PyProof.CollectStr
import PySem.Builtin.Int.W1All
import PyProof.DictRoadsH
import PyProof.DictKinds
import PyProof.FactsAll.NoneType
import KE.KRevIter
import PyProof.FactsAll.list_3
import KE.KDictList
import PyProof.DictIter
import PyProof.DictWalks
import PyProof.ListRange
import PyProof.DictItems
import KE.KPairComp
import PyProof.FactsAll.dict_3
import KE.KSortTup
import PyProof.Rows.StrJoin2
import PyProof.StrBlockH
import KE.KIntText
import PyProof.StrWalks
import PyProof.CallStr
import PyProof.StrLawsChain
import PyProof.FitsInt
import PySem.Challenge.RW_wormyard_k80_tables_shown
set_option compiler.extract_closed false
set_option Elab.async false
set_option linter.all false
set_option maxRecDepth 100000
set_option maxHeartbeats 4000000
open PySem.W (Frag keepIn findIn fnOf codeIn nsIn mg_of isFn kitOne hasDictIn mg_none_of plainGet plainOver makesIn)
open List (all_cons any_cons any_eq_false any_eq_true append_assoc append_nil cons_ne_nil drop_eq_nil_of_le filterMap_cons filter_append filter_cons flatMap_append flatMap_cons forIn_cons getD_eq_getElem?_getD getElem_map getElem_mem getElem_of_mem isEmpty_iff length_append length_cons length_filter_le length_map length_pos_iff length_range length_reverse length_singleton length_take length_take_le lookup_cons map_append map_cons map_eq_nil_iff map_id map_map map_nil mem_append mem_append_left mem_append_right mem_cons mem_cons_of_mem mem_cons_self mem_filter mem_flatMap mem_map mem_of_getElem? mem_range mem_reverse mem_singleton mem_take_iff_getElem nodup_cons not_mem_nil of_mem_zip pairwise_iff_getElem pairwise_lt_range range_succ reverse_cons size_toArray take_length take_succ)
open Nat (add_le_add_left le_of_eq le_of_lt le_refl le_succ le_trans lt_irrefl lt_of_le_of_lt lt_of_lt_of_le lt_or_ge lt_trans mul_le_mul mul_le_mul_right ne_of_gt ne_of_lt not_lt_zero pow_le_pow_right succ_mul testBit_lt_two_pow zero_le)
open Int (emod_lt_of_pos emod_nonneg eq_ofNat_of_zero_le natAbs_natCast toNat_natCast zero_add)
open PySem.F (plainAttrs_list plainAttrs_str slot_list_extend type_list_extend)
open PySem.Heap (lt_size size_push)
noncomputable section
namespace L2
theorem lqq {α:Type}{n:Nat}{l:List α}(h:l.length=n + 1):∃ a t,l=a :: t/\t.length=n:=by
 cases l with
 | nil=>cases h
 | cons a t=>exact⟨a,t,rfl,Nat.succ.inj h⟩
open PySem PySem.Spec PyProof.Rows
abbrev bB:=Sum Int Str
noncomputable def jf:bB->Value->Bool
 | .inl k,v=>Value.isInt k v
 | .inr x,v=>Value.isStrOf x v
noncomputable def DA (w:World):bB->Int
 | .inl k=>hashInt k
 | .inr x=>hashStr w x
theorem bq:∀ {k:bB}{v:Value},jf k v=true->(∃ i t,k=Sum.inl i/\v=Value.int i t)∨(∃ x t,k=Sum.inr x/\v=Value.str x t)
 | .inl i,v,h=>by
  obtain⟨t,e⟩:=Value.isInt_shape (k:=i) (v:=v) h
  exact .inl ⟨i,t,rfl,e⟩
 | .inr x,v,h=>by
  obtain⟨t,e⟩:=Value.isStrOf_shape (x:=x) (v:=v) h
  exact .inr ⟨x,t,rfl,e⟩
theorem oH (i:Int)(t:Tok):jf (.inl i) (.int i t)=true:=by simp[jf,Value.isInt]
theorem oG (x:Str)(t:Tok):jf (.inr x) (.str x t)=true:=by simp[jf,Value.isStrOf]
theorem tW (a b:Int):decide ((Sum.inl a:bB)=Sum.inl b)=(a == b):=by
 by_cases e:a=b
 ·subst e;simp
 ·have h:¬ (Sum.inl a:bB)=Sum.inl b:=fun q=>e (Sum.inl.inj q)
  rw[decide_eq_false h]
  exact(beq_eq_false_iff_ne.mpr e).symm
theorem tT (a b:Str):decide ((Sum.inr a:bB)=Sum.inr b)=decide (a=b):=by
 by_cases e:a=b
 ·subst e;simp
 ·have h:¬ (Sum.inr a:bB)=Sum.inr b:=fun q=>e (Sum.inr.inj q)
  rw[decide_eq_false h,decide_eq_false e]
theorem tV (a:Int)(b:Str):decide ((Sum.inl a:bB)=Sum.inr b)=false:=decide_eq_false (fun q=>nomatch q)
theorem tU (a:Str)(b:Int):decide ((Sum.inr a:bB)=Sum.inl b)=false:=decide_eq_false (fun q=>nomatch q)
noncomputable def bG (prog:Program)(w:World):PySem.KeyKind prog w bB where
 is:=jf
 hash:=DA w
 inj:=fun v a b ha hb=>by
  rcases bq ha with ⟨i,t,rfl,rfl⟩ | ⟨x,t,rfl,rfl⟩
  ·rcases bq hb with ⟨j,u,rfl,e⟩ | ⟨y,u,rfl,e⟩
   ·injection e with e1 _;rw[e1]
   ·exact nomatch e
  ·rcases bq hb with ⟨j,u,rfl,e⟩ | ⟨y,u,rfl,e⟩
   ·exact nomatch e
   ·injection e with e1 _;rw[e1]
 byValue:=fun k v h=>by
  rcases bq h with ⟨i,t,rfl,rfl⟩ | ⟨x,t,rfl,rfl⟩<;>rfl
 pyHash:=fun hv h=>by
  rcases bq hv with ⟨i,t,rfl,rfl⟩ | ⟨x,t,rfl,rfl⟩
  ·exact wpAny_pyHash_int h
  ·exact wpAny_pyHash_str h
 eqBool:=fun hu hv h=>by
  rcases bq hu with ⟨i,t,rfl,rfl⟩ | ⟨x,t,rfl,rfl⟩
  ·rcases bq hv with ⟨j,u,rfl,rfl⟩ | ⟨y,u,rfl,rfl⟩
   ·rw[tW]at h;exact wpAny_eqBool_int h
   ·rw[tV]at h;exact SeqAt.EqAt.int_str i t y u _ _ _ _ h
  ·rcases bq hv with ⟨j,u,rfl,rfl⟩ | ⟨y,u,rfl,rfl⟩
   ·rw[tU]at h;exact SeqAt.EqAt.str_int x t j u _ _ _ _ h
   ·rw[tT]at h;exact wpAny_eqBool_str h
 «strs»:=fun k x t v h=>by
  rcases bq h with ⟨i,u,rfl,e⟩ | ⟨y,u,rfl,e⟩
  ·exact nomatch e
  ·injection e with e1 _
   subst e1
   cases v<;>rfl
theorem kJ (prog:Program)(w:World)(i:Int)(t:Tok):(bG prog w).is (.inl i) (.int i t)=true:=oH i t
theorem kI (prog:Program)(w:World)(x:Str)(t:Tok):(bG prog w).is (.inr x) (.str x t)=true:=oG x t
end L2
namespace L2
open PySem PySem.Spec PyProof.Rows
inductive V where
 | uB | bl (b:Bool) | int (i:Int) | str (x:Str) | wH (b:Array UInt8) | yM (b:UInt64) | ref (a:Addr) | ty (n:String)
 deriving DecidableEq
noncomputable def RelV:V->Value->Prop
 | .uB,u=>u=Value.none
 | .bl b,u=>u=Value.bool b
 | .int i,u=>∃ t,u=Value.int i t
 | .str x,u=>∃ t,u=Value.str x t
 | .wH b,u=>∃ t,u=Value.bytes b t
 | .yM b,u=>∃ t,u=Value.float b t
 | .ref a,u=>u=Value.ref a
 | .ty n,u=>u=Value.type n
abbrev Vals:List V->List Value->Prop:=Paired RelV
theorem Vals.length {xs:List V}{us:List Value}(r:Vals xs us):xs.length=us.length:=Paired.length r
theorem Vals.get:∀ {xs:List V}{us:List Value}{i:Nat}{x:V},Vals xs us->xs[i]? = some x->∃ u,us[i]? = some u/\RelV x u
 | _,_,_,_, .nil,e=>by simp at e
 | _,_,0,_, .cons r _,e=>by simp at e;subst e;exact⟨_,rfl,r⟩
 | _,_,i + 1,x, .cons _ t,e=>by
  obtain⟨u,h1,h2⟩:=Vals.get (i:=i) (x:=x) t (by simpa using e)
  exact⟨u,by simpa using h1,h2⟩
theorem Vals.append:∀ {xs ys:List V}{us ws:List Value},Vals xs us->Vals ys ws->Vals (xs ++ ys) (us ++ ws)
 | _,_,_,_, .nil,s=>s
 | _,_,_,_, .cons r t,s => .cons r (Vals.append t s)
theorem Vals.take:∀ {xs:List V}{us:List Value}(n:Nat),Vals xs us->Vals (xs.take n) (us.take n)
 | _,_,0,_ => .nil
 | _,_,_ + 1, .nil => .nil
 | _,_,n + 1, .cons r t => .cons r (Vals.take n t)
theorem Vals.drop:∀ {xs:List V}{us:List Value}(n:Nat),Vals xs us->Vals (xs.drop n) (us.drop n)
 | _,_,0,r=>r
 | _,_,_ + 1, .nil => .nil
 | _,_,n + 1, .cons _ t=>Vals.drop n t
noncomputable def uT:Option V->Option Value->Prop
 | some v,some u=>RelV v u
 | none,none=>True
 | _,_=>False
noncomputable def KV {κ:Type}:List (κ × V)->List (κ × Value)->Prop:=Paired fun (p:κ × V)(q:κ × Value)=>p.1=q.1/\RelV p.2 q.2
noncomputable def kV:bB->V
 | .inl i => .int i
 | .inr x => .str x
inductive HO where
  | lst (xs:List V)
  | tup (xs:List V)
  | dK (uv:List (bB × V)) | dT (uv:List (List bB × V))
  | set (S:Int->Bool) (n:Nat)
  | ins (C dx:Addr) (fs:List (Str × V))
  | own (x:Addr)
  | xd (fs:List (Str × V))
  | met (f x:Addr)
  | DB (lo hi:Int)
  | wI (o:Obj) (u:HO)
  | yN (ps:Array Value)
  | ext (φ:Heap->Prop)
abbrev Hp:=Addr->Option HO
noncomputable def ar (H:Hp)(a:Addr)(o:HO):Hp:=fun b=>if b=a then some o else H b
theorem ac {H:Hp}{a:Addr}{o:HO}:ar H a o a=some o:=by unfold ar;rw[if_pos rfl]
theorem ak {H:Hp}{a b:Addr}{o:HO}(h:b ≠ a):ar H a o b=H b:=by unfold ar;rw[if_neg h]
theorem bu {H:Hp}{a b:Addr}{o u:HO}(h:H a=some o)(h':H b=some u)(d:o ≠ u):a ≠ b:=by
 intro e;subst e;rw[h]at h';exact d (Option.some.inj h')
theorem am {H:Hp}{a b:Addr}{o:HO}(h:H a=some o)(h':H b=none):a ≠ b:=by
 intro e;subst e;rw[h]at h';cases h'
noncomputable def vh (h:Heap)(a:Addr)(items:Array Value):Prop:=∃ o,h.get? a=some o/\(o.cls = .type "tuple"/\∃ n,o.data = .seq items n)/\o.dict=none
theorem vh.isTup {h:Heap}{a:Addr}{items:Array Value}:vh h a items->IsTup h a items:=fun uw=>by obtain⟨o,e,c,_⟩:=uw;exact⟨o,e,c⟩
theorem vh.new (h:Heap)(items:Array Value):vh (h.push { cls := .type "tuple",data := .seq items }) h.objs.size items:=⟨_,Heap.get?_push_size _ rfl,⟨rfl,_,rfl⟩,rfl⟩
section
variable (P:Program)(w:World)
noncomputable def uC (H:Hp)(h:Heap)(a:Addr):HO->Prop
 | .lst xs=>xs.length <= sizeLine/\∃ (uy:List Value)(n:Nat),Vals xs uy/\h.get? a=some { cls := .type "list",data := .seq uy.toArray n }
 | .tup xs=>xs.length <= sizeLine/\∃ uy:List Value,Vals xs uy/\vh h a uy.toArray
 | .dK uv=>uv.length <= sizeLine/\(a == sysModules)=false/\∃ vs,KV uv vs/\h.DictOf (bG P w) a vs
 | .dT uv=>uv.length <= sizeLine/\(a == sysModules)=false/\∃ xs:List (List bB × Addr × Value),
   Paired (fun (p:List bB × V)(q:List bB × Addr × Value)=>p.1=q.1/\H q.2.1=some (.tup (p.1.map kV))/\RelV p.2 q.2.2) uv xs /\
   ∃ o es ep,h.get? a=some o/\o.ExactDict/\o.data = .dict es ep/\es.toList=xs.map (entryOfKey (tupleKind (bG P w)))/\(xs.map (·.1)).Nodup
 | .set S n=>h.SetOf (intKind P w) a S n
 | .ins C dx fs=>H dx=some (.own a)/\fs.length <= 1000/\dx ≠ a/\h.get? a=some (PySem.W.instObj C dx) /\
   ∃ mA,h.Ns1 dx mA/\(∀ f,uT (fs.lookup f) (mA f))/\PySem.Within mA (fs.map (·.1))
 | .own _=>∃ o,h.get? a=some o
 | .xd fs=>∃ mA,h.Ns1 a mA/\∀ f,uT (fs.lookup f) (mA f)
 | .DB lo hi=>∃ t u v,h.get? a=some { cls := .type "range",data := .fields #[.int lo t, .int hi u, .int 1 v] }
 | .wI o u=>h.get? a=some o/\uC H h a u
 | .yN ps=>h.get? a=some { cls := .none,data := .fields ps }
 | .met f x=>h.get? a=some (PySem.W.methodObj (.ref f) (.ref x))
 | .ext φ=>φ h/\(∃ o,h.get? a=some o)/\∀ h1 h2:Heap,φ h1->(∀ o,h1.get? a=some o->h2.get? a=some o)->φ h2
noncomputable def vg (H:Hp)(h:Heap):Prop:=∀ a o,H a=some o->uC P w H h a o
end
section
variable {P:Program}{w:World}{H H':Hp}{h h':Heap}{a:Addr}{o:HO}
theorem uC.lt (x:uC P w H h a o):a < h.objs.size:=by
 cases o with
 | lst xs=>obtain⟨_,_,_,_,e⟩:=x;exact lt_size e
 | tup xs=>obtain⟨_,_,_,p⟩:=x;exact p.isTup.lt
 | dK uv=>obtain⟨_,_,_,_,o,_,_,e,_⟩:=x;exact lt_size e
 | dT uv=>obtain⟨_,_,_,_,o,_,_,e,_⟩:=x;exact lt_size e
 | set S n=>obtain⟨o,_,_,_,e,_⟩:=x;exact lt_size e
 | ins C dx fs=>obtain⟨_,_,_,e,_⟩:=x;exact lt_size e
 | own y=>obtain⟨_,e⟩:=x;exact lt_size e
 | xd fs=>obtain⟨_,⟨_,_,_,e,_⟩,_⟩:=x;exact lt_size e
 | DB lo hi=>obtain⟨_,_,_,e⟩:=x;exact lt_size e
 | wI ob u=>obtain⟨e,_⟩:=x;exact lt_size e
 | yN ps=>exact lt_size (show h.get? a=some _ from x)
 | met f y=>exact lt_size (show h.get? a=some _ from x)
 | ext φ=>obtain⟨_,⟨_,e⟩,_⟩:=x;exact lt_size e
theorem Paired.yO {α β:Type}{F G:α->β->Prop}:∀ {l₁:List α}{l₂:List β},Paired F l₁ l₂->(∀ a b,F a b->G a b)->Paired G l₁ l₂
 | _,_, .nil,_ => .nil
 | _,_, .cons r t,f => .cons (f _ _ r) (Paired.yO t f)
theorem uC.vi (x:uC P w H h a o)(k:∀ b u,(b=a∨H b=some (.own a))->h.get? b=some u->h'.get? b=some u)
  (ho:∀ b,H b=some (.own a)->H' b=some (.own a)) (ht:∀ b xs,H b=some (.tup xs)->H' b=some (.tup xs)):uC P w H' h' a o:=by
 induction o with
 | lst xs=>obtain⟨z,uy,n,r,e⟩:=x;exact⟨z,uy,n,r,k _ _ (.inl rfl) e⟩
 | tup xs=>obtain⟨z,uy,r,ob,e,c⟩:=x;exact⟨z,uy,r,ob,k _ _ (.inl rfl) e,c⟩
 | dK uv=>obtain⟨z,y,vs,r,ob,es,ep,e,c⟩:=x;exact⟨z,y,vs,r,ob,es,ep,k _ _ (.inl rfl) e,c⟩
 | dT uv =>
  obtain⟨z,y,xs,r,ob,es,ep,e,c⟩:=x
  exact⟨z,y,xs,Paired.yO r fun p q z=>⟨z.1,ht _ _ z.2.1,z.2.2⟩,ob,es,ep,k _ _ (.inl rfl) e,c⟩
 | set S n=>obtain⟨ob,es,ep,t,e,c⟩:=x;exact⟨ob,es,ep,t,k _ _ (.inl rfl) e,c⟩
 | ins C dx fs =>
  obtain⟨d,z,ne,e,mA,⟨od,es,ep,e2,c⟩,r⟩:=x
  exact⟨ho _ d,z,ne,k _ _ (.inl rfl) e,mA,⟨od,es,ep,k _ _ (.inr d) e2,c⟩,r⟩
 | own y=>obtain⟨ob,e⟩:=x;exact⟨ob,k _ _ (.inl rfl) e⟩
 | xd fs=>obtain⟨mA,⟨od,es,ep,e,c⟩,r⟩:=x;exact⟨mA,⟨od,es,ep,k _ _ (.inl rfl) e,c⟩,r⟩
 | DB lo hi=>obtain⟨t,u,v,e⟩:=x;exact⟨t,u,v,k _ _ (.inl rfl) e⟩
 | wI ob u ih=>obtain⟨e,q⟩:=x;exact⟨k _ _ (.inl rfl) e,ih q⟩
 | yN ps =>
  have e:h.get? a=some { cls := .none,data := .fields ps }:=x
  show h'.get? a=some { cls := .none,data := .fields ps }
  exact k a _ (.inl rfl) e
 | met f y =>
  have e:h.get? a=some (PySem.W.methodObj (.ref f) (.ref y)):=x
  show h'.get? a=some (PySem.W.methodObj (.ref f) (.ref y))
  exact k a _ (.inl rfl) e
 | ext φ=>obtain⟨p,⟨o,e⟩,st⟩:=x;exact⟨st _ _ p fun o q=>k _ _ (.inl rfl) q,⟨o,k _ _ (.inl rfl) e⟩,st⟩
theorem vg.lt (x:vg P w H h)(e:H a=some o):a < h.objs.size:=(x a o e).lt
theorem vg.fresh (x:vg P w H h)(e:h.objs.size <= a):H a=none:=by
 cases q:H a with
 | none=>rfl
 | some u=>exact absurd (lt_of_lt_of_le (x.lt q) e) (lt_irrefl _)
theorem vg.kept (x:vg P w H h)(k:∀ b u,h.get? b=some u->h'.get? b=some u):vg P w H h':=fun a o e =>
 (x a o e).vi (fun b u _ q=>k b u q) (fun _ q=>q) fun _ _ q=>q
theorem vg.laid (x:vg P w H h)(k:∀ b u,h.get? b=some u->h'.get? b=some u)(hp:h.objs.size <= a)(new:uC P w (ar H a o) h' a o):vg P w (ar H a o) h':=fun b u e=>by
 have hn:=x.fresh hp
 by_cases hb:b=a
 ·subst hb;rw[ac]at e;cases e;exact new
 ·rw[ak hb]at e
  exact(x b u e).vi (fun c v _ q=>k c v q) (fun c q=>by rw[ak (am q hn)];exact q) fun c xs q=>by rw[ak (am q hn)];exact q
end
noncomputable def Rd (H:Hp)(a:Addr)(u:HO):Prop:=H a=some u∨∃ o,H a=some (.wI o u)
theorem Rd.ok {P:Program}{w:World}{H:Hp}{h:Heap}{a:Addr}{u:HO}(r:Rd H a u)(x:vg P w H h):uC P w H h a u:=by
 rcases r with r | ⟨o,r⟩
 ·exact x a u r
 ·obtain⟨_,q⟩:=x a _ r
  exact q
noncomputable def Ai:Option HO->Prop
 | some (.lst _)=>True
 | some (.dK _)=>True
 | some (.dT _)=>True
 | some (.set _ _)=>True
 | some (.ins _ _ _)=>True
 | some (.ext _)=>True
 | _=>False
section
variable {P:Program}{w:World}{H:Hp}{h h':Heap}{x e:Addr}{o':HO}
theorem vg.write (ok:vg P w H h)(mu:Ai (H x))(he:e=x∨H e=some (.own x))(k:∀ b u,b ≠ e->h.get? b=some u->h'.get? b=some u)(zF:∃ u,h'.get? e=some u)
  (new:uC P w (ar H x o') h' x o'):vg P w (ar H x o') h':=fun b u q=>by
 have Aj:∀ c y,H c=some (.own y)->c ≠ x:=fun c y r z=>by subst z;rw[r]at mu;exact mu
 have DC:∀ c xs,H c=some (.tup xs)->c ≠ x:=fun c xs r z=>by subst z;rw[r]at mu;exact mu
 by_cases hb:b=x
 ·subst hb;rw[ac]at q;cases q;exact new
 ·rw[ak hb]at q
  by_cases yP:b=e
  ·have q':H b=some (.own x):=by
    rcases he with z | z
    ·exact absurd (yP.trans z) hb
    ·rw[yP];exact z
   rw[q]at q';cases q'
   obtain⟨v,hv⟩:=zF
   exact⟨v,by rw[yP];exact hv⟩
  ·refine(ok b u q).vi (fun c v hc r=>k c v ?_ r) (fun c r=>by rw[ak (Aj c b r)];exact r) fun c xs r=>by rw[ak (DC c xs r)];exact r
   rcases hc with rfl | hc
   ·exact yP
   ·rintro rfl
    rcases he with z | z
    ·exact Aj c b hc z
    ·rw[hc]at z;cases z;exact hb rfl
end
structure Un (fs ex:List Addr)(H H':Hp)(h h':Heap):Prop where
 keep:∀ b o,h.get? b=some o->H b=none->b ∉ fs->b ∉ ex->h'.get? b=some o
 slot:∀ b o,h.get? b=some o->H b=none->b ∈ fs->b ∉ ex->∃ sl,h'.get? b=some { o with slots:=sl }
 free:∀ b o,h.get? b=some o->H b=none->b ∉ ex->H' b=none
 there:∀ b o,h.get? b=some o->b ∉ ex->∃ o',h'.get? b=some o'
 vM:∀ b xs,H b=some (.tup xs)->H' b=some (.tup xs)
 vI:∀ b o u,H b=some (.wI o u)->H' b=some (.wI o u)
 vN:∀ b ps,H b=some (.yN ps)->∃ more,H' b=some (.yN (ps ++ more))
section
variable {fs y0 ex ex':List Addr}{H H1 H2:Hp}{h h1 h2 h':Heap}{a x e:Addr}{o:HO}
theorem Un.any (u:Un fs ex H H1 h h1){b:Addr}{ob:Obj}(q:h.get? b=some ob)(n:H b=none)(hx:b ∉ ex):∃ sl,h1.get? b=some { ob with slots:=sl }:=by
 by_cases hb:b ∈ fs
 ·exact u.slot b ob q n hb hx
 ·exact⟨ob.slots,u.keep b ob q n hb hx⟩
theorem Un.kept (k:∀ b u,h.get? b=some u->h'.get? b=some u):Un fs ex H H h h' :=
 ⟨fun b ob q _ _ _=>k b ob q,fun b ob q _ _ _=>⟨ob.slots,k b ob q⟩,fun _ _ _ n _=>n,fun b ob q _=>⟨ob,k b ob q⟩,fun _ _ q=>q,fun _ _ _ q=>q,fun _ ps q=>⟨#[],by rw[q];simp⟩⟩
theorem Un.refl:Un fs ex H H h h:=Un.kept fun _ _ q=>q
theorem Un.laid (k:∀ b u,h.get? b=some u->h'.get? b=some u)(hp:h.objs.size <= a)(hn:H a=none):Un fs ex H (ar H a o) h h' where
 keep:=fun b u q _ _ _=>k b u q
 slot:=fun b u q _ _ _=>⟨u.slots,k b u q⟩
 free:=fun b u q n _=>by rw[ak (ne_of_lt (lt_of_lt_of_le (lt_size q) hp))];exact n
 there:=fun b u q _=>⟨u,k b u q⟩
 vM:=fun b xs q=>by rw[ak (am q hn)];exact q
 vI:=fun b u xs q=>by rw[ak (am q hn)];exact q
 vN:=fun b ps q=>⟨#[],by rw[ak (am q hn),q];simp⟩
theorem Un.write (mu:Ai (H x))(he:e=x∨H e=some (.own x))(k:∀ b u,b ≠ e->h.get? b=some u->h'.get? b=some u)(zF:∃ u,h'.get? e=some u):Un fs ex H (ar H x o) h h':=by
 have hx:∀ b,H b=none->b ≠ x:=fun b n z=>by subst z;rw[n]at mu;exact mu
 have hb:∀ b,H b=none->b ≠ e:=fun b n z=>by
  subst z
  rcases he with r | r
  ·exact hx b n r
  ·rw[n]at r;cases r
 have hm:∀ b u,H b=some u->¬ Ai (some u)->b ≠ x:=fun b u q nm z=>by subst z;rw[q]at mu;exact nm mu
 refine⟨fun b u q n _ _=>k b u (hb b n) q,fun b u q n _ _=>⟨u.slots,k b u (hb b n) q⟩,fun b u q n _=>by rw[ak (hx b n)];exact n,fun b u q _=>?_,
  fun b xs q=>by rw[ak (hm b _ q fun z=>z)];exact q,fun b u xs q=>by rw[ak (hm b _ q fun z=>z)];exact q,fun b ps q=>⟨#[],by rw[ak (hm b _ q fun z=>z),q];simp⟩⟩
 by_cases yP:b=e
 ·subst yP;exact zF
 ·exact⟨u,k b u yP q⟩
end
noncomputable def Cj (h:Heap)(H:Hp):List Addr:=(List.range h.objs.size).filter fun a=>(H a).isSome
noncomputable def jP (h:Heap)(H:Hp):Heap:=PySem.W.hideAll h (Cj h H)
theorem oJ (h:Heap)(H:Hp):(jP h H).objs.size=h.objs.size:=PySem.W.hideAll_size _ _
theorem ql {h:Heap}{H:Hp}{b:Addr}{o:Obj}(e:h.get? b=some o)(n:H b=none):(jP h H).get? b=some o :=
 PySem.W.hideAll_get _ e fun hm=>by
  have q:(H b).isSome=true:=(mem_filter.mp hm).2
  rw[n]at q;simp at q
theorem rA {h:Heap}{H:Hp}{b:Addr}{o:Obj}(e:(jP h H).get? b=some o):h.get? b=some o/\H b=none:=by
 have e':h.get? b=some o:=PySem.W.of_hideAll (Cj h H) e
 refine⟨e',?_⟩
 cases q:H b with
 | none=>rfl
 | some x =>
  have hm:b ∈ Cj h H:=mem_filter.mpr ⟨mem_range.mpr (lt_size e'),by simp[q]⟩
  have z:(jP h H).get? b=none:=PySem.W.hideAll_none (Cj h H) hm
  rw[z]at e;cases e
end L2
namespace L2
open PySem PySem.Spec PyProof.Rows
structure Mod (K:Frag)(mg:Str->Option Value)(base:Heap):Prop where
 zG:K.In base
 glob:base.Ns mainGlobals mg
 blt:∃ mb,base.Ns builtinsNs mb/\∀ x:Str,x ≠ "__name__"->mb x=bootBuiltins x
 nolimit:base.NoLimit
structure Cx where
 prog:Program
 w:World
 K:Frag
 mg:Str->Option Value
 base:Heap
 A:Around
 N:List Str
 s₀:Shared
 H₀:Hp
 env:Env
 outer:List Env
 stack:List Env
 ex:List Addr
 fn:Str->Bool
 calm:Bool
 pn:List (Addr × Obj)
 xe:Value->Shared->Prop
noncomputable def nM (l:List Env):List Addr:=l.filterMap (·.frame)
abbrev Cx.fs (X:Cx):List Addr:=nM X.outer
noncomputable def Ck (sc:Scope)(x:Str):Prop:=sc.names.lookup x=some .local∨sc.names.lookup x=some .cell∨sc.names.lookup x=some .free
noncomputable def Loc (sc:Scope)(x:Str):Prop:=sc.names.lookup x=some .local∨sc.names.lookup x=some .cell
noncomputable def Look (env:Env)(h:Heap)(m:Str->Option Value)(x:Str)(u:Value):Prop :=
 (env.kindOf x=some .local/\m x=some u)∨((env.kindOf x=some .cell∨env.kindOf x=some .free)/\∃ c,env.cells.lookup x=some c/\h.IsCell c (some u))
structure Cx.Ok (X:Cx):Prop where
 mod:Mod X.K X.mg X.base
 kind:X.env.scope.kind = .function
 glob:X.env.globals=mainGlobals
 blt:X.env.builtins=builtinsNs
 above:X.s₀.heap.objs.size <= X.env.locals
 inj:∀ x y c,X.env.cells.lookup x=some c->X.env.cells.lookup y=some c->x=y
 has:∀ x,(X.env.kindOf x=some .cell∨X.env.kindOf x=some .free)->∃ c,X.env.cells.lookup x=some c
 Ak:∀ x c,X.fn x=true->X.env.cells.lookup x=some c->X.s₀.heap.objs.size <= c
 hd:X.calm=true->X.A.handled=none
 frames:X.A.frames=some X.stack
 Cn:X.stack=X.outer∨(X.stack=X.env :: X.outer/\X.env.frame=some X.env.locals)
 HF:∀ b ∈ X.ex,b ≠ X.env.locals/\∀ x c,X.env.cells.lookup x=some c->c ≠ b
 bs:∀ b o,X.base.get? b=some o->X.s₀.heap.get? b=some o/\X.H₀ b=none
 xY:X.base.objs.size <= X.s₀.heap.objs.size
 xt:∀ b o,X.base.get? b=some o->b ∉ X.ex
 xZ:∀ b ∈ X.ex,b ∉ X.fs
 vz:X.s₀.heap.FunFrames X.base X.outer
 yQ:∀ b ∈ X.fs,X.H₀ b=none
structure Inv (X:Cx)(pins:List (Addr × Obj))(σ:List (Option V))(H:Hp)(s:Shared):Prop where
 ok:X.Ok
 os:s.os=X.s₀.os
 bare:AllBare s.gens
 base:Un X.fs X.ex X.H₀ H X.s₀.heap s.heap
 loc:∃ m,s.heap.Ns X.env.locals m/\∀ (i:Nat)(x:Str)(v:V),X.N[i]? = some x->σ[i]? = some (some v)->Ck X.env.scope x->∃ u,RelV v u/\Look X.env s.heap m x u
 cell:∀ x c,X.env.cells.lookup x=some c->∃ v,s.heap.IsCell c v
 free:H X.env.locals=none
 uP:∀ x c,X.env.cells.lookup x=some c->H c=none
 pin:∀ p ∈ X.pn ++ pins,s.heap.get? p.1=some p.2/\H p.1=none/\p.1 ≠ X.env.locals/\p.1 ∉ X.fs/\∀ v,p.2.data ≠ .cell v
 u1:vg X.prog X.w H s.heap
 len:σ.length=X.N.length
section
variable {X:Cx}{pins:List (Addr × Obj)}{σ:List (Option V)}{H H':Hp}{s:Shared}{h':Heap}
theorem Cx.Ok.DD (ok:X.Ok){b:Addr}{o:Obj}(e:X.base.get? b=some o):b ∉ X.fs:=fun hb=>by
 have:=(ok.vz.mem hb).1
 rw[e]at this;cases this
theorem Inv.bs (I:Inv X pins σ H s):∀ b o,X.base.get? b=some o->s.heap.get? b=some o/\H b=none:=fun b o e =>
 ⟨I.base.keep b o (I.ok.bs b o e).1 (I.ok.bs b o e).2 (I.ok.DD e) (I.ok.xt b o e),I.base.free b o (I.ok.bs b o e).1 (I.ok.bs b o e).2 (I.ok.xt b o e)⟩
theorem Inv.bk (I:Inv X pins σ H s):∀ b o,X.base.get? b=some o->s.heap.get? b=some o:=fun b o e=>(I.bs b o e).1
theorem Inv.mod (I:Inv X pins σ H s):Mod X.K X.mg X.base:=I.ok.mod
theorem Inv.vt (I:Inv X pins σ H s):X.K.In s.heap:=I.ok.mod.zG.keeps I.bk
theorem Inv.lt (I:Inv X pins σ H s):X.env.locals < s.heap.objs.size:=let ⟨_,hn,_⟩:=I.loc;hn.lt
theorem Inv.sz (I:Inv X pins σ H s):X.s₀.heap.objs.size <= s.heap.objs.size:=le_trans I.ok.above (le_of_lt I.lt)
theorem Inv.DE (I:Inv X pins σ H s){a:Addr}(h:s.heap.objs.size <= a):a ∉ X.fs:=fun hb=>by
 obtain⟨_,o,ho,_⟩:=I.ok.vz.mem hb
 exact absurd (lt_of_lt_of_le (lt_size ho) (le_trans I.sz h)) (lt_irrefl _)
theorem Inv.yR (I:Inv X pins σ H s):∀ x c,X.env.cells.lookup x=some c->c ≠ X.env.locals:=fun x c e z=>by
 obtain⟨v,o,ho,hd⟩:=I.cell x c e
 obtain⟨m,⟨o',es,ep,ya,DF,_⟩,_⟩:=I.loc
 rw[z,ya]at ho;cases ho;rw[DF]at hd;cases hd
theorem Inv.vz (I:Inv X pins σ H s):s.heap.FunFrames X.base X.outer:=by
 have all:∀ (l:List Env),(∀ b ∈ nM l,b ∈ X.fs)->X.s₀.heap.FunFrames X.base l->s.heap.FunFrames X.base l:=by
  intro l
  induction l with
  | nil=>intro _ _;trivial
  | cons env r ih =>
   intro hs hl
   obtain⟨hk,⟨L,o,hf,hn,ho,hd⟩,hr⟩:=hl
   have hL:L ∈ X.fs:=hs L (by unfold nM;rw[filterMap_cons,hf];exact mem_cons_self)
   obtain⟨sl,e⟩:=I.base.slot L o ho (I.ok.yQ L hL) hL fun z=>I.ok.xZ L z hL
   exact⟨hk,⟨L,_,hf,hn,e,hd⟩,ih (fun b hb=>hs b (by unfold nM;rw[filterMap_cons,hf];exact mem_cons_of_mem _ hb)) hr⟩
 exact all X.outer (fun _ hb=>hb) I.ok.vz
theorem Inv.stack (I:Inv X pins σ H s):s.heap.FunFrames X.base X.stack:=by
 rcases I.ok.Cn with e | ⟨e,hf⟩
 ·rw[e];exact I.vz
 ·rw[e]
  obtain⟨m,hn,_⟩:=I.loc
  refine .cons (by rw[I.ok.kind];decide) hf hn ?_ I.vz
  exact Heap.get?_none_of_le (le_trans I.ok.xY I.ok.above)
theorem Inv.vO (I:Inv X pins σ H s):∀ b ∈ nM X.stack,b ∈ X.env.locals :: X.fs:=fun b hb=>by
 rcases I.ok.Cn with e | ⟨e,hf⟩
 ·rw[e]at hb;exact mem_cons_of_mem _ hb
 ·rw[e]at hb
  unfold nM at hb
  rw[filterMap_cons,hf]at hb
  exact hb
theorem Inv.wJ (I:Inv X pins σ H s):∀ b ∈ nM X.stack,H b=none:=fun b hb=>by
 rcases mem_cons.mp (I.vO b hb) with e | hb
 ·rw[e];exact I.free
 ·obtain⟨_,o,ho,_⟩:=I.ok.vz.mem hb
  exact I.base.free b o ho (I.ok.yQ b hb) fun z=>I.ok.xZ b z hb
theorem Inv.step {g':Array GenState}{t':Nat}{d':Drawn}{ch:List Addr}(I:Inv X pins σ H s)
  (xk:∀ b ∈ ch,(b ∈ X.ex∨X.s₀.heap.objs.size <= b)/\b ≠ X.env.locals/\(∀ x c,X.env.cells.lookup x=some c->c ≠ b)/\∀ p ∈ X.pn ++ pins,p.1 ≠ b)
  (keep:∀ b o,b ≠ X.env.locals->b ∉ X.fs->b ∉ ch->s.heap.get? b=some o->H b=none->h'.get? b=some o)
  (slot:∀ b o,b ≠ X.env.locals->b ∈ X.fs->b ∉ ch->s.heap.get? b=some o->H b=none->∃ sl,h'.get? b=some { o with slots:=sl }) (free:∀ b o,b ∉ ch->s.heap.get? b=some o->H b=none->H' b=none)
  (there:∀ b o,b ∉ ch->s.heap.get? b=some o->∃ o',h'.get? b=some o')
  (vM:∀ b xs,H b=some (.tup xs)->H' b=some (.tup xs)) (vI:∀ b o u,H b=some (.wI o u)->H' b=some (.wI o u)) (vN:∀ b ps,H b=some (.yN ps)->∃ more,H' b=some (.yN (ps ++ more)))
  (ns:∀ m,s.heap.Ns X.env.locals m->h'.Ns X.env.locals m) (u1:vg X.prog X.w H' h') (hg:AllBare g') :
  Inv X pins σ H' { s with heap:=h',gens:=g',drawn:=d',toks:=t' }:=by
 have HG:∀ b o,X.s₀.heap.get? b=some o->b ≠ X.env.locals:=fun b o e=>ne_of_lt (lt_of_lt_of_le (lt_size e) I.ok.above)
 have Co:∀ b o,X.s₀.heap.get? b=some o->b ∉ X.ex->b ∉ ch:=fun b o e hx hb=>by
  rcases (xk b hb).1 with z | z
  ·exact hx z
  ·exact absurd (lt_of_lt_of_le (lt_size e) z) (lt_irrefl _)
 have cellK:∀ x c,X.env.cells.lookup x=some c->∀ v,s.heap.IsCell c v->h'.IsCell c v:=fun x c e v ⟨o,ho,hd⟩=>by
  have Al:c ∉ ch:=fun z=>(xk c z).2.2.1 x c e rfl
  by_cases hc:c ∈ X.fs
  ·obtain⟨sl,q⟩:=slot c o (I.yR x c e) hc Al ho (I.uP x c e)
   exact⟨_,q,hd⟩
  ·exact⟨o,keep c o (I.yR x c e) hc Al ho (I.uP x c e),hd⟩
 refine⟨I.ok,I.os,hg,⟨fun b o e n hb hx=>?_,fun b o e n hb hx=>?_,fun b o e n hx=>?_,fun b o e hx=>?_,fun b xs e=>vM b xs (I.base.vM b xs e),fun b o xs e=>vI b o xs (I.base.vI b o xs e),fun b ps e=>?_⟩,?_,fun x c e=>?_,?_,fun x c e=>?_,fun p hp=>?_,u1,I.len⟩
 ·exact keep b o (HG b o e) hb (Co b o e hx) (I.base.keep b o e n hb hx) (I.base.free b o e n hx)
 ·obtain⟨sl,e1⟩:=I.base.slot b o e n hb hx
  obtain⟨sl',e2⟩:=slot b _ (HG b o e) hb (Co b o e hx) e1 (I.base.free b o e n hx)
  exact⟨sl',e2⟩
 ·obtain⟨o',e1⟩:=I.base.there b o e hx
  exact free b o' (Co b o e hx) e1 (I.base.free b o e n hx)
 ·obtain⟨o',e1⟩:=I.base.there b o e hx
  exact there b o' (Co b o e hx) e1
 ·obtain⟨m1,e1⟩:=I.base.vN b ps e
  obtain⟨m2,e2⟩:=vN b _ e1
  exact⟨m1 ++ m2,by rw[e2,Array.append_assoc]⟩
 ·obtain⟨m,hn,hl⟩:=I.loc
  refine⟨m,ns m hn,fun i x v e1 e2 e3=>?_⟩
  obtain⟨u,r,l⟩:=hl i x v e1 e2 e3
  refine⟨u,r,?_⟩
  rcases l with l | ⟨k,c,e,z⟩
  ·exact .inl l
  ·exact .inr ⟨k,c,e,cellK x c e _ z⟩
 ·obtain⟨v,z⟩:=I.cell x c e
  exact⟨v,cellK x c e v z⟩
 ·obtain⟨m,⟨o,_,_,ho,_⟩,_⟩:=I.loc
  exact free _ o (fun z=>(xk _ z).2.1 rfl) ho I.free
 ·obtain⟨v,o,ho,hd⟩:=I.cell x c e
  exact free c o (fun z=>(xk c z).2.2.1 x c e rfl) ho (I.uP x c e)
 ·obtain⟨e,n,ne,nf,d⟩:=I.pin p hp
  have Al:p.1 ∉ ch:=fun z=>(xk p.1 z).2.2.2 p hp rfl
  exact⟨keep p.1 p.2 ne nf Al e n,free p.1 p.2 Al e n,ne,nf,d⟩
theorem Inv.un {t':Nat}(I:Inv X pins σ H s)(u:Un X.fs [] H H' s.heap h')(u1:vg X.prog X.w H' h'):Inv X pins σ H' { s with heap:=h',toks:=t' }:=by
 obtain⟨m,⟨o,es,ep,ho,r⟩,_⟩:=id I.loc
 obtain⟨sl,hL⟩:=u.any ho I.free (by simp)
 exact I.step (g':=s.gens) (d':=s.drawn) (ch:=[]) (fun _ z=>nomatch z) (fun b o _ hb _ e n=>u.keep b o e n hb (by simp)) (fun b o _ hb _ e n=>u.slot b o e n hb (by simp)) (fun b o _ e n=>u.free b o e n (by simp)) (fun b o _ e=>u.there b o e (by simp)) u.vM u.vI u.vN (fun m' hm=>by
  obtain⟨o',DG,DH,ya,r'⟩:=hm
  rw[ho]at ya;cases ya
  exact⟨_,DG,DH,hL,r'⟩) u1 I.bare
theorem Inv.call {g':Array GenState}{t':Nat}{d':Drawn}{ch:List Addr}(I:Inv X pins σ H s)(u:Un (nM X.stack) ch H H' s.heap h')(u1:vg X.prog X.w H' h')(hg:AllBare g')
  (xk:∀ b ∈ ch,(b ∈ X.ex∨X.s₀.heap.objs.size <= b)/\b ≠ X.env.locals/\(∀ x c,X.env.cells.lookup x=some c->c ≠ b)/\∀ p ∈ X.pn ++ pins,p.1 ≠ b) :
  Inv X pins σ H' { s with heap:=h',gens:=g',drawn:=d',toks:=t' }:=by
 obtain⟨m,⟨o,es,ep,ho,r⟩,_⟩:=id I.loc
 obtain⟨sl,hL⟩:=u.any ho I.free fun z=>(xk _ z).2.1 rfl
 exact I.step (ch:=ch) xk (fun b o hL hb hc e n=>u.keep b o e n (fun z=>(mem_cons.mp (I.vO b z)).elim hL hb) hc) (fun b o _ _ hc e n=>u.any e n hc) (fun b o hc e n=>u.free b o e n hc) (fun b o hc e=>u.there b o e hc) u.vM u.vI u.vN (fun m' hm=>by
  obtain⟨o',DG,DH,ya,r'⟩:=hm
  rw[ho]at ya;cases ya
  exact⟨_,DG,DH,hL,r'⟩) u1 hg
theorem Inv.turned {t':Nat}{it:Addr}(I:Inv X pins σ H s)(k:∀ b o,b ≠ it->s.heap.get? b=some o->h'.get? b=some o)(hn:H it=none)(hL:it ≠ X.env.locals)
  (h1:it ∈ X.ex∨X.s₀.heap.objs.size <= it) (h2:∀ x c,X.env.cells.lookup x=some c->c ≠ it) (h3:∀ p ∈ X.pn ++ pins,p.1 ≠ it):Inv X pins σ H { s with heap:=h',toks:=t' }:=by
 have HH:∀ b u,H b=some u->b ≠ it:=fun b u e z=>by rw[z,hn]at e;cases e
 refine I.step (g':=s.gens) (d':=s.drawn) (ch:=[it]) (fun b hb=>?_) (fun b o _ _ hc e _=>k b o (fun z=>hc (by simp[z])) e) (fun b o _ _ hc e _=>⟨o.slots,k b o (fun z=>hc (by simp[z])) e⟩) (fun _ _ _ _ n=>n)
  (fun b o hc e=>⟨o,k b o (fun z=>hc (by simp[z])) e⟩) (fun _ _ e=>e) (fun _ _ _ e=>e) (fun b ps e=>⟨#[],by rw[e];simp⟩) (fun m hm=>?_) (fun b u e=>?_) I.bare
 ·have e:b=it:=by simpa using hb
  subst e
  exact⟨h1,hL,h2,h3⟩
 ·obtain⟨o,es,ep,ho,r⟩:=hm
  exact⟨o,es,ep,k _ o (Ne.symm hL) ho,r⟩
 ·refine(I.u1 b u e).vi (fun c v hc q=>k c v ?_ q) (fun _ q=>q) fun _ _ q=>q
  rcases hc with z | z
  ·rw[z];exact HH b u e
  ·exact HH c _ z
theorem Inv.tok (I:Inv X pins σ H s)(t:Nat):Inv X pins σ H { s with toks:=t }:=I.un (h':=s.heap) (t':=t) Un.refl I.u1
theorem Inv.kept {t':Nat}(I:Inv X pins σ H s)(k:∀ b u,s.heap.get? b=some u->h'.get? b=some u):Inv X pins σ H { s with heap:=h',toks:=t' }:=I.un (Un.kept k) (I.u1.kept k)
theorem Inv.laid {a:Addr}{o:HO}{t':Nat}(I:Inv X pins σ H s)(k:∀ b u,s.heap.get? b=some u->h'.get? b=some u)(hp:s.heap.objs.size <= a)(new:uC X.prog X.w (ar H a o) h' a o) :
  Inv X pins σ (ar H a o) { s with heap:=h',toks:=t' }:=I.un (Un.laid k hp (I.u1.fresh hp)) (I.u1.laid k hp new)
theorem Inv.write {x e:Addr}{o:HO}{t':Nat}(I:Inv X pins σ H s)(mu:Ai (H x))(he:e=x∨H e=some (.own x))(k:∀ b u,b ≠ e->s.heap.get? b=some u->h'.get? b=some u)(zF:∃ u,h'.get? e=some u)
  (new:uC X.prog X.w (ar H x o) h' x o):Inv X pins σ (ar H x o) { s with heap:=h',toks:=t' }:=I.un (Un.write mu he k zF) (I.u1.write mu he k zF new)
theorem Inv.vb {vY:List (Addr × Obj)}(I:Inv X pins σ H s)(h:∀ p ∈ vY,s.heap.get? p.1=some p.2/\H p.1=none/\p.1 ≠ X.env.locals/\p.1 ∉ X.fs/\∀ v,p.2.data ≠ .cell v):Inv X vY σ H s :=
 ⟨I.ok,I.os,I.bare,I.base,I.loc,I.cell,I.free,I.uP,fun p hp=>(mem_append.mp hp).elim (fun z=>I.pin p (mem_append_left _ z)) (h p),I.u1,I.len⟩
theorem kG {N:List Str}(hN:N.Nodup){i j:Nat}{x:Str}(a:N[i]? = some x)(b:N[j]? = some x):i=j:=by
 obtain⟨h1,e1⟩:=List.getElem?_eq_some_iff.mp a
 obtain⟨h2,e2⟩:=List.getElem?_eq_some_iff.mp b
 exact(List.getElem_inj hN).mp (e1.trans e2.symm)
theorem iW {M:Model}{A:Around}{E:Value->Shared->Prop}{i:Nat}{x:Str}{v:V}{u:Value}{Q:Unit->Shared->Prop}(I:Inv X pins σ H s)(hN:X.N.Nodup)(hi:X.N[i]? = some x)(hx:Loc X.env.scope x)(r:RelV v u)
  (h:∀ s',Inv X pins (σ.set i (some v)) H s'->(∃ a,Heap.SameBut a s.heap s'.heap/\(a=X.env.locals∨X.env.cells.lookup x=some a))->Q () s') (hf:X.fn x=true∨X.env.scope.names.lookup x=some .local:=by first | exact .inl rfl | exact .inr rfl | assumption):wpAny M A (storeName X.env x u) Q E s:=by
 obtain⟨m,hn,hl⟩:=id I.loc
 have DI:(X.env.scope.kind == .class || (X.env.scope.kind == .module && X.env.locals != X.env.globals))=false:=by rw[I.ok.kind];rfl
 have Am:i < σ.length:=by rw[I.len];exact(List.getElem?_eq_some_iff.mp hi).1
 have yR:=I.yR
 have tracked:∀ {a:Addr}{h':Heap},(∃ o,s.heap.get? a=some o/\H a=none)->Heap.SameBut a s.heap h'->vg X.prog X.w H h':=fun {a h'} ha hs b ob e=>by
  obtain⟨_,_,y1⟩:=ha
  refine(I.u1 b ob e).vi (fun c w' hc q=>(hs.2 c ?_).trans q) (fun _ q=>q) fun _ _ q=>q
  rintro rfl
  rcases hc with rfl | hc
  ·rw[y1]at e;cases e
  ·rw[y1]at hc;cases hc
 rcases hx with hk | hk
 ·refine wpAny_storeName_local hk hn (fun h' hn' hs=>?_) DI
  obtain⟨oL,_,_,hoL,_⟩:=id hn
  refine h _ ⟨I.ok,I.os,I.bare,⟨fun b o e n hb hx=>?_,fun b o e n hb hx=>?_,I.base.free,fun b o e hx=>?_,I.base.vM,I.base.vI,I.base.vN⟩,⟨_,hn',fun j y v' e1 e2 e3=>?_⟩,fun y c e=>?_,I.free,I.uP,fun p hp=>?_,tracked ⟨oL,hoL,I.free⟩ hs,by simpa using I.len⟩ ⟨_,hs, .inl rfl⟩
  ·exact(hs.2 b (ne_of_lt (lt_of_lt_of_le (lt_size e) I.ok.above))).trans (I.base.keep b o e n hb hx)
  ·obtain⟨sl,e1⟩:=I.base.slot b o e n hb hx
   exact⟨sl,(hs.2 b (ne_of_lt (lt_of_lt_of_le (lt_size e) I.ok.above))).trans e1⟩
  ·obtain⟨o',e1⟩:=I.base.there b o e hx
   exact⟨o',(hs.2 b (ne_of_lt (lt_of_lt_of_le (lt_size e) I.ok.above))).trans e1⟩
  ·by_cases hj:j=i
   ·subst hj
    rw[hi]at e1;cases e1
    rw[List.getElem?_set_self Am]at e2
    cases e2
    exact⟨u,r, .inl ⟨hk,by simp⟩⟩
   ·rw[List.getElem?_set_ne (Ne.symm hj)]at e2
    obtain⟨u',r',q⟩:=hl j y v' e1 e2 e3
    refine⟨u',r',?_⟩
    rcases q with ⟨k,e⟩ | ⟨k,c,e,z⟩
    ·refine .inl ⟨k,?_⟩
     have:y ≠ x:=fun e=>hj (kG hN e1 (e ▸ hi))
     simp[this,e]
    ·exact .inr ⟨k,c,e,z.sameBut hs (yR y c e)⟩
  ·obtain⟨w',z⟩:=I.cell y c e
   exact⟨w',z.sameBut hs (yR y c e)⟩
  ·obtain⟨e,n,ne,nf,d⟩:=I.pin p hp
   exact⟨(hs.2 p.1 ne).trans e,n,ne,nf,d⟩
 ·have DJ:X.fn x=true:=by
   rcases hf with z | z
   ·exact z
   ·rw[z]at hk;cases hk
  obtain⟨c,hc⟩:=I.ok.has x (.inl hk)
  obtain⟨w',z⟩:=I.cell x c hc
  refine wpAny_storeName_cell I.ok.kind hk hc z (fun h' zH hs=>?_)
  obtain⟨oc,HI,DK⟩:=id z
  refine h { s with heap:=h' } ⟨I.ok,I.os,I.bare,⟨fun b o e n hb hx=>?_,fun b o e n hb hx=>?_,I.base.free,fun b o e hx=>?_,I.base.vM,I.base.vI,I.base.vN⟩,⟨m,hn.sameBut hs (Ne.symm (yR x c hc)),fun j y v' e1 e2 e3=>?_⟩,fun y c' e=>?_,I.free,I.uP,fun p hp=>?_,tracked ⟨oc,HI,I.uP x c hc⟩ hs,by simpa using I.len⟩ ⟨c,hs, .inr hc⟩
  ·exact(hs.2 b (ne_of_lt (lt_of_lt_of_le (lt_size e) (I.ok.Ak x c DJ hc)))).trans (I.base.keep b o e n hb hx)
  ·obtain⟨sl,e1⟩:=I.base.slot b o e n hb hx
   exact⟨sl,(hs.2 b (ne_of_lt (lt_of_lt_of_le (lt_size e) (I.ok.Ak x c DJ hc)))).trans e1⟩
  ·obtain⟨o',e1⟩:=I.base.there b o e hx
   exact⟨o',(hs.2 b (ne_of_lt (lt_of_lt_of_le (lt_size e) (I.ok.Ak x c DJ hc)))).trans e1⟩
  ·by_cases hj:j=i
   ·subst hj
    rw[hi]at e1;cases e1
    rw[List.getElem?_set_self Am]at e2
    cases e2
    exact⟨u,r, .inr ⟨.inl hk,c,hc,zH⟩⟩
   ·rw[List.getElem?_set_ne (Ne.symm hj)]at e2
    obtain⟨u',r',q⟩:=hl j y v' e1 e2 e3
    refine⟨u',r',?_⟩
    rcases q with q | ⟨k,c',e,z'⟩
    ·exact .inl q
    ·refine .inr ⟨k,c',e,z'.sameBut hs ?_⟩
     rintro rfl
     exact hj (kG hN e1 (I.ok.inj _ _ _ e hc ▸ hi))
  ·by_cases hcc:c' = c
   ·subst hcc;exact⟨_,zH⟩
   ·obtain⟨w2,z2⟩:=I.cell y c' e
    exact⟨w2,z2.sameBut hs hcc⟩
  ·obtain⟨e,n,ne,nf,d⟩:=I.pin p hp
   refine⟨(hs.2 p.1 ?_).trans e,n,ne,nf,d⟩
   intro q
   rw[q,HI]at e
   have q':oc=p.2:=Option.some.inj e
   exact d w' (by rw[← q'];exact DK)
theorem gY {M:Model}{A:Around}{E:Value->Shared->Prop}{i:Nat}{x:Str}{v:V}{u:Value}{Q:Unit->Shared->Prop}(I:Inv X pins σ H s)(hN:X.N.Nodup)(hi:X.N[i]? = some x)(hx:Loc X.env.scope x)(r:RelV v u)
  (h:∀ s',Inv X pins (σ.set i (some v)) H s'->Q () s') (hf:X.fn x=true∨X.env.scope.names.lookup x=some .local:=by first | exact .inl rfl | exact .inr rfl | assumption):wpAny M A (storeName X.env x u) Q E s :=
 iW I hN hi hx r (fun s' I' _=>h s' I') hf
theorem Inv.An {s':Shared}{ch:List Addr}(I:Inv X pins σ H s)(ho:s'.os=s.os)(u:Un (nM X.stack) ch H H' s.heap s'.heap)(u1:vg X.prog X.w H' s'.heap)(hg:AllBare s'.gens)
  (xk:∀ b ∈ ch,(b ∈ X.ex∨X.s₀.heap.objs.size <= b)/\b ≠ X.env.locals/\(∀ x c,X.env.cells.lookup x=some c->c ≠ b)/\∀ p ∈ X.pn ++ pins,p.1 ≠ b):Inv X pins σ H' s':=by
 obtain⟨h',g',d',t',o'⟩:=s'
 have e:o' = s.os:=ho
 subst e
 exact I.call (g':=g') (t':=t') (d':=d') u u1 hg xk
end
abbrev XK:=Value->Option Addr->Hp->Prop
abbrev St:=List (Option V)
abbrev VK:=V->Hp->Prop
abbrev TE:=St->Hp->VK->Prop
abbrev TT:=St->Hp->(Bool->Hp->Prop)->Prop
abbrev TA:=St->Hp->(List V->Hp->Prop)->Prop
structure lC where
 nx:St->Hp->Prop
 rt:VK
 bk:St->Hp->Prop:=fun _ _=>False
 ct:St->Hp->Prop:=fun _ _=>False
abbrev TS:=lC->St->Hp->Prop
noncomputable def EP (X:Cx)(pins:List (Addr × Obj))(σ:St)(Q:VK)(u:Value)(s':Shared):Prop:=∃ v H',Inv X pins σ H' s'/\RelV v u/\Q v H'
noncomputable def TP (X:Cx)(pins:List (Addr × Obj))(σ:St)(Q:Bool->Hp->Prop)(b:Bool)(s':Shared):Prop:=∃ H',Inv X pins σ H' s'/\Q b H'
noncomputable def AP (X:Cx)(pins:List (Addr × Obj))(σ:St)(Q:List V->Hp->Prop)(us:List Value)(s':Shared):Prop:=∃ vs H',Inv X pins σ H' s'/\Vals vs us/\Q vs H'
noncomputable def SP (X:Cx)(pins:List (Addr × Obj))(D:lC)(f:Flow)(s':Shared):Prop :=
 match f with
 | .next=>∃ σ' H',Inv X pins σ' H' s'/\D.nx σ' H'
 | .brk=>∃ σ' H',Inv X pins σ' H' s'/\D.bk σ' H'
 | .cont=>∃ σ' H',Inv X pins σ' H' s'/\D.ct σ' H'
 | .ret u=>∃ v σ' H',Inv X pins σ' H' s'/\RelV v u/\D.rt v H'
noncomputable def PE (X:Cx)(e:Expr)(t:TE):Prop :=
 ∀ (pins:List (Addr × Obj))(s:Shared)(σ:St)(H:Hp)(Q:VK),Inv X pins σ H s->t σ H Q->wpAny (model X.prog X.w) X.A (eval e X.env) (EP X pins σ Q) X.xe s
noncomputable def PT (X:Cx)(e:Expr)(t:TT):Prop :=
 ∀ (pins:List (Addr × Obj))(s:Shared)(σ:St)(H:Hp)(Q:Bool->Hp->Prop),Inv X pins σ H s->t σ H Q->wpAny (model X.prog X.w) X.A (isTrue e X.env (eval e X.env)) (TP X pins σ Q) X.xe s
noncomputable def PW (X:Cx)(e:Expr)(t:TT):Prop :=
 ∀ (whole:Sem Value)(pins:List (Addr × Obj))(s:Shared)(σ:St)(H:Hp)(Q:Bool->Hp->Prop),Inv X pins σ H s->t σ H Q->wpAny (model X.prog X.w) X.A (isTrue e X.env whole) (TP X pins σ Q) X.xe s
theorem PW.pt {X:Cx}{e:Expr}{t:TT}(h:PW X e t):PT X e t:=h _
noncomputable def PA (X:Cx)(es:List Expr)(t:TA):Prop :=
 ∀ (pos:Pos)(pins:List (Addr × Obj))(s:Shared)(σ:St)(H:Hp)(Q:List V->Hp->Prop),Inv X pins σ H s->t σ H Q->wpAny (model X.prog X.w) X.A (spliced (backTo pos (starEach es X.env))) (AP X pins σ Q) X.xe s
noncomputable def PS (X:Cx)(st:Stmt)(t:TS):Prop :=
 ∀ (pins:List (Addr × Obj))(s:Shared)(σ:St)(H:Hp)(D:lC),Inv X pins σ H s->t D σ H->wpAny (model X.prog X.w) X.A (exec st X.env) (SP X pins D) X.xe s
noncomputable def wK (X:Cx)(st:List Stmt)(t:TS):Prop :=
 ∀ (pins:List (Addr × Obj))(s:Shared)(σ:St)(H:Hp)(D:lC),Inv X pins σ H s->t D σ H->wpAny (model X.prog X.w) X.A (execs st X.env) (SP X pins D) X.xe s
theorem aU {α:Type}{t:Sem α}{Q Q':α->Shared->Prop}{M:Model}{A:Around}{E:Value->Shared->Prop}{s:Shared}(h:wpAny M A t Q E s)(hQ:∀ a s,Q a s->Q' a s):wpAny M A t Q' E s:=wpAny_mono h hQ fun _ _ x=>x
end L2
namespace L2
open PySem PySem.Spec PyProof.Rows
section
variable {X:Cx}
noncomputable def Ao (i:Nat):TE:=fun σ H Q=>∃ v,σ[i]? = some (some v)/\Q v H
noncomputable def tC (v:V):TE:=fun _ H Q=>Q v H
theorem tm {i:Nat}{x:Str}{pos:Pos}(hN:X.N[i]? = some x)(hv:Ck X.env.scope x)(hd:(x == ("__debug__":Str))=false:=by decide)(wL:(x == ("__classdict__":Str))=false:=by decide):PE X (.Name x pos) (Ao i):=by
 intro pins s σ H Q I h
 obtain⟨v,e,h⟩:=h
 obtain⟨m,hn,hl⟩:=I.loc
 obtain⟨u,r,l⟩:=hl i x v hN e hv
 have fin:EP X pins σ Q u s:=⟨v,H,I,r,h⟩
 rcases l with ⟨hk,hm⟩ | ⟨hk,c,hc,wM⟩
 ·exact wpAny_Name (wpAny_loadName_local I.ok.kind hk hn hm fin) hd
 ·rcases hk with hk | hk
  ·exact wpAny_Name (wpAny_loadName_cell I.ok.kind hk hc wM fin) hd
  ·exact wpAny_Name (wpAny_loadName_free I.ok.kind hk hc wM fin wL) hd
theorem aj {i j pos}:PE X (.Constant (.int i) j pos) (tC (.int i)):=fun _ _ _ H _ I h=>wpAny_Constant_int ⟨.int i,H,I.tok _,⟨_,rfl⟩,h⟩
theorem i0 {b j pos}:PE X (.Constant (.bool b) j pos) (tC (.bl b)):=fun _ _ _ H _ I h=>Constant_bool ⟨.bl b,H,I,rfl,h⟩
theorem cF {j pos}:PE X (.Constant .none j pos) (tC .uB):=fun _ _ _ H _ I h=>Constant_none ⟨.uB,H,I,rfl,h⟩
theorem b7 {x j pos}:PE X (.Constant (.str x) j pos) (tC (.str x)):=fun _ _ _ H _ I h=>Calls.Constant_str ⟨.str x,H,I.tok _,⟨_,rfl⟩,h⟩
noncomputable def Gl (X:Cx)(x:Str):Prop:=X.env.kindOf x=some .globalImplicit
theorem jK {E:Value->Shared->Prop}{pins:List (Addr × Obj)}{s:Shared}{σ:St}{H:Hp}{x:Str}{u:Value}{pos:Pos}{Q:Value->Shared->Prop}(I:Inv X pins σ H s)(hg:Gl X x)(hm:X.mg x=some u)(h:Q u s)
  (hd:(x == ("__debug__":Str))=false:=by decide):wpAny (model X.prog X.w) X.A (eval (.Name x pos) X.env) Q E s :=
 Calls.Name_function_global I.ok.kind hg (Calls.loadGlobal_global (by rw[I.ok.glob];exact I.mod.glob.keeps I.bk) hm h) hd
theorem fX {E:Value->Shared->Prop}{pins:List (Addr × Obj)}{s:Shared}{σ:St}{H:Hp}{x:Str}{u:Value}{pos:Pos}{Q:Value->Shared->Prop}(I:Inv X pins σ H s)(hg:Gl X x)(hm:X.mg x=none)(hv:bootBuiltins x=some u)(h:Q u s)
  (hn:x ≠ "__name__":=by decide) (hd:(x == ("__debug__":Str))=false:=by decide):wpAny (model X.prog X.w) X.A (eval (.Name x pos) X.env) Q E s:=by
 obtain⟨mb,h1,h2⟩:=I.mod.blt
 exact Calls.Name_function_global I.ok.kind hg (Calls.loadGlobal_builtin (by rw[I.ok.glob];exact I.mod.glob.keeps I.bk) hm (by rw[I.ok.blt];exact h1.keeps I.bk) ((h2 x hn).trans hv) h) hd
theorem dC {x:Str}{v:V}{u:Value}{pos:Pos}(hg:Gl X x)(hm:X.mg x=some u)(r:RelV v u)(hd:(x == ("__debug__":Str))=false:=by decide):PE X (.Name x pos) (tC v) :=
 fun _ _ _ H _ I h=>jK I hg hm ⟨v,H,I,r,h⟩ hd
theorem gy {x:Str}{v:V}{u:Value}{pos:Pos}(hg:Gl X x)(hm:X.mg x=none)(hv:bootBuiltins x=some u)(r:RelV v u)(hn:x ≠ "__name__":=by decide)(hd:(x == ("__debug__":Str))=false:=by decide):PE X (.Name x pos) (tC v) :=
 fun _ _ _ H _ I h=>fX I hg hm hv ⟨v,H,I,r,h⟩ hn hd
variable {a b:Expr}{ta tb:TE}{pos:Pos}
noncomputable def PC (X:Cx)(op:CmpOp)(a b:Expr)(t:TE):Prop :=
 ∀ (pins:List (Addr × Obj))(s:Shared)(σ:St)(H:Hp)(Q:VK),Inv X pins σ H s->t σ H Q ->
  wpAny (model X.prog X.w) X.A (eval a X.env) (fun v s₁=>wpAny (model X.prog X.w) X.A (eval b X.env) (fun u s₂=>wpAny (model X.prog X.w) X.A (compareOp op v u) (EP X pins σ Q) X.xe s₂) X.xe s₁) X.xe s
noncomputable def tB (t:TE):TT:=fun σ H Q=>t σ H fun x H1=>∃ c,x = .bl c/\Q c H1
theorem me {op:CmpOp}{t:TE}(h:PC X op a b t)(h1:behindInMarks op b=false:=by first | exact Ap _ (by decide) (by decide) | rfl):PT X (.Compare a [op] [b] pos) (tB t):=by
 intro pins s σ H Q I hw
 refine wpAny_isTrue_Compare1 (aU (h pins s σ H _ I hw) fun v s1 h1=>aU h1 fun u s2 h2=>aU h2 fun c s3 uw=>?_) h1
 obtain⟨x,H1,I1,r1,q1⟩:=uw
 obtain⟨d,rfl,q⟩:=q1
 cases r1
 exact wpAny_truthy_bool ⟨H1,I1,q⟩
theorem cC {e:Expr}{t:TE}(h:PE X e t)(he:∀ whole,isTrue e X.env whole=(do let v ← whole;standAt e.pos;holding [v] (truthy v)):=by intro _;rfl):PT X e (tB t):=by
 intro pins s σ H Q I hw
 refine isTrue_plain (aU (h pins s σ H _ I hw) fun v s1 uw=>?_) (he _)
 obtain⟨x,H1,I1,r1,q1⟩:=uw
 obtain⟨d,rfl,q⟩:=q1
 cases r1
 exact wpAny_truthy_bool ⟨H1,I1,q⟩
variable {tA Cp:TT}{rest:List Expr}
noncomputable def DL (t u:TT):TT:=fun σ H Q=>t σ H fun c H1=>if c=true then u σ H1 Q else Q false H1
noncomputable def tOr (t u:TT):TT:=fun σ H Q=>t σ H fun c H1=>if c=true then Q true H1 else u σ H1 Q
noncomputable def DM (t:TT):TT:=fun σ H Q=>t σ H fun c H1=>Q (!c) H1
theorem fj (ha:PT X a tA):PW X (.BoolOp .And [a] pos) tA:=by
 intro wh pins s σ H Q I h
 refine isTrue_and (aU (ha pins s σ H Q I h) fun c s1 e=>?_)
 cases c with
 | true=>exact isTrue_and_nil e
 | false=>exact e
theorem iu (ha:PT X a tA):PW X (.BoolOp .Or [a] pos) tA:=by
 intro wh pins s σ H Q I h
 refine isTrue_or (aU (ha pins s σ H Q I h) fun c s1 e=>?_)
 cases c with
 | false=>exact isTrue_or_nil e
 | true=>exact e
theorem ix (ha:PT X a tA)(hb:PW X (.BoolOp .And (b :: rest) pos) Cp):PW X (.BoolOp .And (a :: b :: rest) pos) (DL tA Cp):=by
 intro wh pins s σ H Q I h
 refine isTrue_and (aU (ha pins s σ H _ I h) fun c s1 uw=>?_)
 obtain⟨H1,I1,q1⟩:=uw
 cases c with
 | true=>exact hb wh pins s1 σ H1 Q I1 q1
 | false=>exact⟨H1,I1,q1⟩
theorem iw (ha:PT X a tA)(hb:PW X (.BoolOp .Or (b :: rest) pos) Cp):PW X (.BoolOp .Or (a :: b :: rest) pos) (tOr tA Cp):=by
 intro wh pins s σ H Q I h
 refine isTrue_or (aU (ha pins s σ H _ I h) fun c s1 uw=>?_)
 obtain⟨H1,I1,q1⟩:=uw
 cases c with
 | true=>exact⟨H1,I1,q1⟩
 | false=>exact hb wh pins s1 σ H1 Q I1 q1
theorem cv (ha:PT X a tA):PT X (.UnaryOp .Not a pos) (DM tA):=by
 intro pins s σ H Q I h
 exact isTrue_not (ha pins s σ H (fun c H1=>Q (!c) H1) I h)
noncomputable def Aq (ta tb:TE):TE:=fun σ H Q=>ta σ H fun x H1=>∃ c,x = .bl c/\if c=true then tb σ H1 Q else Q (.bl false) H1
noncomputable def Ar (ta:TE):TE:=fun σ H Q=>ta σ H fun x H1=>∃ c,x = .bl c/\Q (.bl (!c)) H1
theorem fU {op} {t:TE} (h:PE X a t):PE X (.BoolOp op [a] pos) t:=fun pins s σ H Q I hw=>BoolOp_one (h pins s σ H Q I hw)
theorem eM (ha:PE X a ta)(hb:PE X (.BoolOp .And (b :: rest) pos) tb):PE X (.BoolOp .And (a :: b :: rest) pos) (Aq ta tb):=by
 intro pins s σ H Q I h
 refine BoolOp_and (aU (ha pins s σ H _ I h) fun v s1 uw=>?_)
 obtain⟨x,H1,I1,r1,q1⟩:=uw
 obtain⟨c,rfl,q1⟩:=q1
 cases r1
 refine wpAny_truthy_bool ?_
 cases c with
 | true=>exact hb pins s1 σ H1 Q I1 q1
 | false=>exact⟨.bl false,H1,I1,rfl,q1⟩
theorem tp (ha:PE X a ta):PE X (.UnaryOp .Not a pos) (Ar ta):=by
 intro pins s σ H Q I h
 refine UnaryOp_ (aU (ha pins s σ H _ I h) fun v s1 uw=>?_)
 obtain⟨x,H1,I1,r1,q1⟩:=uw
 obtain⟨c,rfl,q1⟩:=q1
 cases r1
 exact not_of (wpAny_truthy_bool ⟨.bl (!c),H1,I1,rfl,q1⟩)
noncomputable def tIf (t:TT)(ta tb:TE):TE:=fun σ H Q=>t σ H fun c H1=>if c=true then ta σ H1 Q else tb σ H1 Q
theorem fz {c:Expr}(hc:PT X c tA)(ha:PE X a ta)(hb:PE X b tb):PE X (.IfExp c a b pos) (tIf tA ta tb):=by
 intro pins s σ H Q I h
 refine wpAny_IfExp (aU (hc pins s σ H _ I h) fun d s1 uw=>?_)
 obtain⟨H1,I1,q1⟩:=uw
 cases d with
 | true=>exact ha pins s1 σ H1 Q I1 q1
 | false=>exact hb pins s1 σ H1 Q I1 q1
end
end L2
namespace L2
open PySem PySem.Spec PyProof.Rows
noncomputable def ux (K:Frag)(H:Hp)(a:Addr)(xs:List V):Prop :=
 Rd H a (.lst xs) ∨
  ∃ (o:Obj)(uy:Array Value)(n:Nat),K.lookup a=some o/\o.cls = .type "list"/\o.dict=none/\o.data = .seq uy n/\uy.size <= sizeLine/\Vals xs uy.toList
noncomputable def uE (K:Frag)(H:Hp)(a:Addr)(xs:List V):Prop :=
 Rd H a (.tup xs) ∨
  ∃ (o:Obj)(uy:Array Value)(n:Nat),K.lookup a=some o/\o.cls = .type "tuple"/\o.data = .seq uy n/\uy.size <= sizeLine/\Vals xs uy.toList
noncomputable def DN:Value->Option V
 | .none=>some .uB
 | .bool b=>some (.bl b)
 | .int i _=>some (.int i)
 | .str x _=>some (.str x)
 | .bytes b _=>some (.wH b)
 | .float b _=>some (.yM b)
 | .ref a=>some (.ref a)
 | .type n=>some (.ty n)
 | _=>none
theorem RelV.abs {x:V}{u:Value}(r:RelV x u):DN u=some x:=by
 cases x with
 | uB=>cases r;rfl
 | bl _=>cases r;rfl
 | int _=>obtain⟨t,rfl⟩:=r;rfl
 | str _=>obtain⟨t,rfl⟩:=r;rfl
 | wH _=>obtain⟨t,rfl⟩:=r;rfl
 | yM _=>obtain⟨t,rfl⟩:=r;rfl
 | ref _=>cases r;rfl
 | ty _=>cases r;rfl
theorem RelV.inj {x y:V}{u:Value}(r:RelV x u)(q:RelV y u):x=y:=Option.some.inj (r.abs.symm.trans q.abs)
theorem Vals.inj:∀ {xs ys:List V}{us:List Value},Vals xs us->Vals ys us->xs=ys
 | _,_,_, .nil, .nil=>rfl
 | _,_,_, .cons r t, .cons r' t'=>by rw[r.inj r',Vals.inj t t']
section
variable {X:Cx}{pins:List (Addr × Obj)}{σ:St}{H:Hp}{s:Shared}{a:Addr}{xs ys:List V}
theorem ux.of {K:Frag}(h:H a=some (.lst xs)):ux K H a xs := .inl (.inl h)
theorem uE.of {K:Frag}(h:H a=some (.tup xs)):uE K H a xs := .inl (.inl h)
theorem Inv.list (I:Inv X pins σ H s)(h:ux X.K H a xs):∃ uy:List Value,Vals xs uy/\PlainL s.heap a uy.toArray/\xs.length <= sizeLine:=by
 rcases h with h | ⟨o,uy,n,hk,hc,hd,hs,hz,r⟩
 ·obtain⟨z,uy,n,r,e⟩:=h.ok I.u1
  exact⟨uy,r,⟨_,n,e,rfl,rfl,rfl⟩,z⟩
 ·refine⟨uy.toList,r,⟨o,n,I.vt a o hk,hc,hd,by simpa using hs⟩,?_⟩
  have e:=r.length
  simp only[Array.length_toList]at e
  omega
theorem Inv.tuple (I:Inv X pins σ H s)(h:uE X.K H a xs):∃ uy:List Value,Vals xs uy/\IsTup s.heap a uy.toArray/\xs.length <= sizeLine:=by
 rcases h with h | ⟨o,uy,n,hk,hc,hs,hz,r⟩
 ·obtain⟨z,uy,r,p⟩:=h.ok I.u1
  exact⟨uy,r,p.isTup,z⟩
 ·refine⟨uy.toList,r,⟨o,I.vt a o hk,hc,n,by simpa using hs⟩,?_⟩
  have e:=r.length
  simp only[Array.length_toList]at e
  omega
theorem Inv.vZ (I:Inv X pins σ H s)(h:ux X.K H a xs)(h':ux X.K H a ys):xs=ys:=by
 obtain⟨uy,r,⟨o,n,e,_,_,d⟩,_⟩:=I.list h
 obtain⟨its',r',⟨o',n',e',_,_,d'⟩,_⟩:=I.list h'
 rw[e]at e';cases e'
 rw[d]at d'
 injection d' with d1 _
 have:uy=its':=by simpa using congrArg Array.toList d1
 subst this
 exact r.inj r'
theorem Inv.vK (I:Inv X pins σ H s)(h:uE X.K H a xs)(h':uE X.K H a ys):xs=ys:=by
 obtain⟨uy,r,⟨o,e,_,n,d⟩,_⟩:=I.tuple h
 obtain⟨its',r',⟨o',e',_,n',d'⟩,_⟩:=I.tuple h'
 rw[e]at e';cases e'
 rw[d]at d'
 injection d' with d1 _
 have:uy=its':=by simpa using congrArg Array.toList d1
 subst this
 exact r.inj r'
end
abbrev Cx.vJ (X:Cx)(E:Value->Shared->Prop):Cx:={ X with xe:=E }
abbrev Cx.Cq (X:Cx):Cx:=X.vJ fun _ _=>False
theorem Cx.Ok.vJ {X:Cx}(ok:X.Ok)(E:Value->Shared->Prop):(X.vJ E).Ok :=
 ⟨ok.mod,ok.kind,ok.glob,ok.blt,ok.above,ok.inj,ok.has,ok.Ak,ok.hd,ok.frames,ok.Cn,ok.HF,ok.bs,ok.xY,ok.xt,ok.xZ,ok.vz,ok.yQ⟩
theorem Cx.Ok.uZ {X:Cx}{E:Value->Shared->Prop}(ok:(X.vJ E).Ok):X.Ok :=
 ⟨ok.mod,ok.kind,ok.glob,ok.blt,ok.above,ok.inj,ok.has,ok.Ak,ok.hd,ok.frames,ok.Cn,ok.HF,ok.bs,ok.xY,ok.xt,ok.xZ,ok.vz,ok.yQ⟩
section
variable {X:Cx}{pins:List (Addr × Obj)}{σ:St}{H:Hp}{s:Shared}{E:Value->Shared->Prop}
theorem Inv.vJ (I:Inv X pins σ H s)(E:Value->Shared->Prop):Inv (X.vJ E) pins σ H s:=⟨I.ok.vJ E,I.os,I.bare,I.base,I.loc,I.cell,I.free,I.uP,I.pin,I.u1,I.len⟩
theorem Inv.uZ (I:Inv (X.vJ E) pins σ H s):Inv X pins σ H s:=⟨I.ok.uZ,I.os,I.bare,I.base,I.loc,I.cell,I.free,I.uP,I.pin,I.u1,I.len⟩
theorem SP.uZ {D:lC}{f:Flow}{s':Shared}(h:SP (X.vJ E) pins D f s'):SP X pins D f s':=by
 cases f with
 | next=>obtain⟨σ',H',I,q⟩:=h;exact⟨σ',H',I.uZ,q⟩
 | brk=>obtain⟨σ',H',I,q⟩:=h;exact⟨σ',H',I.uZ,q⟩
 | cont=>obtain⟨σ',H',I,q⟩:=h;exact⟨σ',H',I.uZ,q⟩
 | ret u=>obtain⟨v,σ',H',I,r,q⟩:=h;exact⟨v,σ',H',I.uZ,r,q⟩
theorem wK.Cq {st:List Stmt}{t:TS}(h:wK X.Cq st t):wK X st t:=fun pins s σ H D I hw =>
 wpAny_mono (h pins s σ H D (I.vJ _) hw) (fun _ _ q=>q.uZ) fun _ _ z=>False.elim z
end
section
variable {X:Cx}{st:Stmt}{rest:List Stmt}{t u:TS}{e:Expr}{te:TE}{pos:Pos}
noncomputable def As:TS:=fun D σ H=>D.nx σ H
noncomputable def DO (t u:TS):TS:=fun D σ H=>t { D with nx:=u D } σ H
theorem aK:wK X [] As:=fun _ _ σ H _ I h=>wpAny_execs_nil ⟨σ,H,I,h⟩
theorem ae (h1:PS X st t)(h2:wK X rest u):wK X (st :: rest) (DO t u):=by
 intro pins s σ H D I h
 refine wpAny_execs_cons (aU (h1 pins s σ H { D with nx:=u D } I h) fun f s1 q=>?_)
 cases f with
 | next =>
  obtain⟨σ',H',I',q⟩:=q
  exact h2 pins s1 σ' H' D I' q
 | ret v=>exact q
 | brk=>exact q
 | cont=>exact q
theorem ag (h1:PS X st t):wK X [st] t:=by
 intro pins s σ H D I h
 refine wpAny_execs_cons (aU (h1 pins s σ H D I h) fun f s1 q=>?_)
 cases f with
 | next=>exact wpAny_execs_nil q
 | ret v=>exact q
 | brk=>exact q
 | cont=>exact q
theorem Inv.quiet {pins:List (Addr × Obj)}{σ:St}{H:Hp}{s:Shared}(I:Inv X pins σ H s):interactive X.env=false:=by simp[interactive,I.ok.kind]
noncomputable def Au (te:TE):TS:=fun D σ H=>te σ H fun _ H1=>D.nx σ H1
theorem cy (he:PE X e te)(hs:swapsWith e none pos.line X.env=pure false:=by rfl):PS X (.Expr e pos) (Au te):=by
 intro pins s σ H D I h
 exact wpAny_Expr_any (aU (he pins s σ H _ I h) fun v s1 uw=>by obtain⟨x,H1,I1,r1,q1⟩:=uw;exact⟨σ,H1,I1,q1⟩) I.quiet hs
noncomputable def DP (te:TE):TS:=fun D σ H=>te σ H D.rt
theorem aA (he:PE X e te):PS X (.Return (some e) pos) (DP te):=by
 intro pins s σ H D I h
 exact wpAny_Return_some (aU (he pins s σ H _ I h) fun v s1 uw=>by obtain⟨x,H1,I1,r1,q1⟩:=uw;exact⟨x,σ,H1,I1,r1,q1⟩)
noncomputable def DQ (c:TT)(t u:TS):TS:=fun D σ H=>c σ H fun b H1=>if b=true then t D σ H1 else u D σ H1
theorem b9 {c:Expr}{a b:List Stmt}{tc:TT}(hc:PT X c tc)(ha:wK X a t)(hb:wK X b u):PS X (.If c a b pos) (DQ tc t u):=by
 intro pins s σ H D I h
 refine wpAny_If (aU (hc pins s σ H _ I h) fun d s1 uw=>?_)
 obtain⟨H1,I1,q1⟩:=uw
 cases d with
 | true=>exact ha pins s1 σ H1 D I1 q1
 | false=>exact hb pins s1 σ H1 D I1 q1
noncomputable def sL:TS:=fun _ _ _=>False
theorem cT:PS X st sL:=fun _ _ _ _ _ _ h=>h.elim
end
abbrev TG:=V->St->Hp->(St->Hp->Prop)->Prop
abbrev um:=List V->St->Hp->(St->Hp->Prop)->Prop
noncomputable def PG (X:Cx)(target:Expr)(t:TG):Prop :=
 ∀ (pins:List (Addr × Obj))(s:Shared)(σ:St)(H:Hp)(v:V)(u:Value)(Q:St->Hp->Prop),Inv X pins σ H s->RelV v u->t v σ H Q ->
  wpAny (model X.prog X.w) X.A (assign target X.env u) (fun _ s'=>∃ σ' H',Inv X pins σ' H' s'/\Q σ' H') X.xe s
noncomputable def Cr (X:Cx)(ts:List Expr)(t:um):Prop :=
 ∀ (pins:List (Addr × Obj))(s:Shared)(σ:St)(H:Hp)(vs:List V)(us:List Value)(Q:St->Hp->Prop),Inv X pins σ H s->Vals vs us->t vs σ H Q ->
  wpAny (model X.prog X.w) X.A (assignInOrder ((assignEach ts X.env).map (·.2)) us) (fun _ s'=>∃ σ' H',Inv X pins σ' H' s'/\Q σ' H') X.xe s
abbrev Cu:=V->V->Hp->VK->Prop
noncomputable def HJ (X:Cx)(op:Operator)(t:Cu):Prop :=
 ∀ (pins:List (Addr × Obj))(s:Shared)(σ:St)(H:Hp)(x y:V)(v u:Value)(Q:VK),Inv X pins σ H s->RelV x v->RelV y u->t x y H Q ->
  wpAny (model X.prog X.w) X.A (inplaceOp op v u) (EP X pins σ Q) X.xe s
section
variable {X:Cx}{pos:Pos}
noncomputable def cX (i:Nat):TG:=fun v σ H Q=>Q (σ.set i (some v)) H
theorem ao {i:Nat}{x:Str}(hN:X.N.Nodup)(hi:X.N[i]? = some x)(hx:Loc X.env.scope x)(hf:X.fn x=true∨X.env.scope.names.lookup x=some .local:=by first | exact .inl rfl | exact .inr rfl | assumption):PG X (.Name x pos) (cX i):=by
 intro pins s σ H v u Q I r h
 exact wpAny_assign_Name (gY I hN hi hx r (fun s' I'=>⟨_,H,I',h⟩) hf)
noncomputable def DR:um:=fun vs σ H Q=>vs=[]/\Q σ H
noncomputable def Aw (t:TG)(u:um):um:=fun vs σ H Q=>∃ v r,vs=v :: r/\t v σ H fun σ' H'=>u r σ' H' Q
theorem dA:Cr X [] DR:=by
 intro pins s σ H vs us Q I r h
 obtain⟨e,h⟩:=h
 subst e
 cases r
 exact assignInOrder_nil ⟨σ,H,I,h⟩
theorem aR {e:Expr}{es:List Expr}{t:TG}{u:um}(h1:PG X e t)(h2:Cr X es u)
  (hs:(assignEach (e :: es) X.env).map (·.2)=assign e X.env :: (assignEach es X.env).map (·.2):=by rfl):Cr X (e :: es) (Aw t u):=by
 intro pins s σ H vs us Q I r h
 obtain⟨v,vr,e1,h⟩:=h
 subst e1
 cases r with
 | cons r rr =>
  rw[hs]
  refine assignInOrder_cons (aU (h1 pins s σ H _ _ _ I r h) fun _ s1 uw=>?_)
  obtain⟨σ1,H1,I1,q1⟩:=uw
  exact h2 pins s1 σ1 H1 _ _ Q I1 rr q1
noncomputable def tY (K:Frag)(n:Nat)(t:um):TG:=fun v σ H Q=>∃ a xs,v = .ref a/\uE K H a xs/\xs.length=n/\t xs σ H Q
theorem eL {es:List Expr}{k:Nat}{t:um}{n:Nat}(hc:X.calm=true)(h:Cr X es t)
  (hn:(assignEach es X.env).length=n:=by rfl) (y2:(assignEach es X.env).findIdx? (·.1)=none:=by rfl):PG X (.Tuple es k pos) (tY X.K n t):=by
 intro pins s σ H v u Q I r hw
 obtain⟨a,xs,e1,hq,hl,hw⟩:=hw
 subst e1
 cases r
 obtain⟨uy,rv,ht,hz⟩:=I.tuple hq
 refine assign_Tuple_tuple (I.ok.hd hc) ht (by simp[hn,← hl,rv.length]) y2 fun h' hx=>?_
 have I1:Inv X pins σ H { s with heap:=h' }:=I.kept (t':=s.toks) fun b o e=>hx b o (ne_of_lt (lt_size e)) e
 exact h pins _ σ H xs _ Q I1 (by simpa using rv) hw
noncomputable def sP (te:TE)(g:TG):TS:=fun D σ H=>te σ H fun x H1=>g x σ H1 D.nx
theorem tf {tg e:Expr}{te:TE}{g:TG}(he:PE X e te)(hg:PG X tg g)(hs:swapsWithSole [tg] e pos.line X.env=pure false:=by rfl)(hw:swappedStores [tg] e X.env=pure none:=by rfl)
  (h1:(assignEach [tg] X.env).map (·.2)=[assign tg X.env]:=by rfl):PS X (.Assign [tg] e pos) (sP te g):=by
 intro pins s σ H D I h
 refine wpAny_Assign_stores (aU (he pins s σ H _ I h) fun v s1 uw=>?_) hs hw
 obtain⟨x,H1,I1,r1,q1⟩:=uw
 rw[h1]
 exact aU (hg pins s1 σ H1 x v _ I1 r1 q1) fun _ s2 q=>q
theorem ay {i:Nat}{x:Str}{e:Expr}{te:TE}{pos':Pos}(hN:X.N.Nodup)(hi:X.N[i]? = some x)(hx:Loc X.env.scope x)(he:PE X e te)(hs:swapsWith e (some (.Name x pos')) pos.line X.env=pure false:=by rfl)(hf:X.fn x=true∨X.env.scope.names.lookup x=some .local:=by first | exact .inl rfl | exact .inr rfl | assumption) :
  PS X (.Assign [.Name x pos'] e pos) (sP te (cX i)):=by
 intro pins s σ H D I h
 refine wpAny_Assign_Name (aU (he pins s σ H _ I h) fun v s1 uw=>?_) hs
 obtain⟨y,H1,I1,r1,q1⟩:=uw
 exact gY I1 hN hi hx r1 (fun s2 I2=>⟨_,H1,I2,q1⟩) hf
noncomputable def DS (i:Nat)(te:TE)(ti:Cu):TS:=fun D σ H=>∃ x,σ[i]? = some (some x)/\te σ H fun y H1=>ti x y H1 fun z H2=>D.nx (σ.set i (some z)) H2
theorem sZ {i:Nat}{x:Str}{e:Expr}{te:TE}{op:Operator}{ti:Cu}{pos':Pos}(hN:X.N.Nodup)(hi:X.N[i]? = some x)(hx:Loc X.env.scope x)(he:PE X e te)(ho:HJ X op ti)(hf:X.fn x=true∨X.env.scope.names.lookup x=some .local:=by first | exact .inl rfl | exact .inr rfl | assumption) :
  PS X (.AugAssign (.Name x pos') op e pos) (DS i te ti):=by
 intro pins s σ H D I h
 obtain⟨v,e1,h⟩:=h
 obtain⟨m,hn,hl⟩:=I.loc
 have vis:Ck X.env.scope x:=by rcases hx with k | k;exact .inl k;exact .inr (.inl k)
 obtain⟨u,r,l⟩:=hl i x v hi e1 vis
 refine wpAny_AugAssign_Name ?_
 have go:wpAny (model X.prog X.w) X.A (eval e X.env) (fun w s₂=>wpAny (model X.prog X.w) X.A (inplaceOp op u w) (fun r s₃=>wpAny (model X.prog X.w) X.A (storeName X.env x r) (fun _=>SP X pins D .next) X.xe s₃) X.xe s₂) X.xe s:=by
  refine aU (he pins s σ H _ I h) fun w s1 uw=>?_
  obtain⟨y,H1,I1,r1,q1⟩:=uw
  refine aU (ho pins s1 σ H1 v y u w _ I1 r r1 q1) fun z s2 uw=>?_
  obtain⟨zv,H2,I2,r2,q2⟩:=uw
  exact gY I2 hN hi hx r2 (fun s3 I3=>⟨_,H2,I3,q2⟩) hf
 rcases l with ⟨hk,hm⟩ | ⟨hk,c,hc,wM⟩
 ·exact wpAny_loadName_local I.ok.kind hk hn hm go
 ·rcases hk with hk | hk
  ·exact wpAny_loadName_cell I.ok.kind hk hc wM go
  ·rcases hx with k | k
   ·have:X.env.scope.names.lookup x=some .free:=hk
    rw[k]at this;cases this
   ·have:X.env.scope.names.lookup x=some .free:=hk
    rw[k]at this;cases this
noncomputable def ipI (f:Int->Int->Int):Cu:=fun x y H Q=>∃ i j,x = .int i/\y = .int j/\Q (.int (f i j)) H
theorem tX:HJ X .Add (ipI fun i j=>i + j):=by
 intro pins s σ H x y v u Q I r1 r2 h
 obtain⟨i,j,e1,e2,q⟩:=h
 subst e1;subst e2
 obtain⟨t,rfl⟩:=r1
 obtain⟨t',rfl⟩:=r2
 exact iadd_int ⟨.int _,H,I.tok _,⟨_,rfl⟩,q⟩
end
section
variable {X:Cx}{pos:Pos}
noncomputable def sG (c:TT)(tb:TS):TS:=fun D σ H=>∃ W:Nat->St->Hp->Prop,(∃ m,W m σ H)/\∀ m σ H,W m σ H ->
 c σ H fun b H1=>if b=true then ∃ N:St->Hp->Prop,(∀ σ' H',N σ' H'->∃ m',m' < m/\W m' σ' H')/\tb { D with nx:=N,ct:=N,bk:=D.nx } σ H1 else D.nx σ H1
theorem pG {c:Expr}{body:List Stmt}{tc:TT}{tb:TS}(hp:PassesOwn (model X.prog X.w) X.A X.env X.xe)(hc:PT X c tc)(hb:wK X body tb):PS X (.While c body [] pos) (sG tc tb):=by
 intro pins s σ H D I h
 obtain⟨W,⟨m0,w0⟩,turn⟩:=h
 refine wpAny_While (codeAny_whileLoop (fun n s'=>∃ σ' H',Inv X pins σ' H' s'/\W n σ' H') ?_ m0 ⟨σ,H,I,w0⟩)
 rintro n s1 ⟨σ1,H1,I1,w1⟩
 refine wpAny_passesOwn hp (aU (hc pins s1 σ1 H1 _ I1 (turn n σ1 H1 w1)) fun b s2 uw=>?_)
 obtain⟨H2,I2,q2⟩:=uw
 cases b with
 | true =>
  obtain⟨N,hN,q2⟩:=q2
  rw[if_pos rfl]
  refine wpAny_passesOwn hp (aU (hb pins s2 σ1 H2 _ I2 q2) fun f s3 q3=>?_)
  cases f with
  | next =>
   obtain⟨σ3,H3,I3,n3⟩:=q3
   obtain⟨m',hm,w3⟩:=hN σ3 H3 n3
   exact⟨m',hm,σ3,H3,I3,w3⟩
  | cont =>
   obtain⟨σ3,H3,I3,n3⟩:=q3
   obtain⟨m',hm,w3⟩:=hN σ3 H3 n3
   exact⟨m',hm,σ3,H3,I3,w3⟩
  | brk=>exact q3
  | ret v=>exact q3
 | false =>
  rw[if_neg Bool.false_ne_true]
  exact wpAny_execs_nil ⟨σ1,H2,I2,q2⟩
end
structure It where
 go:Nat->Hp->Prop
 xP:Nat->Hp->V->Hp->Prop
 stop:Nat->Hp->Prop
noncomputable def eA (X:Cx)(pins:List (Addr × Obj))(H:Hp)(b:Addr):Prop :=
 H b=none/\b ≠ X.env.locals/\b ∉ X.fs/\(b ∈ X.ex∨X.s₀.heap.objs.size <= b)/\(∀ x c,X.env.cells.lookup x=some c->c ≠ b)/\∀ p ∈ X.pn ++ pins,p.1 ≠ b
theorem Inv.wY {X:Cx}{pins:List (Addr × Obj)}{σ:St}{H H':Hp}{s:Shared}{b:Addr}(I:Inv X pins σ H s)(hb:s.heap.objs.size <= b)(hn:H' b=none):eA X pins H' b:=by
 refine⟨hn,ne_of_gt (lt_of_lt_of_le I.lt hb),I.DE hb, .inr (le_trans I.sz hb),fun x c e z=>?_,fun p hp z=>?_⟩
 ·obtain⟨v,q⟩:=I.cell x c e
  exact absurd (lt_of_lt_of_le q.lt (by rw[z];exact hb)) (lt_irrefl _)
 ·exact absurd (lt_of_lt_of_le (lt_size (I.pin p hp).1) (by rw[z];exact hb)) (lt_irrefl _)
structure lA (P:Program)(w:World)(K:Frag)(tg:Expr)(J:It)(fp:List Addr)(it:Addr)(tn:Nat->Heap->Prop):Prop where
 mem:it ∈ fp
 obj:∀ i h,tn i h->∀ b ∈ fp,∃ o,h.get? b=some o/\∀ v,o.data ≠ .cell v
 keep:∀ i h h',tn i h->(∀ b ∈ fp,∀ o,h.get? b=some o->h'.get? b=some o)->tn i h'
 item:∀ (X:Cx),X.prog=P->X.w=w->X.K=K->X.calm=true->∀ (i:Nat)(pins:List (Addr × Obj))(s:Shared)(σ:St)(H:Hp)(E:Value->Shared->Prop),Inv X pins σ H s->(∀ b ∈ fp,eA X pins H b)->tn i s.heap->J.go i H ->
  wpAny (model P w) X.A (pyNext (.ref it)) (fun r s1=>∃ u,r=some u /\
   wpAny (model P w) X.A (letOwnedTupleGo tg (.ref it) u) (fun _ s2=>∃ x H',Inv X pins σ H' s2/\RelV x u/\J.xP i H x H'/\tn (i + 1) s2.heap/\∀ b ∈ fp,H' b=none) E s1) E s
 done:∀ (X:Cx),X.prog=P->X.w=w->X.K=K->X.calm=true->∀ (i:Nat)(pins:List (Addr × Obj))(s:Shared)(σ:St)(H:Hp)(E:Value->Shared->Prop),Inv X pins σ H s->(∀ b ∈ fp,eA X pins H b)->tn i s.heap->J.stop i H ->
  wpAny (model P w) X.A (pyNext (.ref it)) (fun r s1=>r=none/\Inv X pins σ H s1) E s
 self:∀ (A:Around)(i:Nat)(s:Shared)(Q:Value->Shared->Prop)(E:Value->Shared->Prop),tn i s.heap->Q (.ref it) s->wpAny (model P w) A (pyIter (.ref it)) Q E s
abbrev TI:=St->Hp->(It->Hp->Prop)->Prop
noncomputable def HK (X:Cx)(pins:List (Addr × Obj))(σ:St)(tg:Expr)(R:It->Hp->Prop)(Cv:Value)(s2:Shared):Prop :=
 ∃ (it:Addr)(fp:List Addr)(tn:Nat->Heap->Prop)(J:It)(H':Hp),Cv = .ref it/\Inv X pins σ H' s2/\lA X.prog X.w X.K tg J fp it tn/\tn 0 s2.heap/\(∀ b ∈ fp,eA X pins H' b)/\R J H'
noncomputable def PI (X:Cx)(tg iter:Expr)(wi:TI):Prop :=
 ∀ (pins:List (Addr × Obj))(s:Shared)(σ:St)(H:Hp)(R:It->Hp->Prop),Inv X pins σ H s->wi σ H R ->
  wpAny (model X.prog X.w) X.A (eval iter X.env) (fun v s1=>wpAny (model X.prog X.w) X.A (pyIter v) (HK X pins σ tg R) X.xe s1) X.xe s
theorem nK {M:Model}{A:Around}{E:Value->Shared->Prop}{s:Shared}{tg:Expr}{it:Addr}{u:Value}{o:Obj}{n:String}{vs:Array Value}{Q:Unit->Shared->Prop}(ho:s.heap.get? it=some o)(hc:o.cls = .type n)(hd:o.data = .fields vs)
  (hn:["enumerate", "zip", "dict_itemiterator", "dict_reverseitemiterator", "odict_iterator", "itertools.zip_longest", "itertools.pairwise"].contains n=false) (hQ:Q () s):wpAny M A (letOwnedTupleGo tg (.ref it) u) Q E s:=by
 unfold letOwnedTupleGo
 cases tg<;>first
  | exact wpAny_pure hQ
  | (cases u<;>first
    | exact wpAny_pure hQ
    | (refine wpAny_bind (wpAny_load ho ?_)
       rw[hc,hd]
       show wpAny M A (if (["enumerate", "zip", "dict_itemiterator", "dict_reverseitemiterator", "odict_iterator", "itertools.zip_longest", "itertools.pairwise"].contains n && vs[0]? == some (rawInt _))=true then _ else _) Q E s
       rw[if_neg (by intro h;rw[hn,Bool.false_and]at h;cases h)]
       exact wpAny_pure hQ))
noncomputable def sf (K:Frag)(a:Addr):It :=
 ⟨fun i H=>∃ xs x,ux K H a xs/\xs[i]? = some x,fun i H x H'=>H' = H/\∀ xs,ux K H a xs->xs[i]? = some x,fun i H=>∃ xs,ux K H a xs/\xs.length <= i⟩
noncomputable def DT (K:Frag)(a:Addr):It :=
 ⟨fun i H=>∃ xs x,uE K H a xs/\xs[i]? = some x,fun i H x H'=>H' = H/\∀ xs,uE K H a xs->xs[i]? = some x,fun i H=>∃ xs,uE K H a xs/\xs.length <= i⟩
noncomputable def sy (lo:Int)(n:Nat):It:=⟨fun i _=>i < n,fun i H x H'=>H' = H/\x = .int (lo + i),fun i _=>n <= i⟩
theorem oj {P:Program}{w:World}{K:Frag}{tg:Expr}(a it:Addr):lA P w K tg (sf K a) [it] it (fun i h=>h.IsListIter it a i) where
 mem:=by simp
 obj:=fun i h st b hb=>by
  have e:b=it:=by simpa using hb
  subst e
  obtain⟨o,e,c,d⟩:=st
  exact⟨o,e,fun v z=>by rw[d]at z;cases z⟩
 keep:=fun i h h' st k=>st.at fun o e=>k it (by simp) o e
 item:=by
  intro X hP hw hK hc i pins s σ H E I hf st hg
  subst hP hw hK
  obtain⟨xs,x,hq,hx⟩:=hg
  obtain⟨uy,rv,p,hz⟩:=I.list hq
  obtain⟨u,hu,ru⟩:=rv.get hx
  obtain⟨f0,f1,f2,f3,f4,f5⟩:=hf it (by simp)
  refine wpAny_pyNext_list_item st p.isList (x:=u) (by simpa using hu) fun h' wq sb=>?_
  have I1:Inv X pins σ H { s with heap:=h' }:=I.turned (t':=s.toks) (fun b o hb e=>(sb.2 b hb).trans e) f0 f1 f3 f4 f5
  obtain⟨o,e,c,d⟩:=id wq
  exact⟨u,rfl,nK (s:={ s with heap:=h' }) e c d (by decide) ⟨x,H,I1,ru,⟨rfl,fun ys hy=>by rw[I.vZ hy hq];exact hx⟩,wq,fun b hb=>(hf b hb).1⟩⟩
 done:=by
  intro X hP hw hK hc i pins s σ H E I hf st hg
  subst hP hw hK
  obtain⟨xs,hq,hx⟩:=hg
  obtain⟨uy,rv,p,hz⟩:=I.list hq
  obtain⟨f0,f1,f2,f3,f4,f5⟩:=hf it (by simp)
  have hl:=rv.length
  exact wpAny_pyNext_list_end (I.ok.hd hc) st p.isList (by simp;omega) fun h' eb=>⟨rfl,I.turned (t':=s.toks) (fun b o hb e=>eb b o hb e) f0 f1 f3 f4 f5⟩
 self:=fun _ _ _ _ _ st h=>wpAny_pyIter_listiter st h
theorem lH {P:Program}{w:World}{K:Frag}{tg:Expr}(a it:Addr):lA P w K tg (DT K a) [it] it (fun i h=>h.IsTupleIter it a i) where
 mem:=by simp
 obj:=fun i h st b hb=>by
  have e:b=it:=by simpa using hb
  subst e
  obtain⟨o,e,c,d⟩:=st
  exact⟨o,e,fun v z=>by rw[d]at z;cases z⟩
 keep:=fun i h h' st k=>st.at fun o e=>k it (by simp) o e
 item:=by
  intro X hP hw hK hc i pins s σ H E I hf st hg
  subst hP hw hK
  obtain⟨xs,x,hq,hx⟩:=hg
  obtain⟨uy,rv,p,hz⟩:=I.tuple hq
  obtain⟨u,hu,ru⟩:=rv.get hx
  obtain⟨f0,f1,f2,f3,f4,f5⟩:=hf it (by simp)
  refine wpAny_pyNext_tuple_item st (show s.heap.IsTuple a uy.toArray from p) (x:=u) (by simpa using hu) fun h' wq sb=>?_
  have I1:Inv X pins σ H { s with heap:=h' }:=I.turned (t':=s.toks) (fun b o hb e=>(sb.2 b hb).trans e) f0 f1 f3 f4 f5
  obtain⟨o,e,c,d⟩:=id wq
  exact⟨u,rfl,nK (s:={ s with heap:=h' }) e c d (by decide) ⟨x,H,I1,ru,⟨rfl,fun ys hy=>by rw[I.vK hy hq];exact hx⟩,wq,fun b hb=>(hf b hb).1⟩⟩
 done:=by
  intro X hP hw hK hc i pins s σ H E I hf st hg
  subst hP hw hK
  obtain⟨xs,hq,hx⟩:=hg
  obtain⟨uy,rv,p,hz⟩:=I.tuple hq
  obtain⟨f0,f1,f2,f3,f4,f5⟩:=hf it (by simp)
  have hl:=rv.length
  exact wpAny_pyNext_tuple_end (I.ok.hd hc) st (show s.heap.IsTuple a uy.toArray from p) (by simp;omega) fun h' eb=>⟨rfl,I.turned (t':=s.toks) (fun b o hb e=>eb b o hb e) f0 f1 f3 f4 f5⟩
 self:=fun _ _ _ _ _ st h=>wpAny_pyIter_tupleiter st h
theorem lI {P:Program}{w:World}{K:Frag}{tg:Expr}(it:Addr)(lo:Int)(n:Nat):lA P w K tg (sy lo n) [it] it (fun i h=>IsRangeIter h it (lo + (i:Nat) * 1) ((n:Int) - (i:Nat)) 1) where
 mem:=by simp
 obj:=fun i h st b hb=>by
  have e:b=it:=by simpa using hb
  subst e
  exact⟨_,st,fun v z=>by
   have z':Data.fields _=Data.cell v:=z
   cases z'⟩
 keep:=fun i h h' st k=>k it (by simp) _ st
 item:=by
  intro X hP hw hK hc i pins s σ H E I hf st hg
  subst hP hw hK
  obtain⟨f0,f1,f2,f3,f4,f5⟩:=hf it (by simp)
  have W:=Walks.range (prog:=X.prog) (w:=X.w) (I.ok.hd hc) it lo 1 n
  refine W.item i s _ _ hg st fun v h' tk hv wq kk=>?_
  obtain⟨t,rfl⟩:=hv
  have I1:Inv X pins σ H { s with heap:=h',toks:=tk }:=I.turned (fun b o hb e=>kk b o (by simpa using hb) e) f0 f1 f3 f4 f5
  refine⟨_,rfl,nK (s:={ s with heap:=h',toks:=tk }) (n := "range_iterator") wq rfl rfl (by decide) ⟨.int (lo + i),H,I1,⟨t,?_⟩,⟨rfl,rfl⟩,wq,fun b hb=>(hf b hb).1⟩⟩
  rw[Int.mul_one]
 done:=by
  intro X hP hw hK hc i pins s σ H E I hf st hg
  subst hP hw hK
  obtain⟨f0,f1,f2,f3,f4,f5⟩:=hf it (by simp)
  exact wpAny_pyNext_range_end (I.ok.hd hc) st (by have:n <= i:=hg;omega) fun h' eb=>⟨rfl,I.turned (t':=s.toks) (fun b o hb e=>eb b o hb e) f0 f1 f3 f4 f5⟩
 self:=fun _ _ _ _ _ st h=>wpAny_pyIter_rangeiter st h
end L2
namespace L2
open PySem PySem.Spec PyProof.Rows
section
variable {X:Cx}{tg:Expr}
noncomputable def Ax (K:Frag)(tl:TE):TI:=fun σ H R=>tl σ H fun x H1=>∃ a,x = .ref a/\(∃ xs,ux K H1 a xs)/\R (sf K a) H1
noncomputable def DU (K:Frag)(tl:TE):TI:=fun σ H R=>tl σ H fun x H1=>∃ a,x = .ref a/\(∃ xs,uE K H1 a xs)/\R (DT K a) H1
theorem aI {l:Expr}{tl:TE}(hl:PE X l tl):PI X tg l (Ax X.K tl):=by
 intro pins s σ H R I h
 refine aU (hl pins s σ H _ I h) fun v s1 uw=>?_
 obtain⟨x,H1,I1,r1,q1⟩:=uw
 obtain⟨a,e,⟨xs,hq⟩,q⟩:=q1
 subst e
 cases r1
 obtain⟨uy,rv,p,hz⟩:=I1.list hq
 refine wpAny_pyIter_list p.isList ?_
 refine⟨s1.heap.objs.size,[s1.heap.objs.size],_,_,H1,rfl,I1.kept (t':=s1.toks) fun b o e=>Heap.get?_push_of_some _ e,oj a _,⟨_,Heap.get?_push_size _ rfl,rfl,rfl⟩,fun b hb=>?_,q⟩
 have e:b=s1.heap.objs.size:=by simpa using hb
 subst e
 exact I1.wY (le_refl _) (I1.u1.fresh (le_refl _))
theorem pI {l:Expr}{tl:TE}(hl:PE X l tl):PI X tg l (DU X.K tl):=by
 intro pins s σ H R I h
 refine aU (hl pins s σ H _ I h) fun v s1 uw=>?_
 obtain⟨x,H1,I1,r1,q1⟩:=uw
 obtain⟨a,e,⟨xs,hq⟩,q⟩:=q1
 subst e
 cases r1
 obtain⟨uy,rv,p,hz⟩:=I1.tuple hq
 refine wpAny_pyIter_tuple (show s1.heap.IsTuple a uy.toArray from p) ?_
 refine⟨s1.heap.objs.size,[s1.heap.objs.size],_,_,H1,rfl,I1.kept (t':=s1.toks) fun b o e=>Heap.get?_push_of_some _ e,lH a _,⟨_,Heap.get?_push_size _ rfl,rfl,rfl⟩,fun b hb=>?_,q⟩
 have e:b=s1.heap.objs.size:=by simpa using hb
 subst e
 exact I1.wY (le_refl _) (I1.u1.fresh (le_refl _))
theorem pF {pins:List (Addr × Obj)}{σ:St}{H:Hp}{s:Shared}{R:It->Hp->Prop}{E:Value->Shared->Prop}{lo hi:Int}{t u v:Tok}{tk:Nat}(I:Inv X pins σ H s)(h1:-(2 ^ 62) <= lo)(h2:lo < 2 ^ 62)(h3:-(2 ^ 62) <= hi)(h4:hi < 2 ^ 62)
  (q:R (sy lo (hi - lo).toNat) H):wpAny (model X.prog X.w) X.A (pyIter (.ref s.heap.objs.size)) (HK X pins σ tg R) E { s with heap:=s.heap.push { cls := .type "range",data := .fields #[.int lo t, .int hi u, .int 1 v] },toks:=tk }:=by
 refine wpAny_pyIter_range (IsRange.new ..) (small_one h1 h2 h3 h4) ?_
 have I1:Inv X pins σ H { s with heap:=s.heap.push { cls := .type "range",data := .fields #[.int lo t, .int hi u, .int 1 v] },toks:=tk }:=I.kept fun b o e=>Heap.get?_push_of_some _ e
 refine⟨(s.heap.push { cls := .type "range",data := .fields #[.int lo t, .int hi u, .int 1 v] }).objs.size,[(s.heap.push { cls := .type "range",data := .fields #[.int lo t, .int hi u, .int 1 v] }).objs.size],_,_,H,rfl,
  I1.kept (t':=tk) fun b o e=>Heap.get?_push_of_some _ e,lI _ lo (hi - lo).toNat,?_,fun b hb=>?_,q⟩
 ·have e1:lo + ((0:Nat):Int) * 1=lo:=by simp
  have e2:(((hi - lo).toNat:Nat):Int) - ((0:Nat):Int)=Builtin.Range.rangeSize lo hi 1:=by rw[rangeSize_one];split<;>omega
  show IsRangeIter _ _ (lo + ((0:Nat):Int) * 1) ((((hi - lo).toNat:Nat):Int) - ((0:Nat):Int)) 1
  rw[e1,e2]
  exact Heap.get?_push_size _ rfl
 ·have e:b=(s.heap.push { cls := .type "range",data := .fields #[.int lo t, .int hi u, .int 1 v] }).objs.size:=by simpa using hb
  subst e
  exact I1.wY (le_refl _) (I1.u1.fresh (le_refl _))
noncomputable def Ay (ta:TA):TI:=fun σ H R=>ta σ H fun vs H1=>∃ j:Int,vs=[.int j]/\-(2 ^ 62) <= j/\j < 2 ^ 62/\R (sy 0 j.toNat) H1
theorem aY {a:Expr}{ta:TA}{p pos:Pos}(hg:Gl X "range")(hm:X.mg "range" = none)(ha:PA X [a] ta)(hs:starEach [a] X.env=[(false,eval a X.env)]:=by rfl):PI X tg (.Call (.Name "range" p) [a] [] pos) (Ay ta):=by
 intro pins s σ H R I h
 refine Call_ (fX I hg hm boot_range (PyProof.Rows.callWith_type1 (aU (ha pos pins s σ H _ I h) fun us s1 uw=>?_) hs rfl))
 obtain⟨vs,H1,I1,r1,q1⟩:=uw
 obtain⟨j,e,q1,q2,q⟩:=q1
 subst e
 cases r1 with
 | cons r rr =>
  cases rr
  obtain⟨t,rfl⟩:=r
  exact call_range_1 (pF I1 (by omega) (by omega) q1 q2 (by simpa using q))
noncomputable def DV (wi:TI)(g:TG)(tb:TS):TS:=fun D σ H=>wi σ H fun J H1=>∃ W:Nat->Nat->St->Hp->Prop,(∃ m,W 0 m σ H1)/\∀ i m σ H,W i m σ H ->
 (J.stop i H/\D.nx σ H)∨(J.go i H/\∃ N:St->Hp->Prop,(∀ σ' H',N σ' H'->∃ m',m' < m/\W (i + 1) m' σ' H')/\∀ x H',J.xP i H x H'->g x σ H' fun σ2 H2=>tb { D with nx:=N,ct:=N,bk:=D.nx } σ2 H2)
noncomputable def du (fp:List Addr)(h:Heap):List (Addr × Obj):=fp.filterMap fun b=>(h.get? b).map fun o=>(b,o)
theorem dE {fp:List Addr}{h:Heap}{b:Addr}{o:Obj}(hb:b ∈ fp)(e:h.get? b=some o):(b,o) ∈ du fp h:=List.mem_filterMap.mpr ⟨b,hb,by rw[e];rfl⟩
theorem jd {fp:List Addr}{h:Heap}{p:Addr × Obj}(hp:p ∈ du fp h):p.1 ∈ fp/\h.get? p.1=some p.2:=by
 obtain⟨b,hb,e⟩:=List.mem_filterMap.mp hp
 cases q:h.get? b with
 | none=>rw[q]at e;cases e
 | some o =>
  rw[q]at e
  have e':(b,o)=p:=Option.some.inj e
  subst e'
  exact⟨hb,q⟩
theorem Inv.pinned {pins:List (Addr × Obj)}{σ:St}{H:Hp}{s:Shared}{fp:List Addr}(I:Inv X pins σ H s)(hf:∀ b ∈ fp,eA X pins H b)(ho:∀ b ∈ fp,∃ o,s.heap.get? b=some o/\∀ v,o.data ≠ .cell v):Inv X (pins ++ du fp s.heap) σ H s :=
 I.vb fun p hp=>(mem_append.mp hp).elim (fun z=>I.pin p (mem_append_right _ z)) fun z=>by
  obtain⟨hb,e⟩:=jd z
  obtain⟨f0,f1,f2,_⟩:=hf p.1 hb
  obtain⟨o,e',d⟩:=ho p.1 hb
  rw[e]at e';cases e'
  exact⟨e,f0,f1,f2,d⟩
theorem Inv.vn {pins pl:List (Addr × Obj)}{σ:St}{H:Hp}{s:Shared}(I:Inv X (pins ++ pl) σ H s):Inv X pins σ H s:=I.vb fun p hp=>I.pin p (mem_append_right _ (mem_append_left _ hp))
theorem bg {iter:Expr}{body:List Stmt}{wi:TI}{g:TG}{tb:TS}{pos:Pos}(hp:PassesOwn (model X.prog X.w) X.A X.env X.xe)(hc:X.calm=true)(hi:PI X tg iter wi)(hg:PG X tg g)(hb:wK X body tb)
  (hs:∀ x,foldedSetIterable iter X.env x=pure x:=by intro _;rfl):PS X (.For tg iter body [] pos) (DV wi g tb):=by
 intro pins s σ H D I h
 refine wpAny_For (aU (hi pins s σ H _ I h) fun v s1 h1=>aU h1 fun Cv s2 h2=>?_) hs
 obtain⟨it,fp,tn,J,H2,e,I2,T,Az,f2,W,⟨m0,w0⟩,turn⟩:=h2
 subst e
 have stat:∀ {H':Hp},(∀ b ∈ fp,H' b=none)->∀ b ∈ fp,eA X pins H' b:=fun hn b hb=>⟨hn b hb,(f2 b hb).2⟩
 refine codeAny_forLoop_any (fun n s'=>∃ i σ' H',Inv X pins σ' H' s'/\tn i s'.heap/\(∀ b ∈ fp,H' b=none)/\W i n σ' H') ?_ m0 ⟨0,σ,H2,I2,Az,fun b hb=>(f2 b hb).1,w0⟩
 rintro n s3 ⟨i,σ3,H3,I3,HL,HM,w3⟩
 rcases turn i n σ3 H3 w3 with ⟨stop,qn⟩ | ⟨go,N,hN,step⟩
 ·refine wpAny_passesOwn hp (aU (T.done X rfl rfl rfl hc i pins s3 σ3 H3 X.xe I3 (stat HM) HL stop) fun r s4 uw=>?_)
  obtain⟨hr,I4⟩:=uw
  subst hr
  exact wpAny_execs_nil ⟨σ3,H3,I4,qn⟩
 ·refine wpAny_passesOwn hp (aU (T.item X rfl rfl rfl hc i pins s3 σ3 H3 X.xe I3 (stat HM) HL go) fun r s4 uw=>?_)
  obtain⟨u,hr,h4⟩:=uw
  subst hr
  refine wpAny_passesOwn hp (aU h4 fun _ s5 uw=>?_)
  obtain⟨x,H5,I5,r5,y5,zI,Cw⟩:=uw
  have I5':=I5.pinned (stat Cw) (T.obj _ _ zI)
  refine wpAny_passesOwn hp (aU (hg _ s5 σ3 H5 x u _ I5' r5 (step x H5 y5)) fun _ s6 uw=>?_)
  obtain⟨σ6,H6,I6,q6⟩:=uw
  refine wpAny_passesOwn hp (aU (hb _ s6 σ6 H6 _ I6 q6) fun f s7 q7=>?_)
  have again:∀ {σ7:St}{H7:Hp},Inv X (pins ++ du fp s5.heap) σ7 H7 s7->N σ7 H7->∃ m,m < n/\∃ i σ' H',Inv X pins σ' H' s7/\tn i s7.heap/\(∀ b ∈ fp,H' b=none)/\W i m σ' H':=fun {σ7 H7} I7 n7=>by
   obtain⟨m',hm,w7⟩:=hN σ7 H7 n7
   refine⟨m',hm,i + 1,σ7,H7,I7.vn,T.keep _ _ _ zI fun b hb o e=>(I7.pin (b,o) (mem_append_right _ (mem_append_right _ (dE hb e)))).1,fun b hb=>?_,w7⟩
   obtain⟨o,e,d⟩:=T.obj _ _ zI b hb
   exact(I7.pin (b,o) (mem_append_right _ (mem_append_right _ (dE hb e)))).2.1
  cases f with
  | next=>obtain⟨σ7,H7,I7,n7⟩:=q7;exact again I7 n7
  | cont=>obtain⟨σ7,H7,I7,n7⟩:=q7;exact again I7 n7
  | brk=>obtain⟨σ7,H7,I7,q7⟩:=q7;exact⟨σ7,H7,I7.vn,q7⟩
  | ret v=>obtain⟨x7,σ7,H7,I7,r7,q7⟩:=q7;exact⟨x7,σ7,H7,I7.vn,r7,q7⟩
end
theorem bJ {K:Frag}{a:Addr}{xs:List V}{g:TG}{tb:TS}{D:lC}{σ:St}{H:Hp}(Pv:Nat->St->Hp->Prop)(h0:Pv 0 σ H)(hl:∀ i σ H,i <= xs.length->Pv i σ H->ux K H a xs)
  (hs:∀ i x σ H,xs[i]? = some x->Pv i σ H->g x σ H fun σ2 H2=>tb { D with nx:=Pv (i + 1),ct:=Pv (i + 1),bk:=D.nx } σ2 H2) (hd:∀ σ H,Pv xs.length σ H->D.nx σ H) :
  ∃ W:Nat->Nat->St->Hp->Prop,(∃ m,W 0 m σ H)/\∀ i m σ H,W i m σ H ->
   ((sf K a).stop i H/\D.nx σ H)∨((sf K a).go i H/\∃ N:St->Hp->Prop,(∀ σ' H',N σ' H'->∃ m',m' < m/\W (i + 1) m' σ' H')/\∀ x H',(sf K a).xP i H x H'->g x σ H' fun σ2 H2=>tb { D with nx:=N,ct:=N,bk:=D.nx } σ2 H2):=by
 refine⟨fun i m σ H=>m=xs.length - i/\i <= xs.length/\Pv i σ H,⟨xs.length,by simp,zero_le _,h0⟩,?_⟩
 rintro i m σ H ⟨rfl,hi,p⟩
 have q:=hl i σ H hi p
 by_cases uX:i < xs.length
 ·refine .inr ⟨⟨xs,xs[i],q,by simp[uX]⟩,Pv (i + 1),fun σ' H' p'=>⟨xs.length - (i + 1),by omega,rfl,uX,p'⟩,fun x H' y=>?_⟩
  obtain⟨e,y⟩:=y
  subst e
  exact hs i x σ _ (y xs q) p
 ·have e:i=xs.length:=by omega
  subst e
  exact .inl ⟨⟨xs,q,le_refl _⟩,hd σ H p⟩
theorem bO {lo:Int}{n:Nat}{g:TG}{tb:TS}{D:lC}{σ:St}{H:Hp}(Pv:Nat->St->Hp->Prop)(h0:Pv 0 σ H)
  (hs:∀ i σ H,i < n->Pv i σ H->g (.int (lo + i)) σ H fun σ2 H2=>tb { D with nx:=Pv (i + 1),ct:=Pv (i + 1),bk:=D.nx } σ2 H2) (hd:∀ σ H,Pv n σ H->D.nx σ H) :
  ∃ W:Nat->Nat->St->Hp->Prop,(∃ m,W 0 m σ H)/\∀ i m σ H,W i m σ H ->
   ((sy lo n).stop i H/\D.nx σ H)∨((sy lo n).go i H/\∃ N:St->Hp->Prop,(∀ σ' H',N σ' H'->∃ m',m' < m/\W (i + 1) m' σ' H')/\∀ x H',(sy lo n).xP i H x H'->g x σ H' fun σ2 H2=>tb { D with nx:=N,ct:=N,bk:=D.nx } σ2 H2):=by
 refine⟨fun i m σ H=>m=n - i/\i <= n/\Pv i σ H,⟨n,by simp,zero_le _,h0⟩,?_⟩
 rintro i m σ H ⟨rfl,hi,p⟩
 by_cases uX:i < n
 ·refine .inr ⟨uX,Pv (i + 1),fun σ' H' p'=>⟨n - (i + 1),by omega,rfl,uX,p'⟩,fun x H' y=>?_⟩
  obtain⟨e,y⟩:=y
  subst e y
  exact hs i σ _ uX p
 ·have e:i=n:=by omega
  subst e
  exact .inl ⟨le_refl _,hd σ H p⟩
end L2
namespace L2
open PySem PySem.Spec PyProof.Rows
abbrev R2:=V->V->Hp->VK->Prop
noncomputable def dI (X:Cx)(f:Value->Value->Sem Value)(r:R2):Prop :=
 ∀ (pins:List (Addr × Obj))(s:Shared)(σ:St)(H:Hp)(x y:V)(v u:Value)(Q:VK),Inv X pins σ H s->RelV x v->RelV y u->r x y H Q ->
  wpAny (model X.prog X.w) X.A (f v u) (EP X pins σ Q) X.xe s
noncomputable def DW (X:Cx)(f:Value->Sem Value)(r:V->Hp->VK->Prop):Prop :=
 ∀ (pins:List (Addr × Obj))(s:Shared)(σ:St)(H:Hp)(x:V)(v:Value)(Q:VK),Inv X pins σ H s->RelV x v->r x H Q ->
  wpAny (model X.prog X.w) X.A (f v) (EP X pins σ Q) X.xe s
noncomputable def uL (X:Cx)(f:Value)(r:List V->Hp->VK->Prop):Prop :=
 ∀ (pins:List (Addr × Obj))(s:Shared)(σ:St)(H:Hp)(xs:List V)(us:List Value)(Q:VK),Inv X pins σ H s->Vals xs us->r xs H Q ->
  wpAny (model X.prog X.w) X.A (call f us) (EP X pins σ Q) X.xe s
noncomputable def DX (X:Cx)(r:V->Hp->(Bool->Hp->Prop)->Prop):Prop :=
 ∀ (pins:List (Addr × Obj))(s:Shared)(σ:St)(H:Hp)(x:V)(v:Value)(Q:Bool->Hp->Prop),Inv X pins σ H s->RelV x v->r x H Q ->
  wpAny (model X.prog X.w) X.A (truthy v) (TP X pins σ Q) X.xe s
noncomputable def Cy (r:R2)(ta tb:TE):TE:=fun σ H Q=>ta σ H fun x H1=>tb σ H1 fun y H2=>r x y H2 Q
noncomputable def tUn (r:V->Hp->VK->Prop)(ta:TE):TE:=fun σ H Q=>ta σ H fun x H1=>r x H1 Q
noncomputable def rI (C:Int->Int->Prop)(g:Int->Int->V):R2:=fun x y H Q=>∃ i j,x = .int i/\y = .int j/\C i j/\Q (g i j) H
noncomputable def qI (g:Int->Int->V):R2:=fun x y H Q=>∃ i j,x = .int i/\y = .int j/\Q (g i j) H
noncomputable def rU (g:Int->V):V->Hp->VK->Prop:=fun x H Q=>∃ i,x = .int i/\Q (g i) H
section
variable {X:Cx}{a b c:Expr}{ta tb tc:TE}{pos:Pos}
theorem uh (ha:PE X a ta)(hb:PE X b tb){pins:List (Addr × Obj)}{s:Shared}{σ:St}{H:Hp}{R:V->V->Hp->Prop}(I:Inv X pins σ H s)
  (h:ta σ H fun x H1=>tb σ H1 fun y H2=>R x y H2) {Q:Value->Shared->Prop} {f:Value->Value->Sem Value}
  (hf:∀ v u s2 x y H2,Inv X pins σ H2 s2->RelV x v->RelV y u->R x y H2->wpAny (model X.prog X.w) X.A (f v u) Q X.xe s2) :
  wpAny (model X.prog X.w) X.A (eval a X.env) (fun v s₁=>wpAny (model X.prog X.w) X.A (eval b X.env) (fun u s₂=>wpAny (model X.prog X.w) X.A (f v u) Q X.xe s₂) X.xe s₁) X.xe s:=by
 refine aU (ha pins s σ H _ I h) fun v s1 uw=>?_
 obtain⟨x,H1,I1,r1,q1⟩:=uw
 refine aU (hb pins s1 σ H1 _ I1 q1) fun u s2 uw=>?_
 obtain⟨y,H2,I2,r2,q2⟩:=uw
 exact hf v u s2 x y H2 I2 r1 r2 q2
theorem ax {op:Operator}{r:R2}(ho:dI X (binaryOp op) r)(ha:PE X a ta)(hb:PE X b tb):PE X (.BinOp a op b pos) (Cy r ta tb):=by
 intro pins s σ H Q I h
 exact wpAny_BinOp (uh ha hb I h fun v u s2 x y H2 I2 rx ry q=>ho pins s2 σ H2 x y v u Q I2 rx ry q)
theorem nv {op:UnaryOp}{r:V->Hp->VK->Prop}(ho:DW X (unaryOp op) r)(ha:PE X a ta):PE X (.UnaryOp op a pos) (tUn r ta):=by
 intro pins s σ H Q I h
 exact UnaryOp_ (aU (ha pins s σ H _ I h) fun v s1 uw=>by obtain⟨x,H1,I1,r1,q1⟩:=uw;exact ho pins s1 σ H1 x v Q I1 r1 q1)
theorem zJ {f:Value->Value->Sem Value}{C:Int->Int->Prop}{g:Int->Int->Int}
  (rule:∀ (i j:Int)(t u:Tok)(s:Shared)(Q:Value->Shared->Prop)(E:Value->Shared->Prop),C i j->Q (.int (g i j) s.toks) { s with toks:=s.toks + 1 }->wpAny (model X.prog X.w) X.A (f (.int i t) (.int j u)) Q E s) :
  dI X f (rI C fun i j => .int (g i j)):=by
 intro pins s σ H x y v u Q I rx ry h
 obtain⟨i,j,rfl,rfl,hc,q⟩:=h
 obtain⟨t,rfl⟩:=rx
 obtain⟨t',rfl⟩:=ry
 exact rule i j t t' s _ _ hc ⟨.int (g i j),H,I.tok _,⟨_,rfl⟩,q⟩
theorem rh {f:Value->Value->Sem Value}{g:Int->Int->Int}
  (rule:∀ (i j:Int)(t u:Tok)(s:Shared)(Q:Value->Shared->Prop)(E:Value->Shared->Prop),Q (.int (g i j) s.toks) { s with toks:=s.toks + 1 }->wpAny (model X.prog X.w) X.A (f (.int i t) (.int j u)) Q E s) :
  dI X f (qI fun i j => .int (g i j)):=by
 intro pins s σ H x y v u Q I rx ry h
 obtain⟨i,j,rfl,rfl,q⟩:=h
 obtain⟨t,rfl⟩:=rx
 obtain⟨t',rfl⟩:=ry
 exact rule i j t t' s _ _ ⟨.int (g i j),H,I.tok _,⟨_,rfl⟩,q⟩
theorem ri {f:Value->Value->Sem Value}{g:Int->Int->Bool}
  (rule:∀ (i j:Int)(t u:Tok)(s:Shared)(Q:Value->Shared->Prop)(E:Value->Shared->Prop),Q (.bool (g i j)) s->wpAny (model X.prog X.w) X.A (f (.int i t) (.int j u)) Q E s) :
  dI X f (qI fun i j => .bl (g i j)):=by
 intro pins s σ H x y v u Q I rx ry h
 obtain⟨i,j,rfl,rfl,q⟩:=h
 obtain⟨t,rfl⟩:=rx
 obtain⟨t',rfl⟩:=ry
 exact rule i j t t' s _ _ ⟨.bl (g i j),H,I,rfl,q⟩
noncomputable def DY (i j:Int):Prop:=0 < j/\j < 1073741824
noncomputable def A0 (i j:Int):Prop:=0 <= j/\j <= 1000000/\i.natAbs < 2 ^ 64
noncomputable def yS (i j:Int):Prop:=(-(2 ^ 64) < i/\i < 2 ^ 64)∨(-(2 ^ 64) < j/\j < 2 ^ 64)
theorem yS.ok {i j:Int}(h:yS i j):IntMulOk i j:=by
 rcases h with ⟨h1,h2⟩ | ⟨h1,h2⟩
 ·exact .of_left (intBits_le_64 h1 h2)
 ·exact .of_right (intBits_le_64 h1 h2)
theorem lG (k:Nat):(0:Int) <= 2 ^ k:=by
 rw[two_pow_cast]
 exact Int.natCast_nonneg _
theorem cM:dI X (binaryOp .Add) (qI fun i j => .int (i + j)):=rh fun _ _ _ _ _ _ _ q=>add_int q
theorem pM:dI X (binaryOp .Sub) (qI fun i j => .int (i - j)):=rh fun _ _ _ _ _ _ _ q=>sub_int q
theorem i3:dI X (binaryOp .Mult) (rI yS fun i j => .int (i * j)):=zJ fun _ _ _ _ _ _ _ hc q=>mul_int q hc.ok
theorem cz:dI X (binaryOp .FloorDiv) (rI DY fun i j => .int (i / j)):=zJ fun i j _ _ _ _ _ hc q=>by
 have h1:(0:Int) < j:=hc.1
 have h2:j < 1073741824:=hc.2
 exact floordiv_int (by omega) (by rw[Int.fdiv_eq_ediv_of_nonneg i (by omega)];exact q) (.inl (PyProof.noPylong_small (by omega)))
theorem bF:dI X (binaryOp .Mod) (rI (fun _ j=>0 < j) fun i j => .int (i % j)):=zJ fun i j _ _ _ _ _ hc q=>by
 have h1:(0:Int) < j:=hc
 exact mod_int' (by omega) (by rw[Int.fmod_eq_emod_of_nonneg i (by omega)];exact q)
theorem tD:dI X (binaryOp .Pow) (rI A0 fun i j => .int (i ^ j.toNat)):=zJ fun _ _ _ _ _ _ _ hc q=>pow_int_small hc.1 hc.2.1 hc.2.2 q
theorem t8:dI X (binaryOp .LShift) (rI A0 fun i j => .int (i * 2 ^ j.toNat)):=zJ fun _ _ _ _ _ _ _ hc q=>lshift_int_small hc.1 hc.2.1 hc.2.2 q
theorem mz:dI X (binaryOp .RShift) (rI (fun _ j=>0 <= j) fun i j => .int (i / 2 ^ j.toNat)):=zJ fun i j _ _ _ _ _ hc q =>
 rshift_int hc (by rw[Int.fdiv_eq_ediv_of_nonneg i (lG _)];exact q)
theorem m6:dI X (binaryOp .BitAnd) (qI fun i j => .int (Builtin.bitAnd i j)):=rh fun _ _ _ _ _ _ _ q=>and_int q
theorem A1:dI X (binaryOp .BitOr) (qI fun i j => .int (Builtin.bitOr i j)):=rh fun _ _ _ _ _ _ _ q=>or_int q
theorem unI {f:Value->Sem Value}{g:Int->Int}
  (rule:∀ (i:Int)(t:Tok)(s:Shared)(Q:Value->Shared->Prop)(E:Value->Shared->Prop),Q (.int (g i) s.toks) { s with toks:=s.toks + 1 }->wpAny (model X.prog X.w) X.A (f (.int i t)) Q E s) :
  DW X f (rU fun i => .int (g i)):=by
 intro pins s σ H x v Q I rx h
 obtain⟨i,rfl,q⟩:=h
 obtain⟨t,rfl⟩:=rx
 exact rule i t s _ _ ⟨.int (g i),H,I.tok _,⟨_,rfl⟩,q⟩
theorem jt:DW X (unaryOp .USub) (rU fun i => .int (-i)):=unI fun _ _ _ _ _ q=>neg_int q
end
noncomputable def A2:V->V->Bool
 | .uB, .uB=>true | .uB, .int _=>true | .int _, .uB=>true | .uB, .bl _=>true | .bl _, .uB=>true | .uB, .str _=>true | .str _, .uB=>true
 | .int _, .int _=>true | .bl _, .bl _=>true | .str _, .str _=>true | .wH _, .wH _=>true
 | .int _, .str _=>true | .str _, .int _=>true | .bl _, .str _=>true | .str _, .bl _=>true
 | _,_=>false
noncomputable def rEq:R2:=fun x y H Q=>A2 x y=true/\Q (.bl (decide (x=y))) H
noncomputable def rNe:R2:=fun x y H Q=>A2 x y=true/\Q (.bl (!decide (x=y))) H
theorem nP {i j:Int}:decide (V.int i=V.int j)=(i == j):=by
 rw[Bool.eq_iff_iff]
 simp
theorem qv {i j:Bool}:decide (V.bl i=V.bl j)=(i == j):=by
 rw[Bool.eq_iff_iff]
 simp
theorem nO {i j:Str}:decide (V.str i=V.str j)=(i == j):=by
 rw[Bool.eq_iff_iff]
 simp
theorem nQ {i j:Array UInt8}:decide (V.wH i=V.wH j)=(i.toList == j.toList):=by
 rw[Bool.eq_iff_iff]
 cases i
 cases j
 simp
section
variable {X:Cx}{a b c:Expr}{ta tb tc:TE}{pos:Pos}
theorem aG {pins:List (Addr × Obj)}{σ:St}{H:Hp}{s:Shared}{Q:VK}{k k':Bool}(I:Inv X pins σ H s)(q:Q (.bl k) H)(e:k=k'):EP X pins σ Q (.bool k') s:=by
 subst e
 exact⟨.bl k,H,I,rfl,q⟩
theorem bW:dI X (compareOp .Eq) rEq:=by
 intro pins s σ H x y v u Q I rx ry h
 obtain⟨hs,q⟩:=h
 cases x with
 | uB =>
  cases rx
  cases y with
  | uB=>cases ry;exact PySem.EqNone.eq_none_none (aG I q (by simp))
  | bl j=>cases ry;exact PySem.EqNone.eq_none_bool (aG I q (by simp))
  | int j=>obtain⟨t',rfl⟩:=ry;exact PySem.EqNone.eq_none_int (aG I q (by simp))
  | str j=>obtain⟨t',rfl⟩:=ry;exact PySem.EqNone.eq_none_str (aG I q (by simp))
  | _=>exact absurd (show false=true from hs) Bool.false_ne_true
 | bl i =>
  cases rx
  cases y with
  | uB=>cases ry;exact PySem.EqNone.eq_bool_none (aG I q (by simp))
  | bl j=>cases ry;exact eq_bool (aG I q qv)
  | str j=>obtain⟨t',rfl⟩:=ry;exact PySem.EqMixed.eq_bool_str (aG I q (by simp))
  | _=>exact absurd (show false=true from hs) Bool.false_ne_true
 | int i =>
  obtain⟨t,rfl⟩:=rx
  cases y with
  | uB=>cases ry;exact PySem.EqNone.eq_int_none (aG I q (by simp))
  | int j=>obtain⟨t',rfl⟩:=ry;exact eq_int (aG I q nP)
  | str j=>obtain⟨t',rfl⟩:=ry;exact PySem.EqMixed.eq_int_str (aG I q (by simp))
  | _=>exact absurd (show false=true from hs) Bool.false_ne_true
 | str i =>
  obtain⟨t,rfl⟩:=rx
  cases y with
  | uB=>cases ry;exact PySem.EqNone.eq_str_none (aG I q (by simp))
  | bl j=>cases ry;exact PySem.EqMixed.eq_str_bool (aG I q (by simp))
  | int j=>obtain⟨t',rfl⟩:=ry;exact PySem.EqMixed.eq_str_int (aG I q (by simp))
  | str j=>obtain⟨t',rfl⟩:=ry;exact eq_str (aG I q nO)
  | _=>exact absurd (show false=true from hs) Bool.false_ne_true
 | wH i =>
  obtain⟨t,rfl⟩:=rx
  cases y with
  | wH j=>obtain⟨t',rfl⟩:=ry;exact PySem.W.eq_bytes (aG I q nQ)
  | _=>exact absurd (show false=true from hs) Bool.false_ne_true
 | _=>cases y<;>exact absurd (show false=true from hs) Bool.false_ne_true
theorem kD:dI X (compareOp .NotEq) rNe:=by
 intro pins s σ H x y v u Q I rx ry h
 obtain⟨hs,q⟩:=h
 cases x with
 | uB =>
  cases rx
  cases y with
  | uB=>cases ry;exact PySem.EqNone.ne_none_none (aG I q (by simp))
  | bl j=>cases ry;exact PySem.EqNone.ne_none_bool (aG I q (by simp))
  | int j=>obtain⟨t',rfl⟩:=ry;exact PySem.EqNone.ne_none_int (aG I q (by simp))
  | str j=>obtain⟨t',rfl⟩:=ry;exact PySem.EqNone.ne_none_str (aG I q (by simp))
  | _=>exact absurd (show false=true from hs) Bool.false_ne_true
 | bl i =>
  cases rx
  cases y with
  | uB=>cases ry;exact PySem.EqNone.ne_bool_none (aG I q (by simp))
  | bl j=>cases ry;exact ne_bool (aG I q (congrArg not qv))
  | str j=>obtain⟨t',rfl⟩:=ry;exact PySem.EqMixed.ne_bool_str (aG I q (by simp))
  | _=>exact absurd (show false=true from hs) Bool.false_ne_true
 | int i =>
  obtain⟨t,rfl⟩:=rx
  cases y with
  | uB=>cases ry;exact PySem.EqNone.ne_int_none (aG I q (by simp))
  | int j=>obtain⟨t',rfl⟩:=ry;exact ne_int (aG I q (congrArg not nP))
  | str j=>obtain⟨t',rfl⟩:=ry;exact PySem.EqMixed.ne_int_str (aG I q (by simp))
  | _=>exact absurd (show false=true from hs) Bool.false_ne_true
 | str i =>
  obtain⟨t,rfl⟩:=rx
  cases y with
  | uB=>cases ry;exact PySem.EqNone.ne_str_none (aG I q (by simp))
  | bl j=>cases ry;exact PySem.EqMixed.ne_str_bool (aG I q (by simp))
  | int j=>obtain⟨t',rfl⟩:=ry;exact PySem.EqMixed.ne_str_int (aG I q (by simp))
  | str j=>obtain⟨t',rfl⟩:=ry;exact ne_str (aG I q (congrArg not nO))
  | _=>exact absurd (show false=true from hs) Bool.false_ne_true
 | wH i =>
  obtain⟨t,rfl⟩:=rx
  cases y with
  | wH j=>obtain⟨t',rfl⟩:=ry;exact PySem.W.ne_bytes (aG I q (congrArg not nQ))
  | _=>exact absurd (show false=true from hs) Bool.false_ne_true
 | _=>cases y<;>exact absurd (show false=true from hs) Bool.false_ne_true
theorem sk:dI X (compareOp .Lt) (qI fun i j => .bl (decide (i < j))):=ri fun _ _ _ _ _ _ _ q=>lt_int q
theorem so:dI X (compareOp .LtE) (qI fun i j => .bl (decide (i <= j))):=ri fun _ _ _ _ _ _ _ q=>le_int q
theorem n5:dI X (compareOp .Gt) (qI fun i j => .bl (decide (j < i))):=ri fun _ _ _ _ _ _ _ q=>gt_int q
theorem A3:dI X (compareOp .GtE) (qI fun i j => .bl (decide (j <= i))):=ri fun _ _ _ _ _ _ _ q=>ge_int q
theorem o7:dI X (compareOp .In) (fun x y H Q=>∃ i j,x = .str i/\y = .str j/\Q (.bl (!(Builtin.Str.occurrences j i 0 j.length 1).isEmpty)) H):=by
 intro pins s σ H x y v u Q I rx ry h
 obtain⟨i,j,rfl,rfl,q⟩:=h
 obtain⟨t,rfl⟩:=rx
 obtain⟨t',rfl⟩:=ry
 exact in_str (aG I q rfl)
theorem pO:dI X (compareOp .Is) (fun x y H Q=>y = .uB/\Q (.bl (decide (x = .uB))) H):=by
 intro pins s σ H x y v u Q I rx ry h
 obtain⟨rfl,q⟩:=h
 cases ry
 refine is_none_gen (aG I q ?_)
 cases x<;>first
  | (cases rx;rfl)
  | (obtain⟨t,rfl⟩:=rx;rfl)
theorem rf:dI X (compareOp .IsNot) (fun x y H Q=>y = .uB/\Q (.bl (!decide (x = .uB))) H):=by
 intro pins s σ H x y v u Q I rx ry h
 obtain⟨rfl,q⟩:=h
 cases ry
 refine isnot_none_gen (aG I q ?_)
 cases x<;>first
  | (cases rx;rfl)
  | (obtain⟨t,rfl⟩:=rx;rfl)
theorem aC (b:Expr){op:CmpOp}(h:op ≠ .In:=by decide)(h2:op ≠ .NotIn:=by decide):behindInMarks op b=false:=by
 have e1:(op == CmpOp.In)=false:=by cases op<;>first | rfl | exact absurd rfl h
 have e2:(op == CmpOp.NotIn)=false:=by cases op<;>first | rfl | exact absurd rfl h2
 cases b<;>simp[behindInMarks,e1,e2]
theorem dD {op:CmpOp}{r:R2}(ho:dI X (compareOp op) r)(ha:PE X a ta)(hb:PE X b tb)(hm:behindInMarks op b=false):PE X (.Compare a [op] [b] pos) (Cy r ta tb):=by
 intro pins s σ H Q I h
 exact wpAny_Compare1 (uh ha hb I h fun v u s2 x y H2 I2 rx ry q=>ho pins s2 σ H2 x y v u Q I2 rx ry q) hm
noncomputable def A4 (t:TE):TT:=fun σ H Q=>t σ H fun x H'=>∃ k,x = .bl k/\Q k H'
theorem az {op:CmpOp}{r:R2}(ho:dI X (compareOp op) r)(ha:PE X a ta)(hb:PE X b tb)(hm:behindInMarks op b=false):PT X (.Compare a [op] [b] pos) (A4 (Cy r ta tb)):=by
 intro pins s σ H Q I h
 refine wpAny_isTrue_Compare1 (aU (ha pins s σ H _ I h) fun v s1 ⟨x,H1,I1,r1,q1⟩=>aU (hb pins s1 σ H1 _ I1 q1) fun u s2 ⟨y,H2,I2,r2,q2⟩ =>
  aU (ho pins s2 σ H2 x y v u _ I2 r1 r2 q2) fun c s3 ⟨z,H3,I3,r3,k,e,q3⟩=>?_) hm
 subst e
 cases r3
 exact wpAny_truthy_bool ⟨H3,I3,q3⟩
noncomputable def sN (r r':R2)(ta tb tc:TE):TE:=fun σ H Q=>ta σ H fun x H1=>tb σ H1 fun y H2=>r x y H2 fun z H3=>∃ k,z = .bl k /\
 (if k=true then tc σ H3 fun w' H4=>r' y w' H4 Q else Q (.bl false) H3)
theorem pJ {op DZ:CmpOp}{r r':R2}(ho:dI X (compareOp op) r)(ya:dI X (compareOp DZ) r')(ha:PE X a ta)(hb:PE X b tb)(hc:PE X c tc)
  (hm:lastMarks [op,DZ] [b,c]=false:=by with_unfolding_all rfl):PE X (.Compare a [op,DZ] [b,c] pos) (sN r r' ta tb tc):=by
 intro pins s σ H Q I h
 refine Compare_chain (aU (ha pins s σ H _ I h) fun v s1 ⟨x,H1,I1,r1,q1⟩=>chain_link (aU (hb pins s1 σ H1 _ I1 q1) fun u s2 ⟨y,H2,I2,r2,q2⟩ =>
  aU (ho pins s2 σ H2 x y v u _ I2 r1 r2 q2) fun d s3 ⟨z,H3,I3,r3,k,e,q3⟩=>?_)) hm
 subst e
 cases r3
 refine wpAny_truthy_bool ?_
 cases k with
 | false=>exact ite_ff ⟨.bl false,H3,I3,rfl,q3⟩
 | true=>exact ite_tt (chain_last (aU (hc pins s3 σ H3 _ I3 q3) fun w' s4 uw=>by obtain⟨z',H4,I4,r4,q4⟩:=uw;exact ya pins s4 σ H4 y z' u w' Q I4 r2 r4 q4))
noncomputable def ul (K:Frag)(x:V)(H:Hp)(k:Bool):Prop :=
 match x with
 | .uB=>k=false
 | .bl b=>k=b
 | .int i=>k=(i != 0)
 | .str y=>y.length <= sizeLine/\k=((y.length:Int) != 0)
 | .wH y=>y.size <= sizeLine/\k=((y.size:Int) != 0)
 | .ref p=>(∃ xs,ux K H p xs/\k = !xs.isEmpty)∨(∃ xs,uE K H p xs/\k = !xs.isEmpty)∨∃ uv,H p=some (.dK uv)/\k = !uv.isEmpty
 | _=>False
theorem mM {κ:Type} {uv:List (κ × V)} {vs:List (κ × Value)} (r:KV uv vs):(!vs.isEmpty) = !uv.isEmpty:=by
 cases r<;>rfl
theorem iD {xs:List V}{uy:List Value}(r:Vals xs uy):(!uy.toArray.isEmpty) = !xs.isEmpty:=by
 cases r<;>simp
theorem i8:(sizeLine:Nat) < 2 ^ 63:=by rw[sizeLine_eq];decide
theorem sE:DX X (fun x H Q=>∃ k,ul X.K x H k/\Q k H):=by
 intro pins s σ H x v Q I rx h
 obtain⟨k,e,q⟩:=h
 have hl:=i8
 have hs:sizeLine=16777216:=sizeLine_eq
 cases x with
 | uB =>
  cases rx
  have e':k=false:=e
  subst e'
  exact truthy_none ⟨H,I,q⟩
 | bl b =>
  cases rx
  have e':k=b:=e
  subst e'
  exact wpAny_truthy_bool ⟨H,I,q⟩
 | int i =>
  obtain⟨t,rfl⟩:=rx
  have e':k=(i != 0):=e
  subst e'
  exact PySem.P.truthy_int ⟨H,I,q⟩
 | str y =>
  obtain⟨t,rfl⟩:=rx
  obtain⟨hy,e'⟩:y.length <= sizeLine/\k=((y.length:Int) != 0):=e
  subst e'
  exact PySem.P.truthy_str (by omega) ⟨H,I.tok _,q⟩
 | wH y =>
  obtain⟨t,rfl⟩:=rx
  obtain⟨hy,e'⟩:y.size <= sizeLine/\k=((y.size:Int) != 0):=e
  subst e'
  exact PySem.W.truthy_bytes (by omega) ⟨H,I.tok _,q⟩
 | ref p =>
  cases rx
  have e':(∃ xs,ux X.K H p xs/\k = !xs.isEmpty)∨(∃ xs,uE X.K H p xs/\k = !xs.isEmpty)∨∃ uv,H p=some (.dK uv)/\k = !uv.isEmpty:=e
  rcases e' with ⟨xs,hx,e'⟩ | ⟨xs,hx,e'⟩ | ⟨uv,hx,e'⟩
  ·subst e'
   obtain⟨uy,r,pl,hz⟩:=I.list hx
   have hlen:=r.length
   exact wpAny_truthy_list pl.isList (by simp only[size_toArray];omega) ⟨H,I.tok _,by rw[iD r];exact q⟩
  ·subst e'
   obtain⟨uy,r,pl,hz⟩:=I.tuple hx
   have hlen:=r.length
   exact truthy_tuple pl (by simp only[size_toArray];omega) ⟨H,I.tok _,by rw[iD r];exact q⟩
  ·subst e'
   obtain⟨hz,hS,vs,r,m⟩:uv.length <= sizeLine/\(p == sysModules)=false/\∃ vs,KV uv vs/\s.heap.DictOf (bG X.prog X.w) p vs:=I.u1 p _ hx
   have hlen:uv.length=vs.length:=Paired.length r
   exact wpAny_truthy_dict hS m (by omega) ⟨H,I.tok _,by rw[mM r];exact q⟩
 | _=>exact(show False from e).elim
theorem fq (ha:PE X a ta)(he:∀ whole,isTrue a X.env whole=(do let v ← whole;standAt a.pos;holding [v] (truthy v))) :
  PT X a (fun σ H Q=>ta σ H fun x H'=>∃ k,ul X.K x H' k/\Q k H'):=by
 intro pins s σ H Q I h
 exact isTrue_plain (aU (ha pins s σ H _ I h) fun v s1 uw=>by obtain⟨x,H1,I1,r1,q1⟩:=uw;exact sE pins s1 σ H1 x v Q I1 r1 q1) (he _)
theorem aN:dI X (binaryOp .Add) (fun x y H Q=>∃ i j,x = .str i/\y = .str j/\i.length + j.length <= sizeLine/\Q (.str (i ++ j)) H):=by
 intro pins s σ H x y v u Q I rx ry h
 obtain⟨i,j,rfl,rfl,hz,q⟩:=h
 obtain⟨t,rfl⟩:=rx
 obtain⟨t',rfl⟩:=ry
 exact add_str (fun t' tk=>⟨.str (i ++ j),H,I.tok _,⟨_,rfl⟩,q⟩) hz
theorem gP {x:V}{us:List Value}(r:Vals [x] us):∃ u,us=[u]/\RelV x u:=by
 cases r with
 | cons r1 r2=>cases r2;exact⟨_,rfl,r1⟩
theorem u7:uL X (.type "str") (fun xs H Q=>∃ i,xs=[.int i]/\i.natAbs.log2 < 1920/\Q (.str (toString i)) H):=by
 intro pins s σ H xs us Q I r h
 obtain⟨i,rfl,hz,q⟩:=h
 obtain⟨u,rfl,t,rfl⟩:=gP r
 exact PySem.P.str_of_int hz ⟨.str _,H,I.tok _,⟨_,rfl⟩,q⟩
end
end L2
namespace L2
open PySem PySem.Spec PyProof.Rows
structure wt (h:Heap)(x dx C:Addr)(mA:Str->Option Value):Prop where
 obj:h.get? x=some (PySem.W.instObj C dx)
 ns:h.Ns1 dx mA
 ne:dx ≠ x
theorem oE {h:Heap}{dx:Addr}{mA:Str->Option Value}(n:h.Ns1 dx mA):∃ od,h.get? dx=some od/\∀ name,PySem.W.lookIn name od=some (mA name):=by
 obtain⟨o,es,ep,ho,hd,hk,_,hm⟩:=n
 refine⟨o,ho,fun name=>?_⟩
 have e:=hm name
 unfold nsFind findBy at e
 rw[← Array.find?_toList]at e
 unfold PySem.W.lookIn
 rw[hd]
 dsimp only
 split
 ·rename_i y q
  rw[q]at e
  exact congrArg some e
 ·rename_i q
  rw[q]at e
  have a:es.toList.any (·.refKey)=false:=by
   rw[any_eq_false]
   intro y hy
   obtain⟨z,t,xu⟩:=hk y (Array.mem_toList_iff.mp hy)
   simp[DictEntry.refKey,xu]
  have a':¬ es.toList.any (·.refKey)=true:=by rw[a];exact Bool.false_ne_true
  rw[if_neg a']
  exact congrArg some e
theorem wt.look {h:Heap}{x dx C:Addr}{mA:Str->Option Value}(I:wt h x dx C mA):∃ od,PySem.W.InstAt h x (PySem.W.instObj C dx) C (some od)/\∀ name,PySem.W.lookIn name od=some (mA name) :=
 let ⟨od,ho,hl⟩:=oE I.ns
 ⟨od,⟨I.obj,rfl,rfl,ho⟩,hl⟩
section
variable {prog:Program}{w:World}{A:Around}{E:Value->Shared->Prop}{s:Shared}{K:Frag}{x dx C f:Addr}{mA:Str->Option Value}{name:Str}{v:Value}
theorem rM {expr:Bool}{Q:Value->Shared->Prop}(X:K.In s.heap)(I:wt s.heap x dx C mA)(hg:plainGet K C name=true)(hh:hasDictIn K C=true)
  (ha:findIn K (.ref C) name=some none) (hv:mA name=some v) (vG:PySem.W.handedIn v=true) (h:Q v { s with toks:=s.toks + 1 }) :
  wpAny (model prog w) A (getAttr (.ref x) name expr) Q E s:=by
 obtain⟨od,J,hl⟩:=I.look
 exact PySem.W.get_value X J (PySem.W.plainGet_of hg).1 (PySem.W.findObj_own hh ha rfl (by rw[hl,hv])) vG h
theorem qo {pl:Sem Bool}{Q:Value × List Value->Shared->Prop}(X:K.In s.heap)(I:wt s.heap x dx C mA)(hg:plainGet K C name=true)
  (hf:findIn K (.ref C) name=some (some (.ref f))) (ht:isFn K (.ref f)=true) (hv:mA name=none) (h:Q (.ref f,[.ref x]) s) :
  wpAny (model prog w) A (getMethod (.ref x) name pl) Q E s:=by
 obtain⟨od,J,hl⟩:=I.look
 exact PySem.W.method_fn X J (PySem.W.plainGet_of hg).1 (PySem.W.plainGet_of hg).2 hf (beq_iff_eq.mp ht) (by show(PySem.W.lookIn name od).map (·.isSome)=some false;rw[hl,hv];rfl) h
theorem qU {ns:List Str}{Q:Unit->Shared->Prop}(X:K.In s.heap)(I:wt s.heap x dx C mA)
  (hs:findIn K (.ref C) "__setattr__" = some (some (.builtin "object.__setattr__"))) (hp:plainOver K C=true) (ht:PySem.W.takerIn K C name=some none) (hh:hasDictIn K C=true)
  (hw:PySem.Within mA ns) (hsz:ns.length <= sizeLine)
  (h:∀ h',wt h' x dx C (fun y=>if y=name then some v else mA y)->Heap.SameBut dx s.heap h'->Q () { s with heap:=h',toks:=s.toks + 2 }) :
  wpAny (model prog w) A (setAttr (.ref x) name v) Q E s:=by
 obtain⟨od,J,hl⟩:=I.look
 refine PySem.W.set_plain X J hs (PySem.W.osa_open (s:={ s with toks:=s.toks + 1 }) (r:=none) X J hp ht fun b=>?_)
 obtain⟨cd,hc,DF⟩:=PySem.W.any_some hh
 have hx:s.heap.get? x=some ⟨.ref C,some dx, .plain,#[]⟩:=I.obj
 refine wpAny_bind (wpAny_pure (wpAny_bind (wpAny_bind (wpAny_loadPart hx (wpAny_bind (PySem.W.Looks.here (s:={ s with toks:=s.toks + 1 }) (PySem.W.looks_clsIn X hc) ?_))))))
 rw[DF]
 refine wpAny_pure (a:=some dx) (wpAny_bind (wpAny_pure (wpAny_bind ?_)))
 refine wpAny_nsSet1 (s:={ s with toks:=s.toks + 1 }) I.ns fun h' yT xl=>?_
 obtain⟨oD,esD,epD,hoD,hdD,hcD⟩:=yT.count (PySem.Within.cons name v hw)
 refine wpAny_bind (wpAny_lookBehind hoD (by rw[hdD];exact pastItsLine_dict (le_trans hcD (by rw[length_cons];omega))) ?_)
 exact wpAny_pure (h _ ⟨(xl.2 _ (Ne.symm I.ne)).trans I.obj,yT,I.ne⟩ xl)
theorem qe {R:Result->Shared->Prop}{vs:List Value}{kw:List (Str × Value)}(X:K.In s.heap)(hm:makesIn K C=true)
  (hi:findIn K (.ref C) "__init__" = some (some (.ref f))) (hf:PySem.W.typeIn K (.ref f)=some (.type "function"))
  (h:codeAny (model prog w) (A.under (.builtin "type.__call__" ⟨.ref C :: vs,kw⟩)) (.call (.ref f) ⟨.ref (s.heap.objs.size + 1) :: vs,kw⟩) (PySem.W.InitBack (s.heap.objs.size + 1) R)
   { s with heap:=(s.heap.push PySem.W.emptyDict).push (PySem.W.instObj C s.heap.objs.size) }) :
  codeAny (model prog w) A (.call (.ref C) ⟨vs,kw⟩) R s:=by
 obtain⟨hh,g,d,t,os⟩:=s
 exact PySem.W.make_core (PySem.W.makes_of X hm) (PySem.W.looks_findIn X hi) (fun self=>PySem.W.bind_fn X self hf) (.inl rfl) h
end
noncomputable def dq (f:Str)(v:V):List (Str × V)->List (Str × V)
 | []=>[(f,v)]
 | (g,x) :: r=>if g=f then (g,v) :: r else (g,x) :: dq f v r
theorem gm (f g:Str)(v:V):∀ fs:List (Str × V),(dq f v fs).lookup g=if g=f then some v else fs.lookup g
 | []=>by
  show List.lookup g [(f,v)]=_
  by_cases h:g=f
  ·have hb:(g == f)=true:=beq_iff_eq.mpr h
   simp only[List.lookup,hb,if_pos h]
  ·have hb:(g == f)=false:=beq_eq_false_iff_ne.mpr h
   simp only[List.lookup,hb,if_neg h]
 | (k,x) :: r=>by
  have ih:=gm f g v r
  rw[show dq f v ((k,x) :: r)=(if k=f then (k,v) :: r else (k,x) :: dq f v r) from rfl]
  by_cases hk:k=f
  ·rw[if_pos hk]
   by_cases h:g=k
   ·have hb:(g == k)=true:=beq_iff_eq.mpr h
    simp only[List.lookup,hb,if_pos (h.trans hk)]
   ·have hb:(g == k)=false:=beq_eq_false_iff_ne.mpr h
    simp only[List.lookup,hb,if_neg (fun e:g=f=>h (e.trans hk.symm))]
  ·rw[if_neg hk]
   by_cases h:g=k
   ·have hb:(g == k)=true:=beq_iff_eq.mpr h
    simp only[List.lookup,hb,if_neg (fun e:g=f=>hk (h.symm.trans e))]
   ·have hb:(g == k)=false:=beq_eq_false_iff_ne.mpr h
    simp only[List.lookup,hb]
    exact ih
theorem fY (f:Str)(v:V):∀ fs:List (Str × V),f ∈ (dq f v fs).map (·.1)/\∀ g,g ∈ fs.map (·.1)->g ∈ (dq f v fs).map (·.1)
 | []=>⟨by simp[dq],fun g h=>by simp at h⟩
 | (k,x) :: r=>by
  obtain⟨i1,i2⟩:=fY f v r
  rw[show dq f v ((k,x) :: r)=(if k=f then (k,v) :: r else (k,x) :: dq f v r) from rfl]
  by_cases hk:k=f
  ·rw[if_pos hk]
   subst hk
   exact⟨by simp,fun g h=>by simpa using h⟩
  ·rw[if_neg hk]
   refine⟨?_,fun g h=>?_⟩
   ·rw[map_cons]
    exact mem_cons_of_mem _ i1
   ·rw[map_cons]at h ⊢
    rcases mem_cons.mp h with e | e
    ·exact mem_cons.mpr (.inl e)
    ·exact mem_cons_of_mem _ (i2 g e)
theorem gq (f:Str)(v:V):∀ fs:List (Str × V),(dq f v fs).length <= fs.length + 1
 | []=>by simp[dq]
 | (k,x) :: r=>by
  have ih:=gq f v r
  rw[show dq f v ((k,x) :: r)=(if k=f then (k,v) :: r else (k,x) :: dq f v r) from rfl]
  by_cases hk:k=f
  ·rw[if_pos hk,length_cons,length_cons];omega
  ·rw[if_neg hk,length_cons,length_cons];omega
theorem uT.some_of {v:V}{o:Option Value}(r:uT (some v) o):∃ u,o=some u/\RelV v u:=by
 cases o with
 | none=>exact(show False from r).elim
 | some u=>exact⟨u,rfl,r⟩
theorem uT.none_of {o:Option Value}(r:uT none o):o=none:=by
 cases o with
 | none=>rfl
 | some u=>exact(show False from r).elim
theorem oM {v:V}{u:Value}(r:RelV v u):PySem.W.handedIn u=true:=by
 cases v with
 | uB=>cases (show u=Value.none from r);rfl
 | bl b=>cases (show u=Value.bool b from r);rfl
 | int i=>obtain⟨t,e⟩:=(show ∃ t,u=Value.int i t from r);cases e;rfl
 | str x=>obtain⟨t,e⟩:=(show ∃ t,u=Value.str x t from r);cases e;rfl
 | wH b=>obtain⟨t,e⟩:=(show ∃ t,u=Value.bytes b t from r);cases e;rfl
 | yM b=>obtain⟨t,e⟩:=(show ∃ t,u=Value.float b t from r);cases e;rfl
 | ref a=>cases (show u=Value.ref a from r);rfl
 | ty n=>cases (show u=Value.type n from r);rfl
section
variable {P:Program}{w:World}{H H':Hp}{h h':Heap}{a C dx:Addr}{fs y0:List (Str × V)}
theorem gJ (u1:vg P w H h)(e:H a=some (.ins C dx fs)):∃ mA,wt h a dx C mA/\(∀ f,uT (fs.lookup f) (mA f))/\PySem.Within mA (fs.map (·.1))/\fs.length <= 1000/\H dx=some (.own a):=by
 obtain⟨d,z,ne,ob,mA,n,r,q⟩:=(show uC P w H h a (.ins C dx fs) from u1 a _ e)
 exact⟨mA,⟨ob,n,ne⟩,r,q,z,d⟩
end
structure wo (K:Frag)(C:Addr):Prop where
 pg:plainGet K C Str.empty=true
 hd:hasDictIn K C=true
 po:plainOver K C=true
 sa:findIn K (.ref C) "__setattr__" = some (some (.builtin "object.__setattr__"))
theorem wo.get {K:Frag}{C:Addr}(c:wo K C)(f:Str):plainGet K C f=true:=c.pg
noncomputable def uA (K:Frag)(C:Addr)(f:Str):Prop:=findIn K (.ref C) f=some none
theorem uA.A5 {K:Frag}{C:Addr}{f:Str}(n:uA K C f):PySem.W.takerIn K C f=some none:=by
 unfold PySem.W.takerIn
 rw[show findIn K (.ref C) f=some none from n]
 rfl
structure jT (K:Frag)(C:Addr)(m:Str)(f:Addr):Prop where
 at_:findIn K (.ref C) m=some (some (.ref f))
 fn:isFn K (.ref f)=true
 kp:keepIn K (.ref f)=true
section
variable {X:Cx}{pins:List (Addr × Obj)}{σ:St}{H:Hp}{s:Shared}{a C dx:Addr}{fs:List (Str × V)}{f:Str}{v:V}{A:Around}{E:Value->Shared->Prop}
theorem mO {b:Bool}{Q:Value->Shared->Prop}(I:Inv X pins σ H s)(e:H a=some (.ins C dx fs))(c:wo X.K C)(n:uA X.K C f)(l:fs.lookup f=some v)
  (h:∀ u s',Inv X pins σ H s'->RelV v u->Q u s'):wpAny (model X.prog X.w) A (getAttr (.ref a) f b) Q E s:=by
 obtain⟨mA,O,r,_,_,_⟩:=gJ I.u1 e
 obtain⟨u,hu,ru⟩:=uT.some_of (v:=v) (o:=mA f) (by rw[← l];exact r f)
 exact rM I.vt O (c.get f) c.hd n hu (oM ru) (h u _ (I.tok _) ru)
theorem mN {m:Str}{g:Addr}{pl:Sem Bool}{Q:Value × List Value->Shared->Prop}(I:Inv X pins σ H s)(e:H a=some (.ins C dx fs))(c:wo X.K C)(k:jT X.K C m g)(l:fs.lookup m=none)
  (h:Q (.ref g,[.ref a]) s):wpAny (model X.prog X.w) A (getMethod (.ref a) m pl) Q E s:=by
 obtain⟨mA,O,r,_,_,_⟩:=gJ I.u1 e
 have hn:mA m=none:=uT.none_of (by rw[← l];exact r m)
 exact qo I.vt O (c.get m) k.at_ k.fn hn h
theorem lU {y:V}{u:Value}{Q:Unit->Shared->Prop}(I:Inv X pins σ H s)(e:H a=some (.ins C dx fs))(c:wo X.K C)(n:uA X.K C f)(hl:fs.length < 1000)(ry:RelV y u)
  (h:∀ s',Inv X pins σ (ar H a (.ins C dx (dq f y fs))) s'->Q () s'):wpAny (model X.prog X.w) A (setAttr (.ref a) f u) Q E s:=by
 obtain⟨mA,O,r,wi,_,ho⟩:=gJ I.u1 e
 have hz:(fs.map (·.1)).length <= sizeLine:=by rw[length_map,sizeLine_eq];omega
 refine qU I.vt O c.sa c.po n.A5 c.hd wi hz fun h' O' sb=>h _ ?_
 have hd:∃ o,h'.get? dx=some o:=let ⟨o,_,_,e',_⟩:=O'.ns; ⟨o,e'⟩
 refine I.write (x:=a) (e:=dx) (by rw[e];exact True.intro) (.inr ho) (fun b q hb z=>(sb.2 b hb).trans z) hd ?_
 refine⟨by rw[ak O.ne];exact ho,?_,O.ne,O'.obj,_,O'.ns,fun g=>?_,fun g hg=>?_⟩
 ·have:=gq f y fs;omega
 ·show uT ((dq f y fs).lookup g) (if g=f then some u else mA g)
  rw[gm]
  by_cases q:g=f
  ·rw[if_pos q,if_pos q];exact ry
  ·rw[if_neg q,if_neg q];exact r g
 ·by_cases q:g=f
  ·rw[q];exact(fY f y fs).1
  ·refine(fY f y fs).2 g (wi g fun z=>hg ?_)
   show(if g=f then some u else mA g)=none
   rw[if_neg q];exact z
theorem Inv.made (I:Inv X pins σ H s):Inv X pins σ (ar (ar H s.heap.objs.size (.own (s.heap.objs.size + 1))) (s.heap.objs.size + 1) (.ins C s.heap.objs.size []))
  { s with heap:=(s.heap.push PySem.W.emptyDict).push (PySem.W.instObj C s.heap.objs.size) }:=by
 have e1:(s.heap.push PySem.W.emptyDict).get? s.heap.objs.size=some PySem.W.emptyDict:=Heap.get?_push_size s.heap rfl
 have e2:((s.heap.push PySem.W.emptyDict).push (PySem.W.instObj C s.heap.objs.size)).get? (s.heap.objs.size + 1)=some (PySem.W.instObj C s.heap.objs.size):=by
  have:=Heap.get?_push_size (s.heap.push PySem.W.emptyDict) (o:=PySem.W.instObj C s.heap.objs.size) rfl
  rwa [size_push]at this
 have e3:(s.heap.push PySem.W.emptyDict).Ns s.heap.objs.size (fun _=>none):=⟨PySem.W.emptyDict,#[],_,e1,rfl,(fun e he=>absurd he (by simp)),fun _=>rfl⟩
 have I1:=I.laid (a:=s.heap.objs.size) (o := .own (s.heap.objs.size + 1)) (h':=s.heap.push PySem.W.emptyDict) (t':=s.toks) (fun b u q=>Heap.get?_push_of_some _ q) (le_refl _) ⟨_,e1⟩
 refine I1.laid (a:=s.heap.objs.size + 1) (o := .ins C s.heap.objs.size []) (t':=s.toks) (fun b u q=>Heap.get?_push_of_some _ q) (le_of_eq (size_push _ _)) ?_
 have ne:s.heap.objs.size ≠ s.heap.objs.size + 1:=ne_of_lt (Nat.lt_succ_self _)
 refine⟨by rw[ak ne,ac],zero_le _,ne,e2,fun _=>none,(Heap.Ns1.of_empty e3).at fun o q=>Heap.get?_push_of_some _ q,fun _=>True.intro,fun y hy=>absurd rfl hy⟩
theorem rW {prog:Program}{w:World}{env:Env}{e:Expr}{f:Str}{pos:Pos}{s:Shared}{Q:Value->Shared->Prop}(hb:attributeBase e f env (eval e env)=eval e env)
  (h:wpAny (model prog w) A (eval e env) (fun o s₁=>wpAny (model prog w) A (getAttr o f true) Q E s₁) E s):wpAny (model prog w) A (eval (.Attribute e f pos) env) Q E s :=
 Attribute_any_ h (by rw[arm_eval_Attribute,hb])
end
noncomputable def Ea (K:Frag)(ta:TE)(f:Str):TE:=fun σ H Q=>ta σ H fun x H1=>∃ a C dx fs v,x = .ref a/\H1 a=some (.ins C dx fs)/\wo K C/\uA K C f/\fs.lookup f=some v/\Q v H1
noncomputable def Eb (K:Frag)(ta tv:TE)(f:Str):TS:=fun D σ H=>tv σ H fun y H1=>ta σ H1 fun x H2=>∃ a C dx fs,x = .ref a/\H2 a=some (.ins C dx fs)/\wo K C/\uA K C f/\fs.length < 1000 /\
 D.nx σ (ar H2 a (.ins C dx (dq f y fs)))
section
variable {X:Cx}{o e value:Expr}{f:Str}{pos pos' wZ:Pos}{ta tv:TE}
theorem aH (he:PE X e ta)(hb:attributeBase e f X.env (eval e X.env)=eval e X.env):PE X (.Attribute e f pos) (Ea X.K ta f):=by
 intro pins s σ H Q I h
 refine rW hb (aU (he pins s σ H _ I h) fun u s1 uw=>?_)
 obtain⟨x,H1,I1,rx,a,C,dx,fs,v,ex,ea,c,n,l,q⟩:=uw
 subst ex
 obtain rfl:u=Value.ref a:=rx
 exact mO I1 ea c n l fun u' s2 I2 ru=>⟨v,H1,I2,ru,q⟩
theorem fT (ha:PE X o ta)(hv:PE X value tv)(hs:swapsWith value (some (.Attribute o f pos')) pos.line X.env=pure false):PS X (.Assign [.Attribute o f pos'] value pos) (Eb X.K ta tv f):=by
 intro pins s σ H D I h
 refine plainObj_wpAny_Assign_Attribute (aU (hv pins s σ H _ I h) fun u s1 ⟨y,H1,I1,ry,q⟩=>aU (ha pins s1 σ H1 _ I1 q) fun ov s2 uw=>?_) hs
 obtain⟨x,H2,I2,rx,a,C,dx,fs,ex,ea,c,n,l,q2⟩:=uw
 subst ex
 obtain rfl:ov=Value.ref a:=rx
 exact lU I2 ea c n l ry fun s3 I3=>⟨σ,_,I3,q2⟩
end
section
variable {X:Cx}{pins:List (Addr × Obj)}{σ:St}{H:Hp}{s:Shared}{A:Around}{E:Value->Shared->Prop}{Q:Value->Shared->Prop}{c:Value}{b:Bool}
inductive fM (K:Frag)(H:Hp):V->Value->Prop where
 | uB:fM K H .uB (.type "NoneType")
 | bl (x:Bool):fM K H (.bl x) (.type "bool")
 | int (i:Int):fM K H (.int i) (.type "int")
 | str (x:Str):fM K H (.str x) (.type "str")
 | yM (x:UInt64):fM K H (.yM x) (.type "float")
 | lst {a:Addr} {xs:List V} (e:H a=some (.lst xs)):fM K H (.ref a) (.type "list")
 | wI {a:Addr} {o:Obj} {xs:List V} (e:H a=some (.wI o (.lst xs))):fM K H (.ref a) (.type "list")
 | tup {a:Addr} {xs:List V} (e:H a=some (.tup xs)):fM K H (.ref a) (.type "tuple")
 | dK {a:Addr} {uv:List (bB × V)} (e:H a=some (.dK uv)):fM K H (.ref a) (.type "dict")
 | dT {a:Addr} {uv:List (List bB × V)} (e:H a=some (.dT uv)):fM K H (.ref a) (.type "dict")
 | ins {a C dx:Addr} {fs:List (Str × V)} (e:H a=some (.ins C dx fs)) (cl:wo K C) (ha:findIn K (.ref C) "__class__" = some (some (.builtin "object.__class__")))
   (hn:PySem.W.specialIn K (.builtin "object.__class__") "__get__" = some (some (.builtin "getset_descriptor.__get__"))) (vj:PySem.W.takesIn K (.builtin "object.__class__")=some true)
   (hm:PySem.W.mroIn K C (.type "object")=some true):fM K H (.ref a) (.ref C)
theorem jh {x:V}{u t:Value}(I:Inv X pins σ H s)(rx:RelV x u)(ty:fM X.K H x t)(e:kitOne X.K t c=some b)(h:∀ tk,Q (.bool b) { s with toks:=tk }) :
  wpAny (model X.prog X.w) A (call (.builtin "isinstance") [u,c]) Q E s:=by
 cases ty with
 | uB=>cases (show u=Value.none from rx);exact PySem.W.kia_one PySem.W.kitx_none I.vt True.intro e (fun z=>nomatch z) h
 | bl y=>cases (show u=Value.bool y from rx);exact PySem.W.kia_one PySem.W.kitx_bool I.vt True.intro e (fun z=>nomatch z) h
 | int i=>obtain⟨t,q⟩:=(show ∃ t,u=Value.int i t from rx);cases q;exact PySem.W.kia_one PySem.W.kitx_int I.vt True.intro e (fun z=>nomatch z) h
 | str y=>obtain⟨t,q⟩:=(show ∃ t,u=Value.str y t from rx);cases q;exact PySem.W.kia_one PySem.W.kitx_str I.vt True.intro e (fun z=>nomatch z) h
 | yM y=>obtain⟨t,q⟩:=(show ∃ t,u=Value.float y t from rx);cases q;exact PySem.W.kia_one PySem.W.kitx_float I.vt True.intro e (fun z=>nomatch z) h
 | @lst a xs ea =>
  cases (show u=Value.ref a from rx)
  obtain⟨_,_,n,_,h1⟩:=(show uC X.prog X.w H s.heap a (.lst xs) from I.u1 a _ ea)
  exact PySem.W.kia_one PySem.W.kitx_list I.vt ⟨_,h1,rfl⟩ e (fun z=>nomatch z) h
 | @wI a ob xs ea =>
  cases (show u=Value.ref a from rx)
  obtain⟨_,_,_,n,_,h1⟩:=(show uC X.prog X.w H s.heap a (.wI ob (.lst xs)) from I.u1 a _ ea)
  exact PySem.W.kia_one PySem.W.kitx_list I.vt ⟨_,h1,rfl⟩ e (fun z=>nomatch z) h
 | @tup a xs ea =>
  cases (show u=Value.ref a from rx)
  obtain⟨_,_,_,p⟩:=(show uC X.prog X.w H s.heap a (.tup xs) from I.u1 a _ ea)
  obtain⟨o,h1,⟨h2,_⟩,_⟩:=p
  exact PySem.W.kia_one PySem.W.kitx_tuple I.vt ⟨o,h1,h2⟩ e (fun z=>nomatch z) h
 | @dK a uv ea =>
  cases (show u=Value.ref a from rx)
  obtain⟨_,_,vs,_,p⟩:=(show uC X.prog X.w H s.heap a (.dK uv) from I.u1 a _ ea)
  obtain⟨o,es,ep,h1,h2,_⟩:=p
  exact PySem.W.kia_one PySem.W.kitx_dict I.vt ⟨o,h1,h2.1⟩ e (fun z=>nomatch z) h
 | @dT a uv ea =>
  cases (show u=Value.ref a from rx)
  obtain⟨_,_,xs,_,o,es,ep,h1,h2,_⟩:=(show uC X.prog X.w H s.heap a (.dT uv) from I.u1 a _ ea)
  exact PySem.W.kia_one PySem.W.kitx_dict I.vt ⟨o,h1,h2.1⟩ e (fun z=>nomatch z) h
 | @ins a C dx fs ea cl ha hn vj hm =>
  cases (show u=Value.ref a from rx)
  obtain⟨mA,O,_⟩:=gJ I.u1 ea
  obtain⟨od,J,_⟩:=O.look
  exact PySem.W.kia_one (PySem.W.kitx_own (cl.get _) cl.hd ha hn vj hm) I.vt J e (fun z=>nomatch z) h
end
end L2
namespace L2
open PySem PySem.Spec PyProof.Rows
structure u5 (k:Nat)(A:Around):Prop where
 hd:A.handled=none
 dp:A.depth + 3 * k + 5 < recursionLimit
 un:A.units + 16 * k + 200 < cLine
theorem u5.mono {j k:Nat}{A:Around}(r:u5 k A)(h:j <= k):u5 j A:=⟨r.hd,by have:=r.dp;omega,by have:=r.un;omega⟩
theorem u5.deeper {k:Nat}{A:Around}(r:u5 (k + 1) A)(env:Env):u5 k (A.deeper env) :=
 ⟨r.hd,by have:=r.dp;show A.depth + 1 + 3 * k + 5 < _;omega,by have:=r.un;show A.units + 3 + 16 * k + 200 < _;omega⟩
theorem mJ {A:Around}{C:Addr}{us:List Value}{kw:List (Str × Value)}:(A.under (.builtin "type.__call__" ⟨.ref C :: us,kw⟩)).depth=A.depth + 1:=by
 first | rfl | simp[Around.under,Code.weight,Code.isCreation,Code.isGuard,Code.isCaller,Code.frames,Code.isFrame,guardIds]
theorem mI {A:Around}{C:Addr}{us:List Value}{kw:List (Str × Value)}:(A.under (.builtin "type.__call__" ⟨.ref C :: us,kw⟩)).units=A.units + 1:=by
 first | rfl | simp[Around.under,Code.cUnits,Code.frames,Code.isFrame]
theorem u5.make {k:Nat}{A:Around}(r:u5 (k + 1) A)(C:Addr)(us:List Value)(kw:List (Str × Value)):u5 k (A.under (.builtin "type.__call__" ⟨.ref C :: us,kw⟩)) :=
 ⟨r.hd,by have:=r.dp;rw[mJ];omega,by have:=r.un;rw[mI];omega⟩
theorem u5.depth {k:Nat}{A:Around}(r:u5 k A):A.depth < recursionLimit:=by have:=r.dp;omega
theorem u5.units {k:Nat}{A:Around}(r:u5 k A):A.units + 64 < cLine:=by have:=r.un;omega
noncomputable def Ec:TA:=fun _ H Q=>Q [] H
noncomputable def A6 (ta:TE)(tr:TA):TA:=fun σ H Q=>ta σ H fun x H1=>tr σ H1 fun xs H2=>Q (x :: xs) H2
section
variable {X:Cx}{e:Expr}{es:List Expr}{te:TE}{t:TA}{pos:Pos}
theorem ad:PA X [] Ec:=fun _ _ _ _ H Q I h=>Calls.spliced_nil ⟨[],H,I, .nil,h⟩
theorem aa (ha:PE X e te)(hr:PA X es t)(hs:starEach (e :: es) X.env=(false,eval e X.env) :: starEach es X.env:=by rfl):PA X (e :: es) (A6 te t):=by
 intro pos pins s σ H Q I h
 rw[hs]
 show wpAny _ _ (spliced ((false,eval e X.env) :: backTo pos (starEach es X.env))) _ _ s
 refine Calls.spliced_cons (aU (ha pins s σ H _ I h) fun u s1 uw=>?_)
 obtain⟨x,H1,I1,r1,q1⟩:=uw
 exact aU (hr pos pins s1 σ H1 _ I1 q1) fun us s2 uw=>by obtain⟨xs,H2,I2,r2,q2⟩:=uw;exact⟨x :: xs,H2,I2, .cons r1 r2,q2⟩
noncomputable def Ed (t:TA):TE:=fun σ H Q=>t σ H fun xs H1=>xs.length <= sizeLine/\∀ p,H1 p=none->Q (.ref p) (ar H1 p (.tup xs))
noncomputable def Ee (t:TA):TE:=fun σ H Q=>t σ H fun xs H1=>xs.length <= sizeLine/\∀ p,H1 p=none->Q (.ref p) (ar H1 p (.lst xs))
theorem cg {x1} (h:PA X es t):PE X (.Tuple es x1 pos) (Ed t):=by
 intro pins s σ H Q I hq
 refine wpAny_Tuple_spliced (aU (h pos pins s σ H _ I hq) fun us s1 ⟨xs,H1,I1,r,z,q⟩=>⟨by rw[← r.length];exact z,?_⟩)
 have hf:H1 s1.heap.objs.size=none:=I1.u1.fresh (le_refl _)
 refine⟨.ref s1.heap.objs.size,ar H1 s1.heap.objs.size (.tup xs),I1.laid (t':=s1.toks) (fun b u e=>Heap.get?_push_of_some _ e) (le_refl _) ?_,rfl,q _ hf⟩
 exact⟨z,us,r,⟨_,Heap.get?_push_size _ rfl,⟨rfl,_,rfl⟩,rfl⟩⟩
theorem bE (h:PA X es t):PE X (.List es pos) (Ee t):=by
 intro pins s σ H Q I hq
 refine wpAny_List_spliced (aU (h pos pins s σ H _ I hq) fun us s1 ⟨xs,H1,I1,r,z,q⟩=>⟨by rw[← r.length];exact z,?_⟩)
 have hf:H1 s1.heap.objs.size=none:=I1.u1.fresh (le_refl _)
 refine⟨.ref s1.heap.objs.size,ar H1 s1.heap.objs.size (.lst xs),I1.laid (t':=s1.toks) (fun b u e=>Heap.get?_push_of_some _ e) (le_refl _) ?_,rfl,q _ hf⟩
 exact⟨z,us,0,r,Heap.get?_push_size _ rfl⟩
end
abbrev Sp:=List V->Hp->VK->XK->Prop
abbrev mU:=List Env->Hp->Shared->XK->Value->Shared->Prop
structure wu (P:Program)(w:World)(K:Frag)(mg:Str->Option Value)(base:Heap)(A:Around)(outer:List Env)(s:Shared)(H:Hp):Prop where
 frames:A.frames=some outer
 mod:Mod K mg base
 bs:∀ b o,base.get? b=some o->s.heap.get? b=some o/\H b=none
 xY:base.objs.size <= s.heap.objs.size
 vz:s.heap.FunFrames base outer
 yQ:∀ b ∈ nM outer,H b=none
 u1:vg P w H s.heap
 bare:AllBare s.gens
noncomputable def CE (outer:List Env)(P:Program)(w:World)(H:Hp)(s:Shared)(Q:VK)(u:Value)(s':Shared):Prop :=
 ∃ v H',s'.os=s.os/\AllBare s'.gens/\Un (nM outer) [] H H' s.heap s'.heap/\vg P w H' s'.heap/\RelV v u/\Q v H'
noncomputable def CR (CX:mU)(outer:List Env)(P:Program)(w:World)(H:Hp)(s:Shared)(Q:VK)(E:XK)(r:Result)(s':Shared):Prop :=
 match r with
 | .ok (.ret u)=>CE outer P w H s Q u s'
 | .ok _=>False
 | .error e=>CX outer H s E e s'
structure Z (P:Program)(w:World)(K:Frag)(mg:Str->Option Value)(base:Heap)(CX:mU)(k:Nat)(f:Addr)(fd:FuncData)(ps:List Str)(sp:Sp):Prop where
 len:∀ vs H Q E,sp vs H Q E->vs.length=ps.length
 run:∀ (A:Around)(outer:List Env)(s:Shared)(H:Hp)(args:Args)(us:List Value)(vs:List V)(Q:VK)(E:XK),u5 k A->wu P w K mg base A outer s H->BindsTo s fd args (ps.zip us)->Vals vs us->sp vs H Q E ->
  codeAny (model P w) A (.call (.ref f) args) (CR CX outer P w H s Q E) s
theorem Z.mono {P:Program}{w:World}{K:Frag}{mg:Str->Option Value}{base:Heap}{CX:mU}{j k:Nat}{f:Addr}{fd:FuncData}{ps:List Str}{sp:Sp}(F:Z P w K mg base CX j f fd ps sp)(h:j <= k) :
  Z P w K mg base CX k f fd ps sp:=⟨F.len,fun A outer s H args us vs Q E hr=>F.run A outer s H args us vs Q E (hr.mono h)⟩
theorem Z.imp {P:Program}{w:World}{K:Frag}{mg:Str->Option Value}{base:Heap}{CX:mU}{k:Nat}{f:Addr}{fd:FuncData}{ps:List Str}{sp A7:Sp}(F:Z P w K mg base CX k f fd ps sp)
  (h:∀ vs H Q E,A7 vs H Q E->sp vs H Q E):Z P w K mg base CX k f fd ps A7 :=
 ⟨fun vs H Q E q=>F.len vs H Q E (h _ _ _ _ q),fun A outer s H args us vs Q E hr he hb hv hs=>F.run A outer s H args us vs Q E hr he hb hv (h _ _ _ _ hs)⟩
theorem wu.make {P:Program}{w:World}{K:Frag}{mg:Str->Option Value}{base:Heap}{A:Around}{outer:List Env}{s:Shared}{H:Hp}(e:wu P w K mg base A outer s H)(C:Addr)(us:List Value)(kw:List (Str × Value)) :
  wu P w K mg base (A.under (.builtin "type.__call__" ⟨.ref C :: us,kw⟩)) outer s H:=⟨by first | exact e.frames | (simpa [Around.under,Code.envs,Code.isFrame,pushEnvs] using e.frames),e.mod,e.bs,e.xY,e.vz,e.yQ,e.u1,e.bare⟩
section
variable {X:Cx}{pins:List (Addr × Obj)}{σ:St}{H:Hp}{s s':Shared}
theorem Inv.A8 (I:Inv X pins σ H s):wu X.prog X.w X.K X.mg X.base X.A X.stack s H :=
 ⟨I.ok.frames,I.ok.mod,I.bs,le_trans I.ok.xY I.sz,I.stack,I.wJ,I.u1,I.bare⟩
theorem Inv.after {Q:VK}{u:Value}(I:Inv X pins σ H s)(h:CE X.stack X.prog X.w H s Q u s'):EP X pins σ Q u s':=by
 obtain⟨v,H',os,bare,un,u1,r,q⟩:=h
 obtain⟨hh,g,d,t,os'⟩:=s'
 obtain rfl:os' = s.os:=os
 exact⟨v,H',I.call (h':=hh) (g':=g) (d':=d) (t':=t) (ch:=[]) un u1 bare (fun b z=>absurd z (by simp)),r,q⟩
end
noncomputable def A9 (sp:Sp)(v5:List V)(E:XK)(t:TA):TE:=fun σ H Q=>t σ H fun vs H1=>sp (vs ++ v5) H1 Q E
noncomputable def AA (C:Addr)(m:Str)(sp:Sp)(v5:List V)(E:XK)(ta:TE)(t:TA):TE:=fun σ H Q=>ta σ H fun x H1=>∃ a dx fs,x = .ref a/\H1 a=some (.ins C dx fs)/\fs.lookup m=none /\
 t σ H1 fun vs H2=>sp (x :: (vs ++ v5)) H2 Q E
noncomputable def AB (C:Addr)(sp:Sp)(v5:List V)(E:XK)(t:TA):TE:=fun σ H Q=>t σ H fun vs H1=>∀ x dx,H1 x=none->H1 dx=none->dx ≠ x ->
 sp (.ref x :: (vs ++ v5)) (ar (ar H1 dx (.own x)) x (.ins C dx [])) (fun v H2=>v = .uB/\Q (.ref x) H2) E
noncomputable def Binds (K:Frag)(fd:FuncData)(ps:List Str)(ds:List Value):Prop :=
 ∀ (s:Shared)(us:List Value),K.In s.heap->(us ++ ds).length=ps.length->BindsTo s fd ⟨us,[]⟩ (ps.zip (us ++ ds))
theorem Binds.all {K:Frag}{fd:FuncData}{ps:List Str}(h:∀ us:List Value,us.length=ps.length->bindArgs fd ⟨us,[]⟩ = pure (ps.zip us)):Binds K fd ps []:=fun s us _ hl=>by
 rw[append_nil]at hl ⊢
 exact .of_eq (h us hl)
noncomputable def eR (CX:mU)(X:Cx)(E:XK):Prop:=∀ (pins:List (Addr × Obj))(σ:St)(H:Hp)(s:Shared)(e:Value)(s':Shared),Inv X pins σ H s->CX X.stack H s E e s'->X.xe e s'
section
variable {X:Cx}{CX:mU}{k:Nat}{f C:Addr}{fd:FuncData}{ps:List Str}{sp:Sp}{v5:List V}{ds:List Value}{E:XK}{x m:Str}{p pos apos:Pos}{e o:Expr}{es:List Expr}{ta:TE}{t:TA}
theorem lZ {pins:List (Addr × Obj)}{σ:St}{H:Hp}{s:Shared}{Q:VK}{us:List Value}{vs:List V}(F:Z X.prog X.w X.K X.mg X.base CX k f fd ps sp)(hr:u5 k X.A)(hb:Binds X.K fd ps ds)(hd:Vals v5 ds)(hx:eR CX X E)
  (I:Inv X pins σ H s) (r:Vals vs us) (h:sp (vs ++ v5) H Q E):wpAny (model X.prog X.w) X.A (call (.ref f) us) (EP X pins σ Q) X.xe s:=by
 have r2:Vals (vs ++ v5) (us ++ ds):=r.append hd
 have hl:(us ++ ds).length=ps.length:=by rw[← r2.length];exact F.len _ _ _ _ h
 refine wpAny_call (codeAny_mono (F.run X.A X.stack s H ⟨us,[]⟩ (us ++ ds) (vs ++ v5) Q E hr I.A8 (hb s us I.vt hl) r2 h) fun r s' hq=>?_)
 cases r with
 | error e=>exact hx pins σ H s e s' I hq
 | ok fl =>
  cases fl with
  | ret u=>exact I.after hq
  | next=>exact False.elim hq
  | brk=>exact False.elim hq
  | cont=>exact False.elim hq
theorem ap (F:Z X.prog X.w X.K X.mg X.base CX k f fd ps sp)(hr:u5 k X.A)(hg:Gl X x)(hm:X.mg x=some (.ref f))(hk:keepIn X.K (.ref f)=true)(hb:Binds X.K fd ps ds)(hd:Vals v5 ds)(hx:eR CX X E)
  (ha:PA X (e :: es) t) (yU:(x == ("__debug__":Str))=false:=by decide) (he:starEach (e :: es) X.env=(false,eval e X.env) :: starEach es X.env:=by rfl) (uK:(backTo pos (starEach es X.env)).any (·.1)=false:=by rfl) :
  PE X (.Call (.Name x p) (e :: es) [] pos) (A9 sp v5 E t):=by
 intro pins s σ H Q I h
 refine wpAny_Call_Name_kw (jK I hg hm ?_ yU)
 refine PySem.W.callWith_K (h₀:=X.base) I.ok.mod.zG hk (aU (ha pos pins s σ H _ I h) fun us s1 ⟨vs,H1,I1,r,q⟩=>⟨I1.vt,?_⟩) he uK
 exact lZ F hr hb hd hx I1 r q
theorem bz {pl:Sem Bool}(he:PE X o ta)(c:wo X.K C)(hm:jT X.K C m f)(F:Z X.prog X.w X.K X.mg X.base CX k f fd ps sp)(hr:u5 k X.A)(hb:Binds X.K fd ps ds)(hd:Vals v5 ds)(hx:eR CX X E)(ha:PA X (e :: es) t)
  (y2:starEach (e :: es) X.env=(false,eval e X.env) :: starEach es X.env:=by rfl) (uK:(backTo pos (starEach es X.env)).any (·.1)=false:=by rfl)
  (ht:eval (.Call (.Attribute o m apos) (e :: es) [] pos) X.env=(do
   let ov ← eval o X.env
   standAt apos.atName
   let (f,first) ← holding [ov] (getMethod ov m pl)
   callWith pos f first (backTo pos (starEach (e :: es) X.env)) (backToKw pos (keywordEach [] X.env))):=by rfl) :
  PE X (.Call (.Attribute o m apos) (e :: es) [] pos) (AA C m sp v5 E ta t):=by
 intro pins s σ H Q I h
 refine PySem.W.methodCall_KW (pl:=pl) (aU (he pins s σ H _ I h) fun u s1 uw=>?_) ht
 obtain⟨x,H1,I1,rx,a,dx,fs,ex,ea,l,q⟩:=uw
 subst ex
 obtain rfl:u=Value.ref a:=rx
 refine mN I1 ea c hm l ?_
 refine PySem.W.callWith_K (first:=[.ref a]) (h₀:=X.base) I.ok.mod.zG hm.kp (aU (ha pos pins s1 σ H1 _ I1 q) fun us s2 ⟨vs,H2,I2,r,q2⟩=>⟨I2.vt,?_⟩) y2 uK
 exact lZ (us := .ref a :: us) (vs := .ref a :: vs) F hr hb hd hx I2 (.cons rfl r) q2
structure Mk (K:Frag)(C f:Addr):Prop where
 makes:makesIn K C=true
 init:findIn K (.ref C) "__init__" = some (some (.ref f))
 fn:isFn K (.ref f)=true
 kp:keepIn K (.ref C)=true
theorem pD {pins:List (Addr × Obj)}{σ:St}{H:Hp}{s:Shared}{Q:VK}{us:List Value}{vs:List V}(M:Mk X.K C f)(F:Z X.prog X.w X.K X.mg X.base CX k f fd ps sp)(hr:u5 (k + 1) X.A)(hb:Binds X.K fd ps ds)(hd:Vals v5 ds)
  (hx:eR CX X E) (I:Inv X pins σ H s) (r:Vals vs us)
  (h:∀ x dx,H x=none->H dx=none->dx ≠ x->sp (.ref x :: (vs ++ v5)) (ar (ar H dx (.own x)) x (.ins C dx [])) (fun v H2=>v = .uB/\Q (.ref x) H2) E) :
  wpAny (model X.prog X.w) X.A (call (.ref C) us) (EP X pins σ Q) X.xe s:=by
 have hq:=h (s.heap.objs.size + 1) s.heap.objs.size (I.u1.fresh (le_succ _)) (I.u1.fresh (le_refl _)) (ne_of_lt (Nat.lt_succ_self _))
 have I2:=Inv.made (C:=C) I
 have r2:Vals (V.ref (s.heap.objs.size + 1) :: (vs ++ v5)) (Value.ref (s.heap.objs.size + 1) :: (us ++ ds)) := .cons rfl (r.append hd)
 have hl:(Value.ref (s.heap.objs.size + 1) :: us ++ ds).length=ps.length:=by
  have e:=r2.length
  rw[F.len _ _ _ _ hq]at e
  exact e.symm
 refine wpAny_call (qe (f:=f) I.vt M.makes M.init (beq_iff_eq.mp M.fn) (codeAny_mono (F.run _ X.stack _ _ ⟨Value.ref (s.heap.objs.size + 1) :: us,[]⟩ (Value.ref (s.heap.objs.size + 1) :: (us ++ ds)) _ _ E (hr.make C us [])
  (I2.A8.make C us []) (hb _ (Value.ref (s.heap.objs.size + 1) :: us) I2.vt hl) r2 hq) fun r s' AD=>?_))
 cases r with
 | error e=>exact hx pins σ _ _ e s' I2 AD
 | ok fl =>
  cases fl with
  | ret u =>
   obtain⟨v,H',I3,rv,ev,q3⟩:=I2.after AD
   subst ev
   exact⟨rv,⟨V.ref (s.heap.objs.size + 1),H',I3,rfl,q3⟩⟩
  | next=>exact False.elim AD
  | brk=>exact False.elim AD
  | cont=>exact False.elim AD
theorem dB (M:Mk X.K C f)(F:Z X.prog X.w X.K X.mg X.base CX k f fd ps sp)(hr:u5 (k + 1) X.A)(hg:Gl X x)(hm:X.mg x=some (.ref C))(hb:Binds X.K fd ps ds)(hd:Vals v5 ds)(hx:eR CX X E)
  (ha:PA X (e :: es) t) (yU:(x == ("__debug__":Str))=false:=by decide) (he:starEach (e :: es) X.env=(false,eval e X.env) :: starEach es X.env:=by rfl) (uK:(backTo pos (starEach es X.env)).any (·.1)=false:=by rfl) :
  PE X (.Call (.Name x p) (e :: es) [] pos) (AB C sp v5 E t):=by
 intro pins s σ H Q I h
 refine wpAny_Call_Name_kw (jK I hg hm ?_ yU)
 refine PySem.W.callWith_K (h₀:=X.base) I.ok.mod.zG M.kp (aU (ha pos pins s σ H _ I h) fun us s1 ⟨vs,H1,I1,r,q⟩=>⟨I1.vt,?_⟩) he uK
 exact pD M F hr hb hd hx I1 r q
end
section
variable {X:Cx}{CX:mU}{k:Nat}{f C:Addr}{fd:FuncData}{ps ks:List Str}{sp:Sp}{E:XK}{x m:Str}{p pos apos kpos:Pos}{e o:Expr}{es:List Expr}{kws:List Keyword}{te ta:TE}{t tk:TA}{nm:Option Str}
variable {g:List Value->List Value->List Value}{gV:List V->List V->List V}
end
structure aw (N P:List Str)(sc:Scope):Prop where
 kind:sc.kind = .function
 co:sc.isCoroutine=false
 gen:sc.isGenerator=false
 nd:N.Nodup
 pre:N.take P.length=P
 par:∀ x ∈ P,sc.names.lookup x=some .local∨sc.names.lookup x=some .cell
 yV:∀ y ∈ sc.names,y.2 ≠ .free
theorem jm {kindOf:Str->Option NameKind}{x:Str}:∀ {binds:List (Str × Value)}{m:Str->Option Value},(∀ v,(x,v) ∉ binds)->bindL kindOf binds m x=m x
 | [],_,_=>rfl
 | (n,v) :: r,m,h=>by
  unfold bindL
  rw[jm fun w hw=>h w (mem_cons_of_mem _ hw)]
  split
  ·have:x ≠ n:=by rintro rfl;exact h v mem_cons_self
   simp[this]
  ·rfl
theorem jo {kindOf:Str->Option NameKind}{x:Str}:∀ {binds:List (Str × Value)}{m:Str->Option Value},(∀ v,(x,v) ∉ binds)->bindC kindOf binds m x=m x
 | [],_,_=>rfl
 | (n,v) :: r,m,h=>by
  unfold bindC
  rw[jo fun w hw=>h w (mem_cons_of_mem _ hw)]
  split
  ·rfl
  ·have:x ≠ n:=by rintro rfl;exact h v mem_cons_self
   simp[this]
theorem jn {kindOf:Str->Option NameKind}{x:Str}{v:Value}:∀ {P:List Str}{vs:List Value}{i:Nat}{m:Str->Option Value},P.Nodup->P[i]? = some x->vs[i]? = some v->kindOf x=some .local ->
  bindL kindOf (P.zip vs) m x=some v
 | [],_,_,_,_,h,_,_=>by simp at h
 | _ :: _,[],_,_,_,_,h,_=>by simp at h
 | p :: P,w :: vs,0,m,nd,h1,h2,hk=>by
  simp at h1 h2;subst h1;subst h2
  show bindL kindOf ((p,w) :: P.zip vs) m p=_
  unfold bindL
  rw[jm fun v hv=>(nodup_cons.mp nd).1 (of_mem_zip hv).1,if_pos hk]
  simp
 | p :: P,w :: vs,i + 1,m,nd,h1,h2,hk=>by
  show bindL kindOf ((p,w) :: P.zip vs) m x=_
  unfold bindL
  exact jn (i:=i) (nodup_cons.mp nd).2 (by simpa using h1) (by simpa using h2) hk
theorem jp {kindOf:Str->Option NameKind}{x:Str}{v:Value}:∀ {P:List Str}{vs:List Value}{i:Nat}{m:Str->Option Value},P.Nodup->P[i]? = some x->vs[i]? = some v->kindOf x ≠ some .local ->
  bindC kindOf (P.zip vs) m x=some v
 | [],_,_,_,_,h,_,_=>by simp at h
 | _ :: _,[],_,_,_,_,h,_=>by simp at h
 | p :: P,w :: vs,0,m,nd,h1,h2,hk=>by
  simp at h1 h2;subst h1;subst h2
  show bindC kindOf ((p,w) :: P.zip vs) m p=_
  unfold bindC
  rw[jo fun v hv=>(nodup_cons.mp nd).1 (of_mem_zip hv).1,if_neg hk]
  simp
 | p :: P,w :: vs,i + 1,m,nd,h1,h2,hk=>by
  show bindC kindOf ((p,w) :: P.zip vs) m x=_
  unfold bindC
  exact jp (i:=i) (nodup_cons.mp nd).2 (by simpa using h1) (by simpa using h2) hk
noncomputable def gh (N:List Str)(vs:List V):St:=vs.map some ++ List.replicate (N.length - vs.length) none
noncomputable def oR (CX:mU)(P:Program)(w:World)(K:Frag)(mg:Str->Option Value)(base:Heap)(N:List Str)(qual:Str)(scope:Scope)(f:Addr)(cd:Value)(A:Around)(outer:List Env)(s:Shared)(H:Hp)(E:XK):Cx where
 prog:=P
 w:=w
 K:=K
 mg:=mg
 base:=base
 A:=A.deeper (envOfC qual scope s.heap.objs.size f cd)
 N:=N
 s₀:=s
 H₀:=H
 env:=envOfC qual scope s.heap.objs.size f cd
 outer:=outer
 stack:=envOfC qual scope s.heap.objs.size f cd :: outer
 ex:=[]
 calm:=true
 fn:=fun _=>true
 pn:=[]
 xe:=fun e s'=>wpAny (model P w) (A.deeper (envOfC qual scope s.heap.objs.size f cd)) (leaving (envOfC qual scope s.heap.objs.size f cd) e) (fun _ AE=>CX outer H s E e AE) (fun e' AE=>CX outer H s E e' AE) s'
theorem lj {sc:Scope}{n:Nat}{x:Str}(h:sc.names.lookup x=some .cell):∃ c,(cellsFrom n sc.names []).lookup x=some c:=by
 have q:=PySem.W.cellsFrom_some sc.names n [] (.inl h)
 exact Option.isSome_iff_exists.mp q
theorem oI {CX:mU}{P:Program}{w:World}{K:Frag}{mg:Str->Option Value}{base:Heap}{N ps:List Str}{qual:Str}{scope:Scope}{f:Addr}{cd:Value}{A:Around}{outer:List Env}{s s1:Shared}{H:Hp}{E:XK}{us:List Value}{vs:List V}
  (S:aw N ps scope) (hd:A.handled=none) (e0:wu P w K mg base A outer s H) (hl:vs.length=ps.length) (r:Vals vs us)
  (x:InCallC s s.heap.objs.size (bindL (envOfC qual scope s.heap.objs.size f cd).kindOf (ps.zip us) fun _=>none) (cellsFrom (s.heap.objs.size + 1) scope.names []) (bindC (envOfC qual scope s.heap.objs.size f cd).kindOf (ps.zip us) fun _=>none) s1) :
  Inv (oR CX P w K mg base N qual scope f cd A outer s H E) [] (gh N vs) H s1:=by
 have uK:ps.length <= N.length:=by have:=congrArg List.length S.pre;rw[length_take]at this;omega
 obtain⟨h1,tk,rfl,hk⟩:=x.done
 have AF:∀ b:Addr,b ∉ (oR CX P w K mg base N qual scope f cd A outer s H E).ex:=fun b z=>absurd (show b ∈ ([]:List Addr) from z) (by simp)
 refine⟨⟨e0.mod,S.kind,rfl,rfl,le_refl _,fun y z c h1 h2=>?_,fun y hy=>?_,fun y c _ h=>?_,fun _=>hd,Around.frames_deeper e0.frames, .inr ⟨rfl,rfl⟩,fun b z=>absurd z (AF b),e0.bs,e0.xY,fun b _ _=>AF b,fun b z=>absurd z (AF b),e0.vz,e0.yQ⟩,
  rfl,e0.bare,Un.kept hk,⟨_,x.toInCall.ns,fun i y v h1 h2 h3=>?_⟩,fun y c h=>⟨_,x.cell y c h⟩,e0.u1.fresh (le_refl _),fun y c h=>?_,fun p hp=>absurd (show p ∈ ([]:List (Addr × Obj)) from hp) (by simp),e0.u1.kept hk,?_⟩
 ·exact name_of_addr x.apart (PySem.mem_of_lookup h1) (PySem.mem_of_lookup h2)
 ·have hy:scope.names.lookup y=some .cell∨scope.names.lookup y=some .free:=hy
  rcases hy with hy | hy
  ·exact lj hy
  ·exact absurd rfl (S.yV _ (PySem.mem_of_lookup hy))
 ·exact le_of_lt (x.above y c (PySem.mem_of_lookup h))
 ·have hi:i < vs.length:=by
   unfold gh at h2
   by_cases hi:i < vs.length
   ·exact hi
   ·rw[List.getElem?_append_right (by simpa using hi)]at h2
    rw[List.getElem?_replicate]at h2
    split at h2<;>cases h2
  have ha:vs[i]? = some v:=by
   unfold gh at h2
   rw[List.getElem?_append_left (by simpa using hi),List.getElem?_map]at h2
   cases e:vs[i]? with
   | none=>rw[e]at h2;cases h2
   | some a=>rw[e]at h2;cases h2;rfl
  obtain⟨u,hu,rv⟩:=r.get ha
  have hp:ps[i]? = some y:=by
   rw[← S.pre,List.getElem?_take_of_lt (by omega)];exact h1
  have HN:ps.Nodup:=by rw[← S.pre];exact S.nd.sublist (List.take_sublist _ _)
  refine⟨u,rv,?_⟩
  rcases S.par y (mem_of_getElem? hp) with k | k
  ·exact .inl ⟨k,jn HN hp hu k⟩
  ·obtain⟨c,e⟩:=lj (n:=s.heap.objs.size + 1) k
   refine .inr ⟨.inl k,c,e,?_⟩
   have q:=x.cell y c e
   rw[jp HN hp hu (by show scope.names.lookup y ≠ _;rw[k];decide)]at q
   exact q
 ·exact e0.u1.fresh (le_of_lt (x.above y c (PySem.mem_of_lookup h)))
 ·unfold gh
  show _=N.length
  rw[length_append,length_map,List.length_replicate]
  omega
theorem AG {CX:mU}{P:Program}{w:World}{K:Frag}{mg:Str->Option Value}{base:Heap}{k:Nat}{f:Addr}{name qual:Str}{params:Arguments}{body:List Stmt}{scope:Scope}{dV kV doc pm uF ct oc:Value}{an od:Option Addr}
  {xv:Array (Option Value)} {N ps:List Str} {sp:Sp} (lk:K.lookup f=some ⟨oc,od, .func (fnOf name qual params body scope dV kV doc pm an uF ct),xv⟩) (wL:codeIn K uF qual=true) (S:aw N ps scope)
  (len:∀ vs H Q E,sp vs H Q E->vs.length=ps.length)
  (xw:∀ (A:Around)(outer:List Env)(s:Shared)(H:Hp)(vs:List V)(Q:VK)(E:XK),u5 k (A.deeper (envOfC qual scope s.heap.objs.size f uF))->sp vs H Q E ->
   ∃ t,wK (oR CX P w K mg base N qual scope f uF A outer s H E) body t/\t { nx:=fun _ H'=>Q .uB H',rt:=Q } (gh N vs) H) :
  Z P w K mg base CX (k + 1) f (fnOf name qual params body scope dV kV doc pm an uF ct) ps sp:=by
 refine⟨len,fun A outer s H args us vs Q E hr e0 hb r y3=>?_⟩
 have hl:=len _ _ _ _ y3
 have KX:K.In s.heap:=e0.mod.zG.keeps fun b o e=>(e0.bs b o e).1
 have lim:s.heap.NoLimit:=e0.mod.nolimit.keeps fun b o e=>(e0.bs b o e).1
 have AH:∀ y ∈ ps.zip us,scope.names.lookup y.1=some .local∨(scope.names.lookup y.1=some .cell/\((cellsFrom (s.heap.objs.size + 1) scope.names []).lookup y.1).isSome=true):=fun⟨n,v⟩ hy=>by
  rcases S.par n (of_mem_zip hy).1 with q | q
  ·exact .inl q
  ·exact .inr ⟨q,PySem.W.cellsFrom_some _ _ _ (.inl q)⟩
 refine codeAny_call_function hr.depth (KX _ _ lk) rfl S.co S.gen rfl (PySem.W.codeRec_of KX wL) (hb _ _ _ _ ?_)
 refine wpAny_newFunctionEnv_cells S.kind AH fun env he s1 x=>?_
 subst he
 refine⟨lim.keeps x.toInCall.keep,codeAny_func ?_⟩
 obtain⟨t,ht,hq⟩:=xw A outer s H vs Q E (hr.deeper _) y3
 have I:Inv (oR CX P w K mg base N qual scope f uF A outer s H E) [] (gh N vs) H s1:=oI S hr.hd e0 hl r x
 refine wpAny_mono (ht [] s1 (gh N vs) H _ I hq) (fun fl s' hs=>?_) fun e s' hs=>hs
 have fin:∀ {σ':St}{H':Hp}{v:V}{u:Value},Inv (oR CX P w K mg base N qual scope f uF A outer s H E) [] σ' H' s'->RelV v u->Q v H'->CE outer P w H s Q u s' :=
  fun {σ' H' v u} J rv q=>⟨v,H',J.os,J.bare,J.base,J.u1,rv,q⟩
 cases fl with
 | ret u =>
  obtain⟨v,σ',H',J,rv,q⟩:=hs
  exact fin J rv q
 | next =>
  obtain⟨σ',H',J,q⟩:=hs
  exact fin (v:=V.uB) (u:=Value.none) J rfl q
 | brk =>
  obtain⟨_,_,_,q⟩:=hs
  exact False.elim q
 | cont =>
  obtain⟨_,_,_,q⟩:=hs
  exact False.elim q
end L2
namespace L2
open PySem PySem.Spec PyProof.Rows
section
variable {X:Cx}{x:Str}{p pos:Pos}{e:Expr}{es:List Expr}{t:TA}{id T:String}{r:List V->Hp->VK->Prop}
noncomputable def HP (r:List V->Hp->VK->Prop)(t:TA):TE:=fun σ H Q=>t σ H fun vs H1=>r vs H1 Q
theorem aM (hc:uL X (.builtin id) r)(hg:Gl X x)(hm:X.mg x=none)(hv:bootBuiltins x=some (.builtin id))(ha:PA X (e :: es) t)(hn:x ≠ "__name__":=by decide)(yU:(x == ("__debug__":Str))=false:=by decide)
  (he:starEach (e :: es) X.env=(false,eval e X.env) :: starEach es X.env:=by rfl) (uK:(backTo pos (starEach es X.env)).any (·.1)=false:=by rfl):PE X (.Call (.Name x p) (e :: es) [] pos) (HP r t):=by
 intro pins s σ H Q I h
 refine wpAny_Call_Name_kw (fX I hg hm hv ?_ hn yU)
 exact PyProof.Rows.callWith_builtin1 (aU (ha pos pins s σ H _ I h) fun us s1 uw=>by obtain⟨vs,H1,I1,r1,q1⟩:=uw;exact hc pins s1 σ H1 vs us Q I1 r1 q1) he uK
theorem aZ (hc:uL X (.type T) r)(hg:Gl X x)(hm:X.mg x=none)(hv:bootBuiltins x=some (.type T))(ha:PA X (e :: es) t)(hn:x ≠ "__name__":=by decide)(yU:(x == ("__debug__":Str))=false:=by decide)
  (he:starEach (e :: es) X.env=(false,eval e X.env) :: starEach es X.env:=by rfl) (uK:(backTo pos (starEach es X.env)).any (·.1)=false:=by rfl):PE X (.Call (.Name x p) (e :: es) [] pos) (HP r t):=by
 intro pins s σ H Q I h
 refine wpAny_Call_Name_kw (fX I hg hm hv ?_ hn yU)
 exact PyProof.Rows.callWith_type1 (aU (ha pos pins s σ H _ I h) fun us s1 uw=>by obtain⟨vs,H1,I1,r1,q1⟩:=uw;exact hc pins s1 σ H1 vs us Q I1 r1 q1) he uK
end
end L2
namespace HT
open PySem PyProof.Rows
section
open PySem.SeqAt
open PySem.AutoSeq1 (wpAny_loadPart')
open PySem.MeetsSeq PySem.MeetsSeq2 PySem.MeetsSeq3
end
section
variable {prog:Program}{w:World}{A:Around}{E:Value->Shared->Prop}{s:Shared}
noncomputable def vB (n d:Nat):Option Int->Nat
 | none=>d
 | some v=>if v < 0 then (v + (n:Int)).toNat else min v.toNat n
end
end HT
namespace L2
open PySem PySem.Spec PyProof.Rows
abbrev TO:=St->Hp->(Option Int->Hp->Prop)->Prop
noncomputable def PO (X:Cx)(e:Option Expr)(t:TO):Prop :=
 ∀ (pins:List (Addr × Obj))(s:Shared)(σ:St)(H:Hp)(Q:Option Int->Hp->Prop),Inv X pins σ H s->t σ H Q ->
  wpAny (model X.prog X.w) X.A (evalPart e X.env) (fun u s'=>∃ o H',Inv X pins σ H' s'/\IsPart u o/\Q o H') X.xe s
noncomputable def qO:TO:=fun _ H Q=>Q none H
noncomputable def AI (t:TE):TO:=fun σ H Q=>t σ H fun x H1=>∃ i,x = .int i/\Q (some i) H1
section
variable {X:Cx}{e:Expr}{te:TE}{lo hi:Option Expr}{tl th:TO}{pos p2:Pos}
theorem jA:PO X none qO:=by
 intro pins s σ H Q I h
 rw[evalPart_none]
 exact wpAny_pure ⟨none,H,I, .none,h⟩
theorem j9 (h:PE X e te):PO X (some e) (AI te):=by
 intro pins s σ H Q I hw
 rw[evalPart_some]
 refine aU (h pins s σ H _ I hw) fun u s1 uw=>?_
 obtain⟨x,H1,I1,r1,q1⟩:=uw
 obtain⟨i,rfl,q⟩:=q1
 obtain⟨t,rfl⟩:=r1
 exact⟨some i,H1,I1, .int i t,q⟩
noncomputable def Ef (X:Cx)(r:V->Option Int->Option Int->Hp->VK->Prop):Prop :=
 ∀ (pins:List (Addr × Obj))(s:Shared)(σ:St)(H:Hp)(x:V)(v vl vu:Value)(lo hi:Option Int)(sl:Addr)(Q:VK),Inv X pins σ H s->RelV x v->s.heap.IsSliceOf sl vl vu .none->IsPart vl lo->IsPart vu hi->r x lo hi H Q ->
  ∃ T id,typeLookup (.type T) "__getitem__" = pure (some (.builtin id))/\s.TypeIs v T/\wpAny (model X.prog X.w) X.A (getItem v (.ref sl)) (EP X pins σ Q) X.xe s
noncomputable def tSl (r:V->Option Int->Option Int->Hp->VK->Prop)(te:TE)(tl th:TO):TE:=fun σ H Q=>te σ H fun x H1=>tl σ H1 fun l H2=>th σ H2 fun u H3=>r x l u H3 Q
theorem iy {r:V->Option Int->Option Int->Hp->VK->Prop}(hr:Ef X r)(he:PE X e te)(hl:PO X lo tl)(hu:PO X hi th):PE X (.Subscript e (.Slice lo hi none p2) pos) (tSl r te tl th):=by
 intro pins s σ H Q I h
 refine Subscript_ (aU (he pins s σ H _ I h) fun v s1 uw=>?_)
 obtain⟨x,H1,I1,r1,q1⟩:=uw
 refine wpAny_Slice (aU (hl pins s1 σ H1 _ I1 q1) fun vl s2 ⟨l,H2,I2,pl,q2⟩=>aU (hu pins s2 σ H2 _ I2 q2) fun vu s3 uw=>?_)
 obtain⟨u,H3,I3,pu,q3⟩:=uw
 rw[evalPart_none]
 refine wpAny_pure ?_
 have I4:Inv X pins σ H3 { s3 with heap:=s3.heap.push { cls := .type "slice",data := .fields #[vl,vu, .none] } }:=I3.kept (t':=s3.toks) fun b ob q=>Heap.get?_push_of_some _ q
 obtain⟨T,id,hT,ht,hg⟩:=hr pins { s3 with heap:=s3.heap.push { cls := .type "slice",data := .fields #[vl,vu, .none] } } σ H3 x v vl vu l u s3.heap.objs.size Q I4 r1 (Heap.IsSliceOf.new ..) pl pu q3
 show wpAny (model X.prog X.w) X.A (subscriptTail e (.Slice lo hi none p2) v (.ref s3.heap.objs.size)) (EP X pins σ Q) X.xe { s3 with heap:=s3.heap.push { cls := .type "slice",data := .fields #[vl,vu, .none] } }
 exact tail_any (ops:=[.ref s3.heap.objs.size,v]) ht hT hg (by with_unfolding_all rfl)
noncomputable def iR (xs:List V)(lo hi:Option Int):List V:=(xs.drop (HT.vB xs.length 0 lo)).take (HT.vB xs.length xs.length hi - HT.vB xs.length 0 lo)
theorem lc (xs:List V)(lo hi:Option Int):(iR xs lo hi).length <= xs.length:=by
 unfold iR
 rw[length_take,List.length_drop]
 omega
end
end L2
namespace L2
open PySem PySem.Spec PyProof.Rows
noncomputable def sr (n:Nat)(i:Int):Option Nat:=if 0 <= i then (if i < n then some i.toNat else none) else if -(n:Int) <= i then some (i + n).toNat else none
noncomputable def nZ {α:Type}(xs:List α)(i:Int):Option α:=(sr xs.length i).bind fun j=>xs[j]?
theorem rJ {n:Nat}{i:Int}{j:Nat}(h:sr n i=some j):seqIndex? i n=some j/\j < n/\-(n:Int) <= i/\i < n:=by
 unfold sr at h
 by_cases h0:0 <= i
 ·rw[if_pos h0]at h
  by_cases h1:i < n
  ·rw[if_pos h1]at h
   have e:i.toNat=j:=Option.some.inj h
   exact⟨by rw[seqIndex_of h0 h1,e],by omega,by omega,h1⟩
  ·rw[if_neg h1]at h;cases h
 ·rw[if_neg h0]at h
  by_cases h1:-(n:Int) <= i
  ·rw[if_pos h1]at h
   have e:(i + n).toNat=j:=Option.some.inj h
   exact⟨by rw[seqIndex_neg (by omega) h1,e],by omega,h1,by omega⟩
  ·rw[if_neg h1]at h;cases h
theorem nY {α:Type}{xs:List α}{i:Int}{v:α}(h:nZ xs i=some v):∃ j,seqIndex? i xs.length=some j/\xs[j]? = some v/\j < xs.length/\-(xs.length:Int) <= i/\i < xs.length:=by
 unfold nZ at h
 cases e:sr xs.length i with
 | none=>rw[e]at h;cases h
 | some j =>
  rw[e]at h
  obtain⟨h1,h2,h3,h4⟩:=rJ e
  exact⟨j,h1,h,h2,h3,h4⟩
theorem aB {α:Type}{xs:List α}{j:Nat}{v:α}(h:xs[j]? = some v):nZ xs (j:Int)=some v:=by
 have hj:j < xs.length:=(List.getElem?_eq_some_iff.mp h).1
 have e:sr xs.length (j:Int)=some j:=by
  unfold sr
  rw[if_pos (by omega),if_pos (by omega)];simp
 unfold nZ;rw[e];exact h
theorem qB {α:Type}(xs:List α)(v:α):nZ (xs ++ [v]) (-1)=some v:=by
 have hl:(xs ++ [v]).length=xs.length + 1:=by simp
 have e:sr (xs ++ [v]).length (-1)=some xs.length:=by
  unfold sr
  rw[hl,if_neg (by decide),if_pos (by omega)]
  congr 1
  omega
 unfold nZ
 rw[e]
 show(xs ++ [v])[xs.length]? = some v
 simp
noncomputable def rY (b:Expr):Prop:=∀ o i,subscripted b false o i=operate [o,i] (getItem o i)
noncomputable def jq (X:Cx)(r:R2):Prop :=
 ∀ (value slice:Expr)(pins:List (Addr × Obj))(s:Shared)(σ:St)(H:Hp)(x y:V)(v u:Value)(Q:VK),Inv X pins σ H s->RelV x v->RelV y u->r x y H Q ->
  subscripted slice false v u=operate [v,u] (getItem v u)->wpAny (model X.prog X.w) X.A (subscriptTail value slice v u) (EP X pins σ Q) X.xe s
noncomputable def Eg (X:Cx)(id:String)(r:V->List V->Hp->VK->Prop):Prop :=
 ∀ (pins:List (Addr × Obj))(s:Shared)(σ:St)(H:Hp)(x:V)(xs:List V)(v:Value)(us:List Value)(Q:VK),Inv X pins σ H s->RelV x v->Vals xs us->r x xs H Q ->
  wpAny (model X.prog X.w) X.A (call (.builtin id) (v :: us)) (EP X pins σ Q) X.xe s
section
variable {X:Cx}{a b:Expr}{ta tb:TE}{pos:Pos}
theorem aJ {r:R2}(hr:jq X r)(ha:PE X a ta)(hb:PE X b tb)(hs:rY b):PE X (.Subscript a b pos) (Cy r ta tb):=by
 intro pins s σ H Q I h
 exact Subscript_ (uh ha hb I h fun v u s2 x y H2 I2 rx ry q=>hr a b pins s2 σ H2 x y v u Q I2 rx ry q (hs _ _))
noncomputable def kq (K:Frag):R2:=fun x y H Q=>∃ p xs i v,x = .ref p/\y = .int i/\ux K H p xs/\nZ xs i=some v/\Q v H
noncomputable def ir (K:Frag):R2:=fun x y H Q=>∃ p xs i v,x = .ref p/\y = .int i/\uE K H p xs/\nZ xs i=some v/\Q v H
theorem bc:jq X (kq X.K):=by
 intro value slice pins s σ H x y v u Q I rx ry h hs
 obtain⟨p,xs,i,z,rfl,rfl,hq,he,q⟩:=h
 cases rx
 obtain⟨t,rfl⟩:=ry
 obtain⟨uy,r,pl,hz⟩:=I.list hq
 obtain⟨j,h1,h2,h3,h4,h5⟩:=nY he
 obtain⟨w,ew,xx⟩:=r.get h2
 have hl:=r.length
 have hn:=i8
 have fin:EP X pins σ Q w s:=⟨z,H,I,xx,q⟩
 by_cases h0:0 <= i
 ·have hj:i.toNat=j:=by
   rw[seqIndex_of h0 h5]at h1
   exact Option.some.inj h1
  exact item_listR pl.isList h0 (by omega) (by rw[hj];simpa using ew) fin hs
 ·have hj:(i + (uy.toArray.size:Int)).toNat=j:=by
   rw[seqIndex_neg (by omega) h4]at h1
   rw[size_toArray,← hl]
   exact Option.some.inj h1
  exact subscriptTail_builtinR (x:=w) pl.isList.typeIs slot_list_getitem.lookup
   (wpAny_getItem_list_neg (Q:=fun r s'=>r=w/\EP X pins σ Q r s') pl.isList (by omega) (by rw[size_toArray]<;>omega) (by omega) (by rw[hj];simpa using ew) ⟨rfl,fin⟩) hs
theorem aW:jq X (ir X.K):=by
 intro value slice pins s σ H x y v u Q I rx ry h hs
 obtain⟨p,xs,i,z,rfl,rfl,hq,he,q⟩:=h
 cases rx
 obtain⟨t,rfl⟩:=ry
 obtain⟨uy,r,pl,hz⟩:=I.tuple hq
 obtain⟨j,h1,h2,h3,h4,h5⟩:=nY he
 obtain⟨w,ew,xx⟩:=r.get h2
 have hl:=r.length
 have hn:=i8
 have fin:EP X pins σ Q w s:=⟨z,H,I,xx,q⟩
 exact subscriptTail_builtinR (x:=w) pl.typeIs slot_tuple_getitem.lookup
  (getItem_tuple (j:=j) (Q:=fun r s'=>r=w/\EP X pins σ Q r s') pl (by omega) (by omega) (by rw[size_toArray,← hl];exact h1) (by simpa using ew) ⟨rfl,fin⟩) hs
theorem j3 (lo hi:Option Int)(n:Nat):(sliceBounds lo hi none n).1=((HT.vB n 0 lo:Nat):Int)/\(sliceBounds lo hi none n).2.1=((HT.vB n n hi:Nat):Int)/\(sliceBounds lo hi none n).2.2=1:=by
 refine⟨?_,?_,rfl⟩
 ·cases lo with
  | none=>simp[sliceBounds,HT.vB]
  | some i =>
   simp only[sliceBounds,HT.vB,Option.getD_none,show (1:Int) > 0 by decide,if_true]
   by_cases h:i < 0
   ·simp only[h,if_true]<;>omega
   ·simp only[h,if_false]<;>omega
 ·cases hi with
  | none=>simp[sliceBounds,HT.vB]
  | some i =>
   simp only[sliceBounds,HT.vB,Option.getD_none,show (1:Int) > 0 by decide,if_true]
   by_cases h:i < 0
   ·simp only[h,if_true]<;>omega
   ·simp only[h,if_false]<;>omega
theorem iO (uy:List Value)(lo hi:Option Int):slicePick uy.toArray lo hi none=((uy.drop (HT.vB uy.length 0 lo)).take (HT.vB uy.length uy.length hi - HT.vB uy.length 0 lo)).toArray:=by
 obtain⟨h1,h2,h3⟩:=j3 lo hi uy.toArray.size
 unfold slicePick
 rw[h1,h2,h3]
 simp only[sliceRange_one,pick_run,size_toArray]<;>rfl
noncomputable def AJ (K:Frag):V->Option Int->Option Int->Hp->VK->Prop:=fun x lo hi H Q=>∃ a xs,x = .ref a/\ux K H a xs/\∀ p,H p=none->Q (.ref p) (ar H p (.lst (iR xs lo hi)))
theorem j4:Ef X (AJ X.K):=by
 intro pins s σ H x v vl vu lo hi sl Q I rx hs pl pu h
 obtain⟨a,xs,rfl,hx,q⟩:=h
 cases rx
 obtain⟨uy,r,ht,hz⟩:=I.list hx
 have hlen:=r.length
 refine⟨"list",_,slot_list_getitem.lookup,ht.isList.typeIs,?_⟩
 refine wpAny_getItem_list_slice ht.isList hs pl pu .none (by simp) ?_ (by rw[size_toArray]<;>omega)
 rw[iO,← hlen]
 refine⟨.ref s.heap.objs.size,_,I.laid (t':=s.toks) (o := .lst (iR xs lo hi)) (fun b ob q=>Heap.get?_push_of_some _ q) (le_refl _) ?_,rfl,q _ (I.u1.fresh (le_refl _))⟩
 exact⟨le_trans (lc xs lo hi) hz,_,0,(r.drop (HT.vB xs.length 0 lo)).take (HT.vB xs.length xs.length hi - HT.vB xs.length 0 lo),Heap.get?_push_size _ rfl⟩
noncomputable def eD:V->Bool
 | .uB=>true
 | .bl _=>true
 | .int _=>true
 | .str _=>true
 | _=>false
noncomputable def sv:V->V->Bool
 | .uB, .uB=>true
 | .bl a, .bl b=>a == b
 | .bl a, .int b=>(if a then 1 else 0) == b
 | .int a, .bl b=>a == (if b then 1 else 0)
 | .int a, .int b=>a == b
 | .str a, .str b=>a == b
 | _,_=>false
theorem ua {A:Around}{s:Shared}{y x:V}{u v:Value}(ry:RelV y u)(rx:RelV x v)(fy:eD y=true)(fx:eD x=true):SeqAt.EqAt A s u v (sv y x):=by
 cases y with
 | uB =>
  cases ry
  cases x with
  | uB=>cases rx;exact SeqAt.EqAt.same _
  | bl b=>cases rx;exact SeqAt.EqAt.none_bool b
  | int b=>obtain⟨t,rfl⟩:=rx;exact SeqAt.EqAt.none_int b t
  | str b=>obtain⟨t,rfl⟩:=rx;exact SeqAt.EqAt.none_str b t
  | _=>exact absurd (show false=true from fx) Bool.false_ne_true
 | bl a =>
  cases ry
  cases x with
  | uB=>cases rx;exact SeqAt.EqAt.bool_none a
  | bl b=>cases rx;exact SeqAt.EqAt.bool_bool a b
  | int b=>obtain⟨t,rfl⟩:=rx;exact SeqAt.EqAt.bool_int a b t
  | str b=>obtain⟨t,rfl⟩:=rx;exact SeqAt.EqAt.bool_str a b t
  | _=>exact absurd (show false=true from fx) Bool.false_ne_true
 | int a =>
  obtain⟨t',rfl⟩:=ry
  cases x with
  | uB=>cases rx;exact SeqAt.EqAt.int_none a t'
  | bl b=>cases rx;exact SeqAt.EqAt.int_bool a t' b
  | int b=>obtain⟨t,rfl⟩:=rx;exact SeqAt.EqAt.int_int a t' b t
  | str b=>obtain⟨t,rfl⟩:=rx;exact SeqAt.EqAt.int_str a t' b t
  | _=>exact absurd (show false=true from fx) Bool.false_ne_true
 | str a =>
  obtain⟨t',rfl⟩:=ry
  cases x with
  | uB=>cases rx;exact SeqAt.EqAt.str_none a t'
  | bl b=>cases rx;exact SeqAt.EqAt.str_bool a t' b
  | int b=>obtain⟨t,rfl⟩:=rx;exact SeqAt.EqAt.str_int a t' b t
  | str b=>obtain⟨t,rfl⟩:=rx;exact SeqAt.EqAt.str_str a t' b t
  | _=>exact absurd (show false=true from fx) Bool.false_ne_true
 | _=>exact absurd (show false=true from fy) Bool.false_ne_true
noncomputable def rQ (x:V)(u:Value):Bool:=match u with
 | .none=>sv .uB x
 | .bool b=>sv (.bl b) x
 | .int i _=>sv (.int i) x
 | .str z _=>sv (.str z) x
 | _=>false
theorem qq {x y:V}{u:Value}(r:RelV y u)(f:eD y=true):rQ x u=sv y x:=by
 cases y with
 | uB=>cases r;rfl
 | bl b=>cases r;rfl
 | int i=>obtain⟨t,rfl⟩:=r;rfl
 | str z=>obtain⟨t,rfl⟩:=r;rfl
 | _=>exact absurd (show false=true from f) Bool.false_ne_true
theorem jS {x:V}:∀ {xs:List V}{us:List Value},Vals xs us->xs.all eD=true->us.any (rQ x)=xs.any fun y=>sv y x
 | _,_, .nil,_=>rfl
 | y :: xs,u :: us, .cons r t,f=>by
  rw[all_cons,Bool.and_eq_true]at f
  rw[any_cons,any_cons,qq r f.1,jS t f.2]
theorem i7 {A:Around}{s:Shared}{x:V}{v:Value}(rx:RelV x v)(fx:eD x=true):∀ {xs:List V}{us:List Value},Vals xs us->xs.all eD=true->∀ u ∈ us,SeqAt.EqAt A s u v (rQ x u)
 | _,_, .nil,_=>fun u hu=>by cases hu
 | y :: xs,u :: us, .cons r t,f=>fun u' hu=>by
  rw[all_cons,Bool.and_eq_true]at f
  rcases mem_cons.mp hu with rfl | hu
  ·rw[qq r f.1];exact ua r rx f.1 fx
  ·exact i7 rx fx t f.2 u' hu
noncomputable def ss (x:V)(xs:List V):Bool:=xs.any fun y=>sv y x
noncomputable def HQ (K:Frag)(neg:Bool):R2:=fun x y H Q=>∃ p xs,y = .ref p/\(ux K H p xs∨uE K H p xs)/\eD x=true/\xs.all eD=true/\Q (.bl (if neg then !ss x xs else ss x xs)) H
theorem jc:dI X (compareOp .In) (HQ X.K false):=by
 intro pins s σ H x y v u Q I rx ry h
 obtain⟨p,xs,rfl,hq,fx,fs,q⟩:=h
 cases ry
 rcases hq with hq | hq
 ·obtain⟨uy,r,pl,hz⟩:=I.list hq
  refine SeqAt.in_listAt (rQ x) pl.isList (fun w hw=>i7 rx fx r fs w (by simpa using hw)) ⟨.bl _,H,I,rfl,?_⟩
  rw[show uy.toArray.any (rQ x)=uy.any (rQ x) by simp,jS r fs]
  exact q
 ·obtain⟨uy,r,pl,hz⟩:=I.tuple hq
  refine SeqAt.in_tupleAt (rQ x) pl (fun w hw=>i7 rx fx r fs w (by simpa using hw)) ⟨.bl _,H,I,rfl,?_⟩
  rw[show uy.toArray.any (rQ x)=uy.any (rQ x) by simp,jS r fs]
  exact q
theorem aO:uL X (.builtin "len") (fun xs H Q=>∃ p ys,xs=[.ref p]/\(ux X.K H p ys∨uE X.K H p ys)/\Q (.int ys.length) H):=by
 intro pins s σ H xs us Q I r h
 obtain⟨p,ys,rfl,hq,q⟩:=h
 obtain⟨u,rfl,rx⟩:=gP r
 cases rx
 have hn:=i8
 rcases hq with hq | hq
 ·obtain⟨uy,r',pl,hz⟩:=I.list hq
  have hlen:=r'.length
  exact Calls.call_len_list pl.isList (by simp only[size_toArray]<;>omega) ⟨.int ys.length,H,I.tok _,⟨s.toks + 1,by rw[size_toArray,hlen]⟩,q⟩
 ·obtain⟨uy,r',pl,hz⟩:=I.tuple hq
  have hlen:=r'.length
  exact len_tuple pl (by simp only[size_toArray]<;>omega) ⟨.int ys.length,H,I.tok _,⟨s.toks + 1,by rw[size_toArray,hlen]⟩,q⟩
theorem jR:uL X (.builtin "len") (fun xs H Q=>∃ z,xs=[.str z]/\z.length <= sizeLine/\Q (.int z.length) H):=by
 intro pins s σ H xs us Q I r h
 obtain⟨z,rfl,hz,q⟩:=h
 obtain⟨u,rfl,t,rfl⟩:=gP r
 have hn:=i8
 exact len_str (by omega) ⟨.int z.length,H,I.tok _,⟨_,rfl⟩,q⟩
theorem uL.or {f:Value}{r r':List V->Hp->VK->Prop}(h:uL X f r)(h':uL X f r'):uL X f (fun xs H Q=>r xs H Q∨r' xs H Q):=by
 intro pins s σ H xs us Q I rs q
 rcases q with q | q
 ·exact h pins s σ H xs us Q I rs q
 ·exact h' pins s σ H xs us Q I rs q
theorem cO:uL X (.type "tuple") (fun xs H Q=>∃ p ys,xs=[.ref p]/\((ux X.K H p ys/\∀ l,H l=none->Q (.ref l) (ar H l (.tup ys)))∨(uE X.K H p ys/\Q (.ref p) H))):=by
 intro pins s σ H xs us Q I r h
 obtain⟨p,ys,rfl,h⟩:=h
 obtain⟨u,rfl,rx⟩:=gP r
 cases rx
 rcases h with ⟨hq,q⟩ | ⟨hq,q⟩
 ·obtain⟨uy,r',pl,hz⟩:=I.list hq
  have hlen:=r'.length
  refine call_tuple_list pl.isList (fun h' kp=>?_) (by simp only[size_toArray]<;>omega)
  have I1:Inv X pins σ H { s with heap:=h' }:=I.kept (t':=s.toks) kp
  have I2:Inv X pins σ (ar H h'.objs.size (.tup ys)) { s with heap:=h'.push { cls := .type "tuple",data := .seq uy.toArray } } :=
   I1.laid (t':=s.toks) (fun b o e=>Heap.get?_push_of_some _ e) (le_refl _) (show uC X.prog X.w _ _ _ (.tup ys) from ⟨hz,uy,r',vh.new _ _⟩)
  exact⟨.ref h'.objs.size,_,I2,rfl,q _ (I1.u1.fresh (le_refl _))⟩
 ·obtain⟨uy,r',pl,hz⟩:=I.tuple hq
  exact call_tuple_same pl ⟨.ref p,H,I,rfl,q⟩
noncomputable def Eh (K:Frag)(T:String)(x:V)(H:Hp):Prop:=match x with
 | .str _=>T = "str"
 | .int _=>T = "int"
 | .ref p=>(T = "list"/\∃ xs,ux K H p xs)∨(T = "tuple"/\∃ o,K.lookup p=some o/\o.cls = .type "tuple"/\o.dict=none) ∨
   (T = "dict"/\((∃ uv,H p=some (.dK uv))∨∃ uv,H p=some (.dT uv)))∨(T = "set"/\∃ S n,H p=some (.set S n))
 | _=>False
theorem oY {pins:List (Addr × Obj)}{σ:St}{H:Hp}{s:Shared}{T:String}{x:V}{v:Value}(I:Inv X pins σ H s)(r:RelV x v)(ty:Eh X.K T x H) :
  s.TypeIs v T/\∀ a,v = .ref a->∃ ob,s.heap.get? a=some ob/\ob.dict=none:=by
 cases x with
 | str z =>
  obtain⟨t,rfl⟩:=r
  cases (show T = "str" from ty)
  exact⟨typeIs_str s z t,fun _ e=>nomatch e⟩
 | int i =>
  obtain⟨t,rfl⟩:=r
  cases (show T = "int" from ty)
  exact⟨typeIs_int s i t,fun _ e=>nomatch e⟩
 | ref p =>
  cases r
  rcases ty with ⟨rfl,xs,hq⟩ | ⟨rfl,o,hk,hc,hd⟩ | ⟨rfl,hk⟩ | ⟨rfl,S,n,hk⟩
  ·obtain⟨uy,_,pl,_⟩:=I.list hq
   refine⟨pl.isList.typeIs,fun a e=>?_⟩
   cases e
   obtain⟨o,n,e,c,hd,_⟩:=pl
   exact⟨o,e,hd⟩
  ·refine⟨⟨o,I.vt p o hk,hc⟩,fun a e=>?_⟩
   cases e
   exact⟨o,I.vt _ o hk,hd⟩
  ·have z:∃ o,s.heap.get? p=some o/\o.ExactDict:=by
    rcases hk with ⟨uv,hk⟩ | ⟨uv,hk⟩
    ·obtain⟨_,_,_,_,o,_,_,e,ex,_⟩:=I.u1 p _ hk
     exact⟨o,e,ex⟩
    ·obtain⟨_,_,_,_,o,_,_,e,ex,_⟩:=I.u1 p _ hk
     exact⟨o,e,ex⟩
   obtain⟨o,e,ex⟩:=z
   refine⟨⟨o,e,ex.1⟩,fun a e2=>?_⟩
   cases e2
   exact⟨o,e,ex.2.1⟩
  ·obtain⟨o,_,_,_,e,ex,_⟩:=I.u1 p _ hk
   refine⟨⟨o,e,ex.1⟩,fun a e2=>?_⟩
   cases e2
   exact⟨o,e,ex.2.1⟩
 | _=>exact False.elim ty
noncomputable def Ei (K:Frag)(T:String)(r:V->List V->Hp->VK->Prop)(to:TE):TE:=fun σ H Q=>to σ H fun x H1=>Eh K T x H1/\r x [] H1 Q
noncomputable def tBM (K:Frag)(T:String)(r:V->List V->Hp->VK->Prop)(to:TE)(t:TA):TE:=fun σ H Q=>to σ H fun x H1=>Eh K T x H1/\t σ H1 fun xs H2=>r x xs H2 Q
variable {o e:Expr}{es:List Expr}{to:TE}{t:TA}{name:Str}{apos uW:Pos}{T id:String}{r:V->List V->Hp->VK->Prop}
theorem tq (pa:PlainAttrs T)(slot:Slot T name id)(Ej:typeOf (.builtin id)=pure (.type "method_descriptor"))(hm:Eg X id r)(ho:PE X o to)
  (xy:attributeBase o name X.env (eval o X.env)=eval o X.env:=by rfl) (x8:(apos.endLine == uW.line)=true:=by rfl):PE X (.Call (.Attribute o name apos) [] [] uW) (Ei X.K T r to):=by
 intro pins s σ H Q I h
 refine wpAny_Call_method0_late xy x8 (aU (ho pins s σ H _ I h) fun v s1 uw=>?_)
 obtain⟨x,H1,I1,r1,ty,q1⟩:=uw
 obtain⟨h1,h2⟩:=oY I1 r1 ty
 exact⟨T,id,pa,slot,Ej,h1,h2,Calls.callWith_builtin rfl (PySem.evalArgs_none (hm pins s1 σ H1 x [] v [] Q I1 r1 .nil q1))⟩
theorem dQ (pa:PlainAttrs T)(slot:Slot T name id)(Ej:typeOf (.builtin id)=pure (.type "method_descriptor"))(hm:Eg X id r)(ho:PE X o to)(ha:PA X (e :: es) t)
  (xy:attributeBase o name X.env (eval o X.env)=eval o X.env:=by rfl)
  (Ek:((backTo uW (starEach (e :: es) X.env)).all (fun x=>!x.1) && (backToKw uW (keywordEach [] X.env)).all (fun x=>x.1.isSome)
   && decide ((e :: es).length + ([]:List Keyword).length + (if ([]:List Keyword).isEmpty then 0 else 1) < 30))=true:=by rfl)
  (x8:(apos.endLine == uW.line)=true:=by rfl) (hs:starEach (e :: es) X.env=(false,eval e X.env) :: starEach es X.env:=by rfl) (yW:(backTo uW (starEach es X.env)).any (·.1)=false:=by rfl) :
  PE X (.Call (.Attribute o name apos) (e :: es) [] uW) (tBM X.K T r to t):=by
 intro pins s σ H Q I h
 refine wpAny_Call_method_late xy Ek x8 rfl (aU (ho pins s σ H _ I h) fun v s1 uw=>?_)
 obtain⟨x,H1,I1,r1,ty,q1⟩:=uw
 obtain⟨h1,h2⟩:=oY I1 r1 ty
 refine⟨T,id,pa,slot,Ej,h1,h2,?_⟩
 have hA:=ha uW pins s1 σ H1 _ I1 q1
 rw[hs]at hA ⊢
 refine Calls.callWith_builtin (by show(false || (backTo uW (starEach es X.env)).any (·.1))=false;rw[yW]<;>rfl) (Calls.evalArgs_plain ?_)
 exact aU hA fun us s2 uw=>by obtain⟨vs,H2,I2,r2,q2⟩:=uw;exact hm pins s2 σ H2 x vs v us Q I2 r1 r2 q2
end
end L2
namespace L2
open PySem PySem.Spec PyProof.Rows
noncomputable def Cz (X:Cx)(id:String)(r:V->List V->Hp->VK->Prop):Prop :=
 ∀ (pins:List (Addr × Obj))(s:Shared)(σ:St)(H:Hp)(x:V)(xs:List V)(v:Value)(us:List Value)(Q:VK),Inv X pins σ H s->RelV x v->Vals xs us->r x xs H Q ->
  wpAny (model X.prog X.w) X.A (call (.builtin id) (v :: us)) (EP X pins σ Q) X.xe s
theorem Vals.one:∀ {x:V}{us:List Value},Vals [x] us->∃ u,us=[u]/\RelV x u:=by
 intro x us h
 cases h with
 | cons r t=>cases t;exact⟨_,rfl,r⟩
section
variable {X:Cx}{pins:List (Addr × Obj)}{σ:St}{H:Hp}{s:Shared}{l b:Addr}{xs ys zs:List V}
theorem Inv.AK {uy its':List Value}{n:Nat}{f:Array Value->Array Value}{t':Nat}(I:Inv X pins σ H s)(hH:H l=some (.lst xs))
  (e:s.heap.get? l=some { cls := .type "list",data := .seq uy.toArray n }) (hf:f uy.toArray=its'.toArray) (hv:Vals ys its') (hz:ys.length <= sizeLine) :
  Inv X pins σ (ar H l (.lst ys)) { s with heap:=s.heap.update l (Obj.mapSeq f),toks:=t' }:=by
 have q:=PySem.IsL.update e f
 rw[hf]at q
 refine I.write (x:=l) (e:=l) (by rw[hH];exact trivial) (.inl rfl) (fun b' u hb hu=>(Heap.get?_update_other s.heap (Obj.mapSeq f) (Ne.symm hb)).trans hu) ⟨_,q⟩ ?_
 exact⟨hz,its',_,hv,q⟩
theorem Inv.El {uy:List Value}{t':Nat}(I:Inv X pins σ H s)(hv:Vals ys uy)(hz:ys.length <= sizeLine) :
  Inv X pins σ (ar H s.heap.objs.size (.lst ys)) { s with heap:=s.heap.push { cls := .type "list",data := .seq uy.toArray },toks:=t' } :=
 I.laid (fun _ _ q=>Heap.get?_push_of_some _ q) (le_refl _) ⟨hz,uy,0,hv,Heap.get?_push_size _ rfl⟩
theorem Inv.fresh (I:Inv X pins σ H s):H s.heap.objs.size=none:=I.u1.fresh (le_refl _)
theorem Inv.x9 (I:Inv X pins σ H s)(hH:H l=some (.lst xs)):xs.length <= sizeLine/\∃ (uy:List Value)(n:Nat),Vals xs uy/\xs.length=uy.length/\s.heap.get? l=some { cls := .type "list",data := .seq uy.toArray n }:=by
 obtain⟨z,uy,n,r,e⟩:=I.u1 l _ hH
 exact⟨z,uy,n,r,r.length,e⟩
theorem pZ {n:Nat}(h:n <= sizeLine):Builtin.List.listTooLong n=false:=by
 unfold Builtin.List.listTooLong
 exact decide_eq_false (by omega)
end
section
variable {X:Cx}
noncomputable def qZ:V->List V->Hp->VK->Prop:=fun x vs H Q=>∃ l xs y,x = .ref l/\vs=[y]/\H l=some (.lst xs)/\xs.length < sizeLine/\Q .uB (ar H l (.lst (xs ++ [y])))
theorem el:Cz X "list.append" qZ:=by
 intro pins s σ H x vs v us Q I rx rv h
 obtain⟨l,xs,y,rfl,rfl,hH,hz,q⟩:=h
 cases rx
 obtain⟨u,rfl,ru⟩:=rv.one
 obtain⟨z,uy,n,r,hl,e⟩:=I.x9 hH
 refine call_meets F.slot_list_append ⟨_,e,rfl⟩ F.entry_list_append (F.args_list_append_2 _ _) (PySem.list_append l uy.toArray n u (by rw[size_toArray];omega)) ⟨e,?_⟩
 refine⟨.uB,_,I.AK (its':=uy ++ [u]) hH e (by simp) (r.append (.cons ru .nil)) ?_,rfl,q⟩
 rw[length_append,length_singleton]
 omega
noncomputable def qY:V->List V->Hp->VK->Prop:=fun x vs H Q=>∃ l b xs zs,x = .ref l/\vs=[.ref b]/\H l=some (.lst xs)/\H b=some (.lst zs)/\xs.length + zs.length <= sizeLine/\Q .uB (ar H l (.lst (xs ++ zs)))
theorem fW:Cz X "list.extend" qY:=by
 intro pins s σ H x vs v us Q I rx rv h
 obtain⟨l,b,xs,zs,rfl,rfl,hH,hB,hz,q⟩:=h
 cases rx
 obtain⟨u,rfl,ru⟩:=rv.one
 cases ru
 obtain⟨z,uy,n,r,hl,e⟩:=I.x9 hH
 obtain⟨z2,wx,n2,r2,xQ,e2⟩:=I.x9 hB
 have hsz:uy.toArray.size + wx.toArray.size <= sizeLine:=by rw[size_toArray,size_toArray];omega
 have AL:¬ (!uy.toArray.isEmpty && Builtin.List.listTooLong (uy.toArray.size + wx.toArray.size))=true:=by
  rw[pZ hsz,Bool.and_false]
  exact Bool.false_ne_true
 refine call_meets F.slot_list_extend ⟨_,e,rfl⟩ F.entry_list_extend (F.args_list_extend_2 _ _)
  (AutoSeq1.list_extend_list_list_0 l uy.toArray n b wx.toArray n2 AL (by rw[size_toArray];omega) (by omega)) ⟨e,e2,?_⟩
 refine⟨.uB,_,I.AK (its':=uy ++ wx) hH e (by simp) (r.append r2) ?_,rfl,q⟩
 rw[length_append]
 omega
noncomputable def Em:R2:=fun x y H Q=>∃ l b xs zs,x = .ref l/\y = .ref b/\H l=some (.lst xs)/\H b=some (.lst zs)/\xs.length + zs.length <= sizeLine/\∀ p,H p=none->Q (.ref p) (ar H p (.lst (xs ++ zs)))
theorem jC:dI X (binaryOp .Add) Em:=by
 intro pins s σ H x y v u Q I rx ry h
 obtain⟨l,b,xs,zs,rfl,rfl,hH,hB,hz,q⟩:=h
 cases rx
 cases ry
 obtain⟨z,uy,n,r,hl,e⟩:=I.x9 hH
 obtain⟨z2,wx,n2,r2,xQ,e2⟩:=I.x9 hB
 refine PySem.P.add_list e e2 ?_ (by rw[size_toArray,size_toArray];omega)
 have ea:uy.toArray ++ wx.toArray=(uy ++ wx).toArray:=by simp
 rw[ea]
 exact⟨.ref _,_,I.El (t':=s.toks) (r.append r2) (by rw[length_append];omega),rfl,q _ I.fresh⟩
end
section
variable {prog:Program}{w:World}{A:Around}{E:Value->Shared->Prop}{s:Shared}
set_option maxRecDepth 100000 in
end
section
variable {X:Cx}
end
end L2
namespace HR
open PySem PySem.W PySem.Calls PyProof.Rows
theorem gs {P:Params}{h:Heap}:∀ (ns:List Int)(vs:List Value),WellAll P h vs (ns.map WData.int)->IntsAre vs ns:=by
 intro ns
 induction ns with
 | nil =>
  intro vs w
  rw[map_nil]at w
  cases w
  exact .nil
 | cons n ns ih =>
  intro vs w
  rw[map_cons]at w
  cases w with
  | cons a b =>
   cases a
   exact .cons _ _ (ih _ b)
theorem ou {l:OpenLaw}{n:Nat}(hn:l.most=some n){P:Params}{h:Heap}{args:List WData}{vals:List Value}
  (yb:l.row.toRowW.claim.pre args=true) (xR:WellAll P h vals args) :
  ∃ a vs ns,vals=[Value.ref a]/\args=[WData.list (ns.map WData.int)]/\h.get? a=some { cls := .type "list",data := .seq vs.toArray }/\IntsAre vs ns/\ns.length <= n:=by
 have hsh:WShape.hasAll [] args [.list .int]=true:=(pre_splitW yb).1
 have hc:l.pre.holds [] { args:=args } = true:=(pre_splitW yb).2
 obtain⟨d,r,rfl,h1,h2⟩:=hasAllW_cons hsh
 obtain rfl:=hasAllW_nil h2
 obtain⟨xs,rfl,h3⟩:=hasW_list h1
 obtain⟨ns,rfl⟩:=items_int h3
 have hlen:ns.length <= n:=by
  unfold OpenLaw.pre at hc
  have h4:(WTm.not (.lt (.lit (.int (n:Int))) (.len (.arg 0)))).holds [] { args:=[.list (ns.map .int)] } = true:=by
   have h4:=(holds_andW hc).1
   rw[hn]at h4
   exact h4
  have h5:=condW_of h4 (w_not (w_lt w_lit (w_len_list (w_arg rfl))))
  rw[length_map]at h5
  refine Nat.le_of_not_lt fun q=>?_
  have q':(n:Int) < ((ns.length:Nat):Int):=by omega
  first
   | (rw[decide_eq_true q']at h5;exact absurd h5 (by decide))
   | (simp at h5;omega)
 cases xR with
 | cons w1 w2 =>
  cases w2
  cases w1 with
  | list ho vv=>exact⟨_,_,ns,rfl,rfl,ho,gs ns _ vv,hlen⟩
theorem oz (l:OpenLaw)(args:List WData):l.row.toRowW.claim.post args (.bool true) args=true :=
 postW_of (r:=l.row.toRowW) (X:=(true == true))
  (show WShape.has [] (.bool true) .bool=true by first | rfl | decide | simp[WShape.has,WShape.arms,WShape.armsAll])
  (show(WTm.eq .res (.lit (.bool true))).value [] { args:=args,res:=some (.bool true),after:=args } = some (.bool (true == true)) from w_eq_bool (w_res rfl) w_lit) rfl
theorem wa {l:OpenLaw}{n:Nat}{q:Program}{loose:List Str}{XP:(Str->Option Value)->Heap->Prop}{YP:World->Heap->Prop}{d:DefRec}
  (hn:l.most=some n) (AM:d.params.defaults=[])
  (call:∀ (w:World)(s₀ s₁:Shared)(mg mb:Str->Option Value)(fa:Addr)(o:Obj)(pm cd doc:Value)(a:Addr)(vs:List Value)(ns:List Int),
   Ground q loose [] XP w s₀ mg mb s₁.heap->YP w s₁.heap ->
   s₁.heap.get? fa=some o->o.data = .func (docDef d.name d.params d.body d.scope pm cd doc)->s₁.heap.CodeRec cd d.name->mg d.name=some (.ref fa) ->
   s₁.heap.get? a=some { cls := .type "list",data := .seq vs.toArray }->IntsAre vs ns->ns.length <= n->s₁.gens = #[] ->
   codeAny (model l.prog w) callerA (.call (.ref fa) ⟨[.ref a],[]⟩) (fun r s'=>r = .ok (.ret (.bool true))/\OldK s₁.heap s'.heap/\s'.os=s₁.os/\AllBare s'.gens) s₁) :
  WalkO q loose XP YP l.row.toRowW d [] (fun f vs=>PySem.call f vs):=by
 intro w s₀ s₁ mg mb G Y fa o pm cd doc dV kV ho hd wL hD hmg hg args vals as yb hlay hrd xR C0
 obtain rfl:dV = .none:=Dflts.none hD AM
 obtain rfl:kV = .none:=Dflts.noKw hD
 obtain⟨a,vs,ns,rfl,rfl,yX,hints,hlen⟩:=ou hn yb xR
 refine enter_call (codeAny_mono (call w s₀ s₁ mg mb fa o pm cd doc a vs ns G Y ho (fd_plain hd) wL hmg yX hints hlen hg) fun r s' hq=>?_)
 obtain⟨rfl,h2,h3,h4⟩:=hq
 exact⟨.inl ⟨.bool true, .bool true,[],rfl,fun _=>rfl, .bool true,oz l _,fun _=>⟨List.Pairwise.nil,fun _ hm=>(nomatch hm)⟩⟩,h2,h3,h4⟩
section
variable {prog:Program}{w:World}{A:Around}{E:Value->Shared->Prop}{s:Shared}{K:Frag}
end
end HR
namespace L2
open PySem PySem.Spec PyProof.Rows
theorem iV:∀ {vs:List Value}{ns:List Int},IntsAre vs ns->Vals (ns.map V.int) vs
 | _,_, .nil => .nil
 | _,_, .cons n t h => .cons ⟨t,rfl⟩ (iV h)
noncomputable def uo (H:Hp):Prop:=∀ b,H b=none∨∃ o xs,H b=some (.wI o (.lst xs))
theorem qf {P:Program}{w:World}{K:Frag}{mg mb:Str->Option Value}{CX:mU}{k:Nat}{fa a:Addr}{fd:FuncData}{x:Str}{sp:Sp}{s₁:Shared}{vs:List Value}{ns:List Int}
  (KX:K.In s₁.heap) (zK:s₁.heap.Ns mainGlobals mg) (hb:s₁.heap.Ns builtinsNs mb) (hbb:∀ x:Str,x ≠ "__name__"->mb x=bootBuiltins x) (En:s₁.heap.NoLimit) (hg:s₁.gens = #[])
  (ha:s₁.heap.get? a=some { cls := .type "list",data := .seq vs.toArray }) (hi:IntsAre vs ns) (hl:ns.length <= sizeLine) (hr:u5 k callerA)
  (F:∀ base:Heap,K.In base->base.Ns mainGlobals mg->Z P w K mg base CX k fa fd [x] sp) (AN:∀ (s:Shared)(u:Value),BindsTo s fd ⟨[u],[]⟩ [(x,u)])
  (y3:∀ H:Hp,uo H->ux K H a (ns.map V.int)->sp [.ref a] H (fun v _=>v = .bl true) fun _ _ _=>False)
  (Eo:∀ H e s',CX [] H s₁ (fun _ _ _=>False) e s'->False) :
  codeAny (model P w) callerA (.call (.ref fa) ⟨[.ref a],[]⟩) (fun r s'=>r = .ok (.ret (.bool true))/\OldK s₁.heap s'.heap/\s'.os=s₁.os/\AllBare s'.gens) s₁:=by
 have rv:=iV hi
 have Ep:=hi.length
 have core:∀ H:Hp,uo H->ux K H a (ns.map V.int)->vg P w H s₁.heap->(∀ b,H b ≠ none->b=a)->(H a ≠ none->K.lookup a=none) ->
   codeAny (model P w) callerA (.call (.ref fa) ⟨[.ref a],[]⟩) (fun r s'=>r = .ok (.ret (.bool true))/\OldK s₁.heap s'.heap/\s'.os=s₁.os/\AllBare s'.gens) s₁:=by
  intro H hO hS u1 hA hK
  have base_of:∀ {b:Addr}{o:Obj},s₁.heap.get? b=some o->H b=none->(jP s₁.heap H).get? b=some o:=fun e n=>ql e n
  have AF:∀ {b:Addr}{o:Obj}{es:Array DictEntry}{ep:Nat},s₁.heap.get? b=some o->o.data = .dict es ep->H b=none:=fun {b o es ep} e d=>by
   cases q:H b with
   | none=>rfl
   | some u =>
    have e':b=a:=hA b (by rw[q];simp)
    subst e'
    rw[ha]at e;cases e
    have d':Data.seq vs.toArray _=Data.dict es ep:=d
    cases d'
  have C1:∀ {b:Addr}{m:Str->Option Value},s₁.heap.Ns b m->(jP s₁.heap H).Ns b m:=fun {b m} ⟨o,es,ep,e,d,r⟩=>⟨o,es,ep,base_of e (AF e d),d,r⟩
  have HS:K.In (jP s₁.heap H):=fun b o e=>base_of (KX b o e) (by
   cases q:H b with
   | none=>rfl
   | some u =>
    have e':b=a:=hA b (by rw[q];simp)
    subst e'
    rw[hK (by rw[q];simp)]at e;cases e)
  have hM:Mod K mg (jP s₁.heap H):=⟨HS,C1 zK,⟨mb,C1 hb,hbb⟩,let ⟨mc,h1,h2⟩:=En; ⟨mc,C1 h1,h2⟩⟩
  have e0:wu P w K mg (jP s₁.heap H) callerA [] s₁ H:=⟨rfl,hM,fun b o e=>rA e,le_of_eq (oJ _ _),trivial,fun b hb=>absurd (show b ∈ ([]:List Addr) from hb) (by simp),u1, .of_eq hg⟩
  refine codeAny_mono ((F _ HS (C1 zK)).run callerA [] s₁ H ⟨[.ref a],[]⟩ [.ref a] [.ref a] _ _ hr e0 (AN s₁ (.ref a)) (.cons rfl .nil) (y3 H hO hS)) fun r s' h=>?_
  cases r with
  | error e=>exact(Eo H e s' h).elim
  | ok fl =>
   cases fl with
   | next=>exact False.elim h
   | brk=>exact False.elim h
   | cont=>exact False.elim h
   | ret u =>
    obtain⟨v,H',os,bare,un,Er,r',q⟩:=h
    have q':v = .bl true:=q
    subst q'
    obtain rfl:u=Value.bool true:=r'
    refine⟨rfl,OldK.of_keep fun b o e=>?_,os,bare⟩
    cases q:H b with
    | none=>exact un.keep b o e q (by intro z;exact absurd (show b ∈ ([]:List Addr) from z) (by simp)) (by simp)
    | some u =>
     rcases hO b with z | ⟨ob,xs,z⟩
     ·rw[q]at z;cases z
     ·have z2:=un.vI b ob _ z
      obtain⟨e1,_⟩:=u1 b _ z
      obtain⟨e2,_⟩:=Er b _ z2
      rw[e]at e1;cases e1
      exact e2
 cases hk:K.lookup a with
 | some o =>
  have e:=KX a o hk
  rw[ha]at e
  cases e
  refine core (fun _=>none) (fun _ => .inl rfl) (.inr ⟨_,vs.toArray,_,hk,rfl,rfl,rfl,by rw[size_toArray,Ep];exact hl,by simpa using rv⟩) (fun b u z=>by have z':(none:Option HO)=some u:=z;cases z') (fun b z=>absurd rfl z) fun z=>absurd rfl z
 | none =>
  refine core (fun b=>if b=a then some (.wI { cls := .type "list",data := .seq vs.toArray } (.lst (ns.map V.int))) else none) (fun b=>?_) (.inl (.inr ⟨{ cls := .type "list",data := .seq vs.toArray },if_pos rfl⟩)) (fun b u z=>?_) (fun b z=>?_) fun _=>hk
  ·by_cases hb:b=a
   ·exact .inr ⟨_,_,if_pos hb⟩
   ·exact .inl (if_neg hb)
  ·by_cases hb:b=a
   ·have z':=(if_pos hb).symm.trans z
    cases z'
    subst hb
    exact⟨ha,by rw[length_map];exact hl,vs,_,rv,ha⟩
   ·have z':=(if_neg hb).symm.trans z
    cases z'
  ·by_cases hb:b=a
   ·exact hb
   ·exact absurd (if_neg hb) z
end L2
namespace L2
open PySem PySem.Spec PyProof.Rows
theorem yc {l:PySem.W.OpenLaw}{n k:Nat}{q:Program}{loose:List Str}{XP:(Str->Option Value)->Heap->Prop}{YP:World->Heap->Prop}{d:DefRec}{K:Params->Frag}{CX:World->mU}{sp:World->Sp}{x:Str}
  (hn:l.most=some n) (yT:n <= sizeLine) (AM:d.params.defaults=[]) (hr:u5 k callerA)
  (hY:∀ (w:World)(h:Heap),YP w h->(K w.params).In h)
  (F:∀ (w:World)(mg:Str->Option Value)(fa:Addr)(h:Heap),(K w.params).In h->h.Ns mainGlobals mg->mg d.name=some (.ref fa) ->
   ∃ fd:FuncData,(∀ (s:Shared)(u:Value),BindsTo s fd ⟨[u],[]⟩ [(x,u)]) /\
    ∀ base:Heap,(K w.params).In base->base.Ns mainGlobals mg->Z l.prog w (K w.params) mg base (CX w) k fa fd [x] (sp w))
  (y3:∀ (w:World)(H:Hp)(a:Addr)(ns:List Int),ns.length <= n->uo H->ux (K w.params) H a (ns.map V.int)->sp w [.ref a] H (fun v _=>v = .bl true) fun _ _ _=>False)
  (Eo:∀ (w:World)(H:Hp)(s:Shared)(e:Value)(s':Shared),CX w [] H s (fun _ _ _=>False) e s'->False) :
  PySem.W.WalkO q loose XP YP l.row.toRowW d [] (fun f vs=>PySem.call f vs):=by
 refine HR.wa hn AM fun w s₀ s₁ mg mb fa o pm cd doc a vs ns G Y ho hd wL hmg yX hints hlen hg=>?_
 have KX:=hY w _ Y
 obtain⟨fd,hb,hF⟩:=F w mg fa _ KX G.T.g hmg
 exact qf KX G.T.g G.T.b G.T.builtins G.T.nolimit hg yX hints (le_trans hlen yT) hr hF hb (fun H hO hS=>y3 w H a ns hlen hO hS) fun H e s'=>Eo w H s₁ e s'
end L2
namespace L2
open PySem PySem.Spec PyProof.Rows
noncomputable def cn (s:Stmt)(j:Nat):Stmt:=match s with
 | .ClassDef _ _ _ body _ _ _ _ _ _ _=>body.getD j (.Pass ⟨0,0,0,0⟩)
 | _ => .Pass ⟨0,0,0,0⟩
noncomputable def cp (s:Stmt):Arguments:=match s with
 | .FunctionDef _ a _ _ _ _ _ _ _ _=>a
 | _=>{ posonlyargs:=[],args:=[],vararg:=none,kwonlyargs:=[],kw_defaults:=[],kwarg:=none,defaults:=[] }
noncomputable def aL (s:Stmt):List Stmt:=match s with
 | .FunctionDef _ _ b _ _ _ _ _ _ _=>b
 | _=>[]
noncomputable def ah (s:Stmt):Scope:=match s with
 | .FunctionDef _ _ _ _ _ _ sc _ _ _=>sc
 | _=>{ kind := .function,names:=[],isGenerator:=false,isCoroutine:=false }
abbrev aD:mU:=fun _ _ _ _ _ _=>False
abbrev E0:XK:=fun _ _ _=>False
theorem au {X:Cx}:eR aD X E0:=fun _ _ _ _ _ _ _ h=>h.elim
structure uN (K:Frag)(x qual:Str)(st:Stmt)(f:Addr)(fd:FuncData):Prop where
 ex:∃ (oc:Value)(od:Option Addr)(kV doc pm:Value)(an:Option Addr)(uF ct:Value)(xv:Array (Option Value)),
  fd=fnOf x qual (cp st) (aL st) (ah st) .none kV doc pm an uF ct/\K.lookup f=some ⟨oc,od, .func fd,xv⟩/\codeIn K uF qual=true
 kp:keepIn K (.ref f)=true
section
variable {P:Program}{w:World}{K:Frag}{mg:Str->Option Value}{base:Heap}
theorem uN.ok {x qual:Str}{st:Stmt}{f:Addr}{fd:FuncData}{N ps:List Str}{k:Nat}{sp:Sp}(F:uN K x qual st f fd)(S:aw N ps (ah st))(len:∀ vs H Q E,sp vs H Q E->vs.length=ps.length)
  (xw:∀ (uF:Value)(A:Around)(outer:List Env)(s:Shared)(H:Hp)(vs:List V)(Q:VK)(E:XK),u5 k (A.deeper (envOfC qual (ah st) s.heap.objs.size f uF))->sp vs H Q E ->
   ∃ t,wK (oR aD P w K mg base N qual (ah st) f uF A outer s H E).Cq (aL st) t/\t { nx:=fun _ H'=>Q .uB H',rt:=Q } (gh N vs) H):Z P w K mg base aD (k + 1) f fd ps sp:=by
 obtain⟨oc,od,kV,doc,pm,an,uF,ct,xv,rfl,lk,wL⟩:=F.ex
 refine AG lk wL S len fun A outer s H vs Q E hr y3=>?_
 obtain⟨t,h,q⟩:=xw uF A outer s H vs Q E hr y3
 exact⟨t,h.Cq,q⟩
theorem uN.binds {x qual:Str}{st:Stmt}{f:Addr}{fd:FuncData}{ps:List Str}(F:uN K x qual st f fd)
  (h:∀ (kV doc pm:Value)(an:Option Addr)(uF ct:Value)(us:List Value),us.length=ps.length->bindArgs (fnOf x qual (cp st) (aL st) (ah st) .none kV doc pm an uF ct) ⟨us,[]⟩ = pure (ps.zip us)):Binds K fd ps []:=by
 obtain⟨oc,od,kV,doc,pm,an,uF,ct,xv,rfl,lk,wL⟩:=F.ex
 exact .all (h kV doc pm an uF ct)
theorem iE {x qual:Str}{st:Stmt}{f:Addr}{oc:Value}{od an:Option Addr}{xv:Array (Option Value)}{kV doc pm uF ct:Value}(l:K.lookup f=some ⟨oc,od, .func (fnOf x qual (cp st) (aL st) (ah st) .none kV doc pm an uF ct),xv⟩)
  (c:codeIn K uF qual=true) (k:keepIn K (.ref f)=true):uN K x qual st f (fnOf x qual (cp st) (aL st) (ah st) .none kV doc pm an uF ct):=⟨⟨oc,od,kV,doc,pm,an,uF,ct,xv,rfl,l,c⟩,k⟩
end
theorem su {A:Around}{k:Nat}(hr:u5 k A):A.units + 1 < cLine:=lt_of_le_of_lt (add_le_add_left (by decide:1 <= 64) _) hr.units
section
variable {X:Cx}
theorem pv (i:Nat){x:Str}{pos:Pos}(hN:X.N[i]? = some x:=by rfl)(hv:Ck X.env.scope x:=by first | exact Or.inl rfl | exact Or.inr (Or.inl rfl) | exact Or.inr (Or.inr rfl))(hd:(x == ("__debug__":Str))=false:=by decide)
  (wL:(x == ("__classdict__":Str))=false:=by decide):PE X (.Name x pos) (Ao i):=tm hN hv hd wL
end
theorem aT {A B:Prop}(h:B):if false=true then A else B:=by
 rw[if_neg Bool.false_ne_true]
 exact h
theorem be {A B:Prop}(h:A):if true=true then A else B:=by
 rw[if_pos rfl]
 exact h
theorem kP {c A B:Prop} [Decidable c] (h1:c->A) (h2:¬ c->B):if c then A else B:=by
 by_cases h:c
 ·rw[if_pos h]
  exact h1 h
 ·rw[if_neg h]
  exact h2 h
theorem qk {c A B:Prop} [Decidable c] (hc:c) (h:B):if (!decide c)=true then A else B:=by
 rw[decide_eq_true hc]
 exact aT h
noncomputable def uu (H H':Hp):Prop:=∀ b o,H b=some o->H' b=some o
theorem uu.refl (H:Hp):uu H H:=fun _ _ h=>h
theorem uu.trans {H H1 H2:Hp}(a:uu H H1)(b:uu H1 H2):uu H H2:=fun c o h=>b c o (a c o h)
theorem uu.free {H H':Hp}(e:uu H H'){l:Addr}(h:H' l=Option.none):H l=Option.none:=by
 cases q:H l with
 | none=>rfl
 | some o =>
  rw[e l o q]at h
  cases h
theorem uu.seq {K:Frag}{H H':Hp}{a:Addr}{xs:List V}(e:uu H H')(h:ux K H a xs):ux K H' a xs:=by
 rcases h with (h | ⟨o,h⟩) | h
 ·exact .inl (.inl (e _ _ h))
 ·exact .inl (.inr ⟨o,e _ _ h⟩)
 ·exact .inr h
end L2
namespace Yd
open PySem
theorem vE (a b:Nat):Builtin.bitAnd (a:Int) (b:Int)=((a &&& b:Nat):Int):=by
 unfold Builtin.bitAnd
 simp
theorem c9 (x:Int):Builtin.bitNot x = -x - 1:=by
 unfold Builtin.bitNot
 omega
theorem xb (a b:Nat):Builtin.bitOr (a:Int) (b:Int)=((a ||| b:Nat):Int):=by
 unfold Builtin.bitOr
 have h1:Builtin.bitNot (a:Int) = -(a:Int) - 1:=c9 _
 have h2:Builtin.bitNot (b:Int) = -(b:Int) - 1:=c9 _
 unfold Builtin.bitAnd
 rw[h1,h2]
 have e1:decide (0 <= -(a:Int) - 1)=false:=decide_eq_false (by omega)
 have e2:decide (0 <= -(b:Int) - 1)=false:=decide_eq_false (by omega)
 rw[e1,e2]
 simp only[]
 have e3:Builtin.bitNot (-(a:Int) - 1)=a:=by rw[c9];omega
 have e4:Builtin.bitNot (-(b:Int) - 1)=b:=by rw[c9];omega
 rw[e3,e4]
 simp only[toNat_natCast]
 rw[c9,c9]
 omega
noncomputable def uM:List Nat->Nat->Nat
 | [],s=>s
 | n :: r,s=>uM r (s ||| 2 ^ n)
theorem uQ (k:Nat):∀ (l:List Nat)(s:Nat),(uM l s).testBit k=(s.testBit k || decide (k ∈ l))
 | [],s=>by simp[uM]
 | n :: r,s=>by
  unfold uM
  rw[uQ k r]
  rw[Nat.testBit_or,Nat.testBit_two_pow]
  by_cases h:n=k
  ·subst h;simp
  ·have:¬ k=n:=fun z=>h z.symm
   simp[h,this]
theorem xA (l r:List Nat)(s:Nat):uM (l ++ r) s=uM r (uM l s):=by
 induction l generalizing s with
 | nil=>rfl
 | cons n t ih=>exact ih _
noncomputable def iQ (l:List Nat):Nat->Nat
 | 0=>0
 | n + 1=>if n ∈ l then iQ l n + 2 ^ n else iQ l n
theorem vP (l:List Nat):∀ n,iQ l n < 2 ^ n
 | 0=>by simp[iQ]
 | n + 1=>by
  have:=vP l n
  unfold iQ
  rw[Nat.pow_succ]
  split<;>omega
theorem kT (l:List Nat)(k:Nat):∀ n,(iQ l n).testBit k=decide (k < n/\k ∈ l)
 | 0=>by simp[iQ]
 | n + 1=>by
  have ih:=kT l k n
  have uX:=vP l n
  unfold iQ
  by_cases hn:n ∈ l
  ·rw[if_pos hn,Nat.add_comm]
   rcases Nat.lt_trichotomy k n with h | h | h
   ·rw[Nat.testBit_two_pow_add_gt h,ih]
    simp[h,Nat.lt_succ_of_lt h]
   ·subst h
    rw[Nat.testBit_two_pow_add_eq,testBit_lt_two_pow uX]
    simp[hn]
   ·have hb:2 ^ n + iQ l n < 2 ^ k:=by
     have:2 ^ (n + 1) <= 2 ^ k:=pow_le_pow_right (by decide) h
     rw[Nat.pow_succ]at this
     omega
    rw[testBit_lt_two_pow hb]
    have:¬ k < n + 1:=by omega
    simp[this]
  ·rw[if_neg hn,ih]
   by_cases h:k=n
   ·subst h;simp[hn]
   ·have:k < n↔k < n + 1:=by omega
    simp[this]
theorem yd {l:List Nat}{n:Nat}(h:∀ k ∈ l,k < n):iQ l n=uM l 0:=by
 apply Nat.eq_of_testBit_eq
 intro k
 rw[kT,uQ]
 by_cases hk:k ∈ l
 ·simp[hk,h k hk]
 ·simp[hk]
noncomputable def wb (m b:Nat):List Nat:=(List.range b).filter fun k=>m.testBit k
theorem va {m b k:Nat}(h:m < 2 ^ b):k ∈ wb m b↔m.testBit k=true:=by
 unfold wb
 rw[mem_filter,mem_range]
 constructor
 ·exact fun z=>z.2
 ·intro z
  refine⟨?_,z⟩
  by_cases hk:k < b
  ·exact hk
  ·have:m < 2 ^ k:=lt_of_lt_of_le h (pow_le_pow_right (by decide) (by omega))
   rw[testBit_lt_two_pow this]at z
   cases z
theorem vL (m b:Nat):(wb m b).Pairwise (· < ·):=List.Pairwise.filter _ pairwise_lt_range
theorem ye {m b:Nat}(h:m < 2 ^ b):uM (wb m b) 0=m:=by
 apply Nat.eq_of_testBit_eq
 intro k
 rw[uQ,Nat.zero_testBit,Bool.false_or]
 by_cases hk:m.testBit k=true
 ·rw[hk];exact decide_eq_true ((va h).mpr hk)
 ·have:m.testBit k=false:=by simpa using hk
  rw[this]
  exact decide_eq_false fun z=>hk ((va h).mp z)
theorem wc:∀ {l r:List Int},l.Pairwise (· < ·)->r.Pairwise (· < ·)->(∀ k,k ∈ l↔k ∈ r)->l=r
 | [],[],_,_,_=>rfl
 | [],y :: r,_,_,h=>by
  have:=(h y).mpr mem_cons_self
  cases this
 | x :: l,[],_,_,h=>by
  have:=(h x).mp mem_cons_self
  cases this
 | x :: l,y :: r,hl,hr,h=>by
  obtain⟨hx,y4⟩:=List.pairwise_cons.mp hl
  obtain⟨hy,yf⟩:=List.pairwise_cons.mp hr
  have e:x=y:=by
   rcases mem_cons.mp ((h x).mp mem_cons_self) with z | z
   ·exact z
   ·rcases mem_cons.mp ((h y).mpr mem_cons_self) with z' | z'
    ·exact z'.symm
    ·have:=hx y z'
     have:=hy x z
     omega
  subst e
  congr 1
  refine wc y4 yf fun k=>?_
  constructor
  ·intro z
   rcases mem_cons.mp ((h k).mp (mem_cons_of_mem _ z)) with q | q
   ·have:=hx k z;omega
   ·exact q
  ·intro z
   rcases mem_cons.mp ((h k).mpr (mem_cons_of_mem _ z)) with q | q
   ·have:=hy k z;omega
   ·exact q
theorem vC (m:Nat):m < 2 ^ (Builtin.Int.intBits (m:Int)):=by
 unfold Builtin.Int.intBits
 by_cases h:m=0
 ·subst h;simp
 ·have e:((m:Int) == 0)=false:=by simp[h]
  rw[e]
  simp only[Bool.false_eq_true,if_false,natAbs_natCast]
  exact Nat.lt_log2_self
theorem bits_le {m b:Nat}(h:m < 2 ^ b):Builtin.Int.intBits (m:Int) <= b:=by
 unfold Builtin.Int.intBits
 by_cases h0:m=0
 ·subst h0;simp
 ·have e:((m:Int) == 0)=false:=by simp[h0]
  rw[e]
  simp only[Bool.false_eq_true,if_false,natAbs_natCast]
  have:=(Nat.log2_lt h0).mpr h
  omega
theorem yg (m k:Nat):decide (Builtin.bitAnd ((m:Int) / 2 ^ k) 1=1)=m.testBit k:=by
 have e:((m:Int) / 2 ^ k)=((m / 2 ^ k:Nat):Int):=by
  rw[Int.natCast_ediv,Int.natCast_pow]
  rfl
 rw[e,show (1:Int)=((1:Nat):Int) from rfl,vE,Nat.testBit_eq_decide_div_mod_eq]
 rw[Nat.and_one_is_mod]
 congr 1
 exact propext ⟨fun z=>by exact_mod_cast z,fun z=>by exact_mod_cast z⟩
end Yd
namespace L2
open PySem PySem.Spec PyProof.Rows
noncomputable def bP (cells:List (Str × Addr)):List (Str × NameKind)->List (Str × Addr)->List (Str × Addr)
 | [],acc=>acc
 | (n,k) :: r,acc=>if k == .free then bP cells r ((n,(cells.lookup n).getD 0) :: acc) else bP cells r acc
theorem eF {scope:Scope}{env:Env}(h:∀ y ∈ scope.names,y.2 = .free->∃ c,env.cells.lookup y.1=some c) :
  closureFor scope env=pure (bP env.cells scope.names []):=by
 unfold closureFor
 have key:∀ (names:List (Str × NameKind))(acc:List (Str × Addr)),(∀ y ∈ names,y.2 = .free->∃ c,env.cells.lookup y.1=some c) ->
   (forIn names acc fun (x:Str × NameKind)(cs:List (Str × Addr))=>(match x with
    | (name,kind)=>if (kind == NameKind.free)=true then do
      let c ← cellOf env name
      pure (ForInStep.yield ((name,c) :: cs))
     else pure (ForInStep.yield cs):Sem (ForInStep (List (Str × Addr)))))=(pure (bP env.cells names acc):Sem (List (Str × Addr))):=by
  intro names
  induction names with
  | nil=>intro acc _;rfl
  | cons y r ih =>
   intro acc hy
   obtain⟨n,k⟩:=y
   rw[forIn_cons]
   by_cases hk:(k == NameKind.free)=true
   ·obtain⟨c,hc⟩:=hy (n,k) mem_cons_self (by simpa using hk)
    have e1:cellOf env n=pure c:=by
     unfold cellOf
     simp only[]at hc
     rw[hc]
    simp only[hk,if_true,e1,pure_bind]
    rw[ih _ fun z hz=>hy z (mem_cons_of_mem _ hz)]
    unfold bP
    simp only[]at hc
    rw[if_pos hk,hc]
    conv=>rhs;unfold bP
    rfl
   ·simp only[hk,Bool.false_eq_true,if_false,pure_bind]
    rw[ih _ fun z hz=>hy z (mem_cons_of_mem _ hz)]
    conv=>rhs;unfold bP
    rw[if_neg hk]
 exact(congrArg (fun (m:Sem (List (Str × Addr)))=>m >>= fun z=>pure z) (key scope.names [] h)).trans (pure_bind _ _)
theorem cN {cells:List (Str × Addr)}{x:Str}{c:Addr}:∀ (names:List (Str × NameKind))(acc:List (Str × Addr)),(∀ y ∈ names,y.2 = .free->∃ c,cells.lookup y.1=some c) ->
  (∀ c,acc.lookup x=some c->cells.lookup x=some c)->(bP cells names acc).lookup x=some c->cells.lookup x=some c
 | [],acc,_,ha,e=>ha c e
 | (n,k) :: r,acc,hn,ha,e=>by
  unfold bP at e
  have hr:=fun z hz=>hn z (mem_cons_of_mem _ hz)
  split at e
  ·rename_i hk
   refine cN r _ hr (fun c' e'=>?_) e
   rw[lookup_cons]at e'
   split at e'
   ·rename_i hx
    have vm:x=n:=by simpa using hx
    subst vm
    obtain⟨c0,HU⟩:=hn (x,k) mem_cons_self (by simpa using hk)
    simp only[]at HU
    rw[HU]at e' ⊢
    exact e'
   ·exact ha c' e'
  ·exact cN r acc hr ha e
theorem dF {cells:List (Str × Addr)}{x:Str}:∀ (names:List (Str × NameKind))(acc:List (Str × Addr)),((x,NameKind.free) ∈ names∨∃ c,acc.lookup x=some c) ->
  ∃ c,(bP cells names acc).lookup x=some c
 | [],acc,h=>by
  rcases h with h | h
  ·cases h
  ·exact h
 | (n,k) :: r,acc,h=>by
  unfold bP
  split
  ·rename_i hk
   refine dF r _ ?_
   rcases h with h | ⟨c,h⟩
   ·rcases mem_cons.mp h with h | h
    ·refine .inr ⟨(cells.lookup n).getD 0,?_⟩
     injection h with h1 h2
     rw[lookup_cons,h1]
     simp
    ·exact .inl h
   ·refine .inr ?_
    rw[lookup_cons]
    split
    ·exact⟨_,rfl⟩
    ·exact⟨c,h⟩
  ·rename_i hk
   refine dF r _ ?_
   rcases h with h | h
   ·rcases mem_cons.mp h with h | h
    ·injection h with h1 h2
     subst h2
     exact absurd rfl hk
    ·exact .inl h
   ·exact .inr h
theorem fg {env:Env}{x:Str}:∀ {names:List (Str × NameKind)},names.lookup x=some .free ->
  (names.map fun (n,k)=>if (k == NameKind.free && env.scope.kind == .function && env.kindOf n == some .cell) then (n,NameKind.cell) else (n,k)).lookup x=some .cell ∨
  (names.map fun (n,k)=>if (k == NameKind.free && env.scope.kind == .function && env.kindOf n == some .cell) then (n,NameKind.cell) else (n,k)).lookup x=some .free
 | [],h=>by simp at h
 | (n,k) :: r,h=>by
  have ih:=@fg env x r
  rw[map_cons]
  cases hx:x == n with
  | true =>
   rw[lookup_cons,hx]at h
   cases h
   simp only[]
   split
   ·left;rw[lookup_cons,hx]
   ·right;rw[lookup_cons,hx]
  | false =>
   rw[lookup_cons,hx]at h
   simp only[]
   split
   ·rw[lookup_cons,hx];exact ih h
   ·rw[lookup_cons,hx];exact ih h
theorem dN {env:Env}{x:Str}{k:NameKind}(hk:k = .cell∨k = .free):∀ {names:List (Str × NameKind)},(∀ y ∈ names,y.2 ≠ .cell) ->
  (names.map fun (n,k)=>if (k == NameKind.free && env.scope.kind == .function && env.kindOf n == some .cell) then (n,NameKind.cell) else (n,k)).lookup x=some k->(x,NameKind.free) ∈ names
 | [],_,h=>by simp at h
 | (n,k') :: r,hc,h=>by
  have ih:=@dN env x k hk r fun y hy=>hc y (mem_cons_of_mem _ hy)
  rw[map_cons]at h
  simp only[]at h
  cases hx:x == n with
  | true =>
   have e:x=n:=by simpa using hx
   subst e
   split at h
   ·rename_i q
    have q':k' = .free:=by
     have:=(Bool.and_eq_true _ _ ▸ q:_/\_).1
     have:=(Bool.and_eq_true _ _ ▸ this:_/\_).1
     simpa using this
    rw[q']
    exact mem_cons_self
   ·rw[lookup_cons,hx]at h
    have e2:k' = k:=Option.some.inj h
    rcases hk with z | z
    ·exact absurd (e2.trans z) (hc (x,k') mem_cons_self)
    ·rw[e2,z];exact mem_cons_self
  | false =>
   split at h
   ·rw[lookup_cons,hx]at h;exact mem_cons_of_mem _ (ih h)
   ·rw[lookup_cons,hx]at h;exact mem_cons_of_mem _ (ih h)
section
variable {prog:Program}{w:World}{A:Around}{R:Result->Shared->Prop}{s:Shared}
abbrev jv (ifs:List Expr)(env:Env):Sem Bool :=
 forIn ifs true fun c r=>if r=true then do let ok ← isTrue c env (eval c env);pure (ForInStep.yield ok) else pure (ForInStep.yield r)
theorem li {elt tg iter:Expr}{ifs:List Expr}{scope:Scope}{pos:Pos}{it acc:Value}{env:Env}(I:Nat->Shared->Prop)
  (turn:∀ n s,I n s->wpAny (model prog w) A (pyNext it) (fun r s1=>match r with
   | none=>R (.ok .next) s1
   | some v=>wpAny (model prog w) A (letOwnedTupleGo tg it v) (fun _ s2=>wpAny (model prog w) A (assign tg env v) (fun _ s3 =>
     wpAny (model prog w) A (jv ifs env) (fun ok s4 =>
      if ok=true then wpAny (model prog w) A (eval elt env) (fun x s5 =>
       wpAny (model prog w) A (call (.builtin "list.append") [acc,x]) (fun _ s6=>∃ m,m < n/\I m s6) (fun _ _=>False) s5) (fun _ _=>False) s4
      else ∃ m,m < n/\I m s4) (fun _ _=>False) s3) (fun _ _=>False) s2) (fun _ _=>False) s1) (fun _ _=>False) s)
  (n:Nat) (h:I n s):codeAny (model prog w) A (.compLoop (.ListComp elt [⟨tg,iter,ifs,0⟩] scope pos) 0 it acc env) R s:=by
 refine codeAny_loop rfl I (fun n s hI=>?_) n h
 have no:∀ {E':Value->Shared->Prop}(e:Value)(s':Shared),False->E' e s':=fun _ _ z=>z.elim
 show wpAny _ A (Sem.onRaise (compTurn (.ListComp elt [⟨tg,iter,ifs,0⟩] scope pos) 0 it acc env) fun x=>do
  noteFrame x env
  theTreesLotGoes x) _ _ s
 refine wpAny_noted ?_
 rw[compTurn_list]
 refine wpAny_bind (wpAny_standAt (wpAny_bind (wpAny_mono (turn n s hI) (fun r s1 h1=>?_) no)))
 cases r with
 | none=>exact wpAny_pure h1
 | some v =>
  refine wpAny_bind (wpAny_mono h1 (fun _ s2 h2=>?_) no)
  refine wpAny_bind (wpAny_mono h2 (fun _ s3 h3=>?_) no)
  refine wpAny_bind (wpAny_mono h3 (fun ok s4 h4=>?_) no)
  cases ok with
  | false=>exact wpAny_pure ⟨rfl,h4⟩
  | true =>
   refine wpAny_bind (wpAny_bind (wpAny_mono h4 (fun x s5 h5=>?_) no))
   exact wpAny_bind (wpAny_mono h5 (fun _ s6 h6=>wpAny_pure (wpAny_pure ⟨rfl,h6⟩)) no)
end
noncomputable def AO (X:Cx)(ifs:List Expr)(t:TT):Prop :=
 ∀ (pins:List (Addr × Obj))(s:Shared)(σ:St)(H:Hp)(Q:Bool->Hp->Prop),Inv X pins σ H s->t σ H Q->wpAny (model X.prog X.w) X.A (jv ifs X.env) (TP X pins σ Q) X.xe s
noncomputable def qN:TT:=fun _ H Q=>Q true H
theorem cx {X:Cx}:AO X [] qN:=fun _ _ _ H _ I h=>wpAny_pure ⟨H,I,h⟩
theorem bN {X:Cx}{c:Expr}{t:TT}(h:PT X c t):AO X [c] t:=fun pins s σ H Q I hw=>by
 simp only[jv,forIn_cons,List.forIn_nil,if_true]
 exact wpAny_bind (wpAny_bind (aU (h pins s σ H Q I hw) fun b s' hb=>wpAny_pure (wpAny_pure hb)))
structure vd (N:List Str)(sc scope:Scope)(capN:List Str)(cap:List Nat):Prop where
 kind:scope.kind = .function
 wz:∀ y ∈ scope.names,y.2 ≠ .cell
 loc:∀ y ∈ scope.names,y.2 = .local->scope.names.lookup y.1=some .local
 free:∀ y ∈ scope.names,y.2 = .free->sc.names.lookup y.1=some .cell∨sc.names.lookup y.1=some .free
 len:cap.length=capN.length
 cap:∀ p ∈ capN.zip cap,scope.names.lookup p.1=some .free/\N[p.2]? = some p.1
abbrev bK (X:Cx)(scope:Scope)(N:List Str)(C:Addr)(s:Shared)(H:Hp)(fp:List Addr):Cx :=
 { X with N:=N,s₀:=s,H₀:=H,env:=compEnvC scope (bP X.env.cells scope.names []) C X.env,outer:=X.stack,stack:=X.stack,ex:=fp,fn:=fun _=>false,pn:=[],xe:=fun _ _=>False }
noncomputable def ge (n:Nat)(cap:List Nat)(σ:St):St:=List.replicate n none ++ cap.map fun j=>(σ[j]?).join
theorem lu (n:Nat)(cap:List Nat)(σ:St):(ge n cap σ).length=n + cap.length:=by simp[ge]
section
variable {X:Cx}{pins:List (Addr × Obj)}{σ:St}{H:Hp}{s:Shared}{scope:Scope}{own capN:List Str}{cap:List Nat}{fp:List Addr}
theorem vd.yY (B:vd X.N X.env.scope scope capN cap)(ok:X.Ok):∀ y ∈ scope.names,y.2 = .free->∃ c,X.env.cells.lookup y.1=some c:=fun y hy hf=>ok.has y.1 (B.free y hy hf)
theorem vd.cell (B:vd X.N X.env.scope scope capN cap)(ok:X.Ok){x:Str}{c:Addr}(h:(bP X.env.cells scope.names []).lookup x=some c):X.env.cells.lookup x=some c :=
 cN scope.names [] (B.yY ok) (fun _ e=>by cases e) h
theorem vd.locs (I:Inv X pins σ H s)(B:vd X.N X.env.scope scope capN cap){h':Heap}(k:∀ x c v,X.env.cells.lookup x=some c->s.heap.IsCell c v->h'.IsCell c v)(C:Addr)(m0:Str->Option Value) :
  ∀ (i:Nat)(x:Str)(v:V),(own ++ capN)[i]? = some x->(ge own.length cap σ)[i]? = some (some v)->∃ u,RelV v u/\Look (compEnvC scope (bP X.env.cells scope.names []) C X.env) h' m0 x u:=by
 intro i x v e1 e2
 have hi:own.length <= i:=by
  by_cases q:own.length <= i
  ·exact q
  ·unfold ge at e2
   rw[List.getElem?_append_left (by simp;omega),List.getElem?_replicate,if_pos (by omega)]at e2
   cases e2
 have e1':capN[i - own.length]? = some x:=by
  rwa [List.getElem?_append_right hi]at e1
 unfold ge at e2
 rw[List.getElem?_append_right (by simpa using hi),List.length_replicate,List.getElem?_map]at e2
 cases ej:cap[i - own.length]? with
 | none=>rw[ej]at e2;cases e2
 | some j =>
  rw[ej]at e2
  have C2:(σ[j]?).join=some v:=Option.some.inj e2
  have e3':σ[j]? = some (some v):=by
   cases q:σ[j]? with
   | none=>rw[q]at C2;cases C2
   | some u=>rw[q]at C2;exact congrArg some C2
  have hz:(x,j) ∈ capN.zip cap:=by
   refine List.mem_iff_getElem?.mpr ⟨i - own.length,?_⟩
   rw[List.getElem?_zip_eq_some]
   exact⟨e1',ej⟩
  obtain⟨c1,c2⟩:=B.cap (x,j) hz
  have HV:(x,NameKind.free) ∈ scope.names:=PySem.mem_of_lookup c1
  have hX:=B.free _ HV rfl
  obtain⟨m,hm,hl⟩:=I.loc
  obtain⟨u,ru,lk⟩:=hl j x v c2 e3' (hX.elim (fun z => .inr (.inl z)) fun z => .inr (.inr z))
  refine⟨u,ru, .inr ⟨fg c1,?_⟩⟩
  rcases lk with ⟨q,_⟩ | ⟨_,c,ec,ic⟩
  ·have q':X.env.scope.names.lookup x=some .local:=q
   rcases hX with z | z
   ·rw[z]at q';cases q'
   ·rw[z]at q';cases q'
  ·obtain⟨c',HW⟩:=dF (cells:=X.env.cells) (x:=x) scope.names [] (.inl HV)
   have:=B.cell I.ok HW
   rw[ec]at this
   cases this
   exact⟨c,HW,k x c _ ec ic⟩
theorem Inv.blk {h4:Heap}{tk:Nat}{m0:Str->Option Value}{C:Addr}(I:Inv X pins σ H s)(B:vd X.N X.env.scope scope capN cap)(hC:s.heap.objs.size <= C)(k:∀ b o,s.heap.get? b=some o->h4.get? b=some o)
  (hn:h4.Ns C m0) (hf:∀ b ∈ fp,eA X pins H b) (uX:∀ b ∈ fp,b < s.heap.objs.size) :
  Inv (bK X scope (own ++ capN) C s H fp) [] (ge own.length cap σ) H { s with heap:=h4,toks:=tk }:=by
 have Es:∀ b ∈ fp,b ∉ nM X.stack:=fun b hb z=>by
  obtain⟨_,f1,f2,_⟩:=hf b hb
  rcases mem_cons.mp (I.vO b z) with e | e
  ·exact f1 e
  ·exact f2 e
 have hinv:∀ x,((relabel scope X.env).names.lookup x=some .cell∨(relabel scope X.env).names.lookup x=some .free)->(x,NameKind.free) ∈ scope.names:=fun x hx=>by
  rcases hx with q | q
  ·exact dN (.inl rfl) B.wz q
  ·exact dN (.inr rfl) B.wz q
 refine⟨⟨I.ok.mod,B.kind,I.ok.glob,I.ok.blt,hC,fun x y c h1 h2=>I.ok.inj x y c (B.cell I.ok h1) (B.cell I.ok h2),fun x hx=>dF scope.names [] (.inl (hinv x hx)),fun _ _ z=>absurd z Bool.false_ne_true,I.ok.hd,I.ok.frames, .inl rfl,
  fun b hb=>⟨ne_of_lt (lt_of_lt_of_le (uX b hb) hC),fun x c e=>(hf b hb).2.2.2.2.1 x c (B.cell I.ok e)⟩,I.bs,le_trans I.ok.xY I.sz,fun b o e hb=>?_,fun b hb=>Es b hb,I.stack,I.wJ⟩,
  rfl,I.bare,Un.kept k,⟨m0,hn,fun i x v e1 e2 _=>B.locs I (fun _ _ _ _ q=>q.keeps k) C m0 i x v e1 e2⟩,fun x c e=>?_,I.u1.fresh hC,fun x c e=>I.uP x c (B.cell I.ok e),fun p hp=>absurd (show p ∈ ([]:List (Addr × Obj)) from hp) (by simp),I.u1.kept k,?_⟩
 ·rcases (hf b hb).2.2.2.1 with z | z
  ·exact I.ok.xt b o e z
  ·exact absurd (lt_of_lt_of_le (lt_size e) (le_trans I.ok.xY z)) (lt_irrefl _)
 ·obtain⟨v,q⟩:=I.cell x c (B.cell I.ok e)
  exact⟨v,q.keeps k⟩
 ·show(ge own.length cap σ).length=(own ++ capN).length
  rw[lu,length_append,B.len]
theorem Inv.reset {vY:List (Addr × Obj)}{σ':St}{H':Hp}{s':Shared}{C:Addr}(I:Inv X pins σ H s)(B:vd X.N X.env.scope scope capN cap)(hf:∀ b ∈ fp,eA X pins H b)(J:Inv (bK X scope (own ++ capN) C s H fp) vY σ' H' s') :
  Inv (bK X scope (own ++ capN) C s H fp) vY (ge own.length cap σ) H' s':=by
 obtain⟨m,hn,_⟩:=J.loc
 refine⟨J.ok,J.os,J.bare,J.base,⟨m,hn,fun i x v e1 e2 _=>?_⟩,J.cell,J.free,J.uP,J.pin,J.u1,?_⟩
 ·refine B.locs I (fun y c v' ec ic=>?_) C m i x v e1 e2
  obtain⟨o,ho,hd⟩:=ic
  have hx:c ∉ fp:=fun z=>(hf c z).2.2.2.2.1 y c ec rfl
  obtain⟨sl,e⟩:=J.base.any ho (I.uP y c ec) hx
  exact⟨_,e,hd⟩
 ·show(ge own.length cap σ).length=(own ++ capN).length
  rw[lu,length_append,B.len]
theorem Inv.adopt {D:Addr}{o:HO}(I:Inv X pins σ H s)(hn:H D=none)(h0:X.s₀.heap.objs.size <= D)(hL:D ≠ X.env.locals)(hc:∀ x c,X.env.cells.lookup x=some c->c ≠ D)(hp:∀ p ∈ X.pn ++ pins,p.1 ≠ D)
  (new:uC X.prog X.w (ar H D o) s.heap D o):Inv X pins σ (ar H D o) s:=by
 have ne:∀ b u,H b=some u->b ≠ D:=fun b u e=>am e hn
 refine⟨I.ok,I.os,I.bare,⟨I.base.keep,I.base.slot,fun b ob e n hx=>?_,I.base.there,fun b xs e=>?_,fun b ob u e=>?_,fun b ps e=>?_⟩,I.loc,I.cell,?_,fun x c e=>?_,fun p C3=>?_,fun b u e=>?_,I.len⟩
 ·rw[ak (ne_of_lt (lt_of_lt_of_le (lt_size e) h0))]
  exact I.base.free b ob e n hx
 ·have q:=I.base.vM b xs e
  rw[ak (ne b _ q)];exact q
 ·have q:=I.base.vI b ob u e
  rw[ak (ne b _ q)];exact q
 ·obtain⟨more,q⟩:=I.base.vN b ps e
  exact⟨more,by rw[ak (ne b _ q)];exact q⟩
 ·rw[ak (Ne.symm hL)];exact I.free
 ·rw[ak (hc x c e)];exact I.uP x c e
 ·obtain⟨e,n,r⟩:=I.pin p C3
  exact⟨e,by rw[ak (hp p C3)];exact n,r⟩
 ·by_cases hb:b=D
  ·subst hb;rw[ac]at e;cases e;exact new
  ·rw[ak hb]at e
   exact(I.u1 b u e).vi (fun _ _ _ q=>q) (fun c q=>by rw[ak (ne c _ q)];exact q) fun c xs q=>by rw[ak (ne c _ q)];exact q
end
noncomputable def eG (J:It)(g:TG)(tt:TT)(te:TE)(σ0:St)(Q:VK)(H1:Hp):Prop:=∃ W:Nat->Nat->List V->Hp->Prop,(∃ m,W 0 m [] H1)/\∀ i m acc H,W i m acc H ->
 acc.length < sizeLine/\((J.stop i H/\∀ D,H D=none->Q (.ref D) (ar H D (.lst acc)))∨(J.go i H/\∃ N:List V->Hp->Prop,(∀ uR H',N uR H'->∃ m',m' < m/\W (i + 1) m' uR H') /\
  ∀ x H',J.xP i H x H'->g x σ0 H' fun σ2 H2=>tt σ2 H2 fun b H3=>if b=true then te σ2 H3 fun y H4=>N (acc ++ [y]) H4 else N acc H3))
noncomputable def sg (wi:TI)(g:TG)(tt:TT)(te:TE)(n:Nat)(cap:List Nat):TE:=fun σ H Q=>wi σ H fun J H1=>eG J g tt te (ge n cap σ) Q H1
section
variable {X:Cx}{tg iter elt:Expr}{ifs:List Expr}{scope:Scope}{pos:Pos}{wi:TI}{g:TG}{tt:TT}{te:TE}{own capN:List Str}{cap:List Nat}
abbrev jJ (uy:List Value)(k:Nat):Obj:={ cls := .type "list",data := .seq uy.toArray k }
theorem lg {pins:List (Addr × Obj)}{s:Shared}{σ:St}{H:Hp}{Q:VK}{it:Addr}{fp:List Addr}{tn:Nat->Heap->Prop}{J:It}(B:vd X.N X.env.scope scope capN cap)(hc:X.calm=true)
  (hb:∀ (C:Addr)(s:Shared)(H:Hp)(fp:List Addr),PG (bK X scope (own ++ capN) C s H fp) tg g/\AO (bK X scope (own ++ capN) C s H fp) ifs tt/\PE (bK X scope (own ++ capN) C s H fp) elt te)
  (I:Inv X pins σ H s) (T:lA X.prog X.w X.K tg J fp it tn) (st:tn 0 s.heap) (hf:∀ b ∈ fp,eA X pins H b) {W:Nat->Nat->List V->Hp->Prop} {m0:Nat} (w0:W 0 m0 [] H)
  (turn:∀ i m acc H,W i m acc H->acc.length < sizeLine/\((J.stop i H/\∀ D,H D=none->Q (.ref D) (ar H D (.lst acc)))∨(J.go i H/\∃ N:List V->Hp->Prop,(∀ uR H',N uR H'->∃ m',m' < m/\W (i + 1) m' uR H') /\
   ∀ x H',J.xP i H x H'->g x (ge own.length cap σ) H' fun σ2 H2=>tt σ2 H2 fun b H3=>if b=true then te σ2 H3 fun y H4=>N (acc ++ [y]) H4 else N acc H3)))
  {RR:Value->Addr->Result->Shared->Prop}
  (fin:∀ (D C:Addr)(H':Hp)(s':Shared),Q (.ref D) H'->Inv X pins σ H' s'->(∃ m,s'.heap.Ns C m)->H' C=none->C ≠ X.env.locals->X.s₀.heap.objs.size <= C->(∀ x c,X.env.cells.lookup x=some c->c ≠ C)->(∀ p ∈ X.pn ++ pins,p.1 ≠ C) ->
   RR (.ref D) C (.ok .next) s') :
  wpAny (model X.prog X.w) X.A (newList []) (fun acc s3=>wpAny (model X.prog X.w) X.A (newFunctionEnv scope X.env.globals (bP X.env.cells scope.names []) [] X.env.qual none .none (some X.env)) (fun AQ s4 =>
   codeAny (model X.prog X.w) X.A (.compStart (.ListComp elt [⟨tg,iter,ifs,0⟩] scope pos) 0 (.ref it) acc { AQ with scope:=relabel scope X.env }) (RR acc AQ.locals) s4) X.xe s3) X.xe s:=by
 refine wpAny_newObj_type (wpAny_newFunctionEnv B.wz (by intro y hy;simp at hy) (fun h1 zK y8=>?_) B.kind)
 dsimp only at zK y8 ⊢
 generalize xm:s.heap.push { cls := .type "list",dict:=none,data := .seq ([]:List Value).toArray } = H2 at zK y8 ⊢
 have hCs:H2.objs.size=s.heap.objs.size + 1:=by rw[← xm,size_push]
 have w4:s.heap.objs.size <= H2.objs.size:=by omega
 have yh:∀ b ∈ fp,b < s.heap.objs.size:=fun b hb=>by
  obtain⟨o,e,_⟩:=T.obj 0 s.heap st b hb
  exact lt_size e
 have old:∀ b o,s.heap.get? b=some o->h1.get? b=some o:=fun b o e =>
  y8.extBut b o (ne_of_lt (lt_of_lt_of_le (lt_size e) w4)) (Heap.get?_push_of_some _ (xm ▸ Heap.get?_push_of_some _ e))
 have C4:s.heap.objs.size ≠ H2.objs.size:=by omega
 have xc:h1.get? s.heap.objs.size=some (jJ [] 0):=y8.extBut _ _ C4 (Heap.get?_push_of_some _ (xm ▸ Heap.get?_push_size _ rfl))
 have I4:Inv (bK X scope (own ++ capN) H2.objs.size s H fp) [] (ge own.length cap σ) H { s with heap:=h1,toks:=s.toks + ([]:List (Str × Value)).length }:=I.blk (own:=own) B w4 old zK hf yh
 have Es:∀ b ∈ fp,b ∉ nM X.stack:=fun b hb z=>by
  obtain⟨_,f1,f2,_⟩:=hf b hb
  rcases mem_cons.mp (I.vO b z) with e | e
  ·exact f1 e
  ·exact f2 e
 have yi:∀ b ∈ nM X.stack,b < s.heap.objs.size:=fun b hb=>by
  obtain⟨_,o,ho,_⟩:=I.stack.mem hb
  exact lt_size ho
 have w8:∀ x c,X.env.cells.lookup x=some c->c < s.heap.objs.size:=fun x c e=>by
  obtain⟨v,q⟩:=I.cell x c e
  exact q.lt
 have y9:∀ (H':Hp)(h':Heap)(uy:List Value)(k:Nat),H' s.heap.objs.size=none->h'.get? s.heap.objs.size=some (jJ uy k) ->
   ∀ p ∈ [(s.heap.objs.size,jJ uy k)],h'.get? p.1=some p.2/\H' p.1=none/\p.1 ≠ (bK X scope (own ++ capN) H2.objs.size s H fp).env.locals/\p.1 ∉ (bK X scope (own ++ capN) H2.objs.size s H fp).fs/\∀ v,p.2.data ≠ .cell v:=fun H' h' uy k hn he p hp=>by
  have e:p=(s.heap.objs.size,jJ uy k):=by simpa using hp
  subst e
  exact⟨he,hn,C4,fun z=>absurd (yi _ z) (lt_irrefl _),fun v z=>by cases z⟩
 have stat:∀ (H':Hp)(uy:List Value)(k:Nat),(∀ b ∈ fp,H' b=none)->∀ b ∈ fp,eA (bK X scope (own ++ capN) H2.objs.size s H fp) [(s.heap.objs.size,jJ uy k)] H' b:=fun H' uy k hn b hb =>
  ⟨hn b hb,ne_of_lt (lt_of_lt_of_le (yh b hb) w4),Es b hb, .inl hb,fun x c e=>(hf b hb).2.2.2.2.1 x c (B.cell I.ok e),fun p hp=>by
   have e:p=(s.heap.objs.size,jJ uy k):=by simpa using hp
   subst e
   exact ne_of_gt (yh b hb)⟩
 have loop:∀ s3:Shared,s3 = { s with heap:=h1,toks:=s.toks + ([]:List (Str × Value)).length } ->
   codeAny (model X.prog X.w) X.A (.compLoop (.ListComp elt [⟨tg,iter,ifs,0⟩] scope pos) 0 (.ref it) (.ref s.heap.objs.size) (compEnvC scope (bP X.env.cells scope.names []) H2.objs.size X.env))
    (RR (.ref s.heap.objs.size) H2.objs.size) s3:=by
  rintro s3 rfl
  refine li (fun n s'=>∃ i acc uy k H',Inv (bK X scope (own ++ capN) H2.objs.size s H fp) [(s.heap.objs.size,jJ uy k)] (ge own.length cap σ) H' s'/\tn i s'.heap/\(∀ b ∈ fp,H' b=none)/\Vals acc uy/\W i n acc H') ?_ m0
   ⟨0,[],[],0,H,I4.vb (y9 _ _ _ _ (I.u1.fresh (le_refl _)) xc),T.keep 0 s.heap h1 st fun b _ o e=>old b o e,fun b hb=>(hf b hb).1, .nil,w0⟩
  rintro n s5 ⟨i,acc,uy,k,H5,I5,zI,Cw,rv,w5⟩
  obtain⟨hsz,AR⟩:=turn i n acc H5 w5
  obtain⟨hgt,xS,hte⟩:=hb H2.objs.size s H fp
  rcases AR with ⟨stop,q⟩ | ⟨go,N,hN,step⟩
  ·refine aU (T.done (bK X scope (own ++ capN) H2.objs.size s H fp) rfl rfl rfl hc i _ s5 _ H5 _ I5 (stat H5 uy k Cw) zI stop) fun r s6 uw=>?_
   obtain⟨hr,I6⟩:=uw
   subst hr
   obtain⟨hD,yj,_⟩:=I6.pin (s.heap.objs.size,jJ uy k) (by simp)
   have J1:Inv X pins σ H5 s6:=I.An (s':=s6) (ch:=fp) I6.os I6.base I6.u1 I6.bare fun b hb=>by
    obtain⟨_,f1,_,f3,f4,f5⟩:=hf b hb
    exact⟨f3,f1,f4,f5⟩
   have J2:Inv X pins σ (ar H5 s.heap.objs.size (.lst acc)) s6:=J1.adopt yj I.sz (ne_of_gt I.lt) (fun x c e=>ne_of_lt (w8 x c e)) (fun p hp=>ne_of_lt (lt_size (I.pin p hp).1)) ⟨le_of_lt hsz,uy,k,rv,hD⟩
   obtain⟨mC,AS,_⟩:=I6.loc
   refine fin _ _ _ s6 (q _ yj) J2 ⟨mC,AS⟩ (by rw[ak (Ne.symm C4)];exact I6.free) (ne_of_gt (lt_of_lt_of_le I.lt w4)) (le_trans I.sz w4) (fun x c e=>ne_of_lt (lt_of_lt_of_le (w8 x c e) w4)) fun p hp =>
    ne_of_lt (lt_of_lt_of_le (lt_size (I.pin p hp).1) w4)
  ·refine aU (T.item (bK X scope (own ++ capN) H2.objs.size s H fp) rfl rfl rfl hc i _ s5 _ H5 _ I5 (stat H5 uy k Cw) zI go) fun r s6 uw=>?_
   obtain⟨u,hr,h6⟩:=uw
   subst hr
   refine aU h6 fun _ s7 uw=>?_
   obtain⟨x,H7,I7,r7,y7,Et,fr7⟩:=uw
   have I7':=I7.pinned (stat H7 uy k fr7) (T.obj _ _ Et)
   refine aU (hgt _ s7 _ H7 x u _ I7' r7 (step x H7 y7)) fun _ s8 uw=>?_
   obtain⟨σ8,H8,I8,q8⟩:=uw
   refine aU (xS _ s8 σ8 H8 _ I8 q8) fun b s9 uw=>?_
   obtain⟨H9,I9,q9⟩:=uw
   have HX:∀ {H':Hp}{s':Shared}{σ':St},Inv (bK X scope (own ++ capN) H2.objs.size s H fp) (du fp s7.heap) σ' H' s'->tn (i + 1) s'.heap/\∀ b ∈ fp,H' b=none:=fun {H' s' σ'} K=>by
    refine⟨T.keep _ _ _ Et fun b hb o e=>(K.pin (b,o) (dE hb e)).1,fun b hb=>?_⟩
    obtain⟨o,e,_⟩:=T.obj _ _ Et b hb
    exact(K.pin (b,o) (dE hb e)).2.1
   cases b with
   | false =>
    rw[if_neg Bool.false_ne_true]
    obtain⟨m',hm,w9⟩:=hN acc H9 (by simpa using q9)
    have K9:Inv (bK X scope (own ++ capN) H2.objs.size s H fp) (du fp s7.heap) σ8 H9 s9:=I9.vb fun p hp=>I9.pin p (mem_append_right _ (mem_append_right _ hp))
    obtain⟨t9,f9⟩:=HX K9
    exact⟨m',hm,i + 1,acc,uy,k,H9,I.reset B hf I9.vn,t9,f9,rv,w9⟩
   | true =>
    rw[if_pos rfl]
    have q9':te σ8 H9 fun y H4=>N (acc ++ [y]) H4:=by simpa using q9
    refine aU (hte _ s9 σ8 H9 _ I9 q9') fun yv xn uw=>?_
    obtain⟨y,wA,Eu,r10,q10⟩:=uw
    obtain⟨hD,yj,_⟩:=Eu.pin (s.heap.objs.size,jJ uy k) (by simp)
    have hlen:=rv.length
    refine wpAny_list_append_plain ⟨k,hD⟩ (fun h' uK yZ=>?_) (by rw[size_toArray];omega)
    obtain⟨k',hD'⟩:=uK
    obtain⟨m',hm,w10⟩:=hN (acc ++ [y]) wA q10
    have K10:Inv (bK X scope (own ++ capN) H2.objs.size s H fp) (du fp s7.heap) σ8 wA xn:=Eu.vb fun p hp=>Eu.pin p (mem_append_right _ (mem_append_right _ hp))
    have HY:Inv (bK X scope (own ++ capN) H2.objs.size s H fp) (du fp s7.heap) σ8 wA { xn with heap:=h' }:=K10.turned (t':=xn.toks) (it:=s.heap.objs.size) (fun b o hb e=>(yZ.2 b hb).trans e) yj C4 (.inr (le_refl _))
     (fun x c e=>ne_of_lt (w8 x c (B.cell I.ok e))) fun p hp=>by
      obtain⟨hb,_⟩:=jd (show p ∈ du fp s7.heap from hp)
      exact ne_of_lt (yh p.1 hb)
    obtain⟨t11,C5⟩:=HX HY
    refine⟨m',hm,i + 1,acc ++ [y],uy ++ [yv],k',wA,?_,t11,C5,rv.append (.cons r10 .nil),w10⟩
    refine I.reset B hf (HY.vb (y9 _ _ _ _ yj ?_))
    show h'.get? s.heap.objs.size=some { cls := .type "list",data := .seq (uy ++ [yv]).toArray k' }
    rw[show(uy ++ [yv]).toArray=uy.toArray.push yv by simp]
    exact hD'
 exact codeAny_compStart_list (loop _ rfl) (T.self X.A 0 _ _ _ (T.keep 0 s.heap h1 st fun b _ o e=>old b o e) (loop _ rfl))
theorem bp (B:vd X.N X.env.scope scope capN cap)(hc:X.calm=true)(hi:PI X tg iter wi)
  (hb:∀ (C:Addr)(s:Shared)(H:Hp)(fp:List Addr),PG (bK X scope (own ++ capN) C s H fp) tg g/\AO (bK X scope (own ++ capN) C s H fp) ifs tt/\PE (bK X scope (own ++ capN) C s H fp) elt te)
  (hs:∀ x,foldedSetIterable iter X.env x=pure x:=by intro _;rfl):PE X (.ListComp elt [⟨tg,iter,ifs,0⟩] scope pos) (sg wi g tt te own.length cap):=by
 intro pins s σ H Q I h
 rw[eval_ListComp]
 refine wpAny_comprehension_free (use:=none) rfl hs (eF (B.yY I.ok)) B.kind B.loc (aU (hi pins s σ H _ I h) fun v s1 h1=>aU h1 fun Cv s2 h2=>?_)
 obtain⟨it,fp,tn,J,H2,e,I2,T,Az,f2,W,⟨m0,w0⟩,turn⟩:=h2
 subst e
 refine lg (own:=own) B hc hb I2 T Az f2 w0 turn (RR:=fun acc C=>compPost (model X.prog X.w) X.A X.xe none (EP X pins σ Q) acc C) fun D C H' s' q J2 ⟨mC,AS⟩ fC n1 n2 n3 n4=>?_
 refine⟨mC,AS,fun h' y8=>⟨.ref D,H',?_,rfl,q⟩⟩
 exact J2.turned (t':=s'.toks) (it:=C) (fun b o hb e=>(y8.2 b hb).trans e) fC n1 (.inr n2) n3 n4
theorem cE {i:Nat}{x:Str}{px:Pos}{AU:Pos}(B:vd X.N X.env.scope scope capN cap)(hc:X.calm=true)(hN:X.N.Nodup)(hx:X.N[i]? = some x)(hl:X.env.scope.names.lookup x=some .local)(hi:PI X tg iter wi)
  (hb:∀ (C:Addr)(s:Shared)(H:Hp)(fp:List Addr),PG (bK X scope (own ++ capN) C s H fp) tg g/\AO (bK X scope (own ++ capN) C s H fp) ifs tt/\PE (bK X scope (own ++ capN) C s H fp) elt te)
  (hsw:swapsWith (.ListComp elt [⟨tg,iter,ifs,0⟩] scope pos) (some (.Name x px)) AU.line X.env=pure true:=by rfl)
  (hs:∀ x,foldedSetIterable iter X.env x=pure x:=by intro _;rfl):PS X (.Assign [.Name x px] (.ListComp elt [⟨tg,iter,ifs,0⟩] scope pos) AU) (sP (sg wi g tt te own.length cap) (cX i)):=by
 intro pins s σ H D0 I h
 rw[exec_Assign_Name_used _ _ _ _ hsw]
 refine wpAny_bind (wpAny_standAt (wpAny_bind ?_))
 show wpAny _ X.A (do
  let _ ← comprehension (.ListComp elt [⟨tg,iter,ifs,0⟩] scope pos) scope X.env _ (newList []) false (eval iter X.env) (some (assign (.Name x px) X.env))) _ _ s
 refine wpAny_bind (wpAny_mono (wpAny_comprehension_free (use:=some (assign (.Name x px) X.env)) (Q:=fun _ s'=>SP X pins D0 .next s') rfl hs (eF (B.yY I.ok)) B.kind B.loc
  (aU (hi pins s σ H _ I h) fun v s1 h1=>aU h1 fun Cv s2 h2=>?_)) (fun _ s' hq=>wpAny_pure (wpAny_pure hq)) fun _ _ e=>e)
 obtain⟨it,fp,tn,J,H2,e,I2,T,Az,f2,W,⟨m0,w0⟩,turn⟩:=h2
 subst e
 refine lg (own:=own) (Q:=fun x H1=>cX i x σ H1 D0.nx) B hc hb I2 T Az f2 w0 turn (RR:=fun acc C=>compPost (model X.prog X.w) X.A X.xe (some (assign (.Name x px) X.env)) (fun _ s'=>SP X pins D0 .next s') acc C) fun D C H' s' q J2 ⟨mC,AS⟩ fC n1 n2 n3 n4=>?_
 show wpAny _ X.A (assign (.Name x px) X.env (.ref D)) _ _ s'
 refine wpAny_assign_Name (iW J2 hN hx (.inl hl) (show RelV (.ref D) (.ref D) from rfl) (fun AE J3 uw=>?_) (.inr hl))
 obtain⟨a,y8,ha⟩:=uw
 have hCa:C ≠ a:=by
  rcases ha with z | z
  ·rw[z];exact n1
  ·exact(n3 x a z).symm
 refine⟨mC,AS.sameBut y8 hCa,fun h' yZ=>⟨_,H',?_,q⟩⟩
 exact J3.turned (t':=AE.toks) (it:=C) (fun b o hb e=>(yZ.2 b hb).trans e) fC n1 (.inr n2) n3 n4
end
end L2
namespace L2
open PySem PySem.Spec PyProof.Rows
mutual
inductive mT (K:Frag)(H:Hp):V->PyData->Prop
 | uB:mT K H .uB .none
 | bl (b:Bool):mT K H (.bl b) (.bool b)
 | int (i:Int):mT K H (.int i) (.int i)
 | str (x:Str):mT K H (.str x) (.str x)
 | lst {a:Addr} {xs:List V} {ds:List PyData}:ux K H a xs->lD K H xs ds->mT K H (.ref a) (.list ds)
 | tup {a:Addr} {xs:List V} {ds:List PyData}:uE K H a xs->lD K H xs ds->mT K H (.ref a) (.tuple ds)
inductive lD (K:Frag)(H:Hp):List V->List PyData->Prop
 | nil:lD K H [] []
 | cons {x:V} {d:PyData} {xs:List V} {ds:List PyData}:mT K H x d->lD K H xs ds->lD K H (x :: xs) (d :: ds)
end
section
variable {X:Cx}{pins:List (Addr × Obj)}{σ:St}{H:Hp}{s:Shared}
mutual
theorem Inv.den (I:Inv X pins σ H s):∀ {x:V}{d:PyData}{u:Value},mT X.K H x d->RelV x u->∃ as,Reads s.heap u d as
 | _,_,_, .uB,r=>by cases r;exact⟨_, .none⟩
 | _,_,_, .bl b,r=>by cases r;exact⟨_, .bool b⟩
 | _,_,_, .int i,r=>by obtain⟨t,rfl⟩:=r;exact⟨_, .int i t⟩
 | _,_,_, .str x,r=>by obtain⟨t,rfl⟩:=r;exact⟨_, .str x t⟩
 | _,_,_, .lst hq hd,r=>by
  cases r
  obtain⟨uy,rv,⟨o,n,e,hc,_,Ew⟩,_⟩:=I.list hq
  obtain⟨as,q⟩:=I.za hd rv
  exact⟨_, .list e hc Ew (by simpa using q)⟩
 | _,_,_, .tup hq hd,r=>by
  cases r
  obtain⟨uy,rv,⟨o,e,hc,n,Ew⟩,_⟩:=I.tuple hq
  obtain⟨as,q⟩:=I.za hd rv
  exact⟨_, .tuple e hc Ew (by simpa using q)⟩
theorem Inv.za (I:Inv X pins σ H s):∀ {xs:List V}{ds:List PyData}{us:List Value},lD X.K H xs ds->Vals xs us->∃ as,ReadsAll s.heap us ds as
 | _,_,_, .nil, .nil=>⟨_, .nil⟩
 | _,_,_, .cons hd hr, .cons r rr=>by
  obtain⟨as,q⟩:=I.den hd r
  obtain⟨bs,q'⟩:=I.za hr rr
  exact⟨_, .cons q q'⟩
end
noncomputable def Ex (K:Frag):R2:=fun x y H Q=>∃ da db,mT K H x da/\mT K H y db/\SeqAt.shaped da=true/\SeqAt.shaped db=true/\Q (.bl (PyData.eqv da db)) H
noncomputable def AV (K:Frag):R2:=fun x y H Q=>∃ da db,mT K H x da/\mT K H y db/\SeqAt.shaped da=true/\SeqAt.shaped db=true/\Q (.bl (!PyData.eqv da db)) H
end
section
variable {X:Cx}
theorem tF (hu:X.A.units + 64 < cLine):dI X (compareOp .Eq) (Ex X.K):=by
 intro pins s σ H x y v u Q I rx ry h
 obtain⟨da,db,h1,h2,h3,h4,q⟩:=h
 obtain⟨as,r1⟩:=I.den h1 rx
 obtain⟨bs,r2⟩:=I.den h2 ry
 exact SeqAt.compareEq_shaped r1 r2 h3 h4 hu ⟨.bl _,H,I,rfl,q⟩
theorem pN (hu:X.A.units + 64 < cLine):dI X (compareOp .NotEq) (AV X.K):=by
 intro pins s σ H x y v u Q I rx ry h
 obtain⟨da,db,h1,h2,h3,h4,q⟩:=h
 obtain⟨as,r1⟩:=I.den h1 rx
 obtain⟨bs,r2⟩:=I.den h2 ry
 exact SeqAt.compareNe_shaped r1 r2 h3 h4 hu ⟨.bl _,H,I,rfl,q⟩
theorem jl {K:Frag}{H:Hp}:∀ ns:List Int,lD K H (ns.map V.int) (ns.map PyData.int)
 | [] => .nil
 | n :: r => .cons (.int n) (jl r)
theorem fJ {K:Frag}{H:Hp}{a:Addr}{ns:List Int}(h:ux K H a (ns.map V.int)):mT K H (.ref a) (.list (ns.map PyData.int)) := .lst h (jl ns)
noncomputable def Ey (K:Frag):R2:=fun x y H Q=>∃ (p q:Addr)(ns ms:List Int),x = .ref p/\y = .ref q/\ux K H p (ns.map V.int)/\ux K H q (ms.map V.int)/\Q (.bl (decide (ns=ms))) H
noncomputable def Ez (K:Frag):R2:=fun x y H Q=>∃ (p q:Addr)(ns ms:List Int),x = .ref p/\y = .ref q/\ux K H p (ns.map V.int)/\ux K H q (ms.map V.int)/\Q (.bl (!decide (ns=ms))) H
theorem tE (hu:X.A.units + 64 < cLine):dI X (compareOp .Eq) (Ey X.K):=by
 intro pins s σ H x y v u Q I rx ry h
 obtain⟨p,q,ns,ms,rfl,rfl,h1,h2,q⟩:=h
 refine tF hu pins s σ H _ _ v u Q I rx ry ⟨_,_,fJ h1,fJ h2,PySem.W.shaped_ints ns,PySem.W.shaped_ints ms,?_⟩
 simp only[PyData.eqv,PySem.W.ked_eqvAll]
 exact q
theorem jB (hu:X.A.units + 64 < cLine):dI X (compareOp .NotEq) (Ez X.K):=by
 intro pins s σ H x y v u Q I rx ry h
 obtain⟨p,q,ns,ms,rfl,rfl,h1,h2,q⟩:=h
 refine pN hu pins s σ H _ _ v u Q I rx ry ⟨_,_,fJ h1,fJ h2,PySem.W.shaped_ints ns,PySem.W.shaped_ints ms,?_⟩
 simp only[PyData.eqv,PySem.W.ked_eqvAll]
 exact q
noncomputable def E2 (K:Frag):List V->Hp->VK->Prop:=fun xs H Q =>
 (∃ i,xs=[.int i, .ty "int"]/\Q (.bl true) H)∨(∃ i,xs=[.int i, .ty "bool"]/\Q (.bl false) H)∨(∃ p ys,xs=[.ref p, .ty "list"]/\ux K H p ys/\Q (.bl true) H)∨(∃ p ys,xs=[.ref p, .ty "tuple"]/\uE K H p ys/\Q (.bl true) H)
theorem lp:uL X (.builtin "isinstance") (E2 X.K):=by
 intro pins s σ H xs us Q I r h
 rcases h with ⟨i,rfl,q⟩ | ⟨i,rfl,q⟩ | ⟨p,ys,rfl,hq,q⟩ | ⟨p,ys,rfl,hq,q⟩
 ·cases r with
  | cons r1 r2 =>
   cases r2 with
   | cons r2 r3 =>
    cases r3
    obtain⟨t,rfl⟩:=r1
    cases r2
    exact IsiPair.int_int ⟨.bl true,H,I,rfl,q⟩
 ·cases r with
  | cons r1 r2 =>
   cases r2 with
   | cons r2 r3 =>
    cases r3
    obtain⟨t,rfl⟩:=r1
    cases r2
    exact IsiPair.int_bool ⟨.bl false,H,I.tok _,rfl,q⟩
 ·cases r with
  | cons r1 r2 =>
   cases r2 with
   | cons r2 r3 =>
    cases r3
    cases r1
    cases r2
    obtain⟨uy,rv,⟨o,n,e,hc,_⟩,_⟩:=I.list hq
    exact IsiPair.list_list e hc ⟨.bl true,H,I,rfl,q⟩
 ·cases r with
  | cons r1 r2 =>
   cases r2 with
   | cons r2 r3 =>
    cases r3
    cases r1
    cases r2
    obtain⟨uy,rv,⟨o,e,hc,_⟩,_⟩:=I.tuple hq
    exact IsiPair.tuple_tuple e hc ⟨.bl true,H,I,rfl,q⟩
theorem rD:Eg X "int.bit_length" (fun x xs H Q=>∃ i,x = .int i/\xs=[]/\Q (.int (Builtin.Int.intBits i:Nat)) H):=by
 intro pins s σ H x xs v us Q I rx rv h
 obtain⟨i,rfl,rfl,q⟩:=h
 obtain⟨t,rfl⟩:=rx
 cases rv
 exact call_int_bit_length ⟨.int _,H,I.tok _,⟨_,rfl⟩,q⟩
theorem Inv.same {pins:List (Addr × Obj)}{σ:St}{H:Hp}{s s':Shared}(I:Inv X pins σ H s)(k:∀ b o,s.heap.get? b=some o->s'.heap.get? b=some o)(g:s'.gens=s.gens)(ho:s'.os=s.os):Inv X pins σ H s':=by
 obtain⟨hh,gg,dd,tt,oo⟩:=s'
 simp only at k g ho
 subst g
 subst ho
 have J:Inv X pins σ H { s with heap:=hh,toks:=tt }:=I.kept k
 exact⟨J.ok,J.os,J.bare,J.base,J.loc,J.cell,J.free,J.uP,J.pin,J.u1,J.len⟩
theorem lr (hc:X.calm=true):uL X (.builtin "all") (fun xs H Q=>∃ (p:Addr)(bs:List Bool),xs=[.ref p]/\ux X.K H p (bs.map V.bl)/\Q (.bl (bs.all id)) H):=by
 intro pins s σ H xs us Q I r h
 obtain⟨p,bs,rfl,hq,q⟩:=h
 obtain⟨u,rfl,rx⟩:=gP r
 cases rx
 obtain⟨uy,rv,pl,hz⟩:=I.list hq
 have hlen:=rv.length
 rw[length_map]at hlen
 have uX:p < s.heap.objs.size:=by obtain⟨o,n,e,_⟩:=pl;exact lt_size e
 have HZ:∀ (i:Nat)(v:Value),uy.toArray[i]? = some v->v=Value.bool (bs.getD i false):=fun i v hv=>by
  have vG:uy[i]? = some v:=by simpa using hv
  have hi:i < bs.length:=by rw[hlen];exact(List.getElem?_eq_some_iff.mp vG).1
  obtain⟨u,hu,ru⟩:=rv.get (i:=i) (x := .bl bs[i]) (by simp[hi])
  rw[vG]at hu
  cases hu
  rw[getD_eq_getElem?_getD,List.getElem?_eq_getElem hi]
  exact ru
 have hh1:X.A.in1.handled=none:=I.ok.hd hc
 refine call_all_walkS (wpAny_pyIter_list pl.isList ⟨s.heap.objs.size,[s.heap.objs.size,p],[s.heap.objs.size],fun a b=>b=a,uy.toArray.size,fun i v=>uy.toArray[i]? = some v,_,fun i=>bs.getD i false,rfl,
  (Walks.list hh1 _ p (ne_of_lt uX) uy.toArray).toS,⟨⟨_,Heap.get?_push_size _ rfl,rfl,rfl⟩,pl.isList.push _⟩,fun i v s1 Q1 E1 hv E3=>?_,fun s' hm=>?_⟩)
 ·rw[HZ i v hv]
  exact wpAny_truthy_bool E3
 ·have I1:Inv X pins σ H { s with heap:=s.heap.push { cls := .type "list_iterator",data := .fields #[.ref p, .int 0 0] } }:=I.kept (t':=s.toks) fun b o e=>Heap.get?_push_of_some _ e
  refine⟨.bl _,H,I.same (fun b o e=>hm.heap b o (fun hb=>?_) (Heap.get?_push_of_some _ e)) hm.gens hm.os,rfl,?_⟩
  ·have vW:b=s.heap.objs.size:=by simpa using hb
   exact absurd (lt_size e) (by rw[vW];exact lt_irrefl _)
  ·have e:((List.range uy.toArray.size).all fun i=>bs.getD i false)=bs.all id:=by
    rw[size_toArray,← hlen]
    clear HZ hlen hq rv q
    have:(List.range bs.length).map (fun i=>bs.getD i false)=bs:=by
     apply List.ext_getElem
     ·simp
     ·intro i h1 h2
      simp[h2]
    conv=>rhs;rw[← this]
    rw[List.all_map]
    rfl
   rw[e]
   exact q
noncomputable def E4 (K:Frag)(te tk:TE):TE:=fun σ H Q=>te σ H fun x H1=>tk σ H1 fun y H2=>y = .int (-1)/\∃ a xs,x = .ref a/\ux K H2 a xs/\∀ p,H2 p=none->Q (.ref p) (ar H2 p (.lst xs.reverse))
theorem js {xs:List V}{us:List Value}(r:Vals xs us):Vals xs.reverse us.reverse:=by
 induction r with
 | nil=>exact .nil
 | cons r t ih =>
  rw[reverse_cons,reverse_cons]
  exact ih.append (.cons r .nil)
theorem mj {e k:Expr}{te tk:TE}{pos p2:Pos}(he:PE X e te)(hk:PE X k tk):PE X (.Subscript e (.Slice none none (some k) p2) pos) (E4 X.K te tk):=by
 intro pins s σ H Q I h
 refine Subscript_ (aU (he pins s σ H _ I h) fun v s1 ⟨x,H1,I1,r1,q1⟩=>wpAny_Slice ?_)
 rw[evalPart_none]
 refine wpAny_pure (wpAny_pure ?_)
 rw[evalPart_some]
 refine aU (hk pins s1 σ H1 _ I1 q1) fun vk s3 uw=>?_
 obtain⟨y,H3,I3,r3,ey,a,xs,ex,hx,q⟩:=uw
 subst ey
 subst ex
 cases r1
 obtain⟨t,rfl⟩:=r3
 have I4:Inv X pins σ H3 { s3 with heap:=s3.heap.push { cls := .type "slice",data := .fields #[.none, .none, .int (-1) t] } }:=I3.kept (t':=s3.toks) fun b ob q=>Heap.get?_push_of_some _ q
 obtain⟨uy,rv,pl,hz⟩:=I4.list hx
 have hlen:=rv.length
 refine tail_any (ops:=[.ref a, .ref s3.heap.objs.size]) pl.isList.typeIs slot_list_getitem.lookup (wpAny_getItem_list_slice pl.isList (Heap.IsSliceOf.new ..) .none .none (.int (-1) t) (by decide) ?_ (by rw[size_toArray];omega)) (by with_unfolding_all rfl)
 rw[PySem.W.krv_pick]
 refine⟨.ref _,_,I4.laid (t':=s3.toks) (o := .lst xs.reverse) (fun b ob q=>Heap.get?_push_of_some _ q) (le_refl _) ?_,rfl,q _ (I4.u1.fresh (le_refl _))⟩
 refine⟨by rw[length_reverse];exact hz,uy.reverse,0,js rv,?_⟩
 show(Heap.push _ { cls := .type "list",data := .seq uy.reverse.toArray }).get? _=_
 exact Heap.get?_push_size _ rfl
end
end L2
namespace L2
open PySem PySem.Spec PyProof.Rows
section
variable {M:Model}{A:Around}{E:Value->Shared->Prop}{s:Shared}
end
section
variable {X:Cx}{pins:List (Addr × Obj)}{σ:St}{H:Hp}{s:Shared}
end
end L2
namespace L2
open PySem PySem.Spec PyProof.Rows
section
variable {prog:Program}{w:World}{A:Around}{E:Value->Shared->Prop}{s:Shared}{K:Frag}{x C:Addr}{ox:Obj}{name:Str}{v:Value}
open PySem.W in
open PySem.W in
end
end L2
namespace PySem
section
variable {prog:Program}{w:World}{A:Around}{E:Value->Shared->Prop}{h:Heap}{g:Array GenState}{d:Drawn}{t:Nat}{os:OsState}
variable {nm q:Str}{C N:Addr}{bs bm bmB:List Value}{E5:Bool}{sn:List Str}{sub:List Value}{ab:Bool}{col:Option Bool}{dd:Option Addr}{k0 k1 k2 k3 k5:Option Value}{B newId E6:String}
end
section
variable {M:Model}{A:Around}{E:Value->Shared->Prop}{env:Env}
variable {nm q:Str}{C N:Addr}{bs bm:List Value}{E5:Bool}{sn:List Str}{sub:List Value}{ab:Bool}{col:Option Bool}{dd:Option Addr}{k0 k1 k2 k3 k5:Option Value}{newId:String}
end
end PySem
namespace L2
open PySem PySem.Spec PyProof.Rows
section
variable {X:Cx}{C f:Addr}{x:Str}{p pos apos:Pos}{e:Expr}{es:List Expr}{t:TA}
end
end L2
namespace L2
open PySem PySem.Spec PyProof.Rows
section
variable {prog:Program}{w:World}{A:Around}{E:Value->Shared->Prop}{s:Shared}{K:Frag}{x C:Addr}{ox:Obj}{od:Option Obj}{name:Str}{v:Value}
open PySem.W in
open PySem.W in
end
section
variable {X:Cx}{pins:List (Addr × Obj)}{σ:St}{H:Hp}{s:Shared}{ea:Addr}{oe:Obj}
end
end L2
namespace L2
open PySem PySem.Spec PyProof.Rows
section
variable {X:Cx}{o e value:Expr}{f:Str}{pos pos':Pos}{ta tv:TE}
end
section
variable {P:Program}{w:World}{K:Frag}{mg:Str->Option Value}{base:Heap}
end
section
variable {X:Cx}{k:Nat}{f C:Addr}{fd:FuncData}{ps:List Str}{sp:Sp}{v5:List V}{ds:List Value}{x m:Str}{p pos apos:Pos}{e o:Expr}{es:List Expr}{ta:TE}{t:TA}
end
section
variable {X:Cx}{e:Expr}{t:St->Hp->VK->XK->Prop}{pos wZ:Pos}{n:Str}{i:Nat}
end
section
variable {M:Model}{A:Around}{E:Value->Shared->Prop}{s:Shared}
end
end L2
namespace PySem
open Sem (wp)
open AutoSeq1 (wpAny_loadPart')
theorem cZ (l:Addr)(items:Array Value)(n:Nat)(E7:Option Addr)(sl:Array (Option Value)) :
  Meets (Builtin.«enumerate.__new__» ⟨[.type "enumerate", .ref l],[]⟩) (fun _ R s=>s.heap.get? l=some { cls := .type "tuple",dict:=E7,data := .seq items n,slots:=sl } /\
   R (.ok (.ret (.ref (s.heap.push { cls := .type "tuple_iterator",data := .fields #[.ref l, .int 0 0] }).objs.size)))
    { s with heap:=(s.heap.push { cls := .type "tuple_iterator",data := .fields #[.ref l, .int 0 0] }).push { cls := .type "enumerate",data := .fields #[.none, .bool false, .ref s.heap.objs.size,rawInt 0, .none, .none] } }) :=
 .of_wp fun prog w A R s h=>by
  obtain⟨hp,g,d,tk,os⟩:=s;obtain⟨hl,h⟩:=h
  have hsub:=sub_enumerate
  have hL:Heap.IsTuple (Shared.heap ⟨hp,g,d,tk,os⟩) l items:=⟨_,hl,rfl,n,rfl⟩
  wp_walk using wpAny_loadPart' hl
  refine wpAny_stack_any fun st=>wpAny_pure ?_
  split
  ·rename_i c _ _ _ _ _
   cases (c == Value.type "enumerate")
   ·wp_walk using wpAny_loadPart' hl,wpAny_pyIter_tuple hL
    exact⟨_,rfl,h⟩
   ·wp_walk using wpAny_loadPart' hl,wpAny_pyIter_tuple hL
    exact⟨_,rfl,h⟩
  ·wp_walk using wpAny_loadPart' hl,wpAny_pyIter_tuple hL
   exact⟨_,rfl,h⟩
section
variable {prog:Program}{w:World}{A:Around}{E:Value->Shared->Prop}{s:Shared}
theorem dc {l:Addr}{items:Array Value}{Q:Value->Shared->Prop}(hL:s.heap.IsTuple l items)
  (h:∀ h',IsEnum h' (s.heap.objs.size + 1) s.heap.objs.size 0 .none->h'.IsTupleIter s.heap.objs.size l 0->h'.objs.size=s.heap.objs.size + 2 ->
   (∀ b o,s.heap.get? b=some o->h'.get? b=some o)->Q (.ref (s.heap.objs.size + 1)) { s with heap:=h' }) :
  wpAny (model prog w) A (call (.type "enumerate") [.ref l]) Q E s:=by
 obtain⟨⟨c,E7,dt,sl⟩,hl,hc,n,hd⟩:=hL
 replace hc:c = .type "tuple":=hc
 replace hd:dt = .seq items n:=hd
 subst hc hd
 refine callType_new F.called_enumerate (by decide) (F.typeCall_enumerate_1 _) (F.newCall_enumerate_1 _) (fun obj=>F.args_object_init_2 obj _) F.entry_enumerate_new
  (cZ l items n E7 sl) ⟨hl,?_⟩
 have hz:(s.heap.push { cls := .type "tuple_iterator",data := .fields #[.ref l, .int 0 0] }).objs.size=s.heap.objs.size + 1:=size_push ..
 show _/\_
 rw[hz]
 have he:IsEnum ((s.heap.push { cls := .type "tuple_iterator",data := .fields #[.ref l, .int 0 0] }).push
   { cls := .type "enumerate",data := .fields #[.none, .bool false, .ref s.heap.objs.size,rawInt 0, .none, .none] }) (s.heap.objs.size + 1) s.heap.objs.size 0 .none:=by
  have:=Heap.get?_push_size (s.heap.push { cls := .type "tuple_iterator",data := .fields #[.ref l, .int 0 0] })
   (o:={ cls := .type "enumerate",data := .fields #[.none, .bool false, .ref s.heap.objs.size,rawInt 0, .none, .none] }) rfl
  rw[hz]at this;exact this
 refine⟨⟨_,he,rfl⟩,h _ he ⟨_,Heap.get?_push_of_some _ (Heap.get?_push_size _ rfl),rfl,rfl⟩ (by rw[size_push,hz]) fun b o x=>Heap.get?_push_of_some _ (Heap.get?_push_of_some _ x)⟩
theorem eo {it l:Addr}{i:Nat} {items} {x:Value} {Q:Value->Shared->Prop} (hit:s.heap.IsTupleIter it l i)
  (hl:s.heap.IsTuple l items) (hx:items[i]? = some x)
  (hQ:∀ h',h'.IsTupleIter it l (i + 1)->Heap.SameBut it s.heap h'->Q x { s with heap:=h' }) :
  wpAny (model prog w) A (Builtin.SmallTypes.nextOf (.ref it)) Q E s:=by
 obtain⟨o,ho,hc,hd⟩:=id hit
 obtain⟨ol,E8,_,nl,E9⟩:=hl
 unfold Builtin.SmallTypes.nextOf
 refine wpAny_bind (wpAny_callSpecial?_slot (name:=Str.ofString "__next__") hit.typeIs F.slot_tuple_iterator_next
  (wpAny_call_entry F.slot_tuple_iterator_next hit.typeIs F.entry_tuple_iterator_next ?_ (F.args_tuple_iterator_next_1 _)))
 show wpAny _ _ (field (.ref it) 0 >>= _) _ _ s
 refine wpAny_bind (wpAny_field ho hd (x := .ref l) rfl ?_)
 show wpAny _ _ (if (Value.ref l == Value.none)=true then _ else _) _ _ s
 rw[if_neg (show ¬ ((Value.ref l == Value.none)=true) from Bool.false_ne_true)]
 show wpAny _ _ (field (.ref it) 1 >>= _) _ _ s
 refine wpAny_bind (wpAny_field ho hd (x := .int i 0) rfl ?_)
 show wpAny _ _ (seqItems? (.ref l) >>= _) _ _ s
 refine wpAny_bind (wpAny_seqItems E8 E9 ?_)
 simp only[toNat_natCast,hx]
 refine wpAny_bind (wpAny_setField ho hd (by simp) (wpAny_pure ⟨x,rfl,wpAny_pure (hQ _ ?_ (Heap.SameBut.update ..))⟩))
 exact⟨_,Heap.get?_update_self _ ho (Obj.isFreed_of_fields (Obj.data_mapFields hd _)),(Obj.cls_mapFields ..).trans hc,by
  rw[Obj.data_mapFields hd];simp[rawInt]⟩
theorem eI {it l:Addr}{i:Nat} {items} {Q:Value->Shared->Prop} (hh:A.handled=none)
  (hit:s.heap.IsTupleIter it l i) (hl:s.heap.IsTuple l items) (hx:items[i]? = none)
  (hE:∀ h' e,Heap.ExtBut it s.heap h'->(∃ o,h'.get? e=some o/\o.cls = .type "StopIteration")->E (.ref e) { s with heap:=h' }) :
  wpAny (model prog w) A (Builtin.SmallTypes.nextOf (.ref it)) Q E s:=by
 obtain⟨o,ho,hc,hd⟩:=id hit
 obtain⟨ol,E8,_,nl,E9⟩:=hl
 unfold Builtin.SmallTypes.nextOf
 refine wpAny_bind (wpAny_callSpecial?_slot (name:=Str.ofString "__next__") hit.typeIs F.slot_tuple_iterator_next
  (wpAny_call_entry F.slot_tuple_iterator_next hit.typeIs F.entry_tuple_iterator_next ?_ (F.args_tuple_iterator_next_1 _)))
 show wpAny _ _ (field (.ref it) 0 >>= _) _ _ s
 refine wpAny_bind (wpAny_field ho hd (x := .ref l) rfl ?_)
 show wpAny _ _ (if (Value.ref l == Value.none)=true then _ else _) _ _ s
 rw[if_neg (show ¬ ((Value.ref l == Value.none)=true) from Bool.false_ne_true)]
 show wpAny _ _ (field (.ref it) 1 >>= _) _ _ s
 refine wpAny_bind (wpAny_field ho hd (x := .int i 0) rfl ?_)
 show wpAny _ _ (seqItems? (.ref l) >>= _) _ _ s
 refine wpAny_bind (wpAny_seqItems E8 E9 ?_)
 simp only[toNat_natCast,hx]
 refine wpAny_bind (wpAny_rule (wpAny_bind (wpAny_setField ho hd (by simp) ?_)))
 show wpAny _ _ (newExc (.type "StopIteration") [] >>= _) _ _ _
 refine wpAny_bind ?_
 simp only[newExc,newTuple]
 refine wpAny_bind (wpAny_newObj_type ?_ (by size_fits))
 refine wpAny_bind (m:=firstArgMember _ _) (wpAny_of_eq (a:=Value.none) (by first | rfl | (simp only[firstArgMember];rfl)) ?_)
 refine wpAny_newObj_type ?_ (by size_fits)
 simp only[raiseNew]
 refine wpAny_bind (wpAny_handled ?_)
 first | rw[show A.in1.handled=none from hh] | rw[hh]
 refine wpAny_bind (wpAny_pure (wpAny_throw ?_))
 exact hE _ _ (((Heap.SameBut.update ..).extBut.push _).push _) ⟨_,Heap.get?_push_size _ rfl,rfl⟩
end
theorem eC {prog:Program}{w:World}{A:Around}(hh:A.handled=none)(it l:Addr)(ve:l ≠ it)(items:Array Value) :
  Draws prog w A it [it,l] items.size (fun i v=>items[i]? = some v) (fun i h=>h.IsTupleIter it l i/\h.IsTuple l items) where
 live:=fun _ _ st=>let ⟨o,ho,_⟩:=st.1; ⟨o,ho⟩
 frame:=fun _ _ _ st hk=>⟨st.1.at fun o e=>hk it (by simp) o e,let ⟨o,ho,r⟩:=st.2; ⟨o,hk l (by simp) o ho,r⟩⟩
 item:=fun i s Q E hi st hQ=>by
  refine eo st.1 st.2 (x:=items[i]) (by simp[hi]) fun h' EA yA=>?_
  exact hQ _ h' s.toks (by simp[hi]) ⟨EA,let ⟨o,ho,r⟩:=st.2; ⟨o,yA.extBut l o ve ho,r⟩⟩ yA
 done:=fun s Q E st hE=>eI hh st.1 st.2 (by simp) hE
end PySem
namespace L2
open PySem PySem.Spec PyProof.Rows
section
variable {X:Cx}{pins:List (Addr × Obj)}{σ:St}{H:Hp}{s:Shared}
theorem Inv.zb {h':Heap}{t':Nat}{a b p:Addr}{xs:List V}{us:List Value}(I:Inv X pins σ H s)(fa:eA X pins H a)(fb:eA X pins H b)(hp:s.heap.objs.size <= p)
  (k:∀ c o,c ≠ a->c ≠ b->s.heap.get? c=some o->h'.get? c=some o) (ka:∃ o,h'.get? a=some o) (kb:∃ o,h'.get? b=some o) (hl:xs.length <= sizeLine) (r:Vals xs us) (ht:vh h' p us.toArray) :
  Inv X pins σ (ar H p (.tup xs)) { s with heap:=h',toks:=t' }:=by
 have hf:H p=none:=I.u1.fresh hp
 have nt:∀ c u,H c=some u->c ≠ p:=fun c u q z=>by rw[z,hf]at q;cases q
 have lt:∀ c o,s.heap.get? c=some o->c ≠ p:=fun c o q=>ne_of_lt (lt_of_lt_of_le (lt_size q) hp)
 have ne:∀ c,c ∉ [a,b]->c ≠ a/\c ≠ b:=fun c hc=>by simpa using hc
 refine I.call (g':=s.gens) (d':=s.drawn) (ch:=[a,b]) ⟨fun c o e n h1 h2=>k c o (ne c h2).1 (ne c h2).2 e,fun c o e n h1 h2=>⟨o.slots,k c o (ne c h2).1 (ne c h2).2 e⟩,fun c o e n h2=>by rw[ak (lt c o e)];exact n,
  fun c o e h2=>⟨o,k c o (ne c h2).1 (ne c h2).2 e⟩,fun c ys q=>by rw[ak (nt c _ q)];exact q,fun c o u q=>by rw[ak (nt c _ q)];exact q,fun c ps q=>⟨#[],by rw[ak (nt c _ q),q];simp⟩⟩ (fun c u q=>?_) I.bare fun c hc=>?_
 ·by_cases hc:c=p
  ·subst hc
   rw[ac]at q
   cases q
   exact⟨hl,us,r,ht⟩
  ·rw[ak hc]at q
   refine(I.u1 c u q).vi (fun d v hd z=>?_) (fun d z=>by rw[ak (nt d _ z)];exact z) fun d ys z=>by rw[ak (nt d _ z)];exact z
   have nd:∀ e,H e=none->d ≠ e:=fun e he w=>by
    rcases hd with rfl | hd
    ·rw[w,he]at q;cases q
    ·rw[w,he]at hd;cases hd
   exact k d v (nd a fa.1) (nd b fb.1) z
 ·have zH:c=a∨c=b:=by simpa using hc
  rcases zH with rfl | rfl
  ·obtain⟨_,f1,_,f3,f4,f5⟩:=fa;exact⟨f3,f1,f4,f5⟩
  ·obtain⟨_,f1,_,f3,f4,f5⟩:=fb;exact⟨f3,f1,f4,f5⟩
theorem Inv.wN {h':Heap}{t':Nat}{a b:Addr}(I:Inv X pins σ H s)(fa:eA X pins H a)(fb:eA X pins H b)
  (k:∀ c o,c ≠ a->c ≠ b->s.heap.get? c=some o->h'.get? c=some o):Inv X pins σ H { s with heap:=h',toks:=t' }:=by
 have ne:∀ c,c ∉ [a,b]->c ≠ a/\c ≠ b:=fun c hc=>by simpa using hc
 refine I.call (g':=s.gens) (d':=s.drawn) (ch:=[a,b]) ⟨fun c o e n h1 h2=>k c o (ne c h2).1 (ne c h2).2 e,fun c o e n h1 h2=>⟨o.slots,k c o (ne c h2).1 (ne c h2).2 e⟩,fun c o e n h2=>n,
  fun c o e h2=>⟨o,k c o (ne c h2).1 (ne c h2).2 e⟩,fun c ys q=>q,fun c o u q=>q,fun c ps q=>⟨#[],by rw[q];simp⟩⟩ (fun c u q=>?_) I.bare fun c hc=>?_
 ·refine(I.u1 c u q).vi (fun d v hd z=>?_) (fun d z=>z) fun d ys z=>z
  have nd:∀ e,H e=none->d ≠ e:=fun e he w=>by
   rcases hd with rfl | hd
   ·rw[w,he]at q;cases q
   ·rw[w,he]at hd;cases hd
  exact k d v (nd a fa.1) (nd b fb.1) z
 ·have zH:c=a∨c=b:=by simpa using hc
  rcases zH with rfl | rfl
  ·obtain⟨_,f1,_,f3,f4,f5⟩:=fa;exact⟨f3,f1,f4,f5⟩
  ·obtain⟨_,f1,_,f3,f4,f5⟩:=fb;exact⟨f3,f1,f4,f5⟩
theorem jj {e it:Addr}{fp:List Addr}{n i:Nat}{P:Nat->Value->Prop}{Sx:Nat->Heap->Prop}{old:Value}{xs:List V}{E:Value->Shared->Prop}{elts:List Expr}{kk:Nat}{pos:Pos}
  (D:Draws X.prog X.w X.A.in1 it fp n P Sx) (I:Inv X pins σ H s) (he:IsEnum s.heap e it i old) (y2:Sx i s.heap) (uX:i < n) (ve:e ≠ it) (Ia:e ∉ fp) (fe:eA X pins H e) (fi:eA X pins H it)
  (hP:∀ v,P i v->∃ x,xs[i]? = some x/\RelV x v) :
  wpAny (model X.prog X.w) X.A (pyNext (.ref e)) (fun r s1=>∃ u,r=some u/\wpAny (model X.prog X.w) X.A (letOwnedTupleGo (.Tuple elts kk pos) (.ref e) u) (fun _ s2=>∃ p x,xs[i]? = some x/\H p=none/\u = .ref p /\
   Inv X pins σ (ar H p (.tup [.int i,x])) s2/\(∃ old,IsEnum s2.heap e it ((i + 1:Nat):Int) old)/\Sx (i + 1) s2.heap/\p ≠ e/\p ≠ it) E s1) E s:=by
 refine wpAny_pyNext_enum_itemD D he y2 uX ve Ia fun x h' tk hx ho yA hT hsz hk=>⟨_,rfl,?_⟩
 refine wpAny_letOwnedTupleGo_enum ho fun h2 zL xl=>?_
 obtain⟨y,hy,ry⟩:=hP x hx
 have Ib:e < s.heap.objs.size:=lt_size he
 have hie:it < s.heap.objs.size:=by obtain⟨_,z⟩:=D.live _ _ y2;exact lt_size z
 have AW:Sx (i + 1) h2:=D.frame _ _ _ yA fun b hb o z=>(xl.2 b fun q=>Ia (q ▸ hb)).trans z
 refine⟨s.heap.objs.size,y,hy,I.u1.fresh (le_refl _),rfl,?_,⟨x,by simpa using zL⟩,AW,ne_of_gt Ib,ne_of_gt hie⟩
 refine Inv.zb (s:=s) (h':=h2) (t':=tk + 1) I fe fi (le_refl _) (fun c o h1 h2' z=>(xl.2 c h1).trans (hk c o h1 h2' z)) ⟨_,zL⟩ (let ⟨o,z⟩:=D.live _ _ AW; ⟨o,z⟩) (by show 2 <= sizeLine;decide) (us:=[.int i tk,x]) (.cons ⟨tk,rfl⟩ (.cons ry .nil)) ?_
 exact⟨_,(xl.2 _ (ne_of_gt Ib)).trans hT,⟨rfl,_,rfl⟩,rfl⟩
end
noncomputable def uq (sq:Hp->List V->Prop):It :=
 ⟨fun i H=>∃ xs x,sq H xs/\xs[i]? = some x,fun i H v H'=>∃ p,H p=none/\v = .ref p/\∀ xs,sq H xs->∃ x,xs[i]? = some x/\H' = ar H p (.tup [.int i,x]),fun i H=>∃ xs,sq H xs/\xs.length=i⟩
theorem lK {P:Program}{w:World}{K:Frag}{elts:List Expr}{kk:Nat}{pos:Pos}(a e it:Addr)(ve:e ≠ it):lA P w K (.Tuple elts kk pos) (uq fun H=>ux K H a) [e,it] e (fun i h=>(∃ old,IsEnum h e it (i:Int) old)/\h.IsListIter it a i) where
 mem:=by simp
 obj:=fun i h st b hb=>by
  obtain⟨⟨old,he⟩,o,ho,c,d⟩:=st
  have vW:b=e∨b=it:=by simpa using hb
  rcases vW with rfl | rfl
  ·exact⟨_,he,fun v z=>by have z':Data.fields _=Data.cell v:=z;cases z'⟩
  ·exact⟨o,ho,fun v z=>by rw[d]at z;cases z⟩
 keep:=fun i h h' st k=>by
  obtain⟨⟨old,he⟩,hi⟩:=st
  exact⟨⟨old,k e (by simp) _ he⟩,hi.at fun o z=>k it (by simp) o z⟩
 item:=by
  intro X hP hw hK hc i pins s σ H E I hf st hg
  subst hP hw hK
  obtain⟨xs,x,hq,hx⟩:=hg
  obtain⟨uy,rv,p,hz⟩:=I.list hq
  obtain⟨⟨old,he⟩,hi⟩:=st
  have hl:i < uy.toArray.size:=by
   have:=(List.getElem?_eq_some_iff.mp hx).1
   have l2:=rv.length
   simp;omega
  have EB:e ≠ a:=by
   rintro rfl
   obtain⟨o,ho,wd,_⟩:=p.isList
   rw[he]at ho;cases ho
   injection wd with z;exact absurd z (by decide)
  have xB:a ≠ it:=by
   rintro rfl
   obtain⟨o,ho,wd,_⟩:=p.isList
   obtain⟨o2,wB,xC,_⟩:=hi
   rw[ho]at wB;cases wB;rw[wd]at xC
   injection xC with z;exact absurd z (by decide)
  refine aU (jj (xs:=xs) (Draws.list (A:=X.A.in1) (I.ok.hd hc) it a xB uy.toArray) I he ⟨hi,p.isList⟩ hl ve (by simp only[mem_cons,not_mem_nil,or_false,not_or];exact⟨ve,EB⟩) (hf e (by simp)) (hf it (by simp)) fun v hv=>?_) fun r s1 ⟨u,hr,h1⟩=>⟨u,hr,aU h1 fun _ s2 ⟨q,y,hy,EC,hu,I2,zL,xl,n1,n2⟩=>?_⟩
  ·obtain⟨u,hu,ru⟩:=rv.get hx
   have e1:uy[i]? = some v:=by simpa using hv
   rw[hu]at e1;cases e1
   exact⟨x,hx,ru⟩
  ·refine⟨.ref q,_,I2,hu,⟨q,EC,rfl,fun zs AX=>⟨y,by rw[I.vZ AX hq];exact hy,rfl⟩⟩,⟨zL,xl.1⟩,fun b hb=>?_⟩
   have vW:b=e∨b=it:=by simpa using hb
   rcases vW with rfl | rfl
   ·rw[ak (Ne.symm n1)];exact(hf b (by simp)).1
   ·rw[ak (Ne.symm n2)];exact(hf b (by simp)).1
 done:=by
  intro X hP hw hK hc i pins s σ H E I hf st hg
  subst hP hw hK
  obtain⟨xs,hq,hx⟩:=hg
  obtain⟨uy,rv,p,hz⟩:=I.list hq
  obtain⟨⟨old,he⟩,hi⟩:=st
  have hl:i=uy.toArray.size:=by have l2:=rv.length;simp;omega
  have xB:a ≠ it:=by
   rintro rfl
   obtain⟨o,ho,wd,_⟩:=p.isList
   obtain⟨o2,wB,xC,_⟩:=hi
   rw[ho]at wB;cases wB;rw[wd]at xC
   injection xC with z;exact absurd z (by decide)
  refine wpAny_pyNext_enum_endD (Draws.list (A:=X.A.in1) (I.ok.hd hc) it a xB uy.toArray) he (by rw[← hl];exact⟨hi,p.isList⟩) fun h' vm=>⟨rfl,?_⟩
  exact I.wN (t':=s.toks) (hf e (by simp)) (hf it (by simp)) fun c o h1 h2 z=>vm c o h2 z
 self:=fun _ _ _ _ _ st h=>by
  obtain⟨⟨old,he⟩,_⟩:=st
  exact wpAny_pyIter_enum he h
theorem lJ {P:Program}{w:World}{K:Frag}{elts:List Expr}{kk:Nat}{pos:Pos}(a e it:Addr)(ve:e ≠ it):lA P w K (.Tuple elts kk pos) (uq fun H=>uE K H a) [e,it] e (fun i h=>(∃ old,IsEnum h e it (i:Int) old)/\h.IsTupleIter it a i) where
 mem:=by simp
 obj:=fun i h st b hb=>by
  obtain⟨⟨old,he⟩,o,ho,c,d⟩:=st
  have vW:b=e∨b=it:=by simpa using hb
  rcases vW with rfl | rfl
  ·exact⟨_,he,fun v z=>by have z':Data.fields _=Data.cell v:=z;cases z'⟩
  ·exact⟨o,ho,fun v z=>by rw[d]at z;cases z⟩
 keep:=fun i h h' st k=>by
  obtain⟨⟨old,he⟩,hi⟩:=st
  exact⟨⟨old,k e (by simp) _ he⟩,hi.at fun o z=>k it (by simp) o z⟩
 item:=by
  intro X hP hw hK hc i pins s σ H E I hf st hg
  subst hP hw hK
  obtain⟨xs,x,hq,hx⟩:=hg
  obtain⟨uy,rv,p,hz⟩:=I.tuple hq
  have pt:s.heap.IsTuple a uy.toArray:=p
  obtain⟨⟨old,he⟩,hi⟩:=st
  have hl:i < uy.toArray.size:=by
   have:=(List.getElem?_eq_some_iff.mp hx).1
   have l2:=rv.length
   simp;omega
  have EB:e ≠ a:=by
   rintro rfl
   obtain⟨o,ho,wd,_⟩:=pt
   rw[he]at ho;cases ho
   injection wd with z;exact absurd z (by decide)
  have xB:a ≠ it:=by
   rintro rfl
   obtain⟨o,ho,wd,_⟩:=pt
   obtain⟨o2,wB,xC,_⟩:=hi
   rw[ho]at wB;cases wB;rw[wd]at xC
   injection xC with z;exact absurd z (by decide)
  refine aU (jj (xs:=xs) (eC (A:=X.A.in1) (I.ok.hd hc) it a xB uy.toArray) I he ⟨hi,pt⟩ hl ve (by simp only[mem_cons,not_mem_nil,or_false,not_or];exact⟨ve,EB⟩) (hf e (by simp)) (hf it (by simp)) fun v hv=>?_) fun r s1 ⟨u,hr,h1⟩=>⟨u,hr,aU h1 fun _ s2 ⟨q,y,hy,EC,hu,I2,zL,xl,n1,n2⟩=>?_⟩
  ·obtain⟨u,hu,ru⟩:=rv.get hx
   have e1:uy[i]? = some v:=by simpa using hv
   rw[hu]at e1;cases e1
   exact⟨x,hx,ru⟩
  ·refine⟨.ref q,_,I2,hu,⟨q,EC,rfl,fun zs AX=>⟨y,by rw[I.vK AX hq];exact hy,rfl⟩⟩,⟨zL,xl.1⟩,fun b hb=>?_⟩
   have vW:b=e∨b=it:=by simpa using hb
   rcases vW with rfl | rfl
   ·rw[ak (Ne.symm n1)];exact(hf b (by simp)).1
   ·rw[ak (Ne.symm n2)];exact(hf b (by simp)).1
 done:=by
  intro X hP hw hK hc i pins s σ H E I hf st hg
  subst hP hw hK
  obtain⟨xs,hq,hx⟩:=hg
  obtain⟨uy,rv,p,hz⟩:=I.tuple hq
  have pt:s.heap.IsTuple a uy.toArray:=p
  obtain⟨⟨old,he⟩,hi⟩:=st
  have hl:i=uy.toArray.size:=by have l2:=rv.length;simp;omega
  have xB:a ≠ it:=by
   rintro rfl
   obtain⟨o,ho,wd,_⟩:=pt
   obtain⟨o2,wB,xC,_⟩:=hi
   rw[ho]at wB;cases wB;rw[wd]at xC
   injection xC with z;exact absurd z (by decide)
  refine wpAny_pyNext_enum_endD (eC (A:=X.A.in1) (I.ok.hd hc) it a xB uy.toArray) he (by rw[← hl];exact⟨hi,pt⟩) fun h' vm=>⟨rfl,?_⟩
  exact I.wN (t':=s.toks) (hf e (by simp)) (hf it (by simp)) fun c o h1 h2 z=>vm c o h2 z
 self:=fun _ _ _ _ _ st h=>by
  obtain⟨⟨old,he⟩,_⟩:=st
  exact wpAny_pyIter_enum he h
section
variable {X:Cx}{elts:List Expr}{kk:Nat}{wZ p pos:Pos}{a:Expr}{ta:TE}
noncomputable def ED (K:Frag)(t:TA):TI:=fun σ H R=>t σ H fun vs H1=>∃ a,vs=[.ref a]/\(∃ xs,ux K H1 a xs)/\R (uq fun H=>ux K H a) H1
noncomputable def EE (K:Frag)(t:TA):TI:=fun σ H R=>t σ H fun vs H1=>∃ a,vs=[.ref a]/\(∃ xs,uE K H1 a xs)/\R (uq fun H=>uE K H a) H1
theorem kz {t:TA}(hg:Gl X "enumerate")(hm:X.mg "enumerate" = none)(ha:PA X [a] t)(hs:starEach [a] X.env=[(false,eval a X.env)]:=by rfl):PI X (.Tuple elts kk wZ) (.Call (.Name "enumerate" p) [a] [] pos) (ED X.K t):=by
 intro pins s σ H R I h
 refine Call_ (fX I hg hm boot_enumerate (PyProof.Rows.callWith_type1 (aU (ha pos pins s σ H _ I h) fun us s1 uw=>?_) hs rfl))
 obtain⟨vs,H1,I1,r1,q1⟩:=uw
 obtain⟨l,e,⟨xs,hq⟩,q⟩:=q1
 subst e
 cases r1 with
 | cons r rr =>
  cases rr
  cases r
  obtain⟨uy,rv,pp,hz⟩:=I1.list hq
  refine call_enumerate_list pp.isList fun h' he hit hsz hk=>?_
  have I2:Inv X pins σ H1 { s1 with heap:=h' }:=I1.kept (t':=s1.toks) hk
  refine wpAny_pyIter_enum (s:={ s1 with heap:=h' }) he ?_
  refine⟨_,_,_,_,H1,rfl,I2,lK l _ s1.heap.objs.size (Nat.succ_ne_self _),⟨⟨_,he⟩,hit⟩,fun b hb=>?_,q⟩
  have vW:b=s1.heap.objs.size + 1∨b=s1.heap.objs.size:=by simpa using hb
  have hle:s1.heap.objs.size <= b:=by
   rcases vW with e | e
   ·rw[e];exact le_succ _
   ·rw[e];exact le_refl _
  exact I1.wY hle (I1.u1.fresh hle)
theorem ku {t:TA}(hg:Gl X "enumerate")(hm:X.mg "enumerate" = none)(ha:PA X [a] t)(hs:starEach [a] X.env=[(false,eval a X.env)]:=by rfl):PI X (.Tuple elts kk wZ) (.Call (.Name "enumerate" p) [a] [] pos) (EE X.K t):=by
 intro pins s σ H R I h
 refine Call_ (fX I hg hm boot_enumerate (PyProof.Rows.callWith_type1 (aU (ha pos pins s σ H _ I h) fun us s1 uw=>?_) hs rfl))
 obtain⟨vs,H1,I1,r1,q1⟩:=uw
 obtain⟨l,e,⟨xs,hq⟩,q⟩:=q1
 subst e
 cases r1 with
 | cons r rr =>
  cases rr
  cases r
  obtain⟨uy,rv,pp,hz⟩:=I1.tuple hq
  refine dc (show s1.heap.IsTuple l uy.toArray from pp) fun h' he hit hsz hk=>?_
  have I2:Inv X pins σ H1 { s1 with heap:=h' }:=I1.kept (t':=s1.toks) hk
  refine wpAny_pyIter_enum (s:={ s1 with heap:=h' }) he ?_
  refine⟨_,_,_,_,H1,rfl,I2,lJ l _ s1.heap.objs.size (Nat.succ_ne_self _),⟨⟨_,he⟩,hit⟩,fun b hb=>?_,q⟩
  have vW:b=s1.heap.objs.size + 1∨b=s1.heap.objs.size:=by simpa using hb
  have hle:s1.heap.objs.size <= b:=by
   rcases vW with e | e
   ·rw[e];exact le_succ _
   ·rw[e];exact le_refl _
  exact I1.wY hle (I1.u1.fresh hle)
end
theorem kR {sq:Hp->List V->Prop}{xs:List V}{g:TG}{tb:TS}{D:lC}{σ:St}{H:Hp}(Pv:Nat->St->Hp->Prop)(h0:Pv 0 σ H)(hl:∀ i σ H,i <= xs.length->Pv i σ H->sq H xs)
  (hs:∀ i x p σ H,xs[i]? = some x->Pv i σ H->H p=none->g (.ref p) σ (ar H p (.tup [.int i,x])) fun σ2 H2=>tb { D with nx:=Pv (i + 1),ct:=Pv (i + 1),bk:=D.nx } σ2 H2) (hd:∀ σ H,Pv xs.length σ H->D.nx σ H) :
  ∃ W:Nat->Nat->St->Hp->Prop,(∃ m,W 0 m σ H)/\∀ i m σ H,W i m σ H ->
   ((uq sq).stop i H/\D.nx σ H)∨((uq sq).go i H/\∃ N:St->Hp->Prop,(∀ σ' H',N σ' H'->∃ m',m' < m/\W (i + 1) m' σ' H')/\∀ x H',(uq sq).xP i H x H'->g x σ H' fun σ2 H2=>tb { D with nx:=N,ct:=N,bk:=D.nx } σ2 H2):=by
 refine⟨fun i m σ H=>m=xs.length - i/\i <= xs.length/\Pv i σ H,⟨xs.length,by simp,zero_le _,h0⟩,?_⟩
 rintro i m σ H ⟨rfl,hi,p⟩
 have q:=hl i σ H hi p
 by_cases uX:i < xs.length
 ·refine .inr ⟨⟨xs,xs[i],q,by simp[uX]⟩,Pv (i + 1),fun σ' H' p'=>⟨xs.length - (i + 1),by omega,rfl,uX,p'⟩,fun x H' y=>?_⟩
  obtain⟨pp,hn,rfl,hx⟩:=y
  obtain⟨x',vm,e⟩:=hx xs q
  subst e
  exact hs i x' pp σ H vm p hn
 ·have e:i=xs.length:=by omega
  subst e
  exact .inl ⟨⟨xs,q,rfl⟩,hd σ H p⟩
end L2
namespace L2
open PySem PySem.Spec PyProof.Rows
noncomputable def xD (d:PyData)(m:Nat):Prop:=d.canLay0=true/\d.depth <= m
theorem xD.shaped {d:PyData}{m:Nat}(h:xD d m)(hm:m <= 64):SeqAt.shaped d=true:=by
 unfold SeqAt.shaped
 rw[h.1,decide_eq_true (le_trans h.2 hm)];rfl
theorem qT (i:Int):xD (.int i) 0:=⟨by simp[PyData.canLay0],by simp[PyData.depth]⟩
theorem pw {m:Nat}:∀ {ds:List PyData},(∀ d ∈ ds,xD d m)->PyData.canLayAll0 ds=true/\PyData.depthAll ds <= m
 | [],_=>⟨by simp[PyData.canLayAll0],by simp[PyData.depthAll]⟩
 | d :: r,h=>by
  obtain⟨a,b⟩:=pw (ds:=r) fun z hz=>h z (mem_cons_of_mem _ hz)
  obtain⟨c,e⟩:=h d mem_cons_self
  exact⟨by simp[PyData.canLayAll0,c,a],by simp only[PyData.depthAll];omega⟩
theorem iY {m:Nat}{ds:List PyData}(h:∀ d ∈ ds,xD d m):xD (.tuple ds) (m + 1):=by
 obtain⟨a,b⟩:=pw h
 exact⟨by simp[PyData.canLay0,a],by simp only[PyData.depth];omega⟩
theorem neS {K:Frag}{x y:V}{H:Hp}{Q:VK}{d:PyData}(h1:mT K H x d)(h2:mT K H y d)(s:xD d 64)(q:Q (.bl false) H):AV K x y H Q :=
 ⟨d,d,h1,h2,s.shaped (le_refl _),s.shaped (le_refl _),by rw[SeqAt.eqv_refl d s.1];exact q⟩
theorem xD.le {d:PyData}{m n:Nat}(h:xD d m)(l:m <= n):xD d n:=⟨h.1,le_trans h.2 l⟩
end L2
namespace L2
open PySem
theorem iH {n:Nat}{lo:Int}{g:TG}{tt:TT}{te:TE}{σ0:St}{H:Hp}{Q:VK}(p:Nat->Bool)(f:Nat->V)(hn:n < sizeLine)
  (hs:∀ (i:Nat)(acc:List V)(N:List V->Hp->Prop),i < n->N (if p i then acc ++ [f i] else acc) H->g (.int (lo + i)) σ0 H fun σ2 H2=>tt σ2 H2 fun b H3=>if b=true then te σ2 H3 fun y H4=>N (acc ++ [y]) H4 else N acc H3)
  (hq:∀ D,H D=none->Q (.ref D) (ar H D (.lst (((List.range n).filter p).map f)))) :
  eG (sy lo n) g tt te σ0 Q H:=by
 refine⟨fun i m acc H'=>m=n - i/\i <= n/\H' = H/\acc=((List.range i).filter p).map f,⟨n,by simp,zero_le _,rfl,rfl⟩,?_⟩
 rintro i m acc H' ⟨rfl,hi,rfl,rfl⟩
 have hl:(((List.range i).filter p).map f).length < sizeLine:=by
  rw[length_map]
  have:=length_filter_le p (List.range i)
  rw[length_range]at this
  omega
 refine⟨hl,?_⟩
 by_cases uX:i < n
 ·refine .inr ⟨uX,fun uR H2=>H2=H'/\uR = ((List.range (i + 1)).filter p).map f,fun uR H2 uw=>by obtain⟨h1,h2⟩:=uw;exact⟨n - (i + 1),by omega,rfl,uX,h1,h2⟩,fun x H2 y=>?_⟩
  obtain⟨e,y⟩:=y
  subst e y
  refine hs i _ (fun uR H3=>H3=H2/\uR = ((List.range (i + 1)).filter p).map f) uX ⟨rfl,?_⟩
  rw[range_succ,filter_append]
  cases hp:p i with
  | true=>simp[hp]
  | false=>simp[hp]
 ·have e:i=n:=by omega
  subst e
  exact .inl ⟨le_refl _,hq⟩
theorem iI {K:Frag}{a:Addr}{xs:List V}{g:TG}{tt:TT}{te:TE}{σ0:St}{H:Hp}{Q:VK}(p:V->Bool)(f:V->V)(hn:xs.length < sizeLine)(ha:ux K H a xs)
  (hs:∀ (x:V)(acc:List V)(N:List V->Hp->Prop),x ∈ xs->N (if p x then acc ++ [f x] else acc) H->g x σ0 H fun σ2 H2=>tt σ2 H2 fun b H3=>if b=true then te σ2 H3 fun y H4=>N (acc ++ [y]) H4 else N acc H3)
  (hq:∀ D,H D=none->Q (.ref D) (ar H D (.lst ((xs.filter p).map f)))) :
  eG (sf K a) g tt te σ0 Q H:=by
 refine⟨fun i m acc H'=>m=xs.length - i/\i <= xs.length/\H' = H/\acc=((xs.take i).filter p).map f,⟨xs.length,by simp,zero_le _,rfl,rfl⟩,?_⟩
 rintro i m acc H' ⟨rfl,hi,rfl,rfl⟩
 have hl:(((xs.take i).filter p).map f).length < sizeLine:=by
  rw[length_map]
  have h1:=length_filter_le p (xs.take i)
  have h2:=length_take_le i xs
  omega
 refine⟨hl,?_⟩
 by_cases uX:i < xs.length
 ·refine .inr ⟨⟨xs,xs[i],ha,by simp[uX]⟩,fun uR H2=>H2=H'/\uR = ((xs.take (i + 1)).filter p).map f,fun uR H2 uw=>by obtain⟨h1,h2⟩:=uw;exact⟨xs.length - (i + 1),by omega,rfl,uX,h1,h2⟩,fun x H2 y=>?_⟩
  obtain⟨e,y⟩:=y
  subst e
  have hx:=y xs ha
  refine hs x _ (fun uR H3=>H3=H2/\uR = ((xs.take (i + 1)).filter p).map f) (mem_of_getElem? hx) ⟨rfl,?_⟩
  rw[take_succ,hx,filter_append]
  cases hp:p x with
  | true=>simp[hp]
  | false=>simp[hp]
 ·have e:i=xs.length:=by omega
  subst e
  rw[take_length]
  exact .inl ⟨⟨xs,ha,le_refl _⟩,hq⟩
theorem jO (k:Int):∀ ns:List Int,ss (.int k) (ns.map V.int)=decide (k ∈ ns)
 | []=>by simp[ss]
 | n :: r=>by
  have ih:=jO k r
  unfold ss at ih ⊢
  rw[map_cons,any_cons,ih]
  show((n == k) || decide (k ∈ r))=decide (k ∈ n :: r)
  by_cases h:k=n
  ·subst h;simp
  ·have h':¬ n=k:=fun z=>h z.symm
   simp[h,h']
theorem gc:∀ ns:List Int,(ns.map V.int).all eD=true
 | []=>rfl
 | n :: r=>by rw[map_cons,all_cons,gc r];rfl
end L2
namespace L2
open PySem
noncomputable def nI:Option Int->Value->Bool
 | none,v=>v == .none
 | some k,v=>Value.isInt k v
noncomputable def re:Option Int->Int
 | none=>4238894112
 | some k=>hashInt k
theorem bI {k:Option Int}{v:Value}(h:nI k v=true):(k=none/\v = .none)∨∃ i t,k=some i/\v = .int i t:=by
 cases k with
 | none=>exact .inl ⟨rfl,eq_of_beq h⟩
 | some i=>obtain⟨t,e⟩:=Value.isInt_shape h;exact .inr ⟨i,t,rfl,e⟩
section
variable {prog:Program}{w:World}{A:Around}{E:Value->Shared->Prop}{s:Shared}
theorem oK {Q:Int->Shared->Prop}(h:Q 4238894112 { s with toks:=s.toks + 1 }):wpAny (model prog w) A (pyHash .none) Q E s:=by
 have hT:s.TypeIs .none "NoneType":=rfl
 unfold pyHash
 have hv:[Value.none].any Value.onHeap=false:=rfl
 refine wpAny_bind ?_
 rw[cRoomFor,if_neg (by rw[hv];exact Bool.false_ne_true)];refine wpAny_pure ?_
 refine wpAny_bind (wpAny_specialOf hT F.slot_NoneType_hash.lookup ?_)
 show wpAny _ _ (if (some (Value.builtin "NoneType.__hash__") == some Value.none)=true then _ else _) Q E s
 rw[if_neg (by rw[beq_builtin_none];exact Bool.false_ne_true)]
 refine wpAny_bind (wpAny_specialOf hT F.slot_NoneType_hash.lookup ?_)
 show wpAny _ _ (callSpecialIfBoundUnlessNone? .none "__hash__" _ >>= _) Q E s
 refine wpAny_bind (wpAny_callSpecialIfBoundUnlessNone?_slot hT F.slot_NoneType_hash (wpAny_call_entry F.slot_NoneType_hash hT F.entry_NoneType_hash
  (show wpAny _ _ (do ret (← mkInt 4238894112)) _ _ s from wpAny_ret_mkInt ?_) (F.args_NoneType_hash_1 _)))
 exact wpAny_pure h
theorem tZ {a b:Option Int}{u v:Value}{Q:Bool->Shared->Prop}(hu:nI a u=true)(hv:nI b v=true)(h:Q (decide (a=b)) s):wpAny (model prog w) A (PySem.eqBool u v) Q E s:=by
 rcases bI hu with ⟨rfl,rfl⟩ | ⟨i,t,rfl,rfl⟩<;>rcases bI hv with ⟨rfl,rfl⟩ | ⟨j,t',rfl,rfl⟩
 ·unfold eqBool
  refine wpAny_holding ?_
  refine wpAny_ite_split (fun _=>wpAny_bind (wpAny_rule (wpAny_pure (by simpa using h)))) (fun n=>absurd rfl n)
 ·exact PySem.SeqAt.EqAt.none_int j t' prog w E Q (by simpa using h)
 ·exact PySem.SeqAt.EqAt.int_none i t prog w E Q (by simpa using h)
 ·refine wpAny_eqBool_int ?_
  have e:(i == j)=decide (some i=some j):=by
   by_cases q:i=j
   ·simp[q]
   ·simp[q]
  rw[e];exact h
end
noncomputable def ef (prog:Program)(w:World):KeyKind prog w (Option Int) where
 is:=nI
 hash:=re
 inj:=fun v a b ha hb=>by
  rcases bI ha with ⟨rfl,rfl⟩ | ⟨i,t,rfl,rfl⟩<;>rcases bI hb with ⟨rfl,e⟩ | ⟨j,t',rfl,e⟩
  ·rfl
  ·cases e
  ·cases e
  ·cases e;rfl
 byValue:=fun k v h=>by
  rcases bI h with ⟨_,rfl⟩ | ⟨i,t,_,rfl⟩<;>rfl
 pyHash:=fun {A E s k v Q} hv h=>by
  rcases bI hv with ⟨rfl,rfl⟩ | ⟨i,t,rfl,rfl⟩
  ·exact oK h
  ·exact wpAny_pyHash_int h
 eqBool:=fun hu hv h=>tZ hu hv h
 «strs»:=fun k x t v h=>by
  rcases bI h with ⟨_,e⟩ | ⟨i,t,_,e⟩<;>cases e
end L2
namespace L2
open PySem PySem.Spec PyProof.Rows
abbrev aS:=List (Option Int)
noncomputable def oV:Option Int->V
 | none => .uB
 | some i => .int i
abbrev dH:=aS × Addr × V
abbrev iM (p:dH)(q:aS × Addr × Value):Prop:=p.1=q.1/\p.2.1=q.2.1/\RelV p.2.2 q.2.2
noncomputable def ut (P:Program)(w:World)(a:Addr)(uv:List dH):Heap->Prop:=fun h=>uv.length <= sizeLine/\(a == sysModules)=false/\∃ xs,Paired iM uv xs /\
 ∃ o es ep,h.get? a=some o/\o.ExactDict/\o.data = .dict es ep/\es.toList=xs.map (entryOfKey (tupleKind (ef P w)))/\(xs.map (·.1)).Nodup
noncomputable def iN (P:Program)(w:World)(a:Addr)(uv:List dH):HO := .ext (ut P w a uv)
noncomputable def uI (P:Program)(w:World)(H:Hp)(a:Addr)(uv:List dH):Prop:=H a=some (iN P w a uv)/\∀ x ∈ uv,H x.2.1=some (.tup (x.1.map oV))
theorem uI.same {P:Program}{w:World}{H H':Hp}{a:Addr}{uv:List dH}(h:uI P w H a uv)(s:uu H H'):uI P w H' a uv:=⟨s _ _ h.1,fun x hx=>s _ _ (h.2 x hx)⟩
noncomputable def bR (uv:List dH)(k:aS):Option V:=(uv.find? fun x=>decide (x.1=k)).map (·.2.2)
noncomputable def oy (k:aS)(v:V)(x:dH):dH:=if x.1=k then (x.1,x.2.1,v) else x
noncomputable def e6 (uv:List dH)(k:aS)(b:Addr)(v:V):List dH:=if (bR uv k).isSome then uv.map (oy k v) else uv ++ [(k,b,v)]
theorem gX {k:aS}:bR [] k=none:=rfl
theorem bV {x:dH}{uv:List dH}{k:aS}:bR (x :: uv) k=if x.1=k then some x.2.2 else bR uv k:=by
 unfold bR
 rw[List.find?_cons]
 by_cases h:x.1=k
 ·rw[decide_eq_true h,if_pos h];rfl
 ·rw[decide_eq_false h,if_neg h]
theorem oX {uv:List dH}{k k':aS}{v:V}:bR (uv.map (oy k v)) k' = if k' = k then (bR uv k).map (fun _=>v) else bR uv k':=by
 induction uv with
 | nil=>rw[map_nil,gX,gX];split<;>rfl
 | cons x uv ih =>
  rw[map_cons,bV,ih,bV,bV]
  unfold oy
  by_cases h:x.1=k<;>by_cases h':k' = k
  ·have:x.1=k':=h.trans h'.symm
   simp[h,h']
  ·have:¬ x.1=k':=fun z=>h' (z.symm.trans h)
   rw[if_pos h,if_neg h',if_neg this,if_neg this,if_neg h']
  ·subst h'
   simp[h]
  ·simp[h,h']
theorem jY {uv:List dH}{k k':aS}{b:Addr}{v:V}(h:bR uv k=none):bR (uv ++ [(k,b,v)]) k' = if k' = k then some v else bR uv k':=by
 induction uv with
 | nil =>
  rw[List.nil_append,bV,gX]
  by_cases e:k' = k
  ·rw[if_pos e,if_pos e.symm]
  ·rw[if_neg e,if_neg (Ne.symm e)]
 | cons x uv ih =>
  rw[bV]at h
  by_cases hx:x.1=k
  ·rw[if_pos hx]at h;cases h
  ·rw[if_neg hx]at h
   rw[List.cons_append,bV,ih h,bV]
   by_cases e:k' = k
   ·subst e;rw[if_neg hx,if_pos rfl,if_pos rfl]
   ·rw[if_neg e,if_neg e]
theorem gS {uv:List dH}{k k':aS}{b:Addr}{v:V}:bR (e6 uv k b v) k' = if k' = k then some v else bR uv k':=by
 unfold e6
 cases h:bR uv k with
 | none=>rw[if_neg (by simp)];exact jY h
 | some u =>
  rw[if_pos (by simp),oX,h];rfl
theorem dP {uv:List dH}{k:aS}{b:Addr}{v:V}:(e6 uv k b v).length <= uv.length + 1:=by
 unfold e6
 split
 ·rw[length_map];omega
 ·rw[length_append];exact le_refl _
theorem jb {uv:List dH}{k:aS}{b:Addr}{v:V}{F:aS->Addr->Prop}(h:∀ x ∈ uv,F x.1 x.2.1)(hk:F k b):∀ x ∈ e6 uv k b v,F x.1 x.2.1:=by
 intro x hx
 unfold e6 at hx
 split at hx
 ·obtain⟨y,hy,rfl⟩:=mem_map.mp hx
  unfold oy
  split
  ·exact h y hy
  ·exact h y hy
 ·rcases mem_append.mp hx with q | q
  ·exact h x q
  ·rw[mem_singleton.mp q];exact hk
theorem jQ {uv:List dH}{xs:List (aS × Addr × Value)}(r:Paired iM uv xs)(k:aS):uT (bR uv k) ((atKey xs k).map (·.2)):=by
 induction r with
 | nil=>exact True.intro
 | @cons p q _ _ h1 _ ih =>
  rw[bV]
  unfold atKey at ih ⊢
  rw[List.find?_cons]
  by_cases e:p.1=k
  ·rw[if_pos e,decide_eq_true (h1.1.symm.trans e)];exact h1.2.2
  ·rw[if_neg e,decide_eq_false (fun z=>e (h1.1.trans z))];exact ih
theorem gi {o:Option V}{u:Option Value}(r:uT o u):o.isSome=u.isSome:=by
 cases o<;>cases u<;>first | rfl | exact r.elim
theorem ow {o:Option V}{u:Option Value}{d:V}{r:Value}(h:uT o u)(hd:RelV d r):RelV (o.getD d) (u.getD r):=by
 cases o<;>cases u<;>first | exact hd | exact h | exact h.elim
theorem rT {uv:List dH}{xs:List (aS × Addr × Value)}{k:aS}{v:V}{u:Value}(r:Paired iM uv xs)(hv:RelV v u):Paired iM (uv.map (oy k v)) (xs.map (putAt k u)):=by
 induction r with
 | nil=>exact .nil
 | @cons p q _ _ h1 _ ih =>
  refine .cons ?_ ih
  unfold oy putAt
  by_cases e:p.1=k
  ·rw[if_pos e,if_pos (h1.1.symm.trans e)];exact⟨h1.1,h1.2.1,hv⟩
  ·rw[if_neg e,if_neg (fun z=>e (h1.1.trans z))];exact h1
theorem qr {uv:List dH}{xs:List (aS × Addr × Value)}{p:dH}{q:aS × Addr × Value}(r:Paired iM uv xs)(h:iM p q):Paired iM (uv ++ [p]) (xs ++ [q]):=by
 induction r with
 | nil=>exact .cons h .nil
 | cons h1 _ ih=>exact .cons h1 ih
theorem rR {uv:List dH}{xs:List (aS × Addr × Value)}{k:aS}{b:Addr}{v:V}{u:Value}(r:Paired iM uv xs)(hv:RelV v u):Paired iM (e6 uv k b v) (storedH xs k b u):=by
 have h:=gi (jQ r k)
 rw[Option.isSome_map]at h
 unfold e6 storedH
 rw[h]
 split
 ·exact rT r hv
 ·exact qr r ⟨rfl,rfl,hv⟩
section
variable {P:Program}{w:World}{H:Hp}{h:Heap}{a b:Addr}{uv:List dH}{k:aS}
theorem fV:∀ {k:aS}{us:List Value},Vals (k.map oV) us->ItemsAre (ef P w) k us
 | [],_, .nil => .nil
 | none :: _,_, .cons r t => .cons (by have e:_=Value.none:=r;subst e;rfl) (fV t)
 | some i :: _,_, .cons r t => .cons (by obtain⟨tk,e⟩:=(show ∃ t,_=Value.int i t from r);subst e;exact beq_self_eq_true i) (fV t)
theorem gE (ok:vg P w H h)(e:H b=some (.tup (k.map oV))):(tupleKind (ef P w)).is h k b:=by
 obtain⟨_,uy,r,o,ho,⟨hc,n,hd⟩,_⟩:=ok _ _ e
 exact⟨o,uy.toArray,n,ho,hc,hd,fV r⟩
theorem gO (ok:vg P w H h)(e:uI P w H a uv):uv.length <= sizeLine/\(a == sysModules)=false/\∃ xs,Paired iM uv xs/\h.DictOfH (tupleKind (ef P w)) a xs:=by
 obtain⟨e,ek⟩:=e
 obtain⟨⟨z,hs,xs,r,o,es,ep,h1,h2,h3,h4,h5⟩,_⟩:=ok _ _ e
 refine⟨z,hs,xs,r,o,es,ep,h1,h2,h3,h4,?_,h5⟩
 have all:∀ {uv:List dH}{xs:List (aS × Addr × Value)},Paired iM uv xs->(∀ x ∈ uv,H x.2.1=some (.tup (x.1.map oV)))->∀ x ∈ xs,(tupleKind (ef P w)).is h x.1 x.2.1:=by
  intro uv xs r
  induction r with
  | nil=>intro _ x hx;cases hx
  | @cons p q _ _ h1 _ ih =>
   intro hk x hx
   rcases mem_cons.mp hx with rfl | hx
   ·have:=hk p mem_cons_self
    rw[h1.1,h1.2.1]at this
    exact gE ok this
   ·exact ih (fun y hy=>hk y (mem_cons_of_mem _ hy)) x hx
 exact all r ek
theorem jk (h1 h2:Heap)(p:ut P w a uv h1)(st:∀ o,h1.get? a=some o->h2.get? a=some o):ut P w a uv h2:=by
 obtain⟨z,hs,xs,r,o,es,ep,q,c⟩:=p
 exact⟨z,hs,xs,r,o,es,ep,st _ q,c⟩
theorem qu (hb:sysModules < h.objs.size):uC P w H (h.push { cls := .type "dict",data := .dict #[] }) h.objs.size (iN P w h.objs.size []) :=
 ⟨⟨zero_le _,beq_eq_false_iff_ne.mpr (Ne.symm (ne_of_lt hb)),[], .nil,_,#[],0,Heap.get?_push_size _ rfl,⟨rfl,rfl,rfl⟩,rfl,rfl,List.nodup_nil⟩,⟨_,Heap.get?_push_size _ rfl⟩,fun _ _=>jk _ _⟩
end
noncomputable def rZ (P:Program)(w:World)(H:Hp)(a:Addr)(y:V)(r:Option V):Prop:=∃ uv k b,uI P w H a uv/\y = .ref b/\H b=some (.tup (k.map oV))/\r=bR uv k
section
variable {X:Cx}{pins:List (Addr × Obj)}{σ:St}{H:Hp}{s:Shared}{a b:Addr}{y v d:V}{u r:Value}{o:Option V}{A:Around}{E:Value->Shared->Prop}
theorem ui (I:Inv X pins σ H s):sysModules < s.heap.objs.size :=
 lt_trans (by decide) (show mainGlobals < s.heap.objs.size from (I.mod.glob.keeps I.bk).lt)
theorem EF {Q:Value->Shared->Prop}(hu:A.units + 1 < cLine)(I:Inv X pins σ H s)(g:rZ X.prog X.w H a y o)(ry:RelV y u)(h:∀ s',Inv X pins σ H s'->Q (.bool o.isSome) s') :
  wpAny (model X.prog X.w) A (compareOp .In u (.ref a)) Q E s:=by
 obtain⟨uv,k,b,e,rfl,eb,rfl⟩:=g
 cases (show u=Value.ref b from ry)
 obtain⟨_,hd,xs,rel,dd⟩:=gO I.u1 e
 refine wpAny_in_heap (tupleKind_room_in1 hu) (gE I.u1 eb) hd dd ?_
 have q:=gi (jQ rel k)
 rw[Option.isSome_map]at q
 rw[← q]
 exact h _ (I.tok _)
theorem tO {Q:Value->Shared->Prop}(hu:A.units + 1 < cLine)(I:Inv X pins σ H s)(g:rZ X.prog X.w H a y o)(ry:RelV y u)(rd:RelV d r)(h:∀ w' s',Inv X pins σ H s'->RelV (o.getD d) w'->Q w' s') :
  wpAny (model X.prog X.w) A (call (.builtin "dict.get") [.ref a,u,r]) Q E s:=by
 obtain⟨uv,k,b,e,rfl,eb,rfl⟩:=g
 cases (show u=Value.ref b from ry)
 obtain⟨_,hd,xs,rel,dd⟩:=gO I.u1 e
 exact call_meetsIn PySem.F.slot_dict_get dd.typeIs PySem.F.entry_dict_get (PySem.F.args_dict_get_3 _ _ _) (meetsH_dict_get_default (tupleKind (ef X.prog X.w)) a b hd r)
  ⟨tupleKind_room_in1 hu,k,xs,gE I.u1 eb,dd,h _ _ (I.tok _) (ow (jQ rel k) rd)⟩
theorem AY {uv:List dH}{k:aS}{Q:Unit->Shared->Prop}(hu:A.units + 1 < cLine)(I:Inv X pins σ H s)(e:uI X.prog X.w H a uv)(eb:H b=some (.tup (k.map oV)))(hl:uv.length < sizeLine)(rv:RelV v r)
  (h:∀ s',Inv X pins σ (ar H a (iN X.prog X.w a (e6 uv k b v))) s'->Q () s'):wpAny (model X.prog X.w) A (setItem (.ref a) (.ref b) r) Q E s:=by
 obtain⟨z,hd,xs,rel,dd⟩:=gO I.u1 e
 have hz:xs.length <= sizeLine:=by rw[← Paired.length rel];exact z
 have y4:(e6 uv k b v).length <= sizeLine:=le_trans dP hl
 refine wpAny_setItem_heap (hsz:=hz) (tupleKind_room_in1 hu) (gE I.u1 eb) dd fun h' zM hs=>h _ ?_
 obtain⟨q,es,ep,hq,h2,h3,h4,_,h5⟩:=zM
 exact I.write (x:=a) (e:=a) (by rw[e.1];exact True.intro) (.inl rfl) (fun c q hc z=>(hs.2 c hc).trans z) ⟨q,hq⟩
  ⟨⟨y4,hd,_,rR rel rv,q,es,ep,hq,h2,h3,h4,h5⟩,⟨q,hq⟩,fun _ _=>jk _ _⟩
theorem oO {uv:List dH}(I:Inv X pins σ H s)(e:uI X.prog X.w H a uv):s.TypeIs (.ref a) "dict"/\∀ b,Value.ref a = .ref b->∃ ob,s.heap.get? b=some ob/\ob.dict=none:=by
 obtain⟨_,_,xs,_,dd⟩:=gO I.u1 e
 refine⟨dd.typeIs,fun b q=>?_⟩
 cases q
 obtain⟨ob,_,_,h1,h2,_⟩:=dd
 exact⟨ob,h1,h2.2.1⟩
end
noncomputable def ph (P:Program)(w:World):TE:=fun _ H Q=>∀ p,H p=none->Q (.ref p) (ar H p (iN P w p []))
noncomputable def EG (P:Program)(w:World)(ty td:TE):TE:=fun σ H Q=>ty σ H fun y H1=>td σ H1 fun x H2=>∃ a o,x = .ref a/\rZ P w H2 a y o/\Q (.bl o.isSome) H2
noncomputable def AZ (P:Program)(w:World)(td ty tv:TE):TS:=fun D σ H=>tv σ H fun v H1=>td σ H1 fun x H2=>ty σ H2 fun y H3=>∃ a uv k b,x = .ref a/\uI P w H3 a uv/\y = .ref b/\H3 b=some (.tup (k.map oV))/\uv.length < sizeLine/\D.nx σ (ar H3 a (iN P w a (e6 uv k b v)))
noncomputable def sK (P:Program)(w:World)(td:TE)(t:TA):TE:=fun σ H Q=>td σ H fun x H1=>∃ a uv,x = .ref a/\uI P w H1 a uv/\t σ H1 fun xs H2=>∃ y z o,xs=[y,z]/\rZ P w H2 a y o/\Q (o.getD z) H2
section
variable {X:Cx}{o i e f value:Expr}{pos pos' apos uW:Pos}{td ty tv tx:TE}
theorem n0:PE X (.Dict [] [] pos) (ph X.prog X.w):=fun pins s σ H Q I h =>
 wpAny_Dict_empty ⟨.ref s.heap.objs.size,_,I.laid (a:=s.heap.objs.size) (o:=iN X.prog X.w s.heap.objs.size []) (t':=s.toks) (fun _ _ q=>Heap.get?_push_of_some _ q) (le_refl _) (qu (ui I)),rfl,h _ (I.u1.fresh (le_refl _))⟩
theorem tw (hu:X.A.units + 1 < cLine)(hi:PE X i ty)(ho:PE X o td):PC X .In i o (EG X.prog X.w ty td):=by
 intro pins s σ H Q I h
 refine aU (hi pins s σ H _ I h) fun iv s1 ⟨y,H1,I1,ry,q1⟩=>aU (ho pins s1 σ H1 _ I1 q1) fun u s2 uw=>?_
 obtain⟨x,H2,I2,rx,a,ov,ex,g,q2⟩:=uw
 subst ex
 obtain rfl:u=Value.ref a:=rx
 exact EF hu I2 g ry fun s3 I3=>⟨.bl ov.isSome,H2,I3,rfl,q2⟩
theorem nu (hu:X.A.units + 1 < cLine)(ho:PE X o td)(hi:PE X i ty)(hv:PE X value tv)(hs:swapsWith value (some (.Subscript o i pos')) pos.line X.env=pure false) :
  PS X (.Assign [.Subscript o i pos'] value pos) (AZ X.prog X.w td ty tv):=by
 intro pins s σ H D I h
 refine wpAny_Assign_Subscript (aU (hv pins s σ H _ I h) fun r s1 ⟨v,H1,I1,rv,q1⟩=>aU (ho pins s1 σ H1 _ I1 q1) fun u s2 ⟨x,H2,I2,rx,q2⟩=>aU (hi pins s2 σ H2 _ I2 q2) fun iv s3 uw=>?_) hs
 obtain⟨y,H3,I3,ry,a,uv,k,b,ex,e,ey,eb,hl,q3⟩:=uw
 subst ex ey
 obtain rfl:u=Value.ref a:=rx
 obtain rfl:iv=Value.ref b:=ry
 exact AY hu I3 e eb hl rv fun s4 I4=>⟨σ,_,I4,q3⟩
theorem k4 {es:List Expr}{t:TA}(hu:X.A.units + 1 < cLine)(ho:PE X o td)(ha:PA X (e :: es) t)
  (h1:attributeBase o "get" X.env (eval o X.env)=eval o X.env:=by rfl)
  (h2:((backTo uW (starEach (e :: es) X.env)).all (fun x=>!x.1) && (backToKw uW (keywordEach [] X.env)).all (fun x=>x.1.isSome) && decide ((e :: es).length + ([]:List Keyword).length + (if ([]:List Keyword).isEmpty then 0 else 1) < 30))=true:=by rfl)
  (h3:(apos.endLine == uW.line)=true:=by rfl) (h4:starEach (e :: es) X.env=(false,eval e X.env) :: starEach es X.env:=by rfl) (h5:(backTo uW (starEach es X.env)).any (·.1)=false:=by rfl) :
  PE X (.Call (.Attribute o "get" apos) (e :: es) [] uW) (sK X.prog X.w td t):=by
 intro pins s σ H Q I h
 refine wpAny_Call_method_late h1 h2 h3 rfl (aU (ho pins s σ H _ I h) fun v s1 uw=>?_)
 obtain⟨x,H1,I1,r1,a,uv,ex,e1,q1⟩:=uw
 subst ex
 obtain rfl:v=Value.ref a:=r1
 obtain⟨t1,t2⟩:=oO I1 e1
 refine⟨"dict", "dict.get",PySem.F.plainAttrs_dict,PySem.F.slot_dict_get,PySem.F.type_dict_get,t1,t2,?_⟩
 have hA:=ha uW pins s1 σ H1 _ I1 q1
 rw[h4]at hA ⊢
 refine Calls.callWith_builtin (by show(false || (backTo uW (starEach es X.env)).any (·.1))=false;rw[h5]<;>rfl) (Calls.evalArgs_plain ?_)
 refine aU hA fun us s2 uw=>?_
 obtain⟨vs,H2,I2,r2,y,z,ov,evs,g,q2⟩:=uw
 subst evs
 cases r2 with
 | cons ry r2=>cases r2 with
  | cons rz r2=>cases r2 with
   | nil=>exact tO hu I2 g ry rz fun w' s4 I4 xx=>⟨_,H2,I4,xx,q2⟩
end
end L2
namespace L2
open PySem PySem.Spec PyProof.Rows
structure sA (K:Frag)(C:Addr)(m:Str)(f:Addr):Prop where
 reads:PySem.W.readsIn K C (.type "type")=true
 found:PySem.W.findCls K (.ref C) (.type "type") m=some (.val (.ref f))
 spec:PySem.W.specialIn K (.ref C) "__getattribute__" = some (some (.builtin "type.__getattribute__"))
 kp:keepIn K (.ref f)=true
noncomputable def sO (C:Addr)(sp:Sp)(v5:List V)(E:XK)(ta:TE)(t:TA):TE:=fun σ H Q=>ta σ H fun x H1=>x = .ref C/\t σ H1 fun vs H2=>sp (vs ++ v5) H2 Q E
section
variable {X:Cx}{CX:mU}{k:Nat}{f C:Addr}{fd:FuncData}{ps:List Str}{sp:Sp}{v5:List V}{ds:List Value}{E:XK}{x m:Str}{p pos apos:Pos}{e o:Expr}{es:List Expr}{ta:TE}{t:TA}
theorem kB {pl:Sem Bool}(he:PE X o ta)(hm:sA X.K C m f)(F:Z X.prog X.w X.K X.mg X.base CX k f fd ps sp)(hr:u5 k X.A)(hb:Binds X.K fd ps ds)(hd:Vals v5 ds)(hx:eR CX X E)(ha:PA X (e :: es) t)
  (h1:starEach (e :: es) X.env=(false,eval e X.env) :: starEach es X.env:=by rfl) (h2:(backTo pos (starEach es X.env)).any (·.1)=false:=by rfl)
  (ht:eval (.Call (.Attribute o m apos) (e :: es) [] pos) X.env=(do
   let ov ← eval o X.env
   standAt apos.atName
   let (f,first) ← holding [ov] (getMethod ov m pl)
   callWith pos f first (backTo pos (starEach (e :: es) X.env)) (backToKw pos (keywordEach [] X.env))):=by rfl) :
  PE X (.Call (.Attribute o m apos) (e :: es) [] pos) (sO C sp v5 E ta t):=by
 intro pins s σ H Q I h
 refine PySem.W.methodCall_KW (pl:=pl) (aU (he pins s σ H _ I h) fun u s1 uw=>?_) ht
 obtain⟨x,H1,I1,rx,ex,q⟩:=uw
 subst ex
 obtain rfl:u=Value.ref C:=rx
 refine PySem.W.method_cls I1.vt hm.spec (PySem.W.cls_value I1.vt hm.reads hm.found rfl ?_)
 refine PySem.W.callWith_K (first:=[]) (h₀:=X.base) I.ok.mod.zG hm.kp (aU (ha pos pins _ σ H1 _ (I1.tok _) q) fun us s2 ⟨vs,H2,I2,r,q2⟩=>⟨I2.vt,?_⟩) h1 h2
 exact lZ F hr hb hd hx I2 r q2
end
section
variable {X:Cx}
end
end L2
namespace L2
open PySem PySem.Spec PyProof.Rows
section
variable {X:Cx}{tg:Expr}
noncomputable def EH (K:Frag):List V->Hp->VK->Prop:=fun xs H Q=>∃ (v:V)(t:Value)(c:String)(b:Bool),xs=[v, .ty c]/\fM K H v t/\kitOne K t (.type c)=some b/\Q (.bl b) H
theorem lq:uL X (.builtin "isinstance") (EH X.K):=by
 intro pins s σ H xs us Q I r h
 obtain⟨v,t,c,b,rfl,ty,hk,q⟩:=h
 cases r with
 | cons r1 r2=>cases r2 with
  | cons r2 r3 =>
   cases r3
   cases r2
   exact jh I r1 ty hk fun tk=>⟨.bl b,H,I.tok _,rfl,q⟩
end
end L2
namespace L2
open PySem PySem.Spec PyProof.Rows
section
variable {κ:Type} [DecidableEq κ]
noncomputable def eT (uv:List (κ × V))(k:κ):Option V:=(uv.find? fun kv=>decide (kv.1=k)).map (·.2)
noncomputable def fS (uv:List (κ × V))(k:κ)(v:V):List (κ × V) :=
 if (uv.any fun kv=>decide (kv.1=k))=true then uv.map (fun kv=>if kv.1=k then (kv.1,v) else kv) else uv ++ [(k,v)]
theorem gQ {p:κ × V}{r:List (κ × V)}{k:κ}(e:p.1=k):eT (p :: r) k=some p.2:=by simp[eT,List.find?_cons,e]
theorem gR {p:κ × V}{r:List (κ × V)}{k:κ}(e:¬ p.1=k):eT (p :: r) k=eT r k:=by simp[eT,List.find?_cons,e]
theorem jX (k:κ):∀ uv:List (κ × V),(uv.any fun kv=>decide (kv.1=k))=(eT uv k).isSome
 | []=>rfl
 | p :: r=>by
  rw[any_cons]
  by_cases e:p.1=k
  ·simp only[gQ e,decide_eq_true e,Bool.true_or,Option.isSome_some]
  ·rw[gR e,decide_eq_false e,Bool.false_or];exact jX k r
theorem gn (uv:List (κ × V))(k:κ)(v:V):(fS uv k v).length <= uv.length + 1:=by
 unfold fS
 split
 ·rw[length_map];omega
 ·rw[length_append,length_cons,List.length_nil];omega
theorem uT.uS {o:Option V}{u:Option Value}(r:uT o u):o.isSome=u.isSome:=by
 cases o with
 | none=>cases u with
  | none=>rfl
  | some _=>exact(show False from r).elim
 | some _=>cases u with
  | none=>exact(show False from r).elim
  | some _=>rfl
theorem KV.val {uv:List (κ × V)}{vs:List (κ × Value)}(r:KV uv vs)(k:κ):uT (eT uv k) (valueAt vs k):=by
 unfold KV at r
 induction r with
 | nil=>exact True.intro
 | @cons p q ps qs h t ih =>
  obtain⟨h1,h2⟩:=h
  by_cases e:p.1=k
  ·have e':q.1=k:=h1.symm.trans e
   have b:valueAt (q :: qs) k=some q.2:=by simp[valueAt,List.find?_cons,e']
   rw[gQ e,b];exact h2
  ·have e':¬ q.1=k:=fun z=>e (h1.trans z)
   have b:valueAt (q :: qs) k=valueAt qs k:=by simp[valueAt,List.find?_cons,e']
   rw[gR e,b];exact ih
theorem KV.any {uv:List (κ × V)}{vs:List (κ × Value)}(r:KV uv vs)(k:κ):(uv.any fun kv=>decide (kv.1=k))=vs.any fun kv=>decide (kv.1=k):=by
 unfold KV at r
 induction r with
 | nil=>rfl
 | cons h t ih=>rw[any_cons,any_cons,ih,h.1]
theorem KV.zc {uv:List (κ × V)}{vs:List (κ × Value)}(r:KV uv vs)(k:κ){y:V}{u:Value}(ry:RelV y u) :
  KV (uv.map fun kv=>if kv.1=k then (kv.1,y) else kv) (vs.map fun kv=>if kv.1=k then (kv.1,u) else kv):=by
 unfold KV at r ⊢
 induction r with
 | nil=>exact .nil
 | @cons p q ps qs h t ih =>
  rw[map_cons,map_cons]
  refine .cons ?_ ih
  obtain⟨h1,h2⟩:=h
  by_cases e:p.1=k
  ·rw[if_pos e,if_pos (h1.symm.trans e)];exact⟨h1,ry⟩
  ·rw[if_neg e,if_neg (fun z=>e (h1.trans z))];exact⟨h1,h2⟩
theorem KV.put {uv:List (κ × V)}{vs:List (κ × Value)}(r:KV uv vs)(k:κ){y:V}{u:Value}(ry:RelV y u):KV (fS uv k y) (stored vs k u):=by
 unfold fS stored
 rw[r.any k]
 by_cases e:(vs.any fun kv=>decide (kv.1=k))=true
 ·rw[if_pos e,if_pos e];exact r.zc k ry
 ·rw[if_neg e,if_neg e];exact Paired.snoc r ⟨rfl,ry⟩
theorem KV.length {uv:List (κ × V)}{vs:List (κ × Value)}(r:KV uv vs):uv.length=vs.length:=Paired.length r
end
theorem kN {P:Program}{w:World}{k:bB}{u:Value}(r:RelV (kV k) u):(bG P w).is k u=true:=by
 cases k with
 | inl i=>obtain⟨t,e⟩:=(show ∃ t,u=Value.int i t from r);subst e;exact kJ P w i t
 | inr x=>obtain⟨t,e⟩:=(show ∃ t,u=Value.str x t from r);subst e;exact kI P w x t
theorem jg {P:Program}{w:World}:∀ {ks:List bB}{us:List Value},Vals (ks.map kV) us->ItemsAre (bG P w) ks us
 | [],_,r=>by rw[map_nil]at r;cases r;exact .nil
 | k :: ks,_,r=>by
  rw[map_cons]at r
  cases r with
  | cons h t=>exact .cons (kN h) (jg t)
abbrev KT (H:Hp):List (List bB × V)->List (List bB × Addr × Value)->Prop:=Paired fun p q=>p.1=q.1/\H q.2.1=some (.tup (p.1.map kV))/\RelV p.2 q.2.2
theorem KT.val {H:Hp}{uv:List (List bB × V)}{xs:List (List bB × Addr × Value)}(r:KT H uv xs)(k:List bB):uT (eT uv k) ((atKey xs k).map (·.2)):=by
 induction r with
 | nil=>exact True.intro
 | @cons p q ps qs h t ih =>
  obtain⟨h1,_,h2⟩:=h
  by_cases e:p.1=k
  ·have e':q.1=k:=h1.symm.trans e
   have b:atKey (q :: qs) k=some q.2:=by simp[atKey,List.find?_cons,e']
   rw[gQ e,b];exact h2
  ·have e':¬ q.1=k:=fun z=>e (h1.trans z)
   have b:atKey (q :: qs) k=atKey qs k:=by simp[atKey,List.find?_cons,e']
   rw[gR e,b];exact ih
theorem KT.zc {H:Hp}{uv:List (List bB × V)}{xs:List (List bB × Addr × Value)}(r:KT H uv xs)(k:List bB){y:V}{u:Value}(ry:RelV y u) :
  KT H (uv.map fun kv=>if kv.1=k then (kv.1,y) else kv) (xs.map (putAt k u)):=by
 induction r with
 | nil=>exact .nil
 | @cons p q ps qs h t ih =>
  rw[map_cons,map_cons]
  refine .cons ?_ ih
  obtain⟨h1,h2,h3⟩:=h
  unfold putAt
  by_cases e:p.1=k
  ·rw[if_pos e,if_pos (h1.symm.trans e)];exact⟨h1,h2,ry⟩
  ·rw[if_neg e,if_neg (fun z=>e (h1.trans z))];exact⟨h1,h2,h3⟩
theorem KT.put {H:Hp}{uv:List (List bB × V)}{xs:List (List bB × Addr × Value)}(r:KT H uv xs)(k:List bB){b:Addr}{y:V}{u:Value}(hb:H b=some (.tup (k.map kV)))(ry:RelV y u) :
  KT H (fS uv k y) (storedH xs k b u):=by
 have e:(uv.any fun kv=>decide (kv.1=k))=(atKey xs k).isSome:=by
  rw[jX,(r.val k).uS,Option.isSome_map]
 unfold fS storedH
 rw[e]
 by_cases q:(atKey xs k).isSome=true
 ·rw[if_pos q,if_pos q];exact r.zc k ry
 ·rw[if_neg q,if_neg q];exact Paired.snoc r ⟨rfl,hb,ry⟩
theorem KT.keeps {H H':Hp}{uv:List (List bB × V)}{xs:List (List bB × Addr × Value)}(r:KT H uv xs)(ht:∀ b ys,H b=some (.tup ys)->H' b=some (.tup ys)):KT H' uv xs :=
 Paired.yO r fun _ _ z=>⟨z.1,ht _ _ z.2.1,z.2.2⟩
section
variable {P:Program}{w:World}{H:Hp}{h:Heap}{a:Addr}
theorem sh {u:HO}(ok:vg P w H h)(e:Rd H a u):uC P w H h a u:=e.ok ok
theorem kW {uv:List (bB × V)}(ok:vg P w H h)(e:Rd H a (.dK uv)):uv.length <= sizeLine/\(a == sysModules)=false/\∃ vs,KV uv vs/\h.DictOf (bG P w) a vs :=
 show uC P w H h a (.dK uv) from sh ok e
theorem Ba {uv:List (bB × V)}(ok:vg P w H h)(e:H a=some (.dK uv)):uv.length <= sizeLine/\(a == sysModules)=false/\∃ vs,KV uv vs/\h.DictOf (bG P w) a vs:=kW ok (.inl e)
theorem iB {ks:List bB}(ok:vg P w H h)(e:H a=some (.tup (ks.map kV))):(tupleKind (bG P w)).is h ks a:=by
 obtain⟨_,uy,r,o,h1,⟨h2,n,h3⟩,_⟩:=(show uC P w H h a (.tup (ks.map kV)) from ok a _ e)
 exact⟨o,uy.toArray,n,h1,h2,h3,by simpa using jg r⟩
theorem kU {uv:List (List bB × V)}(ok:vg P w H h)(e:Rd H a (.dT uv)):uv.length <= sizeLine/\(a == sysModules)=false /\
  ∃ xs,KT H uv xs/\h.DictOfH (tupleKind (bG P w)) a xs:=by
 obtain⟨z,y,xs,r,o,es,ep,h1,h2,h3,h4,h5⟩:=(show uC P w H h a (.dT uv) from sh ok e)
 refine⟨z,y,xs,r,o,es,ep,h1,h2,h3,h4,fun x hx=>?_,h5⟩
 have all:∀ {l:List (List bB × V)}{m:List (List bB × Addr × Value)},KT H l m->∀ x ∈ m,(tupleKind (bG P w)).is h x.1 x.2.1:=by
  intro l m q
  induction q with
  | nil=>intro x hx;exact nomatch hx
  | @cons p q ps qs hq t ih =>
   intro x hx
   rcases mem_cons.mp hx with e | hx
   ·subst e
    exact iB ok (by rw[← hq.1];exact hq.2.1)
   ·exact ih x hx
 exact all r x hx
theorem Bb {uv:List (List bB × V)}(ok:vg P w H h)(e:H a=some (.dT uv)):uv.length <= sizeLine/\(a == sysModules)=false /\
  ∃ xs,KT H uv xs/\h.DictOfH (tupleKind (bG P w)) a xs:=kU ok (.inl e)
end
noncomputable def v7 (H:Hp)(a:Addr)(y:V)(r:Option V):Prop :=
 (∃ uv k,Rd H a (.dK uv)/\y=kV k/\r=eT uv k)∨∃ uv k b,Rd H a (.dT uv)/\y = .ref b/\H b=some (.tup (k.map kV))/\r=eT uv k
noncomputable def wC (H:Hp)(a:Addr)(y v:V)(H':Hp):Prop :=
 (∃ uv k,H a=some (.dK uv)/\y=kV k/\uv.length < sizeLine/\H' = ar H a (.dK (fS uv k v))) ∨
 ∃ uv k b,H a=some (.dT uv)/\y = .ref b/\H b=some (.tup (k.map kV))/\uv.length < sizeLine/\H' = ar H a (.dT (fS uv k v))
theorem v7.k {H:Hp}{a:Addr}{uv:List (bB × V)}{k:bB}(e:H a=some (.dK uv)):v7 H a (kV k) (eT uv k) := .inl ⟨uv,k, .inl e,rfl,rfl⟩
theorem wC.k {H:Hp}{a:Addr}{uv:List (bB × V)}{k:bB}{v:V}(e:H a=some (.dK uv))(hl:uv.length < sizeLine):wC H a (kV k) v (ar H a (.dK (fS uv k v))) := .inl ⟨uv,k,e,rfl,hl,rfl⟩
section
variable {X:Cx}{pins:List (Addr × Obj)}{σ:St}{H:Hp}{s:Shared}{a:Addr}{y v:V}{u r:Value}{o:Option V}{A:Around}{E:Value->Shared->Prop}
theorem Inv.big (I:Inv X pins σ H s):sysModules < s.heap.objs.size:=by
 have h:mainGlobals < s.heap.objs.size:=(I.mod.glob.keeps I.bk).lt
 exact lt_trans (by decide) h
theorem oQ {Q:Value->Shared->Prop}(hu:A.units + 1 < cLine)(I:Inv X pins σ H s)(g:v7 H a y (some v))(ry:RelV y u)(h:∀ w' s',Inv X pins σ H s'->RelV v w'->Q w' s') :
  wpAny (model X.prog X.w) A (getItem (.ref a) u) Q E s:=by
 rcases g with ⟨uv,k,e,ey,l⟩ | ⟨uv,k,b,e,ey,eb,l⟩
 ·subst ey
  obtain⟨z,hd,vs,rel,dd⟩:=kW I.u1 e
  obtain⟨w',hw,xx⟩:=uT.some_of (v:=v) (o:=valueAt vs k) (by rw[l];exact rel.val k)
  exact wpAny_getItem_of (kN ry) dd.mapOf hw (h w' _ (I.tok _) xx)
 ·subst ey
  cases (show u=Value.ref b from ry)
  obtain⟨z,hd,xs,rel,dd⟩:=kU I.u1 e
  obtain⟨w',hw,xx⟩:=uT.some_of (v:=v) (o:=(atKey xs k).map (·.2)) (by rw[l];exact rel.val k)
  obtain⟨p,hp,hp2⟩:=Option.map_eq_some_iff.mp hw
  refine wpAny_getItem_heap (tupleKind_room_in1 hu) (iB I.u1 eb) dd hp ?_
  rw[hp2]
  exact h w' _ (I.tok _) xx
theorem EI {Q:Value->Shared->Prop}(hu:A.units + 1 < cLine)(I:Inv X pins σ H s)(g:v7 H a y o)(ry:RelV y u)(h:∀ s',Inv X pins σ H s'->Q (.bool o.isSome) s') :
  wpAny (model X.prog X.w) A (compareOp .In u (.ref a)) Q E s:=by
 rcases g with ⟨uv,k,e,ey,l⟩ | ⟨uv,k,b,e,ey,eb,l⟩
 ·subst ey
  obtain⟨z,hd,vs,rel,dd⟩:=kW I.u1 e
  refine wpAny_in_of (kN ry) hd dd.mapOf ?_
  rw[← (rel.val k).uS,← l]
  exact h _ (I.tok _)
 ·subst ey
  cases (show u=Value.ref b from ry)
  obtain⟨z,hd,xs,rel,dd⟩:=kU I.u1 e
  refine wpAny_in_heap (tupleKind_room_in1 hu) (iB I.u1 eb) hd dd ?_
  have q:=(rel.val k).uS
  rw[Option.isSome_map]at q
  rw[← q,← l]
  exact h _ (I.tok _)
theorem rV {Q:Value->Shared->Prop}(hu:A.units + 1 < cLine)(I:Inv X pins σ H s)(g:v7 H a y o)(ry:RelV y u)(h:∀ s',Inv X pins σ H s'->Q (.bool (!o.isSome)) s') :
  wpAny (model X.prog X.w) A (compareOp .NotIn u (.ref a)) Q E s:=by
 rcases g with ⟨uv,k,e,ey,l⟩ | ⟨uv,k,b,e,ey,eb,l⟩
 ·subst ey
  obtain⟨z,hd,vs,rel,dd⟩:=kW I.u1 e
  refine wpAny_notIn_of (kN ry) hd dd.mapOf ?_
  rw[← (rel.val k).uS,← l]
  exact h _ (I.tok _)
 ·subst ey
  cases (show u=Value.ref b from ry)
  obtain⟨z,hd,xs,rel,dd⟩:=kU I.u1 e
  refine wpAny_notIn_heap (tupleKind_room_in1 hu) (iB I.u1 eb) hd dd ?_
  have q:=(rel.val k).uS
  rw[Option.isSome_map]at q
  rw[← q,← l]
  exact h _ (I.tok _)
theorem nR {h':Heap}{t':Nat}{ob:HO}(I:Inv X pins σ H s)(mu:Ai (H a))(hs:Heap.SameBut a s.heap h')(he:∃ q,h'.get? a=some q)(new:uC X.prog X.w (ar H a ob) h' a ob) :
  Inv X pins σ (ar H a ob) { s with heap:=h',toks:=t' } :=
 I.write (x:=a) (e:=a) mu (.inl rfl) (fun b q hb z=>(hs.2 b hb).trans z) he new
theorem ub {P:Program}{w:World}{H':Hp}{h':Heap}{uv:List (bB × V)}{vs:List (bB × Value)}(z:uv.length <= sizeLine)(hd:(a == sysModules)=false)(rel:KV uv vs)(dd:h'.DictOf (bG P w) a vs) :
  uC P w H' h' a (.dK uv):=⟨z,hd,vs,rel,dd⟩
theorem oP {H':Hp}{Q:Unit->Shared->Prop}(hu:A.units + 1 < cLine)(I:Inv X pins σ H s)(g:wC H a y v H')(ry:RelV y u)(rv:RelV v r)(h:∀ s',Inv X pins σ H' s'->Q () s') :
  wpAny (model X.prog X.w) A (setItem (.ref a) u r) Q E s:=by
 rcases g with ⟨uv,k,e,ey,l,eH⟩ | ⟨uv,k,b,e,ey,eb,l,eH⟩
 ·subst ey eH
  obtain⟨z,hd,vs,rel,dd⟩:=Ba I.u1 e
  have hz:vs.length <= sizeLine:=by rw[← rel.length];exact z
  have hl:(fS uv k v).length <= sizeLine:=by have:=gn uv k v;omega
  refine wpAny_setItem_pairs (hsz:=hz) (kN ry) dd fun h' zM hs=>h _ ?_
  have he:∃ q,h'.get? a=some q:=let ⟨q,_,_,hq,_⟩:=zM; ⟨q,hq⟩
  exact nR I (by rw[e];exact True.intro) hs he (ub hl hd (rel.put k rv) zM)
 ·subst ey eH
  cases (show u=Value.ref b from ry)
  obtain⟨z,hd,xs,rel,dd⟩:=Bb I.u1 e
  have hz:xs.length <= sizeLine:=by rw[← Paired.length rel];exact z
  have hl:(fS uv k v).length <= sizeLine:=by have:=gn uv k v;omega
  refine wpAny_setItem_heap (hsz:=hz) (tupleKind_room_in1 hu) (iB I.u1 eb) dd fun h' zM hs=>h _ ?_
  obtain⟨q,es,ep,hq,h2,h3,h4,_,h5⟩:=zM
  refine nR I (by rw[e];exact True.intro) hs ⟨q,hq⟩ ⟨hl,hd,_,(rel.put k eb rv).keeps fun c ys ec=>?_,q,es,ep,hq,h2,h3,h4,h5⟩
  rw[ak (bu ec e (fun z=>nomatch z))]
  exact ec
end
section
variable {X:Cx}{pins:List (Addr × Obj)}{σ:St}{H:Hp}{s:Shared}{a:Addr}{uv:List (bB × V)}{k:bB}{u:Value}{A:Around}{E:Value->Shared->Prop}
end
noncomputable def Bc (i:Expr):Prop:=∀ ov iv,subscripted i false ov iv=operate [ov,iv] (getItem ov iv)
theorem qR {prog:Program}{w:World}{A:Around}{E:Value->Shared->Prop}{s:Shared}{env:Env}{value slice:Expr}{pos:Pos}{T id:String}{Q:Value->Shared->Prop}
  (hl:typeLookup (.type T) "__getitem__" = pure (some (.builtin id))) (hs:Bc slice)
  (h:wpAny (model prog w) A (eval value env) (fun o s₁=>wpAny (model prog w) A (eval slice env) (fun i s₂=>s₂.TypeIs o T/\wpAny (model prog w) A (getItem o i) Q E s₂) E s₁) E s) :
  wpAny (model prog w) A (eval (.Subscript value slice pos) env) Q E s:=by
 refine Subscript_ (wpAny_mono h (fun o s₁ h₁=>wpAny_mono h₁ (fun i s₂ h₂=>?_) fun _ _ x=>x) fun _ _ x=>x)
 obtain⟨hT,h₂⟩:=h₂
 unfold subscriptTail
 refine wpAny_bind ?_
 rw[getitemInPython_of_ne hT.not_modules]
 refine wpAny_bind (wpAny_specialOf hT hl ?_)
 have fin:wpAny (model prog w) A (subscripted slice false o i) (fun r s₃=>wpAny (model prog w) A (letTemporaryGo value o r >>= fun _=>pure r) Q E s₃) E s₂:=by
  rw[hs o i]
  exact wpAny_operating (wpAny_mono h₂ (fun r s₃ h₃=>wpAny_bind (wpAny_letTemporaryGo (wpAny_pure h₃))) fun _ _ x=>x)
 first
  | exact wpAny_pure (wpAny_bind fin)
  | exact wpAny_bind (wpAny_pure (wpAny_bind fin))
  | exact wpAny_bind fin
theorem kX {X:Cx}{pins:List (Addr × Obj)}{σ:St}{H:Hp}{s:Shared}{a:Addr}{y:V}{o:Option V}(I:Inv X pins σ H s)(g:v7 H a y o):s.TypeIs (.ref a) "dict":=by
 rcases g with ⟨uv,k,e,_,_⟩ | ⟨uv,k,b,e,_,_,_⟩
 ·obtain⟨_,_,vs,_,dd⟩:=kW I.u1 e
  exact dd.typeIs
 ·obtain⟨_,_,xs,_,dd⟩:=kU I.u1 e
  exact dd.typeIs
noncomputable def Bd (td ty:TE):TE:=fun σ H Q=>td σ H fun x H1=>ty σ H1 fun y H2=>∃ a v,x = .ref a/\v7 H2 a y (some v)/\Q v H2
noncomputable def EJ (ty td:TE):TE:=fun σ H Q=>ty σ H fun y H1=>td σ H1 fun x H2=>∃ a o,x = .ref a/\v7 H2 a y o/\Q (.bl o.isSome) H2
noncomputable def qP (ty td:TE):TE:=fun σ H Q=>ty σ H fun y H1=>td σ H1 fun x H2=>∃ a o,x = .ref a/\v7 H2 a y o/\Q (.bl (!o.isSome)) H2
noncomputable def Be (td ty tv:TE):TS:=fun D σ H=>tv σ H fun v H1=>td σ H1 fun x H2=>ty σ H2 fun y H3=>∃ a H4,x = .ref a/\wC H3 a y v H4/\D.nx σ H4
section
variable {X:Cx}{o i e value:Expr}{pos pos' wZ:Pos}{td ty tv:TE}
theorem rb (hu:X.A.units + 1 < cLine)(ho:PE X o td)(hi:PE X i ty)(hs:Bc i):PE X (.Subscript o i pos) (Bd td ty):=by
 intro pins s σ H Q I h
 refine qR PySem.F.slot_dict_getitem.lookup hs (aU (ho pins s σ H _ I h) fun u s1 ⟨x,H1,I1,rx,q1⟩=>aU (hi pins s1 σ H1 _ I1 q1) fun iv s2 uw=>?_)
 obtain⟨y,H2,I2,ry,a,v,ex,g,q2⟩:=uw
 subst ex
 obtain rfl:u=Value.ref a:=rx
 exact⟨kX I2 g,oQ hu I2 g ry fun w' s3 I3 xx=>⟨v,H2,I3,xx,q2⟩⟩
theorem tz (hu:X.A.units + 1 < cLine)(hi:PE X i ty)(ho:PE X o td):PC X .In i o (EJ ty td):=by
 intro pins s σ H Q I h
 refine aU (hi pins s σ H _ I h) fun iv s1 ⟨y,H1,I1,ry,q1⟩=>aU (ho pins s1 σ H1 _ I1 q1) fun u s2 uw=>?_
 obtain⟨x,H2,I2,rx,a,ov,ex,g,q2⟩:=uw
 subst ex
 obtain rfl:u=Value.ref a:=rx
 exact EI hu I2 g ry fun s3 I3=>⟨.bl ov.isSome,H2,I3,rfl,q2⟩
theorem o0 (hu:X.A.units + 1 < cLine)(hi:PE X i ty)(ho:PE X o td):PC X .NotIn i o (qP ty td):=by
 intro pins s σ H Q I h
 refine aU (hi pins s σ H _ I h) fun iv s1 ⟨y,H1,I1,ry,q1⟩=>aU (ho pins s1 σ H1 _ I1 q1) fun u s2 uw=>?_
 obtain⟨x,H2,I2,rx,a,ov,ex,g,q2⟩:=uw
 subst ex
 obtain rfl:u=Value.ref a:=rx
 exact rV hu I2 g ry fun s3 I3=>⟨.bl (!ov.isSome),H2,I3,rfl,q2⟩
theorem j8 (hu:X.A.units + 1 < cLine)(ho:PE X o td)(hi:PE X i ty)(hv:PE X value tv)(hs:swapsWith value (some (.Subscript o i pos')) pos.line X.env=pure false) :
  PS X (.Assign [.Subscript o i pos'] value pos) (Be td ty tv):=by
 intro pins s σ H D I h
 refine wpAny_Assign_Subscript (aU (hv pins s σ H _ I h) fun r s1 ⟨v,H1,I1,rv,q1⟩=>aU (ho pins s1 σ H1 _ I1 q1) fun u s2 ⟨x,H2,I2,rx,q2⟩=>aU (hi pins s2 σ H2 _ I2 q2) fun iv s3 uw=>?_) hs
 obtain⟨y,H3,I3,ry,a,H4,ex,g,q3⟩:=uw
 subst ex
 obtain rfl:u=Value.ref a:=rx
 exact oP hu I3 g ry rv fun s4 I4=>⟨σ,H4,I4,q3⟩
end
theorem qt {P:Program}{w:World}{H:Hp}(h:Heap)(hb:sysModules < h.objs.size):uC P w H (h.push { cls := .type "dict",data := .dict #[] }) h.objs.size (.dK []) :=
 ⟨zero_le _,beq_eq_false_iff_ne.mpr (Ne.symm (ne_of_lt hb)),[], .nil,Heap.DictOf.new h⟩
noncomputable def sM:TE:=fun _ H Q=>∀ p,H p=none->Q (.ref p) (ar H p (.dK []))
section
variable {X:Cx}{pos:Pos}
theorem kA:PE X (.Dict [] [] pos) sM:=fun pins s σ H Q I h =>
 wpAny_Dict_empty ⟨.ref s.heap.objs.size,_,I.laid (a:=s.heap.objs.size) (o := .dK []) (t':=s.toks) (fun _ _ q=>Heap.get?_push_of_some _ q) (le_refl _) (qt s.heap I.big),rfl,h _ (I.u1.fresh (le_refl _))⟩
end
section
variable {X:Cx}{pins:List (Addr × Obj)}{σ:St}{H:Hp}{s:Shared}{a:Addr}{y d:V}{u r:Value}{o:Option V}{A:Around}{E:Value->Shared->Prop}
end
section
variable {X:Cx}{o e f:Expr}{apos uW:Pos}{td ty tx:TE}
end
section
variable {X:Cx}{pins:List (Addr × Obj)}{σ:St}{H:Hp}{s:Shared}{a:Addr}{uv:List (bB × V)}{A:Around}{E:Value->Shared->Prop}
end
section
variable {X:Cx}{pins:List (Addr × Obj)}{σ:St}{H:Hp}{s:Shared}{a:Addr}{y:V}{u:Value}{A:Around}{E:Value->Shared->Prop}
end
end L2
namespace L2
open PySem PySem.Spec PyProof.Rows
section
variable {X:Cx}
end
section
variable {κ:Type} [DecidableEq κ]
end
end L2
namespace L2
open PySem PySem.Spec PyProof.Rows
section
variable {X:Cx}{tg:Expr}
end
end L2
namespace L2
open PySem PySem.Spec PyProof.Rows
section
variable {X:Cx}
end
end L2
namespace L2
open PySem PySem.Spec PyProof.Rows
section
variable {prog:Program}{w:World}{A:Around}{E:Value->Shared->Prop}{s:Shared}
end
section
variable {X:Cx}{pins:List (Addr × Obj)}{σ:St}{H:Hp}{s:Shared}{a:Addr}{o:Obj}{u:HO}
end
section
variable {X:Cx}
end
section
variable {X:Cx}{elts:List Expr}{kk:Nat}{wZ:Pos}
end
end L2
namespace Yd
open PySem PySem.W PySem.Calls PyProof.Rows
section
variable {prog:Program}{w:World}{A:Around}{E:Value->Shared->Prop} {κ:SortKind} {it:Array Keyed} {s:Shared}
end
section
variable {prog:Program}{w:World}{A:Around}{E:Value->Shared->Prop}{s:Shared}{a:Addr}{vs:List Value}
end
end Yd
namespace L2
open PySem PySem.Spec PyProof.Rows
section
variable {X:Cx}
end
end L2
namespace L2
open PySem
section
variable {X:Cx}
noncomputable def Bf (t:TS):TS:=fun D σ H=>∃ wD:St->Hp->Prop,t { D with nx:=wD } σ H/\∀ σ' H',wD σ' H'->D.nx σ' H'
theorem ra {st:Stmt}{t:TS}(h:PS X st t):PS X st (Bf t):=fun pins s σ H D I ⟨wD,q,k⟩ =>
 aU (h pins s σ H _ I q) fun f s1 z=>by
  cases f with
  | next=>obtain⟨σ1,H1,I1,p⟩:=z;exact⟨σ1,H1,I1,k _ _ p⟩
  | brk=>exact z
  | cont=>exact z
  | ret u=>exact z
noncomputable def sJ (t:TE):TE:=fun σ H Q=>∃ wD:V->Hp->Prop,t σ H wD/\∀ v H',wD v H'->Q v H'
theorem nw {e:Expr}{t:TE}(h:PE X e t):PE X e (sJ t):=fun pins s σ H Q I ⟨wD,q,k⟩ =>
 aU (h pins s σ H _ I q) fun u s1 uw=>by obtain⟨v,H1,I1,r,p⟩:=uw;exact⟨v,H1,I1,r,k v H1 p⟩
end
end L2
namespace L2
open PySem PySem.Spec PyProof.Rows PySem.Builtin.Str
theorem mW:∀ {ys:List Str}{uy:List Value},Vals (ys.map V.str) uy->StrsAre uy ys
 | [],_, .nil=>by constructor
 | _ :: _,_, .cons ⟨_,e⟩ r=>by subst e;constructor;exact mW r
theorem iU:∀ (l:List (Str × Tok)),Vals ((l.map (·.1)).map V.str) (strValues l)
 | [] => .nil
 | (x,t) :: l => .cons ⟨t,rfl⟩ (iU l)
section
variable {X:Cx}
noncomputable def sj (K:Frag):V->List V->Hp->VK->Prop:=fun x vs H Q=>∃ (sep:Str)(D:Addr)(ys:List Str),x = .str sep/\vs=[.ref D]/\ux K H D (ys.map V.str)/\(ys.map (·.length)).sum + ys.length * sep.length <= 16777216/\Q (.str (Txt.join sep ys)) H
theorem nA:Cz X "str.join" (sj X.K):=by
 intro pins s σ H x vs v us Q I rx rv h
 obtain⟨sep,D,ys,rfl,rfl,hq,hz,q⟩:=h
 obtain⟨t,rfl⟩:=rx
 obtain⟨u,rfl,ru⟩:=rv.one
 cases ru
 obtain⟨uy,rv,p,_⟩:=I.list hq
 exact join_list p.isList (mW rv) hz fun t' k=>⟨.str _,H,I.tok _,⟨_,rfl⟩,q⟩
noncomputable def sY:V->List V->Hp->VK->Prop:=fun x vs H Q=>∃ z y:Str,x = .str z/\vs=[.str y]/\(y.length == 0)=false/\z.length <= 4000000/\(Txt.split z y).length <= 1000000/\∀ D,H D=none->Q (.ref D) (ar H D (.lst ((Txt.split z y).map V.str)))
theorem kH:Cz X "str.split" sY:=by
 intro pins s σ H x vs v us Q I rx rv h
 obtain⟨z,y,rfl,rfl,hy,hz,hn,q⟩:=h
 obtain⟨t,rfl⟩:=rx
 obtain⟨u,rfl,ru⟩:=rv.one
 obtain⟨u',rfl⟩:=ru
 have hx:z.length <= sizeLine:=le_trans hz (by decide)
 have fin:∀ (l:List (Str × Tok))(k:Nat),l.map (·.1)=Txt.split z y->EP X pins σ Q (.ref s.heap.objs.size) { s with heap:=s.heap.push { cls := .type "list",data := .seq (strValues l).toArray },toks:=k }:=fun l k e =>
  ⟨.ref s.heap.objs.size,_,I.laid (t':=k) (fun b o' e'=>Heap.get?_push_of_some _ e') (le_refl _) (show uC X.prog X.w _ _ _ (.lst ((Txt.split z y).map V.str)) from ⟨by rw[length_map];exact le_trans hn (by decide),strValues l,_,by rw[← e];exact iU l,Heap.get?_push_size _ rfl⟩),rfl,q _ (I.u1.fresh (le_refl _))⟩
 cases h1:(decide (z.length < y.length) || decide (strKind z < strKind y))
 ·cases hf:(occurrences z y 0 z.length (z.length + 1)).isEmpty
  ·have e:Txt.split z y=partsBetween z (occurrences z y 0 z.length (z.length + 1)) y.length:=(if_neg (ne_true_of_eq_false h1)).trans (if_neg (ne_true_of_eq_false hf))
   refine call_meets F.slot_str_split (typeIs_str _ _ _) F.entry_str_split (F.args_str_split_2 _ _) (meets_str_split_sep z y t u' h1 hy hf hx (by rw[← e];exact le_trans hn (by decide))) ?_
   have:=fin (numbered s.toks (partsBetween z (occurrences z y 0 z.length (z.length + 1)) y.length)) (s.toks + (partsBetween z (occurrences z y 0 z.length (z.length + 1)) y.length).length) ((numbered_texts _ _).trans e.symm)
   rw[← strsFrom_eq]at this
   exact this
  ·exact call_meets F.slot_str_split (typeIs_str _ _ _) F.entry_str_split (F.args_str_split_2 _ _) (meets_str_split_not_found z y t u' h1 hy hf) (fin [(z,t)] s.toks ((if_neg (ne_true_of_eq_false h1)).trans (if_pos hf)).symm)
 ·exact call_meets F.slot_str_split (typeIs_str _ _ _) F.entry_str_split (F.args_str_split_2 _ _) (meets_str_split_cannot_occur z y t u' h1) (fin [(z,t)] s.toks (if_pos h1).symm)
theorem iT:uL X (.type "int") (fun xs H Q=>∃ (x:Str)(n:Int),xs=[.str x]/\PySem.intText? x=some n/\x.length <= 640/\Q (.int n) H):=by
 intro pins s σ H xs us Q I r h
 obtain⟨x,n,rfl,hn,hl,q⟩:=h
 obtain⟨u,rfl,t,rfl⟩:=gP r
 exact PySem.W.KIN.call_text hn hl ⟨.int n,H,I.tok _,⟨_,rfl⟩,q⟩
theorem iS:uL X (.type "str") (fun xs H Q=>∃ x:Str,xs=[.str x]/\Q (.str x) H):=by
 intro pins s σ H xs us Q I r h
 obtain⟨x,rfl,q⟩:=h
 obtain⟨u,rfl,t,rfl⟩:=gP r
 exact PySem.P.str_of_str ⟨.str x,H,I,⟨_,rfl⟩,q⟩
end
noncomputable def EK (x:Str):It:=⟨fun i _=>i < x.cps.size,fun i H v H'=>H' = H/\∃ c,x.cps[i]? = some c/\v = .str ⟨#[c]⟩,fun i _=>x.cps.size <= i⟩
theorem oZ {P:Program}{w:World}{K:Frag}{tg:Expr}(x:Str)(t:Tok)(it:Addr):lA P w K tg (EK x) [it] it (fun i h=>h.IsStrIter it (strIterType x) x t i) where
 mem:=by simp
 obj:=fun i h st b hb=>by
  have e:b=it:=by simpa using hb
  subst e
  obtain⟨o,e,c,d⟩:=st
  exact⟨o,e,fun v z=>by rw[d]at z;cases z⟩
 keep:=fun i h h' st k=>by
  obtain⟨o,e,r⟩:=st
  exact⟨o,k it (by simp) o e,r⟩
 item:=by
  intro X hP hw hK hc i pins s σ H E I hf st hg
  subst hP hw hK
  have hx:x.cps[i]? = some x.cps[i]:=Array.getElem?_eq_getElem hg
  obtain⟨f0,f1,f2,f3,f4,f5⟩:=hf it (by simp)
  have go:∀ h',h'.IsStrIter it (strIterType x) x t (i + 1)->Heap.SameBut it s.heap h'->∃ u,(some (Value.str ⟨#[x.cps[i]]⟩ s.toks):Option Value)=some u/\wpAny (model X.prog X.w) X.A (letOwnedTupleGo tg (.ref it) u) (fun _ s2=>∃ v H2,Inv X pins σ H2 s2/\RelV v u/\(EK x).xP i H v H2/\s2.heap.IsStrIter it (strIterType x) x t (i + 1)/\∀ b ∈ [it],H2 b=none) E { s with heap:=h',toks:=s.toks + 1 }:=fun h' wq sb=>by
   have I1:Inv X pins σ H { s with heap:=h',toks:=s.toks + 1 }:=I.turned (t':=s.toks + 1) (fun b o hb e=>(sb.2 b hb).trans e) f0 f1 f3 f4 f5
   obtain⟨o,e,c,d⟩:=id wq
   refine⟨_,rfl,nK (s:={ s with heap:=h',toks:=s.toks + 1 }) e c d ?_ ⟨.str ⟨#[x.cps[i]]⟩,H,I1,⟨_,rfl⟩,⟨rfl,_,hx,rfl⟩,wq,fun b hb=>(hf b hb).1⟩⟩
   unfold strIterType
   split<;>decide
  by_cases ha:x.cps.all (· < 128)=true
  ·have e:strIterType x = "str_ascii_iterator":=if_pos ha
   rw[e]at st
   exact wpAny_pyNext_ascii_item st hx fun h' wq sb=>go h' (by rw[e];exact wq) sb
  ·have e:strIterType x = "str_iterator":=if_neg ha
   rw[e]at st
   exact wpAny_pyNext_wide_item st hx fun h' wq sb=>go h' (by rw[e];exact wq) sb
 done:=by
  intro X hP hw hK hc i pins s σ H E I hf st hg
  subst hP hw hK
  have hx:x.cps[i]? = none:=Array.getElem?_eq_none hg
  obtain⟨f0,f1,f2,f3,f4,f5⟩:=hf it (by simp)
  by_cases ha:x.cps.all (· < 128)=true
  ·have e:strIterType x = "str_ascii_iterator":=if_pos ha
   rw[e]at st
   exact wpAny_pyNext_ascii_end (I.ok.hd hc) st hx fun h' eb=>⟨rfl,I.turned (t':=s.toks) (fun b o hb e=>eb b o hb e) f0 f1 f3 f4 f5⟩
  ·have e:strIterType x = "str_iterator":=if_neg ha
   rw[e]at st
   exact wpAny_pyNext_wide_end (I.ok.hd hc) st hx fun h' eb=>⟨rfl,I.turned (t':=s.toks) (fun b o hb e=>eb b o hb e) f0 f1 f3 f4 f5⟩
 self:=fun _ _ _ _ _ st h=>by
  by_cases ha:x.cps.all (· < 128)=true
  ·rw[show strIterType x = "str_ascii_iterator" from if_pos ha]at st
   exact wpAny_pyIter_striter_ascii st h
  ·rw[show strIterType x = "str_iterator" from if_neg ha]at st
   exact wpAny_pyIter_striter_wide st h
section
variable {X:Cx}{tg:Expr}
noncomputable def EL (tl:TE):TI:=fun σ H R=>tl σ H fun x H1=>∃ z,x = .str z/\R (EK z) H1
theorem tj {l:Expr}{tl:TE}(hl:PE X l tl):PI X tg l (EL tl):=by
 intro pins s σ H R I h
 refine aU (hl pins s σ H _ I h) fun v s1 uw=>?_
 obtain⟨x,H1,I1,r1,q1⟩:=uw
 obtain⟨z,e,q⟩:=q1
 subst e
 obtain⟨t,rfl⟩:=r1
 refine wpAny_pyIter_strU ?_
 refine⟨s1.heap.objs.size,[s1.heap.objs.size],_,_,H1,rfl,I1.kept (t':=s1.toks) fun b o e=>Heap.get?_push_of_some _ e,oZ z t _,⟨_,Heap.get?_push_size _ rfl,rfl,rfl⟩,fun b hb=>?_,q⟩
 have e:b=s1.heap.objs.size:=by simpa using hb
 subst e
 exact I1.wY (le_refl _) (I1.u1.fresh (le_refl _))
end
end L2
namespace L2
open PySem PySem.StrLaws PySem.Builtin PySem.Builtin.Str
noncomputable def dY (c:Nat):List Nat->List (List Nat)
 | []=>[[]]
 | a :: l=>if a=c then [] :: dY c l else match dY c l with
  | []=>[[a]]
  | p :: r=>(a :: p) :: r
noncomputable def cJ (c:Nat):List (List Nat)->List Nat
 | []=>[]
 | [p]=>p
 | p :: q :: r=>p ++ c :: cJ c (q :: r)
theorem iG (c a:Nat)(l:List Nat):dY c (a :: l)=if a=c then [] :: dY c l else match dY c l with
  | []=>[[a]]
  | p :: r=>(a :: p) :: r:=rfl
theorem iF {c:Nat}:∀ {p:List Nat},c ∉ p->dY c p=[p]
 | [],_=>rfl
 | a :: p,h=>by
  unfold dY
  rw[if_neg (fun e=>h (by rw[e];exact mem_cons_self)),iF fun z=>h (mem_cons_of_mem _ z)]
theorem nS {c:Nat}(l:List Nat):∀ {p:List Nat},c ∉ p->dY c (p ++ c :: l)=p :: dY c l
 | [],_=>by
  show dY c (c :: l)=_
  rw[iG,if_pos rfl]
 | a :: p,h=>by
  show dY c (a :: (p ++ c :: l))=_
  rw[iG,if_neg (fun e=>h (by rw[e];exact mem_cons_self)),nS l fun z=>h (mem_cons_of_mem _ z)]
theorem kZ {c:Nat}:∀ {ps:List (List Nat)},ps ≠ []->(∀ p ∈ ps,c ∉ p)->dY c (cJ c ps)=ps
 | [],h,_=>absurd rfl h
 | [p],_,h=>iF (h p mem_cons_self)
 | p :: q :: r,_,h=>by
  show dY c (p ++ c :: cJ c (q :: r))=_
  rw[nS _ (h p mem_cons_self),kZ (cons_ne_nil _ _) fun x hx=>h x (mem_cons_of_mem _ hx)]
noncomputable def fu (x:Str)(c a:Nat):List Nat:=(List.range' a (x.length - a)).filter fun i=>decide (x.cps.toList[i]? = some c)
theorem jE (x:Str)(c limit:Nat):∀ (m a:Nat)(st:Array Nat × Nat),st.snd <= a->st.fst.size + m <= limit ->
  (forIn (List.range' a m) st (occBody x ⟨#[c]⟩ x.length limit)).run.fst.toList=st.fst.toList ++ (List.range' a m).filter fun i=>decide (x.cps.toList[i]? = some c)
 | 0,_,st,_,_=>by simp
 | m + 1,a,st,hs,hl=>by
  rw[List.range'_succ,forIn_cons]
  unfold occBody
  by_cases h:x.cps.toList[a]? = some c
  ·have h2:=(subAt_one x c a).mpr h
   rw[if_pos ⟨⟨⟨by omega,hs⟩,h2.1⟩,h2.2⟩,filter_cons,if_pos (decide_eq_true h)]
   have:=jE x c limit m (a + 1) (st.fst.push a,a + (⟨#[c]⟩:Str).length) (le_refl _) (by rw[Array.size_push];omega)
   have e:(st.fst.push a).toList=st.fst.toList ++ [a]:=Array.toList_push
   rw[show((st.fst.push a,a + (⟨#[c]⟩:Str).length):Array Nat × Nat).fst.toList=st.fst.toList ++ [a] from e,append_assoc]at this
   exact this
  ·rw[if_neg (fun z=>h ((subAt_one x c a).mp ⟨z.1.2,z.2⟩)),filter_cons,if_neg (by rw[decide_eq_true_eq];exact h)]
   exact jE x c limit m (a + 1) (st.fst,st.snd) (Nat.le_succ_of_le hs) (by show st.fst.size + m <= limit;omega)
theorem n6 (x:Str)(c:Nat):occurrences x ⟨#[c]⟩ 0 x.length (x.length + 1)=fu x c 0:=by
 rw[occ_eq,jE x c _ _ 0 (#[],0) (le_refl _) (by show 0 + (x.length + 1 - 0) <= _;omega)]
 unfold fu
 show [] ++ _=_
 rw[List.nil_append,show x.length + 1 - 0=x.length - 0 + 1 by omega,List.range'_concat,filter_append]
 have:x.cps.toList[0 + 1 * (x.length - 0)]? = none:=List.getElem?_eq_none (by rw[Array.length_toList];show x.cps.size <= _;rw[show 0 + 1 * (x.length - 0)=x.cps.size by show 0 + 1 * (x.cps.size - 0)=_;omega];exact le_refl _)
 rw[filter_cons,if_neg (by rw[this,decide_eq_true_eq];exact fun z=>by cases z)]
 simp
theorem eW (x:Str)(a b:Nat):(strSub x a b).cps.toList=(x.cps.toList.take b).drop a:=by
 show(x.cps.extract a b).toList=_
 rw[Array.toList_extract,List.extract_eq_drop_take,List.take_drop]
 by_cases h:a <= b
 ·rw[show a + (b - a)=b by omega]
 ·rw[show b - a=0 by omega,Nat.add_zero,drop_eq_nil_of_le (by rw[length_take];omega),drop_eq_nil_of_le (by rw[length_take];omega)]
theorem kC (x:Str)(c:Nat):∀ (k a:Nat),a + k=x.length->(partsFrom x 1 a (fu x c a)).map (fun s=>s.cps.toList)=dY c (x.cps.toList.drop a)
 | 0,a,h=>by
  have e:fu x c a=[]:=by unfold fu;rw[show x.length - a=0 by omega];rfl
  rw[e]
  show [(strSub x a x.length).cps.toList]=_
  rw[eW,drop_eq_nil_of_le (by rw[length_take];omega),drop_eq_nil_of_le (by rw[Array.length_toList];show x.length <= a;omega)]
  rfl
 | k + 1,a,h=>by
  have ha:a < x.cps.toList.length:=by rw[Array.length_toList];show a < x.length;omega
  have ed:x.cps.toList.drop a=x.cps.toList[a] :: x.cps.toList.drop (a + 1):=List.drop_eq_getElem_cons ha
  have ih:=kC x c k (a + 1) (by omega)
  have ep:fu x c a=if x.cps.toList[a]=c then a :: fu x c (a + 1) else fu x c (a + 1):=by
   unfold fu
   rw[show x.length - a=(x.length - (a + 1)) + 1 by omega,List.range'_succ,filter_cons,List.getElem?_eq_getElem ha]
   by_cases e:x.cps.toList[a]=c
   ·rw[if_pos e,if_pos (decide_eq_true (congrArg some e))]
   ·rw[if_neg e,if_neg (by rw[decide_eq_true_eq];exact fun z=>e (Option.some.inj z))]
  rw[ed,ep,iG]
  by_cases e:x.cps.toList[a]=c
  ·rw[if_pos e,if_pos e,← ih]
   show(strSub x a a).cps.toList :: _=_
   rw[eW,drop_eq_nil_of_le (by rw[length_take];omega)]
  ·rw[if_neg e,if_neg e,← ih]
   have hge:∀ i ∈ fu x c (a + 1),a + 1 <= i:=fun i hi=>by
    have:=List.mem_range'_1.mp (mem_filter.mp hi).1
    omega
   have hd:∀ b,a + 1 <= b->(strSub x a b).cps.toList=x.cps.toList[a] :: (strSub x (a + 1) b).cps.toList:=fun b hb=>by
    rw[eW,eW,List.drop_eq_getElem_cons (by rw[length_take];omega),List.getElem_take]
   cases hp:fu x c (a + 1) with
   | nil =>
    show [(strSub x a x.length).cps.toList]=[x.cps.toList[a] :: (strSub x (a + 1) x.length).cps.toList]
    rw[hd _ (by omega)]
   | cons i r =>
    show(strSub x a i).cps.toList :: _=(x.cps.toList[a] :: (strSub x (a + 1) i).cps.toList) :: _
    rw[hd i (hge i (by rw[hp];exact mem_cons_self))]
theorem oq (x:Str){c:Nat}(zd:c < 256):(Txt.split x ⟨#[c]⟩).map (fun s=>s.cps.toList)=dY c x.cps.toList:=by
 have main:∀ h:fu x c 0=fu x c 0,(partsFrom x 1 0 (fu x c 0)).map (fun s=>s.cps.toList)=dY c x.cps.toList:=fun _=>by
  have:=kC x c x.length 0 (by omega)
  rw[List.drop_zero]at this
  exact this
 have Bg:c ∉ x.cps.toList->dY c x.cps.toList=[x.cps.toList]:=fun h=>iF h
 unfold Txt.split
 split
 ·rename_i h
  by_cases hc:c ∈ x.cps.toList
  ·exfalso
   rw[Bool.or_eq_true,decide_eq_true_eq,decide_eq_true_eq]at h
   rcases h with h | h
   ·have h:x.cps.size < 1:=h
    have:=List.length_pos_of_mem hc
    rw[Array.length_toList]at this
    omega
   ·have e:PySem.Builtin.Str.strKind ⟨#[c]⟩ = 1:=by
     unfold PySem.Builtin.Str.strKind
     rw[if_pos]
     simp[zd]
    rw[e]at h
    unfold PySem.Builtin.Str.strKind at h
    split at h
    ·omega
    ·split at h<;>omega
  ·rw[Bg hc];rfl
 ·split
  ·rename_i h
   rw[n6,isEmpty_iff]at h
   have:=main rfl
   rw[h]at this
   rw[← this]
   show [x.cps.toList]=[(strSub x 0 x.length).cps.toList]
   rw[sub_whole]
  ·rw[partsBetween_eq,n6]
   exact main rfl
theorem gb (c:Nat):∀ ys:List Str,(Str.join ⟨#[c]⟩ ys).cps.toList=cJ c (ys.map fun s=>s.cps.toList)
 | []=>rfl
 | [y]=>rfl
 | y :: z :: r=>by
  show(y ++ ⟨#[c]⟩ ++ Str.join ⟨#[c]⟩ (z :: r)).cps.toList=y.cps.toList ++ c :: cJ c ((z :: r).map fun s=>s.cps.toList)
  rw[← gb c (z :: r)]
  show((y.cps ++ #[c]) ++ (Str.join ⟨#[c]⟩ (z :: r)).cps).toList=_
  rw[Array.toList_append,Array.toList_append,append_assoc]
  rfl
theorem gZ {c:Nat}(zd:c < 256){ys:List Str}(ve:ys ≠ [])(hf:∀ y ∈ ys,c ∉ y.cps.toList):Txt.split (Txt.join ⟨#[c]⟩ ys) ⟨#[c]⟩ = ys:=by
 have h1:=oq (Txt.join ⟨#[c]⟩ ys) zd
 have e:(Txt.join ⟨#[c]⟩ ys)=Str.join ⟨#[c]⟩ ys:=StrLaws.glued_eq_join _ _
 rw[e,gb,kZ (fun z=>ve (map_eq_nil_iff.mp z)) (fun p hp=>by obtain⟨y,hy,rfl⟩:=mem_map.mp hp;exact hf y hy)]at h1
 rw[e]
 refine(List.map_inj_right fun a b h=>?_).mp h1
 cases a;cases b
 exact congrArg Str.mk (Array.toList_inj.mp h)
end L2
namespace L2
open PySem PySem.Calls PySem.NumText PyProof.Rows PySem.W.KIN
noncomputable def aF (m:Nat):Str:=Str.ofString (toString ((m:Nat):Int))
theorem dR (m:Nat):∀ c ∈ (aF m).cps.toList,48 <= c/\c <= 57:=by
 intro c hc
 unfold aF at hc
 rw[signs_num]at hc
 obtain⟨ch,xk,e⟩:=mem_map.mp hc
 have r:=digit_range (Nat.isDigit_of_mem_toDigits (by decide) (by decide) xk)
 rw[← e]
 exact r
theorem n8 (m:Nat):(aF m).cps.toList ≠ []:=by
 unfold aF
 rw[signs_num]
 intro e
 have h:=toDigits_len_ge 10 m
 rw[map_eq_nil_iff.mp e]at h
 exact absurd h (by decide)
theorem mB {m:Nat}(hl:(aF m).length <= 640):PySem.intText? (aF m)=some (m:Int):=by
 have e:=intText_digits (x:=aF m) (dR m) (n8 m) (le_trans hl (by decide))
 unfold aF at e ⊢
 rw[signs_num,val_back]at e
 exact e
theorem i5 {m k:Nat}(hk:0 < k)(h:m < 10 ^ k):(aF m).length <= k:=toString_length_le (by omega) hk (by exact_mod_cast h)
theorem jF {m c:Nat}(h:c < 48∨57 < c):c ∉ (aF m).cps.toList:=fun z=>by have:=dR m c z;omega
end L2
namespace L2
open PySem
theorem bA {J:It}{g:TG}{tt:TT}{te:TE}{σ0:St}{H:Hp}{Q:VK}(n:Nat)(hn:n < sizeLine)(W:Nat->List V->Hp->Prop)(h0:W 0 [] H)(hlen:∀ i acc H',W i acc H'->acc.length <= i)
  (turn:∀ i acc H',i < n->W i acc H'->J.go i H'/\∀ x H2,J.xP i H' x H2->g x σ0 H2 fun σ2 H3=>tt σ2 H3 fun b H4=>if b=true then te σ2 H4 fun y H5=>W (i + 1) (acc ++ [y]) H5 else W (i + 1) acc H4)
  (stop:∀ acc H',W n acc H'->J.stop n H'/\∀ D,H' D=none->Q (.ref D) (ar H' D (.lst acc))):eG J g tt te σ0 Q H:=by
 refine⟨fun i m acc H'=>m=n - i/\i <= n/\W i acc H',⟨n,by simp,zero_le _,h0⟩,?_⟩
 rintro i m acc H' ⟨rfl,hi,w⟩
 refine⟨by have:=hlen i acc H' w;omega,?_⟩
 by_cases uX:i < n
 ·obtain⟨go,q⟩:=turn i acc H' uX w
  exact .inr ⟨go,fun uR H2=>W (i + 1) uR H2,fun uR H2 w2=>⟨n - (i + 1),by omega,rfl,uX,w2⟩,q⟩
 ·have e:i=n:=by omega
  subst e
  exact .inl (stop acc H' w)
theorem uu.new {H H':Hp}{a:Addr}{o:HO}(h:uu H H')(n:H' a=none):uu H (ar H' a o):=fun b u e=>by rw[ak (am (h _ _ e) n)];exact h _ _ e
end L2
namespace L2
open PySem
theorem uU {N P:List Str}{sc:Scope}(a:sc.kind = .function:=by rfl)(b:sc.isCoroutine=false:=by rfl)(c:sc.isGenerator=false:=by rfl)(d:N.Nodup:=by decide +kernel)(e:N.take P.length=P:=by rfl)(f:∀ x ∈ P,sc.names.lookup x=some .local∨sc.names.lookup x=some .cell:=by decide +kernel)(g:∀ y ∈ sc.names,y.2 ≠ .free:=by decide +kernel):aw N P sc:=⟨a,b,c,d,e,f,g⟩
theorem vH {N:List Str}{sc scope:Scope}{capN:List Str}{cap:List Nat}(a:scope.kind = .function:=by rfl)(b:∀ y ∈ scope.names,y.2 ≠ .cell:=by decide +kernel)(c:∀ y ∈ scope.names,y.2 = .local->scope.names.lookup y.1=some .local:=by decide +kernel)(d:∀ y ∈ scope.names,y.2 = .free->sc.names.lookup y.1=some .cell∨sc.names.lookup y.1=some .free:=by decide +kernel)(e:cap.length=capN.length:=by rfl)(f:∀ p ∈ capN.zip cap,scope.names.lookup p.1=some .free/\N[p.2]? = some p.1:=by decide +kernel):vd N sc scope capN cap:=⟨a,b,c,d,e,f⟩
end L2
namespace K80
open PySem L2
variable {P:Program}{w:World}{K:Frag}{mg:Str->Option Value}{base:Heap}
noncomputable def dh (i:Nat):Stmt:=PySem.Challenge.pw_wormyard_k80_tables_shown.main.body.getD i (.Pass ⟨0,0,0,0⟩)
abbrev qX:Stmt:=dh 18
abbrev p9:Stmt:=dh 19
abbrev sV:Stmt:=dh 20
abbrev ie:Stmt:=dh 9
abbrev j5:Stmt:=dh 10
abbrev sW:Stmt:=dh 11
abbrev sT:Stmt:=dh 15
abbrev ki:Stmt:=dh 22
abbrev EM:Stmt:=dh 23
abbrev j6:Stmt:=dh 42
abbrev eK:Stmt:=dh 44
abbrev lV:Stmt:=dh 29
abbrev fc:Stmt:=dh 30
abbrev ib:Stmt:=dh 31
abbrev ij:Stmt:=dh 32
abbrev ig:Stmt:=dh 34
abbrev dJ:Stmt:=dh 35
abbrev ii:Stmt:=dh 36
abbrev eZ:Stmt:=dh 37
abbrev dL:Stmt:=dh 38
abbrev dM:Stmt:=dh 39
abbrev ik:Stmt:=dh 40
abbrev pC:Stmt:=dh 47
abbrev pA:Stmt:=dh 48
abbrev kc:Stmt:=dh 49
abbrev iZ:Stmt:=dh 50
abbrev pB:Stmt:=dh 51
abbrev lY:Stmt:=dh 52
abbrev j7:Stmt:=dh 53
abbrev kg:Stmt:=cn (dh 16) 0
abbrev sX:Stmt:=cn (dh 16) 2
abbrev p8:Stmt:=cn (dh 16) 3
abbrev ke:Stmt:=cn (dh 16) 4
abbrev sU:Stmt:=cn (dh 24) 0
abbrev p7:Stmt:=cn (dh 24) 1
abbrev p6:Stmt:=cn (dh 25) 0
abbrev lW:Stmt:=cn (dh 25) 1
abbrev ja:Stmt:=cn (dh 45) 0
abbrev lX:Stmt:=cn (dh 45) 1
structure Txt (mg:Str->Option Value):Prop where
 Bh:mg "isinstance" = none
 int:mg "int" = none
 bool:mg "bool" = none
 len:mg "len" = none
 enum:mg "enumerate" = none
 tuple:mg "tuple" = none
 range:mg "range" = none
 list:mg "list" = none
 str:mg "str" = none
 all:mg "all" = none
 max:mg "max" = none
 sorted:mg "sorted" = none
noncomputable def Bi (H:Hp)(v:V)(p:Int × Int):Prop:=∃ t,v = .ref t/\H t=some (.tup [.int p.1, .int p.2])
abbrev uD (H:Hp):List V->List (Int × Int)->Prop:=Paired (Bi H)
theorem uD.same {H H':Hp}(h:uu H H'):∀ {vs:List V}{ps:List (Int × Int)},uD H vs ps->uD H' vs ps:=fun uw=>by
 induction uw with
 | nil=>exact .nil
 | cons zz r ih=>obtain⟨t,e,q⟩:=zz;exact .cons ⟨t,e,h _ _ q⟩ ih
theorem uD.get {H:Hp}:∀ {vs:List V}{ps:List (Int × Int)}{i:Nat}{v:V},uD H vs ps->vs[i]? = some v->∃ p,ps[i]? = some p/\Bi H v p:=by
 intro _ _ i _ uw
 induction uw generalizing i with
 | nil=>intro h;cases h
 | cons x r ih =>
  intro h
  cases i with
  | zero=>cases h;exact⟨_,rfl,x⟩
  | succ i=>exact ih (i:=i) h
theorem uD.ze {H:Hp}:∀ {vs:List V}{ps:List (Int × Int)}{i:Nat}{p:Int × Int},uD H vs ps->ps[i]? = some p->∃ v,vs[i]? = some v/\Bi H v p:=by
 intro _ _ i _ uw
 induction uw generalizing i with
 | nil=>intro h;cases h
 | cons x r ih =>
  intro h
  cases i with
  | zero=>cases h;exact⟨_,rfl,x⟩
  | succ i=>exact ih (i:=i) h
theorem uD.snoc {H:Hp}{v:V}{p:Int × Int}(h:Bi H v p):∀ {vs:List V}{ps:List (Int × Int)},uD H vs ps->uD H (vs ++ [v]) (ps ++ [p]):=fun uw=>by
 induction uw with
 | nil=>exact .cons h .nil
 | cons q r ih=>exact .cons q ih
noncomputable def fB (n:Int)(p:Int × Int):Bool:=decide (0 <= p.1/\p.1 <= n - 1) && (decide (0 <= p.2/\p.2 <= n - 1) && !decide (p.1=p.2))
noncomputable def jy:Sp:=fun vs H Q _=>∃ i:Int,vs=[.int i]/\Q (.bl true) H
noncomputable def eX:Sp:=fun vs H Q _=>∃ i a b:Int,vs=[.int i, .int a, .int b]/\Q (.bl (decide (a <= i/\i <= b))) H
noncomputable def mX:Sp:=fun vs H Q _=>∃ n a b:Int,vs=[.int n, .int a, .int b]/\Q (.bl (fB n (a,b))) H
theorem qV:aw ["value"] ["value"] (ah ie):=L2.uU
theorem kE {f:Addr}{fd:FuncData}(F:uN K "is_whole" "is_whole" ie f fd)(T:Txt mg):Z P w K mg base aD 1 f fd ["value"] jy:=by
 refine F.ok qV (fun vs H Q E h=>?_) (fun uF A outer s H vs Q E hr h=>?_)
 ·obtain⟨m,rfl,_⟩:=h
  rfl
 ·obtain⟨i,rfl,q⟩:=h
  refine⟨_,ag (aA (eM (aM lp rfl T.Bh PyProof.Rows.boot_isinstance (aa (pv 0) (aa (gy (v := .ty "int") rfl T.int PySem.Pv.boot_int rfl) ad)))
   (fU (tp (aM lp rfl T.Bh PyProof.Rows.boot_isinstance (aa (pv 0) (aa (gy (v := .ty "bool") rfl T.bool PySem.Pv.boot_bool rfl) ad))))))),?_⟩
  refine⟨_,rfl, .inl ⟨i,rfl,true,rfl,?_⟩⟩
  refine be ?_
  exact⟨_,rfl, .inr (.inl ⟨i,rfl,false,rfl,q⟩)⟩
theorem p4:aw ["value", "least", "most"] ["value", "least", "most"] (ah j5):=L2.uU
theorem o8 {f fh:Addr}{fd wO:FuncData}(F:uN K "is_within" "is_within" j5 f fd)(T:Txt mg)(mh:mg "is_whole" = some (.ref fh))(Fh:uN K "is_whole" "is_whole" ie fh wO)(bh:Binds K wO ["value"] []) :
  Z P w K mg base aD 2 f fd ["value", "least", "most"] eX:=by
 have G:Z P w K mg base aD 1 fh wO ["value"] jy:=kE Fh T
 refine F.ok p4 (fun vs H Q E h=>?_) (fun uF A outer s H vs Q E hr h=>?_)
 ·obtain⟨i,a,b,rfl,_⟩:=h
  rfl
 ·obtain⟨i,a,b,rfl,q⟩:=h
  refine⟨_,ag (aA (eM (ap G hr rfl mh Fh.kp bh .nil au (aa (pv 0) ad)) (fU (pJ so so (pv 1) (pv 0) (pv 2))))),?_⟩
  refine⟨_,rfl,i,rfl,true,rfl,be ?_⟩
  refine⟨_,rfl,_,rfl,_,_,rfl,rfl,_,rfl,?_⟩
  by_cases h1:a <= i
  ·rw[decide_eq_true h1]
   refine be ⟨_,rfl,_,_,rfl,rfl,?_⟩
   show Q (V.bl (decide (i <= b))) H
   by_cases h2:i <= b
   ·rw[decide_eq_true h2];rw[decide_eq_true ⟨h1,h2⟩]at q;exact q
   ·rw[decide_eq_false h2];rw[decide_eq_false fun z=>h2 z.2]at q;exact q
  ·rw[decide_eq_false h1]
   refine aT ?_
   rw[decide_eq_false fun z=>h1 z.1]at q;exact q
theorem yB:aw ["places", "one", "other", "last"] ["places", "one", "other"] (ah sT):=L2.uU
theorem tG {f fh:Addr}{fd wO:FuncData}(F:uN K "are_two_places" "are_two_places" sT f fd)(mh:mg "is_within" = some (.ref fh))(kh:keepIn K (.ref fh)=true)(bh:Binds K wO ["value", "least", "most"] [])
  (G:Z P w K mg base aD 2 fh wO ["value", "least", "most"] eX) :
  Z P w K mg base aD 3 f fd ["places", "one", "other"] mX:=by
 refine F.ok yB (fun vs H Q E h=>?_) (fun uF A outer s H vs Q E hr h=>?_)
 ·obtain⟨i,a,b,rfl,_⟩:=h
  rfl
 ·obtain⟨n,a,b,rfl,q⟩:=h
  refine⟨_,ae (ay (i:=3) yB.nd rfl (Or.inl rfl) (ax pM (pv 0) aj))
   (ag (aA (eM (ap G hr rfl mh kh bh .nil au (aa (pv 1) (aa aj (aa (pv 3) ad))))
    (eM (ap G hr rfl mh kh bh .nil au (aa (pv 2) (aa aj (aa (pv 3) ad)))) (fU (dD kD (pv 1) (pv 2) (aC _))))))),?_⟩
  refine⟨_,rfl,_,_,rfl,rfl,?_⟩
  refine⟨_,rfl,_,rfl,a,0,n - 1,rfl,_,rfl,?_⟩
  unfold fB at q
  dsimp only at q
  by_cases h1:0 <= a/\a <= n - 1
  ·rw[decide_eq_true h1]at q ⊢
   rw[Bool.true_and]at q
   refine be ⟨_,rfl,_,rfl,b,0,n - 1,rfl,_,rfl,?_⟩
   by_cases h2:0 <= b/\b <= n - 1
   ·rw[decide_eq_true h2]at q ⊢
    rw[Bool.true_and]at q
    refine be ⟨_,rfl,_,rfl,rfl,?_⟩
    have e:decide (V.int a=V.int b)=decide (a=b):=by
     by_cases h:a=b
     ·rw[h];simp
     ·rw[decide_eq_false h,decide_eq_false fun z=>h (by injection z)]
    show Q (V.bl (!decide (V.int a=V.int b))) H
    rw[e];exact q
   ·rw[decide_eq_false h2]at q ⊢
    exact aT q
  ·rw[decide_eq_false h1]at q ⊢
   exact aT q
end K80
namespace L2
open PySem
end L2
namespace K80
open PySem L2
variable {P:Program}{w:World}{K:Frag}{mg:Str->Option Value}{base:Heap}
inductive Due | places | many (k:Nat) | wF (k:Nat) | good
noncomputable def l0 (n:Int)(ps:List (Int × Int)):Option Nat:=ps.findIdx? fun p=>!fB n p
noncomputable def dX (n:Int)(ps:List (Int × Int)):Due:=if decide (1 <= n/\n <= 12)=false then .places else if 40 < ps.length then .many ps.length else match l0 n ps with | some k => .wF k | none => .good
structure Cs where
 land:Addr
noncomputable def bL (H:Hp)(c:Cs)(x dx t:Addr)(n:Int)(uz:List V)(ps:List (Int × Int)):Prop:=H x=some (.ins c.land dx [("places", .int n),("lanes", .ref t)])/\H t=some (.tup uz)/\uD H uz ps
noncomputable def j1 (K:Frag)(c:Cs):Sp:=fun vs H Q E=>∃ x dx n p uH ps,vs=[.ref x, .int n, .ref p]/\H x=some (.ins c.land dx [])/\ux K H p uH/\uD H uH ps/\uH.length <= 1000 /\
 (dX n ps = .places->False) /\
 (∀ k,dX n ps = .many k->False) /\
 (∀ k,dX n ps = .wF k->False) /\
 (dX n ps = .good->∀ H' t uz,(∀ b o,b ≠ x->H b=some o->H' b=some o)->bL H' c x dx t n uz ps->Q .uB H')
noncomputable def pb (s:Stmt):Scope:=match s with
 | .Assign _ (.Call _ [.ListComp _ _ sc _] _ _) _=>sc
 | _=>{ kind := .function,names:=[],isGenerator:=false,isCoroutine:=false }
noncomputable def ip (s:Stmt):Scope:=match aL s with
 | .Return (some (.ListComp _ _ sc _)) _ :: _=>sc
 | _=>{ kind := .function,names:=[],isGenerator:=false,isCoroutine:=false }
abbrev NI:List Str:=["self", "places", "lanes", "lane", "pair"]
structure oU (K:Frag)(c:Cs):Prop where
 cl:wo K c.land
 np:uA K c.land "places"
 nl:uA K c.land "lanes"
theorem iK {n:Int}{ps:List (Int × Int)}(h:∀ p ∈ ps,fB n p=true):l0 n ps=none:=by
 unfold l0
 rw[List.findIdx?_eq_none_iff]
 intro p hp
 rw[h p hp];rfl
theorem mR {n:Int}{ps:List (Int × Int)}{i:Nat}{p:Int × Int}(h:∀ q ∈ ps.take i,fB n q=true)(hi:ps[i]? = some p)(hb:fB n p=false):l0 n ps=some i:=by
 unfold l0
 rw[List.findIdx?_eq_some_iff_getElem]
 obtain⟨uX,e⟩:=List.getElem?_eq_some_iff.mp hi
 refine⟨uX,by rw[e,hb];rfl,fun j hj=>?_⟩
 have hm:ps[j]'(lt_trans hj uX) ∈ ps.take i:=mem_take_iff_getElem.mpr ⟨j,by omega,rfl⟩
 rw[h _ hm];simp
noncomputable def Off (x:Addr)(H H':Hp):Prop:=∀ b o,b ≠ x->H b=some o->H' b=some o
theorem Off.sq {K:Frag}{H H':Hp}{x p C dx:Addr}{fs:List (Str × V)}{xs:List V}(o:Off x H H')(hx:H x=some (.ins C dx fs))(h:ux K H p xs):ux K H' p xs:=by
 rcases h with (h | ⟨ob,h⟩) | h
 ·exact .inl (.inl (o _ _ (bu h hx (by intro z;cases z)) h))
 ·exact .inl (.inr ⟨ob,o _ _ (bu h hx (by intro z;cases z)) h⟩)
 ·exact .inr h
theorem Off.C6 {H H':Hp}{x C dx:Addr}{fs:List (Str × V)}(o:Off x H H')(hx:H x=some (.ins C dx fs)):∀ {vs:List V}{ps:List (Int × Int)},uD H vs ps->uD H' vs ps:=fun uw=>by
 induction uw with
 | nil=>exact .nil
 | cons zz r ih=>obtain⟨t,e,q⟩:=zz;exact .cons ⟨t,e,o _ _ (bu q hx (by intro z;cases z)) q⟩ ih
theorem Off.same {H H1 H2:Hp}{x:Addr}(a:Off x H H1)(b:uu H1 H2):Off x H H2:=fun c o n e=>b _ _ (a c o n e)
theorem wG:aw NI ["self", "places", "lanes"] (ah kg):=L2.uU
theorem uf:vd NI (ah kg) (pb ((aL kg).getD 4 (.Pass ⟨0,0,0,0⟩))) [] []:=L2.vH
theorem tP:(["pair"]:List Str).Nodup:=by decide +kernel
theorem r8 {c:Cs}{f fw ft:Addr}{fd dw dt:FuncData}{t1 t2:Tok}(F:uN K "__init__" "Land.__init__" kg f fd)(T:Txt mg)(L:oU K c)
  (mw:mg "is_within" = some (.ref fw)) (kw:keepIn K (.ref fw)=true) (bw:Binds K dw ["value", "least", "most"] []) (Gw:Z P w K mg base aD 2 fw dw ["value", "least", "most"] eX)
  (mt:mg "are_two_places" = some (.ref ft)) (kt:keepIn K (.ref ft)=true) (bt:Binds K dt ["places", "one", "other"] []) (Gt:Z P w K mg base aD 3 ft dt ["places", "one", "other"] mX)
  (mp:mg "MOST_PLACES" = some (.int 12 t1)) (ml:mg "MOST_LANES" = some (.int 40 t2)) :
  Z P w K mg base aD 4 f fd ["self", "places", "lanes"] (j1 K c):=by
 refine F.ok wG (fun vs H Q E h=>?_) (fun uF A outer s H vs Q E hr h=>?_)
 ·obtain⟨x,dx,n,p,uH,ps,rfl,_⟩:=h
  rfl
 ·obtain⟨x,dx,n,p,uH,ps,rfl,hx,hp,hl,hlen,h1,h2,h3,h4⟩:=h
  have vQ:u5 2 _:=hr.mono (by decide)
  refine⟨_,ae (b9 (cv (cC (ap Gw vQ rfl mw kw bw .nil au (aa (pv 1) (aa aj (aa (dC (v := .int 12) rfl mp ⟨_,rfl⟩) ad))))))
    (ag cT) aK)
   (ae (b9 (az n5 (aM aO rfl T.len PySem.boot_len (aa (pv 2) ad)) (dC (v := .int 40) rfl ml ⟨_,rfl⟩) (aC _))
    (ag cT) aK)
   (ae (bg PassesOwn.never rfl (kz rfl T.enum (aa (pv 2) ad)) (eL rfl (aR (ao (i:=3) wG.nd rfl (Or.inl rfl)) (aR (ao (i:=4) wG.nd rfl (Or.inl rfl)) dA)))
    (ag (b9 (cv (cC (ap Gt hr rfl mt kt bt .nil au (aa (pv 1) (aa (aJ aW (pv 4) aj (fun _ _=>rfl)) (aa (aJ aW (pv 4) aj (fun _ _=>rfl)) ad))))))
     (ag cT) aK)))
   (ae (fT (pv 0) (pv 1) rfl)
   (ag (fT (pv 0) (aZ cO rfl T.tuple PySem.Pv.boot_tuple (aa (bp (own:=["pair"]) (capN:=[]) (cap:=[]) uf rfl (aI (pv 2))
    (fun C s' H' fp=>⟨ao (i:=0) tP rfl (Or.inl rfl),cx,cg (aa (aJ (show jq _ (ir K) from aW) (pv 0) aj (fun _ _=>rfl)) (aa (aJ (show jq _ (ir K) from aW) (pv 0) aj (fun _ _=>rfl)) ad))⟩)) ad)) rfl))))),?_⟩
  refine⟨_,rfl,n,1,12,rfl,_,rfl,?_⟩
  by_cases hn:1 <= n/\n <= 12
  rotate_left
  ·rw[decide_eq_false hn]
   exact be (h1 (by unfold dX;rw[if_pos (decide_eq_false hn)]))
  rw[decide_eq_true hn]
  refine aT ?_
  have vf:uH.length=ps.length:=Paired.length hl
  refine⟨_,rfl,p,_,rfl, .inl hp,_,_,rfl,rfl,_,rfl,?_⟩
  by_cases hm:40 < ps.length
  ·rw[decide_eq_true (show (40:Int) < (uH.length:Nat) by omega)]
   refine be (h2 ps.length ?_)
   unfold dX
   rw[decide_eq_true hn,if_neg (by decide),if_pos hm]
  rw[decide_eq_false (show ¬ (40:Int) < (uH.length:Nat) by omega)]
  refine aT ?_
  refine⟨_,rfl,p,rfl,⟨_,hp⟩,kR (sq:=fun H=>ux K H p) (xs:=uH) (fun i σ H2=>∃ a b:Option V,uu H H2/\σ=[some (.ref x),some (.int n),some (.ref p),a,b]/\∀ q ∈ ps.take i,fB n q=true)
   ⟨none,none,uu.refl H,rfl,fun q hq=>by simp at hq⟩ (fun i σ H2 _ uw=>by obtain⟨a,b,s2,_⟩:=uw;exact s2.seq hp) ?_ ?_⟩
  ·rintro i v q σ H2 hv ⟨a,b,s2,rfl,vv⟩ hq
   obtain⟨pr,hpr,t,rfl,ht⟩:=uD.get hl hv
   have s3:uu H (ar H2 q (.tup [.int i, .ref t])):=s2.new hq
   refine⟨q,_,rfl,uE.of ac,rfl,_,_,rfl,_,_,rfl,rfl,?_⟩
   have xS:uE K (ar H2 q (.tup [.int i, .ref t])) t [.int pr.1, .int pr.2]:=uE.of (s3 _ _ ht)
   refine⟨_,rfl,_,rfl,t,_,0,_,rfl,rfl,xS,aB (j:=0) rfl,?_⟩
   refine⟨_,rfl,t,_,1,_,rfl,rfl,xS,aB (j:=1) rfl,n,pr.1,pr.2,rfl,_,rfl,?_⟩
   cases ho:fB n (pr.1,pr.2) with
   | true =>
    refine aT ⟨some (.int i),some (.ref t),s3,rfl,fun z hz=>?_⟩
    rw[take_succ,hpr]at hz
    rcases mem_append.mp hz with hz | hz
    ·exact vv z hz
    ·have:z=pr:=by simpa using hz
     rw[this];exact ho
   | false =>
    refine be (h3 i ?_)
    unfold dX
    rw[decide_eq_true hn,if_neg (by decide),if_neg hm,mR vv hpr ho]
  ·rintro σ H2 ⟨a,b,s2,rfl,vv⟩
   have xE:dX n ps = .good:=by
    unfold dX
    rw[decide_eq_true hn,if_neg (by decide),if_neg hm,iK (fun z hz=>vv z (by rw[vf,take_length];exact hz))]
   have hx2:=s2 _ _ hx
   refine⟨_,rfl,_,rfl,x,c.land,dx,_,rfl,hx2,L.cl,L.np,by show 0 < 1000;decide,?_⟩
   generalize Ic:ar H2 x (.ins c.land dx (dq "places" (.int n) []))=H3
   have o3:Off x H H3:=fun b o hb e=>by rw[← Ic,ak hb];exact s2 _ _ e
   have x3:H3 x=some (.ins c.land dx [("places", .int n)]):=by rw[← Ic,ac];rfl
   have l3:uD H3 uH ps:=o3.C6 hx hl
   have p3:ux K H3 p uH:=o3.sq hx hp
   refine⟨_,rfl,p,rfl,⟨_,p3⟩,bA uH.length (by rw[sizeLine_eq];omega) (fun i acc H4=>uu H3 H4/\acc.length=i/\uD H4 acc (ps.take i)) ⟨uu.refl _,rfl, .nil⟩ (fun i acc H4 h=>le_of_eq h.2.1) ?_ ?_⟩
   ·rintro i acc H4 hi ⟨s4,ha,hA⟩
    have q4:=s4.seq p3
    refine⟨⟨uH,uH[i],q4,by simp[hi]⟩,fun y H5 ⟨e5,hy⟩=>?_⟩
    subst e5
    have hy:=hy uH q4
    obtain⟨pr,hpr,t,rfl,ht⟩:=uD.get l3 hy
    have xS:uE K H5 t [.int pr.1, .int pr.2]:=uE.of (s4 _ _ ht)
    refine⟨_,rfl,t,_,0,_,rfl,rfl,xS,aB (j:=0) rfl,?_⟩
    refine⟨_,rfl,t,_,1,_,rfl,rfl,xS,aB (j:=1) rfl,by show 2 <= sizeLine;decide,fun r yf=>?_⟩
    refine⟨s4.new yf,by rw[length_append,ha];rfl,?_⟩
    rw[take_succ,hpr]
    exact uD.snoc ⟨r,rfl,ac⟩ (uD.same (uu.new (uu.refl _) yf) hA)
   ·rintro acc H4 ⟨s4,ha,hA⟩
    have q4:=s4.seq p3
    refine⟨⟨uH,q4,le_refl _⟩,fun D hD=>?_⟩
    have s5:uu H3 (ar H4 D (.lst acc)):=s4.new hD
    refine⟨D,acc,rfl, .inl ⟨ux.of ac,fun t ht=>?_⟩⟩
    have s6:uu H3 (ar (ar H4 D (.lst acc)) t (.tup acc)):=s5.new ht
    have x6:=s6 _ _ x3
    refine⟨_,rfl,x,c.land,dx,_,rfl,x6,L.cl,L.nl,by show 1 < 1000;decide,?_⟩
    have EN:t ≠ x:=fun z=>by rw[z,s5 _ _ x3]at ht;cases ht
    refine h4 xE _ t acc (fun b o hb e=>?_) ⟨by rw[ac];rfl,by rw[ak EN,ac],?_⟩
    ·rw[ak hb];exact s6 _ _ (o3 b o hb e)
    ·have hA':uD H4 acc ps:=by rw[vf,take_length]at hA;exact hA
     have x4:=s4 _ _ x3
     have hA6:uD (ar (ar H4 D (.lst acc)) t (.tup acc)) acc ps:=uD.same (uu.new (uu.new (uu.refl _) hD) ht) hA'
     exact Off.C6 (x:=x) (fun b o hb e=>by rw[ak hb];exact e) x6 hA6
noncomputable def e7 (sel:Int × Int->Int)(ps:List (Int × Int))(pl:Int)(m:Nat):List V:=((List.range m).filter fun k=>decide (sel (ps.getD k (0,0))=pl)).map fun k:Nat=>V.int k
noncomputable def lS (c:Cs)(sel:Int × Int->Int):Sp:=fun vs H Q _=>∃ (x dx t:Addr)(n:Int)(uz:List V)(ps:List (Int × Int))(pl:Int),vs=[.ref x, .int pl]/\bL H c x dx t n uz ps/\ps.length <= 1000 /\
 ∀ H' D,uu H H'->H' D=none->Q (.ref D) (ar H' D (.lst (e7 sel ps pl ps.length)))
theorem kO {sel:Int × Int->Int}{ps:List (Int × Int)}{pl:Int}{i:Nat}{pr:Int × Int}(h:ps[i]? = some pr):e7 sel ps pl (i + 1)=if decide (sel pr=pl) then e7 sel ps pl i ++ [V.int i] else e7 sel ps pl i:=by
 have e:ps.getD i (0,0)=pr:=by rw[getD_eq_getElem?_getD,h];rfl
 unfold e7
 rw[range_succ,filter_append]
 by_cases hs:sel pr=pl
 ·rw[if_pos (decide_eq_true hs),List.filter_cons_of_pos (by rw[e];exact decide_eq_true hs)];simp
 ·rw[if_neg (by rw[decide_eq_false hs];decide),List.filter_cons_of_neg (by rw[e,decide_eq_false hs];decide)];simp
theorem jL {sel:Int × Int->Int}{ps:List (Int × Int)}{pl:Int}{i:Nat}:(e7 sel ps pl i).length <= i:=by
 unfold e7
 rw[length_map]
 have:=length_filter_le (fun k=>decide (sel (ps.getD k (0,0))=pl)) (List.range i)
 rwa [length_range]at this
theorem Bj:aw ["self", "place"] ["self", "place"] (ah p8):=L2.uU
theorem Bk:vd ["self", "place"] (ah p8) (ip p8) ["place"] [1]:=L2.vH
theorem sS:aw ["self", "place"] ["self", "place"] (ah ke):=L2.uU
theorem ue:vd ["self", "place"] (ah ke) (ip ke) ["place"] [1]:=L2.vH
theorem n9:(["lane", "pair", "place"]:List Str).Nodup:=by decide +kernel
theorem dW (a b:Int):decide (V.int a=V.int b)=decide (a=b):=by
 by_cases h:a=b
 ·rw[h];simp
 ·rw[decide_eq_false h,decide_eq_false fun z=>h (by injection z)]
theorem tJ {c:Cs}{f:Addr}{fd:FuncData}(F:uN K "out_of" "Land.out_of" p8 f fd)(T:Txt mg)(L:oU K c):Z P w K mg base aD 1 f fd ["self", "place"] (lS c Prod.fst):=by
 refine F.ok Bj (fun vs H Q E h=>?_) (fun uF A outer s H vs Q E hr h=>?_)
 ·obtain⟨x,dx,t,n,uz,ps,pl,rfl,_⟩:=h
  rfl
 ·obtain⟨x,dx,t,n,uz,ps,pl,rfl,⟨hx,ht,hl⟩,hlen,q⟩:=h
  refine⟨_,ag (aA (bp (own:=["lane", "pair"]) (capN:=["place"]) (cap:=[1]) Bk rfl (ku rfl T.enum (aa (aH (pv 0) rfl) ad))
   (fun C s' H' fp=>⟨(show PG _ _ (tY K 2 _) from eL rfl (aR (ao (i:=0) n9 rfl (Or.inl rfl)) (aR (ao (i:=1) n9 rfl (Or.inl rfl)) dA))),
    bN (az bW (aJ (show jq _ (ir K) from aW) (pv 1) aj (fun _ _=>rfl)) (pv 2) (aC _)),pv 0⟩))),?_⟩
  have vf:uz.length=ps.length:=Paired.length hl
  refine⟨_,rfl,x,c.land,dx,_,_,rfl,hx,L.cl,L.nl,rfl,t,rfl,⟨_,uE.of ht⟩,bA ps.length (by rw[sizeLine_eq];omega) (fun i acc H4=>uu H H4/\acc=e7 Prod.fst ps pl i) ⟨uu.refl _,rfl⟩ (fun i acc H4 h=>by rw[h.2];exact jL) ?_ ?_⟩
  ·rintro i acc H4 hi ⟨s4,rfl⟩
   have q4:uE K H4 t uz:=uE.of (s4 _ _ ht)
   refine⟨⟨uz,uz[i]'(by omega),q4,by simp[vf,hi]⟩,fun y H5 ⟨r,zf,ey,h5⟩=>?_⟩
   obtain⟨v,hv,rfl⟩:=h5 uz q4
   subst ey
   obtain⟨pr,hpr,u,rfl,hu⟩:=uD.get hl hv
   have s5:uu H (ar H4 r (.tup [.int i, .ref u])):=s4.new zf
   refine⟨r,_,rfl,uE.of ac,rfl,_,_,rfl,_,_,rfl,rfl,?_⟩
   refine⟨_,rfl,u,_,0,_,rfl,rfl,uE.of (s5 _ _ hu),aB (j:=0) rfl,_,rfl,rfl,_,rfl,?_⟩
   rw[dW,kO hpr]
   cases hd:decide (pr.1=pl) with
   | true=>exact be ⟨_,rfl,s5,by simp[hd]⟩
   | false=>exact aT ⟨s5,by simp[hd]⟩
  ·rintro acc H4 ⟨s4,rfl⟩
   exact⟨⟨uz,uE.of (s4 _ _ ht),vf⟩,fun D hD=>q H4 D s4 hD⟩
theorem r6 {c:Cs}{f:Addr}{fd:FuncData}(F:uN K "into" "Land.into" ke f fd)(T:Txt mg)(L:oU K c):Z P w K mg base aD 1 f fd ["self", "place"] (lS c Prod.snd):=by
 refine F.ok sS (fun vs H Q E h=>?_) (fun uF A outer s H vs Q E hr h=>?_)
 ·obtain⟨x,dx,t,n,uz,ps,pl,rfl,_⟩:=h
  rfl
 ·obtain⟨x,dx,t,n,uz,ps,pl,rfl,⟨hx,ht,hl⟩,hlen,q⟩:=h
  refine⟨_,ag (aA (bp (own:=["lane", "pair"]) (capN:=["place"]) (cap:=[1]) ue rfl (ku rfl T.enum (aa (aH (pv 0) rfl) ad))
   (fun C s' H' fp=>⟨(show PG _ _ (tY K 2 _) from eL rfl (aR (ao (i:=0) n9 rfl (Or.inl rfl)) (aR (ao (i:=1) n9 rfl (Or.inl rfl)) dA))),
    bN (az bW (aJ (show jq _ (ir K) from aW) (pv 1) aj (fun _ _=>rfl)) (pv 2) (aC _)),pv 0⟩))),?_⟩
  have vf:uz.length=ps.length:=Paired.length hl
  refine⟨_,rfl,x,c.land,dx,_,_,rfl,hx,L.cl,L.nl,rfl,t,rfl,⟨_,uE.of ht⟩,bA ps.length (by rw[sizeLine_eq];omega) (fun i acc H4=>uu H H4/\acc=e7 Prod.snd ps pl i) ⟨uu.refl _,rfl⟩ (fun i acc H4 h=>by rw[h.2];exact jL) ?_ ?_⟩
  ·rintro i acc H4 hi ⟨s4,rfl⟩
   have q4:uE K H4 t uz:=uE.of (s4 _ _ ht)
   refine⟨⟨uz,uz[i]'(by omega),q4,by simp[vf,hi]⟩,fun y H5 ⟨r,zf,ey,h5⟩=>?_⟩
   obtain⟨v,hv,rfl⟩:=h5 uz q4
   subst ey
   obtain⟨pr,hpr,u,rfl,hu⟩:=uD.get hl hv
   have s5:uu H (ar H4 r (.tup [.int i, .ref u])):=s4.new zf
   refine⟨r,_,rfl,uE.of ac,rfl,_,_,rfl,_,_,rfl,rfl,?_⟩
   refine⟨_,rfl,u,_,1,_,rfl,rfl,uE.of (s5 _ _ hu),aB (j:=1) rfl,_,rfl,rfl,_,rfl,?_⟩
   rw[dW,kO hpr]
   cases hd:decide (pr.2=pl) with
   | true=>exact be ⟨_,rfl,s5,by simp[hd]⟩
   | false=>exact aT ⟨s5,by simp[hd]⟩
  ·rintro acc H4 ⟨s4,rfl⟩
   exact⟨⟨uz,uE.of (s4 _ _ ht),vf⟩,fun D hD=>q H4 D s4 hD⟩
noncomputable def pq (K:Frag):Sp:=fun vs H Q _=>∃ (a:Addr)(ns:List Int)(k:Int),vs=[.ref a, .int k]/\ux K H a (ns.map V.int)/\0 <= k/\k <= 100000/\∀ d H',uu H H'->Q (.int d) H'
abbrev ND:List Str:=["_law_script", "_law_k", "_law_cell", "_law_number"]
theorem ee {i j:Int}(h:0 < j/\j < 2 ^ 64):-(2 ^ 64) < i % j/\i % j < 2 ^ 64:=by
 have h0:=emod_nonneg i (show j ≠ 0 by omega)
 have h1:=emod_lt_of_pos i h.1
 omega
theorem vw:aw ND ["_law_script", "_law_k"] (ah pC):=L2.uU
theorem jN {ns:List Int}{i:Int}(h0:0 <= i)(h1:i < (ns.length:Nat)):∃ m,nZ (ns.map V.int) i=some (.int m):=by
 obtain⟨j,rfl⟩:=eq_ofNat_of_zero_le h0
 have hj:j < ns.length:=by omega
 exact⟨ns[j],aB (j:=j) (by simp[hj])⟩
noncomputable def pk:Sp:=fun vs H Q _=>∃ m k:Nat,vs=[.int m, .int k]/\Q (.bl (m.testBit k)) H
noncomputable def bS (m:Nat):List V:=(Yd.wb m (Builtin.Int.intBits (m:Int))).map fun k:Nat=>V.int k
noncomputable def na:Sp:=fun vs H Q _=>∃ m:Nat,vs=[.int m]/\m < 2 ^ 400/\∀ p,H p=none->Q (.ref p) (ar H p (.lst (bS m)))
noncomputable def mZ (K:Frag):Sp:=fun vs H Q _=>∃ (a:Addr)(ks:List Nat),vs=[.ref a]/\ux K H a (ks.map fun k:Nat=>V.int k)/\(∀ k ∈ ks,k <= 1000)/\Q (.int (Yd.uM ks 0:Nat)) H
theorem Bl:aw ["some", "number"] ["some", "number"] (ah qX):=L2.uU
theorem pU {f:Addr}{fd:FuncData}(F:uN K "has" "has" qX f fd):Z P w K mg base aD 1 f fd ["some", "number"] pk:=by
 refine F.ok Bl (fun vs H Q E h=>?_) (fun uF A outer s H vs Q E hr h=>?_)
 ·obtain⟨m,k,rfl,_⟩:=h
  rfl
 ·obtain⟨m,k,rfl,q⟩:=h
  refine⟨_,ag (aA (eM (dD A3 (pv 1) aj (aC _)) (fU (dD bW (ax m6 (ax mz (pv 0) (pv 1)) aj) aj (aC _))))),?_⟩
  refine⟨_,rfl,_,_,rfl,rfl,_,rfl,?_⟩
  rw[decide_eq_true (show (0:Int) <= (k:Int) by omega)]
  refine be ?_
  refine⟨_,rfl,_,rfl,_,_,rfl,rfl,(show (0:Int) <= (k:Int) by omega),_,_,rfl,rfl,rfl,?_⟩
  have e:decide (V.int (Builtin.bitAnd ((m:Int) / 2 ^ (k:Int).toNat) 1)=V.int 1)=m.testBit k:=by
   rw[toNat_natCast,← Yd.yg m k]
   by_cases h:Builtin.bitAnd ((m:Int) / 2 ^ k) 1=1
   ·rw[h];simp
   ·rw[decide_eq_false h,decide_eq_false fun z=>h (by injection z)]
  rw[e]
  exact q
theorem qc {ks:List Nat}{i:Nat}{x:V}(h:(ks.map fun k:Nat=>V.int k)[i]? = some x):∃ k,ks[i]? = some k/\x=V.int k:=by
 rw[List.getElem?_map]at h
 cases e:ks[i]? with
 | none=>rw[e]at h;cases h
 | some k=>rw[e]at h;exact⟨k,rfl,(Option.some.inj h).symm⟩
theorem wQ:aw ["numbers", "some", "number"] ["numbers"] (ah sV):=L2.uU
theorem tI {f:Addr}{fd:FuncData}(F:uN K "set_of" "set_of" sV f fd):Z P w K mg base aD 1 f fd ["numbers"] (mZ K):=by
 refine F.ok wQ (fun vs H Q E h=>?_) (fun uF A outer s H vs Q E hr h=>?_)
 ·obtain⟨a,ks,rfl,_⟩:=h
  rfl
 ·obtain⟨a,ks,rfl,hS,hk,q⟩:=h
  refine⟨_,ae (ay (i:=1) wQ.nd rfl (Or.inl rfl) aj)
   (ae (bg PassesOwn.never rfl (aI (pv 0)) (ao (i:=2) wQ.nd rfl (Or.inl rfl))
    (ag (ay (i:=1) wQ.nd rfl (Or.inl rfl) (ax A1 (pv 1) (ax t8 aj (pv 2))))))
   (ag (aA (pv 1)))),?_⟩
  refine⟨_,rfl,a,rfl,⟨_,hS⟩,bJ (K:=K) (a:=a) (xs:=ks.map fun k:Nat=>V.int k) (fun i σ H2=>∃ v:Option V,H2=H/\σ=[some (.ref a),some (.int (Yd.uM (ks.take i) 0:Nat)),v])
   ⟨none,rfl,rfl⟩ (fun i σ H2 _ uw=>by obtain⟨_,e,_⟩:=uw;rw[e];exact hS) ?_ ?_⟩
  ·rintro i x σ H2 hx ⟨v,rfl,rfl⟩
   obtain⟨k,ek,rfl⟩:=qc hx
   have xo:=hk k (mem_of_getElem? ek)
   refine⟨_,rfl,_,rfl,_,_,rfl,rfl,⟨(show (0:Int) <= (k:Int) by omega),(show (k:Int) <= 1000000 by omega),(by decide)⟩,_,_,rfl,rfl,some (.int k),rfl,?_⟩
   have e:Builtin.bitOr ((Yd.uM (ks.take i) 0:Nat):Int) (1 * 2 ^ (k:Int).toNat)=((Yd.uM (ks.take (i + 1)) 0:Nat):Int):=by
    rw[take_succ,ek,toNat_natCast,Int.one_mul,show (2:Int) ^ k=((2 ^ k:Nat):Int) by rw[Int.natCast_pow];rfl,Yd.xb,Yd.xA]
    rfl
   show [some (V.ref a),some (V.int _),some (V.int k)]=_
   rw[e]
  ·rintro σ H2 ⟨v,rfl,rfl⟩
   refine⟨_,rfl,?_⟩
   rw[length_map,take_length]
   exact q
theorem Bm:aw ["some"] ["some"] (ah p9):=L2.uU
theorem Bn:(["number", "some"]:List Str).Nodup:=by decide +kernel
theorem Bo:vd ["some"] (ah p9) (ip p9) ["some"] [0]:=L2.vH
theorem tL {f fh:Addr}{fd wO:FuncData}(F:uN K "members" "members" p9 f fd)(T:Txt mg)(mh:mg "has" = some (.ref fh))(Fh:uN K "has" "has" qX fh wO)(bh:Binds K wO ["some", "number"] []):Z P w K mg base aD 2 f fd ["some"] na:=by
 have G:Z P w K mg base aD 1 fh wO ["some", "number"] pk:=pU Fh
 refine F.ok Bm (fun vs H Q E h=>?_) (fun uF A outer s H vs Q E hr h=>?_)
 ·obtain⟨m,rfl,_⟩:=h
  rfl
 ·obtain⟨m,rfl,hm,q⟩:=h
  refine⟨_,ag (aA (bp (own:=["number"]) (capN:=["some"]) (cap:=[0]) Bo rfl
   (aY rfl T.range (aa (tq PySem.F.plainAttrs_int PySem.F.slot_int_bit_length PySem.F.type_int_bit_length rD (pv 0)) ad))
   (fun C s' H' fp=>⟨ao (i:=0) Bn rfl (Or.inl rfl),bN (cC (ap G hr rfl mh Fh.kp bh .nil au (aa (pv 1) (aa (pv 0) ad)))),pv 0⟩))),?_⟩
  have hb:Builtin.Int.intBits (m:Int) <= 400:=Yd.bits_le hm
  refine⟨_,rfl,rfl,_,rfl,rfl,(Builtin.Int.intBits (m:Int):Nat),rfl,by omega,by omega,?_⟩
  rw[toNat_natCast]
  refine iH (fun k=>m.testBit k) (fun k=>V.int k) (by rw[sizeLine_eq];omega) (fun i acc N hi h=>?_) q
  refine⟨_,rfl,_,rfl,m,i,by simp,_,rfl,?_⟩
  cases e:m.testBit i with
  | true =>
   rw[e]at h
   refine be ⟨_,rfl,?_⟩
   simpa using h
  | false =>
   rw[e]at h
   exact aT (by simpa using h)
noncomputable def iz (ks:List Nat):List Int:=ks.map fun k:Nat=>(k:Int)
theorem Bp (ks:List Nat):(iz ks).map V.int=ks.map fun k:Nat=>V.int k:=by rw[iz,map_map];rfl
theorem nG {ks:List Nat}(h:ks.Pairwise (· < ·)):(iz ks).Pairwise (· < ·):=by
 unfold iz
 rw[List.pairwise_map]
 exact h.imp fun z=>by omega
theorem vx {ks:List Nat}{k:Int}:k ∈ iz ks↔∃ n ∈ ks,(n:Int)=k:=mem_map
theorem mG {ks:List Nat}{ms:List Int}(h1:ms.Pairwise (· < ·))(h2:∀ k,k ∈ ms↔k ∈ iz ks):iz (Yd.wb (Yd.uM ks 0) (Builtin.Int.intBits ((Yd.uM ks 0:Nat):Int)))=ms:=by
 refine Yd.wc (nG (Yd.vL _ _)) h1 fun k=>?_
 rw[h2 k,vx,vx]
 constructor
 ·rintro⟨n,hn,e⟩
  rw[Yd.va (Yd.vC _),Yd.uQ]at hn
  exact⟨n,by simpa using hn,e⟩
 ·rintro⟨n,hn,e⟩
  refine⟨n,?_,e⟩
  rw[Yd.va (Yd.vC _),Yd.uQ]
  simpa using hn
theorem py {ks:List Nat}{b:Nat}(h:∀ k ∈ ks,k < b):Yd.uM ks 0 < 2 ^ b:=by
 rw[← Yd.yd h]
 exact Yd.vP ks b
structure Rw where
 p:Int
 g:Int
 c:Option Nat
 s:List Nat
noncomputable def aq (r:Rw):aS:=[some r.p,some r.g,r.c.map fun k:Nat=>(k:Int)]
noncomputable def cY (sel:Int × Int->Int)(ps:List (Int × Int))(pl:Int):List Nat:=(List.range ps.length).filter fun k=>decide (sel (ps.getD k (0,0))=pl)
noncomputable def fH (n:Int)(ps:List (Int × Int))(r:Rw):Bool :=
 fB n (r.p,r.g) && ((match r.c with | none=>true | some k=>decide (k ∈ cY Prod.snd ps r.p)) && r.s.all fun k=>decide (k ∈ cY Prod.fst ps r.p))
noncomputable def kF (sel:Int × Int->Int)(ps:List (Int × Int))(pl:Int)(k:Nat):Bool:=decide (ps.length <= k) || !decide (sel (ps.getD k (0,0))=pl)
noncomputable def lw (n:Int)(ps:List (Int × Int))(ahead:List Rw)(r:Rw):Bool :=
 !fB n (r.p,r.g) || ((match r.c with | none=>false | some k=>kF Prod.snd ps r.p k) || ((r.s.any fun k=>kF Prod.fst ps r.p k) || ahead.any fun a=>decide (aq a=aq r)))
theorem nH {sel:Int × Int->Int}{ps:List (Int × Int)}{pl:Int}{k:Nat}:decide (k ∈ cY sel ps pl) = !kF sel ps pl k:=by
 unfold cY kF
 by_cases h1:ps.length <= k
 ·rw[decide_eq_true h1,decide_eq_false]
  ·rfl
  ·intro z
   have:=mem_range.mp (mem_filter.mp z).1
   omega
 ·rw[decide_eq_false h1]
  by_cases h2:sel (ps.getD k (0,0))=pl
  ·rw[decide_eq_true h2,decide_eq_true]
   ·rfl
   ·exact mem_filter.mpr ⟨mem_range.mpr (by omega),decide_eq_true h2⟩
  ·rw[decide_eq_false h2,decide_eq_false]
   ·rfl
   ·intro z
    exact h2 (of_decide_eq_true (mem_filter.mp z).2)
theorem rX {l:List Nat}{f:Nat->Bool}:(l.all fun k=>!f k) = !(l.any f):=by
 induction l with
 | nil=>rfl
 | cons a l ih=>rw[all_cons,any_cons,ih,Bool.not_or]
theorem fL (n:Int)(ps:List (Int × Int))(ahead:List Rw)(r:Rw):lw n ps ahead r=(!fH n ps r || ahead.any fun a=>decide (aq a=aq r)):=by
 unfold lw fH
 have e:(r.s.all fun k=>decide (k ∈ cY Prod.fst ps r.p)) = !(r.s.any fun k=>kF Prod.fst ps r.p k):=by
  rw[← rX]
  congr 1
  funext k
  exact nH
 rw[e]
 cases hc:r.c with
 | none =>
  dsimp only
  cases fB n (r.p,r.g)<;>cases (r.s.any fun k=>kF Prod.fst ps r.p k)<;>cases (ahead.any fun a=>decide (aq a=aq r))<;>rfl
 | some k =>
  dsimp only
  rw[nH]
  cases fB n (r.p,r.g)<;>cases (kF Prod.snd ps r.p k)<;>cases (r.s.any fun k=>kF Prod.fst ps r.p k)<;>cases (ahead.any fun a=>decide (aq a=aq r))<;>rfl
noncomputable def cI (n:Int)(ps:List (Int × Int))(rs:List Rw)(m:Nat):Option Nat:=(List.range m).find? fun k=>lw n ps (rs.take k) (rs.getD k ⟨0,0,none,[]⟩)
theorem eE {n:Int}{ps:List (Int × Int)}{rs:List Rw}:∀ {m:Nat},(∀ k,k < m->lw n ps (rs.take k) (rs.getD k ⟨0,0,none,[]⟩)=false)->cI n ps rs m=none:=by
 intro m h
 unfold cI
 rw[List.find?_eq_none]
 intro k hk
 rw[h k (mem_range.mp hk)]
 decide
theorem iP {n:Int}{ps:List (Int × Int)}{rs:List Rw}{m i:Nat}(hi:i < m)(h:∀ k,k < i->lw n ps (rs.take k) (rs.getD k ⟨0,0,none,[]⟩)=false)(hb:lw n ps (rs.take i) (rs.getD i ⟨0,0,none,[]⟩)=true):cI n ps rs m=some i:=by
 unfold cI
 rw[List.find?_range_eq_some]
 refine⟨hb,mem_range.mpr hi,fun j hj=>?_⟩
 rw[h j hj]
 rfl
noncomputable def bY (rs:List Rw)(k:aS):Option Rw:=rs.reverse.find? fun r=>decide (aq r=k)
theorem mK {rs:List Rw}{r:Rw}{k:aS}:bY (rs ++ [r]) k=if k=aq r then some r else bY rs k:=by
 unfold bY
 rw[List.reverse_append,List.reverse_singleton,List.singleton_append,List.find?_cons]
 by_cases h:aq r=k
 ·rw[decide_eq_true h,if_pos h.symm]
 ·rw[decide_eq_false h,if_neg (Ne.symm h)]
theorem fG {rs:List Rw}{k:aS}:(bY rs k).isSome=rs.any fun r=>decide (aq r=k):=by
 unfold bY
 rw[Bool.eq_iff_iff,List.find?_isSome,any_eq_true]
 exact⟨fun uw=>by obtain⟨x,hx,h⟩:=uw;exact⟨x,mem_reverse.mp hx,h⟩,fun uw=>by obtain⟨x,hx,h⟩:=uw;exact⟨x,mem_reverse.mpr hx,h⟩⟩
noncomputable def cV:Option Nat->V
 | none => .uB
 | some k => .int k
noncomputable def b5 (ks:List Nat):List V:=ks.map fun k:Nat=>V.int k
theorem fE (ks:List Nat):b5 ks=(iz ks).map V.int:=(Bp ks).symm
noncomputable def yC (H:Hp)(t l:Addr)(r:Rw):Prop:=H t=some (.tup [.int r.p, .int r.g,cV r.c, .ref l])/\H l=some (.lst (b5 r.s))
noncomputable def yD (H:Hp)(v:V)(r:Rw):Prop:=∃ t l,v = .ref t/\yC H t l r
abbrev uV (H:Hp):List V->List Rw->Prop:=Paired (yD H)
theorem yC.same {H H':Hp}{t l:Addr}{r:Rw}(h:uu H H')(x:yC H t l r):yC H' t l r:=⟨h _ _ x.1,h _ _ x.2⟩
theorem yD.same {H H':Hp}{v:V}{r:Rw}(h:uu H H'):yD H v r->yD H' v r:=fun uw=>by obtain⟨t,l,e,x⟩:=uw;exact⟨t,l,e,x.same h⟩
theorem uV.imp {H H':Hp}(h:∀ v r,yD H v r->yD H' v r):∀ {vs:List V}{rs:List Rw},uV H vs rs->uV H' vs rs:=fun uw=>by
 induction uw with
 | nil=>exact .nil
 | cons x r ih=>exact .cons (h _ _ x) ih
theorem uV.same {H H':Hp}(h:uu H H'){vs:List V}{rs:List Rw}(x:uV H vs rs):uV H' vs rs:=uV.imp (fun _ _ z=>z.same h) x
theorem uV.get {H:Hp}:∀ {vs:List V}{rs:List Rw}{i:Nat}{v:V},uV H vs rs->vs[i]? = some v->∃ r,rs[i]? = some r/\yD H v r
 | _,_,_,_, .nil,e=>by simp at e
 | _,_,0,_, .cons x _,e=>by simp at e;subst e;exact⟨_,rfl,x⟩
 | _,_,i + 1,v, .cons _ t,e=>by
  obtain⟨r,h1,h2⟩:=uV.get (i:=i) (v:=v) t (by simpa using e)
  exact⟨r,by simpa using h1,h2⟩
theorem uV.snoc {H:Hp}{v:V}{r:Rw}(h:yD H v r):∀ {vs:List V}{rs:List Rw},uV H vs rs->uV H (vs ++ [v]) (rs ++ [r]):=fun uw=>by
 induction uw with
 | nil=>exact .cons h .nil
 | cons x t ih=>exact .cons x ih
theorem gG (r:Rw):(aq r).map oV=[.int r.p, .int r.g,cV r.c]:=by
 cases r with
 | mk p g c s=>cases c<;>rfl
theorem mL {sel:Int × Int->Int}{ps:List (Int × Int)}{pl:Int}:e7 sel ps pl ps.length=(iz (cY sel ps pl)).map V.int:=by rw[Bp];rfl
theorem qj {k:Nat}{l:List Nat}:decide ((k:Int) ∈ iz l)=decide (k ∈ l):=by
 congr 1
 refine propext ⟨fun h=>?_,fun h=>vx.mpr ⟨k,h,rfl⟩⟩
 obtain⟨n,hn,e⟩:=vx.mp h
 have:n=k:=by omega
 rw[← this]
 exact hn
theorem oh (ks l:List Nat):((b5 ks).filter fun _=>true).map (fun v=>match v with | .int i=>V.bl (decide (i ∈ iz l)) | _ => .uB)=(ks.map fun k=>decide (k ∈ l)).map V.bl:=by
 rw[List.filter_eq_self.mpr (fun _ _=>rfl)]
 unfold b5
 rw[map_map,map_map]
 refine List.map_congr_left fun k _=>?_
 show V.bl (decide ((k:Int) ∈ iz l))=V.bl (decide (k ∈ l))
 rw[qj]
theorem qE (ks:List Nat)(p:Nat->Bool):(ks.map p).all id=ks.all p:=by rw[List.all_map];rfl
noncomputable def pj (K:Frag):Sp:=fun vs H Q _=>∃ (i:Int)(p:Addr)(ns:List Int),vs=[.int i, .ref p]/\ux K H p (ns.map V.int)/\Q (.bl (decide (i ∈ ns))) H
noncomputable def lT (c:Cs):Sp:=fun vs H Q _=>∃ (x dx lt t l:Addr)(n:Int)(uz:List V)(ps:List (Int × Int))(r:Rw),vs=[.ref x, .ref t]/\bL H c x dx lt n uz ps/\yC H t l r/\ps.length <= 1000/\r.s.length <= 1000/\∀ H',uu H H'->Q (.bl (fH n ps r)) H'
structure up (K:Frag)(c:Cs)(f3 f4:Addr)(d3 d4:FuncData):Prop where
 m3:jT K c.land "out_of" f3
 m4:jT K c.land "into" f4
 b3:Binds K d3 ["self", "place"] []
 b4:Binds K d4 ["self", "place"] []
abbrev NF:List Str:=["land", "row", "place", "came", "begin_here"]
noncomputable def qF (s:Stmt):Scope:=match s with
 | .Return (some (.Call _ [.ListComp _ _ sc _] _ _)) _=>sc
 | _=>{ kind := .function,names:=[],isGenerator:=false,isCoroutine:=false }
theorem Bq:aw ["value", "numbers"] ["value", "numbers"] (ah sW):=L2.uU
theorem tK {f fh:Addr}{fd wO:FuncData}(F:uN K "is_one_of" "is_one_of" sW f fd)(T:Txt mg)(mh:mg "is_whole" = some (.ref fh))(Fh:uN K "is_whole" "is_whole" ie fh wO)(bh:Binds K wO ["value"] []) :
  Z P w K mg base aD 2 f fd ["value", "numbers"] (pj K):=by
 have G:Z P w K mg base aD 1 fh wO ["value"] jy:=kE Fh T
 refine F.ok Bq (fun vs H Q E h=>?_) (fun uF A outer s H vs Q E hr h=>?_)
 ·obtain⟨i,p,ns,rfl,_⟩:=h
  rfl
 ·obtain⟨i,p,ns,rfl,hS,q⟩:=h
  refine⟨_,ag (aA (eM (ap G hr rfl mh Fh.kp bh .nil au (aa (pv 0) ad)) (fU (dD jc (pv 0) (pv 1) (by with_unfolding_all rfl))))),?_⟩
  refine⟨_,rfl,i,rfl,true,rfl,be ?_⟩
  refine⟨_,rfl,_,rfl,p,_,rfl, .inl hS,rfl,gc _,?_⟩
  show Q (V.bl (ss (V.int i) (ns.map V.int))) H
  rw[jO]
  exact q
theorem vR:aw NF ["land", "row"] (ah ki):=L2.uU
theorem ug:vd NF (ah ki) (qF ((aL ki).getD 5 (.Pass ⟨0,0,0,0⟩))) ["begin_here"] [4]:=L2.vH
theorem tQ:(["lane", "begin_here"]:List Str).Nodup:=by decide +kernel
theorem r9 {c:Cs}{f ft fo f3 f4:Addr}{fd dt d1 d3 d4:FuncData}(F:uN K "row_fits" "row_fits" ki f fd)(T:Txt mg)(L:oU K c)(M:up K c f3 f4 d3 d4)
  (mt:mg "are_two_places" = some (.ref ft)) (kt:keepIn K (.ref ft)=true) (bt:Binds K dt ["places", "one", "other"] []) (Gt:Z P w K mg base aD 3 ft dt ["places", "one", "other"] mX)
  (mo:mg "is_one_of" = some (.ref fo)) (ko:keepIn K (.ref fo)=true) (bo:Binds K d1 ["value", "numbers"] []) (Go:Z P w K mg base aD 2 fo d1 ["value", "numbers"] (pj K))
  (G3:Z P w K mg base aD 1 f3 d3 ["self", "place"] (lS c Prod.fst)) (G4:Z P w K mg base aD 1 f4 d4 ["self", "place"] (lS c Prod.snd)) :
  Z P w K mg base aD 4 f fd ["land", "row"] (lT c):=by
 refine F.ok vR (fun vs H Q E h=>?_) (fun uF A outer s H vs Q E hr h=>?_)
 ·obtain⟨x,dx,lt,t,l,n,uz,ps,r,rfl,_⟩:=h
  rfl
 ·obtain⟨x,dx,lt,t,l,n,uz,ps,r,rfl,hL,hR,hlen,hsl,q⟩:=h
  have vo:u5 1 _:=hr.mono (by decide)
  have vQ:u5 2 _:=hr.mono (by decide)
  refine⟨_,ae (ay (i:=2) vR.nd rfl (Or.inl rfl) (aJ aW (pv 1) aj (fun _ _=>rfl)))
   (ae (ay (i:=3) vR.nd rfl (Or.inl rfl) (aJ aW (pv 1) aj (fun _ _=>rfl)))
   (ae (b9 (cv (cC (ap Gt hr rfl mt kt bt .nil au (aa (aH (pv 0) rfl) (aa (pv 2) (aa (aJ aW (pv 1) aj (fun _ _=>rfl)) ad)))))) (ag (aA i0)) aK)
   (ae (b9 (PW.pt (ix (az rf (pv 3) cF (aC _)) (fj (cv (cC (ap Go vQ rfl mo ko bo .nil au (aa (pv 3) (aa (bz (pv 0) L.cl M.m4 G4 vo M.b4 .nil au (aa (pv 2) ad)) ad)))))))) (ag (aA i0)) aK)
   (ae (ay (i:=4) vR.nd rfl (Or.inr rfl) (bz (pv 0) L.cl M.m3 G3 vo M.b3 .nil au (aa (pv 2) ad)))
   (ag (aA (aM (lr rfl) rfl T.all PyProof.Rows.boot_all (aa (bp (own:=["lane"]) (capN:=["begin_here"]) (cap:=[4]) ug rfl (aI (aJ aW (pv 1) aj (fun _ _=>rfl)))
    (fun C s' H' fp=>⟨ao (i:=0) tQ rfl (Or.inl rfl),cx,ap Go vQ rfl mo ko bo .nil au (aa (pv 0) (aa (pv 1) ad))⟩)) ad)))))))),?_⟩
  obtain⟨hT,hl⟩:=hR
  have EO:uE K H t [.int r.p, .int r.g,cV r.c, .ref l]:=uE.of hT
  refine⟨_,rfl,t,_,0,_,rfl,rfl,EO,aB (j:=0) rfl,?_⟩
  refine⟨_,rfl,t,_,2,_,rfl,rfl,EO,aB (j:=2) rfl,?_⟩
  refine⟨_,rfl,x,c.land,dx,_,_,rfl,hL.1,L.cl,L.np,rfl,_,rfl,_,rfl,t,_,1,_,rfl,rfl,EO,aB (j:=1) rfl,n,r.p,r.g,rfl,_,rfl,?_⟩
  cases ho:fB n (r.p,r.g) with
  | false =>
   have e:fH n ps r=false:=by unfold fH;rw[ho];rfl
   refine be ?_
   have:=q H (uu.refl H)
   rw[e]at this
   exact this
  | true =>
   refine aT ?_
   cases hc:r.c with
   | none =>
    refine⟨_,rfl,rfl,_,rfl,aT (aT ?_)⟩
    have s1:=uu.refl H
    have e1:fH n ps r=r.s.all fun k=>decide (k ∈ cY Prod.fst ps r.p):=by unfold fH;rw[ho,hc];rfl
    refine⟨_,rfl,x,dx,_,rfl,s1 _ _ hL.1,rfl,_,rfl,x,dx,lt,n,uz,ps,r.p,rfl,⟨s1 _ _ hL.1,s1 _ _ hL.2.1,uD.same s1 hL.2.2⟩,hlen,fun H2 D2 s2 xf=>?_⟩
    have s3:=(s1.trans s2).new (o := .lst (e7 Prod.fst ps r.p ps.length)) xf
    have g2:(ar H2 D2 (.lst (e7 Prod.fst ps r.p ps.length))) D2=some (.lst (e7 Prod.fst ps r.p ps.length)):=ac
    generalize ar H2 D2 (.lst (e7 Prod.fst ps r.p ps.length))=H3 at s3 g2 ⊢
    refine⟨_,rfl,t,_,3,_,rfl,rfl,uE.of (s3 _ _ hT),aB (j:=3) rfl,l,rfl,⟨_,ux.of (s3 _ _ hl)⟩,?_⟩
    refine iI (xs:=b5 r.s) (fun _=>true) (fun v=>match v with | .int i => .bl (decide (i ∈ iz (cY Prod.fst ps r.p))) | _ => .uB) (by rw[sizeLine_eq];simp only[b5,length_map];omega) (ux.of (s3 _ _ hl)) (fun y acc N hy h=>?_) (fun D hD=>?_)
    ·obtain⟨k',_,rfl⟩:=mem_map.mp hy
     exact⟨_,rfl,_,rfl,(k':Int),D2,iz (cY Prod.fst ps r.p),rfl,by rw[← mL];exact ux.of g2,by simpa using h⟩
    ·rw[oh]
     refine⟨D,r.s.map fun k=>decide (k ∈ cY Prod.fst ps r.p),rfl,ux.of ac,?_⟩
     have:=q _ (s3.new (o := .lst ((r.s.map fun k=>decide (k ∈ cY Prod.fst ps r.p)).map V.bl)) hD)
     rw[e1]at this
     rw[qE]
     exact this
   | some k =>
    refine⟨_,rfl,rfl,_,rfl,be ?_⟩
    refine⟨_,rfl,_,rfl,x,dx,_,rfl,hL.1,rfl,_,rfl,x,dx,lt,n,uz,ps,r.p,rfl,hL,hlen,fun H' D s' hD=>?_⟩
    have s1:=s'.new (o := .lst (e7 Prod.snd ps r.p ps.length)) hD
    refine⟨(k:Int),D,iz (cY Prod.snd ps r.p),rfl,by rw[← mL];exact ux.of ac,_,rfl,?_⟩
    rw[qj]
    cases hk:decide (k ∈ cY Prod.snd ps r.p) with
    | false =>
     refine be ?_
     have e:fH n ps r=false:=by unfold fH;rw[ho,hc];dsimp only;rw[hk];rfl
     have:=q _ s1
     rw[e]at this
     exact this
    | true =>
     have e1:fH n ps r=r.s.all fun k=>decide (k ∈ cY Prod.fst ps r.p):=by unfold fH;rw[ho,hc];dsimp only;rw[hk];rfl
     refine aT ?_
     refine⟨_,rfl,x,dx,_,rfl,s1 _ _ hL.1,rfl,_,rfl,x,dx,lt,n,uz,ps,r.p,rfl,⟨s1 _ _ hL.1,s1 _ _ hL.2.1,uD.same s1 hL.2.2⟩,hlen,fun H2 D2 s2 xf=>?_⟩
     have s3:=(s1.trans s2).new (o := .lst (e7 Prod.fst ps r.p ps.length)) xf
     have g2:(ar H2 D2 (.lst (e7 Prod.fst ps r.p ps.length))) D2=some (.lst (e7 Prod.fst ps r.p ps.length)):=ac
     generalize ar H2 D2 (.lst (e7 Prod.fst ps r.p ps.length))=H3 at s3 g2 ⊢
     refine⟨_,rfl,t,_,3,_,rfl,rfl,uE.of (s3 _ _ hT),aB (j:=3) rfl,l,rfl,⟨_,ux.of (s3 _ _ hl)⟩,?_⟩
     refine iI (xs:=b5 r.s) (fun _=>true) (fun v=>match v with | .int i => .bl (decide (i ∈ iz (cY Prod.fst ps r.p))) | _ => .uB) (by rw[sizeLine_eq];simp only[b5,length_map];omega) (ux.of (s3 _ _ hl)) (fun y acc N hy h=>?_) (fun D hD=>?_)
     ·obtain⟨k',_,rfl⟩:=mem_map.mp hy
      exact⟨_,rfl,_,rfl,(k':Int),D2,iz (cY Prod.fst ps r.p),rfl,by rw[← mL];exact ux.of g2,by simpa using h⟩
     ·rw[oh]
      refine⟨D,r.s.map fun k=>decide (k ∈ cY Prod.fst ps r.p),rfl,ux.of ac,?_⟩
      have:=q _ (s3.new (o := .lst ((r.s.map fun k=>decide (k ∈ cY Prod.fst ps r.p)).map V.bl)) hD)
      rw[e1]at this
      rw[qE]
      exact this
structure Ts where
 tab:Addr
 told:Addr
noncomputable def jZ (K:Frag):Sp:=fun vs H Q _=>∃ (x C dx:Addr)(lv:V),vs=[.ref x,lv]/\H x=some (.ins C dx [])/\wo K C/\uA K C "land"/\Q .uB (ar H x (.ins C dx [("land",lv)]))
noncomputable def pi:Sp:=fun vs H Q _=>∃ a b c d:V,vs=[a,b,c,d]/\∀ p,H p=none->Q (.ref p) (ar H p (.lst []))
noncomputable def pz (r:Rw):V := .int (Yd.uM r.s 0:Nat)
noncomputable def jz (P:Program)(w:World)(K:Frag)(c:Cs)(ts:Ts):Sp:=fun vs H Q E=>∃ (x dx lx u4 lt p:Addr)(n:Int)(uz uG:List V)(ps:List (Int × Int))(rs:List Rw),
 vs=[.ref x, .ref lx, .ref p]/\H x=some (.ins ts.told dx [])/\bL H c lx u4 lt n uz ps/\ux K H p uG/\uV H uG rs/\uG.length <= 100000/\ps.length <= 1000/\(∀ r ∈ rs,(∀ k ∈ r.s,k <= 1000)/\r.s.length <= 1000) /\
 (∀ i,cI n ps rs rs.length=some i->False) /\
 (cI n ps rs rs.length=none->∀ H' de uv,Off x H H'->H' x=some (.ins ts.told dx [("land", .ref lx),("entries", .ref de)])->uI P w H' de uv->(∀ k,bR uv k=(bY rs k).map pz)->Q .uB H')
noncomputable def mY (P:Program)(w:World)(ts:Ts):Sp:=fun vs H Q _=>∃ (x dx de:Addr)(lv:V)(uv:List dH)(r:Rw)(m:Nat),vs=[.ref x, .int r.p, .int r.g,cV r.c]/\H x=some (.ins ts.told dx [("land",lv),("entries", .ref de)])/\uI P w H de uv /\
 (bR uv (aq r)).getD (.int 0) = .int m/\m < 2 ^ 400/\∀ H' D,uu H H'->H' D=none->Q (.ref D) (ar H' D (.lst (bS m)))
structure C7 (K:Frag)(mg:Str->Option Value)(ts:Ts)(f1:Addr)(d1:FuncData):Prop where
 ct:wo K ts.tab
 nt:uA K ts.tab "land"
 cd:wo K ts.told
 nd1:uA K ts.told "land"
 zN:uA K ts.told "entries"
 mt:mg "Table" = some (.ref ts.tab)
 cm:sA K ts.tab "__init__" f1
 bt:Binds K d1 ["self", "land"] []
abbrev NT:List Str:=["self", "land", "rows", "number", "row", "key"]
theorem Off.land {H H':Hp}{x C dx:Addr}(o:Off x H H')(hx:H x=some (.ins C dx [])){c:Cs}{lx u4 lt:Addr}{n:Int}{uz:List V}{ps:List (Int × Int)}(h:bL H c lx u4 lt n uz ps):bL H' c lx u4 lt n uz ps :=
 ⟨o _ _ (bu h.1 hx (by intro z;cases z)) h.1,o _ _ (bu h.2.1 hx (by intro z;cases z)) h.2.1,o.C6 hx h.2.2⟩
theorem Br:aw ["self", "land"] ["self", "land"] (ah sU):=L2.uU
theorem tH {f:Addr}{fd:FuncData}(F:uN K "__init__" "Table.__init__" sU f fd):Z P w K mg base aD 1 f fd ["self", "land"] (jZ K):=by
 refine F.ok Br (fun vs H Q E h=>?_) (fun uF A outer s H vs Q E hr h=>?_)
 ·obtain⟨x,C,dx,lv,rfl,_⟩:=h
  rfl
 ·obtain⟨x,C,dx,lv,rfl,hx,hc,hn,q⟩:=h
  refine⟨_,ag (fT (pv 0) (pv 1) rfl),?_⟩
  exact⟨_,rfl,_,rfl,x,C,dx,_,rfl,hx,hc,hn,by show 0 < 1000;decide,q⟩
theorem sR:aw ["self", "place", "goal", "came"] ["self", "place", "goal", "came"] (ah p7):=L2.uU
theorem rk {f:Addr}{fd:FuncData}(F:uN K "ways" "Table.ways" p7 f fd):Z P w K mg base aD 1 f fd ["self", "place", "goal", "came"] pi:=by
 refine F.ok sR (fun vs H Q E h=>?_) (fun uF A outer s H vs Q E hr h=>?_)
 ·obtain⟨a,b,c,d,rfl,_⟩:=h
  rfl
 ·obtain⟨a,b,c,d,rfl,q⟩:=h
  refine⟨_,ag (aA (bE ad)),?_⟩
  exact⟨zero_le _,fun p hp=>q p hp⟩
theorem qW:aw ["self", "place", "goal", "came"] ["self", "place", "goal", "came"] (ah lW):=L2.uU
theorem pQ {ts:Ts}{f fm f1:Addr}{fd dm d1:FuncData}(F:uN K "ways" "Told.ways" lW f fd)(B:C7 K mg ts f1 d1)(mm:mg "members" = some (.ref fm))(km:keepIn K (.ref fm)=true)(bm:Binds K dm ["some"] [])
  (Gm:Z P w K mg base aD 2 fm dm ["some"] na):Z P w K mg base aD 3 f fd ["self", "place", "goal", "came"] (mY P w ts):=by
 refine F.ok qW (fun vs H Q E h=>?_) (fun uF A outer s H vs Q E hr h=>?_)
 ·obtain⟨x,dx,de,lv,uv,r,m,rfl,_⟩:=h
  rfl
 ·obtain⟨x,dx,de,lv,uv,r,m,rfl,hx,hd,hv,hm,q⟩:=h
  have hu:=su hr
  refine⟨_,ag (aA (ap Gm hr rfl mm km bm .nil au (aa (k4 hu (aH (pv 0) rfl) (aa (cg (aa (pv 1) (aa (pv 2) (aa (pv 3) ad)))) (aa aj ad))) ad))),?_⟩
  refine⟨_,rfl,x,ts.told,dx,_,_,rfl,hx,B.cd,B.zN,rfl,de,uv,rfl,hd,?_⟩
  refine⟨_,rfl,_,rfl,_,rfl,by show 3 <= sizeLine;decide,fun t ht=>?_⟩
  have s1:uu H (ar H t (.tup [.int r.p, .int r.g,cV r.c])):=(uu.refl H).new ht
  refine⟨_,_,bR uv (aq r),rfl,⟨uv,aq r,t,hd.same s1,rfl,by rw[gG];exact ac,rfl⟩,?_⟩
  rw[hv]
  exact⟨m,rfl,hm,fun D hD=>q _ D s1 hD⟩
theorem vS:aw NT ["self", "land", "rows"] (ah p6):=L2.uU
theorem rj {c:Cs}{ts:Ts}{f ff fs f1:Addr}{fd df ds d1:FuncData}(F:uN K "__init__" "Told.__init__" p6 f fd)(T:Txt mg)(B:C7 K mg ts f1 d1)(G1:Z P w K mg base aD 1 f1 d1 ["self", "land"] (jZ K))
  (mf:mg "row_fits" = some (.ref ff)) (kf:keepIn K (.ref ff)=true) (bf:Binds K df ["land", "row"] []) (Gf:Z P w K mg base aD 4 ff df ["land", "row"] (lT c))
  (ms:mg "set_of" = some (.ref fs)) (ks:keepIn K (.ref fs)=true) (bs:Binds K ds ["numbers"] []) (Gs:Z P w K mg base aD 1 fs ds ["numbers"] (mZ K)) :
  Z P w K mg base aD 5 f fd ["self", "land", "rows"] (jz P w K c ts):=by
 refine F.ok vS (fun vs H Q E h=>?_) (fun uF A outer s H vs Q E hr h=>?_)
 ·obtain⟨x,dx,lx,u4,lt,p,n,uz,uG,ps,rs,rfl,_⟩:=h
  rfl
 ·obtain⟨x,dx,lx,u4,lt,p,n,uz,uG,ps,rs,rfl,hx,hL,hp,hR,hlen,vf,Ie,hE,hQ⟩:=h
  have vo:u5 1 _:=hr.mono (by decide)
  have vQ:u5 2 _:=hr.mono (by decide)
  have hu:=su hr
  refine⟨_,ae (cy (kB (dC (v := .ref ts.tab) rfl B.mt rfl) B.cm G1 vo B.bt .nil au (aa (pv 0) (aa (pv 1) ad))))
   (ae (fT (pv 0) (show PE _ _ (ph P w) from n0) rfl)
   (ag (bg PassesOwn.never rfl (kz rfl T.enum (aa (pv 2) ad)) (eL rfl (aR (ao (i:=3) vS.nd rfl (Or.inl rfl)) (aR (ao (i:=4) vS.nd rfl (Or.inl rfl)) dA)))
    (ae (ay (i:=5) vS.nd rfl (Or.inl rfl) (cg (aa (aJ aW (pv 4) aj (fun _ _=>rfl)) (aa (aJ aW (pv 4) aj (fun _ _=>rfl)) (aa (aJ aW (pv 4) aj (fun _ _=>rfl)) ad)))))
    (ae (b9 (PW.pt (iw (cv (cC (ap Gf hr rfl mf kf bf .nil au (aa (pv 1) (aa (pv 4) ad))))) (iu (me (tw hu (pv 5) (aH (pv 0) rfl))))))
     (ag cT) aK)
    (ag (nu hu (aH (pv 0) rfl) (pv 5) (ap Gs vo rfl ms ks bs .nil au (aa (aJ aW (pv 4) aj (fun _ _=>rfl)) ad)) rfl))))))),?_⟩
  refine⟨rfl,_,rfl,_,rfl,x,ts.told,dx,_,rfl,hx,B.cd,B.nd1,?_⟩
  refine fun de yk=>⟨_,rfl,x,ts.told,dx,[("land", .ref lx)],rfl,by rw[ak (am ac yk)];exact ac,B.cd,B.zN,by show 1 < 1000;decide,?_⟩
  have zg:x ≠ de:=am ac yk
  have xF:H de=none:=by rw[ak (Ne.symm zg)]at yk;exact yk
  generalize xm:ar (ar (ar H x (.ins ts.told dx [("land", .ref lx)])) de (iN P w de [])) x (.ins ts.told dx (dq "entries" (.ref de) [("land", .ref lx)]))=H2
  have o2:Off x H H2:=fun b o hb e=>by rw[← xm,ak hb,ak (am e xF),ak hb];exact e
  have x2:H2 x=some (.ins ts.told dx [("land", .ref lx),("entries", .ref de)]):=by rw[← xm,ac];rfl
  have d2:uI P w H2 de []:=⟨by rw[← xm,ak (Ne.symm zg),ac],fun y hy=>by cases hy⟩
  have ER:uG.length=rs.length:=Paired.length hR
  refine⟨_,rfl,p,rfl,⟨_,o2.sq hx hp⟩,kR (sq:=fun H=>ux K H p) (xs:=uG) (fun i σ H3=>∃ (a b k:Option V)(uv:List dH),Off x H H3/\H3 x=some (.ins ts.told dx [("land", .ref lx),("entries", .ref de)])/\uI P w H3 de uv/\uv.length <= i /\
    (∀ k,bR uv k=(bY (rs.take i) k).map pz)/\(∀ j,j < i->lw n ps (rs.take j) (rs.getD j ⟨0,0,none,[]⟩)=false)/\σ=[some (.ref x),some (.ref lx),some (.ref p),a,b,k])
   ⟨none,none,none,[],o2,x2,d2,le_refl _,fun k=>rfl,fun j hj=>absurd hj (not_lt_zero _),rfl⟩ (fun i σ H3 _ uw=>by obtain⟨_,_,_,_,o3,_⟩:=uw;exact o3.sq hx hp) ?_ ?_⟩
  ·rintro i v q σ H3 hv ⟨a,b,k,uv,o3,x3,d3,l3,v3,g3,rfl⟩ hq
   obtain⟨r,hri,t,l,rfl,hT⟩:=uV.get hR hv
   have hi:i < rs.length:=(List.getElem?_eq_some_iff.mp hri).1
   have zO:rs.getD i ⟨0,0,none,[]⟩ = r:=by rw[getD_eq_getElem?_getD,hri];rfl
   have zP:yC H3 t l r:=⟨o3 _ _ (bu hT.1 hx (by intro z;cases z)) hT.1,o3 _ _ (bu hT.2 hx (by intro z;cases z)) hT.2⟩
   have ES:=o3.land hx hL
   have s4:uu H3 (ar H3 q (.tup [.int i, .ref t])):=(uu.refl H3).new hq
   refine⟨q,_,rfl,uE.of ac,rfl,_,_,rfl,_,_,rfl,rfl,?_⟩
   generalize ar H3 q (.tup [.int i, .ref t])=H4 at s4 ⊢
   have ET:uE K H4 t [.int r.p, .int r.g,cV r.c, .ref l]:=uE.of (s4 _ _ zP.1)
   refine⟨_,rfl,t,_,0,_,rfl,rfl,ET,aB (j:=0) rfl,_,rfl,t,_,1,_,rfl,rfl,ET,aB (j:=1) rfl,_,rfl,t,_,2,_,rfl,rfl,ET,aB (j:=2) rfl,by show 3 <= sizeLine;decide,fun kt EU=>?_⟩
   have s5:uu H3 (ar H4 kt (.tup [.int r.p, .int r.g,cV r.c])):=s4.new EU
   have k5:(ar H4 kt (.tup [.int r.p, .int r.g,cV r.c])) kt=some (.tup ((aq r).map oV)):=by rw[gG];exact ac
   generalize ar H4 kt (.tup [.int r.p, .int r.g,cV r.c])=H5 at s5 k5 ⊢
   refine⟨_,rfl,_,rfl,lx,u4,lt,t,l,n,uz,ps,r,rfl,⟨s5 _ _ ES.1,s5 _ _ ES.2.1,uD.same s5 ES.2.2⟩,zP.same s5,vf,(Ie r (mem_of_getElem? hri)).2,fun H6 zQ=>⟨_,rfl,?_⟩⟩
   have s6:=s5.trans zQ
   have k6:=zQ _ _ k5
   have x6:=s6 _ _ x3
   have d6:=d3.same s6
   have yE:lw n ps (rs.take i) r=true->False:=fun hb=>hE i (iP hi g3 (by rw[zO];exact hb))
   cases hf:fH n ps r with
   | false =>
    exact be (be (yE (by rw[fL,hf];rfl)))
   | true =>
    refine aT ⟨_,rfl,_,rfl,x,ts.told,dx,_,_,rfl,x6,B.cd,B.zN,rfl,de,_,rfl,⟨uv,aq r,kt,d6,rfl,k6,rfl⟩,_,rfl,?_⟩
    have eS:(bR uv (aq r)).isSome=(rs.take i).any fun a=>decide (aq a=aq r):=by rw[v3,Option.isSome_map,fG]
    cases hS:(bR uv (aq r)).isSome with
    | true =>
     exact be (yE (by rw[fL,hf,← eS,hS];rfl))
    | false =>
     refine aT ?_
     have Ig:=zP.same s6
     refine⟨_,rfl,t,_,3,_,rfl,rfl,uE.of Ig.1,aB (j:=3) rfl,l,r.s,rfl,ux.of Ig.2,(Ie r (mem_of_getElem? hri)).1,?_⟩
     refine⟨_,rfl,x,ts.told,dx,_,_,rfl,x6,B.cd,B.zN,rfl,_,rfl,de,uv,aq r,kt,rfl,d6,rfl,k6,by rw[sizeLine_eq];omega,?_⟩
     have hx6:x ≠ de:=zg
     refine⟨_,_,_,e6 uv (aq r) kt (pz r),fun b' o hb e=>?_,?_,⟨ac,jb (F:=fun k a=>(ar H6 de (iN P w de (e6 uv (aq r) kt (pz r)))) a=some (.tup (k.map oV))) (fun y hy=>?_) ?_⟩,?_,fun k'=>?_,fun j hj=>?_,rfl⟩
     ·rw[ak (am e xF)];exact s6 _ _ (o3 _ _ hb e)
     ·rw[ak zg];exact x6
     ·rw[ak (bu (d6.2 y hy) d6.1 (by intro z;cases z))];exact d6.2 y hy
     ·rw[ak (bu k6 d6.1 (by intro z;cases z))];exact k6
     ·exact le_trans dP (Nat.succ_le_succ l3)
     ·rw[gS,take_succ,hri,Option.toList_some,mK,v3]
      by_cases hk:k' = aq r
      ·rw[if_pos hk,if_pos hk];rfl
      ·rw[if_neg hk,if_neg hk]
     ·rcases lt_or_ge j i with h | h
      ·exact g3 j h
      ·have:j=i:=by omega
       subst this
       rw[zO,fL,hf,← eS,hS];rfl
  ·rintro σ H3 ⟨a,b,k,uv,o3,x3,d3,l3,v3,g3,rfl⟩
   rw[ER]at g3 v3
   rw[take_length]at v3
   exact hQ (eE g3) H3 de uv o3 x3 d3 v3
theorem pX {n a e:Int}(h1:0 <= a)(h2:a < n)(h3:0 <= e)(h4:e < n - 1):fB n (a,(a + 1 + e) % n)=true:=by
 have hb:(a + 1 + e) % n=if a + 1 + e < n then a + 1 + e else a + 1 + e - n:=by
  split
  ·exact Int.emod_eq_of_lt (by omega) (by omega)
  ·rw[← Int.sub_emod_right,Int.emod_eq_of_lt (by omega) (by omega)]
 unfold fB
 dsimp only
 rw[hb]
 simp only[Bool.and_eq_true,decide_eq_true_eq,Bool.not_eq_true',decide_eq_false_iff_not]
 split<;>omega
theorem nE {H:Hp}{l:Addr}{xs:List V}{o:HO}(hl:H l=some (.lst xs)):∀ {vs:List V}{ps:List (Int × Int)},uD H vs ps->uD (ar H l o) vs ps:=fun uw=>by
 induction uw with
 | nil=>exact .nil
 | cons zz r ih=>obtain⟨t,e,q⟩:=zz;exact .cons ⟨t,e,by rw[ak (bu q hl (by intro z;cases z))];exact q⟩ ih
theorem qA {α:Type}{xs:List α}{i:Int}(h0:0 <= i)(h1:i < (xs.length:Nat)):∃ v,nZ xs i=some v/\v ∈ xs:=by
 obtain⟨j,rfl⟩:=eq_ofNat_of_zero_le h0
 have hj:j < xs.length:=by omega
 exact⟨xs[j],aB (List.getElem?_eq_getElem hj),getElem_mem hj⟩
noncomputable def eh:Scope:={ kind := .function,names:=[],isGenerator:=false,isCoroutine:=false }
noncomputable def qC (s:Stmt):Scope:=match s with
 | .Assign _ (.ListComp _ _ sc _) _=>sc
 | _=>eh
noncomputable def qx (s:Stmt):Scope:=match s with
 | .Assign _ (.BinOp _ _ (.ListComp _ _ sc _) _) _=>sc
 | _=>eh
theorem jM {sel:Int × Int->Int}{ps:List (Int × Int)}{pl:Int}{k:Nat}(h:k ∈ cY sel ps pl):k < ps.length:=mem_range.mp (mem_filter.mp h).1
theorem gH (sel:Int × Int->Int)(ps:List (Int × Int))(pl:Int):(cY sel ps pl).length <= ps.length:=by
 have:=length_filter_le (fun k=>decide (sel (ps.getD k (0,0))=pl)) (List.range ps.length)
 rw[length_range]at this
 exact this
theorem nW {sel:Int × Int->Int}{ps:List (Int × Int)}{pl:Int}{g:TG}{tt:TT}{te:TE}{σ0:St}{H:Hp}{Q:VK}(hn:ps.length < sizeLine)
  (hs:∀ (i:Nat)(acc:List V)(N:List V->Hp->Prop)(pr:Int × Int),ps[i]? = some pr->N (if decide (sel pr=pl)=true then acc ++ [V.int i] else acc) H->g (.int i) σ0 H fun σ2 H2=>tt σ2 H2 fun b H3=>if b=true then te σ2 H3 fun y H4=>N (acc ++ [y]) H4 else N acc H3)
  (hq:∀ D,H D=none->Q (.ref D) (ar H D (.lst (b5 (cY sel ps pl))))):eG (sy 0 ps.length) g tt te σ0 Q H:=by
 refine iH (lo:=0) (fun k=>decide (sel (ps.getD k (0,0))=pl)) (fun k=>V.int k) hn (fun i acc N hi h=>?_) hq
 obtain⟨pr,hpr⟩:∃ pr,ps[i]? = some pr:=⟨ps[i],List.getElem?_eq_getElem hi⟩
 have eg:ps.getD i (0,0)=pr:=by rw[getD_eq_getElem?_getD,hpr];rfl
 rw[zero_add]
 rw[eg]at h
 exact hs i acc N pr hpr h
noncomputable def EV (x:Addr)(H:Hp)(v:V)(r:Rw):Prop:=∃ t l,v = .ref t/\yC H t l r/\l ≠ x
abbrev v8 (x:Addr)(H:Hp):List V->List Rw->Prop:=Paired (EV x H)
theorem v8.imp {x:Addr}{H H':Hp}{G:V->Rw->Prop}(h:∀ v r,EV x H v r->G v r):∀ {vs:List V}{rs:List Rw},v8 x H vs rs->Paired G vs rs:=fun uw=>by
 induction uw with
 | nil=>exact .nil
 | cons z r ih=>exact .cons (h _ _ z) ih
theorem v8.rws {x:Addr}{H:Hp}{vs:List V}{rs:List Rw}(h:v8 x H vs rs):uV H vs rs:=v8.imp (H':=H) (fun _ _ ⟨t,l,e,z,_⟩=>⟨t,l,e,z⟩) h
theorem v8.same {x:Addr}{H H':Hp}(s:uu H H'){vs:List V}{rs:List Rw}(h:v8 x H vs rs):v8 x H' vs rs:=v8.imp (H':=H) (fun _ _ ⟨t,l,e,z,n⟩=>⟨t,l,e,z.same s,n⟩) h
theorem v8.off {x:Addr}{H:Hp}{xs:List V}{o:HO}(hx:H x=some (.lst xs)){vs:List V}{rs:List Rw}(h:v8 x H vs rs):v8 x (ar H x o) vs rs :=
 v8.imp (H':=H) (fun _ _ uw=>by obtain⟨t,l,e,z,n⟩:=uw;exact⟨t,l,e,⟨by rw[ak (bu z.1 hx (by intro z;cases z))];exact z.1,by rw[ak n];exact z.2⟩,n⟩) h
theorem v8.snoc {x:Addr}{H:Hp}{v:V}{r:Rw}(h:EV x H v r):∀ {vs:List V}{rs:List Rw},v8 x H vs rs->v8 x H (vs ++ [v]) (rs ++ [r]):=fun uw=>by
 induction uw with
 | nil=>exact .cons h .nil
 | cons z t ih=>exact .cons z ih
abbrev gr:=Hp->Addr->(aS->Nat)->Prop
noncomputable def bU (J:gr):Sp:=fun vs H Q _=>∃ (x:Addr)(wy:aS->Nat)(r:Rw),vs=[.ref x, .int r.p, .int r.g,cV r.c]/\J H x wy/\∀ H' D,uu H H'->H' D=none->Q (.ref D) (ar H' D (.lst (bS (wy (aq r)))))
structure lE (K:Frag)(C fw:Addr)(dw:FuncData)(J:gr):Prop where
 cl:wo K C
 m:jT K C "ways" fw
 b:Binds K dw ["self", "place", "goal", "came"] []
 inst:∀ H x wy,J H x wy->∃ dx fs,H x=some (.ins C dx fs)/\fs.lookup ("ways":Str)=none
 vi:∀ H H' x wy,J H x wy->uu H H'->J H' x wy
noncomputable def cq (rs:List Rw)(k:aS):Nat:=match bY rs k with
 | some r=>Yd.uM r.s 0
 | none=>0
theorem cW {rs:List Rw}{k:aS}{r:Rw}(h:bY rs k=some r):r ∈ rs:=mem_reverse.mp (List.mem_of_find?_eq_some h)
noncomputable def aX (P:Program)(w:World)(ts:Ts):gr:=fun H x wy=>∃ (dx de:Addr)(lv:V)(uv:List dH),H x=some (.ins ts.told dx [("land",lv),("entries", .ref de)])/\uI P w H de uv/\∀ k,(bR uv k).getD (.int 0) = .int (wy k)/\wy k < 2 ^ 400
noncomputable def dG (ts:Ts):gr:=fun H x wy=>∃ (dx:Addr)(lv:V),H x=some (.ins ts.tab dx [("land",lv)])/\∀ k,wy k=0
noncomputable def pL (p:Int × Int):PyData := .tuple [.int p.1, .int p.2]
theorem kY {K:Frag}{H:Hp}:∀ {vs:List V}{ps:List (Int × Int)},uD H vs ps->lD K H vs (ps.map pL):=fun uw=>by
 induction uw with
 | nil=>exact .nil
 | cons zz r ih=>obtain⟨t,e,h⟩:=zz;exact .cons (by subst e;exact .tup (uE.of h) (.cons (.int _) (.cons (.int _) .nil))) ih
theorem ot (ps:List (Int × Int)):xD (.tuple (ps.map pL)) 64:=(iY (m:=1) fun z hz=>by
 obtain⟨p,_,rfl⟩:=mem_map.mp hz
 exact iY (m:=0) fun y hy=>by
  simp only[mem_cons,not_mem_nil,or_false]at hy
  rcases hy with rfl | rfl<;>exact qT _).le (by decide)
theorem om {ts:Ts}{f:Addr}{fd:FuncData}(G:Z P w K mg base aD 3 f fd ["self", "place", "goal", "came"] (mY P w ts)):Z P w K mg base aD 3 f fd ["self", "place", "goal", "came"] (bU (aX P w ts)) :=
 G.imp fun vs H Q E uw=>by obtain⟨x,wy,r,e,⟨dx,de,lv,uv,h1,h2,h3⟩,q⟩:=uw;exact⟨x,dx,de,lv,uv,r,wy (aq r),e,h1,h2,(h3 _).1,(h3 _).2,q⟩
theorem oC:bS 0=[]:=rfl
theorem pf {ts:Ts}{f:Addr}{fd:FuncData}(G:Z P w K mg base aD 1 f fd ["self", "place", "goal", "came"] pi):Z P w K mg base aD 3 f fd ["self", "place", "goal", "came"] (bU (dG ts)) :=
 (G.mono (by decide)).imp fun vs H Q E ⟨x,wy,r,e,⟨dx,lv,h1,h2⟩,q⟩=>⟨_,_,_,_,e,fun p hp=>by
  have:=q H p (uu.refl H) hp
  rw[h2,oC]at this
  exact this⟩
noncomputable def aE (ps:List (Int × Int))(p:Nat):List (Option Nat):=none :: (cY Prod.snd ps p).map some
abbrev bB:=Int × Int × Option Nat
noncomputable def cw (r:Rw):bB:=(r.p,r.g,r.c)
noncomputable def cP (ps:List (Int × Int))(p g:Nat):List bB:=if g=p then [] else (aE ps p).map fun c=>((p:Int),(g:Int),c)
noncomputable def bQ (ps:List (Int × Int))(n p:Nat):List bB:=(List.range n).flatMap fun g=>cP ps p g
noncomputable def bj (ps:List (Int × Int))(n m:Nat):List bB:=(List.range m).flatMap fun p=>bQ ps n p
noncomputable def aP (k:bB):aS:=[some k.1,some k.2.1,k.2.2.map fun z:Nat=>(z:Int)]
theorem cU {k l:bB}(h:aP k=aP l):k=l:=by
 obtain⟨a,b,c⟩:=k
 obtain⟨a',b',c'⟩:=l
 simp only[aP,List.cons.injEq,Option.some.injEq,and_true]at h
 obtain⟨rfl,rfl,h⟩:=h
 congr 2
 cases c<;>cases c'<;>simp_all<;>omega
structure vy (n:Nat)(ps:List (Int × Int))(rs:List Rw):Prop where
 keys:rs.map cw=bj ps n n
 lanes:∀ r ∈ rs,(∀ k ∈ r.s,k ∈ cY Prod.fst ps r.p)/\r.s.length <= ps.length
theorem lm (ps:List (Int × Int))(p:Nat):(aE ps p).Nodup:=by
 unfold aE
 refine nodup_cons.mpr ⟨fun h=>by simp at h,?_⟩
 refine List.Pairwise.map _ (fun a b (h:a ≠ b) e=>h (Option.some.inj e)) ?_
 exact List.Pairwise.filter _ (List.nodup_range)
theorem cH {ps:List (Int × Int)}{p g:Nat}{k:bB}(h:k ∈ cP ps p g):g ≠ p/\k.1=p/\k.2.1=g/\k.2.2 ∈ aE ps p:=by
 unfold cP at h
 by_cases e:g=p
 ·rw[if_pos e]at h;cases h
 ·rw[if_neg e]at h
  obtain⟨c,hc,rfl⟩:=mem_map.mp h
  exact⟨e,rfl,rfl,hc⟩
theorem dS {ps:List (Int × Int)}{n m:Nat}{k:bB}(h:k ∈ bj ps n m):∃ p g:Nat,p < m/\g < n/\g ≠ p/\k.1=p/\k.2.1=g/\k.2.2 ∈ aE ps p:=by
 unfold bj bQ at h
 obtain⟨p,hp,h⟩:=mem_flatMap.mp h
 obtain⟨g,hg,h⟩:=mem_flatMap.mp h
 obtain⟨a,b,c,d⟩:=cH h
 exact⟨p,g,mem_range.mp hp,mem_range.mp hg,a,b,c,d⟩
theorem iA (ps:List (Int × Int))(n m:Nat):(bj ps n m).Nodup:=by
 unfold bj
 refine List.pairwise_flatMap.mpr ⟨fun p _=>?_,?_⟩
 ·unfold bQ
  refine List.pairwise_flatMap.mpr ⟨fun g _=>?_,?_⟩
  ·unfold cP
   split
   ·exact .nil
   ·exact List.Pairwise.map _ (fun a b (h:a ≠ b) e=>h (by simpa using e)) (lm ps p)
  ·refine List.Pairwise.imp ?_ (pairwise_lt_range)
   intro g g' hg x hx y hy e
   subst e
   have h1:=(cH hx).2.2.1
   have h2:=(cH hy).2.2.1
   omega
 ·refine List.Pairwise.imp ?_ (pairwise_lt_range)
  intro p p' hp x hx y hy e
  subst e
  unfold bQ at hx hy
  obtain⟨g,_,hx⟩:=mem_flatMap.mp hx
  obtain⟨g',_,hy⟩:=mem_flatMap.mp hy
  have h1:=(cH hx).2.1
  have h2:=(cH hy).2.1
  omega
theorem je (ps:List (Int × Int))(n i:Nat):bj ps n (i + 1)=bj ps n i ++ bQ ps n i:=by
 unfold bj
 rw[range_succ,flatMap_append]
 simp
theorem iJ (ps:List (Int × Int))(p j:Nat):bQ ps (j + 1) p=bQ ps j p ++ cP ps p j:=by
 unfold bQ
 rw[range_succ,flatMap_append]
 simp
theorem qh {a r:Rw}(h:aq a=aq r):cw a=cw r:=cU h
theorem rG {rs:List Rw}(nd:(rs.map cw).Nodup){r:Rw}(hr:r ∈ rs):bY rs (aq r)=some r:=by
 have hs:(bY rs (aq r)).isSome=true:=by
  rw[fG,any_eq_true]
  exact⟨r,hr,decide_eq_true rfl⟩
 obtain⟨r',e⟩:=Option.isSome_iff_exists.mp hs
 have hm:=cW e
 have hk:aq r' = aq r:=by
  unfold bY at e
  have:=List.find?_some e
  exact of_decide_eq_true this
 have hN:=qh hk
 rw[e]
 obtain⟨i,hi,ei⟩:=getElem_of_mem hm
 obtain⟨j,hj,ej⟩:=getElem_of_mem hr
 have hij:i=j:=by
  rcases Nat.lt_trichotomy i j with h | h | h
  ·exact absurd (by rw[getElem_map,getElem_map,ei,ej];exact hN) (pairwise_iff_getElem.mp nd i j (by rw[length_map];exact hi) (by rw[length_map];exact hj) h)
  ·exact h
  ·exact absurd (by rw[getElem_map,getElem_map,ei,ej];exact hN.symm) (pairwise_iff_getElem.mp nd j i (by rw[length_map];exact hj) (by rw[length_map];exact hi) h)
 subst hij
 rw[← ei,ej]
noncomputable def gI (wy:aS->Nat)(p g:Nat):Bool:=!decide (wy [some (p:Int),some (g:Int),none]=0)
noncomputable def bC (wy:aS->Nat)(p m:Nat):List (Int × Int):=((List.range m).filter fun g=>gI wy p g).map fun g:Nat=>((p:Int),(g:Int))
noncomputable def b8 (wy:aS->Nat)(n m:Nat):List (Int × Int):=(List.range m).flatMap fun p=>bC wy p n
theorem gf (wy:aS->Nat)(n i:Nat):b8 wy n (i + 1)=b8 wy n i ++ bC wy i n:=by
 unfold b8
 rw[range_succ,flatMap_append]
 simp
theorem kj (wy:aS->Nat)(p j:Nat):bC wy p (j + 1)=if gI wy p j then bC wy p j ++ [((p:Int),(j:Int))] else bC wy p j:=by
 unfold bC
 rw[range_succ,filter_append]
 cases h:gI wy p j with
 | true=>simp[h]
 | false=>simp[h]
theorem nj (wy:aS->Nat)(p m:Nat):(bC wy p m).length <= m:=by
 unfold bC
 rw[length_map]
 exact le_trans (length_filter_le _ _) (by rw[length_range];exact le_refl _)
theorem eJ (wy:aS->Nat)(n:Nat):∀ m,(b8 wy n m).length <= m * n
 | 0=>by simp[b8]
 | m + 1=>by
  rw[gf,length_append,succ_mul]
  have:=eJ wy n m
  have:=nj wy m n
  omega
theorem cG:∀ (n:Nat)(l:List Nat),l.Nodup->(∀ x ∈ l,x < n)->l.length <= n
 | 0,l,_,h=>by
  cases l with
  | nil=>exact le_refl _
  | cons x l=>exact absurd (h x mem_cons_self) (not_lt_zero _)
 | n + 1,l,hn,h=>by
  by_cases hm:n ∈ l
  ·have e:=List.length_erase_of_mem hm
   have:=cG n (l.erase n) (hn.erase n) fun x hx=>by
    have vm:=(hn.mem_erase_iff).mp hx
    have:=h x vm.2
    have:=vm.1
    omega
   omega
  ·have:=cG n l hn fun x hx=>by
    have:=h x hx
    have:x ≠ n:=fun z=>hm (by rw[← z];exact hx)
    omega
   omega
noncomputable def hG (c:Cs)(C:Addr)(J:gr):Sp:=fun vs H Q _=>∃ (x dx lx u4 lt:Addr)(fs:List (Str × V))(n:Nat)(uz:List V)(ps:List (Int × Int))(wy:aS->Nat),vs=[.ref x]/\J H x wy/\H x=some (.ins C dx fs)/\fs.lookup ("land":Str)=some (.ref lx)/\bL H c lx u4 lt n uz ps/\n <= 12 /\
 ∀ (D:Addr)(us:List V)(H':Hp),uu H H'->H D=none->H' D=some (.lst us)->uD H' us (b8 wy n n)->Q (.ref D) H'
abbrev NSt:List Str:=["table", "found", "place", "goal"]
theorem mH (m:Nat):(!(bS m).isEmpty) = !decide (m=0):=by
 congr 1
 rw[Bool.eq_iff_iff,isEmpty_iff,decide_eq_true_eq]
 unfold bS
 rw[map_eq_nil_iff]
 constructor
 ·intro h
  have:=Yd.ye (Yd.vC m)
  rw[h]at this
  exact this.symm
 ·rintro rfl;rfl
theorem yl:aw NSt ["table"] (ah j6):=L2.uU
theorem o9 {c:Cs}{J:gr}{C f fw:Addr}{fd dw:FuncData}(F:uN K "starts" "starts" j6 f fd)(T:Txt mg)(L:oU K c)(W:lE K C fw dw J)(nl:uA K C "land")(Gw:Z P w K mg base aD 3 fw dw ["self", "place", "goal", "came"] (bU J)) :
  Z P w K mg base aD 4 f fd ["table"] (hG c C J):=by
 refine F.ok yl (fun vs H Q E h=>?_) (fun uF A outer s H vs Q E hr h=>?_)
 ·obtain⟨x,dx,lx,u4,lt,fs,n,uz,ps,wy,rfl,_⟩:=h
  rfl
 ·obtain⟨x,dx,lx,u4,lt,fs,n,uz,ps,wy,rfl,hJ,hx,hf,hL,hn,q⟩:=h
  refine⟨_,ae (ay (i:=1) yl.nd rfl (Or.inl rfl) (bE ad))
   (ae (bg PassesOwn.never rfl (aY rfl T.range (aa (aH (aH (pv 0) rfl) rfl) ad)) (ao (i:=2) yl.nd rfl (Or.inl rfl))
    (ag (bg PassesOwn.never rfl (aY rfl T.range (aa (aH (aH (pv 0) rfl) rfl) ad)) (ao (i:=3) yl.nd rfl (Or.inl rfl))
     (ag (b9 (fq (bz (pv 0) W.cl W.m Gw hr W.b .nil au (aa (pv 2) (aa (pv 3) (aa cF ad)))) (fun _=>rfl))
      (ag (cy (dQ plainAttrs_list PySem.F.slot_list_append PySem.F.type_list_append el (pv 1) (aa (cg (aa (pv 2) (aa (pv 3) ad))) ad)))) aK)))))
   (ag (aA (pv 1)))),?_⟩
  obtain⟨EW,y0,vm,ym⟩:=W.inst _ _ _ hJ
  rw[hx]at vm
  injection vm with vm
  injection vm with _ e1 e2
  subst e1 e2
  refine⟨zero_le _,fun D hD=>?_⟩
  have s0:=(uu.refl H).new (o := .lst []) hD
  refine⟨_,rfl,x,C,dx,fs,_,rfl,s0 _ _ hx,W.cl,nl,hf,lx,c.land,u4,_,_,rfl,s0 _ _ hL.1,L.cl,L.np,rfl,(n:Int),rfl,by omega,by omega,?_⟩
  rw[toNat_natCast]
  refine bO (n:=n) (fun i σ H2=>∃ (a2 a3:Option V)(us:List V),uu H H2/\H2 D=some (.lst us)/\uD H2 us (b8 wy n i)/\σ=[some (.ref x),some (.ref D),a2,a3])
   ⟨none,none,[],s0,ac, .nil,rfl⟩ ?_ ?_
  ·rintro i σ H2 hi ⟨a2,a3,us,s2,gD,hU,rfl⟩
   rw[zero_add]
   refine⟨_,rfl,x,C,dx,fs,_,rfl,s2 _ _ hx,W.cl,nl,hf,lx,c.land,u4,_,_,rfl,s2 _ _ hL.1,L.cl,L.np,rfl,(n:Int),rfl,by omega,by omega,?_⟩
   rw[toNat_natCast]
   refine bO (n:=n) (fun j σ H3=>∃ (a3:Option V)(us:List V),uu H H3/\H3 D=some (.lst us)/\uD H3 us (b8 wy n i ++ bC wy i j)/\σ=[some (.ref x),some (.ref D),some (.int i),a3])
    ⟨_,us,s2,gD,by simpa [bC] using hU,rfl⟩ ?_ ?_
   ·rintro j σ H3 hj ⟨a3,us,s3,zh,yn,rfl⟩
    rw[zero_add]
    refine⟨_,rfl,x,dx,fs,rfl,s3 _ _ hx,ym,_,rfl,_,rfl,x,wy,⟨(i:Int),(j:Int),none,[]⟩,rfl,W.vi _ _ _ _ hJ s3,fun H4 D4 yo Ih=>?_⟩
    have wR:uu H3 (ar H4 D4 (.lst (bS (wy (aq ⟨(i:Int),(j:Int),none,[]⟩))))):=yo.new Ih
    refine⟨_, .inl ⟨_,ux.of ac,rfl⟩,?_⟩
    show if (!(bS (wy (aq ⟨(i:Int),(j:Int),none,[]⟩))).isEmpty)=true then _ else _
    rw[mH]
    have hlen:us.length <= 200:=by
     have e:=Paired.length yn
     rw[length_append]at e
     have b1:=eJ wy n i
     have b2:=nj wy i j
     have b3:i * n <= 12 * 12:=mul_le_mul (by omega) hn
     omega
    cases hs:gI wy i j with
    | false =>
     have yA:(!decide (wy (aq ⟨(i:Int),(j:Int),none,[]⟩)=0))=false:=hs
     have hR:(ar H4 D4 (.lst (bS (wy (aq ⟨(i:Int),(j:Int),none,[]⟩))))) D=some (.lst us):=wR _ _ zh
     rw[yA]
     refine aT ⟨_,us,s3.trans wR,hR,?_,rfl⟩
     rw[kj,hs]
     exact uD.same wR yn
    | true =>
     have yA:(!decide (wy (aq ⟨(i:Int),(j:Int),none,[]⟩)=0))=true:=hs
     rw[yA]
     generalize ar H4 D4 (.lst (bS (wy (aq ⟨(i:Int),(j:Int),none,[]⟩))))=H5 at wR ⊢
     refine be ⟨_,rfl, .inl ⟨rfl,_,ux.of (wR _ _ zh)⟩,_,rfl,_,rfl,by show 2 <= sizeLine;decide,fun t ht=>?_⟩
     have s6:=(uu.refl H5).new (o := .tup [.int i, .int j]) ht
     have gT:(ar H5 t (.tup [.int i, .int j])) t=some (.tup [.int i, .int j]):=ac
     have nT:t ≠ D:=Ne.symm (am (wR _ _ zh) ht)
     generalize ar H5 t (.tup [.int i, .int j])=H6 at s6 gT ⊢
     have xT:=wR.trans s6
     refine⟨D,us,_,rfl,rfl,xT _ _ zh,by rw[sizeLine_eq];omega,?_⟩
     refine⟨_,us ++ [.ref t],fun b o e=>by rw[ak (am e hD)];exact xT _ _ (s3 _ _ e),ac,?_,rfl⟩
     rw[kj,hs,if_pos rfl,← append_assoc]
     exact uD.snoc ⟨t,rfl,by rw[ak nT];exact gT⟩ (nE (xT _ _ zh) (uD.same xT yn))
   ·rintro σ H3 ⟨a3,us,s3,zh,yn,rfl⟩
    refine⟨_,_,us,s3,zh,?_,rfl⟩
    rw[gf]
    exact yn
  ·rintro σ H2 ⟨a2,a3,us,s2,gD,hU,rfl⟩
   exact⟨_,rfl,q D us H2 s2 hD gD hU⟩
noncomputable def nV (ps:List Nat):List V:=ps.map fun q:Nat=>V.int (q:Int)
theorem ca (ps:List Nat):(nV ps).length=ps.length:=by simp[nV]
theorem i6 {ps:List Nat}{k q:Nat}(h:ps[k]? = some q):(nV ps)[k]? = some (V.int (q:Int)):=by simp[nV,h]
theorem tS (a b:List Nat):nV (a ++ b)=nV a ++ nV b:=by unfold nV;rw[map_append]
theorem qd {ps:List Nat}{v:V}(h:v ∈ nV ps):∃ q:Nat,q ∈ ps/\v = .int (q:Int):=by
 obtain⟨q,hq,e⟩:=mem_map.mp h
 exact⟨q,hq,e.symm⟩
noncomputable def wl (wy:aS->Nat)(k:aS):List Nat:=Yd.wb (wy k) (Builtin.Int.intBits ((wy k:Nat):Int))
theorem jH (wy:aS->Nat)(k:aS):bS (wy k)=nV (wl wy k):=rfl
noncomputable def jD (wy:aS->Nat)(ps:List (Int × Int))(g l:Nat):List Nat:=if (ps.getD l (0,0)).2=(g:Int) then [] else wl wy [some (ps.getD l (0,0)).2,some (g:Int),some (l:Int)]
structure uJ (c:Cs)(C:Addr)(J:gr)(H:Hp)(x lx u4 lt:Addr)(n:Nat)(uz:List V)(ps:List (Int × Int))(wy:aS->Nat):Prop where
 j:J H x wy
 i:∃ dx fs,H x=some (.ins C dx fs)/\fs.lookup ("land":Str)=some (.ref lx)
 l:bL H c lx u4 lt (n:Int) uz ps
 zi:n <= 12
 wU:ps.length <= 40
 ok:∀ k,∀ z ∈ wl wy k,z < ps.length
 nr:∀ k,(wl wy k).length <= 40
theorem uJ.same {K:Frag}{c:Cs}{C fw:Addr}{dw:FuncData}{J:gr}{H H':Hp}{x lx u4 lt:Addr}{n:Nat}{uz:List V}{ps:List (Int × Int)}{wy:aS->Nat}(W:lE K C fw dw J)(h:uJ c C J H x lx u4 lt n uz ps wy)(s:uu H H'):uJ c C J H' x lx u4 lt n uz ps wy :=
 ⟨W.vi _ _ _ _ h.j s,let ⟨dx,fs,h1,h2⟩:=h.i; ⟨dx,fs,s _ _ h1,h2⟩,⟨s _ _ h.l.1,s _ _ h.l.2.1,uD.same s h.l.2.2⟩,h.zi,h.wU,h.ok,h.nr⟩
noncomputable def qS (c:Cs)(sel:Int × Int->Int):Sp:=fun vs H Q _=>∃ (x dx t:Addr)(n:Int)(uz:List V)(ps:List (Int × Int))(k:Nat)(pr:Int × Int),vs=[.ref x, .int k]/\bL H c x dx t n uz ps/\ps[k]? = some pr/\Q (.int (sel pr)) H
structure ur (K:Frag)(c:Cs)(f:Addr)(d:FuncData):Prop where
 m:jT K c.land "end_of" f
 b:Binds K d ["self", "lane"] []
noncomputable def sQ (c:Cs)(C:Addr)(J:gr):Sp:=fun vs H Q _=>∃ (x lx u4 lt:Addr)(n:Nat)(uz:List V)(ps:List (Int × Int))(wy:aS->Nat)(l g:Nat),vs=[.ref x, .int l, .int g]/\uJ c C J H x lx u4 lt n uz ps wy/\l < ps.length /\
 ∀ (D:Addr)(H':Hp),uu H H'->H D=none->H' D=some (.lst (nV (jD wy ps g l)))->Q (.ref D) H'
theorem Bs:aw ["self", "lane"] ["self", "lane"] (ah sX):=L2.uU
theorem tN {c:Cs}{f:Addr}{fd:FuncData}(F:uN K "end_of" "Land.end_of" sX f fd)(L:oU K c):Z P w K mg base aD 1 f fd ["self", "lane"] (qS c Prod.snd):=by
 refine F.ok Bs (fun vs H Q E h=>?_) (fun uF A outer s H vs Q E hr h=>?_)
 ·obtain⟨x,dx,t,n,uz,ps,k,pr,rfl,_⟩:=h
  rfl
 ·obtain⟨x,dx,t,n,uz,ps,k,pr,rfl,⟨hx,ht,hl⟩,hk,q⟩:=h
  refine⟨_,ag (aA (aJ aW (aJ aW (aH (pv 0) rfl) (pv 1) (fun _ _=>rfl)) aj (fun _ _=>rfl))),?_⟩
  obtain⟨v,hv,u,rfl,hu⟩:=uD.ze hl hk
  refine⟨_,rfl,x,c.land,dx,_,_,rfl,hx,L.cl,L.nl,rfl,_,rfl,t,_,_,_,rfl,rfl,uE.of ht,aB hv,u,_,1,_,rfl,rfl,uE.of hu,aB (j:=1) rfl,q⟩
theorem rK (a b:Int):decide (V.int a=V.int b)=decide (a=b):=by
 by_cases h:a=b
 ·rw[h];simp
 ·rw[decide_eq_false h,decide_eq_false fun z=>h (by injection z)]
theorem Bt:aw ["table", "lane", "goal", "end"] ["table", "lane", "goal"] (ah EM):=L2.uU
theorem Bu {c:Cs}{J:gr}{C f fw fe:Addr}{fd dw de:FuncData}(F:uN K "onward" "onward" EM f fd)(L:oU K c)(W:lE K C fw dw J)(nl:uA K C "land")(Gw:Z P w K mg base aD 3 fw dw ["self", "place", "goal", "came"] (bU J))
  (M:ur K c fe de) (Ge:Z P w K mg base aD 1 fe de ["self", "lane"] (qS c Prod.snd)):Z P w K mg base aD 4 f fd ["table", "lane", "goal"] (sQ c C J):=by
 refine F.ok Bt (fun vs H Q E h=>?_) (fun uF A outer s H vs Q E hr h=>?_)
 ·obtain⟨x,lx,u4,lt,n,uz,ps,wy,l,g,rfl,_⟩:=h
  rfl
 ·obtain⟨x,lx,u4,lt,n,uz,ps,wy,l,g,rfl,hT,hl,q⟩:=h
  have vo:u5 1 _:=hr.mono (by decide)
  refine⟨_,ae (ay (i:=3) Bt.nd rfl (Or.inl rfl) (bz (aH (pv 0) rfl) L.cl M.m Ge vo M.b .nil au (aa (pv 1) ad)))
   (ag (aA (fz (az bW (pv 3) (pv 2) (aC _)) (bE ad) (bz (pv 0) W.cl W.m Gw hr W.b .nil au (aa (pv 3) (aa (pv 2) (aa (pv 1) ad))))))),?_⟩
  obtain⟨dx,fs,hx,hf⟩:=hT.i
  obtain⟨EW,y0,vm,ym⟩:=W.inst _ _ _ hT.j
  rw[hx]at vm
  injection vm with vm
  injection vm with _ e1 e2
  subst e1 e2
  have he:=List.getElem?_eq_getElem hl
  have heD:ps.getD l (0,0)=ps[l]:=by rw[getD_eq_getElem?_getD,he];rfl
  unfold jD at q
  rw[heD]at q
  generalize ps[l]=pr at he q
  refine⟨_,rfl,x,C,dx,fs,_,rfl,hx,W.cl,nl,hf,lx,u4,_,rfl,hT.l.1,rfl,_,rfl,lx,u4,lt,(n:Int),uz,ps,l,pr,rfl,hT.l,he,?_⟩
  refine⟨_,rfl,_,rfl,rfl,_,rfl,?_⟩
  rw[rK]
  by_cases h1:pr.2=(g:Int)
  ·rw[decide_eq_true h1]
   rw[if_pos h1]at q
   exact be ⟨zero_le _,fun D hD=>q D _ ((uu.refl H).new hD) hD ac⟩
  ·rw[decide_eq_false h1]
   rw[if_neg h1]at q
   exact aT ⟨_,rfl,x,dx,fs,rfl,hx,ym,_,rfl,_,rfl,_,rfl,x,wy,⟨pr.2,(g:Int),some l,[]⟩,rfl,hT.j,fun H' D s' hD=>q D _ (s'.new hD) (s'.free hD) ac⟩
theorem Bv {X:Cx}{tg it:Expr}{a b:TI}(h1:PI X tg it a)(h2:PI X tg it b):PI X tg it (fun σ H R=>a σ H R∨b σ H R):=fun pins s σ H R I h=>h.elim (h1 pins s σ H R I) (h2 pins s σ H R I)
theorem lh {J:It}{xs:List V}{g:TG}{te:TE}{σ0:St}{H:Hp}{Q:VK}(f:V->V)(hn:xs.length < sizeLine)(hgo:∀ i,i < xs.length->J.go i H)(y2:J.stop xs.length H)(hy:∀ i x H',J.xP i H x H'->H' = H/\xs[i]? = some x)
  (hs:∀ (x:V)(N:V->Hp->Prop),x ∈ xs->N (f x) H->g x σ0 H fun σ2 H2=>te σ2 H2 N)
  (hq:∀ D,H D=none->Q (.ref D) (ar H D (.lst (xs.map f)))):eG J g qN te σ0 Q H:=by
 refine bA xs.length hn (fun i acc H'=>H' = H/\acc=(xs.take i).map f) ⟨rfl,rfl⟩ (fun i acc H' h=>by rw[h.2,length_map];exact length_take_le _ _) (fun i acc H' hi h=>?_) (fun acc H' h=>?_)
 ·obtain⟨rfl,rfl⟩:=h
  refine⟨hgo i hi,fun v H2 y=>?_⟩
  obtain⟨e,hx⟩:=hy i v H2 y
  subst e
  exact hs v (fun y H4=>H4=H2/\(xs.take i).map f ++ [y]=(xs.take (i + 1)).map f) (mem_of_getElem? hx) ⟨rfl,by rw[take_succ,hx,map_append];rfl⟩
 ·obtain⟨rfl,rfl⟩:=h
  rw[take_length]
  exact⟨y2,hq⟩
theorem ud {K:Frag}{a:Addr}{xs:List V}{g:TG}{te:TE}{σ0:St}{H:Hp}{Q:VK}(f:V->V)(hn:xs.length < sizeLine)(ha:ux K H a xs)(hs:∀ (x:V) (N:V->Hp->Prop),x ∈ xs->N (f x) H->g x σ0 H fun σ2 H2=>te σ2 H2 N)
  (hq:∀ D,H D=none->Q (.ref D) (ar H D (.lst (xs.map f)))):eG (sf K a) g qN te σ0 Q H :=
 lh f hn (fun i hi=>⟨xs,xs[i],ha,by simp[hi]⟩) ⟨xs,ha,le_refl _⟩ (fun i x H' y=>⟨y.1,y.2 xs ha⟩) hs hq
theorem uc {K:Frag}{a:Addr}{xs:List V}{g:TG}{te:TE}{σ0:St}{H:Hp}{Q:VK}(f:V->V)(hn:xs.length < sizeLine)(ha:uE K H a xs)(hs:∀ (x:V) (N:V->Hp->Prop),x ∈ xs->N (f x) H->g x σ0 H fun σ2 H2=>te σ2 H2 N)
  (hq:∀ D,H D=none->Q (.ref D) (ar H D (.lst (xs.map f)))):eG (DT K a) g qN te σ0 Q H :=
 lh f hn (fun i hi=>⟨xs,xs[i],ha,by simp[hi]⟩) ⟨xs,ha,le_refl _⟩ (fun i x H' y=>⟨y.1,y.2 xs ha⟩) hs hq
noncomputable def blank:Str:=⟨#[32]⟩
noncomputable def wT:V->Str
 | .str x=>x
 | .int i=>Str.ofString (toString i)
 | _=>Str.ofString "-"
inductive Wd:V->Prop
 | uB:Wd .uB
 | str (x:Str):Wd (.str x)
 | int (i:Int) (h:i.natAbs.log2 < 1920):Wd (.int i)
noncomputable def jx:Sp:=fun vs H Q _=>∃ x:Str,vs=[.str x]/\x.length <= 1000000/\(Txt.split x blank).length <= 1000000/\∀ D,H D=none->Q (.ref D) (ar H D (.lst ((Txt.split x blank).map V.str)))
noncomputable def eY:Sp:=fun vs H Q _=>∃ m:Nat,vs=[.str (aF m)]/\m < 10 ^ 60/\∀ H',uu H H'->Q (.int m) H'
noncomputable def fP:Sp:=fun vs H Q _=>∃ v:V,vs=[v]/\Wd v/\Q (.str (wT v)) H
noncomputable def gw (K:Frag):Sp:=fun vs H Q _=>∃ (a:Addr)(xs:List V),vs=[.ref a]/\(ux K H a xs∨uE K H a xs)/\(∀ v ∈ xs,Wd v)/\xs.length <= 1000/\(∀ v ∈ xs,(wT v).length <= 100)/\∀ H',uu H H'->Q (.str (Txt.join blank (xs.map wT))) H'
noncomputable def t5 (s:Stmt):Scope:=match s with
 | .If (.BoolOp _ [_,_, .UnaryOp _ (.Call _ [.ListComp _ _ sc _] _ _) _] _) _ _ _=>sc
 | _=>{ kind := .function,names:=[],isGenerator:=false,isCoroutine:=false }
noncomputable def EX (s:Stmt):Scope:=match s with
 | .Return (some (.Call _ [.ListComp _ _ sc _] _ _)) _=>sc
 | _=>{ kind := .function,names:=[],isGenerator:=false,isCoroutine:=false }
theorem EY (c:Nat)(h:48 <= c/\c <= 57):c ∈ (Str.ofString "0123456789").cps.toList:=by
 have e:(Str.ofString "0123456789").cps.toList=[48,49,50,51,52,53,54,55,56,57]:=by decide
 rw[e]
 have:c=48∨c=49∨c=50∨c=51∨c=52∨c=53∨c=54∨c=55∨c=56∨c=57:=by omega
 rcases this with rfl | rfl | rfl | rfl | rfl | rfl | rfl | rfl | rfl | rfl<;>decide
noncomputable def EZ:R2:=fun x y H Q=>∃ i j:Str,x = .str i/\y = .str j/\Q (.bl (!(Builtin.Str.occurrences j i 0 j.length 1).isEmpty)) H
theorem jI {m:Nat}(h:m < 10 ^ 60):(m:Int).natAbs.log2 < 1920:=by
 rw[natAbs_natCast]
 by_cases h0:m=0
 ·rw[h0];decide
 ·have h1:=Nat.log2_self_le h0
  refine Nat.lt_of_not_le fun h2=>?_
  have h3:2 ^ 1920 <= 2 ^ m.log2:=pow_le_pow_right (by decide) h2
  have h4:(10:Nat) ^ 60 <= 2 ^ 1920:=by
   have:(10:Nat) ^ 60 <= 16 ^ 60:=Nat.pow_le_pow_left (by decide) 60
   have e:(16:Nat) ^ 60=2 ^ 240:=by rw[show (16:Nat)=2 ^ 4 by decide,← Nat.pow_mul]
   have h5:(2:Nat) ^ 240 <= 2 ^ 1920:=pow_le_pow_right (by decide) (by decide)
   omega
  omega
theorem Fb:aw ["row"] ["row"] (ah lV):=L2.uU
theorem pP {f:Addr}{fd:FuncData}(F:uN K "words_of" "words_of" lV f fd):Z P w K mg base aD 1 f fd ["row"] jx:=by
 refine F.ok Fb (fun vs H Q E h=>?_) (fun uF A outer s H vs Q E hr h=>?_)
 ·obtain⟨x,rfl,_⟩:=h
  rfl
 ·obtain⟨x,rfl,h1,h2,q⟩:=h
  refine⟨_,ag (aA (dQ plainAttrs_str PySem.F.slot_str_split PySem.F.type_str_split kH (pv 0) (aa b7 ad))),?_⟩
  exact⟨_,rfl,rfl,x,blank,rfl,rfl,rfl,le_trans h1 (by decide),h2,q⟩
theorem Fc:aw ["thing"] ["thing"] (ah ib):=L2.uU
theorem m7 {f:Addr}{fd:FuncData}(F:uN K "written" "written" ib f fd)(T:Txt mg):Z P w K mg base aD 1 f fd ["thing"] fP:=by
 refine F.ok Fc (fun vs H Q E h=>?_) (fun uF A outer s H vs Q E hr h=>?_)
 ·obtain⟨v,rfl,_⟩:=h
  rfl
 ·obtain⟨v,rfl,hw,q⟩:=h
  refine⟨_,ag (aA (fz (az pO (pv 0) cF (aC _)) b7 (aZ (u7.or iS) rfl T.str PySem.Pv.boot_str (aa (pv 0) ad)))),?_⟩
  refine⟨_,rfl,rfl,_,rfl,?_⟩
  cases hw with
  | uB=>exact be q
  | str x=>exact aT ⟨_,rfl, .inr ⟨x,rfl,q⟩⟩
  | int i h=>exact aT ⟨_,rfl, .inl ⟨i,rfl,h,q⟩⟩
theorem Bw:aw ["word", "number"] ["word"] (ah fc):=L2.uU
theorem Fe:vd ["word", "number"] (ah fc) (t5 ((aL fc).getD 0 (.Pass ⟨0,0,0,0⟩))) [] []:=L2.vH
theorem Ff:(["sign"]:List Str).Nodup:=by decide +kernel
theorem oB {f:Addr}{fd:FuncData}{t1 t2:Tok}(F:uN K "number_of" "number_of" fc f fd)(T:Txt mg)(mf:mg "FIGURES" = some (.str (Str.ofString "0123456789") t1))(mm:mg "MOST_FIGURES" = some (.int 60 t2)):Z P w K mg base aD 1 f fd ["word"] eY:=by
 refine F.ok Bw (fun vs H Q E h=>?_) (fun uF A outer s H vs Q E hr h=>?_)
 ·obtain⟨m,rfl,_⟩:=h
  rfl
 ·obtain⟨m,rfl,Bx,q⟩:=h
  have hl:(aF m).length <= 60:=i5 (by decide) Bx
  refine⟨_,ae (b9 (PW.pt (iw (az n5 (aM jR rfl T.len PySem.boot_len (aa (pv 0) ad)) (dC (v := .int 60) rfl mm ⟨_,rfl⟩) (aC _)) (iw (cv (fq (pv 0) (fun _=>rfl))) (iu (cv (cC (aM (lr rfl) rfl T.all PyProof.Rows.boot_all (aa (bp (own:=["sign"]) (capN:=[]) (cap:=[]) Fe rfl (tj (pv 0))
     (fun C s' H' fp=>⟨ao (i:=0) Ff rfl (Or.inl rfl),cx,dD (show dI _ (compareOp .In) EZ from o7) (pv 0) (dC (v := .str (Str.ofString "0123456789")) rfl mf ⟨_,rfl⟩) (by with_unfolding_all rfl)⟩)) ad)))))))) (ag (aA cF)) aK)
   (ae (ay (i:=1) Bw.nd rfl (Or.inl rfl) (aZ iT rfl T.int PySem.Pv.boot_int (aa (pv 0) ad)))
   (ag (aA (fz (az bW (aZ u7 rfl T.str PySem.Pv.boot_str (aa (pv 1) ad)) (pv 0) (aC _)) (pv 1) cF)))),?_⟩
  have hsz:(aF m).length <= sizeLine:=le_trans hl (by decide)
  have By:0 < (aF m).length:=by
   have:=length_pos_iff.mpr (n8 m)
   rw[Array.length_toList]at this
   exact this
  refine⟨_,rfl,aF m,rfl,hsz,_,_,rfl,rfl,_,rfl,?_⟩
  rw[decide_eq_false (show ¬ (60:Int) < ((aF m).length:Nat) by omega)]
  refine aT ⟨_,rfl,_,⟨hsz,rfl⟩,?_⟩
  rw[show((((aF m).length:Nat):Int) != 0)=true by rw[bne_iff_ne];omega]
  refine aT ⟨_,rfl,aF m,rfl,?_⟩
  refine bA (aF m).cps.size (by rw[sizeLine_eq];show(aF m).length < _;omega) (fun i acc H'=>H' = H/\acc=(List.replicate i true).map V.bl) ⟨rfl,rfl⟩ (fun i acc H' h=>by rw[h.2];simp) (fun i acc H' hi h=>?_) (fun acc H' h=>?_)
  ·obtain⟨rfl,rfl⟩:=h
   refine⟨hi,fun v H2 y=>?_⟩
   obtain⟨rfl,c,hc,rfl⟩:=y
   have hm:c ∈ (aF m).cps.toList:=by rw[Array.mem_toList_iff];exact Array.mem_of_getElem? hc
   refine⟨_,rfl,_,_,rfl,rfl,?_⟩
   rw[StrLaws.found_one,decide_eq_true (EY c (dR m c hm))]
   exact⟨rfl,by rw[List.replicate_succ',map_append];rfl⟩
  obtain⟨rfl,rfl⟩:=h
  refine⟨le_refl _,fun D hD=>⟨D,List.replicate (aF m).cps.size true,rfl,ux.of ac,_,rfl,?_⟩⟩
  have s1:=(uu.refl H').new (o := .lst ((List.replicate (aF m).cps.size true).map V.bl)) hD
  have e:(List.replicate (aF m).cps.size true).all id=true:=by rw[List.all_eq_true];intro b hb;rw[List.eq_of_mem_replicate hb];rfl
  rw[e]
  generalize ar H' D (.lst ((List.replicate (aF m).cps.size true).map V.bl))=H1 at s1 ⊢
  refine aT ⟨_,rfl,aF m,(m:Int),rfl,mB (le_trans hl (by decide)),le_trans hl (by decide),?_⟩
  have Fg:(m:Int).natAbs.log2 < 1920:=jI Bx
  refine⟨_,rfl,(m:Int),rfl,Fg,_,rfl,rfl,_,rfl,?_⟩
  rw[decide_eq_true (show V.str (toString (m:Int))=V.str (aF m) from rfl)]
  exact be ⟨_,rfl,q H1 s1⟩
theorem Fi:aw ["things"] ["things"] (ah ij):=L2.uU
theorem Fj:vd ["things"] (ah ij) (EX ((aL ij).getD 0 (.Pass ⟨0,0,0,0⟩))) [] []:=L2.vH
theorem Fm:(["thing"]:List Str).Nodup:=by decide +kernel
theorem pR {f fw:Addr}{fd dw:FuncData}(F:uN K "row_of" "row_of" ij f fd)(mw:mg "written" = some (.ref fw))(kw:keepIn K (.ref fw)=true)(bw:Binds K dw ["thing"] [])(Gw:Z P w K mg base aD 1 fw dw ["thing"] fP):Z P w K mg base aD 2 f fd ["things"] (gw K):=by
 refine F.ok Fi (fun vs H Q E h=>?_) (fun uF A outer s H vs Q E hr h=>?_)
 ·obtain⟨a,xs,rfl,_⟩:=h
  rfl
 ·obtain⟨a,xs,rfl,hq,hw,hl,hlen,q⟩:=h
  refine⟨_,ag (aA (dQ plainAttrs_str PySem.F.slot_str_join PySem.F.type_str_join nA b7 (aa (bp (own:=["thing"]) (capN:=[]) (cap:=[]) Fj rfl (Bv (aI (pv 0)) (pI (pv 0)))
   (fun C s' H' fp=>⟨ao (i:=0) Fm rfl (Or.inl rfl),cx,ap Gw hr rfl mw kw bw .nil au (aa (pv 0) ad)⟩)) ad))),?_⟩
  have fin:∀ D,H D=none->sj K (.str blank) [.ref D] (ar H D (.lst (xs.map fun v=>V.str (wT v)))) (fun v H'=>Q v H'):=fun D hD=>by
   have s1:=(uu.refl H).new (o := .lst (xs.map fun v=>V.str (wT v))) hD
   refine⟨blank,D,xs.map wT,rfl,rfl,ux.of (by rw[ac,map_map];rfl),?_,q _ s1⟩
   have h1:((xs.map wT).map (·.length)).sum <= (xs.map wT).length * 100:=StrLaws.sumLen_le _ fun y hy=>by obtain⟨v,hv,rfl⟩:=mem_map.mp hy;exact hlen v hv
   rw[length_map]at h1 ⊢
   show _ + xs.length * 1 <= _
   omega
  refine⟨rfl,?_⟩
  rcases hq with hq | hq
  ·exact .inl ⟨_,rfl,a,rfl,⟨_,hq⟩,ud (fun v => .str (wT v)) (by rw[sizeLine_eq];omega) hq (fun x N hx h=>⟨_,rfl,x,rfl,hw x hx,h⟩) fin⟩
  ·exact .inr ⟨_,rfl,a,rfl,⟨_,hq⟩,uc (fun v => .str (wT v)) (by rw[sizeLine_eq];omega) hq (fun x N hx h=>⟨_,rfl,x,rfl,hw x hx,h⟩) fin⟩
noncomputable def aV (wy:aS->Nat)(p g:Nat)(c:Option Nat):List Str:=if (bS (wy (aq ⟨(p:Int),(g:Int),c,[]⟩))).isEmpty then [] else [Txt.join blank (([.str (Str.ofString "way"), .int p, .int g,cV c] ++ bS (wy (aq ⟨(p:Int),(g:Int),c,[]⟩))).map wT)]
noncomputable def mP (ps:List (Int × Int))(p:Nat):List V:=[V.uB] ++ e7 Prod.snd ps p ps.length
noncomputable def uk (wy:aS->Nat):Prop:=∀ k,(bS (wy k)).length <= 40/\∀ v ∈ bS (wy k),Wd v/\(wT v).length <= 10
noncomputable def lB (i:Int):Prop:=Wd (.int i)/\(wT (.int i)).length <= 10
noncomputable def cQ (c:Cs)(C:Addr)(J:gr):Sp:=fun vs H Q _=>∃ (x dx lx u4 lt:Addr)(fs:List (Str × V))(n:Nat)(uz:List V)(ps:List (Int × Int))(wy:aS->Nat)(p g:Nat)(cs:List (Option Nat)),vs=[.ref x, .int p, .int g]/\J H x wy/\H x=some (.ins C dx fs)/\fs.lookup ("land":Str)=some (.ref lx)/\bL H c lx u4 lt n uz ps/\ps.length <= 40/\uk wy/\lB p/\lB g/\mP ps p=cs.map cV/\cs.length <= 41/\(∀ k,some k ∈ cs->lB k) /\
 ∀ (D:Addr)(H':Hp),uu H H'->H D=none->H' D=some (.lst ((cs.flatMap (aV wy p g)).map V.str))->Q (.ref D) H'
abbrev NWr:List Str:=["table", "place", "goal", "rows", "came", "ways"]
theorem kL {α β:Type}(f:α->β)(l:List α)(a:α):l.map f ++ [f a]=(l ++ [a]).map f:=by rw[map_append];rfl
theorem wV:aw NWr ["table", "place", "goal"] (ah ig):=L2.uU
theorem eN {c:Cs}{J:gr}{C f fw fi fr:Addr}{fd dw di dr:FuncData}(F:uN K "way_rows" "way_rows" ig f fd)(T:Txt mg)(L:oU K c)(W:lE K C fw dw J)(nl:uA K C "land")(Gw:Z P w K mg base aD 3 fw dw ["self", "place", "goal", "came"] (bU J))
  (mi:jT K c.land "into" fi) (bi:Binds K di ["self", "place"] []) (Gi:Z P w K mg base aD 1 fi di ["self", "place"] (lS c Prod.snd)) (mr:mg "row_of" = some (.ref fr)) (kr:keepIn K (.ref fr)=true) (br:Binds K dr ["things"] []) (Gr:Z P w K mg base aD 2 fr dr ["things"] (gw K)) :
  Z P w K mg base aD 4 f fd ["table", "place", "goal"] (cQ c C J):=by
 refine F.ok wV (fun vs H Q E h=>?_) (fun uF A outer s H vs Q E hr h=>?_)
 ·obtain⟨x,dx,lx,u4,lt,fs,n,uz,ps,wy,p,g,cs,rfl,_⟩:=h
  rfl
 ·obtain⟨x,dx,lx,u4,lt,fs,n,uz,ps,wy,p,g,cs,rfl,hJ,hx,hf,hL,uK,zR,hp,hg,Ii,wd,C8,q⟩:=h
  have vo:u5 1 _:=hr.mono (by decide)
  have vQ:u5 2 _:=hr.mono (by decide)
  refine⟨_,ae (ay (i:=3) wV.nd rfl (Or.inl rfl) (bE ad))
   (ae (bg PassesOwn.never rfl (aI (ax jC (bE (aa cF ad)) (bz (aH (pv 0) rfl) L.cl mi Gi vo bi .nil au (aa (pv 1) ad)))) (ao (i:=4) wV.nd rfl (Or.inl rfl))
    (ae (ay (i:=5) wV.nd rfl (Or.inl rfl) (bz (pv 0) W.cl W.m Gw hr W.b .nil au (aa (pv 1) (aa (pv 2) (aa (pv 4) ad)))))
    (ag (b9 (fq (pv 5) (fun _=>rfl)) (ag (cy (dQ plainAttrs_list PySem.F.slot_list_append PySem.F.type_list_append el (pv 3) (aa (ap Gr vQ rfl mr kr br .nil au (aa (ax jC (bE (aa b7 (aa (pv 1) (aa (pv 2) (aa (pv 4) ad))))) (pv 5)) ad)) ad)))) aK))))
   (ag (aA (pv 3)))),?_⟩
  obtain⟨EW,y0,vm,ym⟩:=W.inst _ _ _ hJ
  rw[hx]at vm
  injection vm with vm
  injection vm with _ e1 e2
  subst e1 e2
  refine⟨zero_le _,fun D hD=>?_⟩
  have s0:=(uu.refl H).new (o := .lst []) hD
  have g0:(ar H D (.lst [])) D=some (.lst []):=ac
  show cX 3 (V.ref D) _ (ar H D (.lst [])) _
  generalize ar H D (.lst [])=H0 at s0 g0 ⊢
  refine⟨by show 1 <= sizeLine;decide,fun o1 zS=>?_⟩
  have s1:=s0.new (o := .lst [.uB]) zS
  have g1:(ar H0 o1 (.lst [.uB])) o1=some (.lst [.uB]):=ac
  have C9:(ar H0 o1 (.lst [.uB])) D=some (.lst []):=by rw[ak (am g0 zS)];exact g0
  generalize ar H0 o1 (.lst [.uB])=H1 at s1 g1 C9 ⊢
  have zT:bL H1 c lx u4 lt n uz ps:=⟨s1 _ _ hL.1,s1 _ _ hL.2.1,uD.same s1 hL.2.2⟩
  refine⟨_,rfl,x,C,dx,fs,_,rfl,s1 _ _ hx,W.cl,nl,hf,lx,u4,_,rfl,zT.1,rfl,_,rfl,lx,u4,lt,(n:Int),uz,ps,(p:Int),rfl,zT,by omega,fun H2 o2 s2 wB=>?_⟩
  have u2:=s2.new (o := .lst (e7 Prod.snd ps p ps.length)) wB
  have g2:(ar H2 o2 (.lst (e7 Prod.snd ps p ps.length))) o2=some (.lst (e7 Prod.snd ps p ps.length)):=ac
  generalize ar H2 o2 (.lst (e7 Prod.snd ps p ps.length))=H3 at u2 g2 ⊢
  have hcl2:([V.uB] ++ e7 Prod.snd ps p ps.length).length <= 41:=by
   have:[V.uB] ++ e7 Prod.snd ps p ps.length=cs.map cV:=Ii
   rw[this,length_map];exact wd
  refine⟨o1,o2,_,_,rfl,rfl,u2 _ _ g1,g2,by rw[← length_append,sizeLine_eq];omega,fun Cm zU=>?_⟩
  rw[show [V.uB] ++ e7 Prod.snd ps p ps.length=cs.map cV from Ii]
  have u3:=(s1.trans u2).new (o := .lst (cs.map cV)) zU
  have g3:(ar H3 Cm (.lst (cs.map cV))) Cm=some (.lst (cs.map cV)):=ac
  have Ij:(ar H3 Cm (.lst (cs.map cV))) D=some (.lst []):=by rw[ak (am (u2 _ _ C9) zU)];exact u2 _ _ C9
  have nCD:Cm ≠ D:=Ne.symm (am (u2 _ _ C9) zU)
  generalize ar H3 Cm (.lst (cs.map cV))=H4 at u3 g3 Ij ⊢
  refine⟨Cm,rfl,⟨_,ux.of g3⟩,?_⟩
  refine bJ (K:=K) (a:=Cm) (xs:=cs.map cV) (fun i σ H5=>∃ a4 a5:Option V,uu H H5/\H5 D=some (.lst (((cs.take i).flatMap (aV wy p g)).map V.str))/\H5 Cm=some (.lst (cs.map cV))/\((cs.take i).flatMap (aV wy p g)).length <= i/\σ=[some (.ref x),some (.int p),some (.int g),some (.ref D),a4,a5])
   ⟨none,none,u3,Ij,g3,le_refl _,rfl⟩ (fun i σ H5 _ uw=>by obtain⟨_,_,_,_,g,_⟩:=uw;exact ux.of g) ?_ ?_
  rotate_left
  ·rintro σ H5 ⟨a4,a5,s5,g5,_,_,rfl⟩
   rw[length_map,take_length]at g5
   exact⟨_,rfl,q D H5 s5 hD g5⟩
  rintro i v σ H5 hv ⟨a4,a5,s5,Fn,Ik,Il,rfl⟩
  have hi:i < cs.length:=by have:=(List.getElem?_eq_some_iff.mp hv).1;rw[length_map]at this;exact this
  have CA:=List.getElem?_eq_getElem hi
  rw[List.getElem?_map,CA]at hv
  cases hv
  have we:cs[i] ∈ cs:=getElem_mem hi
  have vj:(cs.take (i + 1)).flatMap (aV wy p g)=(cs.take i).flatMap (aV wy p g) ++ aV wy p g cs[i]:=by
   rw[take_succ,CA,flatMap_append]
   show _ ++ (aV wy p g cs[i] ++ [])=_
   rw[append_nil]
  generalize cs[i]=cc at we vj
  refine⟨_,rfl,x,dx,fs,rfl,s5 _ _ hx,ym,_,rfl,_,rfl,_,rfl,x,wy,⟨(p:Int),(g:Int),cc,[]⟩,rfl,W.vi _ _ _ _ hJ s5,fun H6 o6 s6 ho6=>?_⟩
  have u6:=s6.new (o := .lst (bS (wy (aq ⟨(p:Int),(g:Int),cc,[]⟩)))) ho6
  have g6:(ar H6 o6 (.lst (bS (wy (aq ⟨(p:Int),(g:Int),cc,[]⟩))))) o6=some (.lst (bS (wy (aq ⟨(p:Int),(g:Int),cc,[]⟩)))):=ac
  show cX 5 (V.ref o6) _ (ar H6 o6 (.lst (bS (wy (aq ⟨(p:Int),(g:Int),cc,[]⟩))))) _
  generalize ar H6 o6 (.lst (bS (wy (aq ⟨(p:Int),(g:Int),cc,[]⟩))))=H7 at u6 g6 ⊢
  obtain⟨CB,Im⟩:=zR (aq ⟨(p:Int),(g:Int),cc,[]⟩)
  have hwr:aV wy p g cc=if (bS (wy (aq ⟨(p:Int),(g:Int),cc,[]⟩))).isEmpty then [] else [Txt.join blank (([.str (Str.ofString "way"), .int p, .int g,cV cc] ++ bS (wy (aq ⟨(p:Int),(g:Int),cc,[]⟩))).map wT)]:=rfl
  rw[hwr]at vj
  generalize hme:bS (wy (aq ⟨(p:Int),(g:Int),cc,[]⟩))=ms at g6 CB Im vj
  refine⟨_,rfl,_, .inl ⟨_,ux.of g6,rfl⟩,?_⟩
  have s7:=s5.trans u6
  cases hb:ms.isEmpty with
  | true =>
   rw[hb,if_pos rfl,append_nil]at vj
   exact aT ⟨_,_,s7,by rw[vj];exact u6 _ _ Fn,u6 _ _ Ik,by rw[vj];omega,rfl⟩
  | false =>
   rw[hb,if_neg (by decide)]at vj
   refine be ⟨_,rfl, .inl ⟨rfl,_,ux.of (u6 _ _ Fn)⟩,_,rfl,_,rfl,_,rfl,by show 4 <= sizeLine;decide,fun e8 CC=>?_⟩
   have u8:=u6.new (o := .lst [.str (Str.ofString "way"), .int (p:Int), .int (g:Int),cV cc]) CC
   have g8:(ar H7 e8 (.lst [.str (Str.ofString "way"), .int (p:Int), .int (g:Int),cV cc])) e8=some (.lst [.str (Str.ofString "way"), .int (p:Int), .int (g:Int),cV cc]):=ac
   have Io:(ar H7 e8 (.lst [.str (Str.ofString "way"), .int (p:Int), .int (g:Int),cV cc])) o6=some (.lst ms):=by rw[ak (am g6 CC)];exact g6
   generalize ar H7 e8 (.lst [.str (Str.ofString "way"), .int (p:Int), .int (g:Int),cV cc])=H8 at u8 g8 Io ⊢
   refine⟨_,rfl,e8,o6,_,_,rfl,rfl,g8,Io,by rw[sizeLine_eq];show 4 + ms.length <= _;omega,fun th hth=>?_⟩
   have u9:=u8.new (o := .lst ([.str (Str.ofString "way"), .int (p:Int), .int (g:Int),cV cc] ++ ms)) hth
   have g9:(ar H8 th (.lst ([.str (Str.ofString "way"), .int (p:Int), .int (g:Int),cV cc] ++ ms))) th=some (.lst ([.str (Str.ofString "way"), .int (p:Int), .int (g:Int),cV cc] ++ ms)):=ac
   generalize ar H8 th (.lst ([.str (Str.ofString "way"), .int (p:Int), .int (g:Int),cV cc] ++ ms))=H9 at u9 g9 ⊢
   have vv:∀ v ∈ [V.str (Str.ofString "way"), .int (p:Int), .int (g:Int),cV cc] ++ ms,Wd v/\(wT v).length <= 10:=fun v hv=>by
    rcases mem_append.mp hv with hv | hv
    ·simp only[mem_cons,not_mem_nil,or_false]at hv
     rcases hv with rfl | rfl | rfl | rfl
     ·exact⟨.str _,by decide⟩
     ·exact hp
     ·exact hg
     ·cases hcc:cc with
      | none=>exact⟨.uB,by decide⟩
      | some k=>rw[hcc]at we;exact C8 k we
    ·exact Im v hv
   refine⟨th,_,rfl, .inl (ux.of g9),(fun v hv=>(vv v hv).1),by rw[length_append];show 4 + ms.length <= 1000;omega,(fun v hv=>le_trans (vv v hv).2 (by decide)),fun wA xn=>?_⟩
   have Fo:=u9.trans xn
   refine⟨D,_,_,rfl,rfl,Fo _ _ Fn,by rw[length_map,sizeLine_eq];omega,?_⟩
   refine⟨_,_,(fun b o e=>by rw[ak (am e hD)];exact Fo _ _ (s5 _ _ e)),?_,by rw[ak nCD];exact Fo _ _ Ik,by rw[vj,length_append,length_singleton];omega,rfl⟩
   rw[ac,vj]
   exact congrArg (fun z=>some (HO.lst z)) (kL V.str _ _)
noncomputable def ce (ps:List (Int × Int))(p:Nat):List (Option Nat):=none :: ((List.range ps.length).filter fun k=>decide (Prod.snd (ps.getD k (0,0))=(p:Int))).map some
theorem q0 (ps:List (Int × Int))(p:Nat):mP ps p=(ce ps p).map cV:=by
 unfold mP ce e7
 rw[map_cons,map_map]
 rfl
theorem cj (ps:List (Int × Int))(p:Nat):(ce ps p).length <= ps.length + 1/\∀ k,some k ∈ ce ps p->k < ps.length:=by
 constructor
 ·unfold ce
  rw[length_cons,length_map]
  have:=length_filter_le (fun k=>decide (Prod.snd (ps.getD k (0,0))=(p:Int))) (List.range ps.length)
  rw[length_range]at this
  omega
 ·intro k hk
  rcases mem_cons.mp hk with h | h
  ·cases h
  ·obtain⟨j,hj,e⟩:=mem_map.mp h
   cases e
   exact mem_range.mp (mem_filter.mp hj).1
theorem bX {k:Nat}(h:k < 10 ^ 10):lB k:=by
 refine⟨.int _ (jI (lt_trans h (by decide))),?_⟩
 have:=i5 (m:=k) (k:=10) (by decide) h
 exact this
noncomputable def b0 (pr:Int × Int):Str:=Txt.join blank ([V.str (Str.ofString "lane"), .int pr.1, .int pr.2].map wT)
noncomputable def cr (ps:List (Int × Int))(wy:aS->Nat)(n p m:Nat):List Str:=(List.range m).flatMap fun g=>(ce ps p).flatMap (aV wy p g)
noncomputable def aQ (n:Nat)(ps:List (Int × Int))(wy:aS->Nat):List Str:=[Txt.join blank ([V.str (Str.ofString "places"), .int n].map wT)] ++ ps.map b0 ++ (List.range n).flatMap fun p=>cr ps wy n p n
noncomputable def cR (c:Cs)(C:Addr)(J:gr):Sp:=fun vs H Q _=>∃ (x dx lx u4 lt:Addr)(fs:List (Str × V))(n:Nat)(uz:List V)(ps:List (Int × Int))(wy:aS->Nat),vs=[.ref x]/\J H x wy/\H x=some (.ins C dx fs)/\fs.lookup ("land":Str)=some (.ref lx)/\bL H c lx u4 lt n uz ps/\n <= 12/\ps.length <= 40/\(∀ pr ∈ ps,∃ a b:Nat,pr=((a:Int),(b:Int))/\a < 12/\b < 12)/\uk wy /\
 ∀ (D:Addr)(H':Hp),uu H H'->H D=none->H' D=some (.lst ((aQ n ps wy).map V.str))->Q (.ref D) H'
abbrev Ip:List Str:=["table", "land", "rows", "place", "goal"]
theorem xG:aw Ip ["table"] (ah dJ):=L2.uU
noncomputable def Fp (s:Stmt):Scope:=match s with
 | .Expr (.Call _ [.ListComp _ _ sc _] _ _) _=>sc
 | _=>{ kind := .function,names:=[],isGenerator:=false,isCoroutine:=false }
theorem Fq:vd Ip (ah dJ) (Fp ((aL dJ).getD 2 (.Pass ⟨0,0,0,0⟩))) [] []:=L2.vH
theorem Fs:(["pair"]:List Str).Nodup:=by decide +kernel
theorem eP {c:Cs}{J:gr}{C f fw fr fv:Addr}{fd dw dr dv:FuncData}(F:uN K "table_rows" "table_rows" dJ f fd)(T:Txt mg)(L:oU K c)(W:lE K C fw dw J)(nl:uA K C "land")
  (mr:mg "row_of" = some (.ref fr)) (kr:keepIn K (.ref fr)=true) (br:Binds K dr ["things"] []) (Gr:Z P w K mg base aD 2 fr dr ["things"] (gw K)) (mv:mg "way_rows" = some (.ref fv)) (kv:keepIn K (.ref fv)=true) (bv:Binds K dv ["table", "place", "goal"] []) (Gv:Z P w K mg base aD 4 fv dv ["table", "place", "goal"] (cQ c C J)) :
  Z P w K mg base aD 5 f fd ["table"] (cR c C J):=by
 refine F.ok xG (fun vs H Q E h=>?_) (fun uF A outer s H vs Q E hr h=>?_)
 ·obtain⟨x,dx,lx,u4,lt,fs,n,uz,ps,wy,rfl,_⟩:=h
  rfl
 ·obtain⟨x,dx,lx,u4,lt,fs,n,uz,ps,wy,rfl,hJ,hx,hf,hL,hn,uK,vf,zR,q⟩:=h
  have vQ:u5 2 _:=hr.mono (by decide)
  refine⟨_,ae (ay (i:=1) xG.nd rfl (Or.inl rfl) (aH (pv 0) rfl))
   (ae (ay (i:=2) xG.nd rfl (Or.inl rfl) (bE (aa (ap Gr vQ rfl mr kr br .nil au (aa (cg (aa b7 (aa (aH (pv 1) rfl) ad))) ad)) ad)))
   (ae (cy (dQ plainAttrs_list slot_list_extend type_list_extend fW (pv 2) (aa (bp (own:=["pair"]) (capN:=[]) (cap:=[]) Fq rfl (pI (aH (pv 1) rfl))
    (fun C s' H' fp=>⟨ao (i:=0) Fs rfl (Or.inl rfl),cx,ap Gr vQ rfl mr kr br .nil au (aa (cg (aa b7 (aa (aJ (show jq _ (ir K) from aW) (pv 0) aj (fun _ _=>rfl)) (aa (aJ (show jq _ (ir K) from aW) (pv 0) aj (fun _ _=>rfl)) ad)))) ad)⟩)) ad)))
   (ae (bg PassesOwn.never rfl (aY rfl T.range (aa (aH (pv 1) rfl) ad)) (ao (i:=3) xG.nd rfl (Or.inl rfl))
    (ag (bg PassesOwn.never rfl (aY rfl T.range (aa (aH (pv 1) rfl) ad)) (ao (i:=4) xG.nd rfl (Or.inl rfl))
     (ag (cy (dQ plainAttrs_list slot_list_extend type_list_extend fW (pv 2) (aa (ap Gv hr rfl mv kv bv .nil au (aa (pv 0) (aa (pv 3) (aa (pv 4) ad)))) ad)))))))
   (ag (aA (pv 2)))))),?_⟩
  refine⟨_,rfl,x,C,dx,fs,_,rfl,hx,W.cl,nl,hf,?_⟩
  refine⟨_,rfl,lx,c.land,u4,_,_,rfl,hL.1,L.cl,L.np,rfl,by show 2 <= sizeLine;decide,fun t1 ht1=>?_⟩
  have s1:=(uu.refl H).new (o := .tup [.str (Str.ofString "places"), .int (n:Int)]) ht1
  have g1:(ar H t1 (.tup [.str (Str.ofString "places"), .int (n:Int)])) t1=some (.tup [.str (Str.ofString "places"), .int (n:Int)]):=ac
  generalize ar H t1 (.tup [.str (Str.ofString "places"), .int (n:Int)])=H1 at s1 g1 ⊢
  have w1:∀ v ∈ [V.str (Str.ofString "places"), .int (n:Int)],Wd v/\(wT v).length <= 10:=fun v hv=>by
   simp only[mem_cons,not_mem_nil,or_false]at hv
   rcases hv with rfl | rfl
   ·exact⟨.str _,by decide⟩
   ·exact bX (lt_of_le_of_lt hn (by decide))
  refine⟨t1,_,rfl, .inr (uE.of g1),(fun v hv=>(w1 v hv).1),by show 2 <= 1000;decide,(fun v hv=>le_trans (w1 v hv).2 (by decide)),fun H2 s2=>⟨by show 1 <= sizeLine;decide,fun D hD=>?_⟩⟩
  have Iq:=s1.trans s2
  have yj:H D=none:=Iq.free hD
  have s3:=Iq.new (o := .lst [.str (Txt.join blank ([V.str (Str.ofString "places"), .int n].map wT))]) hD
  have g3:(ar H2 D (.lst [.str (Txt.join blank ([V.str (Str.ofString "places"), .int n].map wT))])) D=some (.lst ([Txt.join blank ([V.str (Str.ofString "places"), .int n].map wT)].map V.str)):=ac
  show cX 2 (V.ref D) _ (ar H2 D (.lst [.str (Txt.join blank ([V.str (Str.ofString "places"), .int n].map wT))])) _
  generalize ar H2 D (.lst [.str (Txt.join blank ([V.str (Str.ofString "places"), .int n].map wT))])=H3 at s3 g3 ⊢
  have wW:uz.length=ps.length:=Paired.length hL.2.2
  refine⟨_,rfl, .inl ⟨rfl,_,ux.of g3⟩,_,rfl,lx,c.land,u4,_,_,rfl,s3 _ _ hL.1,L.cl,L.nl,rfl,lt,rfl,⟨_,uE.of (s3 _ _ hL.2.1)⟩,?_⟩
  refine bA ps.length (by rw[sizeLine_eq];omega) (fun i acc H'=>uu H3 H'/\acc=((ps.take i).map b0).map V.str) ⟨uu.refl _,rfl⟩ (fun i acc H' h=>by rw[h.2,length_map,length_map];exact length_take_le _ _) (fun i acc H' hi h=>?_) (fun acc H' h=>?_)
  ·obtain⟨s4,rfl⟩:=h
   have Bz:=List.getElem?_eq_getElem hi
   have Ft:=s3.trans s4
   obtain⟨v,hv,u,rfl,gu⟩:=uD.ze (uD.same Ft hL.2.2) Bz
   refine⟨⟨_,_,uE.of (Ft _ _ hL.2.1),hv⟩,fun v' H5 y=>?_⟩
   obtain⟨rfl,y⟩:=y
   have vG:=y _ (uE.of (Ft _ _ hL.2.1))
   rw[hv]at vG
   cases vG
   obtain⟨a,b,zj,ha,hb⟩:=vf _ (getElem_mem hi)
   have vj:ps.take (i + 1)=ps.take i ++ [ps[i]]:=by rw[take_succ,Bz];rfl
   generalize ps[i]=pr at zj gu vj
   subst zj
   refine⟨_,rfl,u,_,0,_,rfl,rfl,uE.of gu,aB (j:=0) rfl,_,rfl,u,_,1,_,rfl,rfl,uE.of gu,aB (j:=1) rfl,by show 3 <= sizeLine;decide,fun t6 ht6=>?_⟩
   have s6:=(uu.refl H5).new (o := .tup [.str (Str.ofString "lane"), .int (a:Int), .int (b:Int)]) ht6
   have g6:(ar H5 t6 (.tup [.str (Str.ofString "lane"), .int (a:Int), .int (b:Int)])) t6=some (.tup [.str (Str.ofString "lane"), .int (a:Int), .int (b:Int)]):=ac
   have w6:∀ v ∈ [V.str (Str.ofString "lane"), .int (a:Int), .int (b:Int)],Wd v/\(wT v).length <= 10:=fun v hv=>by
    simp only[mem_cons,not_mem_nil,or_false]at hv
    rcases hv with rfl | rfl | rfl
    ·exact⟨.str _,by decide⟩
    ·exact bX (lt_trans ha (by decide))
    ·exact bX (lt_trans hb (by decide))
   refine⟨t6,_,rfl, .inr (uE.of g6),(fun v hv=>(w6 v hv).1),by show 3 <= 1000;decide,(fun v hv=>le_trans (w6 v hv).2 (by decide)),fun H7 s7=>⟨s4.trans (s6.trans s7),?_⟩⟩
   rw[vj,map_append]
   exact kL V.str _ _
  obtain⟨s4,rfl⟩:=h
  rw[take_length]
  refine⟨⟨_,uE.of ((s3.trans s4) _ _ hL.2.1),by omega⟩,fun D2 xf=>?_⟩
  have s5:=s4.new (o := .lst ((ps.map b0).map V.str)) xf
  have g5:(ar H' D2 (.lst ((ps.map b0).map V.str))) D2=some (.lst ((ps.map b0).map V.str)):=ac
  generalize ar H' D2 (.lst ((ps.map b0).map V.str))=H5 at s5 g5 ⊢
  refine⟨D,D2,_,_,rfl,rfl,s5 _ _ g3,g5,by rw[length_map,length_map,length_map,sizeLine_eq];show 1 + ps.length <= _;omega,?_⟩
  rw[← map_append]
  have s6:uu H (ar H5 D (.lst (([Txt.join blank ([V.str (Str.ofString "places"), .int n].map wT)] ++ ps.map b0).map V.str))):=fun b o e=>by rw[ak (am e yj)];exact s5 _ _ (s3 _ _ e)
  have g6:(ar H5 D (.lst (([Txt.join blank ([V.str (Str.ofString "places"), .int n].map wT)] ++ ps.map b0).map V.str))) D=some (.lst (([Txt.join blank ([V.str (Str.ofString "places"), .int n].map wT)] ++ ps.map b0).map V.str)):=ac
  have l6:([Txt.join blank ([V.str (Str.ofString "places"), .int n].map wT)] ++ ps.map b0).length <= 41:=by rw[length_append,length_map];show 1 + ps.length <= 41;omega
  unfold aQ at q
  generalize [Txt.join blank ([V.str (Str.ofString "places"), .int n].map wT)] ++ ps.map b0=hd at s6 g6 l6 q
  generalize ar H5 D (.lst (hd.map V.str))=H6 at s6 g6 ⊢
  have xR:∀ p g cc,(aV wy p g cc).length <= 1:=fun p g cc=>by unfold aV;split<;>simp
  have hfl:∀ p g,((ce ps p).flatMap (aV wy p g)).length <= 41:=fun p g=>by
   have:∀ l:List (Option Nat),(l.flatMap (aV wy p g)).length <= l.length:=fun l=>by
    induction l with
    | nil=>exact le_refl _
    | cons a l ih=>rw[flatMap_cons,length_append,length_cons];have:=xR p g a;omega
   have h1:=this (ce ps p)
   have h2:=(cj ps p).1
   omega
  refine⟨_,rfl,lx,c.land,u4,_,_,rfl,s6 _ _ hL.1,L.cl,L.np,rfl,(n:Int),rfl,by omega,by omega,?_⟩
  rw[toNat_natCast]
  refine bO (n:=n) (fun i σ H2=>∃ a3 a4:Option V,uu H H2/\H2 D=some (.lst ((hd ++ (List.range i).flatMap fun p=>cr ps wy n p n).map V.str))/\(hd ++ (List.range i).flatMap fun p=>cr ps wy n p n).length <= 41 + i * (12 * 41)/\σ=[some (.ref x),some (.ref lx),some (.ref D),a3,a4])
   ⟨none,none,s6,by simpa using g6,by simpa using l6,rfl⟩ ?_ ?_
  rotate_left
  ·rintro σ H7 ⟨a3,a4,s7,g7,_,rfl⟩
   exact⟨_,rfl,q D H7 s7 yj g7⟩
  rintro i σ H7 hi ⟨a3,a4,s7,g7,l7,rfl⟩
  rw[zero_add]
  refine⟨_,rfl,lx,c.land,u4,_,_,rfl,s7 _ _ hL.1,L.cl,L.np,rfl,(n:Int),rfl,by omega,by omega,?_⟩
  rw[toNat_natCast]
  refine bO (n:=n) (fun j σ H2=>∃ a4:Option V,uu H H2/\H2 D=some (.lst (((hd ++ (List.range i).flatMap fun p=>cr ps wy n p n) ++ cr ps wy n i j).map V.str))/\((hd ++ (List.range i).flatMap fun p=>cr ps wy n p n) ++ cr ps wy n i j).length <= 41 + i * (12 * 41) + j * 41/\σ=[some (.ref x),some (.ref lx),some (.ref D),some (.int (i:Int)),a4])
   ⟨_,s7,by simpa [cr] using g7,by simpa [cr] using l7,rfl⟩ ?_ ?_
  rotate_left
  ·rintro σ H8 ⟨a4,s8,g8,l8,rfl⟩
   refine⟨_,_,s8,?_,?_,rfl⟩
   ·rw[range_succ,flatMap_append,← append_assoc]
    simpa using g8
   ·rw[range_succ,flatMap_append,← append_assoc]
    simp only[flatMap_cons,List.flatMap_nil,append_nil]
    omega
  rintro j σ H8 hj ⟨a4,s8,g8,l8,rfl⟩
  rw[zero_add]
  have hbd:41 + i * (12 * 41) + j * 41 <= 41 + 12 * (12 * 41) + 12 * 41:=by
   have:=mul_le_mul_right (12 * 41) (show i <= 12 by omega)
   omega
  refine⟨_,rfl, .inl ⟨rfl,_,ux.of g8⟩,_,rfl,_,rfl,_,rfl,x,dx,lx,u4,lt,fs,n,uz,ps,wy,i,j,ce ps i,rfl,W.vi _ _ _ _ hJ s8,s8 _ _ hx,hf,⟨s8 _ _ hL.1,s8 _ _ hL.2.1,uD.same s8 hL.2.2⟩,uK,zR,bX (lt_of_lt_of_le hi (le_trans hn (by decide))),bX (lt_of_lt_of_le hj (le_trans hn (by decide))),q0 ps i,by have:=(cj ps i).1;omega,(fun k hk=>bX (lt_of_lt_of_le ((cj ps i).2 k hk) (le_trans uK (by decide)))),fun D9 H9 s9 hD9 g9=>?_⟩
  have h41:=hfl i j
  refine⟨D,D9,_,_,rfl,rfl,s9 _ _ g8,g9,by rw[length_map,length_map,sizeLine_eq];omega,?_⟩
  have er:cr ps wy n i (j + 1)=cr ps wy n i j ++ (ce ps i).flatMap (aV wy i j):=by unfold cr;rw[range_succ,flatMap_append];simp
  refine⟨_,(fun b o e=>by rw[ak (am e yj)];exact s9 _ _ (s8 _ _ e)),?_,?_,rfl⟩
  ·rw[ac,er,← append_assoc,map_append (l₂:=(ce ps i).flatMap (aV wy i j))]
  ·rw[er,← append_assoc,length_append]
   omega
noncomputable def newline:Str:=⟨#[10]⟩
theorem gM {α β:Type}{f:α->List β}{B:Nat}:∀ {l:List α},(∀ a ∈ l,(f a).length <= B)->(l.flatMap f).length <= l.length * B
 | [],_=>zero_le _
 | a :: l,h=>by
  rw[flatMap_cons,length_append,length_cons,Nat.add_mul,Nat.one_mul]
  have h1:=h a mem_cons_self
  have h2:=gM (l:=l) fun b hb=>h b (mem_cons_of_mem _ hb)
  omega
theorem iC {xs:List V}{B:Nat}(h:∀ v ∈ xs,(wT v).length <= 10)(hl:xs.length <= B):(Txt.join blank (xs.map wT)).length <= B * 11:=by
 have e:Txt.join blank (xs.map wT)=Str.join blank (xs.map wT):=StrLaws.glued_eq_join _ _
 rw[e]
 have h1:=StrLaws.join_length_le blank (xs.map wT)
 have h2:((xs.map wT).map (·.length)).sum <= (xs.map wT).length * 10:=StrLaws.sumLen_le _ fun y hy=>by obtain⟨v,hv,rfl⟩:=mem_map.mp hy;exact h v hv
 rw[length_map]at h1 h2
 have h3:xs.length * blank.length=xs.length:=Nat.mul_one _
 omega
theorem qL {wy:aS->Nat}(hw:uk wy){p g:Nat}{c:Option Nat}(hp:lB p)(hg:lB g)(hc:∀ k,c=some k->lB k):∀ r ∈ aV wy p g c,r.length <= 500:=fun r hr=>by
 unfold aV at hr
 split at hr
 ·cases hr
 ·rw[mem_singleton.mp hr]
  obtain⟨h1,h2⟩:=hw (aq ⟨(p:Int),(g:Int),c,[]⟩)
  refine le_trans (iC (B:=44) (fun v hv=>?_) (by rw[length_append];show 4 + _ <= 44;omega)) (by decide)
  rcases mem_append.mp hv with hv | hv
  ·simp only[mem_cons,not_mem_nil,or_false]at hv
   rcases hv with rfl | rfl | rfl | rfl
   ·show(Str.ofString "way").length <= 10;decide
   ·exact hp.2
   ·exact hg.2
   ·cases hcc:c with
    | none=>show(Str.ofString "-").length <= 10;decide
    | some k=>exact(hc k hcc).2
  ·exact(h2 v hv).2
theorem il {n:Nat}{ps:List (Int × Int)}{wy:aS->Nat}(hn:n <= 12)(uK:ps.length <= 40)(vf:∀ pr ∈ ps,∃ a b:Nat,pr=((a:Int),(b:Int))/\a < 12/\b < 12)(hw:uk wy):(aQ n ps wy).length <= 6000/\∀ r ∈ aQ n ps wy,r.length <= 500:=by
 have sm:∀ {k:Nat},k < 100->lB k:=fun h=>bX (lt_trans h (by decide))
 have xR:∀ p g cc,(aV wy p g cc).length <= 1:=fun p g cc=>by unfold aV;split<;>simp
 have h1:∀ p g,((ce ps p).flatMap (aV wy p g)).length <= 41:=fun p g=>by
  have:=gM (l:=ce ps p) fun a _=>xR p g a
  have:=(cj ps p).1
  omega
 have h2:∀ p,(cr ps wy n p n).length <= 12 * 41:=fun p=>by
  have:=gM (l:=List.range n) (f:=fun g=>(ce ps p).flatMap (aV wy p g)) fun g _=>h1 p g
  rw[length_range]at this
  exact le_trans this (mul_le_mul_right 41 hn)
 have h3:((List.range n).flatMap fun p=>cr ps wy n p n).length <= 12 * (12 * 41):=by
  have:=gM (l:=List.range n) (f:=fun p=>cr ps wy n p n) fun p _=>h2 p
  rw[length_range]at this
  exact le_trans this (mul_le_mul_right _ hn)
 constructor
 ·unfold aQ
  rw[length_append,length_append,length_map]
  show 1 + ps.length + _ <= _
  omega
 ·intro r hr
  unfold aQ at hr
  rcases mem_append.mp hr with hr | hr
  ·rcases mem_append.mp hr with hr | hr
   ·rw[mem_singleton.mp hr]
    refine le_trans (iC (B:=2) (fun v hv=>?_) (le_refl _)) (by decide)
    simp only[mem_cons,not_mem_nil,or_false]at hv
    rcases hv with rfl | rfl
    ·show(Str.ofString "places").length <= 10;decide
    ·exact(sm (lt_of_le_of_lt hn (by decide))).2
   ·obtain⟨pr,hpr,rfl⟩:=mem_map.mp hr
    obtain⟨a,b,rfl,ha,hb⟩:=vf pr hpr
    refine le_trans (iC (B:=3) (fun v hv=>?_) (le_refl _)) (by decide)
    simp only[mem_cons,not_mem_nil,or_false]at hv
    rcases hv with rfl | rfl | rfl
    ·show(Str.ofString "lane").length <= 10;decide
    ·exact(sm (lt_trans ha (by decide))).2
    ·exact(sm (lt_trans hb (by decide))).2
  ·obtain⟨p,hp,hr⟩:=mem_flatMap.mp hr
   obtain⟨g,hg,hr⟩:=mem_flatMap.mp hr
   obtain⟨c,hc,hr⟩:=mem_flatMap.mp hr
   have hp:=mem_range.mp hp
   have hg:=mem_range.mp hg
   exact qL hw (sm (by omega)) (sm (by omega)) (fun k e=>sm (by subst e;have:=(cj ps p).2 k hc;omega)) r hr
noncomputable def bM (c:Cs)(C:Addr)(J:gr):Sp:=fun vs H Q _=>∃ (x dx lx u4 lt:Addr)(fs:List (Str × V))(n:Nat)(uz:List V)(ps:List (Int × Int))(wy:aS->Nat),vs=[.ref x]/\J H x wy/\H x=some (.ins C dx fs)/\fs.lookup ("land":Str)=some (.ref lx)/\bL H c lx u4 lt n uz ps/\n <= 12/\ps.length <= 40/\(∀ pr ∈ ps,∃ a b:Nat,pr=((a:Int),(b:Int))/\a < 12/\b < 12)/\uk wy /\
 ∀ H',uu H H'->Q (.str (Txt.join newline (aQ n ps wy))) H'
theorem Fu:aw ["table"] ["table"] (ah ii):=L2.uU
theorem eO {c:Cs}{J:gr}{C f fr:Addr}{fd dr:FuncData}(F:uN K "table_text" "table_text" ii f fd)(mr:mg "table_rows" = some (.ref fr))(kr:keepIn K (.ref fr)=true)(br:Binds K dr ["table"] [])(Gr:Z P w K mg base aD 5 fr dr ["table"] (cR c C J)):Z P w K mg base aD 6 f fd ["table"] (bM c C J):=by
 refine F.ok Fu (fun vs H Q E h=>?_) (fun uF A outer s H vs Q E hr h=>?_)
 ·obtain⟨x,dx,lx,u4,lt,fs,n,uz,ps,wy,rfl,_⟩:=h
  rfl
 ·obtain⟨x,dx,lx,u4,lt,fs,n,uz,ps,wy,rfl,hJ,hx,hf,hL,hn,uK,vf,zR,q⟩:=h
  refine⟨_,ag (aA (dQ plainAttrs_str PySem.F.slot_str_join PySem.F.type_str_join nA b7 (aa (ap Gr hr rfl mr kr br .nil au (aa (pv 0) ad)) ad))),?_⟩
  obtain⟨h1,h2⟩:=il hn uK vf zR
  refine⟨rfl,_,rfl,x,dx,lx,u4,lt,fs,n,uz,ps,wy,rfl,hJ,hx,hf,hL,hn,uK,vf,zR,fun D H' s' hD gD=>⟨newline,D,aQ n ps wy,rfl,rfl,ux.of gD,?_,q H' s'⟩⟩
  have h3:((aQ n ps wy).map (·.length)).sum <= (aQ n ps wy).length * 500:=StrLaws.sumLen_le _ h2
  show _ + (aQ n ps wy).length * 1 <= _
  omega
end K80
namespace L2
noncomputable def nk (ks:List (Nat × V)):List (bB × V):=ks.map fun x=>((Sum.inl (x.1:Int):bB),x.2)
theorem rB {ks:List (Nat × V)}{l:Nat}(h:l ∉ ks.map (·.1)):eT (nk ks) (Sum.inl (l:Int))=none:=by
 induction ks with
 | nil=>rfl
 | cons y ks ih =>
  rw[map_cons,mem_cons,not_or]at h
  show(List.find? _ (((Sum.inl (y.1:Int):bB),y.2) :: nk ks)).map _=_
  rw[List.find?_cons,show(decide ((Sum.inl (y.1:Int):bB)=Sum.inl (l:Int)))=false from decide_eq_false (fun z=>h.1 (by injection z with z;omega))]
  exact ih h.2
theorem qa {ks:List (Nat × V)}(nd:(ks.map (·.1)).Nodup){l:Nat}{v:V}(h:(l,v) ∈ ks):eT (nk ks) (Sum.inl (l:Int))=some v:=by
 induction ks with
 | nil=>cases h
 | cons y ks ih =>
  rw[map_cons,nodup_cons]at nd
  show(List.find? _ (((Sum.inl (y.1:Int):bB),y.2) :: nk ks)).map _=_
  rcases mem_cons.mp h with e | h
  ·subst e
   rw[List.find?_cons,show(decide ((Sum.inl (l:Int):bB)=Sum.inl (l:Int)))=true from decide_eq_true rfl]
   rfl
  ·have ve:y.1 ≠ l:=fun z=>nd.1 (by rw[z];exact mem_map.mpr ⟨(l,v),h,rfl⟩)
   rw[List.find?_cons,show(decide ((Sum.inl (y.1:Int):bB)=Sum.inl (l:Int)))=false from decide_eq_false (fun z=>ve (by injection z with z;omega))]
   exact ih nd.2 h
theorem mD {ks:List (Nat × V)}{l:Nat}{v:V}(h:l ∉ ks.map (·.1)):fS (nk ks) (Sum.inl (l:Int)) v=nk (ks ++ [(l,v)]):=by
 have e:((nk ks).any fun kv=>decide (kv.1=(Sum.inl (l:Int):bB)))=false:=by
  rw[any_eq_false]
  intro x hx hd
  obtain⟨y,hy,rfl⟩:=mem_map.mp hx
  have z:=of_decide_eq_true hd
  injection z with z
  exact h (mem_map.mpr ⟨y,hy,by omega⟩)
 unfold fS
 rw[e,if_neg (by decide)]
 unfold nk
 rw[map_append]
 rfl
theorem mE (ks:List (Nat × V)):(nk ks).length=ks.length:=by unfold nk;rw[length_map]
end L2
namespace K80
open PySem L2
variable {P:Program}{w:World}{K:Frag}{mg:Str->Option Value}{base:Heap}
section
variable {on:Nat->List Nat}{lf fin:Nat->Bool}{L:Nat}
noncomputable def fN (on:Nat->List Nat)(lf fin:Nat->Bool):Nat->Nat->Bool
 | 0,_=>false
 | k + 1,l=>lf l && (fin l || (on l).any (fN on lf fin k))
theorem uO {k l:Nat}:fN on lf fin (k + 1) l=true↔lf l=true/\(fin l=true∨∃ z ∈ on l,fN on lf fin k z=true):=by
 show(lf l && (fin l || (on l).any (fN on lf fin k)))=true↔_
 rw[Bool.and_eq_true,Bool.or_eq_true,any_eq_true]
theorem iL:∀ {k l:Nat},fN on lf fin k l=true->fN on lf fin (k + 1) l=true
 | 0,_,h=>by cases h
 | k + 1,l,h=>by
  obtain⟨h1,h2⟩:=uO.mp h
  refine uO.mpr ⟨h1,h2.imp id fun uw=>by obtain⟨z,hz,h3⟩:=uw;exact⟨z,hz,iL h3⟩⟩
theorem mS {k l:Nat}(h:fN on lf fin k l=true):∀ m,fN on lf fin (k + m) l=true
 | 0=>h
 | m + 1=>iL (mS h m)
theorem l4 {k:Nat}(xH:∀ l,∀ z ∈ on l,z < L)(h:∀ l,l < L->fN on lf fin (k + 1) l=true->fN on lf fin k l=true):∀ m l,fN on lf fin (k + 1 + m) l=true->fN on lf fin (k + 1) l=true
 | 0,_,hl=>hl
 | m + 1,l,hl=>by
  obtain⟨h1,h2⟩:=uO.mp hl
  refine uO.mpr ⟨h1,h2.imp id fun⟨z,hz,h3⟩=>⟨z,hz,?_⟩⟩
  exact h z (xH l z hz) (l4 xH h m z h3)
theorem rP {p q:Nat->Bool}:∀ {l:List Nat}{x:Nat},(∀ y,p y=true->q y=true)->x ∈ l->q x=true->p x=false->(l.filter p).length < (l.filter q).length:=by
 have le:∀ (l:List Nat),(∀ y,p y=true->q y=true)->(l.filter p).length <= (l.filter q).length:=fun l h=>by
  induction l with
  | nil=>exact le_refl _
  | cons a l ih =>
   rw[filter_cons,filter_cons]
   cases hp:p a with
   | true=>rw[h a hp,if_pos rfl,if_pos rfl];exact Nat.succ_le_succ ih
   | false =>
    rw[if_neg (by decide)]
    split
    ·exact Nat.le_succ_of_le ih
    ·exact ih
 intro l x h hx hq hp
 induction l with
 | nil=>cases hx
 | cons a l ih =>
  rw[filter_cons,filter_cons]
  rcases mem_cons.mp hx with e | hx
  ·subst e
   rw[hp,hq,if_neg (by decide),if_pos rfl]
   exact Nat.lt_succ_of_le (le l h)
  ·have:=ih hx
   cases hpa:p a with
   | true=>rw[h a hpa,if_pos rfl,if_pos rfl];exact Nat.succ_lt_succ this
   | false =>
    rw[if_neg (by decide)]
    split
    ·exact Nat.lt_succ_of_lt this
    ·exact this
theorem l9 (hn:∀ j,j <= L->∃ l,l < L/\fN on lf fin (j + 1) l=true/\fN on lf fin j l=false):∀ k,k <= L + 1->k <= ((List.range L).filter (fN on lf fin k)).length
 | 0,_=>zero_le _
 | k + 1,h=>by
  have ih:=l9 hn k (by omega)
  obtain⟨l,hl,h1,h2⟩:=hn k (by omega)
  have:=rP (p:=fN on lf fin k) (q:=fN on lf fin (k + 1)) (fun y hy=>iL hy) (mem_range.mpr hl) h1 h2
  omega
theorem oi (xH:∀ l,∀ z ∈ on l,z < L){k l:Nat}(h:fN on lf fin k l=true):fN on lf fin (L + 1) l=true:=by
 by_cases hs:∃ j,j <= L/\∀ l,l < L->fN on lf fin (j + 1) l=true->fN on lf fin j l=true
 ·obtain⟨j,hj,hs⟩:=hs
  have h1:fN on lf fin (j + 1) l=true:=by
   rcases lt_or_ge k (j + 1) with hk | hk
   ·obtain⟨m,hm⟩:=Nat.exists_eq_add_of_lt hk
    rw[hm,Nat.add_assoc]
    exact mS h (m + 1)
   ·obtain⟨m,rfl⟩:=Nat.exists_eq_add_of_le hk
    exact l4 xH hs m l h
  obtain⟨m,hm⟩:=Nat.exists_eq_add_of_le (show j + 1 <= L + 1 by omega)
  rw[hm]
  exact mS h1 m
 ·exfalso
  have hn:∀ j,j <= L->∃ l,l < L/\fN on lf fin (j + 1) l=true/\fN on lf fin j l=false:=fun j hj=>by
   refine Classical.byContradiction fun z=>hs ⟨j,hj,fun l hl h1=>?_⟩
   cases h2:fN on lf fin j l with
   | true=>rfl
   | false=>exact absurd ⟨l,hl,h1,h2⟩ z
  have h1:=l9 hn (L + 1) (le_refl _)
  have h2:=length_filter_le (fN on lf fin (L + 1)) (List.range L)
  rw[length_range]at h2
  omega
theorem qG {S:Nat->Prop}(hS:∀ l,l < L->lf l=true->(fin l=true∨∃ z ∈ on l,S z)->S l)(xH:∀ l,∀ z ∈ on l,z < L):∀ {k l:Nat},l < L->fN on lf fin k l=true->S l
 | 0,_,_,h=>by cases h
 | k + 1,l,hl,h=>by
  obtain⟨h1,h2⟩:=uO.mp h
  exact hS l hl h1 (h2.imp id fun uw=>by obtain⟨z,hz,h3⟩:=uw;exact⟨z,hz,qG hS xH (xH l z hz) h3⟩)
end
noncomputable def rF (out:Nat)(l:Nat):Bool:=!out.testBit l
noncomputable def e9 (ps:List (Int × Int))(g l:Nat):Bool:=decide ((ps.getD l (0,0)).2=(g:Int))
noncomputable def zV (wy:aS->Nat)(ps:List (Int × Int))(out g l:Nat):Bool:=fN (jD wy ps g) (rF out) (e9 ps g) (ps.length + 1) l
noncomputable def ju (a:List Nat):List (Nat × V):=a.map fun l=>(l,V.bl true)
theorem eU (a:List Nat):(ju a).map (·.1)=a:=by unfold ju;rw[map_map];exact map_id _
theorem mV (a b:List Nat):ju (a ++ b)=ju a ++ ju b:=by unfold ju;rw[map_append]
theorem pc (a:List Nat)(nd:a.Nodup)(l:Nat):(eT (nk (ju a)) (Sum.inl (l:Int))).isSome=decide (l ∈ a):=by
 by_cases h:l ∈ a
 ·rw[qa (ks:=ju a) (l:=l) (v := .bl true) (by rw[eU];exact nd) (mem_map.mpr ⟨l,h,rfl⟩),decide_eq_true h];rfl
 ·rw[rB (ks:=ju a) (by rw[eU];exact h),decide_eq_false h];rfl
theorem B0 {wy:aS->Nat}{ps:List (Int × Int)}(h:∀ k,∀ z ∈ wl wy k,z < ps.length)(g x:Nat):∀ z ∈ jD wy ps g x,z < ps.length:=by
 intro z hz
 unfold jD at hz
 split at hz
 ·cases hz
 ·exact h _ z hz
structure B1 (P:Program)(w:World)(K:Frag)(mg:Str->Option Value)(base:Heap)(fx:Addr)(dx:FuncData):Prop where
 m:mg "has" = some (.ref fx)
 k:keepIn K (.ref fx)=true
 b:Binds K dx ["some", "number"] []
 G:Z P w K mg base aD 1 fx dx ["some", "number"] pk
noncomputable def j2 (c:Cs)(C:Addr)(J:gr):Sp:=fun vs H Q _=>∃ (x lx u4 lt:Addr)(n:Nat)(uz:List V)(ps:List (Int × Int))(wy:aS->Nat)(out g:Nat),vs=[.ref x, .int out, .int g]/\uJ c C J H x lx u4 lt n uz ps wy /\
 ∀ (D:Addr)(a:List Nat)(H':Hp),uu H H'->H D=none->H' D=some (.dK (nk (ju a)))->a.Nodup->(∀ l,l ∈ a↔l < ps.length/\zV wy ps out g l=true)->Q (.ref D) H'
abbrev CD:List Str:=["table", "out", "goal", "land", "left", "after", "lane", "line", "alive", "looked_at", "found"]
noncomputable def uj (s:Stmt):Scope:=match s with
 | .Assign _ (.ListComp _ _ sc _) _=>sc
 | _=>{ kind := .function,names:=[],isGenerator:=false,isCoroutine:=false }
noncomputable def sC (s:Stmt):List Stmt:=match s with
 | .While _ b _ _=>b
 | _=>[]
abbrev al (i:Nat):Stmt:=(aL eK).getD i (.Pass ⟨0,0,0,0⟩)
noncomputable def fF (L out:Nat):List Nat:=(List.range L).filter (rF out)
theorem nF (L out:Nat):(fF L out).Nodup:=List.Pairwise.filter _ List.nodup_range
theorem wg {L out l:Nat}:l ∈ fF L out↔l < L/\rF out l=true:=by unfold fF;rw[mem_filter,mem_range]
theorem fK {K:Frag}{a:Addr}{us:List Nat}{g:TG}{tt:TT}{te:TE}{σ0:St}{H:Hp}{Q:VK}(p:Nat->Bool)(hn:us.length <= 100000)(ha:H a=some (.lst (nV us)))
  (hs:∀ (x:Nat)(acc:List V)(N:List V->Hp->Prop),x ∈ us->N (if p x then acc ++ [.int (x:Int)] else acc) H->g (.int (x:Int)) σ0 H fun σ2 H2=>tt σ2 H2 fun b H3=>if b=true then te σ2 H3 fun y H4=>N (acc ++ [y]) H4 else N acc H3)
  (hq:∀ D,H D=none->Q (.ref D) (ar H D (.lst (nV (us.filter p))))):eG (sf K a) g tt te σ0 Q H:=by
 refine iI (K:=K) (a:=a) (xs:=nV us) (fun v=>match v with | .int z=>p z.toNat | _=>false) (fun v=>v) (by rw[sizeLine_eq,ca];omega) (ux.of ha) (fun v acc N hv h=>?_) fun D hD=>?_
 ·obtain⟨x,hx,rfl⟩:=qd hv
  exact hs x acc N hx h
 ·have e:((nV us).filter (fun v=>match v with | .int z=>p z.toNat | _=>false)).map (fun v=>v)=nV (us.filter p):=by
   rw[List.map_id']
   clear hn ha hs hq
   induction us with
   | nil=>rfl
   | cons x us ih =>
    show List.filter _ (V.int (x:Int) :: nV us)=_
    rw[filter_cons,filter_cons,ih]
    show(if p ((x:Int)).toNat=true then _ else _)=_
    rw[toNat_natCast]
    cases p x<;>rfl
  rw[e]
  exact hq D hD
theorem B2 (x:Nat)(us:List Nat):ss (.int (x:Int)) (nV us)=decide (x ∈ us):=by
 rw[show nV us=(iz us).map V.int from fE us,jO]
 by_cases h:x ∈ us
 ·rw[decide_eq_true h,decide_eq_true (vx.mpr ⟨x,h,rfl⟩)]
 ·rw[decide_eq_false h,decide_eq_false (fun z=>by
   obtain⟨y,hy,e⟩:=vx.mp z
   have:y=x:=by omega
   exact h (this ▸ hy))]
theorem rN (us:List Nat):(nV us).all eD=true:=by rw[show nV us=(iz us).map V.int from fE us];exact gc _
theorem v9:aw CD ["table", "out", "goal"] (ah eK):=L2.uU
theorem Fv:vd CD (ah eK) (uj (al 1)) ["out"] [1]:=L2.vH
theorem Fw:vd CD (ah eK) (uj (al 4)) ["land", "goal"] [3,2]:=L2.vH
theorem Fx:vd CD (ah eK) (uj ((sC (al 8)).getD 0 (.Pass ⟨0,0,0,0⟩))) ["alive", "line", "looked_at", "after"] [8,7,9,5]:=L2.vH
theorem Fy:(["lane", "out"]:List Str).Nodup:=by decide +kernel
theorem Fz:(["lane", "land", "goal"]:List Str).Nodup:=by decide +kernel
theorem F0:(["lane", "alive", "line", "looked_at", "after"]:List Str).Nodup:=by decide +kernel
theorem pW {c:Cs}{J:gr}{C f fw fe fx fo:Addr}{fd dw de dx0 Ir:FuncData}(F:uN K "lanes_alive" "lanes_alive" eK f fd)(T:Txt mg)(L:oU K c)(W:lE K C fw dw J)(nl:uA K C "land")(M:ur K c fe de)(Ge:Z P w K mg base aD 1 fe de ["self", "lane"] (qS c Prod.snd))(X:B1 P w K mg base fx dx0)
  (mo:mg "onward" = some (.ref fo)) (ko:keepIn K (.ref fo)=true) (bo:Binds K Ir ["table", "lane", "goal"] []) (Go:Z P w K mg base aD 4 fo Ir ["table", "lane", "goal"] (sQ c C J)):Z P w K mg base aD 5 f fd ["table", "out", "goal"] (j2 c C J):=by
 refine F.ok v9 (fun vs H Q E h=>?_) (fun uF A outer s H vs Q E hr h=>?_)
 ·obtain⟨x,lx,u4,lt,n,uz,ps,wy,out,g,rfl,_⟩:=h
  rfl
 ·obtain⟨x,lx,u4,lt,n,uz,ps,wy,out,g,rfl,hT,q⟩:=h
  have vo:u5 1 _:=hr.mono (by decide)
  have xU:=lt_of_le_of_lt (add_le_add_left (show 1 <= 64 by decide) _) hr.units
  refine⟨_,ae (ay (i:=3) v9.nd rfl (Or.inr rfl) (aH (pv 0) rfl))
   (ae (cE (i:=4) (own:=["lane"]) (capN:=["out"]) (cap:=[1]) Fv rfl v9.nd rfl rfl (aY rfl T.range (aa (aM aO rfl T.len PySem.boot_len (aa (aH (pv 3) rfl) ad)) ad))
    (fun C s' H' fp=>⟨ao (i:=0) Fy rfl (Or.inl rfl),bN (cv (cC (ap X.G vo rfl X.m X.k X.b .nil au (aa (pv 1) (aa (pv 0) ad))))),pv 0⟩))
   (ae (ay (i:=5) v9.nd rfl (Or.inr rfl) kA)
   (ae (bg PassesOwn.never rfl (aI (pv 4)) (ao (i:=6) v9.nd rfl (Or.inl rfl))
    (ag (j8 xU (pv 5) (pv 6) (ap Go hr rfl mo ko bo .nil au (aa (pv 0) (aa (pv 6) (aa (pv 2) ad)))) rfl)))
   (ae (ay (i:=7) v9.nd rfl (Or.inr rfl) (bp (own:=["lane"]) (capN:=["land", "goal"]) (cap:=[3,2]) Fw rfl (aI (pv 4))
    (fun C s' H' fp=>⟨ao (i:=0) Fz rfl (Or.inl rfl),bN (az bW (bz (pv 1) L.cl M.m Ge vo M.b .nil au (aa (pv 0) ad)) (pv 2) (aC _)),pv 0⟩)))
   (ae (ay (i:=8) v9.nd rfl (Or.inr rfl) kA)
   (ae (bg PassesOwn.never rfl (aI (pv 7)) (ao (i:=6) v9.nd rfl (Or.inl rfl))
    (ag (j8 xU (pv 8) (pv 6) i0 rfl)))
   (ae (ay (i:=9) v9.nd rfl (Or.inr rfl) aj)
   (ae (pG PassesOwn.never (az sk (pv 9) (aM aO rfl T.len PySem.boot_len (aa (pv 7) ad)) (aC _))
    (ae (cE (i:=10) (own:=["lane"]) (capN:=["alive", "line", "looked_at", "after"]) (cap:=[8,7,9,5]) Fx rfl v9.nd rfl rfl (aI (pv 4))
     (fun C s' H' fp=>⟨ao (i:=0) F0 rfl (Or.inl rfl),bN (PW.pt (ix (me (o0 xU (pv 0) (pv 1)) (by with_unfolding_all rfl)) (fj (az (show dI _ (compareOp .In) (HQ K false) from jc) (aJ (show jq _ (kq K) from bc) (pv 2) (pv 3) (fun _ _=>rfl)) (rb xU (pv 4) (pv 0) (fun _ _=>rfl)) (by with_unfolding_all rfl))))),pv 0⟩))
    (ae (sZ (i:=9) v9.nd rfl (Or.inr rfl) aj tX)
    (ae (bg PassesOwn.never rfl (aI (pv 10)) (ao (i:=6) v9.nd rfl (Or.inl rfl))
     (ag (j8 xU (pv 8) (pv 6) i0 rfl)))
    (ag (cy (dQ plainAttrs_list slot_list_extend type_list_extend fW (pv 7) (aa (pv 10) ad))))))))
   (ag (aA (pv 8))))))))))),?_⟩
  obtain⟨dx,fs,hx,hf⟩:=hT.i
  have F1:=hT.wU
  have F2:uz.length=ps.length:=Paired.length hT.l.2.2
  have xH:=B0 hT.ok g
  refine⟨_,rfl,x,C,dx,fs,_,rfl,hx,W.cl,nl,hf,?_⟩
  refine⟨_,rfl,lx,c.land,u4,_,_,rfl,hT.l.1,L.cl,L.nl,rfl,lt,_,rfl, .inr (uE.of hT.l.2.1),(uz.length:Int),rfl,by omega,by omega,?_⟩
  rw[toNat_natCast,F2]
  refine iH (rF out) (fun k:Nat=>V.int (k:Int)) (by rw[sizeLine_eq];omega) (fun i acc N hi h=>?_) fun Lf hLf=>?_
  ·rw[zero_add]
   refine⟨_,rfl,_,rfl,out,i,rfl,_,rfl,?_⟩
   unfold rF at h
   cases hb:out.testBit i with
   | true=>rw[hb]at h;exact aT h
   | false=>rw[hb]at h;exact be ⟨_,rfl,h⟩
  have s1:=(uu.refl H).new (o := .lst (((List.range ps.length).filter (rF out)).map fun k:Nat=>V.int (k:Int))) hLf
  have gL:(ar H Lf (.lst (((List.range ps.length).filter (rF out)).map fun k:Nat=>V.int (k:Int)))) Lf=some (.lst (nV (fF ps.length out))):=ac
  have yF:∀ l ∈ fF ps.length out,l < ps.length:=fun l hl=>(wg.mp hl).1
  have B3:(fF ps.length out).length <= 40:=le_trans (cG _ _ (nF _ _) yF) F1
  show cX 4 (V.ref Lf) _ (ar H Lf _) _
  generalize ar H Lf (.lst (((List.range ps.length).filter (rF out)).map fun k:Nat=>V.int (k:Int)))=H1 at s1 gL ⊢
  refine fun af F3=>?_
  have s2:=s1.new (o := .dK []) F3
  have gA:(ar H1 af (.dK [])) af=some (.dK (nk [])):=ac
  have CF:(ar H1 af (.dK [])) Lf=some (.lst (nV (fF ps.length out))):=by rw[ak (am gL F3)];exact gL
  have F4:H af=none:=s1.free F3
  generalize ar H1 af (.dK [])=H2 at s2 gA CF ⊢
  have xI:=nF ps.length out
  have CG:∀ {l},l ∈ fF ps.length out↔l < ps.length/\rF out l=true:=fun {l}=>wg
  generalize fF ps.length out=lf at gL CF yF B3 xI CG
  refine⟨_,rfl,Lf,rfl,⟨_,ux.of CF⟩,?_⟩
  refine bJ (K:=K) (a:=Lf) (xs:=nV lf) (fun i σ H3=>∃ (a6:Option V)(ks:List (Nat × V)),uu H H3/\H3 Lf=some (.lst (nV lf))/\H3 af=some (.dK (nk ks))/\ks.map (·.1)=lf.take i/\(∀ l v,(l,v) ∈ ks->∃ U,v = .ref U/\H3 U=some (.lst (nV (jD wy ps g l))))/\σ=[some (.ref x),some (.int out),some (.int g),some (.ref lx),some (.ref Lf),some (.ref af),a6,none,none,none,none])
   ⟨none,[],s2,CF,gA,rfl,(fun l v h=>by cases h),rfl⟩ (fun i σ H3 _ uw=>by obtain⟨_,_,_,g3,_⟩:=uw;exact ux.of g3) ?_ ?_
  ·rintro i v σ H3 hv ⟨a6,ks,s3,zk,F5,zl,yn,rfl⟩
   have hi:i < lf.length:=by have:=(List.getElem?_eq_some_iff.mp hv).1;rw[ca]at this;exact this
   have xJ:=List.getElem?_eq_getElem hi
   have vG:=i6 xJ
   rw[vG]at hv
   have hv:=Option.some.inj hv
   subst hv
   have wj:lf[i] ∉ ks.map (·.1):=fun z=>by
    rw[zl]at z
    obtain⟨k,hk,ek⟩:=mem_take_iff_getElem.mp z
    exact pairwise_iff_getElem.mp xI k i (by omega) hi (by omega) ek
   have wW:=yF _ (getElem_mem hi)
   generalize lf[i]=l at xJ wj wW
   refine⟨_,rfl,_,rfl,_,rfl,x,lx,u4,lt,n,uz,ps,wy,l,g,rfl,hT.same W s3,wW,fun D4 H4 s4 Ih Iu=>?_⟩
   have CH:=s4 _ _ F5
   have hkl:ks.length=(lf.take i).length:=by rw[← zl,length_map]
   refine⟨_,rfl,_,rfl,af,_,rfl,wC.k (k:=Sum.inl (l:Int)) CH (by rw[sizeLine_eq,mE,hkl];have:=length_take_le i lf;omega),?_⟩
   rw[mD wj]
   refine⟨_,ks ++ [(l, .ref D4)],fun b o e=>by rw[ak (am e F4)];exact s4 _ _ (s3 _ _ e),?_,ac,?_,fun l' v' h=>?_,rfl⟩
   ·rw[ak (bu (s4 _ _ zk) CH (by intro z;cases z))];exact s4 _ _ zk
   ·rw[map_append,zl,take_succ,xJ];rfl
   ·rcases mem_append.mp h with h | h
    ·obtain⟨U,e1,e2⟩:=yn l' v' h
     exact⟨U,e1,by rw[ak (bu (s4 _ _ e2) CH (by intro z;cases z))];exact s4 _ _ e2⟩
    ·have e:=mem_singleton.mp h
     injection e with e1 e2
     subst e1 e2
     exact⟨D4,rfl,by rw[ak (bu Iu CH (by intro z;cases z))];exact Iu⟩
  rintro σ H3 ⟨a6,ks,s3,zk,F5,zl,yn,rfl⟩
  rw[ca,take_length]at zl
  have F6:(ks.map (·.1)).Nodup:=by rw[zl];exact xI
  have hks:∀ l ∈ lf,∃ U,(l,V.ref U) ∈ ks/\H3 U=some (.lst (nV (jD wy ps g l))):=fun l hl=>by
   rw[← zl]at hl
   obtain⟨y,hy,e⟩:=mem_map.mp hl
   obtain⟨l',v'⟩:=y
   have e:l' = l:=e
   subst e
   obtain⟨U,e1,e2⟩:=yn l' v' hy
   subst e1
   exact⟨U,hy,e2⟩
  have zP:=hT.same W s3
  refine⟨_,rfl,Lf,rfl,⟨_,ux.of zk⟩,?_⟩
  refine fK (e9 ps g) (by omega) zk (fun l acc N hl h=>?_) fun ln B4=>?_
  ·have wW:=yF l hl
   have he:=List.getElem?_eq_getElem wW
   have zO:ps.getD l (0,0)=ps[l]:=by rw[getD_eq_getElem?_getD,he];rfl
   unfold e9 at h
   rw[zO]at h
   refine⟨_,rfl,lx,u4,_,rfl,zP.l.1,rfl,_,rfl,lx,u4,lt,(n:Int),uz,ps,l,_,rfl,zP.l,he,?_⟩
   refine⟨_,rfl,rfl,_,rfl,?_⟩
   rw[dW]
   cases hd:decide ((ps[l]).2=(g:Int)) with
   | true=>rw[hd]at h;exact be ⟨_,rfl,h⟩
   | false=>rw[hd]at h;exact aT h
  have hl0:H ln=none:=s3.free B4
  have s4:=s3.new (o := .lst (nV (lf.filter (e9 ps g)))) B4
  have g4:(ar H3 ln (.lst (nV (lf.filter (e9 ps g))))) ln=some (.lst (nV (lf.filter (e9 ps g)))):=ac
  have F7:=(uu.refl H3).new (o := .lst (nV (lf.filter (e9 ps g)))) B4
  generalize ar H3 ln (.lst (nV (lf.filter (e9 ps g))))=H4 at s4 g4 F7 ⊢
  refine fun av CI=>?_
  have F8:H av=none:=s4.free CI
  have CJ:=(uu.refl H4).new (o := .dK []) CI
  have g5:(ar H4 av (.dK [])) av=some (.dK (nk (ju []))):=ac
  generalize ar H4 av (.dK [])=H5 at CJ g5 ⊢
  have k35:=F7.trans CJ
  have s5:=s4.trans CJ
  have nlL:ln ≠ Lf:=Ne.symm (am zk B4)
  have Iv:∀ b o,H3 b=some o->b ≠ av:=fun b o e=>am (F7 _ _ e) CI
  have nln:∀ b o,H3 b=some o->b ≠ ln:=fun b o e=>am e B4
  have yp:(lf.filter (e9 ps g)).Nodup:=List.Pairwise.filter _ xI
  have B5:∀ l ∈ lf.filter (e9 ps g),l ∈ lf/\e9 ps g l=true:=fun l hl=>mem_filter.mp hl
  have Iw:∀ l ∈ lf,e9 ps g l=true->l ∈ lf.filter (e9 ps g):=fun l h1 h2=>mem_filter.mpr ⟨h1,h2⟩
  generalize lf.filter (e9 ps g)=a0 at g4 yp B5 Iw
  have a0l:a0.length <= ps.length:=cG _ _ yp fun l hl=>yF l (B5 l hl).1
  have F9:=CJ _ _ g4
  have yq:ln ≠ av:=am g4 CI
  refine⟨_,rfl,ln,rfl,⟨_,ux.of F9⟩,?_⟩
  refine bJ (K:=K) (a:=ln) (xs:=nV a0) (fun i σ H6=>∃ (a6:Option V),(∀ b o,b ≠ av->H5 b=some o->H6 b=some o)/\H6 av=some (.dK (nk (ju (a0.take i))))/\σ=[some (.ref x),some (.int out),some (.int g),some (.ref lx),some (.ref Lf),some (.ref af),a6,some (.ref ln),some (.ref av),none,none])
   ⟨_,(fun b o _ e=>e),g5,rfl⟩ (fun i σ H6 _ uw=>by obtain⟨_,k6,_⟩:=uw;exact ux.of (k6 _ _ yq F9)) ?_ ?_
  ·rintro i v σ H6 hv ⟨a6,k6,g6,rfl⟩
   have hi:i < a0.length:=by have:=(List.getElem?_eq_some_iff.mp hv).1;rw[ca]at this;exact this
   have xJ:=List.getElem?_eq_getElem hi
   have vG:=i6 xJ
   rw[vG]at hv
   have hv:=Option.some.inj hv
   subst hv
   have wj:a0[i] ∉ a0.take i:=fun z=>by
    obtain⟨k,hk,ek⟩:=mem_take_iff_getElem.mp z
    exact pairwise_iff_getElem.mp yp k i (by omega) hi (by omega) ek
   generalize a0[i]=l at xJ wj
   refine⟨_,rfl,_,rfl,av,_,rfl,wC.k (k:=Sum.inl (l:Int)) g6 (by rw[sizeLine_eq,mE];unfold ju;rw[length_map];have:=length_take_le i a0;omega),?_⟩
   rw[mD (by rw[eU];exact wj)]
   refine⟨_,fun b o nb e=>by rw[ak nb];exact k6 b o nb e,?_,rfl⟩
   rw[ac,take_succ,xJ,mV];rfl
  rintro σ H6 ⟨a6,k6,g6,rfl⟩
  rw[ca,take_length]at g6
  have k36:∀ b o,H3 b=some o->H6 b=some o:=fun b o e=>k6 b o (Iv b o e) (k35 b o e)
  have g6l:=k6 _ _ yq F9
  refine⟨fun m σ H'=>∃ (a:List Nat)(i:Nat)(b6 zW:Option V),m=ps.length - i/\i <= a.length/\(∀ b o,H3 b=some o->H' b=some o)/\H' ln=some (.lst (nV a))/\H' av=some (.dK (nk (ju a)))/\a.Nodup/\(∀ l ∈ a,l ∈ lf/\zV wy ps out g l=true)/\(∀ l ∈ lf,e9 ps g l=true->l ∈ a)/\(∀ (k z l:Nat),k < i->a[k]? = some z->l ∈ lf->z ∈ jD wy ps g l->l ∈ a) /\
    σ=[some (.ref x),some (.int out),some (.int g),some (.ref lx),some (.ref Lf),some (.ref af),b6,some (.ref ln),some (.ref av),some (.int (i:Int)),zW],
   ⟨ps.length - 0,a0,0,a6,none,rfl,zero_le _,k36,g6l,g6,yp,(fun l hl=>⟨(B5 l hl).1,oi (L:=ps.length) xH (k:=1) (uO.mpr ⟨(CG.mp (B5 l hl).1).2, .inl (B5 l hl).2⟩)⟩),Iw,(fun k z l hk=>absurd hk (not_lt_zero _)),rfl⟩,?_⟩
  rintro m σ H7 ⟨a,i,b6,zW,rfl,hile,k7,CK,CL,and',B6,B7,yG,rfl⟩
  have CM:a.length <= ps.length:=cG _ _ and' fun l hl=>yF l (B6 l hl).1
  refine⟨_,rfl,_,rfl,ln,_,rfl, .inl (ux.of CK),_,_,rfl,rfl,_,rfl,?_⟩
  rw[ca]
  by_cases uX:i < a.length
  rotate_left
  ·rw[decide_eq_false (show ¬ (i:Int) < (a.length:Nat) by omega)]
   refine aT ⟨_,rfl,q av a H7 (s3.trans k7) F8 CL and' fun l=>⟨fun hl=>⟨yF l (B6 l hl).1,(B6 l hl).2⟩,fun⟨hl,FA⟩=>?_⟩⟩
   refine qG (L:=ps.length) (S:=fun z=>z ∈ a) (fun l' y4 hlf hc=>?_) xH hl FA
   have B8:l' ∈ lf:=CG.mpr ⟨y4,hlf⟩
   rcases hc with hc | ⟨z,hz,hza⟩
   ·exact B7 l' B8 hc
   ·obtain⟨k,hk,ek⟩:=getElem_of_mem hza
    exact yG k z l' (by omega) (by rw[List.getElem?_eq_getElem hk,ek]) B8 hz
  rw[decide_eq_true (show (i:Int) < (a.length:Nat) by omega)]
  have xB:=List.getElem?_eq_getElem uX
  have B9:=B6 _ (getElem_mem uX)
  generalize a[i]=ai at xB B9
  refine be ⟨fun σ' H8=>∃ (a':List Nat)(b6 zW:Option V),i + 1 <= a'.length/\(∀ b o,H3 b=some o->H8 b=some o)/\H8 ln=some (.lst (nV a'))/\H8 av=some (.dK (nk (ju a')))/\a'.Nodup/\(∀ l ∈ a',l ∈ lf/\zV wy ps out g l=true)/\(∀ l ∈ lf,e9 ps g l=true->l ∈ a')/\(∀ (k z l:Nat),k < i + 1->a'[k]? = some z->l ∈ lf->z ∈ jD wy ps g l->l ∈ a') /\
    σ' = [some (.ref x),some (.int out),some (.int g),some (.ref lx),some (.ref Lf),some (.ref af),b6,some (.ref ln),some (.ref av),some (.int ((i + 1:Nat):Int)),zW],?_,?_⟩
  ·rintro σ' H8 ⟨a',b6,zW,h1,h2,h3,h4,h5,h6,h7,h8,rfl⟩
   exact⟨ps.length - (i + 1),by omega,a',i + 1,b6,zW,rfl,h1,h2,h3,h4,h5,h6,h7,h8,rfl⟩
  have Iy:=k7 _ _ zk
  have gA7:=k7 _ _ F5
  refine⟨_,rfl,Lf,rfl,⟨_,ux.of Iy⟩,?_⟩
  refine fK (fun l=>!decide (l ∈ a) && decide (ai ∈ jD wy ps g l)) (by omega) Iy (fun l acc N hl h=>?_) fun Fd FC=>?_
  ·obtain⟨U,hU,gU⟩:=hks l hl
   refine⟨_,rfl,_,rfl,av,_,rfl,v7.k (k:=Sum.inl (l:Int)) CL,_,rfl,?_⟩
   rw[pc a and' l]
   by_cases zm:l ∈ a
   ·rw[decide_eq_true zm]
    rw[decide_eq_true zm]at h
    exact aT (aT h)
   ·rw[decide_eq_false zm]
    rw[decide_eq_false zm,Bool.not_false,Bool.true_and]at h
    refine be ⟨_,rfl,_,rfl,ln,_,_,_,rfl,rfl,ux.of CK,aB (i6 xB),_,rfl,_,rfl,af, .ref U,rfl,?_,?_⟩
    ·rw[← qa F6 hU]
     exact v7.k (k:=Sum.inl (l:Int)) gA7
    refine⟨U,_,rfl, .inl (ux.of (k7 _ _ gU)),rfl,rN _,_,rfl,?_⟩
    show if (ss (.int (ai:Int)) (nV (jD wy ps g l)))=true then _ else _
    rw[B2]
    cases hd:decide (ai ∈ jD wy ps g l) with
    | true=>rw[hd]at h;exact be ⟨_,rfl,h⟩
    | false=>rw[hd]at h;exact aT h
  have CN:(lf.filter fun l=>!decide (l ∈ a) && decide (ai ∈ jD wy ps g l)).Nodup:=List.Pairwise.filter _ xI
  have fm:∀ {l},l ∈ (lf.filter fun l=>!decide (l ∈ a) && decide (ai ∈ jD wy ps g l))↔l ∈ lf/\l ∉ a/\ai ∈ jD wy ps g l:=fun {l}=>by
   rw[mem_filter,Bool.and_eq_true,Bool.not_eq_true',decide_eq_false_iff_not,decide_eq_true_eq]
  have g8:(ar H7 Fd (.lst (nV (lf.filter fun l=>!decide (l ∈ a) && decide (ai ∈ jD wy ps g l))))) Fd=some (.lst (nV (lf.filter fun l=>!decide (l ∈ a) && decide (ai ∈ jD wy ps g l)))):=ac
  have k8:=(uu.refl H7).new (o := .lst (nV (lf.filter fun l=>!decide (l ∈ a) && decide (ai ∈ jD wy ps g l)))) FC
  show cX 10 (V.ref Fd) _ (ar H7 Fd _) _
  generalize (lf.filter fun l=>!decide (l ∈ a) && decide (ai ∈ jD wy ps g l))=xp at CN fm g8 k8 ⊢
  generalize ar H7 Fd (.lst (nV xp))=H8 at g8 k8 ⊢
  have g8l:=k8 _ _ CK
  have g8a:=k8 _ _ CL
  have nFl:Fd ≠ ln:=Ne.symm (am CK FC)
  have Iz:Fd ≠ av:=Ne.symm (am CL FC)
  have fl:xp.length <= ps.length:=cG _ _ CN fun l hl=>yF l (fm.mp hl).1
  have zN:(a ++ xp).Nodup:=List.nodup_append.mpr ⟨and',CN,fun u hu v hv e=>(fm.mp hv).2.1 (by rw[← e];exact hu)⟩
  refine⟨_,rfl,_,_,rfl,rfl,?_⟩
  refine⟨_,rfl,Fd,rfl,⟨_,ux.of g8⟩,?_⟩
  refine bJ (K:=K) (a:=Fd) (xs:=nV xp) (fun t σ H9=>∃ (b6:Option V),(∀ b o,b ≠ av->H8 b=some o->H9 b=some o)/\H9 av=some (.dK (nk (ju (a ++ xp.take t))))/\σ=[some (.ref x),some (.int out),some (.int g),some (.ref lx),some (.ref Lf),some (.ref af),b6,some (.ref ln),some (.ref av),some (.int ((i:Int) + 1)),some (.ref Fd)])
   ⟨_,(fun b o _ e=>e),by rw[List.take_zero,append_nil];exact g8a,rfl⟩ (fun t σ H9 _ uw=>by obtain⟨_,k9,_⟩:=uw;exact ux.of (k9 _ _ Iz g8)) ?_ ?_
  ·rintro t v σ H9 hv ⟨b6,k9,g9,rfl⟩
   have ht:t < xp.length:=by have:=(List.getElem?_eq_some_iff.mp hv).1;rw[ca]at this;exact this
   have xJ:=List.getElem?_eq_getElem ht
   have vG:=i6 xJ
   rw[vG]at hv
   have hv:=Option.some.inj hv
   subst hv
   have wj:xp[t] ∉ a ++ xp.take t:=fun z=>by
    rcases mem_append.mp z with z | z
    ·exact(fm.mp (getElem_mem ht)).2.1 z
    ·obtain⟨k,hk,ek⟩:=mem_take_iff_getElem.mp z
     exact pairwise_iff_getElem.mp CN k t (by omega) ht (by omega) ek
   generalize xp[t]=l at xJ wj
   refine⟨_,rfl,_,rfl,av,_,rfl,wC.k (k:=Sum.inl (l:Int)) g9 (by rw[sizeLine_eq,mE];unfold ju;rw[length_map,length_append];have:=length_take_le t xp;omega),?_⟩
   rw[mD (by rw[eU];exact wj)]
   refine⟨_,fun b o nb e=>by rw[ak nb];exact k9 b o nb e,?_,rfl⟩
   rw[ac,take_succ,xJ,Option.toList_some,← append_assoc,mV (a ++ xp.take t)];rfl
  rintro σ H9 ⟨b6,k9,g9,rfl⟩
  rw[ca,take_length]at g9
  have I0:=k9 _ _ yq g8l
  have g9f:=k9 _ _ Iz g8
  refine⟨_,rfl, .inl ⟨rfl,_,ux.of I0⟩,_,rfl,ln,Fd,_,_,rfl,rfl,I0,g9f,by rw[sizeLine_eq,ca,ca];omega,?_⟩
  rw[← tS]
  refine⟨a ++ xp,b6,some (.ref Fd),by rw[length_append];omega,fun b o e=>?_,ac,by rw[ak (Ne.symm yq)];exact g9,zN,fun l hl=>?_,fun l hl hf'=>mem_append_left _ (B7 l hl hf'),fun k z l hk hz hl IA=>?_,?_⟩
  ·rw[ak (nln b o e)]
   exact k9 b o (Iv b o e) (k8 _ _ (k7 b o e))
  ·rcases mem_append.mp hl with hl | hl
   ·exact B6 l hl
   ·obtain⟨h1,_,h3⟩:=fm.mp hl
    exact⟨h1,oi (L:=ps.length) xH (k:=ps.length + 1 + 1) (uO.mpr ⟨(CG.mp h1).2, .inr ⟨ai,h3,B9.2⟩⟩)⟩
  ·by_cases hki:k < i
   ·have AX:a[k]? = some z:=by rw[List.getElem?_append_left (by omega)]at hz;exact hz
    exact mem_append_left _ (yG k z l hki AX hl IA)
   ·have xo:k=i:=by omega
    subst xo
    rw[List.getElem?_append_left uX,xB]at hz
    have hz:=Option.some.inj hz
    subst hz
    by_cases zm:l ∈ a
    ·exact mem_append_left _ zm
    ·exact mem_append_right _ (fm.mpr ⟨hl,zm,IA⟩)
  ·rw[show((i + 1:Nat):Int)=(i:Int) + 1 by omega]
end K80
namespace L2
open PySem
noncomputable def sI (K:Frag)(ta:TE):TT:=fun σ H Q=>ta σ H fun x H'=>∃ k,ul K x H' k/\Q k H'
end L2
namespace K80
open PySem L2
variable {P:Program}{w:World}{K:Frag}{mg:Str->Option Value}{base:Heap}
theorem qi:∀ {a b:List Nat},iz a=iz b->a=b
 | [],[],_=>rfl
 | [],_ :: _,h=>by cases h
 | _ :: _,[],h=>by cases h
 | x :: a,y :: b,h=>by
  have h1:(x:Int)=(y:Int):=(List.cons.inj h).1
  have h2:iz a=iz b:=(List.cons.inj h).2
  rw[qi h2]
  congr 1
  omega
theorem kK {F:List Nat}(h:F.Pairwise (· < ·)):Yd.wb (Yd.uM F 0) (Builtin.Int.intBits ((Yd.uM F 0:Nat):Int))=F:=qi (mG (nG h) fun k=>Iff.rfl)
theorem jr (wy:aS->Nat)(k:aS):(wl wy k).Pairwise (· < ·):=Yd.vL _ _
noncomputable def jV (wy:aS->Nat)(ps:List (Int × Int))(out:Nat)(k:bB):List Nat:=(wl wy (aP k)).filter (zV wy ps out k.2.1.toNat)
noncomputable def cf (P:Program)(w:World)(C:Addr):gr:=fun H x wy=>∃ (dx de:Addr)(fs:List (Str × V))(uv:List dH),H x=some (.ins C dx fs)/\fs.lookup ("entries":Str)=some (.ref de)/\fs.lookup ("ways":Str)=none/\uI P w H de uv/\∀ k,(bR uv k).getD (.int 0) = .int (wy k)/\wy k < 2 ^ 400
noncomputable def qH (J:gr):Prop:=∀ (H H':Hp)(y:Addr)(wy:aS->Nat)(a Ca da:Addr),J H y wy->H a=some (.ins Ca da [])->Off a H H'->J H' y wy
theorem lL {P:Program}{w:World}{ts:Ts}:qH (aX P w ts):=fun H H' y wy a Ca da ⟨dx,de,lv,uv,h1,h2,h3⟩ ha o =>
 ⟨dx,de,lv,uv,o _ _ (bu h1 ha (by intro z;cases z)) h1,⟨o _ _ (bu h2.1 ha (by intro z;cases z)) h2.1,fun x hx=>o _ _ (bu (h2.2 x hx) ha (by intro z;cases z)) (h2.2 x hx)⟩,h3⟩
theorem uJ.off {c:Cs}{C:Addr}{J:gr}{H H':Hp}{x lx u4 lt:Addr}{n:Nat}{uz:List V}{ps:List (Int × Int)}{wy:aS->Nat}(hJ:qH J){a Ca da:Addr}(h:uJ c C J H x lx u4 lt n uz ps wy)(ha:H a=some (.ins Ca da []))(o:Off a H H'):uJ c C J H' x lx u4 lt n uz ps wy:=by
 obtain⟨dx,fs,hx,hf⟩:=h.i
 refine⟨hJ _ _ _ _ _ _ _ h.j ha o,⟨dx,fs,o _ _ (bu hx ha (by intro z;cases z;cases hf)) hx,hf⟩,⟨o _ _ (bu h.l.1 ha (by intro z;cases z)) h.l.1,o _ _ (bu h.l.2.1 ha (by intro z;cases z)) h.l.2.1,o.C6 ha h.l.2.2⟩,h.zi,h.wU,h.ok,h.nr⟩
structure FD (K:Frag)(C fw:Addr)(dw:FuncData):Prop where
 cl:wo K C
 nl:uA K C "land"
 ne:uA K C "entries"
 nc:uA K C "cut"
 m:jT K C "ways" fw
 b:Binds K dw ["self", "place", "goal", "came"] []
noncomputable def oS (wy:aS->Nat)(ps:List (Int × Int))(out:Nat)(z:Int × Int):Bool:=decide (jV wy ps out (z.1,z.2,none)=[])
noncomputable def BA (wy:aS->Nat)(ps:List (Int × Int))(n out:Nat):List (Int × Int):=(b8 wy n n).filter (oS wy ps out)
structure sx (wy vD:aS->Nat)(ps:List (Int × Int))(n out:Nat):Prop where
 eq:∀ (p g:Nat)(c:Option Nat),p < n->g < n->c ∈ aE ps p->wl vD (aP ((p:Int),(g:Int),c))=jV wy ps out ((p:Int),(g:Int),c)
 sub:∀ k,∀ z ∈ wl vD k,z ∈ wl wy k
 none:∀ k,(∀ (p g:Nat)(c:Option Nat),p < n->g < n->c ∈ aE ps p->aP ((p:Int),(g:Int),c) ≠ k)->wl vD k=[]
noncomputable def lP (P:Program)(w:World)(c:Cs)(C LC:Addr)(J:gr):Sp:=fun vs H Q _=>∃ (x dx tx lx u4 lt:Addr)(n:Nat)(uz:List V)(ps:List (Int × Int))(wy:aS->Nat)(out:Nat),vs=[.ref x, .ref tx, .int out]/\H x=some (.ins LC dx [])/\uJ c C J H tx lx u4 lt n uz ps wy /\
 ∀ (H':Hp)(de cu:Addr)(uv:List dH)(FE:List V)(vD:aS->Nat),Off x H H'->H' x=some (.ins LC dx [("land", .ref lx),("entries", .ref de),("cut", .ref cu)])->uI P w H' de uv->(∀ k,(bR uv k).getD (.int 0) = .int (vD k)/\vD k < 2 ^ 400)->sx wy vD ps n out->H' cu=some (.tup FE)->uD H' FE (BA wy ps n out)->Q .uB H'
abbrev FF:List Str:=["self", "table", "out", "goal", "alive", "place", "came", "ways"]
noncomputable def nq (s:Stmt):Scope:=match s with
 | .Assign _ (.Call _ [.ListComp _ _ sc _] _ _) _=>sc
 | _=>{ kind := .function,names:=[],isGenerator:=false,isCoroutine:=false }
noncomputable def gK (s:Stmt):List Stmt:=match s with
 | .For _ _ b _ _=>b
 | _=>[]
abbrev ls (i:Nat):Stmt:=(aL ja).getD i (.Pass ⟨0,0,0,0⟩)
theorem qy (ps:List (Int × Int))(p:Nat):[V.uB] ++ e7 Prod.snd ps p ps.length=(aE ps p).map cV:=by
 unfold aE
 rw[map_cons,map_map]
 rfl
theorem en (ps:List (Int × Int))(p:Nat):(aE ps p).length <= ps.length + 1:=by
 unfold aE
 rw[length_cons,length_map]
 have:=gH Prod.snd ps p
 omega
theorem oF {H:Hp}{x C dx:Addr}{fs:List (Str × V)}{o:HO}(hx:H x=some (.ins C dx fs)):∀ {vs:List V}{qs:List (Int × Int)},uD H vs qs->uD (ar H x o) vs qs:=fun uw=>by
 induction uw with
 | nil=>exact .nil
 | cons zz tl ih=>obtain⟨t,e,g⟩:=zz;exact .cons ⟨t,e,by rw[ak (bu g hx (by intro z;cases z))];exact g⟩ ih
structure vT (wy:aS->Nat)(ps:List (Int × Int))(n out:Nat)(uv:List dH)(ks:List bB):Prop where
 a:∀ k ∈ ks,bR uv (aP k)=some (.int (Yd.uM (jV wy ps out k) 0:Nat))
 b:∀ key,bR uv key=none∨∃ k ∈ ks,aP k=key
 r:∀ k ∈ ks,∃ (p g:Nat)(c:Option Nat),k=((p:Int),(g:Int),c)/\p < n/\g < n/\c ∈ aE ps p
theorem vT.put {wy:aS->Nat}{ps:List (Int × Int)}{n out:Nat}{uv:List dH}{ks:List bB}(h:vT wy ps n out uv ks){k:bB}(hk:∃ (p g:Nat) (c:Option Nat),k=((p:Int),(g:Int),c)/\p < n/\g < n/\c ∈ aE ps p)(kt:Addr):vT wy ps n out (e6 uv (aP k) kt (.int (Yd.uM (jV wy ps out k) 0:Nat))) (ks ++ [k]):=by
 refine⟨fun k' xo=>?_,fun key=>?_,fun k' xo=>?_⟩
 ·rw[gS]
  by_cases e:aP k' = aP k
  ·rw[if_pos e,cU e]
  ·rw[if_neg e]
   rcases mem_append.mp xo with z | z
   ·exact h.a k' z
   ·exact absurd (by rw[mem_singleton.mp z]) e
 ·rw[gS]
  by_cases e:key=aP k
  ·exact .inr ⟨k,mem_append_right _ mem_cons_self,e.symm⟩
  ·rw[if_neg e]
   rcases h.b key with z | ⟨k',z,e'⟩
   ·exact .inl z
   ·exact .inr ⟨k',mem_append_left _ z,e'⟩
 ·rcases mem_append.mp xo with z | z
  ·exact h.r k' z
  ·rw[mem_singleton.mp z];exact hk
theorem vT.less {wy:aS->Nat}{ps:List (Int × Int)}{n out:Nat}{uv:List dH}{ks:List bB}(h:vT wy ps n out uv ks)(xR:∀ k,∀ z ∈ wl wy k,z < ps.length)(hp:ps.length <= 40)(vv:∀ (p g:Nat) (c:Option Nat),p < n->g < n->c ∈ aE ps p->((p:Int),(g:Int),c) ∈ ks) :
  ∃ vD:aS->Nat,(∀ k,(bR uv k).getD (.int 0) = .int (vD k)/\vD k < 2 ^ 400)/\sx wy vD ps n out:=by
 have vp:∀ key,∃ m:Nat,(bR uv key).getD (.int 0) = .int (m:Nat)/\m < 2 ^ 400/\((∀ k ∈ ks,aP k ≠ key)->m=0)/\∀ k ∈ ks,aP k=key->m=Yd.uM (jV wy ps out k) 0:=fun key=>by
  by_cases hk:∃ k ∈ ks,aP k=key
  ·obtain⟨k,hk,e⟩:=hk
   refine⟨Yd.uM (jV wy ps out k) 0,by rw[← e,h.a k hk];rfl,py fun z hz=>?_,fun z=>absurd e (z k hk),fun k' _ e'=>by rw[cU (e'.trans e.symm)]⟩
   have:=xR _ z (mem_filter.mp hz).1
   omega
  ·refine⟨0,?_,by decide,fun _=>rfl,fun k xo e=>absurd ⟨k,xo,e⟩ hk⟩
   rcases h.b key with z | z
   ·rw[z];rfl
   ·exact absurd z hk
 refine⟨fun key=>Classical.choose (vp key),fun key=>⟨(Classical.choose_spec (vp key)).1,(Classical.choose_spec (vp key)).2.1⟩,?_⟩
 have hw:∀ k ∈ ks,wl (fun key=>Classical.choose (vp key)) (aP k)=jV wy ps out k:=fun k hk=>by
  have e:=(Classical.choose_spec (vp (aP k))).2.2.2 k hk rfl
  unfold wl
  dsimp only
  rw[e]
  exact kK (List.Pairwise.filter _ (jr _ _))
 have h0:∀ key,(∀ k ∈ ks,aP k ≠ key)->wl (fun key=>Classical.choose (vp key)) key=[]:=fun key hk=>by
  have e:=(Classical.choose_spec (vp key)).2.2.1 hk
  unfold wl
  dsimp only
  rw[e]
  rfl
 refine⟨fun p g c C3 hg hc=>hw _ (vv p g c C3 hg hc),fun key z hz=>?_,fun key hk=>h0 key fun k xo e=>?_⟩
 ·by_cases hk:∃ k ∈ ks,aP k=key
  ·obtain⟨k,hk,e⟩:=hk
   rw[← e,hw k hk]at hz
   rw[← e]
   exact(mem_filter.mp hz).1
  ·rw[h0 key fun k xo e=>hk ⟨k,xo,e⟩]at hz
   cases hz
 ·obtain⟨p,g,c,e1,h1,h2,h3⟩:=h.r k xo
  exact hk p g c h1 h2 h3 (by rw[← e1];exact e)
theorem BB:aw ["self", "place", "goal", "came"] ["self", "place", "goal", "came"] (ah lX):=L2.uU
theorem pT {C f fm fw:Addr}{fd dm dw:FuncData}(F:uN K "ways" "Less.ways" lX f fd)(Lc:FD K C fw dw)(mm:mg "members" = some (.ref fm))(km:keepIn K (.ref fm)=true)(bm:Binds K dm ["some"] [])
  (Gm:Z P w K mg base aD 2 fm dm ["some"] na):Z P w K mg base aD 3 f fd ["self", "place", "goal", "came"] (bU (cf P w C)):=by
 refine F.ok BB (fun vs H Q E h=>?_) (fun uF A outer s H vs Q E hr h=>?_)
 ·obtain⟨x,wy,r,rfl,_⟩:=h
  rfl
 ·obtain⟨x,wy,r,rfl,⟨dx,de,fs,uv,hx,e1,e2,hd,hv⟩,q⟩:=h
  have xU:=lt_of_le_of_lt (add_le_add_left (show 1 <= 64 by decide) _) hr.units
  refine⟨_,ag (aA (ap Gm hr rfl mm km bm .nil au (aa (k4 xU (aH (pv 0) rfl) (aa (cg (aa (pv 1) (aa (pv 2) (aa (pv 3) ad)))) (aa aj ad))) ad))),?_⟩
  refine⟨_,rfl,x,C,dx,fs,_,rfl,hx,Lc.cl,Lc.ne,e1,de,uv,rfl,hd,?_⟩
  refine⟨_,rfl,_,rfl,_,rfl,by show 3 <= sizeLine;decide,fun t ht=>?_⟩
  have s1:uu H (ar H t (.tup [.int r.p, .int r.g,cV r.c])):=(uu.refl H).new ht
  refine⟨_,_,bR uv (aq r),rfl,⟨uv,aq r,t,hd.same s1,rfl,by rw[gG];exact ac,rfl⟩,?_⟩
  rw[(hv (aq r)).1]
  exact⟨wy (aq r),rfl,(hv (aq r)).2,fun D hD=>q _ D s1 hD⟩
theorem xg:aw FF ["self", "table", "out"] (ah ja):=L2.uU
theorem FG:vd FF (ah ja) (nq ((gK ((gK ((gK (ls 2)).getD 1 (.Pass ⟨0,0,0,0⟩))).getD 0 (.Pass ⟨0,0,0,0⟩))).getD 1 (.Pass ⟨0,0,0,0⟩))) ["alive"] [4]:=L2.vH
theorem FH:vd FF (ah ja) (nq (ls 3)) ["self"] [0]:=L2.vH
theorem FI:(["way", "alive"]:List Str).Nodup:=by decide +kernel
theorem FJ:(["pair", "self"]:List Str).Nodup:=by decide +kernel
theorem rq {c:Cs}{J:gr}{ts:Ts}{C LC f fw IB fi3 IC fa y0 fst f1:Addr}{fd dw ID di3 IE da ds dst d1:FuncData}(F:uN K "__init__" "Less.__init__" ja f fd)(T:Txt mg)(L:oU K c)(B:C7 K mg ts f1 d1)(G1:Z P w K mg base aD 1 f1 d1 ["self", "land"] (jZ K))
  (W:lE K C fw dw J) (hJs:qH J) (nl:uA K C "land") (Gw:Z P w K mg base aD 3 fw dw ["self", "place", "goal", "came"] (bU J)) (M:up K c fi3 IC di3 IE) (Gi:Z P w K mg base aD 1 IC IE ["self", "place"] (lS c Prod.snd))
  (Lc:FD K LC IB ID) (Gw':Z P w K mg base aD 3 IB ID ["self", "place", "goal", "came"] (bU (cf P w LC)))
  (ma:mg "lanes_alive" = some (.ref fa)) (ka:keepIn K (.ref fa)=true) (ba:Binds K da ["table", "out", "goal"] []) (Ga:Z P w K mg base aD 5 fa da ["table", "out", "goal"] (j2 c C J))
  (ms:mg "set_of" = some (.ref y0)) (ks:keepIn K (.ref y0)=true) (bs:Binds K ds ["numbers"] []) (Gs:Z P w K mg base aD 1 y0 ds ["numbers"] (mZ K))
  (mst:mg "starts" = some (.ref fst)) (kst:keepIn K (.ref fst)=true) (bst:Binds K dst ["table"] []) (FK:Z P w K mg base aD 4 fst dst ["table"] (hG c C J)) :
  Z P w K mg base aD 6 f fd ["self", "table", "out"] (lP P w c C LC J):=by
 refine F.ok xg (fun vs H Q E h=>?_) (fun uF A outer s H vs Q E hr h=>?_)
 ·obtain⟨x,dx,tx,lx,u4,lt,n,uz,ps,wy,out,rfl,_⟩:=h
  rfl
 ·obtain⟨x,dx,tx,lx,u4,lt,n,uz,ps,wy,out,rfl,hx,hT,q⟩:=h
  have vo:u5 1 _:=hr.mono (by decide)
  have zo:u5 3 _:=hr.mono (by decide)
  have zf:u5 4 _:=hr.mono (by decide)
  have xU:=lt_of_le_of_lt (add_le_add_left (show 1 <= 64 by decide) _) hr.units
  refine⟨_,ae (cy (kB (dC (v := .ref ts.tab) rfl B.mt rfl) B.cm G1 vo B.bt .nil au (aa (pv 0) (aa (aH (pv 1) rfl) ad))))
   (ae (fT (pv 0) (show PE _ _ (ph P w) from n0) rfl)
   (ae (bg PassesOwn.never rfl (aY rfl T.range (aa (aH (aH (pv 1) rfl) rfl) ad)) (ao (i:=3) xg.nd rfl (Or.inl rfl))
    (ae (ay (i:=4) xg.nd rfl (Or.inr rfl) (ap Ga hr rfl ma ka ba .nil au (aa (pv 1) (aa (pv 2) (aa (pv 3) ad)))))
    (ag (bg PassesOwn.never rfl (aY rfl T.range (aa (aH (aH (pv 1) rfl) rfl) ad)) (ao (i:=5) xg.nd rfl (Or.inl rfl))
     (ag (bg PassesOwn.never rfl (aI (ax jC (bE (aa cF ad)) (bz (aH (pv 1) rfl) L.cl M.m4 Gi vo M.b4 .nil au (aa (pv 5) ad)))) (ao (i:=6) xg.nd rfl (Or.inl rfl))
      (ae (ay (i:=7) xg.nd rfl (Or.inl rfl) (bz (pv 1) W.cl W.m Gw zo W.b .nil au (aa (pv 5) (aa (pv 3) (aa (pv 6) ad)))))
      (ag (nu xU (aH (pv 0) rfl) (cg (aa (pv 5) (aa (pv 3) (aa (pv 6) ad)))) (ap Gs vo rfl ms ks bs .nil au (aa (bp (own:=["way"]) (capN:=["alive"]) (cap:=[4]) FG rfl (aI (pv 7))
       (fun C s' H' fp=>⟨ao (i:=0) FI rfl (Or.inl rfl),bN (me (tz xU (pv 0) (pv 1)) (by with_unfolding_all rfl)),pv 0⟩)) ad)) rfl)))))))))
   (ag (fT (pv 0) (aZ cO rfl T.tuple PySem.Pv.boot_tuple (aa (bp (own:=["pair"]) (capN:=["self"]) (cap:=[0]) FH rfl (aI (ap FK zf rfl mst kst bst .nil au (aa (pv 1) ad)))
    (fun C s' H' fp=>⟨ao (i:=0) FJ rfl (Or.inl rfl),bN (cv (show PT _ _ (sI K _) from fq (bz (pv 1) Lc.cl Lc.m Gw' zo Lc.b .nil au (aa (aJ (show jq _ (ir K) from aW) (pv 0) aj (fun _ _=>rfl)) (aa (aJ (show jq _ (ir K) from aW) (pv 0) aj (fun _ _=>rfl)) (aa cF ad)))) (fun _=>rfl))),pv 0⟩)) ad)) rfl)))),?_⟩
  have F1:=hT.wU
  have yr:=hT.zi
  obtain⟨tdx,tfs,EN,htf⟩:=hT.i
  refine⟨rfl,_,rfl,_,rfl,tx,C,tdx,tfs,_,rfl,EN,W.cl,nl,htf,x,LC,dx,_,rfl,hx,Lc.cl,Lc.nl,?_⟩
  refine fun de yk=>⟨_,rfl,x,LC,dx,[("land", .ref lx)],rfl,by rw[ak (am ac yk)];exact ac,Lc.cl,Lc.ne,by show 1 < 1000;decide,?_⟩
  have zg:x ≠ de:=am ac yk
  have xF:H de=none:=by rw[ak (Ne.symm zg)]at yk;exact yk
  generalize xm:ar (ar (ar H x (.ins LC dx [("land", .ref lx)])) de (iN P w de [])) x (.ins LC dx (dq "entries" (.ref de) [("land", .ref lx)]))=H2
  have o2:Off x H H2:=fun b o hb e=>by rw[← xm,ak hb,ak (am e xF),ak hb];exact e
  have x2:H2 x=some (.ins LC dx [("land", .ref lx),("entries", .ref de)]):=by rw[← xm,ac];rfl
  have d2:uI P w H2 de []:=⟨by rw[← xm,ak (Ne.symm zg),ac],fun y hy=>by cases hy⟩
  clear xm
  have tab:∀ {H':Hp},Off x H H'->uJ c C J H' tx lx u4 lt n uz ps wy:=fun {H'} o=>uJ.off hJs hT hx o
  have E0:vT wy ps n out [] []:=⟨(fun k hk=>by cases hk),(fun key => .inl rfl),(fun k hk=>by cases hk)⟩
  obtain⟨FL,FN,FO,FP⟩:=(tab o2).i
  refine⟨_,rfl,tx,C,FL,FN,_,rfl,FO,W.cl,nl,FP,lx,c.land,u4,_,_,rfl,(tab o2).l.1,L.cl,L.np,rfl,(n:Int),rfl,by omega,by omega,?_⟩
  rw[toNat_natCast]
  refine bO (n:=n) (fun i σ H3=>∃ (a3 a4 a5 a6 a7:Option V)(uv:List dH)(ks:List bB),Off x H H3/\H3 x=some (.ins LC dx [("land", .ref lx),("entries", .ref de)])/\uI P w H3 de uv/\uv.length <= i * 492/\vT wy ps n out uv ks/\(∀ (p g:Nat)(c:Option Nat),p < n->g < i->c ∈ aE ps p->((p:Int),(g:Int),c) ∈ ks)/\σ=[some (.ref x),some (.ref tx),some (.int out),a3,a4,a5,a6,a7])
   ⟨none,none,none,none,none,[],[],o2,x2,d2,zero_le _,E0,(fun p g c _ hg=>absurd hg (not_lt_zero _)),rfl⟩ ?_ ?_
  ·rintro i σ H3 hi ⟨a3,a4,a5,a6,a7,uv,ks,o3,x3,d3,l3,e3,m3,rfl⟩
   rw[zero_add]
   refine⟨_,rfl,_,rfl,_,rfl,tx,lx,u4,lt,n,uz,ps,wy,out,i,rfl,tab o3,fun Av av H4 s4 IF gAv FQ IG=>?_⟩
   have o4:Off x H H4:=o3.same s4
   obtain⟨FR,FU,FV,FW⟩:=(tab o4).i
   refine⟨_,rfl,tx,C,FR,FU,_,rfl,FV,W.cl,nl,FW,lx,c.land,u4,_,_,rfl,(tab o4).l.1,L.cl,L.np,rfl,(n:Int),rfl,by omega,by omega,?_⟩
   rw[toNat_natCast]
   have nAv:Av ≠ de:=Ne.symm (am d3.1 IF)
   have nAx:Av ≠ x:=Ne.symm (am x3 IF)
   refine bO (n:=n) (fun j σ H5=>∃ (a5 a6 a7:Option V)(uv:List dH)(ks:List bB),Off x H H5/\H5 x=some (.ins LC dx [("land", .ref lx),("entries", .ref de)])/\uI P w H5 de uv/\H5 Av=some (.dK (nk (ju av)))/\uv.length <= i * 492 + j * 41/\vT wy ps n out uv ks/\(∀ (p g:Nat)(c:Option Nat),p < n->g < i->c ∈ aE ps p->((p:Int),(g:Int),c) ∈ ks)/\(∀ (p:Nat)(c:Option Nat),p < j->c ∈ aE ps p->((p:Int),(i:Int),c) ∈ ks)/\σ=[some (.ref x),some (.ref tx),some (.int out),some (.int (i:Int)),some (.ref Av),a5,a6,a7])
    ⟨_,_,_,uv,ks,o4,s4 _ _ x3,d3.same s4,gAv,by omega,e3,m3,(fun p c hp=>absurd hp (not_lt_zero _)),rfl⟩ ?_ ?_
   ·rintro j σ H5 hj ⟨a5,a6,a7,uv,ks,o5,x5,d5,IH,l5,e5,m5,p5,rfl⟩
    rw[zero_add]
    obtain⟨FX,FY,FZ,Gg⟩:=(tab o5).i
    refine⟨by show 1 <= sizeLine;decide,fun q1 E3=>?_⟩
    have s6:=(uu.refl H5).new (o := .lst [.uB]) E3
    have g6:(ar H5 q1 (.lst [.uB])) q1=some (.lst [.uB]):=ac
    generalize ar H5 q1 (.lst [.uB])=H6 at s6 g6 ⊢
    have BC:=tab (o5.same s6)
    refine⟨_,rfl,tx,C,FX,FY,_,rfl,s6 _ _ FZ,W.cl,nl,Gg,lx,u4,_,rfl,BC.l.1,rfl,_,rfl,lx,u4,lt,(n:Int),uz,ps,(j:Int),rfl,BC.l,by omega,fun H7 q2 s7 hq2=>?_⟩
    have s8:=s7.new (o := .lst (e7 Prod.snd ps j ps.length)) hq2
    have g8:(ar H7 q2 (.lst (e7 Prod.snd ps j ps.length))) q2=some (.lst (e7 Prod.snd ps j ps.length)):=ac
    generalize ar H7 q2 (.lst (e7 Prod.snd ps j ps.length))=H8 at s8 g8 ⊢
    have hxl:=jL (sel:=Prod.snd) (ps:=ps) (pl:=(j:Int)) (i:=ps.length)
    refine⟨q1,q2,_,_,rfl,rfl,s8 _ _ g6,g8,by rw[sizeLine_eq];simp only[length_singleton];omega,fun Cm zU=>?_⟩
    rw[qy]
    have s9:=(s6.trans s8).new (o := .lst ((aE ps j).map cV)) zU
    have gC:(ar H8 Cm (.lst ((aE ps j).map cV))) Cm=some (.lst ((aE ps j).map cV)):=ac
    have nCx:Cm ≠ x:=Ne.symm (am ((s6.trans s8) _ _ x5) zU)
    generalize ar H8 Cm (.lst ((aE ps j).map cV))=H9 at s9 gC ⊢
    have wd:((aE ps j).map cV).length <= 41:=by rw[length_map];have:=en ps j;omega
    refine⟨Cm,rfl,⟨_,ux.of gC⟩,?_⟩
    refine bJ (K:=K) (a:=Cm) (xs:=(aE ps j).map cV) (fun t σ Ha=>∃ (a6 a7:Option V)(uv:List dH)(ks:List bB),Off x H Ha/\Ha x=some (.ins LC dx [("land", .ref lx),("entries", .ref de)])/\uI P w Ha de uv/\Ha Av=some (.dK (nk (ju av)))/\Ha Cm=some (.lst ((aE ps j).map cV))/\uv.length <= i * 492 + j * 41 + t/\vT wy ps n out uv ks/\(∀ (p g:Nat)(c:Option Nat),p < n->g < i->c ∈ aE ps p->((p:Int),(g:Int),c) ∈ ks)/\(∀ (p:Nat)(c:Option Nat),p < j->c ∈ aE ps p->((p:Int),(i:Int),c) ∈ ks)/\(∀ c ∈ (aE ps j).take t,((j:Int),(i:Int),c) ∈ ks)/\σ=[some (.ref x),some (.ref tx),some (.int out),some (.int (i:Int)),some (.ref Av),some (.int (j:Int)),a6,a7])
     ⟨_,_,uv,ks,o5.same s9,s9 _ _ x5,d5.same s9,s9 _ _ IH,gC,by omega,e5,m5,p5,(fun c hc=>by rw[List.take_zero]at hc;cases hc),rfl⟩ (fun t σ Ha _ uw=>by obtain⟨_,_,_,_,_,_,_,_,g,_⟩:=uw;exact ux.of g) ?_ ?_
    ·rintro t v σ Ha hv ⟨a6,a7,uv,ks,oa,xa,CO,CP,II,la,ea,Gh,Gj,ta,rfl⟩
     rw[List.getElem?_map]at hv
     obtain⟨cc,hcc,rfl⟩:∃ cc,(aE ps j)[t]? = some cc/\v=cV cc:=by
      cases e:(aE ps j)[t]? with
      | none=>rw[e]at hv;cases hv
      | some c=>rw[e]at hv;exact⟨c,rfl,(Option.some.inj hv).symm⟩
     have F2:t < (aE ps j).length:=(List.getElem?_eq_some_iff.mp hcc).1
     have CA:=mem_of_getElem? hcc
     obtain⟨Gp,Gq,BD,htfa⟩:=(tab oa).i
     obtain⟨EW,fs2,vm,ym⟩:=W.inst _ _ _ (tab oa).j
     rw[BD]at vm
     injection vm with vm
     injection vm with _ e1 e2
     subst e1 e2
     refine⟨_,rfl,tx,Gp,Gq,rfl,BD,ym,_,rfl,_,rfl,_,rfl,tx,wy,⟨(j:Int),(i:Int),cc,[]⟩,rfl,(tab oa).j,fun Hb Wd sb hWd=>?_⟩
     have yt:aq ⟨(j:Int),(i:Int),cc,[]⟩ = aP ((j:Int),(i:Int),cc):=rfl
     rw[yt,jH]
     have sc:=sb.new (o := .lst (nV (wl wy (aP ((j:Int),(i:Int),cc))))) hWd
     have gW:(ar Hb Wd (.lst (nV (wl wy (aP ((j:Int),(i:Int),cc)))))) Wd=some (.lst (nV (wl wy (aP ((j:Int),(i:Int),cc))))):=ac
     generalize ar Hb Wd (.lst (nV (wl wy (aP ((j:Int),(i:Int),cc)))))=Hc at sc gW ⊢
     have gAc:=sc _ _ CP
     have BE:=hT.ok (aP ((j:Int),(i:Int),cc))
     have hwll:=hT.nr (aP ((j:Int),(i:Int),cc))
     refine⟨_,rfl,Wd,rfl,⟨_,ux.of gW⟩,?_⟩
     refine fK (fun z=>decide (z ∈ av)) (by omega) gW (fun z acc N hz h=>?_) fun Fl hFl=>?_
     ·refine⟨_,rfl,_,rfl,Av,_,rfl,v7.k (k:=Sum.inl (z:Int)) gAc,_,rfl,?_⟩
      rw[pc av FQ z]
      cases hd:decide (z ∈ av) with
      | true=>rw[hd]at h;exact be ⟨_,rfl,h⟩
      | false=>rw[hd]at h;exact aT h
     have elw:(wl wy (aP ((j:Int),(i:Int),cc))).filter (fun z=>decide (z ∈ av))=jV wy ps out ((j:Int),(i:Int),cc):=by
      unfold jV
      refine List.filter_congr fun z hz=>?_
      show _=zV wy ps out ((i:Int)).toNat z
      rw[toNat_natCast]
      cases CM:zV wy ps out i z with
      | true=>exact decide_eq_true ((IG z).mpr ⟨BE z hz,CM⟩)
      | false=>exact decide_eq_false fun h=>by rw[((IG z).mp h).2]at CM;cases CM
     rw[elw]
     have sd:=sc.new (o := .lst (nV (jV wy ps out ((j:Int),(i:Int),cc)))) hFl
     have gF:(ar Hc Fl (.lst (nV (jV wy ps out ((j:Int),(i:Int),cc))))) Fl=some (.lst (nV (jV wy ps out ((j:Int),(i:Int),cc)))):=ac
     generalize ar Hc Fl (.lst (nV (jV wy ps out ((j:Int),(i:Int),cc))))=Hd at sd gF ⊢
     refine⟨Fl,jV wy ps out ((j:Int),(i:Int),cc),rfl,ux.of gF,(fun z hz=>by have:=BE z (mem_filter.mp hz).1;omega),?_⟩
     have xd:=sd _ _ xa
     refine⟨_,rfl,x,LC,dx,_,_,rfl,xd,Lc.cl,Lc.ne,rfl,_,rfl,_,rfl,_,rfl,by show 3 <= sizeLine;decide,fun kt EU=>?_⟩
     have se:=sd.new (o := .tup [.int (j:Int), .int (i:Int),cV cc]) EU
     have gk:(ar Hd kt (.tup [.int (j:Int), .int (i:Int),cV cc])) kt=some (.tup ((aP ((j:Int),(i:Int),cc)).map oV)):=by
      rw[ac,← yt,gG]
     generalize ar Hd kt (.tup [.int (j:Int), .int (i:Int),cV cc])=He at se gk ⊢
     have BF:=CO.same se
     have hc41:(aE ps j).length <= 41:=by have:=en ps j;omega
     refine⟨de,uv,aP ((j:Int),(i:Int),cc),kt,rfl,BF,rfl,gk,by rw[sizeLine_eq];have:i * 492 <= 12 * 492:=mul_le_mul_right _ (by omega);have:j * 41 <= 12 * 41:=mul_le_mul_right _ (by omega);omega,?_⟩
     have zp:∀ b o,(∀ φ,o ≠ .ext φ)->Ha b=some o->(ar He de (iN P w de (e6 uv (aP ((j:Int),(i:Int),cc)) kt (.int (Yd.uM (jV wy ps out ((j:Int),(i:Int),cc)) 0:Nat))))) b=some o:=fun b o no e=>by
      rw[ak (bu e CO.1 (no _))]
      exact se _ _ e
     refine⟨_,_,_,ks ++ [((j:Int),(i:Int),cc)],fun b o nb e=>?_,?_,⟨ac,jb (F:=fun k a=>(ar He de (iN P w de (e6 uv (aP ((j:Int),(i:Int),cc)) kt (.int (Yd.uM (jV wy ps out ((j:Int),(i:Int),cc)) 0:Nat))))) a=some (.tup (k.map oV))) (fun y hy=>?_) ?_⟩,?_,?_,?_,ea.put ⟨j,i,cc,rfl,hj,hi,CA⟩ kt,fun p g c hp hg hc=>mem_append_left _ (Gh p g c hp hg hc),fun p c hp hc=>mem_append_left _ (Gj p c hp hc),fun c hc=>?_,rfl⟩
     ·rw[ak (am e xF)]
      exact se _ _ (oa b o nb e)
     ·exact zp _ _ (fun φ z=>by cases z) xa
     ·rw[ak (bu (BF.2 y hy) BF.1 (by intro z;cases z))];exact BF.2 y hy
     ·rw[ak (bu gk BF.1 (by intro z;cases z))];exact gk
     ·exact zp _ _ (fun φ z=>by cases z) CP
     ·exact zp _ _ (fun φ z=>by cases z) II
     ·have:=@dP uv (aP ((j:Int),(i:Int),cc)) kt (.int (Yd.uM (jV wy ps out ((j:Int),(i:Int),cc)) 0:Nat))
      omega
     ·rw[take_succ,hcc,Option.toList_some]at hc
      rcases mem_append.mp hc with z | z
      ·exact mem_append_left _ (ta c z)
      ·rw[mem_singleton.mp z];exact mem_append_right _ mem_cons_self
    ·rintro σ Ha ⟨a6,a7,uv,ks,oa,xa,CO,CP,II,la,ea,Gh,Gj,ta,rfl⟩
     rw[length_map,take_length]at ta
     refine⟨_,_,_,uv,ks,oa,xa,CO,CP,by rw[succ_mul];omega,ea,Gh,fun p c hp hc=>?_,rfl⟩
     rcases lt_or_ge p j with h | h
     ·exact Gj p c h hc
     ·have:p=j:=by omega
      subst this
      exact ta c hc
   ·rintro σ H5 ⟨a5,a6,a7,uv,ks,o5,x5,d5,IH,l5,e5,m5,p5,rfl⟩
    have:n * 41 <= 12 * 41:=mul_le_mul_right _ yr
    refine⟨_,_,_,_,_,uv,ks,o5,x5,d5,by rw[succ_mul];omega,e5,fun p g c hp hg hc=>?_,rfl⟩
    rcases lt_or_ge g i with h | h
    ·exact m5 p g c hp h hc
    ·have:g=i:=by omega
     subst this
     exact p5 p c hp hc
  rintro σ H3 ⟨a3,a4,a5,a6,a7,uv,ks,o3,x3,d3,l3,e3,m3,rfl⟩
  obtain⟨vD,vp,CQ⟩:=e3.less hT.ok F1 m3
  have zq:=tab o3
  obtain⟨Gu,Gz,G0,G5⟩:=zq.i
  have hLA:∀ {H':Hp},uu H3 H'->cf P w LC H' x vD:=fun {H'} s'=>⟨dx,de,_,uv,s' _ _ x3,rfl,rfl,d3.same s',vp⟩
  refine⟨_,rfl,tx,Gu,lx,u4,lt,Gz,n,uz,ps,wy,rfl,zq.j,G0,G5,zq.l,yr,fun St us H4 s4 hSt CS G6=>⟨St,rfl,⟨_,ux.of CS⟩,?_⟩⟩
  have BG:us.length=(b8 wy n n).length:=Paired.length G6
  have hul2:us.length <= 144:=by
   rw[BG]
   have:=eJ wy n n
   have:n * n <= 12 * 12:=mul_le_mul yr yr
   omega
  have we:∀ z ∈ b8 wy n n,∃ p g:Nat,z=((p:Int),(g:Int))/\p < n/\g < n:=fun z hz=>by
   obtain⟨p,hp,h⟩:=mem_flatMap.mp hz
   obtain⟨g,hg,e⟩:=mem_map.mp h
   exact⟨p,g,e.symm,mem_range.mp hp,mem_range.mp (mem_filter.mp hg).1⟩
  unfold BA at q
  generalize b8 wy n n=zs at q G6 BG we
  refine bA us.length (by rw[sizeLine_eq];omega) (fun i acc H'=>uu H4 H'/\uD H' acc ((zs.take i).filter (oS wy ps out))) ⟨uu.refl _, .nil⟩ (fun i acc H' h=>by have:=Paired.length h.2;rw[this];exact le_trans (length_filter_le _ _) (length_take_le _ _)) (fun i acc H' hi h=>⟨⟨us,us[i],ux.of (h.1 _ _ CS),List.getElem?_eq_getElem hi⟩,fun v H5 hy=>?_⟩) (fun acc H' h=>⟨⟨us,ux.of (h.1 _ _ CS),le_refl _⟩,fun Ct IJ=>?_⟩)
  ·obtain⟨e,hy⟩:=hy
   subst e
   obtain⟨s5,xc⟩:=h
   have hv:=hy us (ux.of (s5 _ _ CS))
   obtain⟨z,hz,t,rfl,gt⟩:=uD.get G6 hv
   obtain⟨p,g,rfl,hp,hg⟩:=we z (mem_of_getElem? hz)
   have wR:=s4.trans s5
   have IK:uE K H5 t [.int (p:Int), .int (g:Int)]:=uE.of (s5 _ _ gt)
   refine⟨_,rfl,x,dx,_,rfl,wR _ _ x3,rfl,_,rfl,t,_,0,_,rfl,rfl,IK,aB (j:=0) rfl,_,rfl,t,_,1,_,rfl,rfl,IK,aB (j:=1) rfl,x,vD,⟨(p:Int),(g:Int),none,[]⟩,rfl,hLA wR,fun H6 D6 s6 hD6=>?_⟩
   have s7:=s6.new (o := .lst (bS (vD (aq ⟨(p:Int),(g:Int),none,[]⟩)))) hD6
   refine⟨_, .inl ⟨_,ux.of ac,rfl⟩,?_⟩
   generalize ar H6 D6 (.lst (bS (vD (aq ⟨(p:Int),(g:Int),none,[]⟩))))=H7 at s7 ⊢
   have yt:aq ⟨(p:Int),(g:Int),none,[]⟩ = aP ((p:Int),(g:Int),none):=rfl
   have eB:(!(!(bS (vD (aq ⟨(p:Int),(g:Int),none,[]⟩))).isEmpty))=oS wy ps out ((p:Int),(g:Int)):=by
    rw[jH,yt,CQ.eq p g none hp hg mem_cons_self]
    unfold oS
    cases jV wy ps out ((p:Int),(g:Int),none)<;>rfl
   show if (!(!(bS (vD (aq ⟨(p:Int),(g:Int),none,[]⟩))).isEmpty))=true then _ else _
   rw[eB]
   have wX:=uD.same s7 xc
   cases hd:oS wy ps out ((p:Int),(g:Int)) with
   | true =>
    refine be ⟨_,rfl,s5.trans s7,?_⟩
    rw[take_succ,hz,Option.toList_some,filter_append,filter_cons,hd]
    exact uD.snoc ⟨t,rfl,s7 _ _ (s5 _ _ gt)⟩ wX
   | false =>
    refine aT ⟨s5.trans s7,?_⟩
    rw[take_succ,hz,Option.toList_some,filter_append,filter_cons,hd]
    simpa using wX
  obtain⟨s5,xc⟩:=h
  rw[BG,take_length]at xc
  have s6:=s5.new (o := .lst acc) IJ
  have g6:(ar H' Ct (.lst acc)) Ct=some (.lst acc):=ac
  have IL:=(uu.refl H').new (o := .lst acc) IJ
  generalize ar H' Ct (.lst acc)=H6 at s6 g6 IL ⊢
  refine⟨Ct,_,rfl, .inl ⟨ux.of g6,fun cu IM=>?_⟩⟩
  have xT:=s4.trans s6
  have s7:=xT.new (o := .tup acc) IM
  have g7:(ar H6 cu (.tup acc)) cu=some (.tup acc):=ac
  have BH:=(uu.refl H6).new (o := .tup acc) IM
  generalize ar H6 cu (.tup acc)=H7 at s7 g7 BH ⊢
  have sH:uu H' H7:=IL.trans BH
  have x7:=s7 _ _ x3
  refine⟨_,rfl,x,LC,dx,[("land", .ref lx),("entries", .ref de)],rfl,x7,Lc.cl,Lc.nc,by show 2 < 1000;decide,?_⟩
  have d7:=d3.same s7
  have wX:uD H7 acc (zs.filter (oS wy ps out)):=uD.same (show uu H' H7 from fun b o e=>sH b o e) xc
  have ncx:cu ≠ x:=bu g7 x7 (by intro z;cases z)
  refine q _ de cu uv acc vD (fun b o nb e=>?_) ac ⟨?_,fun y hy=>?_⟩ vp CQ ?_ ?_
  ·rw[ak nb]
   exact s7 _ _ (o3 b o nb e)
  ·rw[ak (bu d7.1 x7 (by intro z;cases z))];exact d7.1
  ·rw[ak (bu (d7.2 y hy) x7 (by intro z;cases z))];exact d7.2 y hy
  ·rw[ak ncx];exact g7
  ·exact oF x7 wX
noncomputable def gx (K:Frag):Sp:=fun vs H Q _=>∃ (a:Addr)(ns:List Int)(k:Int),vs=[.ref a, .int k]/\ux K H a (ns.map V.int)/\0 <= k/\k <= 100000/\∀ d H',uu H H'->(0 <= d/\d < 4294967296)->Q (.int d) H'
theorem mF {i j:Int}(h:0 < j/\j <= 4294967296):0 <= i % j/\i % j < 4294967296:=by
 have h0:=emod_nonneg i (show j ≠ 0 by omega)
 have h1:=emod_lt_of_pos i h.1
 omega
theorem qb {z:Int}(h:0 <= z):∃ m:Nat,z=(m:Int):=eq_ofNat_of_zero_le h
theorem pV {f:Addr}{fd:FuncData}(F:uN K "_law_draw" "_law_draw" pC f fd)(T:Txt mg):Z P w K mg base aD 1 f fd ["_law_script", "_law_k"] (gx K):=by
 refine F.ok vw (fun vs H Q E h=>?_) (fun uF A outer s H vs Q E hr h=>?_)
 ·obtain⟨a,ns,k,rfl,_⟩:=h
  rfl
 ·obtain⟨a,ns,k,rfl,hS,k0,k1,q⟩:=h
  have hu:=hr.units
  refine⟨_,ae (ay (i:=2) vw.nd rfl (Or.inl rfl) aj)
   (ae (b9 (PW.pt (ix (az (jB hu) (pv 0) (bE ad) (aC _)) (fj (az bW (ax bF (aJ bc (pv 0) aj (fun _ _=>rfl)) aj) aj (aC _)))))
    (ae (b9 (az sk (ax cM aj (ax cz (pv 1) aj)) (aM aO rfl T.len PySem.boot_len (aa (pv 0) ad)) (aC _))
      (ag (ay (i:=2) vw.nd rfl (Or.inl rfl) (aJ bc (pv 0) (ax cM aj (ax cz (pv 1) aj)) (fun _ _=>rfl)))) aK)
     (ag (aA (ax bF (ax mz (pv 2) (ax i3 aj (ax bF (pv 1) aj))) (ax tD aj aj))))) aK)
   (ae (b9 (az (jB hu) (pv 0) (bE ad) (aC _)) (ag (ay (i:=2) vw.nd rfl (Or.inl rfl) (aJ bc (pv 0) (ax bF (pv 1) (aM aO rfl T.len PySem.boot_len (aa (pv 0) ad))) (fun _ _=>rfl)))) aK)
   (ae (ay (i:=3) vw.nd rfl (Or.inl rfl) (ax bF (ax i3 (ax cM (ax cM (pv 2) (ax i3 aj (pv 1))) aj) aj) aj))
   (ae (ay (i:=3) vw.nd rfl (Or.inl rfl) (ax bF (ax i3 (pv 3) (ax cM (ax cz (pv 3) aj) aj)) aj))
   (ag (aA (ax bF (ax i3 (pv 3) (ax cM (ax cz (pv 3) aj) aj)) aj))))))),?_⟩
  have m30a:0 <= k % 30:=emod_nonneg _ (by decide)
  have d30:0 <= k / 30:=Int.ediv_nonneg k0 (by decide)
  have L0:∀ {H':Hp},uu H H'->∀ l,ux K (ar H' l (.lst [])) l (([]:List Int).map V.int):=fun _ l=>ux.of ac
  refine⟨_,rfl,by show 0 <= sizeLine;exact zero_le _,fun l hl=>⟨a,l,ns,[],rfl,rfl,(uu.new (uu.refl H) hl).seq hS,ux.of ac,_,rfl,?_⟩⟩
  have s1:uu H (ar H l (.lst [])):=uu.new (uu.refl H) hl
  generalize ar H l (.lst [])=H1 at s1 ⊢
  by_cases ve:ns=[]
  ·refine qk ve (aT ?_)
   refine⟨_,rfl,by show 0 <= sizeLine;exact zero_le _,fun l2 xQ=>⟨a,l2,ns,[],rfl,rfl,(uu.new s1 xQ).seq hS,ux.of ac,_,rfl,qk ve ?_⟩⟩
   have s2:uu H (ar H1 l2 (.lst [])):=uu.new s1 xQ
   generalize ar H1 l2 (.lst [])=H2 at s2 ⊢
   refine⟨_,rfl,_,rfl,_,_,rfl,rfl, .inl ⟨by decide,by decide⟩,_,_,rfl,rfl,_,_,rfl,rfl,_,_,rfl,rfl, .inr ⟨by decide,by decide⟩,_,_,rfl,rfl,(by show (0:Int) < 2147483647;decide),?_⟩
   refine⟨_,rfl,_,rfl,_,_,rfl,rfl,⟨by decide,by decide⟩,_,_,rfl,rfl,_,_,rfl,rfl, .inl (ee (by decide)),_,_,rfl,rfl,(by show (0:Int) < 2147483647;decide),?_⟩
   exact⟨_,rfl,_,rfl,_,_,rfl,rfl,⟨by decide,by decide⟩,_,_,rfl,rfl,_,_,rfl,rfl, .inl (ee (by decide)),_,_,rfl,rfl,(by show (0:Int) < 2147483399;decide),q _ _ s2 (mF (by decide))⟩
  ·have hlen:0 < ns.length:=length_pos_iff.mpr ve
   rw[decide_eq_false ve]
   refine be ?_
   obtain⟨m0,G7⟩:=jN (ns:=ns) (i:=0) (by decide) (by omega)
   refine⟨_,rfl,a,_,0,_,rfl,rfl,s1.seq hS,G7,_,_,rfl,rfl,(by show (0:Int) < 2;decide),rfl,_,rfl,?_⟩
   rw[dW]
   cases hodd:decide (m0 % 2=1) with
   | true =>
    refine be ?_
    have B8:∀ cell:Int,Q (.int (cell / 2 ^ (32 * (k % 30)).toNat % 2 ^ (32:Int).toNat)) H1:=fun cell=>q _ _ s1 (mF (by decide))
    have fin:∀ cell:Int,0 <= 32 * (k % 30):=fun _=>by omega
    refine⟨_,rfl,_,_,rfl,rfl,⟨by decide,by decide⟩,_,_,rfl,rfl,_,rfl,a,_,rfl, .inl (s1.seq hS),_,_,rfl,rfl,_,rfl,?_⟩
    refine kP (fun uX=>?_) fun _=>?_
    ·have BI:1 + k / 30 < ((ns.map V.int).length:Nat):=of_decide_eq_true uX
     rw[length_map]at BI
     obtain⟨m1,G8⟩:=jN (ns:=ns) (i:=1 + k / 30) (by omega) BI
     refine⟨_,rfl,_,rfl,_,_,rfl,rfl,⟨by decide,by decide⟩,_,_,rfl,rfl,a,_,_,_,rfl,rfl,s1.seq hS,G8,?_⟩
     exact⟨_,rfl,_,rfl,_,_,rfl,rfl,(by show (0:Int) < 30;decide),_,_,rfl,rfl, .inl ⟨by decide,by decide⟩,_,_,rfl,rfl,fin 0,_,_,rfl,rfl,⟨by decide,by decide,by decide⟩,_,_,rfl,rfl,(by show (0:Int) < 2 ^ (32:Int).toNat;decide),B8 _⟩
    ·exact⟨_,rfl,_,rfl,_,_,rfl,rfl,(by show (0:Int) < 30;decide),_,_,rfl,rfl, .inl ⟨by decide,by decide⟩,_,_,rfl,rfl,fin 0,_,_,rfl,rfl,⟨by decide,by decide,by decide⟩,_,_,rfl,rfl,(by show (0:Int) < 2 ^ (32:Int).toNat;decide),B8 _⟩
   | false =>
    refine aT ?_
    refine⟨_,rfl,by show 0 <= sizeLine;exact zero_le _,fun l2 xQ=>⟨a,l2,ns,[],rfl,rfl,(uu.new s1 xQ).seq hS,ux.of ac,_,rfl,?_⟩⟩
    have s2:uu H (ar H1 l2 (.lst [])):=uu.new s1 xQ
    generalize ar H1 l2 (.lst [])=H2 at s2 ⊢
    rw[decide_eq_false ve]
    refine be ?_
    have y4:0 < ((ns.map V.int).length:Int):=by rw[length_map];omega
    obtain⟨m2,hm2⟩:=jN (ns:=ns) (i:=k % ((ns.map V.int).length:Nat)) (emod_nonneg _ (by omega)) (by have:=emod_lt_of_pos k y4;rw[length_map]at this ⊢;exact this)
    refine⟨_,rfl,_,rfl,_,rfl,a,_,rfl, .inl (s2.seq hS),_,_,rfl,rfl,y4,a,_,_,_,rfl,rfl,s2.seq hS,hm2,?_⟩
    refine⟨_,rfl,_,rfl,_,_,rfl,rfl, .inl ⟨by decide,by decide⟩,_,_,rfl,rfl,_,_,rfl,rfl,_,_,rfl,rfl, .inr ⟨by decide,by decide⟩,_,_,rfl,rfl,(by show (0:Int) < 2147483647;decide),?_⟩
    refine⟨_,rfl,_,rfl,_,_,rfl,rfl,⟨by decide,by decide⟩,_,_,rfl,rfl,_,_,rfl,rfl, .inl (ee (by decide)),_,_,rfl,rfl,(by show (0:Int) < 2147483647;decide),?_⟩
    exact⟨_,rfl,_,rfl,_,_,rfl,rfl,⟨by decide,by decide⟩,_,_,rfl,rfl,_,_,rfl,rfl, .inl (ee (by decide)),_,_,rfl,rfl,(by show (0:Int) < 2147483399;decide),q _ _ s2 (mF (by decide))⟩
noncomputable def lQ (K:Frag):Sp:=fun vs H Q _=>∃ (a:Addr)(ns:List Int),vs=[.ref a]/\ux K H a (ns.map V.int) /\
 ∀ (t l:Addr)(n:Nat)(uH:List V)(ps:List (Int × Int))(H':Hp),uu H H'->H' t=some (.tup [.int n, .ref l])->H' l=some (.lst uH)->uD H' uH ps->ps.length <= 40->(1 <= n/\n <= 12)->(∀ q ∈ ps,fB n q=true)->Q (.ref t) H'
noncomputable def lN:Sp:=fun vs H Q _=>∃ (l:Addr)(ks:List Nat)(d:Int),vs=[.ref l, .int d]/\H l=some (.lst (b5 ks))/\ks.length <= 1000 /\
 ∀ (D:Addr)(us:List Nat)(H':Hp),uu H H'->H D=none->H' D=some (.lst (b5 us))->(∀ k ∈ us,k ∈ ks)->us.length <= ks.length->Q (.ref D) H'
abbrev NLd:List Str:=["_law_script", "_law_places", "_law_lanes", "_law_k", "_law_draw_here"]
abbrev IP:List Str:=["_law_begin", "_law_draw_here"]
noncomputable def nn (s:Stmt):Scope:=match s with
 | .Return (some (.ListComp _ _ sc _)) _=>sc
 | _=>eh
theorem tR {ks:List Nat}{i:Int}(h0:0 <= i)(h1:i < (ks.length:Nat)):∃ k ∈ ks,nZ (b5 ks) i=some (.int (k:Nat)):=by
 obtain⟨j,rfl⟩:=eq_ofNat_of_zero_le h0
 have hj:j < ks.length:=by omega
 exact⟨ks[j],getElem_mem hj,aB (by unfold b5;simp[hj])⟩
theorem BJ {i:Int}(h0:0 <= i)(h1:i < 8):∃ n:Nat,nZ [V.int 1, .int 2, .int 3, .int 4, .int 5, .int 6, .int 3, .int 12] i=some (.int (n:Int))/\1 <= n/\n <= 12:=by
 obtain⟨v,e,hv⟩:=qA (xs:=[V.int 1, .int 2, .int 3, .int 4, .int 5, .int 6, .int 3, .int 12]) h0 h1
 rw[e]
 simp only[mem_cons,not_mem_nil,or_false]at hv
 rcases hv with rfl | rfl | rfl | rfl | rfl | rfl | rfl | rfl
 ·exact⟨1,rfl,by decide⟩
 ·exact⟨2,rfl,by decide⟩
 ·exact⟨3,rfl,by decide⟩
 ·exact⟨4,rfl,by decide⟩
 ·exact⟨5,rfl,by decide⟩
 ·exact⟨6,rfl,by decide⟩
 ·exact⟨3,rfl,by decide⟩
 ·exact⟨12,rfl,by decide⟩
theorem xK:aw NLd ["_law_script"] (ah pA):=L2.uU
theorem r0 {f fd:Addr}{df dd:FuncData}(F:uN K "_law_land" "_law_land" pA f df)(T:Txt mg)(md:mg "_law_draw" = some (.ref fd))(kd:keepIn K (.ref fd)=true)(bd:Binds K dd ["_law_script", "_law_k"] [])
  (Gd:Z P w K mg base aD 1 fd dd ["_law_script", "_law_k"] (gx K)):Z P w K mg base aD 2 f df ["_law_script"] (lQ K):=by
 refine F.ok xK (fun vs H Q E h=>?_) (fun uF A outer s H vs Q E hr h=>?_)
 ·obtain⟨a,ns,rfl,_⟩:=h
  rfl
 ·obtain⟨a,ns,rfl,hS,q⟩:=h
  have vo:u5 1 _:=hr.mono (by decide)
  refine⟨_,ae (ay (i:=1) xK.nd rfl (Or.inl rfl) (aJ bc (bE (aa aj (aa aj (aa aj (aa aj (aa aj (aa aj (aa aj (aa aj ad)))))))))
    (ax bF (ap Gd vo rfl md kd bd .nil au (aa (pv 0) (aa aj ad))) aj) (fun _ _=>rfl)))
   (ae (ay (i:=2) xK.nd rfl (Or.inl rfl) (bE ad))
   (ae (b9 (az n5 (pv 1) aj (aC _))
    (ag (bg PassesOwn.never rfl (aY rfl T.range (aa (ax bF (ap Gd vo rfl md kd bd .nil au (aa (pv 0) (aa aj ad))) aj) ad)) (ao (i:=3) xK.nd rfl (Or.inl rfl))
    (ae (ay (i:=4) xK.nd rfl (Or.inl rfl) (ap Gd vo rfl md kd bd .nil au (aa (pv 0) (aa (ax cM aj (pv 3)) ad))))
    (ag (cy (dQ plainAttrs_list PySem.F.slot_list_append PySem.F.type_list_append el (pv 2) (aa (cg (aa (ax bF (pv 4) (pv 1))
     (aa (ax bF (ax cM (ax cM (ax bF (pv 4) (pv 1)) aj) (ax bF (ax cz (pv 4) aj) (ax pM (pv 1) aj))) (pv 1)) ad))) ad))))))) aK)
   (ag (aA (cg (aa (pv 1) (aa (pv 2) ad))))))),?_⟩
  refine⟨by show 8 <= sizeLine;decide,fun e8 CC=>?_⟩
  have s1:=(uu.refl H).new (o := .lst [V.int 1, .int 2, .int 3, .int 4, .int 5, .int 6, .int 3, .int 12]) CC
  have g1:(ar H e8 (.lst [V.int 1, .int 2, .int 3, .int 4, .int 5, .int 6, .int 3, .int 12])) e8=some (.lst [V.int 1, .int 2, .int 3, .int 4, .int 5, .int 6, .int 3, .int 12]):=ac
  refine⟨_,rfl,a,ns,0,rfl,s1.seq hS,by decide,by decide,fun d0 H0 s0 _=>⟨_,_,rfl,rfl,(by show (0:Int) < 8;decide),?_⟩⟩
  obtain⟨n,hn,yT⟩:=BJ (i:=d0 % 8) (by omega) (by omega)
  refine⟨e8,_,_,_,rfl,rfl,ux.of (s0 _ _ g1),hn,?_⟩
  have s5:=s1.trans s0
  refine⟨zero_le _,fun l hl=>?_⟩
  have s6:=s5.new (o := .lst []) hl
  have g6:(ar H0 l (.lst [])) l=some (.lst []):=ac
  have hHl:H l=none:=s5.free hl
  show cX 2 (V.ref l) _ (ar H0 l (.lst [])) _
  generalize ar H0 l (.lst [])=H6 at s6 g6 ⊢
  refine⟨_,rfl,_,_,rfl,rfl,_,rfl,?_⟩
  refine kP (fun h1=>?_) fun h1=>?_
  ·have h1:2 <= n:=by have:=of_decide_eq_true h1;omega
   refine⟨_,rfl,a,ns,1,rfl,s6.seq hS,by decide,by decide,fun d1 H7 BH _=>⟨_,_,rfl,rfl,(by show (0:Int) < 13;decide),?_⟩⟩
   obtain⟨m,hm,hm40⟩:∃ m:Nat,d1 % 13=(m:Int)/\m <= 40:=⟨(d1 % 13).toNat,by omega,by omega⟩
   refine⟨d1 % 13,rfl,by omega,by omega,?_⟩
   rw[show(d1 % 13).toNat=m by omega]
   refine bO (n:=m) (fun i σ H3=>∃ (a1 a2:Option V)(uH:List V)(ps:List (Int × Int)),uu H H3/\H3 l=some (.lst uH)/\uD H3 uH ps/\ps.length=i/\(∀ q ∈ ps,fB n q=true)/\σ=[some (.ref a),some (.int n),some (.ref l),a1,a2])
    ⟨none,none,[],[],s6.trans BH,BH _ _ g6, .nil,rfl,(fun q hq=>by cases hq),rfl⟩ ?_ ?_
   ·rintro i σ H3 hi ⟨a1,a2,uH,ps,s7,g3,CT,hlen,u1,rfl⟩
    refine⟨_,rfl,_,rfl,_,_,rfl,rfl,a,ns,_,rfl,s7.seq hS,by omega,by omega,fun d H4 s8 _=>?_⟩
    have BK:0 <= d % (n:Int)/\d % (n:Int) < n:=⟨emod_nonneg _ (by omega),emod_lt_of_pos _ (by omega)⟩
    have yH:0 <= d / 16 % ((n:Int) - 1)/\d / 16 % ((n:Int) - 1) < (n:Int) - 1:=⟨emod_nonneg _ (by omega),emod_lt_of_pos _ (by omega)⟩
    have np:(0:Int) < (n:Int):=by omega
    refine⟨_,rfl, .inl ⟨rfl,_,ux.of (s8 _ _ g3)⟩,_,rfl,_,rfl,_,_,rfl,rfl,np,_,rfl,_,rfl,_,_,rfl,rfl,np,_,_,rfl,rfl,_,rfl,_,_,rfl,rfl,⟨by decide,by decide⟩,_,rfl,_,_,rfl,rfl,_,_,rfl,rfl,(by show (0:Int) < (n:Int) - 1;omega),_,_,rfl,rfl,_,rfl,_,_,rfl,rfl,np,?_⟩
    refine⟨by show 2 <= sizeLine;decide,fun t ht=>?_⟩
    have s9:=s8.new (o := .tup [.int (d % (n:Int)), .int ((d % (n:Int) + 1 + d / 16 % ((n:Int) - 1)) % (n:Int))]) ht
    have wW:uH.length=ps.length:=Paired.length CT
    refine⟨l,uH,_,rfl,rfl,s9 _ _ g3,by rw[sizeLine_eq];omega,?_⟩
    have nlt:l ≠ t:=am (s8 _ _ g3) ht
    refine⟨_,_,uH ++ [.ref t],ps ++ [(d % (n:Int),(d % (n:Int) + 1 + d / 16 % ((n:Int) - 1)) % (n:Int))],fun b o e=>?_,ac,?_,by rw[length_append,hlen];rfl,fun q hq=>?_,rfl⟩
    ·rw[ak (am e hHl)];exact s9 _ _ (s7 _ _ e)
    ·refine uD.snoc ⟨t,rfl,by rw[ak (Ne.symm nlt)];exact ac⟩ ?_
     have z:uD _ uH ps:=uD.same s9 CT
     exact nE (s9 _ _ g3) z
    ·rcases mem_append.mp hq with z | z
     ·exact u1 q z
     ·rw[mem_singleton.mp z];exact pX BK.1 BK.2 yH.1 yH.2
   ·rintro σ H3 ⟨a1,a2,uH,ps,s7,g3,CT,hlen,u1,rfl⟩
    refine⟨_,rfl,_,rfl,by show 2 <= sizeLine;decide,fun t ht=>?_⟩
    have s8:=(uu.refl H3).new (o := .tup [.int n, .ref l]) ht
    exact q t l n uH ps _ (s7.trans s8) ac (s8 _ _ g3) (uD.same s8 CT) (by omega) yT u1
  ·refine⟨_,rfl,_,rfl,by show 2 <= sizeLine;decide,fun t ht=>?_⟩
   have s8:=(uu.refl H6).new (o := .tup [.int n, .ref l]) ht
   exact q t l n [] [] _ (s6.trans s8) ac (s8 _ _ g6) .nil (zero_le _) yT (fun q hq=>by cases hq)
theorem G9:aw IP ["_law_begin", "_law_draw_here"] (ah kc):=L2.uU
theorem GA:vd IP (ah kc) (nn ((aL kc).getD 2 (.Pass ⟨0,0,0,0⟩))) ["_law_draw_here"] [1]:=L2.vH
theorem GB:(["_law_k", "_law_draw_here"]:List Str).Nodup:=by decide +kernel
theorem rm {f:Addr}{fd:FuncData}(F:uN K "_law_some" "_law_some" kc f fd)(T:Txt mg):Z P w K mg base aD 1 f fd ["_law_begin", "_law_draw_here"] lN:=by
 refine F.ok G9 (fun vs H Q E h=>?_) (fun uF A outer s H vs Q E hr h=>?_)
 ·obtain⟨l,ks,d,rfl,_⟩:=h
  rfl
 ·obtain⟨l,ks,d,rfl,hl,hlen,q⟩:=h
  have hu:=hr.units
  refine⟨_,ae (b9 (PW.pt (iw (az bW (ax bF (pv 1) aj) aj (aC _)) (iu (az (tE hu) (pv 0) (bE ad) (aC _))))) (ag (aA (bE ad))) aK)
   (ae (b9 (az bW (ax bF (pv 1) aj) aj (aC _)) (ag (aA (bE (aa (aJ bc (pv 0) (ax bF (ax cz (pv 1) aj) (aM aO rfl T.len PySem.boot_len (aa (pv 0) ad))) (fun _ _=>rfl)) ad)))) aK)
   (ag (aA (bp (own:=["_law_k"]) (capN:=["_law_draw_here"]) (cap:=[1]) GA rfl (aI (mj (pv 0) (nv jt aj)))
    (fun C s' H' fp=>⟨ao (i:=0) GB rfl (Or.inl rfl),bN (az bW (ax m6 (ax mz (ax cz (pv 1) aj) (pv 0)) aj) aj (aC _)),pv 0⟩))))),?_⟩
  have empty:∀ H',uu H H'->∀ D,H' D=none->Q (.ref D) (ar H' D (.lst [])):=fun H' s' D hD=>q D [] _ (s'.new hD) (s'.free hD) ac (fun k hk=>by cases hk) (zero_le _)
  have IQ:(b5 ks).length=ks.length:=by unfold b5;rw[length_map]
  refine⟨_,rfl,_,_,rfl,rfl,(by show (0:Int) < 3;decide),rfl,_,rfl,?_⟩
  refine kP (fun _=>be ⟨zero_le _,fun D hD=>empty H (uu.refl H) D hD⟩) fun _=>?_
  refine⟨_,rfl,zero_le _,fun e he=>?_⟩
  have s1:=(uu.refl H).new (o := .lst []) he
  refine⟨l,e,iz ks,[],rfl,rfl,by rw[← fE];exact ux.of (s1 _ _ hl),ux.of ac,_,rfl,?_⟩
  generalize ar H e (.lst [])=H1 at s1 ⊢
  refine kP (fun _=>⟨zero_le _,fun D hD=>empty H1 s1 D hD⟩) fun ve=>?_
  have GC:ks ≠ []:=fun z=>ve (by rw[z];rfl)
  have By:0 < ks.length:=length_pos_iff.mpr GC
  refine⟨_,rfl,_,_,rfl,rfl,(by show (0:Int) < 3;decide),rfl,_,rfl,?_⟩
  refine kP (fun _=>?_) fun _=>?_
  ·have G7:0 <= d / 8 % ((b5 ks).length:Int):=emod_nonneg _ (by omega)
   have G8:d / 8 % ((b5 ks).length:Int) < (ks.length:Nat):=by have:=emod_lt_of_pos (d / 8) (show (0:Int) < ((b5 ks).length:Int) by omega);omega
   obtain⟨k,hk,hat⟩:=tR G7 G8
   refine⟨_,rfl,_,rfl,_,_,rfl,rfl,⟨by decide,by decide⟩,_,rfl,l,_,rfl, .inl (ux.of (s1 _ _ hl)),_,_,rfl,rfl,(by show (0:Int) < ((b5 ks).length:Int);omega),l,_,_,_,rfl,rfl,ux.of (s1 _ _ hl),hat,by show 1 <= sizeLine;decide,fun D hD=>?_⟩
   exact q D [k] _ (s1.new hD) (s1.free hD) ac (fun z hz=>by rw[mem_singleton.mp hz];exact hk) By
  ·refine⟨_,rfl,_,rfl,rfl,l,_,rfl,ux.of (s1 _ _ hl),fun p hp=>?_⟩
   have er:(b5 ks).reverse=nV ks.reverse:=by unfold b5 nV;rw[List.map_reverse]
   rw[er]
   have s2:=s1.new (o := .lst (nV ks.reverse)) hp
   have g2:(ar H1 p (.lst (nV ks.reverse))) p=some (.lst (nV ks.reverse)):=ac
   refine⟨p,rfl,⟨_,ux.of g2⟩,?_⟩
   dsimp only
   generalize ar H1 p (.lst (nV ks.reverse))=H2 at s2 g2 ⊢
   refine fK (fun k:Nat=>decide (V.int (Builtin.bitAnd (d / 8 / 2 ^ ((k:Int)).toNat) 1)=V.int 1)) (by rw[length_reverse];omega) g2 (fun k acc N hk h=>?_) fun D hD=>?_
   ·refine⟨_,rfl,_,_,rfl,rfl,⟨by decide,by decide⟩,_,rfl,_,_,rfl,rfl,(by show (0:Int) <= (k:Int);omega),_,_,rfl,rfl,rfl,_,rfl,?_⟩
    cases hd:decide (V.int (Builtin.bitAnd (d / 8 / 2 ^ ((k:Int)).toNat) 1)=V.int 1) with
    | true=>rw[hd]at h;exact be ⟨_,rfl,h⟩
    | false=>rw[hd]at h;exact aT h
   ·refine q D _ _ (s2.new hD) (s2.free hD) ac (fun k hk=>mem_reverse.mp (mem_filter.mp hk).1) ?_
    exact le_trans (length_filter_le _ _) (by rw[length_reverse];exact le_refl _)
noncomputable def jU (ps:List (Int × Int))(rs:List Rw):Prop:=∀ r ∈ rs,(∀ k ∈ r.s,k ∈ cY Prod.fst ps r.p)/\r.s.length <= ps.length
noncomputable def lO (K:Frag):Sp:=fun vs H Q _=>∃ (a l:Addr)(ns:List Int)(n:Nat)(uH:List V)(ps:List (Int × Int)),vs=[.ref a, .int n, .ref l]/\ux K H a (ns.map V.int)/\H l=some (.lst uH)/\uD H uH ps/\ps.length <= 40/\(1 <= n/\n <= 12) /\
 ∀ (D:Addr)(uG:List V)(rs:List Rw)(H':Hp),uu H H'->H' D=some (.lst uG)->uV H' uG rs->vy n ps rs->rs.length <= 10000->Q (.ref D) H'
abbrev GD:List Str:=["_law_script", "_law_places", "_law_lanes", "_law_rows_here", "_law_place", "_law_begin", "_law_cames", "_law_goal", "_law_came", "_law_draw_here"]
noncomputable def BL (i:Nat):Stmt:=(gK ((aL iZ).getD 1 (.Pass ⟨0,0,0,0⟩))).getD i (.Pass ⟨0,0,0,0⟩)
theorem mQ (ps:List (Int × Int))(p g:Nat):(cP ps p g).length <= ps.length + 1:=by
 unfold cP
 split
 ·exact zero_le _
 ·rw[length_map];exact en ps p
theorem eQ (ps:List (Int × Int))(p:Nat):∀ n,(bQ ps n p).length <= n * (ps.length + 1)
 | 0=>by simp[bQ]
 | n + 1=>by
  rw[iJ,length_append,succ_mul]
  have:=eQ ps p n
  have:=mQ ps p n
  omega
theorem kM (ps:List (Int × Int))(n:Nat):∀ m,(bj ps n m).length <= m * (n * (ps.length + 1))
 | 0=>by simp[bj]
 | m + 1=>by
  rw[je,length_append,succ_mul]
  have:=kM ps n m
  have:=eQ ps m n
  omega
theorem ia {ps:List (Int × Int)}{n i j:Nat}(hp:ps.length <= 40)(hn:n <= 12)(hi:i <= n)(hj:j <= n):(bj ps n i).length <= 5904/\(bQ ps j i).length <= 492:=by
 have h1:=kM ps n i
 have h2:=eQ ps i j
 have e1:n * (ps.length + 1) <= 12 * 41:=mul_le_mul hn (by omega)
 have e2:i * (n * (ps.length + 1)) <= 12 * (12 * 41):=mul_le_mul (by omega) e1
 have e3:j * (ps.length + 1) <= 12 * 41:=mul_le_mul (by omega) (by omega)
 exact⟨by omega,by omega⟩
theorem qz (ps:List (Int × Int))(p:Nat):[V.uB] ++ b5 (cY Prod.snd ps p)=(aE ps p).map cV:=by
 unfold aE b5
 rw[map_cons,map_map]
 rfl
theorem wk:aw GD ["_law_script", "_law_places", "_law_lanes"] (ah iZ):=L2.uU
theorem GF:vd GD (ah iZ) (qC (BL 0)) ["_law_lanes", "_law_place"] [2,4]:=L2.vH
theorem GG:vd GD (ah iZ) (qx (BL 1)) ["_law_lanes", "_law_place"] [2,4]:=L2.vH
theorem IS:(["_law_k", "_law_lanes", "_law_place"]:List Str).Nodup:=by decide +kernel
theorem rn {f fd fs:Addr}{df dd ds:FuncData}(F:uN K "_law_rows" "_law_rows" iZ f df)(T:Txt mg)(md:mg "_law_draw" = some (.ref fd))(kd:keepIn K (.ref fd)=true)(bd:Binds K dd ["_law_script", "_law_k"] [])
  (Gd:Z P w K mg base aD 1 fd dd ["_law_script", "_law_k"] (pq K)) (ms:mg "_law_some" = some (.ref fs)) (ks:keepIn K (.ref fs)=true) (bs:Binds K ds ["_law_begin", "_law_draw_here"] [])
  (Gs:Z P w K mg base aD 1 fs ds ["_law_begin", "_law_draw_here"] lN):Z P w K mg base aD 2 f df ["_law_script", "_law_places", "_law_lanes"] (lO K):=by
 refine F.ok wk (fun vs H Q E h=>?_) (fun uF A outer s H vs Q E hr h=>?_)
 ·obtain⟨a,l,ns,n,uH,ps,rfl,_⟩:=h
  rfl
 ·obtain⟨a,l,ns,n,uH,ps,rfl,hS,hl,xh,uK,hn,q⟩:=h
  have vo:u5 1 _:=hr.mono (by decide)
  refine⟨_,ae (ay (i:=3) wk.nd rfl (Or.inl rfl) (bE ad))
   (ae (bg PassesOwn.never rfl (aY rfl T.range (aa (pv 1) ad)) (ao (i:=4) wk.nd rfl (Or.inr rfl))
    (ae (cE (i:=5) (own:=["_law_k"]) (capN:=["_law_lanes", "_law_place"]) (cap:=[2,4]) GF rfl wk.nd rfl rfl (aY rfl T.range (aa (aM aO rfl T.len PySem.boot_len (aa (pv 2) ad)) ad))
     (fun C s' H' fp=>⟨ao (i:=0) IS rfl (Or.inl rfl),bN (az bW (aJ (show jq _ (ir K) from aW) (aJ (show jq _ (kq K) from bc) (pv 1) (pv 0) (fun _ _=>rfl)) aj (fun _ _=>rfl)) (pv 2) (aC _)),pv 0⟩))
    (ae (ay (i:=6) wk.nd rfl (Or.inl rfl) (ax jC (bE (aa cF ad)) (bp (own:=["_law_k"]) (capN:=["_law_lanes", "_law_place"]) (cap:=[2,4]) GG rfl (aY rfl T.range (aa (aM aO rfl T.len PySem.boot_len (aa (pv 2) ad)) ad))
     (fun C s' H' fp=>⟨ao (i:=0) IS rfl (Or.inl rfl),bN (az bW (aJ (show jq _ (ir K) from aW) (aJ (show jq _ (kq K) from bc) (pv 1) (pv 0) (fun _ _=>rfl)) aj (fun _ _=>rfl)) (pv 2) (aC _)),pv 0⟩))))
    (ag (bg PassesOwn.never rfl (aY rfl T.range (aa (pv 1) ad)) (ao (i:=7) wk.nd rfl (Or.inl rfl))
     (ag (bg PassesOwn.never rfl (aI (pv 6)) (ao (i:=8) wk.nd rfl (Or.inl rfl))
      (ae (ay (i:=9) wk.nd rfl (Or.inl rfl) (ap Gd vo rfl md kd bd .nil au (aa (pv 0) (aa (ax cM aj (aM aO rfl T.len PySem.boot_len (aa (pv 3) ad))) ad))))
      (ag (b9 (az kD (pv 7) (pv 4) (aC _))
       (ag (cy (dQ plainAttrs_list PySem.F.slot_list_append PySem.F.type_list_append el (pv 3) (aa (cg (aa (pv 4) (aa (pv 7) (aa (pv 8) (aa (ap Gs vo rfl ms ks bs .nil au (aa (pv 5) (aa (pv 9) ad))) ad))))) ad)))) aK))))))))))
   (ag (aA (pv 3)))),?_⟩
  have wW:uH.length=ps.length:=Paired.length xh
  refine⟨zero_le _,fun D hD=>?_⟩
  have s0:=(uu.refl H).new (o := .lst []) hD
  refine⟨_,rfl,(n:Int),rfl,by omega,by omega,?_⟩
  rw[toNat_natCast]
  refine bO (n:=n) (fun i σ H2=>∃ (a4 a5 a6 a7 a8 a9:Option V)(uG:List V)(rs:List Rw),uu H H2/\H2 D=some (.lst uG)/\v8 D H2 uG rs/\rs.map cw=bj ps n i/\jU ps rs/\σ=[some (.ref a),some (.int n),some (.ref l),some (.ref D),a4,a5,a6,a7,a8,a9])
   ⟨none,none,none,none,none,none,[],[],s0,ac, .nil,rfl,(fun r hr=>by cases hr),rfl⟩ ?_ ?_
  ·rintro i σ H2 hi ⟨a4,a5,a6,a7,a8,a9,uG,rs,s2,gD,hR,hk,C0,rfl⟩
   rw[zero_add]
   have wF:∀ {j:Nat}{pr:Int × Int}{H':Hp},uu H H'->ps[j]? = some pr->∃ u,uH[j]? = some (.ref u)/\uE K H' u [.int pr.1, .int pr.2]:=fun {j pr H'} s' hj=>by
    obtain⟨v,hv,u,rfl,hu⟩:=uD.ze xh hj
    exact⟨u,hv,uE.of (s' _ _ hu)⟩
   refine⟨_,rfl,l,_,rfl, .inl (ux.of (s2 _ _ hl)),(uH.length:Int),rfl,by omega,by omega,?_⟩
   rw[toNat_natCast,wW]
   refine nW (sel:=Prod.fst) (pl:=(i:Int)) (by rw[sizeLine_eq];omega) (fun j acc N pr hj h=>?_) fun B hB=>?_
   ·obtain⟨u,hv,hu⟩:=wF s2 hj
    refine⟨_,rfl,_,rfl,l,uH,_,_,rfl,rfl,ux.of (s2 _ _ hl),aB hv,u,_,0,_,rfl,rfl,hu,aB (j:=0) rfl,_,rfl,rfl,_,rfl,?_⟩
    rw[dW]
    cases hd:decide (pr.1=(i:Int)) with
    | true=>rw[hd]at h;exact be ⟨_,rfl,h⟩
    | false=>rw[hd]at h;exact aT h
   have zr:uu H2 (ar H2 B (.lst (b5 (cY Prod.fst ps i)))):=(uu.refl H2).new hB
   have gB:(ar H2 B (.lst (b5 (cY Prod.fst ps i)))) B=some (.lst (b5 (cY Prod.fst ps i))):=ac
   have nB:B ≠ D:=Ne.symm (am gD hB)
   generalize ar H2 B (.lst (b5 (cY Prod.fst ps i)))=H3 at zr gB ⊢
   have s3:=s2.trans zr
   refine⟨by show 1 <= sizeLine;decide,fun o1 zS=>?_⟩
   have yo:uu H3 (ar H3 o1 (.lst [.uB])):=(uu.refl H3).new zS
   have g1:(ar H3 o1 (.lst [.uB])) o1=some (.lst [.uB]):=ac
   generalize ar H3 o1 (.lst [.uB])=H4 at yo g1 ⊢
   have s4:=s3.trans yo
   refine⟨_,rfl,l,_,rfl, .inl (ux.of (s4 _ _ hl)),(uH.length:Int),rfl,by omega,by omega,?_⟩
   rw[toNat_natCast,wW]
   refine nW (sel:=Prod.snd) (pl:=(i:Int)) (by rw[sizeLine_eq];omega) (fun j acc N pr hj h=>?_) fun o2 wB=>?_
   ·obtain⟨u,hv,hu⟩:=wF s4 hj
    refine⟨_,rfl,_,rfl,l,uH,_,_,rfl,rfl,ux.of (s4 _ _ hl),aB hv,u,_,1,_,rfl,rfl,hu,aB (j:=1) rfl,_,rfl,rfl,_,rfl,?_⟩
    rw[dW]
    cases hd:decide (pr.2=(i:Int)) with
    | true=>rw[hd]at h;exact be ⟨_,rfl,h⟩
    | false=>rw[hd]at h;exact aT h
   have yI:uu H4 (ar H4 o2 (.lst (b5 (cY Prod.snd ps i)))):=(uu.refl H4).new wB
   have g2:(ar H4 o2 (.lst (b5 (cY Prod.snd ps i)))) o2=some (.lst (b5 (cY Prod.snd ps i))):=ac
   generalize ar H4 o2 (.lst (b5 (cY Prod.snd ps i)))=H5 at yI g2 ⊢
   have wd:(b5 (cY Prod.snd ps i)).length <= 40:=by unfold b5;rw[length_map];have:=gH Prod.snd ps (i:Int);omega
   refine⟨o1,o2,_,_,rfl,rfl,yI _ _ g1,g2,by rw[sizeLine_eq];simp only[length_singleton];omega,fun C hC=>?_⟩
   rw[qz]
   have zQ:uu H5 (ar H5 C (.lst ((aE ps i).map cV))):=(uu.refl H5).new hC
   have gC:(ar H5 C (.lst ((aE ps i).map cV))) C=some (.lst ((aE ps i).map cV)):=ac
   have zX:=(zr.trans yo).trans yI
   have nC:C ≠ D:=Ne.symm (am (zX _ _ gD) hC)
   generalize ar H5 C (.lst ((aE ps i).map cV))=H6 at zQ gC ⊢
   have GH:=zX.trans zQ
   have gB6:=zQ _ _ (yI _ _ (yo _ _ gB))
   have s6:=s2.trans GH
   refine⟨_,rfl,(n:Int),rfl,by omega,by omega,?_⟩
   rw[toNat_natCast]
   refine bO (n:=n) (fun j σ H7=>∃ (a7 a8 a9:Option V)(uG:List V)(rs:List Rw),Off D H6 H7/\H7 D=some (.lst uG)/\v8 D H7 uG rs/\rs.map cw=bj ps n i ++ bQ ps j i/\jU ps rs/\σ=[some (.ref a),some (.int n),some (.ref l),some (.ref D),some (.int i),some (.ref B),some (.ref C),a7,a8,a9])
    ⟨_,_,_,uG,rs,fun _ _ _ e=>e,GH _ _ gD,v8.same GH hR,by rw[hk];simp[bQ],C0,rfl⟩ ?_ ?_
   ·rintro j σ H7 hj ⟨a7,a8,a9,uG,rs,yu,GI,GJ,GK,zt,rfl⟩
    rw[zero_add]
    refine⟨_,rfl,C,rfl,⟨_,ux.of (yu _ _ nC gC)⟩,?_⟩
    refine bJ (K:=K) (a:=C) (xs:=(aE ps i).map cV) (fun t σ H8=>∃ (a8 a9:Option V)(uG:List V)(rs:List Rw),Off D H6 H8/\H8 D=some (.lst uG)/\v8 D H8 uG rs /\
      rs.map cw=(bj ps n i ++ bQ ps j i) ++ (if j=i then [] else ((aE ps i).take t).map fun c=>((i:Int),(j:Int),c))/\jU ps rs/\σ=[some (.ref a),some (.int n),some (.ref l),some (.ref D),some (.int i),some (.ref B),some (.ref C),some (.int j),a8,a9])
     ⟨_,_,uG,rs,yu,GI,GJ,by rw[GK];split<;>simp,zt,rfl⟩ (fun t σ H8 _ uw=>by obtain⟨_,_,_,_,xi,_⟩:=uw;exact ux.of (xi _ _ nC gC)) ?_ ?_
    ·rintro t v σ H8 hv ⟨a8,a9,uG,rs,xi,CU,zu,BM,yw,rfl⟩
     rw[List.getElem?_map]at hv
     obtain⟨c,hc,rfl⟩:∃ c,(aE ps i)[t]? = some c/\v=cV c:=by
      cases e:(aE ps i)[t]? with
      | none=>rw[e]at hv;cases hv
      | some c=>rw[e]at hv;exact⟨c,rfl,(Option.some.inj hv).symm⟩
     have F2:t < (aE ps i).length:=(List.getElem?_eq_some_iff.mp hc).1
     have GL:uG.length=rs.length:=Paired.length zu
     have xV:rs.length <= 6500:=by
      have e1:rs.length=(rs.map cw).length:=by rw[length_map]
      rw[e1,BM,length_append,length_append]
      obtain⟨b1,b2⟩:=ia (ps:=ps) (n:=n) (i:=i) (j:=j) uK hn.2 (by omega) (by omega)
      have b3:(if j=i then [] else ((aE ps i).take t).map fun c=>((i:Int),(j:Int),c)).length <= 41:=by
       split
       ·exact zero_le _
       ·rw[length_map]
        have:=length_take_le t (aE ps i)
        have:=en ps i
        rw[length_take]
        omega
      omega
     have s8:uu H H8:=fun b o e=>xi b o (am e hD) (s6 _ _ e)
     refine⟨_,rfl,_,rfl,D,_,rfl, .inl (ux.of CU),_,_,rfl,rfl,a,ns,_,rfl,s8.seq hS,by omega,by omega,fun d H9 s9=>?_⟩
     have zY:=s9 _ _ CU
     have zw:Off D H6 H9:=fun b o nb e=>s9 _ _ (xi b o nb e)
     refine⟨_,rfl,_,rfl,rfl,_,rfl,?_⟩
     rw[dW]
     by_cases CV:j=i
     ·refine qk (show (j:Int)=(i:Int) by omega) ?_
      refine⟨_,_,uG,rs,zw,zY,v8.same s9 zu,?_,yw,rfl⟩
      rw[BM,if_pos CV,if_pos CV]
     ·rw[decide_eq_false (show ¬ (j:Int)=(i:Int) by omega)]
      refine be ?_
      refine⟨_,rfl, .inl ⟨rfl,_,ux.of zY⟩,_,rfl,_,rfl,_,rfl,_,rfl,_,rfl,B,cY Prod.fst ps i,d,rfl,zw _ _ nB gB6,by have:=gH Prod.fst ps (i:Int);omega,fun U us Ha sa hU gU we BG=>?_⟩
      refine⟨by show 4 <= sizeLine;decide,fun tt xS=>?_⟩
      have sb:=(uu.refl Ha).new (o := .tup [.int i, .int j,cV c, .ref U]) xS
      have gT:(ar Ha tt (.tup [.int i, .int j,cV c, .ref U])) tt=some (.tup [.int i, .int j,cV c, .ref U]):=ac
      have nT:tt ≠ D:=Ne.symm (am (sa _ _ zY) xS)
      generalize ar Ha tt (.tup [.int i, .int j,cV c, .ref U])=Hb at sb gT ⊢
      have CW:=sa.trans sb
      have s9b:=s9.trans CW
      have nU:U ≠ D:=Ne.symm (am zY hU)
      refine⟨D,uG,_,rfl,rfl,CW _ _ zY,by rw[sizeLine_eq];omega,?_⟩
      refine⟨_,_,uG ++ [.ref tt],rs ++ [⟨(i:Int),(j:Int),c,us⟩],fun b o nb e=>by rw[ak nb];exact CW _ _ (zw b o nb e),ac,?_,?_,?_,rfl⟩
      ·refine v8.snoc ⟨tt,U,rfl,⟨by rw[ak nT];exact gT,by rw[ak nU];exact sb _ _ gU⟩,nU⟩ ?_
       exact v8.off (CW _ _ zY) (v8.same s9b zu)
      ·rw[map_append,BM,if_neg CV,if_neg CV,take_succ,hc,map_append,append_assoc]
       rfl
      ·intro r yf
       rcases mem_append.mp yf with h | h
       ·exact yw r h
       ·rw[mem_singleton.mp h]
        exact⟨we,le_trans BG (gH _ _ _)⟩
    ·rintro σ H8 ⟨a8,a9,uG,rs,xi,CU,zu,BM,yw,rfl⟩
     refine⟨_,_,_,uG,rs,xi,CU,zu,?_,yw,rfl⟩
     rw[BM,iJ,append_assoc]
     congr 2
     unfold cP
     rw[length_map,take_length]
   ·rintro σ H7 ⟨a7,a8,a9,uG,rs,yu,GI,GJ,GK,zt,rfl⟩
    refine⟨_,_,_,_,_,_,uG,rs,fun b o e=>yu b o (am e hD) (s6 _ _ e),GI,GJ,?_,zt,rfl⟩
    rw[GK,je]
  ·rintro σ H2 ⟨a4,a5,a6,a7,a8,a9,uG,rs,s2,gD,hR,hk,C0,rfl⟩
   refine⟨_,rfl,q D uG rs H2 s2 gD (v8.rws hR) ⟨hk,C0⟩ ?_⟩
   have e1:rs.length=(rs.map cw).length:=by rw[length_map]
   rw[e1,hk]
   have:=(ia (ps:=ps) (n:=n) (i:=n) (j:=n) uK hn.2 (le_refl _) (le_refl _)).1
   omega
noncomputable def CY (H:Hp)(v:V)(ws:List Str):Prop:=∃ a,v = .ref a/\H a=some (.lst (ws.map V.str))
abbrev uY (H:Hp):List V->List (List Str)->Prop:=Paired (CY H)
theorem uY.same {H H':Hp}(s:uu H H'):∀ {vs:List V}{ws:List (List Str)},uY H vs ws->uY H' vs ws:=fun uw=>by
 induction uw with
 | nil=>exact .nil
 | cons zz r ih=>obtain⟨a,e,h⟩:=zz;exact .cons ⟨a,e,s _ _ h⟩ ih
theorem uY.snoc {H:Hp}{v:V}{x:List Str}(h:CY H v x):∀ {vs:List V}{ws:List (List Str)},uY H vs ws->uY H (vs ++ [v]) (ws ++ [x]):=fun uw=>by
 induction uw with
 | nil=>exact .cons h .nil
 | cons a r ih=>exact .cons a ih
theorem uY.get {H:Hp}:∀ {vs:List V}{ws:List (List Str)}{i:Nat}{x:List Str},uY H vs ws->ws[i]? = some x->∃ v,vs[i]? = some v/\CY H v x
 | _,_,_,_, .nil,h=>by cases h
 | _,_,0,_, .cons a r,h=>by cases h;exact⟨_,rfl,a⟩
 | _,_,i + 1,_, .cons a r,h=>let ⟨v,e,z⟩:=uY.get (i:=i) r (by simpa using h); ⟨v,by simpa using e,z⟩
noncomputable def hV:Sp:=fun vs H Q _=>∃ x:Str,vs=[.str x]/\x.length <= 4000000/\(Txt.split x newline).length <= 1000000/\(∀ r ∈ Txt.split x newline,r.length <= 1000000/\(Txt.split r blank).length <= 1000000) /\
 ∀ (D:Addr)(us:List V)(H':Hp),uu H H'->H' D=some (.lst us)->uY H' us ((Txt.split x newline).map fun r=>Txt.split r blank)->Q (.ref D) H'
noncomputable def bH (p g:Nat)(c:Option Nat)(ms:List Nat):List Str:=[aF p,aF g,wT (cV c)] ++ ms.map aF
noncomputable def fQ:Sp:=fun vs H Q _=>∃ (a:Addr)(p g:Nat)(c:Option Nat)(ms:List Nat),vs=[.ref a]/\H a=some (.lst ((bH p g c ms).map V.str))/\p < 10 ^ 60/\g < 10 ^ 60/\(∀ k,c=some k->k < 10 ^ 60)/\(∀ k ∈ ms,k < 10 ^ 60)/\ms.length <= 1000 /\
 ∀ (t l:Addr)(H':Hp),uu H H'->yC H' t l ⟨(p:Int),(g:Int),c,ms⟩->Q (.ref t) H'
theorem pY (k:Nat):decide (V.str (aF k)=V.str (Str.ofString "-"))=false:=by
 refine decide_eq_false fun z=>?_
 have e:=V.str.inj z
 exact jF (m:=k) (c:=45) (by decide) (by rw[e];decide)
noncomputable def qM (s:Stmt):Scope:=match s with
 | .Return (some (.Tuple [_,_,_, .ListComp _ _ sc _] _ _)) _=>sc
 | _=>eh
theorem lb (k:Nat)(xs ys:List V)(h:xs.length=k):iR (xs ++ ys) (some (k:Int)) none=ys:=by
 have h1:HT.vB (xs ++ ys).length 0 (some (k:Int))=k:=by
  unfold HT.vB
  rw[length_append]
  simp only
  split<;>omega
 have h2:HT.vB (xs ++ ys).length (xs ++ ys).length none=(xs ++ ys).length:=rfl
 unfold iR
 rw[h1,h2,← h,List.drop_left,length_append]
 exact List.take_of_length_le (by omega)
theorem GN:aw ["text"] ["text"] (ah eZ):=L2.uU
theorem GO:vd ["text"] (ah eZ) (nn ((aL eZ).getD 1 (.Pass ⟨0,0,0,0⟩))) [] []:=L2.vH
theorem GP:(["row"]:List Str).Nodup:=by decide +kernel
theorem oA {f fw:Addr}{fd dw:FuncData}(F:uN K "rows_of" "rows_of" eZ f fd)(T:Txt mg)(GQ:kitOne K (.type "str") (.type "str")=some true)(mw:mg "words_of" = some (.ref fw))(kw:keepIn K (.ref fw)=true)(bw:Binds K dw ["row"] [])(Gw:Z P w K mg base aD 1 fw dw ["row"] jx):Z P w K mg base aD 2 f fd ["text"] hV:=by
 refine F.ok GN (fun vs H Q E h=>?_) (fun uF A outer s H vs Q E hr h=>?_)
 ·obtain⟨x,rfl,_⟩:=h
  rfl
 ·obtain⟨x,rfl,h1,h2,h3,q⟩:=h
  refine⟨_,ae (b9 (cv (cC (aM lq rfl T.Bh PyProof.Rows.boot_isinstance (aa (pv 0) (aa (gy (v := .ty "str") rfl T.str PySem.Pv.boot_str rfl) ad))))) (ag cT) aK)
   (ag (aA (bp (own:=["row"]) (capN:=[]) (cap:=[]) GO rfl (aI (dQ plainAttrs_str PySem.F.slot_str_split PySem.F.type_str_split kH (pv 0) (aa b7 ad)))
    (fun C s' H' fp=>⟨ao (i:=0) GP rfl (Or.inl rfl),cx,ap Gw hr rfl mw kw bw .nil au (aa (pv 0) ad)⟩)))),?_⟩
  refine⟨_,rfl,_,_,_,_,rfl, .str _,GQ,_,rfl,aT ?_⟩
  refine⟨_,rfl,rfl,x,newline,rfl,rfl,rfl,h1,h2,fun D hD=>?_⟩
  have s1:=(uu.refl H).new (o := .lst ((Txt.split x newline).map V.str)) hD
  have g1:(ar H D (.lst ((Txt.split x newline).map V.str))) D=some (.lst ((Txt.split x newline).map V.str)):=ac
  refine⟨D,rfl,⟨_,ux.of g1⟩,?_⟩
  dsimp only
  generalize ar H D (.lst ((Txt.split x newline).map V.str))=H1 at s1 g1 ⊢
  generalize Txt.split x newline=rs at *
  refine bA rs.length (by rw[sizeLine_eq];omega) (fun i acc H'=>uu H1 H'/\uY H' acc ((rs.take i).map fun r=>Txt.split r blank)) ⟨uu.refl _, .nil⟩ (fun i acc H' h=>by rw[Paired.length h.2,length_map];exact length_take_le _ _) (fun i acc H' hi h=>?_) (fun acc H' h=>?_)
  ·obtain⟨s2,hw⟩:=h
   have hri:=List.getElem?_eq_getElem hi
   refine⟨⟨_,V.str rs[i],ux.of (s2 _ _ g1),by rw[List.getElem?_map,hri];rfl⟩,fun v H2 y=>?_⟩
   obtain⟨rfl,y⟩:=y
   have hv:=y _ (ux.of (s2 _ _ g1))
   rw[List.getElem?_map,hri]at hv
   cases hv
   obtain⟨h4,h5⟩:=h3 _ (getElem_mem hi)
   refine⟨_,rfl,_,rfl,h4,h5,fun D2 xf=>?_⟩
   have s3:=(uu.refl H2).new (o := .lst ((Txt.split rs[i] blank).map V.str)) xf
   refine⟨s2.trans s3,?_⟩
   rw[take_succ,hri,map_append]
   exact uY.snoc ⟨D2,rfl,ac⟩ (uY.same s3 hw)
  ·obtain⟨s2,hw⟩:=h
   rw[take_length]at hw
   refine⟨⟨_,ux.of (s2 _ _ g1),by rw[length_map];exact le_refl _⟩,fun D2 xf=>?_⟩
   have s3:=s2.new (o := .lst acc) xf
   exact q D2 acc _ (s1.trans s3) ac (uY.same ((uu.refl H').new xf) hw)
theorem BN:aw ["words", "came"] ["words"] (ah dL):=L2.uU
theorem GR:vd ["words", "came"] (ah dL) (qM ((aL dL).getD 1 (.Pass ⟨0,0,0,0⟩))) [] []:=L2.vH
theorem GS:(["word"]:List Str).Nodup:=by decide +kernel
theorem m8 {f fn:Addr}{fd dn:FuncData}(F:uN K "read_way" "read_way" dL f fd)(mn:mg "number_of" = some (.ref fn))(kn:keepIn K (.ref fn)=true)(bn:Binds K dn ["word"] [])(Gn:Z P w K mg base aD 1 fn dn ["word"] eY):Z P w K mg base aD 2 f fd ["words"] fQ:=by
 refine F.ok BN (fun vs H Q E h=>?_) (fun uF A outer s H vs Q E hr h=>?_)
 ·obtain⟨a,p,g,c,ms,rfl,_⟩:=h
  rfl
 ·obtain⟨a,p,g,c,ms,rfl,ha,hp,hg,hc,hm,CB,q⟩:=h
  refine⟨_,ae (ay (i:=1) BN.nd rfl (Or.inl rfl) (nw (fz (az bW (aJ bc (pv 0) aj (fun _ _=>rfl)) b7 (aC _)) cF (ap Gn hr rfl mn kn bn .nil au (aa (aJ bc (pv 0) aj (fun _ _=>rfl)) ad)))))
   (ag (aA (cg (aa (ap Gn hr rfl mn kn bn .nil au (aa (aJ bc (pv 0) aj (fun _ _=>rfl)) ad)) (aa (ap Gn hr rfl mn kn bn .nil au (aa (aJ bc (pv 0) aj (fun _ _=>rfl)) ad)) (aa (pv 1)
    (aa (bp (own:=["word"]) (capN:=[]) (cap:=[]) GR rfl (aI (iy j4 (pv 0) (j9 aj) jA))
     (fun C s' H' fp=>⟨ao (i:=0) GS rfl (Or.inl rfl),cx,ap Gn hr rfl mn kn bn .nil au (aa (pv 0) ad)⟩)) ad))))))),?_⟩
  have at_:∀ (j:Nat)(v:Str),(bH p g c ms)[j]? = some v->nZ ((bH p g c ms).map V.str) (j:Int)=some (.str v):=fun j v e=>aB (by rw[List.getElem?_map,e];rfl)
  refine⟨fun v H'=>uu H H'/\v=cV c,?_,fun v H1 ⟨s1,e⟩=>?_⟩
  ·refine⟨_,rfl,a,_,2,_,rfl,rfl,ux.of ha,at_ 2 _ rfl,rfl,_,rfl,?_⟩
   cases c with
   | none=>exact be ⟨uu.refl H,rfl⟩
   | some k =>
    rw[show decide (V.str (wT (cV (some k)))=V.str (Str.ofString "-"))=false from pY k]
    exact aT ⟨_,rfl,a,_,2,_,rfl,rfl,ux.of ha,at_ 2 _ rfl,k,rfl,hc k rfl,fun H' s'=>⟨s',rfl⟩⟩
  subst e
  refine⟨_,rfl,a,_,0,_,rfl,rfl,ux.of (s1 _ _ ha),at_ 0 _ rfl,p,rfl,hp,fun H2 s2=>?_⟩
  have s2:=s1.trans s2
  refine⟨_,rfl,a,_,1,_,rfl,rfl,ux.of (s2 _ _ ha),at_ 1 _ rfl,g,rfl,hg,fun H3 s3=>?_⟩
  have s3:=s2.trans s3
  refine⟨_,rfl,_,rfl,3,rfl,a,_,rfl,ux.of (s3 _ _ ha),fun D hD=>?_⟩
  have ec:iR ((bH p g c ms).map V.str) (some 3) none=(ms.map aF).map V.str:=by
   exact lb 3 [V.str (aF p),V.str (aF g),V.str (wT (cV c))] ((ms.map aF).map V.str) rfl
  rw[ec]
  have s4:=s3.new (o := .lst ((ms.map aF).map V.str)) hD
  have g4:(ar H3 D (.lst ((ms.map aF).map V.str))) D=some (.lst ((ms.map aF).map V.str)):=ac
  refine⟨D,rfl,⟨_,ux.of g4⟩,?_⟩
  dsimp only
  generalize ar H3 D (.lst ((ms.map aF).map V.str))=H4 at s4 g4 ⊢
  refine bA ms.length (by rw[sizeLine_eq];omega) (fun i acc H'=>uu H4 H'/\acc=b5 (ms.take i)) ⟨uu.refl _,rfl⟩ (fun i acc H' h=>by rw[h.2];unfold b5;rw[length_map];exact length_take_le _ _) (fun i acc H' hi h=>?_) (fun acc H' h=>?_)
  ·obtain⟨s5,rfl⟩:=h
   have hri:=List.getElem?_eq_getElem hi
   refine⟨⟨_,V.str (aF ms[i]),ux.of (s5 _ _ g4),by rw[List.getElem?_map,List.getElem?_map,hri];rfl⟩,fun v H6 y=>?_⟩
   obtain⟨rfl,y⟩:=y
   have hv:=y _ (ux.of (s5 _ _ g4))
   rw[List.getElem?_map,List.getElem?_map,hri]at hv
   cases hv
   refine⟨_,rfl,ms[i],rfl,hm _ (getElem_mem hi),fun H7 s7=>⟨s5.trans s7,?_⟩⟩
   rw[take_succ,hri]
   unfold b5
   rw[map_append]
   rfl
  ·obtain⟨s5,rfl⟩:=h
   rw[take_length]
   refine⟨⟨_,ux.of (s5 _ _ g4),by rw[length_map,length_map];exact le_refl _⟩,fun l hl=>?_⟩
   have s6:=(s4.trans s5).new (o := .lst (b5 ms)) hl
   have g6:(ar H' l (.lst (b5 ms))) l=some (.lst (b5 ms)):=ac
   generalize ar H' l (.lst (b5 ms))=H6 at s6 g6 ⊢
   refine⟨by show 4 <= sizeLine;decide,fun t ht=>?_⟩
   have s7:=(uu.refl H6).new (o := .tup [.int (p:Int), .int (g:Int),cV c, .ref l]) ht
   exact q t l _ (s6.trans s7) ⟨ac,s7 _ _ g6⟩
structure zZ (n:Nat)(ps:List (Int × Int))(rs:List Rw):Prop where
 nd:(rs.map cw).Nodup
 key:∀ r ∈ rs,∃ p g:Nat,p < n/\g < n/\g ≠ p/\r.p=p/\r.g=g/\r.c ∈ aE ps p
 lanes:∀ r ∈ rs,(∀ k ∈ r.s,k ∈ cY Prod.fst ps r.p)/\r.s.length <= ps.length
theorem qp {n:Nat}{ps:List (Int × Int)}{rs:List Rw}(h:zZ n ps rs):cI n ps rs rs.length=none:=by
 refine eE fun k hk=>?_
 have hr:rs[k]? = some rs[k]:=List.getElem?_eq_getElem hk
 have zO:rs.getD k ⟨0,0,none,[]⟩ = rs[k]:=by rw[getD_eq_getElem?_getD,hr];rfl
 rw[zO,fL]
 have hm:rs[k] ∈ rs:=getElem_mem hk
 obtain⟨p,g,hp,hg,hpg,e1,e2,e3⟩:=h.key _ hm
 have vF:fH n ps rs[k]=true:=by
  unfold fH
  have ho:fB n (rs[k].p,rs[k].g)=true:=by
   unfold fB
   simp only[Bool.and_eq_true,decide_eq_true_eq,Bool.not_eq_true',decide_eq_false_iff_not]
   rw[e1,e2]
   refine⟨⟨by omega,by omega⟩,⟨by omega,by omega⟩,by omega⟩
  rw[ho,Bool.true_and]
  have hs:(rs[k].s.all fun z=>decide (z ∈ cY Prod.fst ps rs[k].p))=true:=by
   rw[List.all_eq_true]
   exact fun z hz=>decide_eq_true ((h.lanes _ hm).1 z hz)
  rw[hs,Bool.and_true]
  cases hc:rs[k].c with
  | none=>rfl
  | some z =>
   rw[hc]at e3
   rcases mem_cons.mp e3 with e | e
   ·cases e
   ·obtain⟨z',hz,e⟩:=mem_map.mp e
    cases e
    show decide (z ∈ cY Prod.snd ps rs[k].p)=true
    rw[e1]
    exact decide_eq_true hz
 rw[vF]
 have GU:((rs.take k).any fun a=>decide (aq a=aq rs[k]))=false:=by
  rw[any_eq_false]
  intro a ha hd
  have e:=qh (of_decide_eq_true hd)
  obtain⟨j,hj,ea⟩:=mem_take_iff_getElem.mp ha
  have hj':j < k:=by omega
  have:=pairwise_iff_getElem.mp h.nd j k (by rw[length_map];omega) (by rw[length_map];exact hk) hj'
  rw[getElem_map,getElem_map,ea]at this
  exact this e
 rw[GU];rfl
theorem rO {n:Nat}{ps:List (Int × Int)}{rs:List Rw}{uv:List dH}(u1:zZ n ps rs)(hp:ps.length <= 40)(h:∀ k,bR uv k=(bY rs k).map pz)(k:aS):(bR uv k).getD (.int 0) = .int (cq rs k)/\cq rs k < 2 ^ 400:=by
 constructor
 ·rw[h]
  unfold cq
  cases bY rs k with
  | none=>rfl
  | some r=>rfl
 ·unfold cq
  cases e:bY rs k with
  | none=>show 0 < 2 ^ 400;decide
  | some r=>exact py fun z hz=>by have:=jM ((u1.lanes r (cW e)).1 z hz);omega
theorem vU {rs:List Rw}{key:aS}{z:Nat}:z ∈ wl (cq rs) key↔∃ r,bY rs key=some r/\z ∈ r.s:=by
 unfold wl
 rw[Yd.va (Yd.vC _)]
 unfold cq
 cases bY rs key with
 | none=>simp
 | some r =>
  dsimp only
  rw[Yd.uQ,Nat.zero_testBit,Bool.false_or,decide_eq_true_eq]
  simp
theorem i9 {rs:List Rw}{key:aS}{r:Rw}(h:bY rs key=some r):aq r=key:=by
 unfold bY at h
 have:=List.find?_some h
 exact of_decide_eq_true this
theorem pE {L:Nat}{l:List Nat}(h:l.Pairwise (· < ·))(hl:∀ z ∈ l,z < L):l.length <= L:=cG _ _ (h.imp fun h=>ne_of_lt h) hl
structure TabOk (n:Nat)(ps:List (Int × Int))(wy:aS->Nat):Prop where
 zero:∀ (p:Nat)(c:Option Nat),wl wy (aP ((p:Int),(p:Int),c))=[]
 out:∀ (p g:Nat)(c:Option Nat),p < n->g < n->c ∈ aE ps p->∀ z ∈ wl wy (aP ((p:Int),(g:Int),c)),z ∈ cY Prod.fst ps p
 lt:∀ k,∀ z ∈ wl wy k,z < ps.length
theorem TabOk.wU {n:Nat}{ps:List (Int × Int)}{wy:aS->Nat}(h:TabOk n ps wy)(k:aS):(wl wy k).length <= ps.length:=pE (jr wy k) (h.lt k)
theorem fI {n:Nat}{ps:List (Int × Int)}{rs:List Rw}(h:zZ n ps rs):TabOk n ps (cq rs) where
 zero p c:=by
  refine List.eq_nil_iff_forall_not_mem.mpr fun z hz=>?_
  obtain⟨r,e,_⟩:=vU.mp hz
  obtain⟨p',g',_,_,ve,e1,e2,_⟩:=h.key r (cW e)
  have ek:cw r=((p:Int),(p:Int),c):=cU (i9 e)
  have a1:r.p=p:=congrArg (·.1) ek
  have a2:r.g=p:=congrArg (·.2.1) ek
  omega
 out p g c hp hg hc z hz:=by
  obtain⟨r,e,hs⟩:=vU.mp hz
  have ek:cw r=((p:Int),(g:Int),c):=cU (i9 e)
  have a1:r.p=p:=congrArg (·.1) ek
  have:=(h.lanes r (cW e)).1 z hs
  rw[a1]at this
  exact this
 lt k z hz:=by
  obtain⟨r,e,hs⟩:=vU.mp hz
  exact jM ((h.lanes r (cW e)).1 z hs)
theorem dZ {wy:aS->Nat}{k:aS}(h:wy k=0):wl wy k=[]:=by unfold wl;rw[h];rfl
theorem oW {n:Nat}{ps:List (Int × Int)}{wy:aS->Nat}(h:∀ k,wy k=0):TabOk n ps wy where
 zero p c:=dZ (h _)
 out p g c _ _ _ z hz:=by rw[dZ (h _)]at hz;cases hz
 lt k z hz:=by rw[dZ (h _)]at hz;cases hz
theorem qQ {n:Nat}{ps:List (Int × Int)}{wy vD:aS->Nat}(h:TabOk n ps wy)(s:∀ k,∀ z ∈ wl vD k,z ∈ wl wy k):TabOk n ps vD where
 zero p c:=List.eq_nil_iff_forall_not_mem.mpr fun z hz=>by have:=s _ z hz;rw[h.zero]at this;cases this
 out p g c hp hg hc z hz:=h.out p g c hp hg hc z (s _ z hz)
 lt k z hz:=h.lt k z (s _ z hz)
theorem vy.fit {n:Nat}{ps:List (Int × Int)}{rs:List Rw}(h:vy n ps rs):zZ n ps rs.reverse where
 nd:=by rw[List.map_reverse,h.keys];exact List.pairwise_reverse.mpr ((iA ps n n).imp fun h=>Ne.symm h)
 key r hr:=by
  have:cw r ∈ bj ps n n:=by rw[← h.keys];exact mem_map.mpr ⟨r,mem_reverse.mp hr,rfl⟩
  obtain⟨p,g,h1,h2,h3,h4,h5,h6⟩:=dS this
  exact⟨p,g,h1,h2,h3,h4,h5,h6⟩
 lanes r hr:=h.lanes r (mem_reverse.mp hr)
noncomputable def dO (wy:aS->Nat)(k:bB):Rw:=⟨k.1,k.2.1,k.2.2,wl wy (aP k)⟩
noncomputable def si (wy:aS->Nat)(k:bB):Bool:=(wl wy (aP k)).isEmpty
noncomputable def bD (n:Nat)(ps:List (Int × Int))(wy:aS->Nat):List Rw:=((bj ps n n).filter fun k=>!si wy k).map (dO wy)
theorem iq {n:Nat}{ps:List (Int × Int)}{wy:aS->Nat}(h:TabOk n ps wy):zZ n ps (bD n ps wy) where
 nd:=by
  unfold bD
  rw[map_map,show cw ∘ dO wy=id from rfl,map_id]
  exact List.Pairwise.filter _ (iA ps n n)
 key r hr:=by
  obtain⟨k,hk,rfl⟩:=mem_map.mp hr
  obtain⟨p,g,h1,h2,h3,h4,h5,h6⟩:=dS (mem_filter.mp hk).1
  exact⟨p,g,h1,h2,h3,h4,h5,h6⟩
 lanes r hr:=by
  obtain⟨k,hk,rfl⟩:=mem_map.mp hr
  obtain⟨p,g,h1,h2,h3,h4,h5,h6⟩:=dS (mem_filter.mp hk).1
  refine⟨fun z hz=>?_,h.wU _⟩
  show z ∈ cY Prod.fst ps k.1
  rw[h4]
  refine h.out p g k.2.2 h1 h2 h6 z ?_
  rw[← h4,← h5]
  exact hz
theorem rH {n:Nat}{ps:List (Int × Int)}{p g:Nat}{c:Option Nat}(hp:p < n)(hg:g < n)(ve:g ≠ p)(hc:c ∈ aE ps p):((p:Int),(g:Int),c) ∈ bj ps n n:=by
 unfold bj bQ
 refine mem_flatMap.mpr ⟨p,mem_range.mpr hp,mem_flatMap.mpr ⟨g,mem_range.mpr hg,?_⟩⟩
 unfold cP
 rw[if_neg ve]
 exact mem_map.mpr ⟨c,hc,rfl⟩
theorem nX {n:Nat}{ps:List (Int × Int)}{wy:aS->Nat}(h:TabOk n ps wy){p g:Nat}{c:Option Nat}(hp:p < n)(hg:g < n)(hc:c ∈ aE ps p):wl (cq (bD n ps wy)) (aP ((p:Int),(g:Int),c))=wl wy (aP ((p:Int),(g:Int),c)):=by
 cases e:bY (bD n ps wy) (aP ((p:Int),(g:Int),c)) with
 | some r =>
  obtain⟨k,hk,rfl⟩:=mem_map.mp (cW e)
  have ek:k=((p:Int),(g:Int),c):=cU (i9 e)
  subst ek
  unfold wl cq
  rw[e]
  exact kK (jr wy _)
 | none =>
  have h1:wl (cq (bD n ps wy)) (aP ((p:Int),(g:Int),c))=[]:=dZ (by unfold cq;rw[e])
  rw[h1]
  by_cases ve:g=p
  ·subst ve;exact(h.zero g c).symm
  ·cases hb:si wy ((p:Int),(g:Int),c) with
   | true=>exact(isEmpty_iff.mp hb).symm
   | false =>
    have hm:dO wy ((p:Int),(g:Int),c) ∈ bD n ps wy:=mem_map.mpr ⟨_,mem_filter.mpr ⟨rH hp hg ve hc,by rw[hb];rfl⟩,rfl⟩
    have:=rG (iq h).nd hm
    rw[show aq (dO wy ((p:Int),(g:Int),c))=aP ((p:Int),(g:Int),c) from rfl,e]at this
    cases this
noncomputable def sD:Str:=Str.ofString "way"
noncomputable def dU (pr:Int × Int):List Str:=[V.str (Str.ofString "lane"), .int pr.1, .int pr.2].map wT
noncomputable def cK (r:Rw):List Str:=sD :: bH r.p.toNat r.g.toNat r.c r.s
noncomputable def bT (n:Nat):List Str:=[V.str (Str.ofString "places"), .int n].map wT
noncomputable def cA (n:Nat)(ps:List (Int × Int))(wy:aS->Nat):List (List Str):=[bT n] ++ ps.map dU ++ (bD n ps wy).map cK
theorem nN {α β:Type}(b:α->Bool)(F:α->β):∀ l:List α,(l.flatMap fun k=>if b k then [] else [F k])=(l.filter fun k=>!b k).map F
 | []=>rfl
 | a :: l=>by
  rw[flatMap_cons,nN b F l,filter_cons]
  cases b a<;>rfl
theorem ci {α β:Type}{f g:α->List β}:∀ {l:List α},(∀ a ∈ l,f a=g a)->l.flatMap f=l.flatMap g
 | [],_=>rfl
 | a :: l,h=>by rw[flatMap_cons,flatMap_cons,h a mem_cons_self,ci fun b hb=>h b (mem_cons_of_mem _ hb)]
noncomputable def fO (wy:aS->Nat)(k:bB):List Str:=if si wy k then [] else [Txt.join blank (cK (dO wy k))]
theorem gv (wy:aS->Nat)(p g:Nat)(c:Option Nat):aV wy p g c=fO wy ((p:Int),(g:Int),c):=by
 have e1:bS (wy (aq ⟨(p:Int),(g:Int),c,[]⟩))=nV (wl wy (aP ((p:Int),(g:Int),c))):=rfl
 unfold aV fO si
 rw[e1]
 have e2:(nV (wl wy (aP ((p:Int),(g:Int),c)))).isEmpty=(wl wy (aP ((p:Int),(g:Int),c))).isEmpty:=by
  unfold nV
  cases wl wy (aP ((p:Int),(g:Int),c))<;>rfl
 rw[e2]
 have e3:([V.str (Str.ofString "way"), .int (p:Int), .int (g:Int),cV c] ++ nV (wl wy (aP ((p:Int),(g:Int),c)))).map wT=cK (dO wy ((p:Int),(g:Int),c)):=by
  unfold cK bH dO nV
  rw[map_append,map_map]
  rfl
 rw[e3]
theorem im {n:Nat}{ps:List (Int × Int)}{wy:aS->Nat}(h:TabOk n ps wy):((List.range n).flatMap fun p=>cr ps wy n p n)=(bj ps n n).flatMap (fO wy):=by
 unfold bj
 rw[List.flatMap_assoc]
 refine ci fun p hp=>?_
 unfold cr bQ
 rw[List.flatMap_assoc]
 refine ci fun g hg=>?_
 unfold cP
 split
 ·rename_i e
  subst e
  have:∀ l:List (Option Nat),l.flatMap (aV wy g g)=[]:=fun l=>by
   refine List.flatMap_eq_nil_iff.mpr fun c _=>?_
   rw[gv]
   unfold fO si
   rw[h.zero]
   rfl
  rw[this]
  rfl
 ·rw[List.flatMap_map]
  exact ci fun c _=>gv wy p g c
theorem ni {n:Nat}{ps:List (Int × Int)}{wy:aS->Nat}(h:TabOk n ps wy):aQ n ps wy=(cA n ps wy).map (Txt.join blank):=by
 unfold aQ cA
 rw[im h,map_append,map_append,map_map,map_map]
 congr 1
 unfold bD
 rw[map_map]
 exact nN (si wy) (fun k=>Txt.join blank (cK (dO wy k))) _
theorem io {n:Nat}{ps:List (Int × Int)}{wy:aS->Nat}(h:TabOk n ps wy):aQ n ps (cq (bD n ps wy))=aQ n ps wy:=by
 unfold aQ
 congr 1
 refine ci fun p hp=>ci fun g hg=>ci fun c hc=>?_
 have hc:c ∈ aE ps p:=hc
 have e:=nX h (mem_range.mp hp) (mem_range.mp hg) hc
 rw[gv,gv]
 unfold fO si dO
 rw[e]
abbrev tl (x:Str):List Nat:=x.cps.toList
theorem bZ (x y:Str):tl (x ++ y)=tl x ++ tl y:=by
 show(x.cps ++ y.cps).toList=_
 exact Array.toList_append
theorem sF {x y:Str}(h:tl x=tl y):x=y:=by
 cases x;cases y
 exact congrArg Str.mk (Array.toList_inj.mp h)
theorem lM (x:Str):x.length=(tl x).length:=by
 show x.cps.size=_
 exact Array.length_toList.symm
theorem eV (c:Nat)(ys:List Str):tl (Txt.join ⟨#[c]⟩ ys)=cJ c (ys.map tl):=by
 rw[show Txt.join ⟨#[c]⟩ ys=Str.join ⟨#[c]⟩ ys from StrLaws.glued_eq_join _ _]
 exact gb c ys
theorem ga (c:Nat)(p:List Nat):∀ {ps:List (List Nat)},ps ≠ []->cJ c (ps ++ [p])=cJ c ps ++ c :: p
 | [],h=>absurd rfl h
 | [q],_=>rfl
 | q :: r :: l,_=>by
  show q ++ c :: cJ c ((r :: l) ++ [p])=(q ++ c :: cJ c (r :: l)) ++ c :: p
  rw[ga c p (cons_ne_nil r l),append_assoc]
  rfl
theorem nL {c d:Nat}(wL:d ≠ c):∀ {ps:List (List Nat)},(∀ p ∈ ps,d ∉ p)->d ∉ cJ c ps
 | [],_=>by intro h;cases h
 | [q],h=>h q mem_cons_self
 | q :: r :: l,h=>by
  intro z
  rcases mem_append.mp z with z | z
  ·exact h q mem_cons_self z
  ·rcases mem_cons.mp z with z | z
   ·exact wL z
   ·exact nL wL (fun p hp=>h p (mem_cons_of_mem _ hp)) z
noncomputable def CZ (x:Str):Prop:=10 ∉ tl x/\32 ∉ tl x
theorem dg (m:Nat):CZ (aF m):=⟨jF (by decide),jF (by decide)⟩
theorem sB (c:Option Nat):CZ (wT (cV c)):=by
 cases c with
 | none=>exact⟨by decide,by decide⟩
 | some k=>exact dg k
theorem qJ (r:Rw):∀ x ∈ cK r,CZ x:=by
 intro x hx
 unfold cK bH at hx
 rcases mem_cons.mp hx with rfl | hx
 ·exact⟨by decide,by decide⟩
 rcases mem_append.mp hx with hx | hx
 ·simp only[mem_cons,not_mem_nil,or_false]at hx
  rcases hx with rfl | rfl | rfl
  ·exact dg _
  ·exact dg _
  ·exact sB _
 ·obtain⟨m,_,rfl⟩:=mem_map.mp hx
  exact dg m
theorem jW {n:Nat}{ps:List (Int × Int)}{wy:aS->Nat}(vf:∀ pr ∈ ps,∃ a b:Nat,pr=((a:Int),(b:Int))/\a < 12/\b < 12):∀ ws ∈ cA n ps wy,ws ≠ []/\∀ x ∈ ws,CZ x:=by
 intro ws hw
 rcases mem_append.mp hw with hw | hw
 ·rcases mem_append.mp hw with hw | hw
  ·rw[mem_singleton.mp hw]
   refine⟨cons_ne_nil _ _,fun x hx=>?_⟩
   simp only[bT,map_cons,map_nil,mem_cons,not_mem_nil,or_false]at hx
   rcases hx with rfl | rfl
   ·exact⟨by decide,by decide⟩
   ·exact dg n
  ·obtain⟨pr,hpr,rfl⟩:=mem_map.mp hw
   obtain⟨a,b,rfl,_,_⟩:=vf pr hpr
   refine⟨cons_ne_nil _ _,fun x hx=>?_⟩
   simp only[dU,map_cons,map_nil,mem_cons,not_mem_nil,or_false]at hx
   rcases hx with rfl | rfl | rfl
   ·exact⟨by decide,by decide⟩
   ·exact dg a
   ·exact dg b
 ·obtain⟨r,_,rfl⟩:=mem_map.mp hw
  exact⟨cons_ne_nil _ _,qJ r⟩
theorem pe {n:Nat}{ps:List (Int × Int)}{wy:aS->Nat}(h:TabOk n ps wy)(vf:∀ pr ∈ ps,∃ a b:Nat,pr=((a:Int),(b:Int))/\a < 12/\b < 12) :
  Txt.split (Txt.join newline (aQ n ps wy)) newline=aQ n ps wy/\(aQ n ps wy).map (fun r=>Txt.split r blank)=cA n ps wy:=by
 have hw:=jW (n:=n) (wy:=wy) vf
 have hb:∀ ws ∈ cA n ps wy,Txt.split (Txt.join blank ws) blank=ws:=fun ws Aa=>gZ (by decide) (hw ws Aa).1 fun y hy=>((hw ws Aa).2 y hy).2
 constructor
 ·refine gZ (by decide) (fun z=>by unfold aQ at z;cases z) fun y hy=>?_
  rw[ni h]at hy
  obtain⟨ws,Aa,rfl⟩:=mem_map.mp hy
  show 10 ∉ tl (Txt.join ⟨#[32]⟩ ws)
  rw[eV]
  refine nL (by decide) fun p hp=>?_
  obtain⟨x,hx,rfl⟩:=mem_map.mp hp
  exact((hw ws Aa).2 x hx).1
 ·rw[ni h,map_map]
  refine(List.map_congr_left fun ws Aa=>?_).trans (map_id _)
  exact hb ws Aa
theorem pd {n:Nat}{ps:List (Int × Int)}{wy:aS->Nat}(hn:n <= 12)(uK:ps.length <= 40)(vf:∀ pr ∈ ps,∃ a b:Nat,pr=((a:Int),(b:Int))/\a < 12/\b < 12)(hw:uk wy):(Txt.join newline (aQ n ps wy)).length <= 4000000:=by
 obtain⟨h1,h2⟩:=il hn uK vf hw
 have e:Txt.join newline (aQ n ps wy)=Str.join newline (aQ n ps wy):=StrLaws.glued_eq_join _ _
 rw[e]
 have h3:=StrLaws.join_length_le newline (aQ n ps wy)
 have h4:((aQ n ps wy).map (·.length)).sum <= (aQ n ps wy).length * 500:=StrLaws.sumLen_le _ h2
 have h5:(aQ n ps wy).length * newline.length=(aQ n ps wy).length:=Nat.mul_one _
 omega
theorem lF {n:Nat}{ps:List (Int × Int)}{wy:aS->Nat}(h:TabOk n ps wy)(uK:ps.length <= 40):uk wy:=fun k=>by
 have e:bS (wy k)=nV (wl wy k):=rfl
 rw[e]
 refine⟨by rw[ca];exact le_trans (h.wU k) uK,fun v hv=>?_⟩
 obtain⟨q,hq,rfl⟩:=qd hv
 exact bX (lt_of_lt_of_le (h.lt k q hq) (le_trans uK (by decide)))
structure Dc (P:Program)(w:World)(K:Frag)(mg:Str->Option Value)(base:Heap)(c:Cs)(ts:Ts)(fi ft:Addr)(di dt:FuncData):Prop where
 mi:mg "Land" = some (.ref c.land)
 Mi:Mk K c.land fi
 bi:Binds K di ["self", "places", "lanes"] []
 Gi:Z P w K mg base aD 4 fi di ["self", "places", "lanes"] (j1 K c)
 mt:mg "Told" = some (.ref ts.told)
 Mt:Mk K ts.told ft
 bt:Binds K dt ["self", "land", "rows"] []
 Gt:Z P w K mg base aD 5 ft dt ["self", "land", "rows"] (jz P w K c ts)
theorem fD {n:Nat}{pr:Int × Int}(hn:n <= 12)(h:fB n pr=true):∃ a b:Nat,pr=((a:Int),(b:Int))/\a < 12/\b < 12:=by
 unfold fB at h
 simp only[Bool.and_eq_true,decide_eq_true_eq,Bool.not_eq_true',decide_eq_false_iff_not]at h
 obtain⟨⟨h1,h2⟩,⟨h3,h4⟩,_⟩:=h
 refine⟨pr.1.toNat,pr.2.toNat,Prod.ext ?_ ?_,by omega,by omega⟩
 ·show pr.1=(pr.1.toNat:Int);omega
 ·show pr.2=(pr.2.toNat:Int);omega
theorem oN {n:Nat}{ps:List (Int × Int)}(hn:1 <= n/\n <= 12)(hl:ps.length <= 40)(h:∀ q ∈ ps,fB n q=true):dX n ps = .good:=by
 unfold dX
 rw[if_neg (by rw[decide_eq_true (by omega)];intro z;cases z),if_neg (by omega),iK h]
theorem fA {H:Hp}{x dx:Addr}{o:HO}(nx:H x=none)(xM:H dx=none)(xN:dx ≠ x):uu H (ar (ar H dx (.own x)) x o):=uu.new (uu.new (uu.refl H) xM) (by rw[ak (Ne.symm xN)];exact nx)
theorem nD {K:Frag}{c:Cs}{H:Hp}{x dx l:Addr}{n:Nat}{uH:List V}{ps:List (Int × Int)}{Q:VK}{E:XK}(nx:H x=none)(xM:H dx=none)(xN:dx ≠ x)(gl:H l=some (.lst uH))(xh:uD H uH ps)(hn:1 <= n/\n <= 12)(uK:ps.length <= 40)(u1:∀ q ∈ ps,fB n q=true)
  (q:∀ H3 lt uz,uu H H3->bL H3 c x dx lt n uz ps->Q .uB H3):j1 K c [.ref x, .int n, .ref l] (ar (ar H dx (.own x)) x (.ins c.land dx [])) Q E:=by
 have s3:=fA (o := .ins c.land dx []) nx xM xN
 have gd:=oN hn uK u1
 have wW:uH.length=ps.length:=Paired.length xh
 exact⟨x,dx,(n:Int),l,uH,ps,rfl,ac,ux.of (s3 _ _ gl),uD.same s3 xh,by omega,(fun h=>by rw[gd]at h;cases h),(fun k h=>by rw[gd]at h;cases h),(fun k h=>by rw[gd]at h;cases h),fun _ H3 lt uz off hL=>q H3 lt uz (fun b o z=>off b o (am z nx) (s3 _ _ z)) hL⟩
theorem jG {P:Program}{w:World}{K:Frag}{c:Cs}{ts:Ts}{H:Hp}{x dx lx u4 lt p:Addr}{n:Nat}{uz uG:List V}{ps:List (Int × Int)}{rs:List Rw}{Q:VK}{E:XK}(nx:H x=none)(xM:H dx=none)(xN:dx ≠ x)(hL:bL H c lx u4 lt n uz ps)(gp:H p=some (.lst uG))(hR:uV H uG rs)(hn:n <= 12)(uK:ps.length <= 40)(hf:zZ n ps rs)(xV:rs.length <= 10000)
  (q:∀ H4,uu H H4->uJ c ts.told (aX P w ts) H4 x lx u4 lt n uz ps (cq rs)->Q .uB H4):jz P w K c ts [.ref x, .ref lx, .ref p] (ar (ar H dx (.own x)) x (.ins ts.told dx [])) Q E:=by
 have s3:=fA (o := .ins ts.told dx []) nx xM xN
 have xE:=qp hf
 have wW:uG.length=rs.length:=Paired.length hR
 have hT:=fI hf
 refine⟨x,dx,lx,u4,lt,p,(n:Int),uz,uG,ps,rs,rfl,ac,⟨s3 _ _ hL.1,s3 _ _ hL.2.1,uD.same s3 hL.2.2⟩,ux.of (s3 _ _ gp),uV.same s3 hR,by omega,by omega,(fun r hr=>⟨fun k hk=>by have:=jM ((hf.lanes r hr).1 k hk);omega,by have:=(hf.lanes r hr).2;omega⟩),(fun i hi=>by rw[xE]at hi;cases hi),fun _ H6 de GV GW hy zx vp=>?_⟩
 have s6:uu H H6:=fun b o z=>GW b o (am z nx) (s3 _ _ z)
 exact q H6 s6 ⟨⟨dx,de,_,GV,hy,zx,rO hf uK vp⟩,⟨dx,_,hy,rfl⟩,⟨s6 _ _ hL.1,s6 _ _ hL.2.1,uD.same s6 hL.2.2⟩,hn,uK,hT.lt,fun k=>le_trans (hT.wU k) uK⟩
theorem ld {K:Frag}{a:Addr}{us:List V}{ws:List (List Str)}{g:TG}{tt:TT}{te:TE}{σ0:St}{H:Hp}{Q:VK}(p:List Str->Bool)(hn:ws.length <= 100000)(ha:H a=some (.lst us))(hw:uY H us ws)
  (hs:∀ (u:V)(x:List Str)(acc:List V)(N:List V->Hp->Prop),CY H u x->x ∈ ws->N (if p x then acc ++ [u] else acc) H->g u σ0 H fun σ2 H2=>tt σ2 H2 fun b H3=>if b=true then te σ2 H3 fun y H4=>N (acc ++ [y]) H4 else N acc H3)
  (hq:∀ D IT,H D=none->uY H IT (ws.filter p)->Q (.ref D) (ar H D (.lst IT))):eG (sf K a) g tt te σ0 Q H:=by
 have hlen:us.length=ws.length:=Paired.length hw
 refine bA ws.length (by rw[sizeLine_eq];omega) (fun i acc H'=>H' = H/\uY H acc ((ws.take i).filter p)) ⟨rfl, .nil⟩ (fun i acc H' h=>by rw[Paired.length h.2];exact le_trans (length_filter_le _ _) (length_take_le _ _)) (fun i acc H' hi h=>?_) (fun acc H' h=>?_)
 ·obtain⟨rfl,h⟩:=h
  have IU:=List.getElem?_eq_getElem hi
  obtain⟨v,hv,hL⟩:=uY.get hw IU
  refine⟨⟨_,v,ux.of ha,hv⟩,fun v' H2 y=>?_⟩
  obtain⟨rfl,y⟩:=y
  have vG:=y _ (ux.of ha)
  rw[hv]at vG
  cases vG
  refine hs v ws[i] acc (fun uR H5=>H5=H2/\uY H2 uR ((ws.take (i + 1)).filter p)) hL (getElem_mem hi) ⟨rfl,?_⟩
  rw[take_succ,IU,filter_append]
  show uY H2 _ (_ ++ List.filter p [ws[i]])
  rw[filter_cons]
  cases p ws[i] with
  | true=>exact uY.snoc hL h
  | false=>show uY H2 acc (_ ++ []);rw[append_nil];exact h
 ·obtain⟨rfl,h⟩:=h
  rw[take_length]at h
  exact⟨⟨us,ux.of ha,by omega⟩,fun D hD=>hq D acc hD h⟩
noncomputable def wF:Str:=Str.ofString "lane"
noncomputable def fZ (x:List Str):Bool:=decide (V.str (x.headD blank)=V.str (Str.ofString "lane")) && decide (V.int ((x.map V.str).length:Nat)=V.int 3)
noncomputable def ji (x:List Str):Bool:=decide (V.str (x.headD blank)=V.str (Str.ofString "way")) && decide ((4:Int) < ((x.map V.str).length:Nat))
theorem kS {α:Type}{p:α->Bool}{l:List α}(h:∀ x ∈ l,p x=true):l.filter p=l:=List.filter_eq_self.mpr h
theorem gN {α:Type}{p:α->Bool}{l:List α}(h:∀ x ∈ l,p x=false):l.filter p=[]:=List.filter_eq_nil_iff.mpr fun x hx=>by rw[h x hx];intro z;cases z
theorem jw {x y:Str}(h:tl x ≠ tl y):decide (V.str x=V.str y)=false:=decide_eq_false fun z=>h (congrArg tl (V.str.inj z))
theorem qg (n:Nat)(ps:List (Int × Int))(wy:aS->Nat):(cA n ps wy).filter fZ=ps.map dU:=by
 unfold cA
 rw[filter_append,filter_append,gN (l:=[bT n]),kS (l:=ps.map dU),gN (l:=(bD n ps wy).map cK)]
 ·simp
 ·intro x hx
  obtain⟨r,_,rfl⟩:=mem_map.mp hx
  unfold fZ
  rw[show(cK r).headD blank=sD from rfl,jw (by decide),Bool.false_and]
 ·intro x hx
  obtain⟨r,_,rfl⟩:=mem_map.mp hx
  unfold fZ
  rw[decide_eq_true (show V.str ((dU r).headD blank)=V.str (Str.ofString "lane") from rfl),decide_eq_true (show V.int (((dU r).map V.str).length:Nat)=V.int 3 from rfl)]
  rfl
 ·intro x hx
  rw[mem_singleton.mp hx]
  unfold fZ
  rw[show(bT n).headD blank=Str.ofString "places" from rfl,jw (by decide),Bool.false_and]
theorem qK (n:Nat)(ps:List (Int × Int))(wy:aS->Nat):(cA n ps wy).filter ji=(bD n ps wy).map cK:=by
 unfold cA
 rw[filter_append,filter_append,gN (l:=[bT n]),gN (l:=ps.map dU),kS (l:=(bD n ps wy).map cK)]
 ·simp
 ·intro x hx
  obtain⟨r,hr,rfl⟩:=mem_map.mp hx
  obtain⟨k,hk,rfl⟩:=mem_map.mp hr
  have hb:=(mem_filter.mp hk).2
  have ve:0 < (wl wy (aP k)).length:=by
   refine length_pos_iff.mpr fun z=>?_
   unfold si at hb
   rw[z]at hb
   cases hb
  unfold ji
  rw[decide_eq_true (show V.str ((cK (dO wy k)).headD blank)=V.str (Str.ofString "way") from rfl),decide_eq_true,Bool.true_and]
  rw[length_map]
  unfold cK bH dO
  rw[length_cons,length_append,length_map]
  show (4:Int) < ((3 + (wl wy (aP k)).length + 1:Nat):Int)
  omega
 ·intro x hx
  obtain⟨r,_,rfl⟩:=mem_map.mp hx
  unfold ji
  rw[show(dU r).headD blank=wF from rfl,jw (by decide),Bool.false_and]
 ·intro x hx
  rw[mem_singleton.mp hx]
  unfold ji
  rw[show(bT n).headD blank=Str.ofString "places" from rfl,jw (by decide),Bool.false_and]
noncomputable def BO (K:Frag):List V->Hp->VK->Prop:=fun xs H Q=>∃ (p:Addr)(ys:List V),xs=[.ref p]/\(ux K H p ys∨uE K H p ys)/\Q (.int (ys.length:Nat)) H
theorem nJ {x:List Str}(h:x ≠ []):nZ (x.map V.str) 0=some (.str (x.headD blank)):=by
 cases x with
 | nil=>exact absurd rfl h
 | cons y l=>exact aB (j:=0) rfl
noncomputable def j0 (P:Program)(w:World)(c:Cs)(ts:Ts):Sp:=fun vs H Q _=>∃ (D:Addr)(us:List V)(n:Nat)(ps:List (Int × Int))(wy:aS->Nat),vs=[.ref D]/\H D=some (.lst us)/\uY H us (cA n ps wy)/\(1 <= n/\n <= 12)/\ps.length <= 40/\(∀ q ∈ ps,fB n q=true)/\TabOk n ps wy/\(cA n ps wy).length <= 6000 /\
 ∀ (x lx u4 lt:Addr)(uz:List V)(H':Hp),uu H H'->uJ c ts.told (aX P w ts) H' x lx u4 lt n uz ps (cq (bD n ps wy))->Q (.ref x) H'
noncomputable def nh (s:Stmt):Scope:=match s with
 | .Assign _ (.ListComp _ _ sc _) _=>sc
 | _=>eh
noncomputable def og (s:Stmt):Scope:=match s with
 | .Assign _ (.Call _ [_, .ListComp _ _ sc _] _ _) _=>sc
 | .Return (some (.Call _ [_, .ListComp _ _ sc _] _ _)) _=>sc
 | _=>eh
abbrev BP:List Str:=["rows", "lanes", "ways", "land"]
abbrev rE (i:Nat):Stmt:=(aL dM).getD i (.Pass ⟨0,0,0,0⟩)
theorem yx:aw BP ["rows"] (ah dM):=L2.uU
theorem GX:vd BP (ah dM) (nh (rE 0)) [] []:=L2.vH
theorem GY:vd BP (ah dM) (nh (rE 1)) [] []:=L2.vH
theorem GZ:vd BP (ah dM) (og (rE 2)) [] []:=L2.vH
theorem Hf:vd BP (ah dM) (og (rE 3)) [] []:=L2.vH
theorem rC:(["words"]:List Str).Nodup:=by decide +kernel
theorem pS {c:Cs}{ts:Ts}{f fn fy fi ft:Addr}{fd dn dy di dt:FuncData}(F:uN K "make_table" "make_table" dM f fd)(T:Txt mg)(M:Dc P w K mg base c ts fi ft di dt)(mn:mg "number_of" = some (.ref fn))(kn:keepIn K (.ref fn)=true)(bn:Binds K dn ["word"] [])(Gn:Z P w K mg base aD 1 fn dn ["word"] eY)
  (my:mg "read_way" = some (.ref fy)) (ky:keepIn K (.ref fy)=true) (by_:Binds K dy ["words"] []) (Gy:Z P w K mg base aD 2 fy dy ["words"] fQ):Z P w K mg base aD 7 f fd ["rows"] (j0 P w c ts):=by
 refine F.ok yx (fun vs H Q E h=>?_) (fun uF A outer s H vs Q E hr h=>?_)
 ·obtain⟨D,us,n,ps,wy,rfl,_⟩:=h
  rfl
 ·obtain⟨D,us,n,ps,wy,rfl,hD,hW,hn,uK,u1,hT,xV,q⟩:=h
  have vQ:u5 2 _:=hr.mono (by decide)
  have vo:u5 1 _:=hr.mono (by decide)
  have Hg:u5 5 _:=hr.mono (by decide)
  refine⟨_,ae (cE (i:=1) (own:=["words"]) (capN:=[]) (cap:=[]) GX rfl yx.nd rfl rfl (aI (pv 0))
    (fun C s' H' fp=>⟨ao (i:=0) rC rfl (Or.inl rfl),bN (PW.pt (ix (az bW (aJ (show jq _ (kq K) from bc) (pv 0) aj (fun _ _=>rfl)) b7 (aC _)) (fj (az bW (aM (show uL _ (.builtin "len") (BO K) from aO) rfl T.len PySem.boot_len (aa (pv 0) ad)) aj (aC _))))),pv 0⟩))
   (ae (cE (i:=2) (own:=["words"]) (capN:=[]) (cap:=[]) GY rfl yx.nd rfl rfl (aI (pv 0))
    (fun C s' H' fp=>⟨ao (i:=0) rC rfl (Or.inl rfl),bN (PW.pt (ix (az bW (aJ (show jq _ (kq K) from bc) (pv 0) aj (fun _ _=>rfl)) b7 (aC _)) (fj (az n5 (aM (show uL _ (.builtin "len") (BO K) from aO) rfl T.len PySem.boot_len (aa (pv 0) ad)) aj (aC _))))),pv 0⟩))
   (ae (ay (i:=3) yx.nd rfl (Or.inl rfl) (dB M.Mi M.Gi Hg rfl M.mi M.bi .nil au (aa (ap Gn vo rfl mn kn bn .nil au (aa (aJ bc (aJ bc (pv 0) aj (fun _ _=>rfl)) (nv jt aj) (fun _ _=>rfl)) ad))
    (aa (bp (own:=["words"]) (capN:=[]) (cap:=[]) GZ rfl (aI (pv 1))
     (fun C s' H' fp=>⟨ao (i:=0) rC rfl (Or.inl rfl),cx,cg (aa (ap Gn vo rfl mn kn bn .nil au (aa (aJ (show jq _ (kq K) from bc) (pv 0) aj (fun _ _=>rfl)) ad)) (aa (ap Gn vo rfl mn kn bn .nil au (aa (aJ (show jq _ (kq K) from bc) (pv 0) aj (fun _ _=>rfl)) ad)) ad))⟩)) ad))))
   (ag (aA (dB M.Mt M.Gt hr rfl M.mt M.bt .nil au (aa (pv 3) (aa (bp (own:=["words"]) (capN:=[]) (cap:=[]) Hf rfl (aI (pv 2))
     (fun C s' H' fp=>⟨ao (i:=0) rC rfl (Or.inl rfl),cx,ap Gy vQ rfl my ky by_ .nil au (aa (iy (show Ef _ (AJ K) from j4) (pv 0) (j9 aj) jA) ad)⟩)) ad))))))),?_⟩
  have vf:∀ pr ∈ ps,∃ a b:Nat,pr=((a:Int),(b:Int))/\a < 12/\b < 12:=fun pr hpr=>fD hn.2 (u1 pr hpr)
  have ve:=fun x hx=>(jW (n:=n) (wy:=wy) vf x hx).1
  refine⟨_,rfl,D,rfl,⟨_,ux.of hD⟩,?_⟩
  refine ld fZ (by omega) hD hW (fun u x acc N hL hx h=>?_) fun D1 BQ hD1 Ab=>?_
  ·obtain⟨a,rfl,ha⟩:=hL
   refine⟨_,rfl,a,_,0,_,rfl,rfl,ux.of ha,nJ (ve x hx),rfl,_,rfl,?_⟩
   unfold fZ at h
   cases e1:decide (V.str (x.headD blank)=V.str (Str.ofString "lane")) with
   | false =>
    rw[e1,Bool.false_and]at h
    exact aT (aT h)
   | true =>
    rw[e1,Bool.true_and]at h
    refine be ⟨_,rfl,a,_,rfl, .inl (ux.of ha),rfl,_,rfl,?_⟩
    cases e2:decide (V.int ((x.map V.str).length:Nat)=V.int 3) with
    | false=>rw[e2]at h;exact aT h
    | true=>rw[e2]at h;exact be ⟨_,rfl,h⟩
  rw[qg]at Ab
  have s1:=(uu.refl H).new (o := .lst BQ) hD1
  have g1:(ar H D1 (.lst BQ)) D1=some (.lst BQ):=ac
  show cX 1 (V.ref D1) _ (ar H D1 (.lst BQ)) _
  generalize ar H D1 (.lst BQ)=H1 at s1 g1 ⊢
  have Ab:=uY.same s1 Ab
  refine⟨_,rfl,D,rfl,⟨_,ux.of (s1 _ _ hD)⟩,?_⟩
  refine ld ji (by omega) (s1 _ _ hD) (uY.same s1 hW) (fun u x acc N hL hx h=>?_) fun D2 Ac xf Dd=>?_
  ·obtain⟨a,rfl,ha⟩:=hL
   refine⟨_,rfl,a,_,0,_,rfl,rfl,ux.of ha,nJ (ve x hx),rfl,_,rfl,?_⟩
   unfold ji at h
   cases e1:decide (V.str (x.headD blank)=V.str (Str.ofString "way")) with
   | false =>
    rw[e1,Bool.false_and]at h
    exact aT (aT h)
   | true =>
    rw[e1,Bool.true_and]at h
    refine be ⟨_,rfl,a,_,rfl, .inl (ux.of ha),_,_,rfl,rfl,_,rfl,?_⟩
    cases e2:decide ((4:Int) < ((x.map V.str).length:Nat)) with
    | false=>rw[e2]at h;exact aT h
    | true=>rw[e2]at h;exact be ⟨_,rfl,h⟩
  rw[qK]at Dd
  have s2:=s1.new (o := .lst Ac) xf
  have yJ:=(uu.refl H1).new (o := .lst Ac) xf
  have g2:(ar H1 D2 (.lst Ac)) D2=some (.lst Ac):=ac
  show cX 2 (V.ref D2) _ (ar H1 D2 (.lst Ac)) _
  generalize ar H1 D2 (.lst Ac)=H2 at s2 yJ g2 ⊢
  have Dd:=uY.same yJ Dd
  have Ab:=uY.same yJ Ab
  obtain⟨u0,hu0,a0,rfl,ha0⟩:=uY.get (uY.same s2 hW) (show(cA n ps wy)[0]? = some (bT n) from rfl)
  refine⟨_,rfl,D,us,0,_,rfl,rfl,ux.of (s2 _ _ hD),aB (j:=0) hu0,_,rfl,a0,_,-1,_,rfl,rfl,ux.of ha0,qB [V.str (Str.ofString "places")] (.str (aF n)),n,rfl,lt_of_le_of_lt hn.2 (by decide),fun H3 s3=>?_⟩
  have zr:=s2.trans s3
  refine⟨_,rfl,D1,rfl,⟨_,ux.of (s3 _ _ (yJ _ _ g1))⟩,?_⟩
  have Hh:=s3 _ _ (yJ _ _ g1)
  have BR:=uY.same s3 Ab
  refine bA ps.length (by rw[sizeLine_eq];omega) (fun i acc H'=>uu H3 H'/\uD H' acc (ps.take i)) ⟨uu.refl _, .nil⟩ (fun i acc H' h=>by rw[Paired.length h.2];exact length_take_le _ _) (fun i acc H' hi h=>?_) (fun acc H' h=>?_)
  ·obtain⟨s4,De⟩:=h
   have Bz:=List.getElem?_eq_getElem hi
   obtain⟨v,hv,a,rfl,ha⟩:=uY.get (uY.same s4 BR) (show(ps.map dU)[i]? = some (dU ps[i]) by rw[List.getElem?_map,Bz];rfl)
   refine⟨⟨_,_,ux.of (s4 _ _ Hh),hv⟩,fun v' H5 y=>?_⟩
   obtain⟨rfl,y⟩:=y
   have vG:=y _ (ux.of (s4 _ _ Hh))
   rw[hv]at vG
   cases vG
   obtain⟨p1,p2,zj,h1,h2⟩:=vf _ (getElem_mem hi)
   have vj:ps.take (i + 1)=ps.take i ++ [ps[i]]:=by rw[take_succ,Bz];rfl
   generalize ps[i]=pr at zj ha vj
   subst zj
   refine⟨_,rfl,a,_,1,_,rfl,rfl,ux.of ha,aB (j:=1) rfl,p1,rfl,lt_trans h1 (by decide),fun H6 s6=>?_⟩
   refine⟨_,rfl,a,_,2,_,rfl,rfl,ux.of (s6 _ _ ha),aB (j:=2) rfl,p2,rfl,lt_trans h2 (by decide),fun H7 s7=>⟨by show 2 <= sizeLine;decide,fun t ht=>?_⟩⟩
   have s8:=(s6.trans s7).new (o := .tup [.int (p1:Int), .int (p2:Int)]) ht
   refine⟨s4.trans s8,?_⟩
   rw[vj]
   have hv8:Bi (ar H7 t (.tup [.int (p1:Int), .int (p2:Int)])) (.ref t) ((p1:Int),(p2:Int)):=⟨t,rfl,ac⟩
   exact uD.snoc hv8 (uD.same s8 De)
  obtain⟨s4,De⟩:=h
  rw[take_length]at De
  refine⟨⟨_,ux.of (s4 _ _ Hh),by rw[Paired.length BR,length_map];exact le_refl _⟩,fun l hl=>?_⟩
  have s5:=s4.new (o := .lst acc) hl
  have IV:=uD.same ((uu.refl H').new (o := .lst acc) hl) De
  have g5:(ar H' l (.lst acc)) l=some (.lst acc):=ac
  generalize ar H' l (.lst acc)=H5 at s5 g5 IV ⊢
  refine fun x dx nx xM xN=>nD nx xM xN g5 IV hn uK u1 fun H6 lt uz s6 hL=>⟨rfl,?_⟩
  have xT:=s5.trans s6
  have Df:=xT _ _ (s3 _ _ g2)
  have zy:=uY.same xT (uY.same s3 Dd)
  refine⟨_,rfl,_,rfl,D2,rfl,⟨_,ux.of Df⟩,?_⟩
  have vF:=iq hT
  have ER:(bD n ps wy).length <= 6000:=by
   unfold cA at xV
   rw[length_append,length_map (f:=cK)]at xV
   omega
  generalize GL:bD n ps wy=rs at vF ER zy q
  refine bA rs.length (by rw[sizeLine_eq];omega) (fun i acc H'=>uu H6 H'/\uV H' acc (rs.take i)) ⟨uu.refl _, .nil⟩ (fun i acc H' h=>by rw[Paired.length h.2];exact length_take_le _ _) (fun i acc H' hi h=>?_) (fun xO H' h=>?_)
  ·obtain⟨s7,Dg⟩:=h
   have hri:=List.getElem?_eq_getElem hi
   obtain⟨v,hv,a,rfl,ha⟩:=uY.get (uY.same s7 zy) (show(rs.map cK)[i]? = some (cK rs[i]) by rw[List.getElem?_map,hri];rfl)
   refine⟨⟨_,_,ux.of (s7 _ _ Df),hv⟩,fun v' H8 y=>?_⟩
   obtain⟨rfl,y⟩:=y
   have vG:=y _ (ux.of (s7 _ _ Df))
   rw[hv]at vG
   cases vG
   have vj:rs.take (i + 1)=rs.take i ++ [rs[i]]:=by rw[take_succ,hri];rfl
   obtain⟨p1,p2,h1,h2,_,e1,e2,hc⟩:=vF.key _ (getElem_mem hi)
   obtain⟨hs1,xl⟩:=vF.lanes _ (getElem_mem hi)
   generalize rs[i]=r at *
   refine⟨_,rfl,1,rfl,a,_,rfl,ux.of ha,fun p hp=>?_⟩
   have ec:iR ((cK r).map V.str) (some 1) none=(bH r.p.toNat r.g.toNat r.c r.s).map V.str:=lb 1 [V.str sD] _ rfl
   rw[ec]
   have s9:=(uu.refl H8).new (o := .lst ((bH r.p.toNat r.g.toNat r.c r.s).map V.str)) hp
   have er:(⟨((r.p.toNat:Nat):Int),((r.g.toNat:Nat):Int),r.c,r.s⟩:Rw)=r:=by
    cases r
    simp only at e1 e2
    subst e1 e2
    rfl
   refine⟨p,r.p.toNat,r.g.toNat,r.c,r.s,rfl,ac,lt_of_lt_of_le (show r.p.toNat < 12 by omega) (by decide),lt_of_lt_of_le (show r.g.toNat < 12 by omega) (by decide),(fun k hk=>?_),(fun k hk=>?_),le_trans xl (le_trans uK (by decide)),fun t l wA xn BS=>⟨s7.trans (s9.trans xn),?_⟩⟩
   ·rw[hk]at hc
    exact lt_of_lt_of_le ((cj ps p1).2 k hc) (le_trans uK (by decide))
   ·exact lt_of_lt_of_le (jM (hs1 k hk)) (le_trans uK (by decide))
   ·rw[er]at BS
    rw[vj]
    exact uV.snoc ⟨t,l,rfl,BS⟩ (uV.same (s9.trans xn) Dg)
  obtain⟨s7,Dg⟩:=h
  rw[take_length]at Dg
  refine⟨⟨_,ux.of (s7 _ _ Df),by rw[Paired.length zy,length_map];exact le_refl _⟩,fun l2 xQ=>?_⟩
  have s8:=s7.new (o := .lst xO) xQ
  have IW:=uV.same ((uu.refl H').new (o := .lst xO) xQ) Dg
  have g8:(ar H' l2 (.lst xO)) l2=some (.lst xO):=ac
  generalize ar H' l2 (.lst xO)=H8 at s8 g8 IW ⊢
  refine fun y dy ny BU BV=>jG ny BU BV ⟨s8 _ _ hL.1,s8 _ _ hL.2.1,uD.same s8 hL.2.2⟩ g8 IW hn.2 uK vF (by omega) fun H9 s9 vX=>⟨rfl,?_⟩
  exact q y x dx lt uz H9 (zr.trans (xT.trans (s8.trans s9))) vX
end K80
namespace L2
open PySem PySem.Spec PyProof.Rows
theorem pH {X:Cx}{body:List Stmt}{h₀:ExceptHandler}{hs:List ExceptHandler}{pos:Pos}{tb:TS}(hx:∀ ev s,X.xe ev s->False)(hb:wK X body tb):PS X (.Try body (h₀ :: hs) [] [] pos) tb:=by
 intro pins s σ H D I h
 refine wpAny_Try_except (wpAny_mono (hb pins s σ H D I h) (fun f s1 q=>?_) fun ev s1 z=>(hx _ _ z).elim)
 cases f with
 | next=>exact wpAny_execs_nil q
 | ret v=>exact q
 | brk=>exact q
 | cont=>exact q
end L2
namespace K80
open PySem L2
variable {P:Program}{w:World}{K:Frag}{mg:Str->Option Value}{base:Heap}
noncomputable def fR (P:Program)(w:World)(c:Cs)(ts:Ts):Sp:=fun vs H Q _=>∃ (n:Nat)(ps:List (Int × Int))(wy:aS->Nat),vs=[.str (Txt.join newline (aQ n ps wy))]/\(1 <= n/\n <= 12)/\ps.length <= 40/\(∀ q ∈ ps,fB n q=true)/\TabOk n ps wy /\
 ∀ (x lx u4 lt:Addr)(uz:List V)(H':Hp),uu H H'->uJ c ts.told (aX P w ts) H' x lx u4 lt n uz ps (cq (bD n ps wy))->Q (.ref x) H'
theorem uJ.text {c:Cs}{C:Addr}{J:gr}{H:Hp}{x lx u4 lt:Addr}{n:Nat}{uz:List V}{ps:List (Int × Int)}{wy:aS->Nat}{Q:VK}{E:XK}(h:uJ c C J H x lx u4 lt n uz ps wy)(hT:TabOk n ps wy)(u1:∀ q ∈ ps,fB n q=true)(q:∀ H',uu H H'->Q (.str (Txt.join newline (aQ n ps wy))) H'):bM c C J [.ref x] H Q E:=by
 obtain⟨dx,fs,hx,hf⟩:=h.i
 exact⟨x,dx,lx,u4,lt,fs,n,uz,ps,wy,rfl,h.j,hx,hf,h.l,h.zi,h.wU,fun pr hpr=>fD h.zi (u1 pr hpr),lF hT h.wU,q⟩
theorem zA:aw ["text", "rows", "table"] ["text"] (ah ik):=L2.uU
theorem m9 {c:Cs}{ts:Ts}{f fr fm ft fw:Addr}{fd dr dm dt dw:FuncData}(F:uN K "read_table" "read_table" ik f fd)(W:lE K ts.told fw dw (aX P w ts))(mr:mg "rows_of" = some (.ref fr))(kr:keepIn K (.ref fr)=true)(br:Binds K dr ["text"] [])(Gr:Z P w K mg base aD 2 fr dr ["text"] hV)
  (mm:mg "make_table" = some (.ref fm)) (km:keepIn K (.ref fm)=true) (bm:Binds K dm ["rows"] []) (Gm:Z P w K mg base aD 7 fm dm ["rows"] (j0 P w c ts)) (mt:mg "table_text" = some (.ref ft)) (kt:keepIn K (.ref ft)=true) (bt:Binds K dt ["table"] []) (Gt:Z P w K mg base aD 6 ft dt ["table"] (bM c ts.told (aX P w ts))) :
  Z P w K mg base aD 8 f fd ["text"] (fR P w c ts):=by
 refine F.ok zA (fun vs H Q E h=>?_) (fun uF A outer s H vs Q E hr h=>?_)
 ·obtain⟨n,ps,wy,rfl,_⟩:=h
  rfl
 ·obtain⟨n,ps,wy,rfl,hn,uK,u1,hT,q⟩:=h
  have vQ:u5 2 _:=hr.mono (by decide)
  have yK:u5 6 _:=hr.mono (by decide)
  refine⟨_,ae (ay (i:=1) zA.nd rfl (Or.inl rfl) (ap Gr vQ rfl mr kr br .nil au (aa (pv 0) ad)))
   (ae (pH (fun _ _ z=>z) (ag (ay (i:=2) zA.nd rfl (Or.inl rfl) (ap Gm hr rfl mm km bm .nil au (aa (pv 1) ad)))))
   (ae (b9 (az kD (ap Gt yK rfl mt kt bt .nil au (aa (pv 2) ad)) (pv 0) (aC _)) (ag cT) aK)
   (ag (aA (pv 2))))),?_⟩
  have vf:∀ pr ∈ ps,∃ a b:Nat,pr=((a:Int),(b:Int))/\a < 12/\b < 12:=fun pr hpr=>fD hn.2 (u1 pr hpr)
  have hw:=lF hT uK
  obtain⟨c1,c2⟩:=pe hT vf
  obtain⟨l1,l2⟩:=il hn.2 uK vf hw
  refine⟨_,rfl,_,rfl,pd hn.2 uK vf hw,?_⟩
  rw[c1,c2]
  have xR:(cA n ps wy).length=(aQ n ps wy).length:=by rw[← c2,length_map]
  refine⟨by omega,fun r yf=>⟨le_trans (l2 r yf) (by decide),?_⟩,fun D us H1 s1 gD hW=>?_⟩
  ·have hm:Txt.split r blank ∈ cA n ps wy:=by rw[← c2];exact mem_map.mpr ⟨r,yf,rfl⟩
   rcases mem_append.mp hm with hm | hm
   ·rcases mem_append.mp hm with hm | hm
    ·rw[mem_singleton.mp hm];show 2 <= 1000000;decide
    ·obtain⟨pr,_,e⟩:=mem_map.mp hm
     rw[← e];show 3 <= 1000000;decide
   ·obtain⟨IX,hrw,e⟩:=mem_map.mp hm
    rw[← e]
    unfold cK bH
    rw[length_cons,length_append,length_map]
    have:=((iq hT).lanes IX hrw).2
    show 3 + IX.s.length + 1 <= 1000000
    omega
  refine⟨_,rfl,D,us,n,ps,wy,rfl,gD,hW,hn,uK,u1,hT,by omega,fun x lx u4 lt uz H2 s2 vX=>?_⟩
  obtain⟨dx,fs,hx,hf⟩:=vX.i
  refine⟨_,rfl,x,dx,lx,u4,lt,fs,n,uz,ps,_,rfl,vX.j,hx,hf,vX.l,vX.zi,vX.wU,vf,lF (fI (iq hT)) uK,fun H3 s3=>⟨_,rfl,?_⟩⟩
  rw[io hT]
  refine⟨rfl,_,rfl,?_⟩
  rw[decide_eq_true rfl]
  exact aT ⟨_,rfl,q x lx u4 lt uz H3 (s1.trans (s2.trans s3)) (vX.same W s3)⟩
theorem ck {x y:Str}{a b:Nat}(h1:x.length <= a)(h2:y.length <= b)(h:a + b <= 16000000):x.length + y.length <= sizeLine/\(x ++ y).length <= a + b:=by
 refine⟨by rw[sizeLine_eq];omega,?_⟩
 rw[lM,bZ,length_append,← lM,← lM]
 omega
theorem gj {k:Nat}(h:k < 100):(aF k).length <= 10/\(k:Int).natAbs.log2 < 1920:=⟨i5 (k:=10) (by decide) (lt_trans h (by decide)),jI (lt_trans h (by decide))⟩
noncomputable def dj (c:Cs)(C:Addr)(J:gr):Sp:=fun vs H Q _=>∃ (x lx u4 lt rl ll:Addr)(n:Nat)(uz uG uH:List V)(ps:List (Int × Int))(rs:List Rw)(wy:aS->Nat),vs=[.ref x, .ref rl, .int n, .ref ll]/\uJ c C J H x lx u4 lt n uz ps wy/\TabOk n ps wy/\H rl=some (.lst uG)/\uV H uG rs/\vy n ps rs/\rs.length <= 10000/\H ll=some (.lst uH)/\uD H uH ps/\(∀ q ∈ ps,fB n q=true) /\
 ∀ H',uu H H'->Q (.str (Txt.join newline (aQ n ps wy))) H'
abbrev NLt:List Str:=["_law_table_here", "_law_rows_here", "_law_places", "_law_lanes", "_law_text_here", "_law_lane", "_law_place", "_law_goal", "_law_came", "_law_some_here", "_law_ways", "_law_way"]
noncomputable def rL (rows:List Str):List Nat:=cJ 10 (rows.map tl)
theorem kQ (rows:List Str)(r:Str)(h:rows ≠ []):rL (rows ++ [r])=rL rows ++ 10 :: tl r:=by
 unfold rL
 rw[map_append]
 exact ga 10 (tl r) fun z=>h (map_eq_nil_iff.mp z)
theorem qm {x:Str}{rows:List Str}(h:tl x=rL rows):x=Txt.join newline rows:=sF (by rw[h];exact(eV 10 rows).symm)
theorem vq:aw NLt ["_law_table_here", "_law_rows_here", "_law_places", "_law_lanes"] (ah lY):=L2.uU
theorem i4 {c:Cs}{J:gr}{C f fw:Addr}{fd dw:FuncData}(F:uN K "_law_text" "_law_text" lY f fd)(T:Txt mg)(W:lE K C fw dw J)(Gw:Z P w K mg base aD 3 fw dw ["self", "place", "goal", "came"] (bU J)) :
  Z P w K mg base aD 4 f fd ["_law_table_here", "_law_rows_here", "_law_places", "_law_lanes"] (dj c C J):=by
 refine F.ok vq (fun vs H Q E h=>?_) (fun uF A outer s H vs Q E hr h=>?_)
 ·obtain⟨x,lx,u4,lt,rl,ll,n,uz,uG,uH,ps,rs,wy,rfl,_⟩:=h
  rfl
 ·obtain⟨x,lx,u4,lt,rl,ll,n,uz,uG,uH,ps,rs,wy,rfl,vX,hT,BW,hR,u1,xV,IY,xh,wm,q⟩:=h
  have hu:=hr.units
  refine⟨_,ae (ay (i:=4) vq.nd rfl (Or.inl rfl) (ax aN b7 (aZ u7 rfl T.str PySem.Pv.boot_str (aa (pv 2) ad))))
   (ae (bg PassesOwn.never rfl (aI (pv 3)) (ao (i:=5) vq.nd rfl (Or.inl rfl))
    (ag (ay (i:=4) vq.nd rfl (Or.inl rfl) (ax aN (ax aN (ax aN (ax aN (pv 4) b7) (aZ u7 rfl T.str PySem.Pv.boot_str (aa (aJ aW (pv 5) aj (fun _ _=>rfl)) ad))) b7) (aZ u7 rfl T.str PySem.Pv.boot_str (aa (aJ aW (pv 5) aj (fun _ _=>rfl)) ad))))))
   (ae (bg PassesOwn.never rfl (aI (pv 1)) (eL rfl (aR (ao (i:=6) vq.nd rfl (Or.inl rfl)) (aR (ao (i:=7) vq.nd rfl (Or.inl rfl)) (aR (ao (i:=8) vq.nd rfl (Or.inl rfl)) (aR (ao (i:=9) vq.nd rfl (Or.inl rfl)) dA)))))
    (ae (ay (i:=10) vq.nd rfl (Or.inl rfl) (bz (pv 0) W.cl W.m Gw hr W.b .nil au (aa (pv 6) (aa (pv 7) (aa (pv 8) ad)))))
    (ag (b9 (az (jB hu) (pv 10) (bE ad) (aC _))
     (ae (ay (i:=4) vq.nd rfl (Or.inl rfl) (ax aN (ax aN (ax aN (ax aN (ax aN (pv 4) b7) (aZ u7 rfl T.str PySem.Pv.boot_str (aa (pv 6) ad))) b7) (aZ u7 rfl T.str PySem.Pv.boot_str (aa (pv 7) ad))) b7))
     (ae (ra (b9 (az pO (pv 8) cF (aC _)) (ag (ay (i:=4) vq.nd rfl (Or.inl rfl) (ax aN (pv 4) b7))) (ag (ay (i:=4) vq.nd rfl (Or.inl rfl) (ax aN (pv 4) (aZ u7 rfl T.str PySem.Pv.boot_str (aa (pv 8) ad)))))))
     (ag (bg PassesOwn.never rfl (aI (pv 10)) (ao (i:=11) vq.nd rfl (Or.inl rfl))
      (ag (ay (i:=4) vq.nd rfl (Or.inl rfl) (ax aN (ax aN (pv 4) b7) (aZ u7 rfl T.str PySem.Pv.boot_str (aa (pv 11) ad))))))))) aK))))
   (ag (aA (pv 4))))),?_⟩
  have hn:=vX.zi
  have uK:=vX.wU
  have vf:∀ pr ∈ ps,∃ a b:Nat,pr=((a:Int),(b:Int))/\a < 12/\b < 12:=fun pr hpr=>fD hn (wm pr hpr)
  obtain⟨dx,fs,hx,ym⟩:=W.inst _ _ _ vX.j
  obtain⟨ln,lgn⟩:=gj (show n < 100 by omega)
  obtain⟨a1,b1⟩:=ck (x:=Str.ofString "places ") (y:=aF n) (a:=7) (b:=10) (by decide) ln (by decide)
  refine⟨_,rfl,(n:Int),rfl,lgn,_,_,rfl,rfl,a1,?_⟩
  have t0:tl (Str.ofString "places " ++ aF n)=rL ([Txt.join blank (bT n)] ++ (ps.take 0).map b0):=by
   rw[bZ]
   show _=tl (Txt.join ⟨#[32]⟩ (bT n))
   rw[eV]
   rfl
  refine⟨_,rfl,ll,rfl,⟨_,ux.of IY⟩,?_⟩
  have wW:uH.length=ps.length:=Paired.length xh
  refine bJ (K:=K) (a:=ll) (xs:=uH) (fun i σ H'=>∃ (y:Str)(a5:Option V),H' = H/\tl y=rL ([Txt.join blank (bT n)] ++ (ps.take i).map b0)/\y.length <= 17 + i * 30/\σ=[some (.ref x),some (.ref rl),some (.int n),some (.ref ll),some (.str y),a5,none,none,none,none,none,none])
   ⟨_,none,rfl,t0,b1,rfl⟩ (fun i σ H' _ uw=>by obtain⟨_,_,e,_⟩:=uw;rw[e];exact ux.of IY) ?_ ?_
  ·rintro i v σ H' hv ⟨y,a5,rfl,ty,ly,rfl⟩
   obtain⟨pr,hpr,t,rfl,gt⟩:=uD.get xh hv
   have hi:i < ps.length:=(List.getElem?_eq_some_iff.mp hpr).1
   obtain⟨p1,p2,zj,h1,h2⟩:=vf pr (mem_of_getElem? hpr)
   subst zj
   obtain⟨l1,g1⟩:=gj (show p1 < 100 by omega)
   obtain⟨l2,g2⟩:=gj (show p2 < 100 by omega)
   obtain⟨c1,d1⟩:=ck (x:=y) (y:=Str.ofString "\nlane ") ly (show _ <= 6 by decide) (by omega)
   obtain⟨c2,d2⟩:=ck (y:=aF p1) d1 l1 (by omega)
   obtain⟨c3,d3⟩:=ck (y:=Str.ofString " ") d2 (show _ <= 1 by decide) (by omega)
   obtain⟨c4,d4⟩:=ck (y:=aF p2) d3 l2 (by omega)
   refine⟨_,rfl,_,_,rfl,rfl,c1,_,rfl,t,_,0,_,rfl,rfl,uE.of gt,aB (j:=0) rfl,(p1:Int),rfl,g1,_,_,rfl,rfl,c2,_,_,rfl,rfl,c3,_,rfl,t,_,1,_,rfl,rfl,uE.of gt,aB (j:=1) rfl,(p2:Int),rfl,g2,_,_,rfl,rfl,c4,?_⟩
   refine⟨_,_,rfl,?_,le_trans d4 (by omega),rfl⟩
   have et:ps.take (i + 1)=ps.take i ++ [((p1:Int),(p2:Int))]:=by rw[take_succ,hpr];rfl
   rw[et,map_append,← append_assoc]
   show tl (y ++ Str.ofString "\nlane " ++ aF p1 ++ Str.ofString " " ++ aF p2)=rL (_ ++ [b0 _])
   rw[kQ _ _ (by intro z;cases z),← ty,bZ,bZ,bZ,bZ]
   show _=tl y ++ 10 :: tl (Txt.join ⟨#[32]⟩ (dU _))
   rw[eV]
   simp only[append_assoc]
   rfl
  rintro σ H' ⟨y,a5,rfl,ty,ly,rfl⟩
  rw[wW,take_length]at ty
  rw[wW]at ly
  refine⟨_,rfl,rl,rfl,⟨_,ux.of BW⟩,?_⟩
  have GL:uG.length=rs.length:=Paired.length hR
  have vv:aQ n ps wy=([Txt.join blank (bT n)] ++ ps.map b0) ++ rs.flatMap (fun r=>fO wy (cw r)):=by
   unfold aQ
   rw[im hT,← u1.keys,List.flatMap_map]
   rfl
  rw[vv]at q
  generalize hhd:[Txt.join blank (bT n)] ++ ps.map b0=hd at ty q
  have hdn:hd ≠ []:=by rw[← hhd];intro z;cases z
  refine bJ (K:=K) (a:=rl) (xs:=uG) (fun i σ H2=>∃ (y:Str)(a6 a7 a8 a9 zB BX:Option V),uu H' H2/\tl y=rL (hd ++ (rs.take i).flatMap fun r=>fO wy (cw r))/\y.length <= 1300 + i * 700/\σ=[some (.ref x),some (.ref rl),some (.int n),some (.ref ll),some (.str y),a5,a6,a7,a8,a9,zB,BX])
   ⟨y,none,none,none,none,none,none,uu.refl _,by simpa using ty,by omega,rfl⟩ (fun i σ H2 _ uw=>by obtain⟨_,_,_,_,_,_,_,s,_⟩:=uw;exact ux.of (s _ _ BW)) ?_ ?_
  rotate_left
  ·rintro σ H2 ⟨y,a6,a7,a8,a9,zB,BX,s2,IZ,_,rfl⟩
   rw[GL,take_length]at IZ
   refine⟨_,rfl,?_⟩
   rw[qm IZ]
   exact q H2 s2
  clear ty ly y
  rintro i v σ H2 hv ⟨y,a6,a7,a8,a9,zB,BX,s2,ty,ly,rfl⟩
  obtain⟨r,hri,t,l,rfl,zC⟩:=uV.get hR hv
  have hi:i < rs.length:=(List.getElem?_eq_some_iff.mp hri).1
  have xu:cw r ∈ bj ps n n:=by rw[← u1.keys];exact mem_map.mpr ⟨r,mem_of_getElem? hri,rfl⟩
  have vj:((rs.take (i + 1)).flatMap fun r=>fO wy (cw r))=((rs.take i).flatMap fun r=>fO wy (cw r)) ++ fO wy (cw r):=by
   rw[take_succ,hri,flatMap_append]
   show _ ++ (fO wy (cw r) ++ [])=_
   rw[append_nil]
  obtain⟨p,g,hp,hg,ve,e1,e2,e3⟩:=dS xu
  obtain⟨rp,rg,rc,rS⟩:=r
  have e1:rp=(p:Int):=e1
  have e2:rg=(g:Int):=e2
  have e3:rc ∈ aE ps p:=e3
  subst e1 e2
  have C8:∀ k,rc=some k->k < 100:=fun k hk=>by rw[hk]at e3;have:=(cj ps p).2 k e3;omega
  have hwk:fO wy (cw ⟨(p:Int),(g:Int),rc,rS⟩)=if (wl wy (aP ((p:Int),(g:Int),rc))).isEmpty then [] else [Txt.join blank (cK ⟨(p:Int),(g:Int),rc,wl wy (aP ((p:Int),(g:Int),rc))⟩)]:=rfl
  rw[hwk]at vj
  have CB:=hT.wU (aP ((p:Int),(g:Int),rc))
  have Ja:=hT.lt (aP ((p:Int),(g:Int),rc))
  refine⟨t,_,rfl,uE.of (s2 _ _ zC.1),rfl,_,_,rfl,_,_,rfl,_,_,rfl,_,_,rfl,rfl,?_⟩
  refine⟨_,rfl,x,dx,fs,rfl,s2 _ _ hx,ym,_,rfl,_,rfl,_,rfl,x,wy,⟨(p:Int),(g:Int),rc,rS⟩,rfl,W.vi _ _ _ _ vX.j s2,fun H3 o3 s3 ho3=>?_⟩
  show cX 10 (V.ref o3) _ (ar H3 o3 (.lst (nV (wl wy (aP ((p:Int),(g:Int),rc)))))) _
  generalize wl wy (aP ((p:Int),(g:Int),rc))=ms at CB Ja vj ⊢
  have s4:=(s2.trans s3).new (o := .lst (nV ms)) ho3
  have g4:(ar H3 o3 (.lst (nV ms))) o3=some (.lst (nV ms)):=ac
  generalize ar H3 o3 (.lst (nV ms))=H4 at s4 g4 ⊢
  refine⟨_,rfl,zero_le _,fun e he=>?_⟩
  have yI:=(uu.refl H4).new (o := .lst []) he
  refine⟨o3,e,iz ms,[],rfl,rfl,by rw[← fE];exact ux.of (yI _ _ g4),ux.of ac,_,rfl,?_⟩
  have s5:=s4.trans yI
  have g5:=yI _ _ g4
  generalize ar H4 e (.lst [])=H5 at s5 g5 ⊢
  refine kP (fun hnn=>?_) fun hem=>?_
  rotate_left
  ·have hm:ms=[]:=by
    cases ms with
    | nil=>rfl
    | cons a b=>exact absurd rfl hem
   rw[hm]at vj
   refine⟨y,_,_,_,_,_,_,s5,?_,by omega,rfl⟩
   rw[vj]
   show _=rL (_ ++ (_ ++ []))
   rw[append_nil]
   exact ty
  have hm:ms.isEmpty=false:=by
   cases ms with
   | nil=>cases hnn
   | cons a b=>rfl
  rw[hm]at vj
  have vj:((rs.take (i + 1)).flatMap fun r=>fO wy (cw r))=_ ++ [Txt.join blank (cK ⟨(p:Int),(g:Int),rc,ms⟩)]:=vj
  obtain⟨l1,g1⟩:=gj (show p < 100 by omega)
  obtain⟨l2,g2⟩:=gj (show g < 100 by omega)
  obtain⟨c1,d1⟩:=ck (x:=y) (y:=Str.ofString "\nway ") ly (show _ <= 5 by decide) (by omega)
  obtain⟨c2,d2⟩:=ck (y:=aF p) d1 l1 (by omega)
  obtain⟨c3,d3⟩:=ck (y:=Str.ofString " ") d2 (show _ <= 1 by decide) (by omega)
  obtain⟨c4,d4⟩:=ck (y:=aF g) d3 l2 (by omega)
  obtain⟨c5,d5⟩:=ck (y:=Str.ofString " ") d4 (show _ <= 1 by decide) (by omega)
  refine⟨_,rfl,_,_,rfl,rfl,c1,_,rfl,(p:Int),rfl,g1,_,_,rfl,rfl,c2,_,_,rfl,rfl,c3,_,rfl,(g:Int),rfl,g2,_,_,rfl,rfl,c4,_,_,rfl,rfl,c5,?_⟩
  have wd:(wT (cV rc)).length <= 10:=by
   cases rc with
   | none=>show(Str.ofString "-").length <= 10;decide
   | some k=>exact(gj (C8 k rfl)).1
  obtain⟨c6,d6⟩:=ck (y:=wT (cV rc)) d5 wd (by omega)
  refine⟨fun σ H6=>H6=H5/\σ=[some (.ref x),some (.ref rl),some (.int n),some (.ref ll),some (.str (y ++ Str.ofString "\nway " ++ aF p ++ Str.ofString " " ++ aF g ++ Str.ofString " " ++ wT (cV rc))),a5,some (.int (p:Int)),some (.int (g:Int)),some (cV rc),some (.ref l),some (.ref o3),BX],?_,?_⟩
  ·refine⟨_,rfl,rfl,_,rfl,?_⟩
   cases rc with
   | none=>exact be ⟨_,rfl,_,_,rfl,rfl,c6,rfl,rfl⟩
   | some k=>exact aT ⟨_,rfl,_,rfl,(k:Int),rfl,(gj (C8 k rfl)).2,_,_,rfl,rfl,c6,rfl,rfl⟩
  rintro σ H6 ⟨rfl,rfl⟩
  have t6:tl (y ++ Str.ofString "\nway " ++ aF p ++ Str.ofString " " ++ aF g ++ Str.ofString " " ++ wT (cV rc))=tl y ++ 10 :: cJ 32 (([sD,aF p,aF g,wT (cV rc)] ++ (ms.take 0).map aF).map tl):=by
   rw[bZ,bZ,bZ,bZ,bZ,bZ]
   simp only[append_assoc]
   rfl
  generalize y ++ Str.ofString "\nway " ++ aF p ++ Str.ofString " " ++ aF g ++ Str.ofString " " ++ wT (cV rc)=y6 at t6 d6
  refine⟨_,rfl,o3,rfl,⟨_,ux.of g5⟩,?_⟩
  refine bJ (K:=K) (a:=o3) (xs:=nV ms) (fun j σ H7=>∃ (y7:Str)(a:Option V),H7=H6/\tl y7=tl y ++ 10 :: cJ 32 (([sD,aF p,aF g,wT (cV rc)] ++ (ms.take j).map aF).map tl)/\y7.length <= 1300 + i * 700 + 50 + j * 11/\σ=[some (.ref x),some (.ref rl),some (.int n),some (.ref ll),some (.str y7),a5,some (.int (p:Int)),some (.int (g:Int)),some (cV rc),some (.ref l),some (.ref o3),a])
   ⟨y6,BX,rfl,t6,by omega,rfl⟩ (fun j σ H7 _ uw=>by obtain⟨_,_,e,_⟩:=uw;rw[e];exact ux.of g5) ?_ ?_
  ·rintro j v σ H7 hv ⟨y7,a,rfl,t7,l7,rfl⟩
   have hj:j < ms.length:=by have:=(List.getElem?_eq_some_iff.mp hv).1;rw[ca]at this;exact this
   have Jb:=List.getElem?_eq_getElem hj
   rw[i6 Jb]at hv
   cases hv
   have hz:=Ja _ (getElem_mem hj)
   have Jc:ms.take (j + 1)=ms.take j ++ [ms[j]]:=by rw[take_succ,Jb];rfl
   generalize ms[j]=z at hz Jc
   obtain⟨lz,gz⟩:=gj (show z < 100 by omega)
   obtain⟨c7,d7⟩:=ck (x:=y7) (y:=Str.ofString " ") l7 (show _ <= 1 by decide) (by omega)
   obtain⟨c8,d8⟩:=ck (y:=aF z) d7 lz (by omega)
   refine⟨_,rfl,_,_,rfl,rfl,c7,_,rfl,(z:Int),rfl,gz,_,_,rfl,rfl,c8,_,_,rfl,?_,le_trans d8 (by omega),rfl⟩
   show tl (y7 ++ Str.ofString " " ++ aF z)=_
   have em:(([sD,aF p,aF g,wT (cV rc)] ++ (ms.take (j + 1)).map aF).map tl)=(([sD,aF p,aF g,wT (cV rc)] ++ (ms.take j).map aF).map tl) ++ [tl (aF z)]:=by
    rw[Jc]
    simp only[map_append,map_cons,map_nil,append_assoc]
   rw[em,ga 32 _ (by intro z;cases z),bZ,bZ,t7]
   simp only[append_assoc,List.cons_append]
   rfl
  rintro σ H7 ⟨y7,a,rfl,t7,l7,rfl⟩
  rw[ca,take_length]at t7
  rw[ca]at l7
  refine⟨y7,_,_,_,_,_,_,s5,?_,by omega,rfl⟩
  rw[vj,← append_assoc,kQ _ _ (fun z=>hdn (List.append_eq_nil_iff.mp z).1),← ty,t7]
  show _=tl y ++ 10 :: tl (Txt.join ⟨#[32]⟩ (cK _))
  rw[eV]
  rfl
end K80
namespace L2
open PySem PySem.Spec
theorem Z.or {P:Program}{w:World}{K:Frag}{mg:Str->Option Value}{base:Heap}{CX:mU}{k:Nat}{f:Addr}{fd:FuncData}{ps:List Str}{sp A7:Sp}(F:Z P w K mg base CX k f fd ps sp)(G:Z P w K mg base CX k f fd ps A7):Z P w K mg base CX k f fd ps (fun vs H Q E=>sp vs H Q E∨A7 vs H Q E) :=
 ⟨fun vs H Q E q=>q.elim (F.len vs H Q E) (G.len vs H Q E),fun A outer s H args us vs Q E hr he hb hv hs=>hs.elim (F.run A outer s H args us vs Q E hr he hb hv) (G.run A outer s H args us vs Q E hr he hb hv)⟩
theorem pK {X:Cx}{e:Expr}{a b:TE}(h1:PE X e a)(h2:PE X e b):PE X e (fun σ H Q=>a σ H Q∨b σ H Q):=fun pins s σ H Q I h=>h.elim (h1 pins s σ H Q I) (h2 pins s σ H Q I)
end L2
namespace K80
open PySem L2
variable {P:Program}{w:World}{K:Frag}{mg:Str->Option Value}{base:Heap}
section
variable (P:Program)(w:World)(c:Cs)(ts:Ts)(LC:Addr)(H:Hp)(x lx u4 lt:Addr)(n:Nat)(uz:List V)(ps:List (Int × Int))(wy:aS->Nat)
noncomputable def xj:Prop:=uJ c ts.told (aX P w ts) H x lx u4 lt n uz ps wy∨uJ c ts.tab (dG ts) H x lx u4 lt n uz ps wy∨uJ c LC (cf P w LC) H x lx u4 lt n uz ps wy
end
structure sw (P:Program)(w:World)(K:Frag)(ts:Ts)(LC:Addr)(f1 f2 f3:Addr)(d1 d2 d3:FuncData):Prop where
 w1:lE K ts.told f1 d1 (aX P w ts)
 w2:lE K ts.tab f2 d2 (dG ts)
 w3:lE K LC f3 d3 (cf P w LC)
theorem xj.same {P:Program}{w:World}{K:Frag}{c:Cs}{ts:Ts}{LC f1 f2 f3:Addr}{d1 d2 d3:FuncData}{H H':Hp}{x lx u4 lt:Addr}{n:Nat}{uz:List V}{ps:List (Int × Int)}{wy:aS->Nat}(W:sw P w K ts LC f1 f2 f3 d1 d2 d3)(h:xj P w c ts LC H x lx u4 lt n uz ps wy)(s:uu H H'):xj P w c ts LC H' x lx u4 lt n uz ps wy :=
 h.imp (fun h=>h.same W.w1 s) (Or.imp (fun h=>h.same W.w2 s) fun h=>h.same W.w3 s)
noncomputable def lR (P:Program)(w:World)(K:Frag)(c:Cs)(ts:Ts)(LC:Addr):Sp:=fun vs H Q _=>∃ (a lx u4 lt rl:Addr)(ns:List Int)(n:Nat)(uz uG:List V)(ps:List (Int × Int))(rs:List Rw),vs=[.ref a, .ref lx, .ref rl]/\ux K H a (ns.map V.int)/\bL H c lx u4 lt n uz ps/\n <= 12/\ps.length <= 40/\H rl=some (.lst uG)/\uV H uG rs/\vy n ps rs/\rs.length <= 10000 /\
 ∀ (x:Addr)(wy:aS->Nat)(H':Hp),uu H H'->xj P w c ts LC H' x lx u4 lt n uz ps wy->TabOk n ps wy->Q (.ref x) H'
theorem uV.rev {H:Hp}:∀ {vs:List V}{rs:List Rw},uV H vs rs->uV H vs.reverse rs.reverse:=fun uw=>by
 induction uw with
 | nil=>exact .nil
 | cons h r ih=>rw[reverse_cons,reverse_cons];exact uV.snoc h ih
structure Jd (P:Program)(w:World)(K:Frag)(mg:Str->Option Value)(base:Heap)(c:Cs)(ts:Ts)(LC:Addr)(fb fs:Addr)(db ds:FuncData):Prop where
 mb:mg "Table" = some (.ref ts.tab)
 Mb:Mk K ts.tab fb
 bb:Binds K db ["self", "land"] []
 Gb:Z P w K mg base aD 1 fb db ["self", "land"] (jZ K)
 cb:wo K ts.tab
 nb:uA K ts.tab "land"
 ms:mg "Less" = some (.ref LC)
 Ms:Mk K LC fs
 bs:Binds K ds ["self", "table", "out"] []
 Gs:Z P w K mg base aD 6 fs ds ["self", "table", "out"] (lP P w c ts.told LC (aX P w ts))
theorem BY:aw ["_law_script", "_law_land_here", "_law_rows_here", "_law_draw_here"] ["_law_script", "_law_land_here", "_law_rows_here"] (ah pB):=L2.uU
theorem ro {c:Cs}{ts:Ts}{LC f fi ft fb fs fd fw:Addr}{df di dt db ds dd dw:FuncData}(F:uN K "_law_table" "_law_table" pB f df)(W:lE K ts.told fw dw (aX P w ts))(M:Dc P w K mg base c ts fi ft di dt)(N:Jd P w K mg base c ts LC fb fs db ds)(md:mg "_law_draw" = some (.ref fd))(kd:keepIn K (.ref fd)=true)(bd:Binds K dd ["_law_script", "_law_k"] [])
  (Gd:Z P w K mg base aD 1 fd dd ["_law_script", "_law_k"] (gx K)):Z P w K mg base aD 8 f df ["_law_script", "_law_land_here", "_law_rows_here"] (lR P w K c ts LC):=by
 refine F.ok BY (fun vs H Q E h=>?_) (fun uF A outer s H vs Q E hr h=>?_)
 ·obtain⟨a,lx,u4,lt,rl,ns,n,uz,uG,ps,rs,rfl,_⟩:=h
  rfl
 ·obtain⟨a,lx,u4,lt,rl,ns,n,uz,uG,ps,rs,rfl,hS,hL,hn,uK,BW,hR,u1,xV,q⟩:=h
  have vo:u5 1 _:=hr.mono (by decide)
  have vQ:u5 2 _:=hr.mono (by decide)
  have yK:u5 6 _:=hr.mono (by decide)
  refine⟨_,ae (ay (i:=3) BY.nd rfl (Or.inl rfl) (ap Gd vo rfl md kd bd .nil au (aa (pv 0) (aa aj ad))))
   (ae (b9 (az bW (ax bF (pv 3) aj) aj (aC _)) (ag (aA (dB N.Mb N.Gb vQ rfl N.mb N.bb .nil au (aa (pv 1) ad)))) aK)
   (ae (b9 (az bW (ax bF (pv 3) aj) aj (aC _)) (ag (aA (dB N.Ms N.Gs hr rfl N.ms N.bs .nil au (aa (dB M.Mt M.Gt yK rfl M.mt M.bt .nil au (aa (pv 1) (aa (mj (pv 2) (nv jt aj)) ad))) (aa (ax m6 (ax cz (pv 3) aj) (ax cz (pv 3) aj)) ad))))) aK)
   (ag (aA (dB M.Mt M.Gt yK rfl M.mt M.bt .nil au (aa (pv 1) (aa (mj (pv 2) (nv jt aj)) ad))))))),?_⟩
  have vF:=u1.fit
  have BZ:rs.reverse.length <= 10000:=by rw[length_reverse];exact xV
  refine⟨_,rfl,a,ns,2,rfl,hS,by decide,by decide,fun d H1 s1 hd=>?_⟩
  have zT:bL H1 c lx u4 lt n uz ps:=⟨s1 _ _ hL.1,s1 _ _ hL.2.1,uD.same s1 hL.2.2⟩
  refine⟨_,rfl,_,_,rfl,rfl,(by show (0:Int) < 5;decide),rfl,_,rfl,?_⟩
  refine kP (fun _=>?_) fun _=>?_
  ·refine⟨_,rfl,fun x dx nx xM xN=>?_⟩
   have s2:=fA (o := .ins ts.tab dx [("land", .ref lx)]) nx xM xN
   refine⟨x,ts.tab,dx,_,rfl,ac,N.cb,N.nb,rfl,?_⟩
   have eu:ar (ar (ar H1 dx (.own x)) x (.ins ts.tab dx [])) x (.ins ts.tab dx [("land", .ref lx)])=ar (ar H1 dx (.own x)) x (.ins ts.tab dx [("land", .ref lx)]):=by
    funext b
    by_cases hb:b=x
    ·rw[hb,ac,ac]
    ·rw[ak hb,ak hb,ak hb]
   rw[eu]
   refine q x (fun _=>0) _ (s1.trans s2) (.inr (.inl ⟨⟨dx,_,ac,fun _=>rfl⟩,⟨dx,_,ac,rfl⟩,⟨s2 _ _ zT.1,s2 _ _ zT.2.1,uD.same s2 zT.2.2⟩,hn,uK,?_,?_⟩)) (oW fun _=>rfl)
   ·intro k z hz;rw[dZ (wy:=fun _=>0) rfl]at hz;cases hz
   ·intro k;rw[dZ (wy:=fun _=>0) rfl];exact zero_le _
  refine⟨_,rfl,_,_,rfl,rfl,(by show (0:Int) < 5;decide),rfl,_,rfl,?_⟩
  refine kP (fun _=>?_) fun _=>?_
  ·refine⟨_,rfl,_,rfl,_,rfl,rfl,rl,_,rfl,ux.of (s1 _ _ BW),fun p hp=>?_⟩
   have s2:=s1.new (o := .lst uG.reverse) hp
   have g2:(ar H1 p (.lst uG.reverse)) p=some (.lst uG.reverse):=ac
   show ∀ y dy,(ar H1 p (.lst uG.reverse)) y=none->_
   generalize ar H1 p (.lst uG.reverse)=H2 at s2 g2 ⊢
   refine fun y dy ny BU BV=>jG ny BU BV ⟨s2 _ _ hL.1,s2 _ _ hL.2.1,uD.same s2 hL.2.2⟩ g2 (uV.rev (uV.same s2 hR)) hn uK vF BZ fun H4 s4 vX=>⟨rfl,?_⟩
   refine⟨_,rfl,_,_,rfl,rfl,⟨by decide,by decide⟩,_,rfl,_,_,rfl,rfl,⟨by decide,by decide⟩,_,_,rfl,rfl,fun z dz nz ndz nez=>?_⟩
   obtain⟨m1,e1⟩:∃ m:Nat,d / 8=(m:Int):=qb (by omega)
   obtain⟨m2,e2⟩:∃ m:Nat,d / 4096=(m:Int):=qb (by omega)
   have em:Builtin.bitAnd (d / 8) (d / 4096)=((m1 &&& m2:Nat):Int):=by rw[e1,e2,Yd.vE]
   have s5:=fA (o := .ins LC dz []) nz ndz nez
   refine⟨z,dz,y,lx,u4,lt,n,uz,ps,_,m1 &&& m2,by show [V.ref z,V.ref y,V.int (Builtin.bitAnd (d / 8) (d / 4096))]=_;rw[em],ac,vX.same W s5,fun H6 de cu uv FE vD off hz zx vp CQ _ _=>⟨rfl,?_⟩⟩
   have s6:uu H4 H6:=fun b o e=>off b o (am e nz) (s5 _ _ e)
   have zC:=qQ (fI vF) CQ.sub
   have hl:=vX.l
   exact q z vD H6 (s2.trans (s4.trans s6)) (.inr (.inr ⟨⟨dz,de,_,uv,hz,rfl,rfl,zx,vp⟩,⟨dz,_,hz,rfl⟩,⟨s6 _ _ hl.1,s6 _ _ hl.2.1,uD.same s6 hl.2.2⟩,hn,uK,zC.lt,fun k=>le_trans (zC.wU k) uK⟩)) zC
  ·refine⟨_,rfl,_,rfl,_,rfl,rfl,rl,_,rfl,ux.of (s1 _ _ BW),fun p hp=>?_⟩
   have s2:=s1.new (o := .lst uG.reverse) hp
   have g2:(ar H1 p (.lst uG.reverse)) p=some (.lst uG.reverse):=ac
   show ∀ y dy,(ar H1 p (.lst uG.reverse)) y=none->_
   generalize ar H1 p (.lst uG.reverse)=H2 at s2 g2 ⊢
   refine fun y dy ny BU BV=>jG ny BU BV ⟨s2 _ _ hL.1,s2 _ _ hL.2.1,uD.same s2 hL.2.2⟩ g2 (uV.rev (uV.same s2 hR)) hn uK vF BZ fun H4 s4 vX=>⟨rfl,?_⟩
   exact q y _ H4 (s2.trans s4) (.inl vX) (fI vF)
end K80
namespace L2
open PySem PySem.Spec
section
variable {X:Cx}
noncomputable def Hi (K:Frag):List V->Hp->VK->Prop:=fun xs H Q=>∃ (v:V)(t:Value)(C:Addr)(b:Bool),xs=[v, .ref C]/\fM K H v t/\kitOne K t (.ref C)=some b/\Q (.bl b) H
theorem q5:uL X (.builtin "isinstance") (Hi X.K):=by
 intro pins s σ H xs us Q I r h
 obtain⟨v,t,c,b,rfl,ty,hk,q⟩:=h
 cases r with
 | cons r1 r2=>cases r2 with
  | cons r2 r3 =>
   cases r3
   cases r2
   exact jh I r1 ty hk fun tk=>⟨.bl b,H,I.tok _,rfl,q⟩
end
end L2
namespace K80
open PySem L2
variable {P:Program}{w:World}{K:Frag}{mg:Str->Option Value}{base:Heap}
noncomputable def iX (P:Program)(w:World)(c:Cs)(ts:Ts)(LC:Addr):Sp:=fun vs H Q _=>∃ (x lx u4 lt:Addr)(n:Nat)(uz:List V)(ps:List (Int × Int))(wy:aS->Nat),vs=[.ref x]/\xj P w c ts LC H x lx u4 lt n uz ps wy/\TabOk n ps wy/\(∀ q ∈ ps,fB n q=true)/\∀ H',uu H H'->Q (.str (Txt.join newline (aQ n ps wy))) H'
noncomputable def hZ (P:Program)(w:World)(c:Cs)(ts:Ts)(LC:Addr):Sp:=fun vs H Q _=>∃ (x lx u4 lt rl ll:Addr)(n:Nat)(uz uG uH:List V)(ps:List (Int × Int))(rs:List Rw)(wy:aS->Nat),vs=[.ref x, .ref rl, .int n, .ref ll]/\xj P w c ts LC H x lx u4 lt n uz ps wy/\TabOk n ps wy/\H rl=some (.lst uG)/\uV H uG rs/\vy n ps rs/\rs.length <= 10000/\H ll=some (.lst uH)/\uD H uH ps/\(∀ q ∈ ps,fB n q=true) /\
 ∀ H',uu H H'->Q (.str (Txt.join newline (aQ n ps wy))) H'
noncomputable def ng (K:Frag):Sp:=fun vs H Q _=>∃ (a:Addr)(ns:List Int),vs=[.ref a]/\ux K H a (ns.map V.int)/\ns.length <= 63/\∀ H',Q (.bl true) H'
abbrev NLw:List Str:=["_law_script", "_law_places", "_law_lanes", "_law_rows_here", "_law_table_here", "_law_text_here", "_law_back", "_law_place", "_law_goal", "_law_came", "_law_some_here"]
theorem qw (ns:List Int)(lo hi:Option Int):iR (ns.map V.int) lo hi=((ns.drop (HT.vB ns.length 0 lo)).take (HT.vB ns.length ns.length hi - HT.vB ns.length 0 lo)).map V.int:=by
 unfold iR
 rw[length_map,List.map_take,List.map_drop]
theorem qD {c:Cs}{ts:Ts}{LC f:Addr}{fd:FuncData}(h1:Z P w K mg base aD 6 f fd ["table"] (bM c ts.told (aX P w ts)))(h2:Z P w K mg base aD 6 f fd ["table"] (bM c ts.tab (dG ts)))(h3:Z P w K mg base aD 6 f fd ["table"] (bM c LC (cf P w LC))):Z P w K mg base aD 6 f fd ["table"] (iX P w c ts LC) :=
 (h1.or (h2.or h3)).imp fun vs H Q E ⟨x,lx,u4,lt,n,uz,ps,wy,e,hA,hT,u1,q⟩=>by
  subst e
  exact hA.imp (fun h=>h.text hT u1 q) (Or.imp (fun h=>h.text hT u1 q) fun h=>h.text hT u1 q)
theorem oT {c:Cs}{ts:Ts}{LC f:Addr}{fd:FuncData}{l:List Str}(h1:Z P w K mg base aD 4 f fd l (dj c ts.told (aX P w ts)))(h2:Z P w K mg base aD 4 f fd l (dj c ts.tab (dG ts)))(h3:Z P w K mg base aD 4 f fd l (dj c LC (cf P w LC))):Z P w K mg base aD 4 f fd l (hZ P w c ts LC) :=
 (h1.or (h2.or h3)).imp fun vs H Q E ⟨x,lx,u4,lt,rl,ll,n,uz,uG,uH,ps,rs,wy,e,hA,r⟩ =>
  hA.imp (fun h=>⟨x,lx,u4,lt,rl,ll,n,uz,uG,uH,ps,rs,wy,e,h,r⟩) (Or.imp (fun h=>⟨x,lx,u4,lt,rl,ll,n,uz,uG,uH,ps,rs,wy,e,h,r⟩) fun h=>⟨x,lx,u4,lt,rl,ll,n,uz,uG,uH,ps,rs,wy,e,h,r⟩)
structure IsT (K:Frag)(ts:Ts):Prop where
 GQ:kitOne K (.type "str") (.type "str")=some true
 kt:kitOne K (.ref ts.told) (.ref ts.told)=some true
 ha:findIn K (.ref ts.told) "__class__" = some (some (.builtin "object.__class__"))
 hn:PySem.W.specialIn K (.builtin "object.__class__") "__get__" = some (some (.builtin "getset_descriptor.__get__"))
 vj:PySem.W.takesIn K (.builtin "object.__class__")=some true
 hm:PySem.W.mroIn K ts.told (.type "object")=some true
structure Fns (P:Program)(w:World)(K:Frag)(mg:Str->Option Value)(base:Heap)(c:Cs)(ts:Ts)(LC fl fr fb ft fx fk f1 f2 f3:Addr)(dl dr db dt dx dk d1 d2 d3:FuncData):Prop where
 ml:mg "_law_land" = some (.ref fl)
 kl:keepIn K (.ref fl)=true
 bl:Binds K dl ["_law_script"] []
 Gl:Z P w K mg base aD 2 fl dl ["_law_script"] (lQ K)
 mr:mg "_law_rows" = some (.ref fr)
 kr:keepIn K (.ref fr)=true
 br:Binds K dr ["_law_script", "_law_places", "_law_lanes"] []
 Gr:Z P w K mg base aD 2 fr dr ["_law_script", "_law_places", "_law_lanes"] (lO K)
 mb:mg "_law_table" = some (.ref fb)
 kb:keepIn K (.ref fb)=true
 bb:Binds K db ["_law_script", "_law_land_here", "_law_rows_here"] []
 Gb:Z P w K mg base aD 8 fb db ["_law_script", "_law_land_here", "_law_rows_here"] (lR P w K c ts LC)
 mt:mg "table_text" = some (.ref ft)
 kt:keepIn K (.ref ft)=true
 bt:Binds K dt ["table"] []
 Gt:Z P w K mg base aD 6 ft dt ["table"] (iX P w c ts LC)
 mx:mg "_law_text" = some (.ref fx)
 kx:keepIn K (.ref fx)=true
 bx:Binds K dx ["_law_table_here", "_law_rows_here", "_law_places", "_law_lanes"] []
 Gx:Z P w K mg base aD 4 fx dx ["_law_table_here", "_law_rows_here", "_law_places", "_law_lanes"] (hZ P w c ts LC)
 mq:mg "read_table" = some (.ref fk)
 kk:keepIn K (.ref fk)=true
 bk:Binds K dk ["text"] []
 Gk:Z P w K mg base aD 8 fk dk ["text"] (fR P w c ts)
 W:sw P w K ts LC f1 f2 f3 d1 d2 d3
 g1:Z P w K mg base aD 3 f1 d1 ["self", "place", "goal", "came"] (bU (aX P w ts))
 g2:Z P w K mg base aD 3 f2 d2 ["self", "place", "goal", "came"] (bU (dG ts))
 g3:Z P w K mg base aD 3 f3 d3 ["self", "place", "goal", "came"] (bU (cf P w LC))
 it:IsT K ts
 nl:uA K ts.told "land"
theorem vA:aw NLw ["_law_script"] (ah j7):=L2.uU
theorem tM {c:Cs}{ts:Ts}{LC f fl fr fb ft fx fk f1 f2 f3 fi fo:Addr}{df dl dr db dt dx dk d1 d2 d3 di do_:FuncData}(F:uN K "law" "law" j7 f df)(T:Txt mg)(L:oU K c)(M:Dc P w K mg base c ts fi fo di do_)(D:Fns P w K mg base c ts LC fl fr fb ft fx fk f1 f2 f3 dl dr db dt dx dk d1 d2 d3) :
  Z P w K mg base aD 9 f df ["_law_script"] (ng K):=by
 refine F.ok vA (fun vs H Q E h=>?_) (fun uF A outer s H vs Q E hr h=>?_)
 ·obtain⟨a,ns,rfl,_⟩:=h
  rfl
 ·obtain⟨a,ns,rfl,hS,hlen,q⟩:=h
  have hu:=hr.units
  have vQ:u5 2 _:=hr.mono (by decide)
  have zo:u5 3 _:=hr.mono (by decide)
  have zf:u5 4 _:=hr.mono (by decide)
  have Hg:u5 5 _:=hr.mono (by decide)
  have yK:u5 6 _:=hr.mono (by decide)
  refine⟨_,ae (ay (i:=0) vA.nd rfl (Or.inl rfl) (iy j4 (pv 0) jA (j9 aj)))
   (ae (tf (ap D.Gl vQ rfl D.ml D.kl D.bl .nil au (aa (pv 0) ad)) (eL rfl (aR (ao (i:=1) vA.nd rfl (Or.inl rfl)) (aR (ao (i:=2) vA.nd rfl (Or.inl rfl)) dA))))
   (ae (ay (i:=3) vA.nd rfl (Or.inl rfl) (ap D.Gr vQ rfl D.mr D.kr D.br .nil au (aa (pv 0) (aa (pv 1) (aa (pv 2) ad)))))
   (ae (ay (i:=4) vA.nd rfl (Or.inl rfl) (ap D.Gb hr rfl D.mb D.kb D.bb .nil au (aa (pv 0) (aa (dB M.Mi M.Gi Hg rfl M.mi M.bi .nil au (aa (pv 1) (aa (pv 2) ad))) (aa (pv 3) ad)))))
   (ae (ay (i:=5) vA.nd rfl (Or.inl rfl) (ap D.Gt yK rfl D.mt D.kt D.bt .nil au (aa (pv 4) ad)))
   (ae (b9 (PW.pt (iw (cv (cC (aM lq rfl T.Bh PyProof.Rows.boot_isinstance (aa (pv 5) (aa (gy (v := .ty "str") rfl T.str PySem.Pv.boot_str rfl) ad))))) (iu (az kD (pv 5) (ap D.Gx zf rfl D.mx D.kx D.bx .nil au (aa (pv 4) (aa (pv 3) (aa (pv 1) (aa (pv 2) ad))))) (aC _))))) (ag (aA i0)) aK)
   (ae (ay (i:=6) vA.nd rfl (Or.inl rfl) (ap D.Gk hr rfl D.mq D.kk D.bk .nil au (aa (pv 5) ad)))
   (ae (b9 (PW.pt (iw (cv (cC (aM q5 rfl T.Bh PyProof.Rows.boot_isinstance (aa (pv 6) (aa (dC (v := .ref ts.told) rfl M.mt rfl) ad))))) (iw (az kD (aH (aH (pv 6) rfl) rfl) (pv 1) (aC _)) (iu (az (pN hu) (aH (aH (pv 6) rfl) rfl) (aZ cO rfl T.tuple PySem.Pv.boot_tuple (aa (pv 2) ad)) (aC _)))))) (ag (aA i0)) aK)
   (ae (bg PassesOwn.never rfl (aI (pv 3)) (eL rfl (aR (ao (i:=7) vA.nd rfl (Or.inl rfl)) (aR (ao (i:=8) vA.nd rfl (Or.inl rfl)) (aR (ao (i:=9) vA.nd rfl (Or.inl rfl)) (aR (ao (i:=10) vA.nd rfl (Or.inl rfl)) dA)))))
    (ag (b9 (az (jB hu) (bz (pv 6) D.W.w1.cl D.W.w1.m D.g1 zo D.W.w1.b .nil au (aa (pv 7) (aa (pv 8) (aa (pv 9) ad))))
     (nw (pK (bz (pv 4) D.W.w1.cl D.W.w1.m D.g1 zo D.W.w1.b .nil au (aa (pv 7) (aa (pv 8) (aa (pv 9) ad)))) (pK (bz (pv 4) D.W.w2.cl D.W.w2.m D.g2 zo D.W.w2.b .nil au (aa (pv 7) (aa (pv 8) (aa (pv 9) ad)))) (bz (pv 4) D.W.w3.cl D.W.w3.m D.g3 zo D.W.w3.b .nil au (aa (pv 7) (aa (pv 8) (aa (pv 9) ad))))))) (aC _)) (ag (aA i0)) aK)))
   (ag (aA (eM (dD bW (ap D.Gt yK rfl D.mt D.kt D.bt .nil au (aa (pv 6) ad)) (pv 5) (aC _)) (fU (dD bW (ap D.Gt yK rfl D.mt D.kt D.bt .nil au (aa (pv 4) ad)) (pv 5) (aC _)))))))))))))),?_⟩
  refine⟨_,rfl,_,rfl,a,_,rfl,hS,fun p0 hp0=>?_⟩
  rw[qw]
  generalize (ns.drop (HT.vB ns.length 0 none)).take (HT.vB ns.length ns.length (some 63) - HT.vB ns.length 0 none)=ms
  have g0:ux K (ar H p0 (.lst (ms.map V.int))) p0 (ms.map V.int):=ux.of ac
  generalize ar H p0 (.lst (ms.map V.int))=H0 at g0 ⊢
  refine⟨_,rfl,p0,ms,rfl,g0,fun t0 l n uH ps H1 s1 gt gl xh uK hn wm=>?_⟩
  refine⟨t0,_,rfl,uE.of gt,rfl,_,_,rfl,_,_,rfl,rfl,?_⟩
  refine⟨_,rfl,_,rfl,_,rfl,p0,l,ms,n,uH,ps,rfl,s1.seq g0,gl,xh,uK,hn,fun rl uG rs H2 s2 gD hR u1 xV=>?_⟩
  refine⟨_,rfl,_,rfl,_,rfl,fun x dx nx xM xN=>nD nx xM xN (s2 _ _ gl) (uD.same s2 xh) hn uK wm fun H3 lt uz s3 hL=>⟨rfl,?_⟩⟩
  have zr:=s2.trans s3
  refine⟨_,rfl,p0,x,dx,lt,rl,ms,n,uz,uG,ps,rs,rfl,zr.seq (s1.seq g0),hL,hn.2,uK,s3 _ _ gD,uV.same s3 hR,u1,xV,fun y wy H4 s4 hA hT=>?_⟩
  have yo:=s3.trans s4
  have s24:=s2.trans yo
  refine⟨_,rfl,y,x,dx,lt,n,uz,ps,wy,rfl,hA,hT,wm,fun H5 s5=>?_⟩
  have Je:=hA.same D.W s5
  have wR:=yo.trans s5
  have zX:=s24.trans s5
  refine⟨_,rfl,_,_,_,_,rfl, .str _,D.it.GQ,_,rfl,aT ?_⟩
  refine⟨_,rfl,_,rfl,_,rfl,_,rfl,_,rfl,y,x,dx,lt,rl,l,n,uz,uG,uH,ps,rs,wy,rfl,Je,hT,wR _ _ gD,uV.same wR hR,u1,xV,zX _ _ gl,uD.same zX xh,wm,fun H6 s6=>⟨rfl,_,rfl,?_⟩⟩
  rw[decide_eq_true rfl]
  refine aT ?_
  refine⟨_,rfl,n,ps,wy,rfl,hn,uK,wm,hT,fun b bl Hj blt Hk H7 s7 hB=>?_⟩
  have Jf:=zX.trans (s6.trans s7)
  have s37:=wR.trans (s6.trans s7)
  have hA7:=Je.same D.W (s6.trans s7)
  have hTb:=fI (iq hT)
  obtain⟨Hl,Hm,hb,Jg⟩:=hB.i
  obtain⟨bdx',bfs',vW,hbw⟩:=D.W.w1.inst _ _ _ hB.j
  rw[hb]at vW
  injection vW with vW
  injection vW with _ e1 e2
  subst e1 e2
  refine⟨_,rfl,_,_,_,_,rfl, .ins hb D.W.w1.cl D.it.ha D.it.hn D.it.vj D.it.hm,D.it.kt,_,rfl,aT ?_⟩
  refine⟨_,rfl,b,ts.told,Hl,Hm,_,rfl,hb,D.W.w1.cl,D.nl,Jg,bl,c.land,Hj,_,_,rfl,hB.l.1,L.cl,L.np,rfl,_,rfl,rfl,_,rfl,?_⟩
  rw[dW,decide_eq_true rfl]
  refine aT ?_
  refine⟨_,rfl,b,ts.told,Hl,Hm,_,rfl,hb,D.W.w1.cl,D.nl,Jg,bl,c.land,Hj,_,_,rfl,hB.l.1,L.cl,L.nl,rfl,_,rfl,l,_,rfl, .inl ⟨ux.of (Jf _ _ gl),fun tu htu=>?_⟩⟩
  have yL:=(uu.refl H7).new (o := .tup uH) htu
  have Jh:(ar H7 tu (.tup uH)) tu=some (.tup uH):=ac
  generalize ar H7 tu (.tup uH)=H8 at yL Jh ⊢
  refine neS (d := .tuple (ps.map pL)) (.tup (uE.of (yL _ _ hB.l.2.1)) (kY (uD.same yL hB.l.2.2))) (.tup (uE.of Jh) (kY (uD.same (Jf.trans yL) xh))) (ot _) ⟨_,rfl,aT ?_⟩
  have Ji:=s37.trans yL
  have Jj:=hA7.same D.W yL
  have Jk:=hB.same D.W.w1 yL
  have zu:=uV.same Ji hR
  have g8:=Ji _ _ gD
  have hb8:=yL _ _ hb
  refine⟨_,rfl,rl,rfl,⟨_,ux.of g8⟩,?_⟩
  refine bJ (K:=K) (a:=rl) (xs:=uG) (fun i σ H'=>∃ a7 a8 a9 zB:Option V,uu H8 H'/\σ=[some (.ref p0),some (.int n),some (.ref l),some (.ref rl),some (.ref y),some (.str (Txt.join newline (aQ n ps wy))),some (.ref b),a7,a8,a9,zB])
   ⟨none,none,none,none,uu.refl _,rfl⟩ (fun i σ H' _ uw=>by obtain⟨_,_,_,_,s,_⟩:=uw;exact ux.of (s _ _ g8)) ?_ ?_
  ·rintro i v σ H' hv ⟨a7,a8,a9,zB,s9,rfl⟩
   obtain⟨r,hri,t,u,rfl,zC⟩:=uV.get zu hv
   have xu:cw r ∈ bj ps n n:=by rw[← u1.keys];exact mem_map.mpr ⟨r,mem_of_getElem? hri,rfl⟩
   obtain⟨p,g,hp,hg,ve,e1,e2,e3⟩:=dS xu
   have ebk:wl (cq (bD n ps wy)) (aq r)=wl wy (aq r):=by
    have ek:aq r=aP ((p:Int),(g:Int),r.c):=by
     show aP (cw r)=_
     rw[← e1,← e2]
     rfl
    rw[ek]
    exact nX hT hp hg e3
   refine⟨t,_,rfl,uE.of (s9 _ _ zC.1),rfl,_,_,rfl,_,_,rfl,_,_,rfl,_,_,rfl,rfl,?_⟩
   refine⟨_,rfl,b,Hl,Hm,rfl,s9 _ _ hb8,hbw,_,rfl,_,rfl,_,rfl,b,_,r,rfl,D.W.w1.vi _ _ _ _ Jk.j s9,fun wA o1 xn zS=>?_⟩
   have em:bS (cq (bD n ps wy) (aq r))=nV (wl wy (aq r)):=by rw[jH,ebk]
   rw[em]
   have Dh:=(s9.trans xn).new (o := .lst (nV (wl wy (aq r)))) zS
   have Hn:(ar wA o1 (.lst (nV (wl wy (aq r))))) o1=some (.lst (nV (wl wy (aq r)))):=ac
   generalize ar wA o1 (.lst (nV (wl wy (aq r))))=xW at Dh Hn ⊢
   refine⟨fun v H'=>∃ o2,v = .ref o2/\uu xW H'/\H' o2=some (.lst (nV (wl wy (aq r)))),?_,?_⟩
   ·have Ho:=Jj.same D.W Dh
    have fin:∀ H' o,uu xW H'->H' o=none->∃ o2,V.ref o = .ref o2/\uu xW (ar H' o (.lst (bS (wy (aq r)))))/\(ar H' o (.lst (bS (wy (aq r))))) o2=some (.lst (nV (wl wy (aq r)))):=fun H' o s' ho=>⟨o,rfl,s'.new ho,ac⟩
    rcases Ho with h | h | h
    ·obtain⟨dy,fy,hy,hw⟩:=D.W.w1.inst _ _ _ h.j
     exact .inl ⟨_,rfl,y,dy,fy,rfl,hy,hw,_,rfl,_,rfl,_,rfl,y,wy,r,rfl,h.j,fin⟩
    ·obtain⟨dy,fy,hy,hw⟩:=D.W.w2.inst _ _ _ h.j
     exact .inr (.inl ⟨_,rfl,y,dy,fy,rfl,hy,hw,_,rfl,_,rfl,_,rfl,y,wy,r,rfl,h.j,fin⟩)
    ·obtain⟨dy,fy,hy,hw⟩:=D.W.w3.inst _ _ _ h.j
     exact .inr (.inr ⟨_,rfl,y,dy,fy,rfl,hy,hw,_,rfl,_,rfl,_,rfl,y,wy,r,rfl,h.j,fin⟩)
   rintro _ Cb ⟨o2,rfl,yJ,Jl⟩
   have ez:nV (wl wy (aq r))=(iz (wl wy (aq r))).map V.int:=fE _
   rw[ez]at Hn Jl
   refine⟨o1,o2,_,_,rfl,rfl,ux.of (yJ _ _ Hn),ux.of Jl,_,rfl,?_⟩
   rw[decide_eq_true rfl]
   exact aT ⟨_,_,_,_,Dh.trans yJ,rfl⟩
  rintro σ H9 ⟨a7,a8,a9,zB,s9,rfl⟩
  refine⟨_,rfl,b,bl,Hj,blt,n,Hk,ps,_,rfl, .inl (Jk.same D.W.w1 s9),hTb,wm,fun wA xn=>⟨_,rfl,rfl,_,rfl,?_⟩⟩
  rw[io hT,decide_eq_true rfl]
  refine be ⟨_,rfl,y,x,dx,lt,n,uz,ps,wy,rfl,Jj.same D.W (s9.trans xn),hT,wm,fun xW Dh=>⟨_,rfl,rfl,?_⟩⟩
  rw[decide_eq_true rfl]
  exact q xW
theorem len_of1 {α:Type}{P:List α->Prop}(h:∀ a0,P [a0]):∀ us:List α,us.length=1->P us
 | [a0],_=>h a0
theorem len_of2 {α:Type}{P:List α->Prop}(h:∀ a0 a1,P [a0,a1]):∀ us:List α,us.length=2->P us
 | [a0,a1],_=>h a0 a1
theorem len_of3 {α:Type}{P:List α->Prop}(h:∀ a0 a1 a2,P [a0,a1,a2]):∀ us:List α,us.length=3->P us
 | [a0,a1,a2],_=>h a0 a1 a2
theorem len_of4 {α:Type}{P:List α->Prop}(h:∀ a0 a1 a2 a3,P [a0,a1,a2,a3]):∀ us:List α,us.length=4->P us
 | [a0,a1,a2,a3],_=>h a0 a1 a2 a3
structure FT (K:Frag)(mg:Str->Option Value)(n:Str)(st:Stmt)(ps:List Str)(f:Addr)(fd:FuncData):Prop where
 F:uN K n n st f fd
 m:mg n=some (.ref f)
 k:keepIn K (.ref f)=true
 b:Binds K fd ps []
structure FM (K:Frag)(C:Addr)(n q:Str)(st:Stmt)(ps:List Str)(f:Addr)(fd:FuncData):Prop where
 F:uN K n q st f fd
 m:jT K C n f
 b:Binds K fd ps []
section
variable {K:Frag}{mg:Str->Option Value}{C f:Addr}{n q:Str}{st:Stmt}{ps:List Str}{h:Heap}{oc:Value}{od an:Option Addr}{xv:Array (Option Value)}{kV doc pm uF ct:Value}
theorem mkT (X:K.In h)(G:h.Ns mainGlobals mg)(hb:∀ (kV doc pm:Value) (an:Option Addr) (uF ct:Value) (us:List Value),us.length=ps.length->bindArgs (fnOf n n (cp st) (aL st) (ah st) .none kV doc pm an uF ct) ⟨us,[]⟩ = pure (ps.zip us))
  (a:nsIn K mainGlobals n=some (some (.ref f))) (l:K.lookup f=some ⟨oc,od, .func (fnOf n n (cp st) (aL st) (ah st) .none kV doc pm an uF ct),xv⟩) (c:codeIn K uF n=true) (k:keepIn K (.ref f)=true):∃ fd,FT K mg n st ps f fd :=
 ⟨_,iE l c k,mg_of X G a,k,(iE l c k).binds hb⟩
theorem mkM (hb:∀ (kV doc pm:Value) (an:Option Addr) (uF ct:Value) (us:List Value),us.length=ps.length->bindArgs (fnOf n q (cp st) (aL st) (ah st) .none kV doc pm an uF ct) ⟨us,[]⟩ = pure (ps.zip us))
  (a:findIn K (.ref C) n=some (some (.ref f))) (l:K.lookup f=some ⟨oc,od, .func (fnOf n q (cp st) (aL st) (ah st) .none kV doc pm an uF ct),xv⟩) (c:codeIn K uF q=true) (k:keepIn K (.ref f)=true) (i:isFn K (.ref f)=true):∃ fd,FM K C n q st ps f fd :=
 ⟨_,iE l c k,⟨a,i,k⟩,(iE l c k).binds hb⟩
end
section
variable {l:PySem.W.OpenLaw}{w:World}{K:Frag}{h:Heap}{mg:Str->Option Value}{fa cL cB cD cS f1 f2 f3 f4 f5 f6 f7 f8 f9 Jm C5 Jn Jo Jp Jq Di Dj Dk Jr Js Jt Ju Hq Jv Jw Jx Jy Dl Hr Dm Hs Jz Ht Ad Hu Dn Hv Dp Dq:Addr}{t1 t2 t3 t4:Tok}
theorem all_mk (X:K.In h)(G:h.Ns mainGlobals mg)(hfa:mg "law" = some (.ref fa))
  {Hw Cc:Option Addr} {Hx:Array (Option Value)} {Hy Cd Ce Cf zD Cg:Value}
  (gcL:nsIn K mainGlobals "Land" = some (some (.ref cL)))
  (gcB:nsIn K mainGlobals "Table" = some (some (.ref cB)))
  (gcD:nsIn K mainGlobals "Told" = some (some (.ref cD)))
  (gcS:nsIn K mainGlobals "Less" = some (some (.ref cS)))
  (h1:∃ d,FT K mg "has" qX ["some", "number"] f1 d)
  (h2:∃ d,FT K mg "members" p9 ["some"] f2 d)
  (h3:∃ d,FT K mg "set_of" sV ["numbers"] f3 d)
  (h4:∃ d,FT K mg "is_whole" ie ["value"] f4 d)
  (h5:∃ d,FT K mg "is_within" j5 ["value", "least", "most"] f5 d)
  (h6:∃ d,FT K mg "is_one_of" sW ["value", "numbers"] f6 d)
  (h7:∃ d,FT K mg "are_two_places" sT ["places", "one", "other"] f7 d)
  (h8:∃ d,FT K mg "row_fits" ki ["land", "row"] f8 d)
  (h9:∃ d,FT K mg "onward" EM ["table", "lane", "goal"] f9 d)
  (h10:∃ d,FT K mg "starts" j6 ["table"] Jm d)
  (h11:∃ d,FT K mg "lanes_alive" eK ["table", "out", "goal"] C5 d)
  (h12:∃ d,FT K mg "words_of" lV ["row"] Jn d)
  (h13:∃ d,FT K mg "number_of" fc ["word"] Jo d)
  (h14:∃ d,FT K mg "written" ib ["thing"] Jp d)
  (h15:∃ d,FT K mg "row_of" ij ["things"] Jq d)
  (h16:∃ d,FT K mg "way_rows" ig ["table", "place", "goal"] Di d)
  (h17:∃ d,FT K mg "table_rows" dJ ["table"] Dj d)
  (h18:∃ d,FT K mg "table_text" ii ["table"] Dk d)
  (h19:∃ d,FT K mg "rows_of" eZ ["text"] Jr d)
  (h20:∃ d,FT K mg "read_way" dL ["words"] Js d)
  (h21:∃ d,FT K mg "make_table" dM ["rows"] Jt d)
  (h22:∃ d,FT K mg "read_table" ik ["text"] Ju d)
  (h23:∃ d,FT K mg "_law_draw" pC ["_law_script", "_law_k"] Hq d)
  (h24:∃ d,FT K mg "_law_land" pA ["_law_script"] Jv d)
  (h25:∃ d,FT K mg "_law_some" kc ["_law_begin", "_law_draw_here"] Jw d)
  (h26:∃ d,FT K mg "_law_rows" iZ ["_law_script", "_law_places", "_law_lanes"] Jx d)
  (h27:∃ d,FT K mg "_law_table" pB ["_law_script", "_law_land_here", "_law_rows_here"] Jy d)
  (h28:∃ d,FT K mg "_law_text" lY ["_law_table_here", "_law_rows_here", "_law_places", "_law_lanes"] Dl d)
  (a29:nsIn K mainGlobals "law" = some (some (.ref Hr)))
  (l29:K.lookup Hr=some ⟨Hy,Hw, .func (fnOf "law" "law" (cp j7) (aL j7) (ah j7) .none Cd Ce Cf Cc zD Cg),Hx⟩)
  (c29:codeIn K zD "law" = true)
  (k29:keepIn K (.ref Hr)=true)
  (h30:∃ d,FM K cL "__init__" "Land.__init__" kg ["self", "places", "lanes"] Dm d)
  (h31:∃ d,FM K cL "end_of" "Land.end_of" sX ["self", "lane"] Hs d)
  (h32:∃ d,FM K cL "out_of" "Land.out_of" p8 ["self", "place"] Jz d)
  (h33:∃ d,FM K cL "into" "Land.into" ke ["self", "place"] Ht d)
  (h34:∃ d,FM K cB "__init__" "Table.__init__" sU ["self", "land"] Ad d)
  (h35:∃ d,FM K cB "ways" "Table.ways" p7 ["self", "place", "goal", "came"] Hu d)
  (h36:∃ d,FM K cD "__init__" "Told.__init__" p6 ["self", "land", "rows"] Dn d)
  (h37:∃ d,FM K cD "ways" "Told.ways" lW ["self", "place", "goal", "came"] Hv d)
  (h38:∃ d,FM K cS "__init__" "Less.__init__" ja ["self", "table", "out"] Dp d)
  (h39:∃ d,FM K cS "ways" "Less.ways" lX ["self", "place", "goal", "came"] Dq d)
  (mp:nsIn K mainGlobals "MOST_PLACES" = some (some (.int 12 t1)))
  (ml:nsIn K mainGlobals "MOST_LANES" = some (some (.int 40 t2)))
  (mq:nsIn K mainGlobals "MOST_FIGURES" = some (some (.int 60 t3)))
  (p1cL:plainGet K cL Str.empty=true)
  (p2cL:hasDictIn K cL=true)
  (p3cL:plainOver K cL=true)
  (p4cL:findIn K (.ref cL) "__setattr__" = some (some (.builtin "object.__setattr__")))
  (p5cL:makesIn K cL=true)
  (p6cL:keepIn K (.ref cL)=true)
  (ncLplaces:findIn K (.ref cL) "places" = some none)
  (ncLlanes:findIn K (.ref cL) "lanes" = some none)
  (p1cB:plainGet K cB Str.empty=true)
  (p2cB:hasDictIn K cB=true)
  (p3cB:plainOver K cB=true)
  (p4cB:findIn K (.ref cB) "__setattr__" = some (some (.builtin "object.__setattr__")))
  (p5cB:makesIn K cB=true)
  (p6cB:keepIn K (.ref cB)=true)
  (ncBland:findIn K (.ref cB) "land" = some none)
  (p1cD:plainGet K cD Str.empty=true)
  (p2cD:hasDictIn K cD=true)
  (p3cD:plainOver K cD=true)
  (p4cD:findIn K (.ref cD) "__setattr__" = some (some (.builtin "object.__setattr__")))
  (p5cD:makesIn K cD=true)
  (p6cD:keepIn K (.ref cD)=true)
  (ncDland:findIn K (.ref cD) "land" = some none)
  (ncDentries:findIn K (.ref cD) "entries" = some none)
  (p1cS:plainGet K cS Str.empty=true)
  (p2cS:hasDictIn K cS=true)
  (p3cS:plainOver K cS=true)
  (p4cS:findIn K (.ref cS) "__setattr__" = some (some (.builtin "object.__setattr__")))
  (p5cS:makesIn K cS=true)
  (p6cS:keepIn K (.ref cS)=true)
  (ncSland:findIn K (.ref cS) "land" = some none)
  (ncSentries:findIn K (.ref cS) "entries" = some none)
  (ncScut:findIn K (.ref cS) "cut" = some none)
  (mf:nsIn K mainGlobals "FIGURES" = some (some (.str (Str.ofString "0123456789") t4)))
  (w1cB:PySem.W.readsIn K cB (.type "type")=true)
  (w2cB:PySem.W.findCls K (.ref cB) (.type "type") "__init__" = some (.val (.ref Ad)))
  (w3cB:PySem.W.specialIn K (.ref cB) "__getattribute__" = some (some (.builtin "type.__getattribute__")))
  (kk1:kitOne K (.type "str") (.type "str")=some true)
  (kk2:kitOne K (.ref cD) (.ref cD)=some true)
  (kk3:findIn K (.ref cD) "__class__" = some (some (.builtin "object.__class__")))
  (kk4:PySem.W.specialIn K (.builtin "object.__class__") "__get__" = some (some (.builtin "getset_descriptor.__get__")))
  (kk5:PySem.W.takesIn K (.builtin "object.__class__")=some true)
  (kk6:PySem.W.mroIn K cD (.type "object")=some true)
  (z0:nsIn K mainGlobals "isinstance" = some none)
  (z1:nsIn K mainGlobals "int" = some none)
  (z2:nsIn K mainGlobals "bool" = some none)
  (z3:nsIn K mainGlobals "len" = some none)
  (z4:nsIn K mainGlobals "enumerate" = some none)
  (z5:nsIn K mainGlobals "tuple" = some none)
  (z6:nsIn K mainGlobals "range" = some none)
  (z7:nsIn K mainGlobals "list" = some none)
  (z8:nsIn K mainGlobals "str" = some none)
  (z9:nsIn K mainGlobals "all" = some none)
  (z10:nsIn K mainGlobals "max" = some none)
  (z11:nsIn K mainGlobals "sorted" = some none)
  : ∃ fd:FuncData,(∀ (s:Shared)(v:Value),BindsTo s fd ⟨[v],[]⟩ [("_law_script",v)])/\∀ base:Heap,K.In base->base.Ns mainGlobals mg->Z l.prog w K mg base aD 9 fa fd ["_law_script"] (ng K):=by
 have e:=hfa.symm.trans (mg_of X G a29)
 cases e
 have T:Txt mg:=⟨mg_none_of X G z0,mg_none_of X G z1,mg_none_of X G z2,mg_none_of X G z3,mg_none_of X G z4,mg_none_of X G z5,mg_none_of X G z6,mg_none_of X G z7,mg_none_of X G z8,mg_none_of X G z9,mg_none_of X G z10,mg_none_of X G z11⟩
 obtain⟨d1,H1⟩:=h1
 obtain⟨d2,H2⟩:=h2
 obtain⟨d3,H3⟩:=h3
 obtain⟨d4,H4⟩:=h4
 obtain⟨d5,H5⟩:=h5
 obtain⟨d6,H6⟩:=h6
 obtain⟨d7,H7⟩:=h7
 obtain⟨d8,H8⟩:=h8
 obtain⟨d9,H9⟩:=h9
 obtain⟨d10,wA⟩:=h10
 obtain⟨d11,xW⟩:=h11
 obtain⟨d12,Cb⟩:=h12
 obtain⟨d13,zE⟩:=h13
 obtain⟨d14,Dr⟩:=h14
 obtain⟨d15,vV⟩:=h15
 obtain⟨d16,xq⟩:=h16
 obtain⟨d17,xr⟩:=h17
 obtain⟨d18,yy⟩:=h18
 obtain⟨d19,Ds⟩:=h19
 obtain⟨d20,Dt⟩:=h20
 obtain⟨d21,Du⟩:=h21
 obtain⟨d22,Dv⟩:=h22
 obtain⟨d23,xX⟩:=h23
 obtain⟨d24,Dw⟩:=h24
 obtain⟨d25,Dx⟩:=h25
 obtain⟨d26,Dy⟩:=h26
 obtain⟨d27,Dz⟩:=h27
 obtain⟨d28,Ae⟩:=h28
 obtain⟨d30,D3⟩:=h30
 obtain⟨d31,Hz⟩:=h31
 obtain⟨d32,HA⟩:=h32
 obtain⟨d33,yz⟩:=h33
 obtain⟨d34,Af⟩:=h34
 obtain⟨d35,HB⟩:=h35
 obtain⟨d36,D5⟩:=h36
 obtain⟨d37,HC⟩:=h37
 obtain⟨d38,D7⟩:=h38
 obtain⟨d39,HD⟩:=h39
 have F29:=iE (st:=j7) l29 c29 k29
 have L:oU K ⟨cL⟩:=⟨⟨p1cL,p2cL,p3cL,p4cL⟩,ncLplaces,ncLlanes⟩
 have B:C7 K mg ⟨cB,cD⟩ Ad _:=⟨⟨p1cB,p2cB,p3cB,p4cB⟩,ncBland,⟨p1cD,p2cD,p3cD,p4cD⟩,ncDland,ncDentries,(mg_of X G gcB),⟨w1cB,w2cB,w3cB,Af.m.kp⟩,Af.b⟩
 have M:up K ⟨cL⟩ Jz Ht _ _:=⟨HA.m,yz.m,HA.b,yz.b⟩
 have ME:ur K ⟨cL⟩ Hs _:=⟨Hz.m,Hz.b⟩
 have Mi:Mk K cL Dm:=⟨p5cL,D3.m.at_,D3.m.fn,p6cL⟩
 have Mt:Mk K cD Dn:=⟨p5cD,D5.m.at_,D5.m.fn,p6cD⟩
 have Mb:Mk K cB Ad:=⟨p5cB,Af.m.at_,Af.m.fn,p6cB⟩
 have Ms:Mk K cS Dp:=⟨p5cS,D7.m.at_,D7.m.fn,p6cS⟩
 refine⟨fnOf "law" "law" (cp j7) (aL j7) (ah j7) .none Cd Ce Cf Cc zD Cg,fun s v => .of_eq rfl,fun base _ _=>?_⟩
 have W1:lE K cD Hv _ (aX l.prog w ⟨cB,cD⟩):=⟨B.cd,HC.m,HC.b,fun H x wy uw=>by obtain⟨dx,de,lv,uv,h1,_⟩:=uw;exact⟨dx,_,h1,rfl⟩,fun H H' x wy ⟨dx,de,lv,uv,h1,h2,h3⟩ s=>⟨dx,de,lv,uv,s _ _ h1,h2.same s,h3⟩⟩
 have W2:lE K cB Hu _ (dG ⟨cB,cD⟩):=⟨B.ct,HB.m,HB.b,fun H x wy uw=>by obtain⟨dx,lv,h1,_⟩:=uw;exact⟨dx,_,h1,rfl⟩,fun H H' x wy ⟨dx,lv,h1,h2⟩ s=>⟨dx,lv,s _ _ h1,h2⟩⟩
 have Lc:FD K cS Dq _:=⟨⟨p1cS,p2cS,p3cS,p4cS⟩,ncSland,ncSentries,ncScut,HD.m,HD.b⟩
 have W3:lE K cS Dq _ (cf l.prog w cS):=⟨Lc.cl,Lc.m,Lc.b,(fun H x wy uw=>by obtain⟨dx,de,fs,uv,h1,e1,e2,h2,h3⟩:=uw;exact⟨dx,fs,h1,e2⟩),(fun H H' x wy ⟨dx,de,fs,uv,h1,e1,e2,h2,h3⟩ s=>⟨dx,de,fs,uv,s _ _ h1,e1,e2,h2.same s,h3⟩)⟩
 have Gm:Z l.prog w K mg base aD 2 f2 _ _ na:=tL H2.F T H1.m H1.F H1.b
 have Gw:Z l.prog w K mg base aD 2 f5 _ _ eX:=o8 H5.F T H4.m H4.F H4.b
 have G2:Z l.prog w K mg base aD 3 f7 _ _ mX:=tG H7.F H5.m H5.k H5.b Gw
 have Gi:Z l.prog w K mg base aD 4 Dm _ _ (j1 K ⟨cL⟩):=r8 D3.F T L H5.m H5.k H5.b Gw H7.m H7.k H7.b G2 (mg_of X G mp) (mg_of X G ml)
 have Go:Z l.prog w K mg base aD 2 f6 _ _ (pj K):=tK H6.F T H4.m H4.F H4.b
 have Ci:Z l.prog w K mg base aD 1 Ht _ _ (lS ⟨cL⟩ Prod.snd):=r6 yz.F T L
 have Gf:Z l.prog w K mg base aD 4 f8 _ _ (lT ⟨cL⟩):=r9 H8.F T L M H7.m H7.k H7.b G2 H6.m H6.k H6.b Go (tJ HA.F T L) Ci
 have G1:Z l.prog w K mg base aD 1 Ad _ _ (jZ K):=tH Af.F
 have J0:Z l.prog w K mg base aD 1 f3 _ _ (mZ K):=tI H3.F
 have Gt:Z l.prog w K mg base aD 5 Dn _ _ (jz l.prog w K ⟨cL⟩ ⟨cB,cD⟩):=rj D5.F T B G1 H8.m H8.k H8.b Gf H3.m H3.k H3.b J0
 have Ge:Z l.prog w K mg base aD 1 Hs _ _ (qS ⟨cL⟩ Prod.snd):=tN Hz.F L
 have Ag:Z l.prog w K mg base aD 3 Hv _ _ (bU (aX l.prog w ⟨cB,cD⟩)):=om (pQ HC.F B H2.m H2.k H2.b Gm)
 have HE:Z l.prog w K mg base aD 3 Hu _ _ (bU (dG ⟨cB,cD⟩)):=pf (rk HB.F)
 have D8:Z l.prog w K mg base aD 3 Dq _ _ (bU (cf l.prog w cS)):=pT HD.F Lc H2.m H2.k H2.b Gm
 have Gon:Z l.prog w K mg base aD 4 f9 _ _ (sQ ⟨cL⟩ cD (aX l.prog w ⟨cB,cD⟩)):=Bu H9.F L W1 ncDland Ag ME Ge
 have FK:Z l.prog w K mg base aD 4 Jm _ _ (hG ⟨cL⟩ cD (aX l.prog w ⟨cB,cD⟩)):=o9 wA.F T L W1 ncDland Ag
 have XH:B1 l.prog w K mg base f1 _:=⟨H1.m,H1.k,H1.b,pU H1.F⟩
 have Gal:Z l.prog w K mg base aD 5 C5 _ _ (j2 ⟨cL⟩ cD (aX l.prog w ⟨cB,cD⟩)):=pW xW.F T L W1 ncDland ME Ge XH H9.m H9.k H9.b Gon
 have Gls:Z l.prog w K mg base aD 6 Dp _ _ (lP l.prog w ⟨cL⟩ cD cS (aX l.prog w ⟨cB,cD⟩)):=rq D7.F T L B G1 W1 lL ncDland Ag M Ci Lc D8 xW.m xW.k xW.b Gal H3.m H3.k H3.b J0 wA.m wA.k wA.b FK
 have Gwo:Z l.prog w K mg base aD 1 Jn _ _ jx:=pP Cb.F
 have J4:Z l.prog w K mg base aD 1 Jo _ _ eY:=oB zE.F T (mg_of X G mf) (mg_of X G mq)
 have Gwr:Z l.prog w K mg base aD 1 Jp _ _ fP:=m7 Dr.F T
 have Ah:Z l.prog w K mg base aD 2 Jq _ _ (gw K):=pR vV.F Dr.m Dr.k Dr.b Gwr
 have Gy1:Z l.prog w K mg base aD 4 Di _ _ (cQ ⟨cL⟩ cD (aX l.prog w ⟨cB,cD⟩)):=eN xq.F T L W1 ncDland Ag yz.m yz.b Ci vV.m vV.k vV.b Ah
 have Gr1:Z l.prog w K mg base aD 5 Dj _ _ (cR ⟨cL⟩ cD (aX l.prog w ⟨cB,cD⟩)):=eP xr.F T L W1 ncDland vV.m vV.k vV.b Ah xq.m xq.k xq.b Gy1
 have J5:Z l.prog w K mg base aD 6 Dk _ _ (bM ⟨cL⟩ cD (aX l.prog w ⟨cB,cD⟩)):=eO yy.F xr.m xr.k xr.b Gr1
 have Gz1:Z l.prog w K mg base aD 4 Dl _ _ (dj ⟨cL⟩ cD (aX l.prog w ⟨cB,cD⟩)):=i4 Ae.F T W1 Ag
 have Gy2:Z l.prog w K mg base aD 4 Di _ _ (cQ ⟨cL⟩ cB (dG ⟨cB,cD⟩)):=eN xq.F T L W2 ncBland HE yz.m yz.b Ci vV.m vV.k vV.b Ah
 have Gr2:Z l.prog w K mg base aD 5 Dj _ _ (cR ⟨cL⟩ cB (dG ⟨cB,cD⟩)):=eP xr.F T L W2 ncBland vV.m vV.k vV.b Ah xq.m xq.k xq.b Gy2
 have Gx2:Z l.prog w K mg base aD 6 Dk _ _ (bM ⟨cL⟩ cB (dG ⟨cB,cD⟩)):=eO yy.F xr.m xr.k xr.b Gr2
 have Gz2:Z l.prog w K mg base aD 4 Dl _ _ (dj ⟨cL⟩ cB (dG ⟨cB,cD⟩)):=i4 Ae.F T W2 HE
 have Gy3:Z l.prog w K mg base aD 4 Di _ _ (cQ ⟨cL⟩ cS (cf l.prog w cS)):=eN xq.F T L W3 ncSland D8 yz.m yz.b Ci vV.m vV.k vV.b Ah
 have Gr3:Z l.prog w K mg base aD 5 Dj _ _ (cR ⟨cL⟩ cS (cf l.prog w cS)):=eP xr.F T L W3 ncSland vV.m vV.k vV.b Ah xq.m xq.k xq.b Gy3
 have Gx3:Z l.prog w K mg base aD 6 Dk _ _ (bM ⟨cL⟩ cS (cf l.prog w cS)):=eO yy.F xr.m xr.k xr.b Gr3
 have Gz3:Z l.prog w K mg base aD 4 Dl _ _ (dj ⟨cL⟩ cS (cf l.prog w cS)):=i4 Ae.F T W3 D8
 have Grf:Z l.prog w K mg base aD 2 Jr _ _ hV:=oA Ds.F T kk1 Cb.m Cb.k Cb.b Gwo
 have Grw:Z l.prog w K mg base aD 2 Js _ _ fQ:=m8 Dt.F zE.m zE.k zE.b J4
 have MS:Dc l.prog w K mg base ⟨cL⟩ ⟨cB,cD⟩ Dm Dn _ _:=⟨(mg_of X G gcL),Mi,D3.b,Gi,(mg_of X G gcD),Mt,D5.b,Gt⟩
 have MT:Jd l.prog w K mg base ⟨cL⟩ ⟨cB,cD⟩ cS Ad Dp _ _:=⟨(mg_of X G gcB),Mb,Af.b,G1,B.ct,B.nt,(mg_of X G gcS),Ms,D7.b,Gls⟩
 have Gmt:Z l.prog w K mg base aD 7 Jt _ _ (j0 l.prog w ⟨cL⟩ ⟨cB,cD⟩):=pS Du.F T MS zE.m zE.k zE.b J4 Dt.m Dt.k Dt.b Grw
 have Grt:Z l.prog w K mg base aD 8 Ju _ _ (fR l.prog w ⟨cL⟩ ⟨cB,cD⟩):=m9 Dv.F W1 Ds.m Ds.k Ds.b Grf Du.m Du.k Du.b Gmt yy.m yy.k yy.b J5
 have Gd:Z l.prog w K mg base aD 1 Hq _ _ (gx K):=pV xX.F T
 have Gd0:Z l.prog w K mg base aD 1 Hq _ _ (pq K):=Gd.imp fun vs H Q E uw=>by obtain⟨a,ns,k,e,h,h0,h1,q⟩:=uw;exact⟨a,ns,k,e,h,h0,h1,fun d H' s _=>q d H' s⟩
 have Gld:Z l.prog w K mg base aD 2 Jv _ _ (lQ K):=r0 Dw.F T xX.m xX.k xX.b Gd
 have Gso:Z l.prog w K mg base aD 1 Jw _ _ lN:=rm Dx.F T
 have Grs:Z l.prog w K mg base aD 2 Jx _ _ (lO K):=rn Dy.F T xX.m xX.k xX.b Gd0 Dx.m Dx.k Dx.b Gso
 have Glt:Z l.prog w K mg base aD 8 Jy _ _ (lR l.prog w K ⟨cL⟩ ⟨cB,cD⟩ cS):=ro Dz.F W1 MS MT xX.m xX.k xX.b Gd
 exact tM (c:=⟨cL⟩) (ts:=⟨cB,cD⟩) (LC:=cS) F29 T L MS ⟨Dw.m,Dw.k,Dw.b,Gld,Dy.m,Dy.k,Dy.b,Grs,Dz.m,Dz.k,Dz.b,Glt,yy.m,yy.k,yy.b,qD J5 Gx2 Gx3,Ae.m,Ae.k,Ae.b,oT Gz1 Gz2 Gz3,Dv.m,Dv.k,Dv.b,Grt,⟨W1,W2,W3⟩,Ag,HE,D8,⟨kk1,kk2,kk3,kk4,kk5,kk6⟩,ncDland⟩
end
theorem walk {l:PySem.W.OpenLaw}{q:Program}{loose:List Str}{XP:(Str->Option Value)->Heap->Prop}{YP:World->Heap->Prop}{d:DefRec}{K:Params->Frag}(hn:l.most=some 63)(AM:d.params.defaults=[])
  (hY:∀ (w:World)(h:Heap),YP w h->(K w.params).In h)
  (F:∀ (w:World)(mg:Str->Option Value)(fa:Addr)(h:Heap),(K w.params).In h->h.Ns mainGlobals mg->mg d.name=some (.ref fa) ->
   ∃ fd:FuncData,(∀ (s:Shared)(u:Value),BindsTo s fd ⟨[u],[]⟩ [("_law_script",u)])/\∀ base:Heap,(K w.params).In base->base.Ns mainGlobals mg->Z l.prog w (K w.params) mg base aD 9 fa fd ["_law_script"] (ng (K w.params))) :
  PySem.W.WalkO q loose XP YP l.row.toRowW d [] (fun f vs=>PySem.call f vs) :=
 L2.yc (n:=63) (k:=9) (x := "_law_script") (CX:=fun _=>aD) (sp:=fun w=>ng (K w.params)) hn (by decide) AM ⟨rfl,by decide,by decide⟩ hY F (fun _ _ a ns hl _ hS=>⟨a,ns,rfl,hS,hl,fun _=>rfl⟩) fun _ _ _ _ _ z=>z
end K80
local macro_rules | `(tactic| symm_saturate) => `(tactic| first | (refine' K80.mkT (by assumption) (by assumption) ?b ?a ?l ?c ?k; (case b => first | exact fun _ _ _ _ _ _ => K80.len_of1 (fun _ => rfl) | exact fun _ _ _ _ _ _ => K80.len_of2 (fun _ _ => rfl) | exact fun _ _ _ _ _ _ => K80.len_of3 (fun _ _ _ => rfl) | exact fun _ _ _ _ _ _ => K80.len_of4 (fun _ _ _ _ => rfl)); (case a => k_is); (case l => k_is); (case c => k_is); (case k => k_is)) | (refine' K80.mkM ?b ?a ?l ?c ?k ?i; (case b => first | exact fun _ _ _ _ _ _ => K80.len_of1 (fun _ => rfl) | exact fun _ _ _ _ _ _ => K80.len_of2 (fun _ _ => rfl) | exact fun _ _ _ _ _ _ => K80.len_of3 (fun _ _ _ => rfl) | exact fun _ _ _ _ _ _ => K80.len_of4 (fun _ _ _ _ => rfl)); (case a => k_is); (case l => k_is); (case c => k_is); (case k => k_is); (case i => k_is)))
structure PySem.W.Fast:Prop where
 (tw14334037294462592850 tw7948996389716416900 tw12605430303674898425 tw4491839107101701182 tw3883770619761783397 tw7426726014531564594 tw5174961583704782142 tw13418050263084013097 tw2007074875733184584 tw11167027475413152676 tw2685968850343875670 tw11683396921961467039 tw17899819491010890050 tw7001857367589143291 tw12868778296845466301 tw8003180983844110070 tw4819212679349395801 tw16854585769376781583 tw11218585164749825824 tw352471050889753087 tw5867024823111385660 tw12440035165903358062 tw8662306100902298177 tw5024064941374781898 tw11757375959969247507 tw9421670053284886817 tw6518937952534761265 tw18263438747964107673 tw1313250515372079227 tw12517410752269019365 tw2896866731444828547 tw1541371257418295138 tw16035993453102373214 tw12100092146238840589 tw10684599633607760550 tw3461339331856603703 tw16743680350550742850 tw7766873042470130828 tw16778774138732556762 tw4535981718179056083 tw15465326579145708809 tw6036095389919896317 tw12759997440249345433 tw2778590604801026898 tw16948906264064782620 tw11059713186235298190 tw17597689523739934404 tw9358459086381465221 tw11821427933999406109 tw11074104240703288548 tw17174629291488798215 tw9111817278867321576 tw15207801757719579898 tw13859535581065848623 tw644350467497110248 tw10627046684889237728 tw13356937395286063108 tw14763575894016249719 tw17537597602749651720 tw3250815555210102752 tw1987658813366227707 tw7792578158342259129 tw9317053008891217404 tw1792199102307476233 tw17615148744744838608 tw14353206212842082553 tw6811755970991501564 tw53491923800529211 tw7691785589077800243 tw1796258339000354656 tw12896737664749468230 tw5329132300445088647 tw8309340172435020400 tw6282077343749542407 tw4806004491855503108 tw761251086149359391 tw17162833379371249806 tw3252722603332468756 tw1190131955965127705 tw18084030557264310672 tw3025408169277080686 tw14391406434728437146 tw12747065857320762720 tw15207306004631629663 tw8081326421892166924 tw9213307190776883684 tw3280130961961131201 tw13446065739464071440 tw4116549507738065512 tw2733013324104915490 tw18224951949158505882 tw7072815322413370579 tw5773149621795898700 tw13315721857980597921 tw17045457887079662758 tw13802431168747818823 tw16768799183307754361 tw14853721685297586648 tw2573260659144695235 tw16314188606464067354 tw11177814796947670385 tw2509842726184886704 tw2020007250906888837 tw16619787747242552673 tw12185264835804093735 tw12866756343709705080 tw3166648201049812358 tw15962438665936840303 tw12622957629889066393 tw12500943907695506011 tw11182223522275631288 tw338276904021370716 tw7114104376673828748 tw10704350069099347313 tw13135529160009439160 tw1196544178487374827 tw1301223457559139211 tw15396370023403655960 tw7096759273630643504 tw11338896702990955156 tw3713903872865274112 tw3447739963779332445 tw935172113914736921 tw5534675636577907573 tw6390517575443644904 tw11886293091365520744 tw10529606136500014427 tw8364902307142770117 tw4513774876578175433 tw17921997909199997359 tw1419107000186717805 tw10955731133518024031 tw10917090698544327782 tw13268229547279831669 tw4881309755396742280 tw15776879556689033035 tw2988971335605295488 tw6846334886995532353 tw14845310668087707460 tw684565950095753376 tw17336319534675624720 tw7337690973386023702 tw13658567217311371343 tw10800204983315076426 tw11011525844542599988 tw1269960970040515162 tw3652622792456736840 tw17612902169738607274 tw4182598613147793625 tw10118417227308300060 tw17401827263314104251 tw771513920864681573 tw12120104282971283734 tw12065634845245122591 tw9832115214495152657 tw16762274578180452525 tw18318607070608280272 tw16251148614454967169 tw2385884280402666912 tw1309436109040618143 tw11987875427245505479 tw12992708030095592697 tw15631626447395300273 tw15315474183820228266 tw5406224262936375823 tw6631422743326587924 tw12262390301290405647 tw956169468880401346 tw4587086887313107518 tw5924332214653365529 tw15640472654378419391 tw2376085009459609031 tw6566108788925810103 tw14434248085172912576 tw6205565118545473157 tw1589369658241944491 tw5820087794488525937 tw10896491855171560724 tw18353999542487249722 tw16810786365459686266 tw2955205836672315334 tw13960221405104038231 tw18299052232293588101 tw13153046947932669678 tw9562447414425857285 tw10925624373683434498 tw2695042561942418415 tw6225957031586412769 tw3282090681769392503 tw15210503603228264054 tw12475924988753230981 tw14733829139812833481 tw14187766963417982198 tw4559634070437690149 tw18312175358095703301 tw12943953506248280565 tw13092136272787142953 tw17841039590421608478 tw10711435624778305884 tw10071380998584580670 tw11270031391892646244 tw17468151693274057967 tw18301797126017648036 tw2849616287886382188 tw9897948522447225835 tw12247879434287172406 tw7258653354074415735 tw10122106580931617202 tw12190321606597784648 tw8203921725599873664 tw5732326121269535099 tw112999902667044296 tw7784944394790539934 tw5223742632368824159 tw2795420607008263547 tw16916622776575295043 tw3959293689515957466 tw1333673234908138214 tw11390318908847544332 tw11118719482766254182 tw12740843356568820545 tw11082031953694716731 tw338783634523253264 tw2869530692700399652 tw11258554018856426066 tw7703510112530732933 tw2205544775693672589 tw8265136854932124515 tw7839278033628541918 tw8079880125333877745 tw7769791273350564197 tw6799767914729058343 tw15318275797553955353 tw18230800824015633043 tw3360933011558108652 tw1057871880346952525 tw11920955157187267391 tw5894354218292832668 tw293472724004143413 tw8202708047289966758 tw16086692645216506970 tw6146093266167795741 tw7811234996838200021 tw1671275962831316249 tw14722051416017917375 tw18096749315421126005 tw13091345086638946690 tw1174086738971466094 tw11694875701109141347 tw605055952021483309 tw14106476953193034459 tw1358479277556767140 tw7421941091061668063 tw5754036703629304182 tw523778690579116706 tw17205167395863367704 tw16115831328650544799 tw10194059876789634584 tw1026033886672538192 tw14235265464728654643 tw16172150323272669445 tw14462836453263970604 tw9616265447855140201 tw4009384642415061732 tw16918671584707877144 tw2175840229485198212 tw5207313131539282641 tw2966309059243606862 tw4129033427934782755 tw6136751915744562983 tw11436313361441260447 tw11117779176840551963 tw9670178530647928086 tw8459612306590067015 tw11885928854462544316 tw10610820549026344249 tw768556293926621163 tw18323344421374118588 tw4814366481820837040 tw6631426038089755490 tw9991573518457295960 tw8681815083896471370 tw6306878572071181174 tw6222793477082603329 tw6171583169813648859 tw3967347838845968199 tw2229831887722941023 tw17633446494279517399 tw13575331777411214337 tw11087704033853881297 tw9483313886465616676 tw7731263499612574002 tw7425992516534546174 tw6061030499347383401 tw5710233749287732597 tw4100412540195328825 tw3428559667205256090 tw15883932530192020009 tw15172745653276460136 tw12177102834362181128 tw1911640930839682308 tw5092082974946211554 tw3753655556060073434 tw17734472007960864031 tw17147399963698726995 tw12794641088255547906 tw12603875596434320273 tw10563093543819992122 tw9056195252506454646 tw8890645412243203385 tw4830989963128031641 tw18152715690236267890 tw17743179675953124276 tw16663701270970457553 tw15123738377505085548 tw14194203390592329664 tw1309575378544349886 tw12155665762689283579 tw9775886471221847673 tw9553373307539523928 tw9518917295635453007 tw9420463043804041062 tw939299348000910376 tw9321673758651705952 tw9258475729470689268 tw9234283535604869394 tw9167216729583268378 tw9122479974436046364 tw8703282976284629312 tw8699842447461715454 tw8693926832192472733 tw847349940774244767 tw8329713643165556764 tw8179629289243734793 tw8153646181127321996 tw8066749659939120443 tw7637407181606183112 tw7454783831885933460 tw7117909687761767096 tw6946498733566762553 tw6491355199545827978 tw6326457601999032952 tw630693543599185263 tw6125773087986020190 tw6074688470887709676 tw5995951308092351941 tw569170712139517273 tw5545804116705459559 tw5306368068087710776 tw5195040585350729652 tw5184586704329134841 tw5112224212848264442 tw4912262872719798239 tw4682745467450645001 tw4467772556054325139 tw4239940484204464875 tw399317599403410964 tw3949215446712616442 tw3781765373420046633 tw3688340209929724523 tw3592108237714260567 tw3573511815114772154 tw3504902389484653272 tw3416968535644592834 tw2974908794645293097 tw2512269377707555944 tw2093830369938396142 tw2077049525413968452 tw2064300076028643639 tw2054468300626339024 tw1962704288157097651 tw17801173794866707709 tw17324899437511706023 tw17247435011285535845 tw16525436996443309381 tw16383894506835048351 tw15593017622937487678 tw15589892514174585366 tw15121634114049227754 tw14880375525311790570 tw14583083848088167850 tw14420710377671446769 tw14271345254701434335 tw1415019194458824027 tw13946080853955252573 tw13583464714021007457 tw13362563937880949754 tw13328373435448629188 tw13224898871034206019 tw13052515348353161612 tw13022470849514375874 tw12776716840965551614 tw12771107280513006288 tw12635947422010512861 tw12612672167067152184 tw12153307941427815219 tw12032290040096554989 tw12002623296574257887 tw11982408382699943252 tw1158847146910909056 tw11514913959111936614 tw11317436576000749426 tw11118505880259811641 tw10806072829688345611 tw10711176747730330917 tw10232776148418727262 tw10225065297736582576 tw10175421944397390461 tw10074238811006958684:True)
open PySem PySem.W PyProof.Rows
set_option maxRecDepth 100000 in
set_option maxHeartbeats 0 in
theorem PySem.Challenge.cw_wormyard_k80_tables_shown_holds : PySem.Challenge.rw_wormyard_k80_tables_shown.Holds := by
 w_on;o_law;k_head; (case hw=>w_witness2)
 k_fill
 refine K80.walk (l:=PySem.Challenge.rw_wormyard_k80_tables_shown) rfl rfl (fun w h Y=>PySem.W.kIn_of Y) ?F
 case F =>
  intro w mg fa h KX G hmg
  refine' K80.all_mk KX G hmg ?gcL ?gcB ?gcD ?gcS ?h1 ?h2 ?h3 ?h4 ?h5 ?h6 ?h7 ?h8 ?h9 ?h10 ?h11 ?h12 ?h13 ?h14 ?h15 ?h16 ?h17 ?h18 ?h19 ?h20 ?h21 ?h22 ?h23 ?h24 ?h25 ?h26 ?h27 ?h28 ?a29 ?l29 ?c29 ?k29 ?h30 ?h31 ?h32 ?h33 ?h34 ?h35 ?h36 ?h37 ?h38 ?h39 ?mp ?ml ?mq ?p1cL ?p2cL ?p3cL ?p4cL ?p5cL ?p6cL ?ncLplaces ?ncLlanes ?p1cB ?p2cB ?p3cB ?p4cB ?p5cB ?p6cB ?ncBland ?p1cD ?p2cD ?p3cD ?p4cD ?p5cD ?p6cD ?ncDland ?ncDentries ?p1cS ?p2cS ?p3cS ?p4cS ?p5cS ?p6cS ?ncSland ?ncSentries ?ncScut ?mf ?w1cB ?w2cB ?w3cB ?kk1 ?kk2 ?kk3 ?kk4 ?kk5 ?kk6 ?z0 ?z1 ?z2 ?z3 ?z4 ?z5 ?z6 ?z7 ?z8 ?z9 ?z10 ?z11
  (case gcL=>k_is)
  (case gcB=>k_is)
  (case gcD=>k_is)
  (case gcS=>k_is)
  (case h1=>symm_saturate)
  (case h2=>symm_saturate)
  (case h3=>symm_saturate)
  (case h4=>symm_saturate)
  (case h5=>symm_saturate)
  (case h6=>symm_saturate)
  (case h7=>symm_saturate)
  (case h8=>symm_saturate)
  (case h9=>symm_saturate)
  (case h10=>symm_saturate)
  (case h11=>symm_saturate)
  (case h12=>symm_saturate)
  (case h13=>symm_saturate)
  (case h14=>symm_saturate)
  (case h15=>symm_saturate)
  (case h16=>symm_saturate)
  (case h17=>symm_saturate)
  (case h18=>symm_saturate)
  (case h19=>symm_saturate)
  (case h20=>symm_saturate)
  (case h21=>symm_saturate)
  (case h22=>symm_saturate)
  (case h23=>symm_saturate)
  (case h24=>symm_saturate)
  (case h25=>symm_saturate)
  (case h26=>symm_saturate)
  (case h27=>symm_saturate)
  (case h28=>symm_saturate)
  (case a29=>k_is)
  (case l29=>k_is)
  (case c29=>k_is)
  (case k29=>k_is)
  (case h30=>symm_saturate)
  (case h31=>symm_saturate)
  (case h32=>symm_saturate)
  (case h33=>symm_saturate)
  (case h34=>symm_saturate)
  (case h35=>symm_saturate)
  (case h36=>symm_saturate)
  (case h37=>symm_saturate)
  (case h38=>symm_saturate)
  (case h39=>symm_saturate)
  (case mp=>k_is)
  (case ml=>k_is)
  (case mq=>k_is)
  (case p1cL=>k_is)
  (case p2cL=>k_is)
  (case p3cL=>k_is)
  (case p4cL=>k_is)
  (case p5cL=>k_is)
  (case p6cL=>k_is)
  (case ncLplaces=>k_is)
  (case ncLlanes=>k_is)
  (case p1cB=>k_is)
  (case p2cB=>k_is)
  (case p3cB=>k_is)
  (case p4cB=>k_is)
  (case p5cB=>k_is)
  (case p6cB=>k_is)
  (case ncBland=>k_is)
  (case p1cD=>k_is)
  (case p2cD=>k_is)
  (case p3cD=>k_is)
  (case p4cD=>k_is)
  (case p5cD=>k_is)
  (case p6cD=>k_is)
  (case ncDland=>k_is)
  (case ncDentries=>k_is)
  (case p1cS=>k_is)
  (case p2cS=>k_is)
  (case p3cS=>k_is)
  (case p4cS=>k_is)
  (case p5cS=>k_is)
  (case p6cS=>k_is)
  (case ncSland=>k_is)
  (case ncSentries=>k_is)
  (case ncScut=>k_is)
  (case mf=>k_is)
  (case w1cB=>first | k_is | kernel_rfl)
  (case w2cB=>first | k_is | kernel_rfl)
  (case w3cB=>first | k_is | kernel_rfl)
  (case kk1=>kit_is)
  (case kk2=>kit_is)
  (case kk3=>k_is)
  (case kk4=>k_is)
  (case kk5=>k_is)
  (case kk6=>first | k_is | kernel_rfl)
  (case z0=>k_is)
  (case z1=>k_is)
  (case z2=>k_is)
  (case z3=>k_is)
  (case z4=>k_is)
  (case z5=>k_is)
  (case z6=>k_is)
  (case z7=>k_is)
  (case z8=>k_is)
  (case z9=>k_is)
  (case z10=>k_is)
  (case z11=>k_is)
